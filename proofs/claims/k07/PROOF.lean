import PyProof.Rows.All
import Wide.All
import OpenK.AllK
import Wide.FinOn
import KE.KExcTry
import KE.KExcStr
import HandS.ExcInit
import KE.KExcIs
import HandS.ForMost
import HandS.ExcIs
import HandS.ExcOwn
import HandS.ExcValue
import HandS.IsInst
import HandS.More
import PyProof.NeKinds
import KE.IntTextLaws
import KE.GoesEnumKw
import HandS.OwnEq
import HandS.ClsMeth
import HandS.Defaults
import PyProof.StrLawsChain
import HandS.ExcField
import HandS.WordsExc
import HandS.TryMany
import HandS.CallSlots
import HandS.Walk
import HandS.EndTab
import PyProof.ReprRoads
import HandS.TupMul
import PyProof.FactsLen
import HandS.New0
import KE.GoesMore
import PyProof.EnumMake
import PyProof.InstNe
import HandS.Property
import HandS.Lambda
import KE.GoesZip
import HandS.Wide
import HandS.DictComp
import PyProof.ZipIter
import HandS.Zip
import HandS.SetFor
import HandS.Strs
import HandS.Conv
import HandS.Gcd
import HandS.NoneIn
import HandS.SortInts
import KE.KRevSl
import HandS.FStr
import HandS.StrMore
import PySem.Challenge.RW_freelots_k07_lots_refused
set_option Elab.async false
set_option linter.all false
set_option maxRecDepth 100000
set_option maxHeartbeats 4000000
/-! An own exception class over ValueError (at any depth) with `def __init__(self, f): super().__init__('words'); self.f = f`. -/
namespace My
open PySem PySem.W PySem.Calls
section
variable {prog : Program} {w : World} {A : Around} {E : Value → Shared → Prop} {R : Result → Shared → Prop} {K : Frag}
/-- the wrapper bound by super() is called -/
theorem mw_call {hp : Heap} {gs : Array GenState} {dr : Drawn} {tk : Nat} {os : OsState} {nm qn : Str} {C N : Addr} {bs bm bb : List Value} {hd : Bool} {sn : List Str} {sb : List Value}
    {ab : Bool} {col : Option Bool} {dd : Option Addr} {k0 k1 k2 k3 k5 : Option Value} {B ni ii : String} {u e t0 : Addr} {rest : List Value} {Q : Value → Shared → Prop}
    (FB : ExcBaseFacts B ni ii bb)
    (hC : hp.get? C = some (excClassObj nm qn C N bs bm hd sn sb ab col dd k0 k1 k2 k3 k5 ni)) (he : hp.get? e = some (excRec (.ref C) t0 none .none .none (.bool false)))
    (hu : hp.get? u = some (kxs_mw ii e)) (hz : rest.length ≤ sizeLine)
    (hq : ∀ h' t1, (∀ b o, b ≠ e → hp.get? b = some o → h'.get? b = some o) → h'.get? e = some (excRec (.ref C) t1 none .none .none (.bool false)) → Q .none ⟨h', gs, dr, tk, os⟩) :
    wpAny (model prog w) A (call (.ref u) rest) Q E ⟨hp, gs, dr, tk, os⟩ := by
  refine wpAny_call (codeAny_of_tree ?_)
  show wpAny _ A.in1 (callAny (.ref u) ⟨rest, []⟩) _ _ _
  simp only [callAny]
  refine wpAny_bind (wpAny_load hu ?_)
  have c1 : (Value.type "method-wrapper" == Value.type "method" || Value.type "method-wrapper" == Value.type "builtin_function_or_method"
    || Value.type "method-wrapper" == Value.type "method-wrapper") = true := by decide
  simp only [kxs_mw, c1, if_true]
  refine KFB.if_so (by decide) ?_
  refine wpAny_bind (check_bound_init FB.toExcCallFacts hC he rfl ?_)
  refine wpAny_bind (wpAny_pure (wpAny_pure ?_))
  refine ⟨plainId_quiet FB.init.plain _, codeAny_builtin FB.initEntry ?_⟩
  exact exc_init_tree he hz fun h' k e' _ => hq h' _ k e'
/-- the body of such an __init__ -/
def initBody (msg fld : Str) (j : Nat) (p0 p1 p2 p3 p4 p5 q0 q1 q2 q3 : Pos) : List Stmt :=
  [.Expr (.Call (.Attribute (.Call (.Name "super" p0) [] [] p1) "__init__" p2) [.Constant (.str msg) j p3] [] p4) p5,
   .Assign [.Attribute (.Name "self" q0) fld q1] (.Name fld q2) q3]
structure InitScope (sc : Scope) (fld : Str) : Prop where
  kind : sc.kind = .function
  co : sc.isCoroutine = false
  gen : sc.isGenerator = false
  nocell : ∀ x ∈ sc.names, x.2 ≠ .cell
  self : sc.names.lookup ("self" : Str) = some .local
  fld : sc.names.lookup fld = some .local
  sup : sc.names.lookup ("super" : Str) = some .globalImplicit
  cls : sc.names.lookup ("__class__" : Str) = some .free
theorem meth_eval {o : Expr} {name : Str} {p2 p4 p3 : Pos} {env : Env} {c : Const} {j : Nat} (hl : (p2.endLine == p4.line) = true) :
    eval (.Call (.Attribute o name p2) [.Constant c j p3] [] p4) env = (do
      let ov ← attributeBase o name env (eval o env)
      standAt p2.atName
      let (f, first) ← holding [ov] (getMethod ov name (do return (← importBound o env).getD true))
      callWith p4 f first (backTo p4 (starEach [.Constant c j p3] env)) []) := by
  show (do
    let ov ← attributeBase o name env (eval o env)
    standAt p2.atName
    methodCall o name p2 p4 env ov 1 (backTo p4 (starEach [.Constant c j p3] env)) []) = _
  congr 1
  funext ov
  congr 1
  funext _
  unfold methodCall methodCallPos
  have hf : methodCallForm 1 (backTo p4 (starEach [Expr.Constant c j p3] env)) [] = true := rfl
  rw [hf, hl]
  simp [calleeOf]
theorem init_run {s : Shared} {C D fI cda cc e t0 : Addr} {v : Value} {args : Args} {mg mb : Str → Option Value} {msg fld name qual file : Str} {j : Nat} {p0 p1 p2 p3 p4 p5 q0 q1 q2 q3 : Pos}
    {params : Arguments} {ar : Arg} {scope : Scope} {dV kV doc pm ct oc ccl cl : Value} {an od cdd cld : Option Addr} {osl ccs csl : Array (Option Value)} {vs : Array Value} {tf : Tok} {cdD cdC : ClassData} {B ni ii : String} {bb : List Value}
    {nmC qnC : Str} {NC : Addr} {bsC bmC : List Value} {hdC0 : Bool} {snC : List Str} {sbC : List Value} {abC : Bool} {colC : Option Bool} {ddC : Option Addr} {w0 w1 w2 w3 w5 : Option Value}
    (X : K.In s.heap) (hKe : ∀ o, K.lookup e = some o → False) (lim : s.heap.NoLimit) (hG : s.heap.Ns mainGlobals mg) (hsup : mg "super" = none) (hB : s.heap.Ns builtinsNs mb) (hsb : mb "super" = some (.type "super"))
    (FB : ExcBaseFacts B ni ii bb) (KF : KxsFacts B ii)
    (hCK : K.lookup C = some (excClassObj nmC qnC C NC bsC bmC hdC0 snC sbC abC colC ddC w0 w1 w2 w3 w5 ni)) (hclC : clsIn K C = some cdC) (hmC : PySem.HandSPX.refsVE cdC.mro = true) (hdC : cdC.hasDict = true)
    (saC : findIn K (.ref C) "__setattr__" = some (some (.builtin "object.__setattr__"))) (fC : findIn K (.ref C) fld = some none)
    (hD : clsIn K D = some cdD) (hsub : mroIn K C (.ref D) = some true) (hopq : nsIn K cStatics "thirdparty.any" = some none)
    (hin : ks_superIn K C D "__init__" = some (some (.builtin ii))) (hBC : subIn K (.ref C) (.type B) = some true)
    (S : InitScope scope fld) (hne : fld ≠ "self") (hdb : (fld == ("__debug__" : Str)) = false)
    (lk : K.lookup fI = some ⟨oc, od, .func (ksFn name qual params (initBody msg fld j p0 p1 p2 p3 p4 p5 q0 q1 q2 q3) scope dV kV doc pm an (.ref cda) ct cc), osl⟩)
    (hcd : codeIn K (.ref cda) qual = true) (hp : (params.posonlyargs ++ params.args).head? = some ar) (har : ar.arg = "self")
    (hcode : K.lookup cda = some ⟨ccl, cdd, .fields vs, ccs⟩) (hvs : vs[2]? = some (.str file tf)) (hfile : ((prog.main.file : Str) == file) = true)
    (htop : (prog.main.scope.names.lookup ("super" : Str)).isSome = false)
    (hcell : K.lookup cc = some ⟨cl, cld, .cell (some (.ref D)), csl⟩)
    (hl : (p2.endLine == p4.line) = true) (hroom : A.depth < recursionLimit) (hbind : BindsTo s (ksFn name qual params (initBody msg fld j p0 p1 p2 p3 p4 p5 q0 q1 q2 q3) scope dV kV doc pm an (.ref cda) ct cc) args [("self", .ref e), (fld, v)])
    (he : s.heap.get? e = some (excRec (.ref C) t0 none .none .none (.bool false)))
    (hq : ∀ h' tk dx t1, (∀ b o, b ≠ e → s.heap.get? b = some o → h'.get? b = some o) → s.heap.objs.size ≤ dx → dx ≠ e → h'.get? e = some (excRec (.ref C) t1 (some dx) .none .none (.bool false)) →
      h'.Ns1 dx (fun y => if y = fld then some v else none) → R (.ok (.ret .none)) ⟨h', s.gens, s.drawn, tk, s.os⟩) :
    codeAny (model prog w) A (.call (.ref fI) args) R s := by
  obtain ⟨hh, g, d, tk, os⟩ := s
  have hloc : ∀ y ∈ [(("self" : Str), Value.ref e), (fld, v)], scope.names.lookup y.1 = some .local := fun y hy => by
    rcases List.mem_cons.mp hy with rfl | hy
    · exact S.self
    · rcases List.mem_cons.mp hy with rfl | hy
      · exact S.fld
      · cases hy
  refine ks_codeAny_call_defAt (fd := ksFn name qual params (initBody msg fld j p0 p1 p2 p3 p4 p5 q0 q1 q2 q3) scope dV kV doc pm an (.ref cda) ct cc) (body := initBody msg fld j p0 p1 p2 p3 p4 p5 q0 q1 q2 q3)
    hroom (X _ _ lk) rfl lim (codeRec_of X hcd) rfl hbind S.nocell hloc (fun h1 hns k1 => ?_) S.co S.gen S.kind
  show PySem.wpAt _ _ _ (execs (initBody msg fld j p0 p1 p2 p3 p4 p5 q0 q1 q2 q3) (ksEnv qual scope hh.objs.size fI (.ref cda) cc)) _ _ _
  have X1 : K.In h1 := X.keeps k1
  have hm0 : (([(("self" : Str), Value.ref e), (fld, v)] : List (Str × Value)).reverse.lookup ("self" : Str)) = some (.ref e) := by
    have : (("self" : Str) == fld) = false := by simpa using (Ne.symm hne)
    simp [List.lookup, this]
  have hm1 : (([(("self" : Str), Value.ref e), (fld, v)] : List (Str × Value)).reverse.lookup fld) = some v := by
    simp [List.lookup]
  unfold initBody
  have hi : interactive (ksEnv qual scope hh.objs.size fI (.ref cda) cc) = false := by
    show (scope.kind == .module && _) = false
    rw [S.kind]
    rfl
  refine ks_wpAt_execs_cons (ks_wpAt_Expr_any ?_ hi)
  refine ks_wpAt_MethodCall ?_ (meth_eval hl)
  refine ks_wpAt_super_base (env := ksEnv qual scope hh.objs.size fI (.ref cda) cc) S.sup S.cls (by decide) rfl (X1 _ _ lk) rfl hp rfl (X1 _ _ hcode) rfl hvs hfile htop ?_
  have hsup0 : (envX qual scope hh.objs.size fI (.ref cda) [("__class__", cc)]).kindOf "super" = some .globalImplicit := S.sup
  refine ks_loadName_global S.kind hsup0 (loadGlobal_builtin (hG.keeps k1) hsup (hB.keeps k1) hsb ⟨rfl, ?_⟩)
  refine wpAny_loadName_free S.kind S.cls rfl ⟨_, X1 _ _ hcell, rfl⟩ ?_
  rw [har]
  refine wpAny_loadName_local S.kind S.self hns hm0 ?_
  obtain ⟨oD, hD1, hD2⟩ : ∃ oD, h1.get? D = some oD ∧ oD.data = .cls cdD := by
    unfold clsIn at hD
    split at hD
    · rename_i ho
      cases hD
      exact ⟨_, X1 _ _ ho, rfl⟩
    · cases hD
  refine ks_wpAny_isType_cls hD1 hD2 ⟨rfl, ?_⟩
  have he1 := k1 _ _ he
  have eC : e ≠ C := by
    intro z
    unfold clsIn at hclC
    split at hclC
    · rename_i ho
      have q := X1 _ _ ho
      rw [← z, he1] at q
      cases q
    · cases hclC
  refine ks_wpAny_call_super hD1 hD2 he1 rfl (fun c q => by cases q) (looks_mroIn X1 hsub) fun h2 hso k2 => ?_
  have X2 : K.In h2 := X1.keeps k2
  have he2 := k2 _ _ he1
  have hI : Looks (model prog w) h2 (isInstance (.ref e) (.type B)) true :=
    (show InstAt h2 e _ C none from ⟨he2, rfl, rfl, trivial⟩).type.andThen (looks_subIn X2 hBC)
  have hin' : alongIn K "__init__" ((cdC.mro.dropWhile (· != .ref D)).drop 1) = some (some (.builtin ii)) := by
    unfold ks_superIn at hin
    rw [hclC] at hin
    exact hin
  refine kxs_getMethod KF hso (looks_opaque X2 hopq) (l₀ := cdC.mro) ((looks_clsIn X2 hclC).andThen .now) rfl X2 hin' hI eC (by decide) ?_
  have k3 : ∀ b o, h2.get? b = some o → (h2.push (kxs_mw ii e)).get? b = some o := fun b o q => Heap.get?_push_of_some _ q
  have hu : (h2.push (kxs_mw ii e)).get? h2.objs.size = some (kxs_mw ii e) := Heap.get?_push_at rfl rfl
  refine kxs_callWith (i := ii) (x := e) (by rfl) (evalArgs_plain (spliced_cons ?_))
  refine Constant_str (pos := p3) (k := j) (spliced_nil ⟨hu, ?_⟩)
  have X3 : K.In (h2.push (kxs_mw ii e)) := X2.keeps k3
  refine mw_call FB (X3 _ _ hCK) (k3 _ _ he2) hu (by show 1 ≤ sizeLine; rw [sizeLine_eq]; omega) fun h4 t4 k4 e4 => ?_
  show PySem.wpAt _ _ _ _ _ _ _
  have X4 : K.In h4 := fun b o q => by
    by_cases hb : b = e
    · rw [hb] at q
      exact (hKe o q).elim
    · exact k4 b o hb (X3 b o q)
  have hns4 : h4.Ns hh.objs.size fun x => List.lookup x [(Str.ofString "self", Value.ref e), (fld, v)].reverse := by
    obtain ⟨oL, es, ep, hL, r⟩ := hns
    refine ⟨oL, es, ep, k4 _ _ (fun z => ?_) (k3 _ _ (k2 _ _ hL)), r⟩
    have y := Heap.lt_size he
    rw [← z] at y
    exact absurd y (Nat.lt_irrefl _)
  refine ks_wpAt_execs_cons (ks_wpAt_Assign_Attr (PySem.wpAt_of_wpAny ?_))
  refine wpAny_Name (env := ksEnv qual scope hh.objs.size fI (.ref cda) cc) (wpAny_loadName_local (m := fun x : Str => ([(("self" : Str), Value.ref e), (fld, v)] : List (Str × Value)).reverse.lookup x) S.kind S.fld hns4 hm1 ?_) hdb
  refine wpAny_Name (env := ksEnv qual scope hh.objs.size fI (.ref cda) cc) (wpAny_loadName_local (m := fun x : Str => ([(("self" : Str), Value.ref e), (fld, v)] : List (Str × Value)).reverse.lookup x) S.kind S.self hns4 hm0 ?_) (by decide)
  refine set_plain X4 (ox := excRec (.ref C) t4 none .none .none (.bool false)) (od := none) ⟨e4, rfl, rfl, trivial⟩ saC ?_
  refine PySem.HandSPX.exc_osa X4 e4 hclC hmC hdC fC fun h5 tk5 dx k5 l5 n5 e5 d5 => ?_
  refine PySem.wpAt_of_wpAny (wpAny_execs_nil ?_)
  refine hq h5 _ dx t4 (fun b o nb q => k5 b o nb (k4 b o nb (k3 _ _ (k2 _ _ (k1 _ _ q))))) ?_ n5 e5 d5
  obtain ⟨oL, es, ep, hL, _⟩ := hns4
  exact Nat.le_of_lt (Nat.lt_of_lt_of_le (Heap.lt_size hL) l5)
end
end My
namespace My
open PySem L2
/-- what the text's written part holds of such an __init__ (D: the class it stands in) -/
structure InitFn (K : PySem.W.Frag) (P : Program) (D : Addr) (fld : Str) (fI : Addr) (fd : FuncData) : Prop where
  ex : ∃ (msg name qual file : Str) (j : Nat) (p0 p1 p2 p3 p4 p5 q0 q1 q2 q3 : Pos) (params : Arguments) (ar : Arg) (scope : Scope) (dV kV doc pm ct oc ccl cl : Value) (an od cdd cld : Option Addr)
      (osl ccs csl : Array (Option Value)) (vs : Array Value) (tf : Tok) (cda cc : Addr),
    fd = PySem.W.ksFn name qual params (initBody msg fld j p0 p1 p2 p3 p4 p5 q0 q1 q2 q3) scope dV kV doc pm an (.ref cda) ct cc ∧
    K.lookup fI = some ⟨oc, od, .func fd, osl⟩ ∧ PySem.W.codeIn K (.ref cda) qual = true ∧ (params.posonlyargs ++ params.args).head? = some ar ∧ ar.arg = "self" ∧
    K.lookup cda = some ⟨ccl, cdd, .fields vs, ccs⟩ ∧ vs[2]? = some (.str file tf) ∧ ((P.main.file : Str) == file) = true ∧
    K.lookup cc = some ⟨cl, cld, .cell (some (.ref D)), csl⟩ ∧ (p2.endLine == p4.line) = true ∧ InitScope scope fld
  cd : ∃ cdD, PySem.W.clsIn K D = some cdD
  top : (P.main.scope.names.lookup ("super" : Str)).isSome = false
  opq : PySem.W.nsIn K cStatics "thirdparty.any" = some none
  ne : fld ≠ "self"
  db : (fld == ("__debug__" : Str)) = false
/-- the class C that is made, whose __init__ this is -/
structure InitOf (K : PySem.W.Frag) (C D : Addr) (fld : Str) : Prop where
  T : OexC K C
  sub : PySem.W.mroIn K C (.ref D) = some true
  sup : PySem.W.ks_superIn K C D "__init__" = some (some (.builtin "ValueError.__init__"))
  ve : PySem.W.subIn K (.ref C) (.type "ValueError") = some true
  nof : PySem.W.findIn K (.ref C) fld = some none
/-- what such an __init__ does -/
def spInit (K : PySem.W.Frag) (D : Addr) (fld : Str) : Sp := fun vs H Q _ => ∃ (a C : Addr) (y : V), vs = [.ref a, y] ∧ InitOf K C D fld ∧ H a = some (exo a C none) ∧
  ∀ dx, H dx = none → dx ≠ a → Q .non (upd (upd H dx (exd dx [(fld, y)])) a (exo a C (some dx)))
theorem exo_new_un {fs : List Addr} {H : Hp} {h h' : Heap} {a C dx : Addr} {f : Str} {y : V} (ha : H a = some (exo a C none)) (hdx : H dx = none)
    (k : ∀ b o, b ≠ a → h.get? b = some o → h'.get? b = some o) (l : h.objs.size ≤ dx) (ea : ∃ o, h'.get? a = some o) :
    Un fs [] H (upd (upd H dx (exd dx [(f, y)])) a (exo a C (some dx))) h h' := by
  have na : ∀ {b : Addr}, H b = none → b ≠ a := by
    intro b n z
    rw [z, ha] at n
    cases n
  have nd : ∀ {b : Addr} {o : Obj}, h.get? b = some o → b ≠ dx := by
    intro b o q z
    have y := Heap.lt_size q
    rw [z] at y
    exact absurd y (Nat.not_lt.mpr l)
  refine ⟨?_, ?_, ?_, ?_, ?_, ?_, ?_⟩
  · intro b o q n _ _
    exact k b o (na n) q
  · intro b o q n _ _
    exact ⟨o.slots, k b o (na n) q⟩
  · intro b o q n _
    rw [upd_ne (na n)]
    rw [upd_ne (nd q)]
    exact n
  · intro b o q _
    by_cases z : b = a
    · rw [z]
      exact ea
    · exact ⟨o, k b o z q⟩
  · intro b xs q
    rw [upd_ne (at_ne ha q exo_tup)]
    rw [upd_ne (ne_of_none q hdx)]
    exact q
  · intro b o u q
    rw [upd_ne (at_ne ha q exo_frz)]
    rw [upd_ne (ne_of_none q hdx)]
    exact q
  · intro b ps q
    refine ⟨#[], ?_⟩
    rw [upd_ne (at_ne ha q exo_tbl)]
    rw [upd_ne (ne_of_none q hdx)]
    rw [q]
    simp
theorem exo_new_ok {P : Program} {w : World} {H : Hp} {h h' : Heap} {a C dx t1 : Addr} {f : Str} {y : V} {u : Value} (hok : HOk P w H h) (ha : H a = some (exo a C none)) (hdx : H dx = none)
    (k : ∀ b o, b ≠ a → h.get? b = some o → h'.get? b = some o)
    (ea : h'.get? a = some ({ cls := .ref C, dict := some dx, data := .fields #[.ref t1, .none, .none, .none, .bool false, .none] } : Obj))
    (ry : RelV y u) (hn : h'.Ns1 dx (fun z => if z = f then some u else none)) :
    HOk P w (upd (upd H dx (exd dx [(f, y)])) a (exo a C (some dx))) h' := by
  intro b o q
  by_cases za : b = a
  · rw [za] at q ⊢
    rw [upd_same] at q
    cases q
    exact exo_ok ea
  rw [upd_ne za] at q
  by_cases zd : b = dx
  · rw [zd] at q ⊢
    rw [upd_same] at q
    cases q
    exact exd_ok hn (relO_put (fs := []) ry fun _ => True.intro)
  rw [upd_ne zd] at q
  refine (hok b o q).stay ?_ ?_ ?_
  · intro c v hc z
    refine k c v ?_ z
    rcases hc with hc | hc
    · rw [hc]
      exact za
    · exact at_ne ha hc exo_own
  · intro c hc
    rw [upd_ne (at_ne ha hc exo_own)]
    rw [upd_ne (ne_of_none hc hdx)]
    exact hc
  · intro c xs hc
    rw [upd_ne (at_ne ha hc exo_tup)]
    rw [upd_ne (ne_of_none hc hdx)]
    exact hc
theorem init_ok {P : Program} {w : World} {K : PySem.W.Frag} {mg : Str → Option Value} {base : Heap} {CX : CXT} {D fI : Addr} {fld : Str} {fd : FuncData} (F : InitFn K P D fld fI fd) (ms : mg "super" = none) :
    FnOk P w K mg base CX 0 fI fd ["self", fld] (spInit K D fld) := by
  refine ⟨fun vs H Q E h => ?_, fun A outer s H args us vs Q E hr e0 hb r hsp => ?_⟩
  · obtain ⟨a, C, y, rfl, _⟩ := h
    rfl
  obtain ⟨a, C, y, rfl, J, ha, hq⟩ := hsp
  obtain ⟨msg, name, qual, file, j, p0, p1, p2, p3, p4, p5, q0, q1, q2, q3, params, ar, scope, dV, kV, doc, pm, ct, oc, ccl, cl, an, od, cdd, cld, osl, ccs, csl, vs, tf, cda, cc, rfl, lk, hcd, hp, har, hcode, hvs, hfile, hcell, hl, S⟩ := F.ex
  obtain ⟨nm, q, N, bs, bm, sn, sub, ab, col, dd, k0, k1, k2, k3, k5, hC, hbm⟩ := J.T.cls
  obtain ⟨cdD, hD⟩ := F.cd
  obtain ⟨mb, hB, hsb⟩ := e0.mod.blt
  have kb : ∀ b o, base.get? b = some o → s.heap.get? b = some o := fun b o e => (e0.bs b o e).1
  obtain ⟨t1, he⟩ := exo_at e0.hok ha
  have hcl : PySem.W.clsIn K C = some { name := nm, bases := bs, mro := .ref C :: bm, ns := N, qualname := q, hasDict := true, slotNames := sn, subclasses := sub, abstract := ab, collection := col, hasDel := false } := by
    unfold PySem.W.clsIn
    rw [hC] <;> rfl
  cases r with
  | @cons _ u0 _ ur ra rr =>
    obtain rfl : u0 = Value.ref a := ra
    cases rr with
    | @cons _ u _ ur2 ry rn =>
      cases rn
      refine init_run (e0.mod.kin.keeps kb) (fun o z => ?_) (e0.mod.nolimit.keeps kb) (e0.mod.glob.keeps kb) ms (hB.keeps kb) ((hsb "super" (by decide)).trans (by decide +kernel))
        PySem.F.excBase_ValueError PySem.W.kxs_ValueError hC hcl hbm rfl J.T.sa J.nof hD J.sub F.opq J.sup J.ve S F.ne F.db lk hcd hp har hcode hvs hfile F.top hcell hl hr.depth hb he ?_
      · have y0 := (e0.bs a o (e0.mod.kin _ _ z)).2
        rw [ha] at y0
        cases y0
      · intro h' tk dx t2 k ld nd ea hn
        have hdx : H dx = none := e0.hok.fresh ld
        exact ⟨.non, _, rfl, e0.bare, exo_new_un ha hdx k ld ⟨_, ea⟩, exo_new_ok e0.hok ha hdx k ea ry hn, rfl, hq dx hdx nd⟩
end My
/-! An own exception class called with keyword arguments alone. -/
namespace My
open PySem PySem.W PySem.PX PySem.Calls PyProof.Rows
section
variable {prog : Program} {w : World} {M : Model} {A : Around} {E : Value → Shared → Prop} {R : Result → Shared → Prop}
variable {hp : Heap} {gs : Array GenState} {dr : Drawn} {tk : Nat} {os : OsState}
variable {nm qn : Str} {C N : Addr} {bs bm bb : List Value} {hd : Bool} {sn : List Str} {sb : List Value} {ab : Bool} {col : Option Bool} {dd : Option Addr}
variable {k0 k1 k2 k3 k5 : Option Value} {B ni ii : String} {kws : List (Str × Value)}
abbrev clsO (nm qn : Str) (C N : Addr) (bs bm : List Value) (hd : Bool) (sn : List Str) (sb : List Value) (ab : Bool) (col : Option Bool) (dd : Option Addr)
    (k0 k1 k2 k3 k5 : Option Value) (ni : String) : Obj := excClassObj nm qn C N bs bm hd sn sb ab col dd k0 k1 k2 k3 k5 ni
theorem kw_check_new (F : ExcBaseFacts B ni ii bb) (hT : ∀ X : String, bm.contains (.type X) = bb.contains (.type X))
    (hC : hp.get? C = some (clsO nm qn C N bs bm hd sn sb ab col dd k0 k1 k2 k3 k5 ni))
    {Q : Unit → Shared → Prop} (hq : Q () ⟨hp, gs, dr, tk, os⟩) :
    wpAny M A (checkBuiltinCall ni ⟨[.ref C], kws⟩) Q E ⟨hp, gs, dr, tk, os⟩ := by
  have inB : (Value.ref C :: bm).contains (.type B) = true := by
    rw [List.contains_cons, hT]
    simp only [F.hasB, Bool.or_true]
  have ns := F.noStar
  simp only [checkBuiltinCall, F.newKind, F.newSplit, F.newRow]
  repeat (first
    | refine wpAny_loadPart_at hC ?_
    | (refine wpAny_isSubtype_exc hC ?_
       rw [inB])
    | refine wpAny_staticBase_exc hC ?_
    | refine wpAny_madeBy_exc hC ?_
    | simp only [bne_self_eq_false, Bool.false_eq_true, if_false]
    | wp_step)
  all_goals exact hq
theorem kw_new (F : ExcBaseFacts B ni ii bb) (hT : ∀ X : String, bm.contains (.type X) = bb.contains (.type X))
    (hC : hp.get? C = some (clsO nm qn C N bs bm hd sn sb ab col dd k0 k1 k2 k3 k5 ni))
    (hR : R (.ok (.ret (.ref (hp.objs.size + 1)))) ⟨(hp.push (kdv_tup [])).push (excO C hp.objs.size), gs, dr, tk, os⟩) :
    codeAny (model prog w) A (.builtin ni ⟨[.ref C], kws⟩) R ⟨hp, gs, dr, tk, os⟩ := by
  have hends := F.ends
  have inB : (Value.ref C :: bm).contains (.type B) = true := by
    rw [List.contains_cons, hT]
    simp only [F.hasB, Bool.or_true]
  have noA : (Value.ref C :: bm).contains (.type "AttributeError") = false := by
    rw [List.contains_cons, hT, F.noAttr]
    rfl
  have noN : (Value.ref C :: bm).contains (.type "NameError") = false := by
    rw [List.contains_cons, hT, F.noName]
    rfl
  refine codeAny_builtinAt F.entry ?_
  unfold Builtin.«BaseException.__new__»
  refine PySem.wpAt_bind ?_
  show PySem.wpAt _ _ _ (stack >>= _) _ _ _
  refine PySem.wpAt_bind (PySem.wpAt_stack fun p below => ?_)
  refine PySem.wpAt_of_wpAny ?_
  wp_walk
  refine PySem.wpAt_of_wpAny ?_
  rw [F.owner]
  repeat (first
    | with_reducible refine wpAny_madeHere_exc F.canon hC ?_
    | with_reducible refine wpAny_loadPart_at hC ?_
    | (with_reducible refine wpAny_isSubtype_exc hC ?_
       first | rw [inB] | rw [noA] | rw [noN])
    | wp_step)
  show R _ _
  rw [Heap.size_push]
  exact hR
theorem kw_type_call {fI : Addr} {Q : Fin → Shared → Prop} (F : ExcBaseFacts B ni ii bb) (hT : ∀ X : String, bm.contains (.type X) = bb.contains (.type X))
    (hC : hp.get? C = some (clsO nm qn C N bs bm hd sn sb ab col dd k0 k1 k2 k3 k5 ni))
    (hi : Looks (model prog w) hp (typeLookup (.ref C) "__init__") (some (.ref fI)))
    (hb : ∀ z, Looks (model prog w) hp (bindSpecial (.ref fI) z) (.ref fI, [z]))
    (hq : codeAny (model prog w) A (.call (.ref fI) ⟨[.ref (hp.objs.size + 1)], kws⟩)
      (fun r s' => match r with
        | .ok (.ret v) => v = .none ∧ Q (.done (.ret (.ref (hp.objs.size + 1)))) s'
        | .ok _ => False
        | .error e => E e s')
      ⟨(hp.push (kdv_tup [])).push (excO C hp.objs.size), gs, dr, tk, os⟩) :
    wpAny (model prog w) A (Builtin.«type.__call__» ⟨[.ref C], kws⟩) Q E ⟨hp, gs, dr, tk, os⟩ := by
  repeat (first
    | with_reducible refine wpAny_loadPart_at hC ?_
    | with_reducible refine wpAny_madeBy_exc hC ?_
    | wp_step)
  refine codeAny_call_builtin_code (Code.quiet_builtin _ F.quiet) (kw_check_new F hT hC ?_)
  refine kw_new F hT hC ?_
  show wpAny _ _ _ _ _ _
  have kp : ∀ b o, hp.get? b = some o → ((hp.push (kdv_tup [])).push (excO C hp.objs.size)).get? b = some o :=
    fun b o e => Heap.get?_push_of_some _ (Heap.get?_push_of_some _ e)
  have hC1 := kp _ _ hC
  have hx : ((hp.push (kdv_tup [])).push (excO C hp.objs.size)).get? (hp.objs.size + 1) = some (excO C hp.objs.size) := by
    heap_get
  have inC : (Value.ref C :: bm).contains (.ref C) = true := by simp
  have hi1 := hi.keeps kp
  have hb1 := (hb (.ref (hp.objs.size + 1))).keeps kp
  unfold isInstance
  repeat (first
    | with_reducible refine wpAny_loadPart_at hx ?_
    | (with_reducible refine wpAny_isSubtype_exc hC1 ?_
       rw [inC])
    | wp_step)
  show wpAny _ _ (typeLookup (.ref C) _) _ _ _
  refine hi1.at ?_
  refine wpAny_holding (wpAny_bind (hb1.at ?_))
  refine wpAny_bind (wpAny_call (codeAny_mono hq fun r s' z => ?_))
  rcases r with e | (v | _ | _ | _)
  all_goals try exact z
  all_goals try exact z.elim
  obtain ⟨rfl, z⟩ := z
  first
    | exact wpAny_pure (wpAny_pure z)
    | (wp_walk
       exact z)
theorem kw_call {fI : Addr} (F : ExcBaseFacts B ni ii bb) (hT : ∀ X : String, bm.contains (.type X) = bb.contains (.type X))
    (hC : hp.get? C = some (clsO nm qn C N bs bm hd sn sb ab col dd k0 k1 k2 k3 k5 ni))
    (hi : Looks (model prog w) hp (typeLookup (.ref C) "__init__") (some (.ref fI)))
    (hb : ∀ z, Looks (model prog w) hp (bindSpecial (.ref fI) z) (.ref fI, [z]))
    (hq : codeAny (model prog w) (A.under (.builtin "type.__call__" ⟨[.ref C], kws⟩)) (.call (.ref fI) ⟨[.ref (hp.objs.size + 1)], kws⟩)
      (InitBack (hp.objs.size + 1) R) ⟨(hp.push (kdv_tup [])).push (excO C hp.objs.size), gs, dr, tk, os⟩) :
    codeAny (model prog w) A (.call (.ref C) ⟨[], kws⟩) R ⟨hp, gs, dr, tk, os⟩ := by
  have f1 := tc_lookup
  have f2 := tc_bind (.ref C)
  have hTy : (⟨hp, gs, dr, tk, os⟩ : Shared).TypeIs (.ref C) "type" := ⟨_, hC, rfl⟩
  refine codeAny_of_tree ?_
  show wpAny _ _ (callAny (.ref C) _) _ _ _
  repeat (any_goals (first
    | assumption
    | with_reducible refine wpAny_loadPart_at hC ?_
    | wp_step))
  refine ⟨rfl, ?_⟩
  refine codeAny_call_builtin_at (Code.quiet_builtin _ (by decide +kernel)) entry_typeCall ?_
  refine wpAny_check_type_call_sub hC (kw_type_call F hT hC hi hb ?_)
  refine codeAny_mono hq fun r s' z => ?_
  rcases r with e | (v | _ | _ | _) <;> exact z
end
section
variable {prog : Program} {w : World} {A : Around} {E : Value → Shared → Prop} {s : Shared} {K : Frag} {C L : Addr} {g0 : Heap}
variable {m : Str → Option Value} {news : List (Addr × Obj)} {B ni ii : String} {bb : List Value}
theorem kw_make {kws : List (Str × Value)} {fI : Addr} {Q : Value → Shared → Prop} (F : Fr g0 L s.heap m) (X0 : K.In g0) (N : News g0 L s.heap news)
    (FB : ExcBaseFacts B ni ii bb) (hi : findIn K (.ref C) "__init__" = some (some (.ref fI)))
    (q : excInitIn K C bb ni = true) (hf : isFn K (.ref fI) = true)
    (h : ∀ e t h', Fr g0 L h' m → News g0 L h' ((e, excObj C t none .none) :: (t, excTup []) :: news) → AllNe e news → AllNe t news → e ≠ t →
      codeAny (model prog w) (A.under (.builtin "type.__call__" ⟨[.ref C], kws⟩)) (.call (.ref fI) ⟨[.ref e], kws⟩)
        (InitBack e fun r s' => match r with
          | .ok (.ret v) => Q v s'
          | .ok _ => False
          | .error x => E x s') { s with heap := h' }) :
    wpAny (model prog w) A (call (.ref C) [] kws) Q E s := by
  have X := X0.keeps F.keep
  obtain ⟨nm, N', qn, bs, bm, hd, sn, sb, ab, col, dd, k0, k1, k2, k3, k5, hC, hT⟩ := excInit_of X q
  have hf' : (K.lookup fI).map (·.cls) = some (.type "function") := beq_iff_eq.mp hf
  obtain ⟨o, ho, hc⟩ := Option.map_eq_some_iff.mp hf'
  have hoI := X _ _ ho
  have hi' : Looks (model prog w) s.heap (typeLookup (.ref C) "__init__") (some (.ref fI)) := looks_findIn X hi
  obtain ⟨F2, N2, ne, nt⟩ := exc_two (o1 := excTup []) (o2 := excObj C s.heap.objs.size none .none) F N rfl rfl
  obtain ⟨hh, g, d, tk, os⟩ := s
  have hq := h _ _ _ F2 N2 ne nt (Nat.succ_ne_self _)
  refine wpAny_call (kw_call FB hT hC hi' (fun z => exc_bind hoI hc z) (codeAny_mono hq fun r s' z => ?_))
  rcases r with x | (v | _ | _ | _)
  all_goals try exact z
  all_goals exact z.elim
end
end My
namespace My
open PySem L2
/-- what isinstance and a field's reading ask of an exception class -/
structure ExcF (K : PySem.W.Frag) (C : Addr) : Prop where
  cls : (PySem.W.clsIn K C).isSome = true
  hga : PySem.W.findIn K (.ref C) "__getattribute__" = some (some (.builtin "BaseException.__getattribute__"))
  hgt : PySem.W.findIn K (.ref C) "__getattr__" = some none
  sub : PySem.W.subIn K (.ref C) (.type "BaseException") = some true
  ha : PySem.W.findIn K (.ref C) "__class__" = some (some (.builtin "object.__class__"))
  hn : PySem.W.specialIn K (.builtin "object.__class__") "__get__" = some (some (.builtin "getset_descriptor.__get__"))
  tk : PySem.W.takesIn K (.builtin "object.__class__") = some true
  hm : PySem.W.mroIn K C (.type "object") = some true
structure Made (K : PySem.W.Frag) (P : Program) (mg : Str → Option Value) (x fld : Str) (C fI : Addr) (fd : FuncData) : Prop where
  fn : InitFn K P C fld fI fd
  of : InitOf K C C fld
  bp : Binds K fd ["self", fld] []
  bk : ∀ (s : Shared) (u v : Value), BindsTo s fd ⟨[u], [(fld, v)]⟩ [("self", u), (fld, v)]
  at_ : mg x = some (.ref C)
  ini : PySem.W.findIn K (.ref C) "__init__" = some (some (.ref fI))
  ti : PySem.W.typeIn K (.ref fI) = some (.type "function")
  sup : mg "super" = none
  ex : ExcF K C
theorem upd_twice {H : Hp} {a d : Addr} {o1 o2 u : HO} (h : d ≠ a) : upd (upd (upd H a o1) d u) a o2 = upd (upd H d u) a o2 := by
  funext b
  by_cases e : b = a
  · rw [e, upd_same, upd_same]
  · rw [upd_ne e, upd_ne e]
    by_cases e2 : b = d
    · rw [e2, upd_same, upd_same]
    · rw [upd_ne e2, upd_ne e2, upd_ne e]
/-- C(e), C(f = e): a new exception, its field in its dict -/
def tExc (C : Addr) (fld : Str) (te : TE) : TE := fun σ H Q => te σ H fun y H1 =>
  ∀ a d, H1 a = none → H1 d = none → d ≠ a → Q (.ref a) (upd (upd H1 d (exd d [(fld, y)])) a (exo a C (some d)))
section
variable {X : Cx} {pins : List (Addr × Obj)} {σ : St} {H : Hp} {s : Shared} {x fld : Str} {C fI : Addr} {fd : FuncData} {Q : VK}
/-- the end of a make: __init__ has run -/
theorem made_back {a : Addr} {y : V} {s2 : Shared} {r : Result} {s' : Shared}
    (I2 : Inv X pins σ (upd H a (exo a C none)) s2) (hq : CR CX0 X.stack X.prog X.w (upd H a (exo a C none)) s2 (fun v H2 => v = .non ∧ Q (.ref a) H2) (fun _ _ _ => False) r s') :
    PySem.W.InitBack a (fun r s' => match r with
      | .ok (.ret v) => EP X pins σ Q v s'
      | .ok _ => False
      | .error e => X.xe e s') r s' := by
  cases r with
  | error er => exact hq.elim
  | ok fl =>
    cases fl with
    | ret u =>
      obtain ⟨v, H2, J, rv, ev, q⟩ := I2.after hq
      subst ev
      cases rv
      exact ⟨rfl, .ref a, H2, J, rfl, q⟩
    | next => exact hq.elim
    | brk => exact hq.elim
    | cont => exact hq.elim
theorem made_pos {y : V} {u : Value} (M : Made X.K X.prog X.mg x fld C fI fd) (hr : Room 1 X.A) (I : Inv X pins σ H s) (ry : RelV y u)
    (h : ∀ a d, H a = none → H d = none → d ≠ a → Q (.ref a) (upd (upd H d (exd d [(fld, y)])) a (exo a C (some d)))) :
    wpAny (model X.prog X.w) X.A (call (.ref C) [u]) (EP X pins σ Q) X.xe s := by
  obtain ⟨nm, q, N, bs, bm, sn, sub, ab, col, dd, k0, k1, k2, k3, k5, hC, hbm⟩ := M.of.T.cls
  obtain ⟨hp, g, dr, tk, os⟩ := s
  have hsz : hp.objs.size ≤ hp.objs.size + 1 := Nat.le_succ _
  have hn : H (hp.objs.size + 1) = none := I.hok.fresh hsz
  have kk : ∀ b o, hp.get? b = some o → ((hp.push (PySem.W.kdv_tup [u])).push (PySem.HandSPX.excO C hp.objs.size)).get? b = some o :=
    fun b o e => Heap.get?_push_of_some _ (Heap.get?_push_of_some _ e)
  have hget : ((hp.push (PySem.W.kdv_tup [u])).push (PySem.HandSPX.excO C hp.objs.size)).get? (hp.objs.size + 1) = some (PySem.HandSPX.excO C hp.objs.size) := by
    heap_get
  have I2 := I.laid (t' := tk) (a := hp.objs.size + 1) (o := exo (hp.objs.size + 1) C none) (h' := (hp.push (PySem.W.kdv_tup [u])).push (PySem.HandSPX.excO C hp.objs.size)) kk hsz (exo_ok hget)
  have G := init_ok (P := X.prog) (w := X.w) (mg := X.mg) (base := X.base) (CX := CX0) M.fn M.sup
  have hsp : spInit X.K C fld [.ref (hp.objs.size + 1), y] (upd H (hp.objs.size + 1) (exo (hp.objs.size + 1) C none)) (fun v H2 => v = .non ∧ Q (.ref (hp.objs.size + 1)) H2) (fun _ _ _ => False) := by
    refine ⟨_, C, y, rfl, M.of, upd_same, fun d hd nd => ⟨rfl, ?_⟩⟩
    rw [upd_twice nd]
    rw [upd_ne nd] at hd
    exact h _ d hn hd nd
  refine wpAny_call (PySem.HandSPX.call_own PySem.F.excBase_ValueError (fun Y => PySem.HandSPX.refsVE_contains Y bm hbm) (I.kIn _ _ hC) (PySem.W.looks_findIn I.kIn M.ini)
    (fun z => PySem.W.bind_fn I.kIn z M.ti) (by show 1 ≤ sizeLine; rw [sizeLine_eq]; omega) (codeAny_mono (G.run _ X.stack _ _ ⟨[.ref (hp.objs.size + 1), u], []⟩ [.ref (hp.objs.size + 1), u] [.ref (hp.objs.size + 1), y] _ (fun _ _ _ => False) (hr.make C [u] [])
      (I2.env0.make C [u] []) (M.bp _ [.ref (hp.objs.size + 1), u] I2.kIn rfl) (.cons rfl (.cons ry .nil)) hsp) fun r s' hq => made_back (y := y) I2 hq))
theorem made_kw {y : V} {u : Value} (M : Made X.K X.prog X.mg x fld C fI fd) (hr : Room 1 X.A) (I : Inv X pins σ H s) (ry : RelV y u)
    (h : ∀ a d, H a = none → H d = none → d ≠ a → Q (.ref a) (upd (upd H d (exd d [(fld, y)])) a (exo a C (some d)))) :
    wpAny (model X.prog X.w) X.A (call (.ref C) [] [(fld, u)]) (EP X pins σ Q) X.xe s := by
  obtain ⟨nm, q, N, bs, bm, sn, sub, ab, col, dd, k0, k1, k2, k3, k5, hC, hbm⟩ := M.of.T.cls
  obtain ⟨hp, g, dr, tk, os⟩ := s
  have hsz : hp.objs.size ≤ hp.objs.size + 1 := Nat.le_succ _
  have hn : H (hp.objs.size + 1) = none := I.hok.fresh hsz
  have kk : ∀ b o, hp.get? b = some o → ((hp.push (PySem.W.kdv_tup [])).push (PySem.PX.excO C hp.objs.size)).get? b = some o :=
    fun b o e => Heap.get?_push_of_some _ (Heap.get?_push_of_some _ e)
  have hget : ((hp.push (PySem.W.kdv_tup [])).push (PySem.PX.excO C hp.objs.size)).get? (hp.objs.size + 1) = some (PySem.PX.excO C hp.objs.size) := by
    heap_get
  have I2 := I.laid (t' := tk) (a := hp.objs.size + 1) (o := exo (hp.objs.size + 1) C none) (h' := (hp.push (PySem.W.kdv_tup [])).push (PySem.PX.excO C hp.objs.size)) kk hsz (exo_ok hget)
  have G := init_ok (P := X.prog) (w := X.w) (mg := X.mg) (base := X.base) (CX := CX0) M.fn M.sup
  have hsp : spInit X.K C fld [.ref (hp.objs.size + 1), y] (upd H (hp.objs.size + 1) (exo (hp.objs.size + 1) C none)) (fun v H2 => v = .non ∧ Q (.ref (hp.objs.size + 1)) H2) (fun _ _ _ => False) := by
    refine ⟨_, C, y, rfl, M.of, upd_same, fun d hd nd => ⟨rfl, ?_⟩⟩
    rw [upd_twice nd]
    rw [upd_ne nd] at hd
    exact h _ d hn hd nd
  refine wpAny_call (kw_call PySem.F.excBase_ValueError (fun Y => PySem.HandSPX.refsVE_contains Y bm hbm) (I.kIn _ _ hC) (PySem.W.looks_findIn I.kIn M.ini)
    (fun z => PySem.W.bind_fn I.kIn z M.ti) (codeAny_mono (G.run _ X.stack _ _ ⟨[.ref (hp.objs.size + 1)], [(fld, u)]⟩ [.ref (hp.objs.size + 1), u] [.ref (hp.objs.size + 1), y] _ (fun _ _ _ => False) (hr.make C [] [(fld, u)])
      (I2.env0.make C [] [(fld, u)]) (M.bk _ _ _) (.cons rfl (.cons ry .nil)) hsp) fun r s' hq => made_back (y := y) I2 hq))
end
section
variable {X : Cx} {x fld : Str} {C fI : Addr} {fd : FuncData} {e : Expr} {te : TE} {p pos kpos : Pos}
/-- C(e) -/
theorem pe_excV (M : Made X.K X.prog X.mg x fld C fI fd) (hr : Room 1 X.A) (hg : Gl X x) (he : PE X e te)
    (hdb : (x == ("__debug__" : Str)) = false := by decide) (hs : starEach [e] X.env = (false, eval e X.env) :: starEach [] X.env := by rfl) :
    PE X (.Call (.Name x p) [e] [] pos) (tExc C fld te) := by
  refine ⟨fun pins s σ H Q I h => ?_⟩
  refine wpAny_Call_Name_kw (ld_glob I hg M.at_ ?_ hdb)
  refine PySem.W.callWith_K (h₀ := X.base) I.ok.mod.kin M.of.T.kC ?_ hs (by rfl)
  rw [hs]
  show wpAny _ _ (spliced ((false, eval e X.env) :: backTo pos (starEach [] X.env))) _ _ s
  refine Calls.spliced_cons (thn (he.run pins s σ H _ I h) fun u s1 ⟨v, H1, I1, r1, q1⟩ => ?_)
  refine Calls.spliced_nil ⟨I1.kIn, ?_⟩
  exact made_pos M hr I1 r1 q1
/-- C(f = e) -/
theorem pe_excK (M : Made X.K X.prog X.mg x fld C fI fd) (hr : Room 1 X.A) (hg : Gl X x) (he : PE X e te)
    (hdb : (x == ("__debug__" : Str)) = false := by decide)
    (hall : (backToKw pos (keywordEach [⟨some fld, e, kpos⟩] X.env)).all (·.1.isSome) = true := by rfl) (hks : (backToKw pos (keywordEach [⟨some fld, e, kpos⟩] X.env)).filterMap (·.1) = [fld] := by rfl)
    (hpl : ((backTo pos (starEach [] X.env)).any (·.1) || (backToKw pos (keywordEach [⟨some fld, e, kpos⟩] X.env)).any (·.1.isNone)) = false := by rfl) :
    PE X (.Call (.Name x p) [] [⟨some fld, e, kpos⟩] pos) (tExc C fld te) := by
  refine ⟨fun pins s σ H Q I h => ?_⟩
  refine wpAny_Call_Name_kw (ld_glob I hg M.at_ ?_ hdb)
  refine PySem.W.callWith_KW0 (h₀ := X.base) I.ok.mod.kin M.of.T.kC hall ?_ hpl
  have hk : PK X [⟨some fld, e, kpos⟩] (tCons te tNil) := pk_cons he pk_nil
  refine thn (hk.run pos pins s σ H (fun vs H1 => match vs with
    | [y] => ∀ a d, H1 a = none → H1 d = none → d ≠ a → Q (.ref a) (upd (upd H1 d (exd d [(fld, y)])) a (exo a C (some d)))
    | _ => False) I h) fun ws s2 ⟨zs, H2, I2, rz, q2⟩ => ⟨I2.kIn, ?_⟩
  rw [hks]
  cases rz with
  | nil => exact q2.elim
  | @cons y u _ ur ry rn =>
    cases rn with
    | nil => exact made_kw M hr I2 ry q2
    | cons _ _ => exact q2.elim
end
/-! ### a field, isinstance -/
def tExoF (K : PySem.W.Frag) (f : Str) (te : TE) : TE := fun σ H Q => te σ H fun x H1 => ∃ (a C d : Addr) (fs : List (Str × V)) (v : V), x = .ref a ∧ ExcF K C ∧ PySem.W.hasDictIn K C = true ∧
  PySem.W.findIn K (.ref C) f = some none ∧ H1 a = some (exo a C (some d)) ∧ H1 d = some (exd d fs) ∧ fs.lookup f = some v ∧ Q v H1
section
variable {X : Cx} {e : Expr} {te : TE} {pos : Pos} {f : Str} {pins : List (Addr × Obj)} {σ : St} {H : Hp} {s : Shared}
theorem exo_inst {a C d : Addr} {fs : List (Str × V)} (I : Inv X pins σ H s) (ea : H a = some (exo a C (some d))) (ed : H d = some (exd d fs)) :
    ∃ (t1 : Addr) (od : Obj) (mA : Str → Option Value),
      PySem.W.InstAt s.heap a ({ cls := .ref C, dict := some d, data := .fields #[.ref t1, .none, .none, .none, .bool false, .none] } : Obj) C (some od) ∧
      (∀ n, PySem.W.lookIn n od = some (mA n)) ∧ ∀ n, RelO (fs.lookup n) (mA n) := by
  obtain ⟨t1, ho⟩ := exo_at I.hok ea
  obtain ⟨mA, hns, rel⟩ := exd_at I.hok ed
  obtain ⟨od, hod, hl⟩ := lookIn_ns hns
  exact ⟨t1, od, mA, ⟨ho, rfl, rfl, hod⟩, hl, rel⟩
theorem pe_exoF (he : PE X e te) (hb : attributeBase e f X.env (eval e X.env) = eval e X.env := by rfl) : PE X (.Attribute e f pos) (tExoF X.K f te) := by
  refine ⟨fun pins s σ H Q I h => ?_⟩
  refine attr_of hb (thn (he.run pins s σ H _ I h) fun u s1 hh => ?_)
  obtain ⟨x, H1, I1, rx, a, C, d, fs, v, rfl, T, hd, hno, ea, ed, l, q⟩ := hh
  obtain rfl : u = Value.ref a := rx
  obtain ⟨t1, od, mA, J, hl, rel⟩ := exo_inst I1 ea ed
  have r0 := rel f
  rw [l] at r0
  obtain ⟨u, hu, ru⟩ := RelO.some_of (v := v) (o := mA f) r0
  refine PySem.HandSPX.exc_get I1.kIn J T.hga T.hgt T.sub (PySem.W.findObj_own hd hno rfl ?_) (handed_of ru) ⟨v, H1, I1.tok _, ru, q⟩
  rw [hl, hu]
/-- isinstance(e, c) of an exception e that has a field -/
def rIsX (K : PySem.W.Frag) : List V → Hp → VK → Prop := fun xs H Q => ∃ (a C d : Addr) (fs : List (Str × V)) (c : V) (cv : Value) (b : Bool), xs = [.ref a, c] ∧ ClsV c cv ∧ ExcF K C ∧
  H a = some (exo a C (some d)) ∧ H d = some (exd d fs) ∧ PySem.W.kitOne K (.ref C) cv = some b ∧ Q (.bl b) H
theorem call_isX : CallR X (.builtin "isinstance") (rIsX X.K) := by
  intro pins s σ H xs us Q I r h
  obtain ⟨a, C, d, fs, c, cv, b, rfl, k, T, ea, ed, e, q⟩ := h
  obtain ⟨u1, u2, rfl, r1, r2⟩ := vals2 r
  obtain rfl : u1 = Value.ref a := r1
  have e2 := k.eq r2
  subst e2
  obtain ⟨t1, od, mA, J, _, _⟩ := exo_inst I ea ed
  exact PySem.W.kia_one (PySem.W.kitx_exc T.cls T.hga T.hgt T.sub T.ha T.hn T.tk T.hm) I.kIn J e (fun z => nomatch z) fun tk => ⟨.bl b, H, I.tok tk, rfl, q⟩
end
/-! ### an exception of a class without an __init__ of the program -/
section
variable {X : Cx} {x : Str} {C : Addr} {p pos : Pos} {bb : List Value} {B ni ii : String}
/-- X() -/
theorem pe_exc0 (F : ExcBaseFacts B ni ii bb) (q : PySem.W.excIn X.K C bb ni = true) (gC : X.mg x = some (.ref C)) (kC : PySem.W.keepIn X.K (.ref C) = true) (hg : Gl X x)
    (hdb : (x == ("__debug__" : Str)) = false := by decide) :
    PE X (.Call (.Name x p) [] [] pos) (fun _ H Q => ∀ a, H a = none → Q (.ref a) (upd H a (ExO (.ref C) a))) := by
  refine ⟨fun pins s σ H Q I h => ?_⟩
  refine wpAny_Call_Name_kw (ld_glob I hg gC ?_ hdb)
  refine PySem.W.callWith_KW0 (h₀ := X.base) (kws := []) I.ok.mod.kin kC (by rfl) ?_ (by rfl)
  refine wpAny_evalAll_nil ⟨I.kIn, ?_⟩
  show wpAny _ _ (call (.ref C) [] []) _ _ _
  obtain ⟨bm, N, nm, qn, bs, hdct, sn, sub, ab, col, dd, k0, k1, k2, k3, k5, mN, hC, hN, hni, T⟩ := exc_obj I.kIn q
  refine wpAny_call_exc_subT F T hC hN hni (fun h' a hm => ?_) (by show 0 ≤ sizeLine; exact Nat.zero_le _)
  have hn : H a = none := I.hok.gone hm.new
  obtain ⟨t, ht, _, _⟩ := hm.there
  refine ⟨.ref a, _, I.laidN (t' := s.toks) hm.keeps hm.new hn ?_, rfl, h a hn⟩
  exact exO_ok ht ⟨rfl, rfl⟩ rfl rfl rfl (show 4 < 6 by decide)
/-- isinstance(e, c) of an exception without fields -/
def rIsX0 (K : PySem.W.Frag) : List V → Hp → VK → Prop := fun xs H Q => ∃ (a C : Addr) (c : V) (cv : Value) (b : Bool), xs = [.ref a, c] ∧ ClsV c cv ∧ ExcF K C ∧
  H a = some (ExO (.ref C) a) ∧ PySem.W.kitOne K (.ref C) cv = some b ∧ Q (.bl b) H
theorem call_isX0 : CallR X (.builtin "isinstance") (rIsX0 X.K) := by
  intro pins s σ H xs us Q I r h
  obtain ⟨a, C, c, cv, b, rfl, k, T, ea, e, q⟩ := h
  obtain ⟨u1, u2, rfl, r1, r2⟩ := vals2 r
  obtain rfl : u1 = Value.ref a := r1
  have e2 := k.eq r2
  subst e2
  obtain ⟨⟨oe, vs, ho, hz, hd, _⟩, _, _⟩ := I.hok a _ ea
  have J : PySem.W.InstAt s.heap a oe C none := by
    refine ⟨ho, hz.1, ?_, ?_⟩
    · unfold PySem.W.notCls
      rw [hd] <;> rfl
    · rw [hz.2]
      exact True.intro
  exact PySem.W.kia_one (PySem.W.kitx_exc T.cls T.hga T.hgt T.sub T.ha T.hn T.tk T.hm) I.kIn J e (fun z => nomatch z) fun tk => ⟨.bl b, H, I.tok tk, rfl, q⟩
/-- isinstance(e, c) of both kinds -/
def rIsXA (K : PySem.W.Frag) : List V → Hp → VK → Prop := fun xs H Q => rIsX K xs H Q ∨ rIsX0 K xs H Q
theorem call_isXA : CallR X (.builtin "isinstance") (rIsXA X.K) := by
  intro pins s σ H xs us Q I r h
  rcases h with h | h
  · exact call_isX pins s σ H xs us Q I r h
  · exact call_isX0 pins s σ H xs us Q I r h
end
end My
/-! Readings of tracked lists and tuples that a simp can follow. -/
namespace My
open PySem L2
section
variable {X : Cx}
theorem IxR.imp {r r' : R2} (h : IxR X r) (k : ∀ x y H Q, r' x y H Q → r x y H Q) : IxR X r' := by
  intro value slice pins s σ H x y v u Q I rx ry q
  exact h value slice pins s σ H x y v u Q I rx ry (k _ _ _ _ q)
theorem OpR.imp {f : Value → Value → Sem Value} {r r' : R2} (h : OpR X f r) (k : ∀ x y H Q, r' x y H Q → r x y H Q) : OpR X f r' := by
  intro pins s σ H x y v u Q I rx ry q
  exact h pins s σ H x y v u Q I rx ry (k _ _ _ _ q)
theorem CallR.imp {f : Value} {r r' : List V → Hp → VK → Prop} (h : CallR X f r) (k : ∀ xs H Q, r' xs H Q → r xs H Q) : CallR X f r' := by
  intro pins s σ H xs us Q I rx q
  exact h pins s σ H xs us Q I rx (k _ _ _ q)
/-- xs[i], xs tracked -/
def fIxL : R2 := fun x y H Q => ∃ p i xs v, x = .ref p ∧ y = .int i ∧ H p = some (.lst xs) ∧ atI xs i = some v ∧ Q v H
theorem ixL : IxR X fIxL := by
  refine IxR.imp ix_list ?_
  rintro x y H Q ⟨p, i, xs, v, e1, e2, e3, e4, q⟩
  exact ⟨p, xs, i, v, e1, e2, SqL.of e3, e4, q⟩
def fIxT : R2 := fun x y H Q => ∃ p i xs v, x = .ref p ∧ y = .int i ∧ H p = some (.tup xs) ∧ atI xs i = some v ∧ Q v H
theorem ixT : IxR X fIxT := by
  refine IxR.imp ix_tup ?_
  rintro x y H Q ⟨p, i, xs, v, e1, e2, e3, e4, q⟩
  exact ⟨p, xs, i, v, e1, e2, SqT.of e3, e4, q⟩
/-- len(xs), xs a tracked list -/
def fLenL : List V → Hp → VK → Prop := fun xs H Q => ∃ p ys, xs = [.ref p] ∧ H p = some (.lst ys) ∧ Q (.int ys.length) H
theorem lenL : CallR X (.builtin "len") fLenL := by
  refine CallR.imp call_len_seq ?_
  rintro xs H Q ⟨p, ys, e1, e2, q⟩
  exact ⟨p, ys, e1, .inl (SqL.of e2), q⟩
def fLenT : List V → Hp → VK → Prop := fun xs H Q => ∃ p ys, xs = [.ref p] ∧ H p = some (.tup ys) ∧ Q (.int ys.length) H
theorem lenT : CallR X (.builtin "len") fLenT := by
  refine CallR.imp call_len_seq ?_
  rintro xs H Q ⟨p, ys, e1, e2, q⟩
  exact ⟨p, ys, e1, .inr (SqT.of e2), q⟩
/-- a ** n of any size -/
def CPowW (i j : Int) : Prop := 0 ≤ j ∧ (Builtin.Int.intBits i : Int) * j ≤ 2 ^ 27
theorem op_powW : OpR X (binaryOp .Pow) (rI CPowW fun i j => .int (i ^ j.toNat)) := by
  intro pins s σ H x y v u Q I rx ry q
  obtain ⟨i, j, rfl, rfl, ⟨c1, c2⟩, q⟩ := q
  obtain ⟨t, rfl⟩ := rx
  obtain ⟨t', rfl⟩ := ry
  exact PyProof.Rows.pow_int c1 c2 ⟨.int (i ^ j.toNat), H, I.tok _, ⟨_, rfl⟩, q⟩
/-- two lists of the very same values are not unequal -/
def SameV (x : V) : Prop := flatB x = true ∨ ∃ a, x = .ref a
theorem eq_sameV {A : Around} {s : Shared} {x : V} {u u' : Value} (h : SameV x) (r : RelV x u) (r' : RelV x u') : SeqAt.EqAt A s u u' true := by
  rcases h with f | ⟨a, rfl⟩
  · exact eqAt_same r r' f
  · obtain rfl : u = Value.ref a := r
    obtain rfl : u' = Value.ref a := r'
    exact SeqAt.EqAt.same _
theorem items_sameV {A : Around} {s : Shared} : ∀ {xs : List V} {us ws : List Value}, (∀ x ∈ xs, SameV x) → Vals xs us → Vals xs ws →
    ∀ j (h1 : j < us.length) (h2 : j < ws.length), SeqAt.EqAt A s us[j] ws[j] true
  | _, _, _, _, .nil, .nil, j, h1, _ => absurd h1 (Nat.not_lt_zero _)
  | _, _, _, hx, .cons r k, .cons r' k', 0, _, _ => eq_sameV (hx _ (.head _)) r r'
  | _, _, _, hx, .cons r k, .cons r' k', j + 1, h1, h2 => items_sameV (fun x m => hx x (.tail _ m)) k k' j (Nat.lt_of_succ_lt_succ h1) (Nat.lt_of_succ_lt_succ h2)
def rNeSame : R2 := fun x y H Q => ∃ a b xs, x = .ref a ∧ y = .ref b ∧ H a = some (.lst xs) ∧ H b = some (.lst xs) ∧ (∀ x ∈ xs, SameV x) ∧ Q (.bl false) H
theorem op_neSame (hu : X.A.units < cLine) : OpR X (compareOp .NotEq) rNeSame := by
  intro pins s σ H x y v u Q I rx ry h
  obtain ⟨a, b, xs, rfl, rfl, ha, hb, hx, q⟩ := h
  obtain rfl : v = Value.ref a := rx
  obtain rfl : u = Value.ref b := ry
  obtain ⟨us, r1, p1, _⟩ := I.list (SqL.of ha)
  obtain ⟨ws, r2, p2, _⟩ := I.list (SqL.of hb)
  have hsz : us.toArray.size = ws.toArray.size := by
    rw [List.size_toArray, List.size_toArray, ← r1.length, ← r2.length]
  refine SeqAt.RcNeAt.lists (e := fun _ => true) p1.isList p2.isList hsz hu (fun j h1 h2 => ?_) X.prog X.w _ _ ?_
  · have k := items_sameV (A := X.A.in1) (s := s) hx r1 r2 j (by simpa using h1) (by simpa using h2)
    simpa using k
  · rw [show ((List.range us.toArray.size).all fun _ => true) = true from List.all_eq_true.mpr fun _ _ => rfl]
    exact ⟨.bl false, H, I, rfl, q⟩
end
/-- the exception at a is of the class at C -/
def ExAt (K : PySem.W.Frag) (H : Hp) (a C : Addr) : Prop := ExcF K C ∧ ((∃ (d : Addr) (fs : List (Str × V)), H a = some (exo a C (some d)) ∧ H d = some (exd d fs)) ∨ H a = some (ExO (.ref C) a))
theorem ExAt.same {K : PySem.W.Frag} {H H' : Hp} {a C : Addr} (h : ExAt K H a C) (s : Same H H') : ExAt K H' a C := by
  obtain ⟨T, h⟩ := h
  refine ⟨T, ?_⟩
  rcases h with ⟨d, fs, h1, h2⟩ | h1
  · exact .inl ⟨d, fs, s _ _ h1, s _ _ h2⟩
  · exact .inr (s _ _ h1)
section
variable {X : Cx}
/-- isinstance(e, D), e at a of the class at C, D one of some classes whose answers are known -/
def rIsP (K : PySem.W.Frag) (a C : Addr) (ok : V → Bool → Prop) : List V → Hp → VK → Prop := fun xs H Q => ∃ c b, xs = [.ref a, c] ∧ ok c b ∧ ExAt K H a C ∧ Q (.bl b) H
theorem call_isP {a C : Addr} {ok : V → Bool → Prop} (h : ∀ c b, ok c b → ∃ cv, ClsV c cv ∧ PySem.W.kitOne X.K (.ref C) cv = some b) : CallR X (.builtin "isinstance") (rIsP X.K a C ok) := by
  refine CallR.imp call_isXA ?_
  rintro xs H Q ⟨c, b, rfl, hc, ⟨T, e⟩, q⟩
  obtain ⟨cv, k, e2⟩ := h c b hc
  rcases e with ⟨d, fs, h1, h2⟩ | h1
  · exact .inl ⟨a, C, d, fs, c, cv, b, rfl, k, T, h1, h2, e2, q⟩
  · exact .inr ⟨a, C, c, cv, b, rfl, k, T, h1, e2, q⟩
end
theorem pe_gref {X : Cx} {x : Str} {C : Addr} {pos : Pos} (hg : Gl X x) (hm : X.mg x = some (.ref C)) (hd : (x == ("__debug__" : Str)) = false := by decide) : PE X (.Name x pos) (tC (.ref C)) :=
  pe_glob (v := .ref C) hg hm rfl hd
section
variable {X : Cx}
def rIsQ (K : PySem.W.Frag) (ok : Addr → V → Bool → Prop) : List V → Hp → VK → Prop := fun xs H Q => ∃ a C c b, xs = [.ref a, c] ∧ ok C c b ∧ ExAt K H a C ∧ Q (.bl b) H
theorem call_isQ {ok : Addr → V → Bool → Prop} (h : ∀ C c b, ok C c b → ∃ cv, ClsV c cv ∧ PySem.W.kitOne X.K (.ref C) cv = some b) : CallR X (.builtin "isinstance") (rIsQ X.K ok) := by
  refine CallR.imp call_isXA ?_
  rintro xs H Q ⟨a, C, c, b, rfl, hc, ⟨T, e⟩, q⟩
  obtain ⟨cv, k, e2⟩ := h C c b hc
  rcases e with ⟨d, fs, h1, h2⟩ | h1
  · exact .inl ⟨a, C, d, fs, c, cv, b, rfl, k, T, h1, h2, e2, q⟩
  · exact .inr ⟨a, C, c, cv, b, rfl, k, T, h1, e2, q⟩
end
theorem same_upd2 {H : Hp} {a d : Addr} {o u : HO} (na : H a = none) (nd : H d = none) : Same H (upd (upd H d u) a o) := by
  intro b x e
  rw [upd_ne (ne_of_none e na)]
  rw [upd_ne (ne_of_none e nd)]
  exact e
theorem same_refl {H : Hp} : Same H H := fun _ _ e => e
theorem kinds_eq {cs : List Addr} (nd : cs.Nodup) {i : Nat} {C : Addr} (hi : cs[i]? = some C) :
    cs.map (fun D => V.bl (decide (C = D))) = (List.range cs.length).map (fun j : Nat => V.bl (decide (V.int (0 + (i : Int)) = V.int (0 + (j : Int))))) := by
  apply List.ext_getElem?
  intro n
  rw [List.getElem?_map, List.getElem?_map]
  by_cases hn : n < cs.length
  · rw [List.getElem?_eq_getElem hn, List.getElem?_eq_getElem (by simpa using hn)]
    obtain ⟨hi', rfl⟩ := List.getElem?_eq_some_iff.mp hi
    have e : decide (cs[i] = cs[n]) = decide (V.int (0 + (i : Int)) = V.int (0 + (n : Int))) := by
      refine decide_eq_decide.mpr ⟨fun h => ?_, fun h => ?_⟩
      · have pw := List.pairwise_iff_getElem.mp nd
        have : i = n := by
          rcases Nat.lt_trichotomy i n with l | l | l
          · exact absurd h (pw i n hi' hn l)
          · exact l
          · exact absurd h.symm (pw n i hn hi' l)
        rw [this]
      · have h2 := V.int.inj h
        have : i = n := by omega
        subst this
        rfl
    simp [e]
  · rw [List.getElem?_eq_none (by omega), List.getElem?_eq_none (by simpa using Nat.le_of_not_lt hn)]
    rfl
theorem paired_get {α β : Type} {R : α → β → Prop} : ∀ {xs : List α} {ys : List β}, Paired R xs ys → ∀ {i : Nat} {x : α}, xs[i]? = some x → ∃ y, ys[i]? = some y ∧ R x y
  | _, _, .nil, i, x, h => by simp at h
  | _, _, .cons r k, 0, x, h => by
    cases h
    exact ⟨_, rfl, r⟩
  | _, _, .cons r k, i + 1, x, h => paired_get k (i := i) h
/-! ### the facts of the written part, gathered -/
section
variable {P : Program} {K : PySem.W.Frag} {h : Heap} {mg : Str → Option Value}
theorem excF_mk {C : Addr} {cd : ClassData} (a : PySem.W.clsIn K C = some cd)
    (hga : PySem.W.findIn K (.ref C) "__getattribute__" = some (some (.builtin "BaseException.__getattribute__")))
    (hgt : PySem.W.findIn K (.ref C) "__getattr__" = some none)
    (sub : PySem.W.subIn K (.ref C) (.type "BaseException") = some true)
    (ha : PySem.W.findIn K (.ref C) "__class__" = some (some (.builtin "object.__class__")))
    (hn : PySem.W.specialIn K (.builtin "object.__class__") "__get__" = some (some (.builtin "getset_descriptor.__get__")))
    (tk : PySem.W.takesIn K (.builtin "object.__class__") = some true)
    (hm : PySem.W.mroIn K C (.type "object") = some true) : ExcF K C :=
  ⟨by rw [a]; rfl, hga, hgt, sub, ha, hn, tk, hm⟩
theorem made_mk {x fld : Str} (X : K.In h) (G : h.Ns mainGlobals mg)
    {C fI cda cc N : Addr} {msg name qual file : Str} {j : Nat} {p0 p1 p2 p3 p4 p5 q0 q1 q2 q3 : Pos} {params : Arguments} {ar : Arg} {scope : Scope} {dV kV doc pm ct oc ccl cl : Value} {an od cdd cld : Option Addr}
    {osl ccs csl : Array (Option Value)} {vs : Array Value} {tf : Tok} {cd : ClassData} {nm qn : Str} {bs bm : List Value} {sn : List Str} {sb : List Value} {ab : Bool} {col : Option Bool} {dd : Option Addr} {k0 k1 k2 k3 k5 : Option Value}
    (a1 : PySem.W.nsIn K mainGlobals x = some (some (.ref C)))
    (a2 : PySem.W.findIn K (.ref C) "__init__" = some (some (.ref fI)))
    (a3 : K.lookup fI = some ⟨oc, od, .func (PySem.W.ksFn name qual params (initBody msg fld j p0 p1 p2 p3 p4 p5 q0 q1 q2 q3) scope dV kV doc pm an (.ref cda) ct cc), osl⟩)
    (a4 : PySem.W.codeIn K (.ref cda) qual = true)
    (a7 : K.lookup cda = some ⟨ccl, cdd, .fields vs, ccs⟩)
    (a10 : K.lookup cc = some ⟨cl, cld, .cell (some (.ref C)), csl⟩)
    (a13 : PySem.W.clsIn K C = some cd)
    (b1 : K.lookup C = some (excClassObj nm qn C N bs bm true sn sb ab col dd k0 k1 k2 k3 k5 "ValueError.__new__"))
    (b3 : PySem.W.findIn K (.ref C) "__setattr__" = some (some (.builtin "object.__setattr__")))
    (b5 : PySem.W.typeIn K (.ref C) = some (.type "type"))
    (b6 : PySem.W.keepIn K (.ref C) = true)
    (c1 : PySem.W.mroIn K C (.ref C) = some true)
    (c3 : PySem.W.subIn K (.ref C) (.type "ValueError") = some true)
    (c4 : PySem.W.findIn K (.ref C) fld = some none)
    (ti : PySem.W.typeIn K (.ref fI) = some (.type "function"))
    (zs : PySem.W.nsIn K mainGlobals "super" = some none)
    (zo : PySem.W.nsIn K cStatics "thirdparty.any" = some none)
    (ex : ExcF K C)
    (a5 : (params.posonlyargs ++ params.args).head? = some ar) (a6 : ar.arg = "self")
    (a8 : vs[2]? = some (.str file tf)) (a9 : ((P.main.file : Str) == file) = true)
    (a11 : (p2.endLine == p4.line) = true) (a12 : InitScope scope fld)
    (a14 : (P.main.scope.names.lookup ("super" : Str)).isSome = false)
    (a16 : fld ≠ "self") (a17 : (fld == ("__debug__" : Str)) = false)
    (b2 : PySem.HandSPX.refsVE bm = true)
    (c2 : PySem.W.ks_superIn K C C "__init__" = some (some (.builtin "ValueError.__init__")))
    (e1 : ∀ us : List Value, us.length = 2 → bindArgs (PySem.W.ksFn name qual params (initBody msg fld j p0 p1 p2 p3 p4 p5 q0 q1 q2 q3) scope dV kV doc pm an (.ref cda) ct cc) ⟨us, []⟩ = pure ((["self", fld] : List Str).zip us))
    (e2 : ∀ u v : Value, bindArgs (PySem.W.ksFn name qual params (initBody msg fld j p0 p1 p2 p3 p4 p5 q0 q1 q2 q3) scope dV kV doc pm an (.ref cda) ct cc) ⟨[u], [(fld, v)]⟩ = pure ([("self", u), (fld, v)] : List (Str × Value))) :
    Made K P mg x fld C fI (PySem.W.ksFn name qual params (initBody msg fld j p0 p1 p2 p3 p4 p5 q0 q1 q2 q3) scope dV kV doc pm an (.ref cda) ct cc) where
  fn := ⟨⟨msg, name, qual, file, j, p0, p1, p2, p3, p4, p5, q0, q1, q2, q3, params, ar, scope, dV, kV, doc, pm, ct, oc, ccl, cl, an, od, cdd, cld, osl, ccs, csl, vs, tf, cda, cc, rfl, a3, a4, a5, a6, a7, a8, a9, a10, a11, a12⟩, ⟨cd, a13⟩, a14, zo, a16, a17⟩
  of := ⟨⟨⟨nm, qn, N, bs, bm, sn, sb, ab, col, dd, k0, k1, k2, k3, k5, b1, b2⟩, b3, ex.sub, b5, b6⟩, c1, c2, c3, c4⟩
  bp := .all e1
  bk := fun s u v => BindsTo.of_eq (e2 u v)
  at_ := PySem.W.mg_of X G a1
  ini := a2
  ti := ti
  sup := PySem.W.mg_none_of X G zs
  ex := ex
/-- what isinstance answers for instances of the class at C -/
structure Kit (K : PySem.W.Frag) (cs : List Addr) (L C : Addr) : Prop where
  one : ∀ D ∈ cs, PySem.W.kitOne K (.ref C) (.ref D) = some (decide (C = D))
  root : PySem.W.kitOne K (.ref C) (.ref L) = some true
  ve : PySem.W.kitOne K (.ref C) (.type "ValueError") = some true
def IsCls (K : PySem.W.Frag) (D : Addr) : Prop := (PySem.W.clsIn K D).isSome = true ∧ PySem.W.typeIn K (.ref D) = some (.type "type")
theorem kitOne_ne {C D : Addr} {cd : ClassData} (hc : PySem.W.clsIn K C = some cd) (hm : cd.mro.isEmpty = false) (hD : IsCls K D) (ne : C ≠ D) :
    PySem.W.kitOne K (.ref C) (.ref D) = some (cd.mro.contains (.ref D)) := by
  unfold PySem.W.kitOne
  have e1 : (Value.ref C == Value.ref D) = false := by simpa using ne
  rw [e1, if_neg Bool.false_ne_true]
  have e2 : ((PySem.W.clsIn K D).isSome && PySem.W.typeIn K (.ref D) == some (.type "type")) = true := by
    rw [hD.1, hD.2]
    decide
  show (if ((PySem.W.clsIn K D).isSome && PySem.W.typeIn K (.ref D) == some (.type "type")) = true then PySem.W.mroIn K C (.ref D) else none) = _
  rw [if_pos e2]
  unfold PySem.W.mroIn
  rw [hc, Option.bind_some, hm, if_neg Bool.false_ne_true]
theorem kitOne_same {C : Addr} : PySem.W.kitOne K (.ref C) (.ref C) = some true := by
  unfold PySem.W.kitOne
  rw [beq_self_eq_true, if_pos rfl]
theorem kit_mk {cs : List Addr} {C L : Addr} {cd : ClassData} (hc : PySem.W.clsIn K C = some cd) (hm : cd.mro = .ref C :: .ref L :: PySem.PX.veTail)
    (hD : ∀ D ∈ cs, IsCls K D) (hL : IsCls K L) (nL : ∀ D ∈ cs, L ≠ D) (nC : C ≠ L)
    (ve : PySem.W.kitOne K (.ref C) (.type "ValueError") = some true) : Kit K cs L C := by
  refine ⟨fun D h => ?_, ?_, ve⟩
  · by_cases e : C = D
    · rw [e, kitOne_same]
      simp
    · rw [kitOne_ne hc (by rw [hm]; rfl) (hD D h) e, hm]
      have n1 : D ≠ C := fun z => e z.symm
      have n2 : D ≠ L := fun z => nL D h z.symm
      simp [List.contains_cons, PySem.PX.veTail, e, n1, n2]
  · rw [kitOne_ne hc (by rw [hm]; rfl) hL nC, hm]
    simp [List.contains_cons]
theorem kit_mkL {cs : List Addr} {L : Addr} {cd : ClassData} (hc : PySem.W.clsIn K L = some cd) (hm : cd.mro = .ref L :: PySem.PX.veTail)
    (hD : ∀ D ∈ cs, IsCls K D) (nL : ∀ D ∈ cs, L ≠ D)
    (ve : PySem.W.kitOne K (.ref L) (.type "ValueError") = some true) : Kit K cs L L := by
  refine ⟨fun D h => ?_, kitOne_same, ve⟩
  have e := nL D h
  have n1 : D ≠ L := fun z => e z.symm
  rw [kitOne_ne hc (by rw [hm]; rfl) (hD D h) e, hm]
  simp [List.contains_cons, PySem.PX.veTail, e, n1]
end
theorem kit_ve {K : PySem.W.Frag} {C : Addr} (h : PySem.W.subIn K (.ref C) (.type "ValueError") = some true) : PySem.W.kitOne K (.ref C) (.type "ValueError") = some true := by
  have e : PySem.W.kitMeta "ValueError" = true := by decide +kernel
  show (if (Value.ref C == Value.type "ValueError") = true then some true else (if PySem.W.kitMeta "ValueError" = true then PySem.W.subIn K (.ref C) (.type "ValueError") else none)) = some true
  rw [if_neg (by simp), if_pos e]
  exact h
end My
/-! Comprehensions by an invariant; what a list holds, item by item. -/
namespace My
open PySem L2 PySem.Calls PyProof.Rows
def Gives (F : Nat → V → Prop) (n : Nat) (ys : List V) : Prop := ys.length = n ∧ ∀ j y, ys[j]? = some y → F j y
theorem Gives.snoc {F : Nat → V → Prop} {n : Nat} {ys : List V} {y : V} (h : Gives F n ys) (hy : F n y) : Gives F (n + 1) (ys ++ [y]) := by
  obtain ⟨h1, h2⟩ := h
  refine ⟨by rw [List.length_append, h1]; rfl, fun j z hz => ?_⟩
  by_cases hj : j < ys.length
  · rw [List.getElem?_append_left hj] at hz
    exact h2 j z hz
  · have hj2 : j < (ys ++ [y]).length := (List.getElem?_eq_some_iff.mp hz).1
    rw [List.length_append, List.length_singleton] at hj2
    have e : j = ys.length := by omega
    rw [e, List.getElem?_append_right (Nat.le_refl _), Nat.sub_self] at hz
    cases hz
    rw [e, h1]
    exact hy
/-- each item is told by its place -/
theorem Gives.map {F : Nat → V → Prop} {n : Nat} {ys : List V} {f : Nat → V} (h : Gives F n ys) (hf : ∀ j y, j < n → F j y → y = f j) : ys = (List.range n).map f := by
  obtain ⟨h1, h2⟩ := h
  apply List.ext_getElem?
  intro j
  rw [List.getElem?_map]
  by_cases hj : j < ys.length
  · rw [List.getElem?_eq_getElem hj, List.getElem?_eq_getElem (by simpa [← h1] using hj)]
    have := hf j _ (by omega) (h2 j _ (List.getElem?_eq_getElem hj))
    simp [this]
  · rw [List.getElem?_eq_none (by omega), List.getElem?_eq_none (by simp; omega)]
    rfl
section
variable {K : PySem.W.Frag} {a D : Addr} {xs : List V} {i : Nat} {vs : List Nat} {te : TE} {σ : L2.St} {H1 : Hp} {Qd : Hp → Prop} {F : Nat → V → Prop}
theorem comp_list (I : Nat → Hp → Prop) (F : Nat → V → Prop) (h0 : I 0 H1) (hI : ∀ j H o, I j H → I j (upd H D o)) (hS : ∀ j H, I j H → SqL K H a xs) (sz : xs.length ≤ 1000)
    (hw : ∀ x, wipe ((wipe σ vs).set i (some x)) vs = wipe σ vs)
    (hs : ∀ j x H, xs[j]? = some x → I j H → ∀ R : VK, (∀ y H4, F j y → I (j + 1) H4 → H4 D = H D → R y H4) → te ((wipe σ vs).set i (some x)) H R)
    (hd : ∀ H ys, I xs.length H → H D = some (.lst ys) → Gives F xs.length ys → Qd H) :
    ∃ W : Nat → Nat → Hp → Prop, (∃ m, W 0 m (upd H1 D (.lst []))) ∧ ∀ i0 m H, W i0 m H →
      ((Itl K a).stop i0 H ∧ Qd H) ∨ ((Itl K a).go i0 H ∧ ∃ Nx : Hp → Prop, (∀ H', Nx H' → ∃ m', m' < m ∧ W (i0 + 1) m' H') ∧ ∀ x H', (Itl K a).yld i0 H x H' → gName i x (wipe σ vs) H' fun σ2 H2 => wipe σ2 vs = wipe σ vs ∧ tYes σ2 H2 fun b H3 =>
        if b = true then te σ2 H3 fun y H4 => ∃ acc, H4 D = some (.lst acc) ∧ acc.length < sizeLine ∧ Nx (upd H4 D (.lst (acc ++ [y]))) else Nx H3) := by
  refine lc_list (fun j H => I j H ∧ ∃ ys, H D = some (.lst ys) ∧ Gives F j ys) ⟨hI 0 _ _ h0, [], upd_same, rfl, fun j y h => by cases h⟩ (fun j H _ h => hS j H h.1) ?_ ?_
  · rintro j x H hx ⟨hj, ys, e, g⟩
    refine ⟨hw x, ?_⟩
    dsimp only [tYes]
    rw [if_pos rfl]
    refine hs j x H hx hj _ fun y H4 hy hj4 e4 => ⟨ys, e4.trans e, ?_, hI _ _ _ hj4, _, upd_same, g.snoc hy⟩
    rw [g.1]
    have := (List.getElem?_eq_some_iff.mp hx).1
    exact Nat.lt_of_lt_of_le (by omega : j < 1001) (by decide)
  · rintro H ⟨hj, ys, e, g⟩
    exact hd H ys hj e g
theorem comp_tup (I : Nat → Hp → Prop) (F : Nat → V → Prop) (h0 : I 0 H1) (hI : ∀ j H o, I j H → I j (upd H D o)) (hS : ∀ j H, I j H → SqT K H a xs) (sz : xs.length ≤ 1000)
    (hw : ∀ x, wipe ((wipe σ vs).set i (some x)) vs = wipe σ vs)
    (hs : ∀ j x H, xs[j]? = some x → I j H → ∀ R : VK, (∀ y H4, F j y → I (j + 1) H4 → H4 D = H D → R y H4) → te ((wipe σ vs).set i (some x)) H R)
    (hd : ∀ H ys, I xs.length H → H D = some (.lst ys) → Gives F xs.length ys → Qd H) :
    ∃ W : Nat → Nat → Hp → Prop, (∃ m, W 0 m (upd H1 D (.lst []))) ∧ ∀ i0 m H, W i0 m H →
      ((Itt K a).stop i0 H ∧ Qd H) ∨ ((Itt K a).go i0 H ∧ ∃ Nx : Hp → Prop, (∀ H', Nx H' → ∃ m', m' < m ∧ W (i0 + 1) m' H') ∧ ∀ x H', (Itt K a).yld i0 H x H' → gName i x (wipe σ vs) H' fun σ2 H2 => wipe σ2 vs = wipe σ vs ∧ tYes σ2 H2 fun b H3 =>
        if b = true then te σ2 H3 fun y H4 => ∃ acc, H4 D = some (.lst acc) ∧ acc.length < sizeLine ∧ Nx (upd H4 D (.lst (acc ++ [y]))) else Nx H3) := by
  refine lc_tup (fun j H => I j H ∧ ∃ ys, H D = some (.lst ys) ∧ Gives F j ys) ⟨hI 0 _ _ h0, [], upd_same, rfl, fun j y h => by cases h⟩ (fun j H _ h => hS j H h.1) ?_ ?_
  · rintro j x H hx ⟨hj, ys, e, g⟩
    refine ⟨hw x, ?_⟩
    dsimp only [tYes]
    rw [if_pos rfl]
    refine hs j x H hx hj _ fun y H4 hy hj4 e4 => ⟨ys, e4.trans e, ?_, hI _ _ _ hj4, _, upd_same, g.snoc hy⟩
    rw [g.1]
    have := (List.getElem?_eq_some_iff.mp hx).1
    exact Nat.lt_of_lt_of_le (by omega : j < 1001) (by decide)
  · rintro H ⟨hj, ys, e, g⟩
    exact hd H ys hj e g
theorem comp_range {lo : Int} {n : Nat} (I : Nat → Hp → Prop) (F : Nat → V → Prop) (h0 : I 0 H1) (hI : ∀ j H o, I j H → I j (upd H D o)) (sz : n ≤ 1000)
    (hw : ∀ x, wipe ((wipe σ vs).set i (some x)) vs = wipe σ vs)
    (hs : ∀ j H, j < n → I j H → ∀ R : VK, (∀ y H4, F j y → I (j + 1) H4 → H4 D = H D → R y H4) → te ((wipe σ vs).set i (some (.int (lo + j)))) H R)
    (hd : ∀ H ys, I n H → H D = some (.lst ys) → Gives F n ys → Qd H) :
    ∃ W : Nat → Nat → Hp → Prop, (∃ m, W 0 m (upd H1 D (.lst []))) ∧ ∀ i0 m H, W i0 m H →
      ((Itr lo n).stop i0 H ∧ Qd H) ∨ ((Itr lo n).go i0 H ∧ ∃ Nx : Hp → Prop, (∀ H', Nx H' → ∃ m', m' < m ∧ W (i0 + 1) m' H') ∧ ∀ x H', (Itr lo n).yld i0 H x H' → gName i x (wipe σ vs) H' fun σ2 H2 => wipe σ2 vs = wipe σ vs ∧ tYes σ2 H2 fun b H3 =>
        if b = true then te σ2 H3 fun y H4 => ∃ acc, H4 D = some (.lst acc) ∧ acc.length < sizeLine ∧ Nx (upd H4 D (.lst (acc ++ [y]))) else Nx H3) := by
  refine lc_range (fun j H => I j H ∧ ∃ ys, H D = some (.lst ys) ∧ Gives F j ys) ⟨hI 0 _ _ h0, [], upd_same, rfl, fun j y h => by cases h⟩ ?_ ?_
  · rintro j H hx ⟨hj, ys, e, g⟩
    refine ⟨hw _, ?_⟩
    dsimp only [tYes]
    rw [if_pos rfl]
    refine hs j H hx hj _ fun y H4 hy hj4 e4 => ⟨ys, e4.trans e, ?_, hI _ _ _ hj4, _, upd_same, g.snoc hy⟩
    rw [g.1]
    exact Nat.lt_of_lt_of_le (by omega : j < 1001) (by decide)
  · rintro H ⟨hj, ys, e, g⟩
    exact hd H ys hj e g
end
/-- for i, x in enumerate(xs) -/
theorem for_enum {K : PySem.W.Frag} {a : Addr} {xs : List V} {g : TG} {tb : TS} {D : Ends} {σ : L2.St} {H : Hp} (Pv : Nat → L2.St → Hp → Prop) (h0 : Pv 0 σ H)
    (hl : ∀ i σ H, i ≤ xs.length → Pv i σ H → SqL K H a xs)
    (hs : ∀ i x T σ H, xs[i]? = some x → Pv i σ H → H T = none → g (.ref T) σ (upd H T (.tup [.int (i : Nat), x])) fun σ2 H2 => tb { D with nx := Pv (i + 1), ct := Pv (i + 1), bk := D.nx } σ2 H2)
    (hd : ∀ σ H, Pv xs.length σ H → D.nx σ H) :
    ∃ W : Nat → Nat → L2.St → Hp → Prop, (∃ m, W 0 m σ H) ∧ ∀ i m σ H, W i m σ H →
      ((Ite K a).stop i H ∧ D.nx σ H) ∨ ((Ite K a).go i H ∧ ∃ N : L2.St → Hp → Prop, (∀ σ' H', N σ' H' → ∃ m', m' < m ∧ W (i + 1) m' σ' H') ∧
        ∀ x H', (Ite K a).yld i H x H' → g x σ H' fun σ2 H2 => tb { D with nx := N, ct := N, bk := D.nx } σ2 H2) := by
  refine ⟨fun i m σ H => m + i = xs.length ∧ Pv i σ H, ⟨xs.length, rfl, h0⟩, ?_⟩
  rintro i m σ H ⟨e, p⟩
  have q := hl i σ H (by omega) p
  by_cases hlt : i < xs.length
  · refine .inr ⟨⟨xs, xs[i], q, List.getElem?_eq_getElem hlt⟩, Pv (i + 1), fun σ' H' p' => ⟨m - 1, by omega, by omega, p'⟩, ?_⟩
    rintro x H' ⟨T, y, rfl, nT, rfl, fv⟩
    exact hs i y T σ H (fv xs q) p nT
  · have ei : i = xs.length := by omega
    subst ei
    exact .inl ⟨⟨xs, q, Nat.le_refl _⟩, hd σ H p⟩
/-- an int as a test -/
theorem pt_truthI {X : Cx} {a : Expr} {ta : TE} (ha : PE X a ta) (he : ∀ whole, isTrue a X.env whole = (do let v ← whole; standAt a.pos; holding [v] (truthy v))) :
    PT X a (fun σ H Q => ta σ H fun x H' => ∃ i, x = .int i ∧ Q (i != 0) H') := by
  refine ⟨fun pins s σ H Q I h => ?_⟩
  refine isTrue_plain (thn (ha.run pins s σ H _ I h) fun v s1 ⟨x, H1, I1, r1, q1⟩ => ?_) (he _)
  obtain ⟨i, rfl, q⟩ := q1
  exact tru_ok pins s1 σ H1 (.int i) v Q I1 r1 ⟨_, rfl, q⟩
section
variable {K : PySem.W.Frag} {a D : Addr} {xs : List V} {i : Nat} {vs : List Nat} {te : TE} {σ : L2.St} {H1 : Hp} {Qd : Hp → Prop}
theorem comp_listI (I : Nat → List V → Hp → Prop) (h0 : I 0 [] (upd H1 D (.lst []))) (hS : ∀ j ys H, I j ys H → SqL K H a xs) (sz : xs.length ≤ 1000)
    (hw : ∀ x, wipe ((wipe σ vs).set i (some x)) vs = wipe σ vs)
    (hs : ∀ j x ys H, xs[j]? = some x → I j ys H → H D = some (.lst ys) → ∀ R : VK, (∀ y H4, H4 D = some (.lst ys) → I (j + 1) (ys ++ [y]) (upd H4 D (.lst (ys ++ [y]))) → R y H4) → te ((wipe σ vs).set i (some x)) H R)
    (hd : ∀ H ys, I xs.length ys H → H D = some (.lst ys) → ys.length = xs.length → Qd H) :
    ∃ W : Nat → Nat → Hp → Prop, (∃ m, W 0 m (upd H1 D (.lst []))) ∧ ∀ i0 m H, W i0 m H →
      ((Itl K a).stop i0 H ∧ Qd H) ∨ ((Itl K a).go i0 H ∧ ∃ Nx : Hp → Prop, (∀ H', Nx H' → ∃ m', m' < m ∧ W (i0 + 1) m' H') ∧ ∀ x H', (Itl K a).yld i0 H x H' → gName i x (wipe σ vs) H' fun σ2 H2 => wipe σ2 vs = wipe σ vs ∧ tYes σ2 H2 fun b H3 =>
        if b = true then te σ2 H3 fun y H4 => ∃ acc, H4 D = some (.lst acc) ∧ acc.length < sizeLine ∧ Nx (upd H4 D (.lst (acc ++ [y]))) else Nx H3) := by
  refine lc_list (fun j H => ∃ ys, I j ys H ∧ H D = some (.lst ys) ∧ ys.length = j) ⟨[], h0, upd_same, rfl⟩ (fun j H _ ⟨ys, h, _⟩ => hS j ys H h) ?_ ?_
  · rintro j x H hx ⟨ys, hj, e, g⟩
    refine ⟨hw x, ?_⟩
    dsimp only [tYes]
    rw [if_pos rfl]
    refine hs j x ys H hx hj e _ fun y H4 e4 hj4 => ⟨ys, e4, ?_, ys ++ [y], hj4, upd_same, by rw [List.length_append, g]; rfl⟩
    rw [g]
    have := (List.getElem?_eq_some_iff.mp hx).1
    exact Nat.lt_of_lt_of_le (by omega : j < 1001) (by decide)
  · rintro H ⟨ys, hj, e, g⟩
    exact hd H ys hj e g
end
end My
/-! The signs of whole numbers' texts. -/
namespace My
open PySem L2 PySem.Calls PyProof.Rows
open TL NumText
def tx (i : Int) : Str := Str.ofString (toString i)
theorem tl_pos (n : Nat) : tl (tx (n : Int)) = numL n := tl_num n
theorem toString_negSucc (n : Nat) : toString (Int.negSucc n) = "-" ++ toString (((n + 1 : Nat)) : Int) := rfl
theorem tl_neg (n : Nat) : tl (tx (Int.negSucc n)) = 45 :: numL (n + 1) := by
  unfold tx
  rw [tl_ofString, toString_negSucc, String.toList_append, List.map_append, ← tl_ofString (toString (((n + 1 : Nat)) : Int)), tl_num]
  rfl
/-- sizes that are carried -/
def Sz (i : Int) : Prop := i.natAbs < 10 ^ 60
theorem Sz.log {i : Int} (h : Sz i) : i.natAbs.log2 < 1920 := by
  unfold Sz at h
  by_cases z : i.natAbs = 0
  · rw [z]
    decide
  · have h1 := Nat.log2_lt z (k := 200)
    have h2 : i.natAbs < 2 ^ 200 := Nat.lt_trans h (by decide)
    have := h1.mpr h2
    omega
theorem tx_len {i : Int} (h : Sz i) : (tx i).length ≤ 61 := by
  unfold Sz at h
  rw [len_tl]
  cases i with
  | ofNat n =>
    show (tl (tx (n : Int))).length ≤ 61
    rw [tl_pos]
    have := numL_len (n := n) (k := 60) (by decide) h
    omega
  | negSucc n =>
    rw [tl_neg, List.length_cons]
    have := numL_len (n := n + 1) (k := 60) (by decide) h
    omega
theorem tx_free {i : Int} {c : Nat} (h1 : c < 48 ∨ 57 < c) (h2 : c ≠ 45) : c ∉ tl (tx i) := by
  cases i with
  | ofNat n =>
    show c ∉ tl (tx (n : Int))
    rw [tl_pos]
    exact numL_free h1
  | negSucc n =>
    rw [tl_neg]
    intro hm
    rcases List.mem_cons.mp hm with e | e
    · exact h2 e
    · exact numL_free h1 e
theorem tx_ne {i : Int} : tl (tx i) ≠ [] := by
  cases i with
  | ofNat n =>
    show tl (tx (n : Int)) ≠ []
    rw [tl_pos]
    exact numL_ne n
  | negSucc n =>
    rw [tl_neg]
    simp
theorem tx_int {i : Int} (h : Sz i) : intText? (tx i) = some i := by
  have hl := tx_len h
  cases i with
  | ofNat n =>
    have e : tl (tx (Int.ofNat n)) = numL n := tl_pos n
    exact int_num (by rw [len_tl, e] at hl; omega)
  | negSucc n =>
    have := intText_neg (x := tx (Int.negSucc n)) (tl_neg n) (numL_digits _) (numL_ne _) (by omega)
    rw [this, numL_val]
    congr 1
theorem tx_inj {i j : Int} (hi : Sz i) (hj : Sz j) (h : tx i = tx j) : i = j := by
  have := tx_int hi
  rw [h, tx_int hj] at this
  exact (Option.some.inj this).symm
theorem not_mem_of {c : Nat} {x : Str} (h : c ∉ tl x) {y : Str} (hy : c ∈ tl y) : x ≠ y := fun e => h (e ▸ hy)
/-- what begins with a sign -/
theorem starts_one (x : Str) (c : Nat) : Txt.startswith x ⟨#[c]⟩ = decide ((tl x)[0]? = some c) := by
  have h := StrLaws.subAt_one x c 0
  unfold Txt.startswith
  by_cases e : (tl x)[0]? = some c
  · obtain ⟨h1, h2⟩ := h.mpr e
    rw [h2, decide_eq_true h1, decide_eq_true e]
    rfl
  · rw [decide_eq_false e]
    by_cases g : 0 + (⟨#[c]⟩ : Str).length ≤ x.length
    · by_cases g2 : Builtin.Str.subAt x ⟨#[c]⟩ 0 = true
      · exact absurd (h.mp ⟨g, g2⟩) e
      · rw [Bool.eq_false_iff.mpr g2, Bool.and_false]
    · rw [decide_eq_false g]
      rfl
theorem numL_head (n : Nat) : (n = 0 ∧ numL n = [48]) ∨ ∃ c r, numL n = c :: r ∧ 49 ≤ c ∧ c ≤ 57 := by
  induction n using Nat.strongRecOn with
  | _ n ih =>
    by_cases h : n < 10
    · rw [numL_lt h]
      by_cases z : n = 0
      · subst z
        exact .inl ⟨rfl, rfl⟩
      · exact .inr ⟨48 + n, [], rfl, by omega, by omega⟩
    · rw [numL_step (by omega)]
      rcases ih (n / 10) (by omega) with ⟨z, _⟩ | ⟨c, r, e, h1, h2⟩
      · omega
      · exact .inr ⟨c, r ++ [48 + n % 10], by rw [e]; rfl, h1, h2⟩
theorem starts_minus (i : Int) : Txt.startswith (tx i) "-" = decide (i < 0) := by
  rw [show (("-" : String) : Str) = ⟨#[45]⟩ from rfl, starts_one]
  cases i with
  | ofNat n =>
    have e : tl (tx (Int.ofNat n)) = numL n := tl_pos n
    rw [e]
    have a : ¬ (numL n)[0]? = some 45 := by
      rcases numL_head n with ⟨_, h⟩ | ⟨c, r, h, h1, h2⟩
      · rw [h]
        simp
      · rw [h]
        simp
        omega
    rw [decide_eq_false a, decide_eq_false (show ¬ (Int.ofNat n < 0) from Int.not_lt.mpr (Int.natCast_nonneg n))]
  | negSucc n =>
    rw [tl_neg, decide_eq_true (by rfl), decide_eq_true (by omega)]
theorem cut_minus (n : Nat) : cutS (tx (Int.negSucc n)) (some 1) none = tx ((n + 1 : Nat) : Int) := by
  apply ext_tl
  rw [tl_pos]
  unfold cutS
  show ((tl (tx (Int.negSucc n))).drop _).take _ = _
  rw [len_tl, tl_neg]
  have h1 : HT.sIx (45 :: numL (n + 1)).length 0 (some 1) = 1 := by
    have : 1 ≤ (45 :: numL (n + 1)).length := by simp
    simp only [HT.sIx]
    first | omega | (simp; omega) | simp
  have h2 : HT.sIx (45 :: numL (n + 1)).length (45 :: numL (n + 1)).length none = (45 :: numL (n + 1)).length := by
    simp [HT.sIx]
  rw [h1, h2]
  simp
theorem num_ascii (n : Nat) : Txt.isascii (tx (n : Int)) = true := by
  unfold Txt.isascii
  rw [← Array.all_toList, List.all_eq_true]
  intro c hc
  have h := numL_digits n c (by rw [← tl_pos]; exact hc)
  exact decide_eq_true (by omega)
theorem isDigit_dec : ∀ c : Nat, c < 58 → 48 ≤ c → Unicode.isDigit c = true := by decide +kernel
theorem num_isdigit (n : Nat) : Txt.isdigit (tx (n : Int)) = true := by
  unfold Txt.isdigit
  rw [Bool.and_eq_true]
  constructor
  · apply decide_eq_true
    rw [len_tl, tl_pos]
    exact List.length_pos_iff.mpr (numL_ne n)
  · rw [← Array.all_toList, List.all_eq_true]
    intro c hc
    have h := numL_digits n c (by rw [← tl_pos]; exact hc)
    exact isDigit_dec c (by omega) (by omega)
theorem starts_zero (n : Nat) : Txt.startswith (tx (n : Int)) "0" = decide (n = 0) := by
  rw [show (("0" : String) : Str) = ⟨#[48]⟩ from rfl, starts_one, tl_pos]
  rcases numL_head n with ⟨e, h⟩ | ⟨c, r, h, h1, h2⟩
  · rw [h, e]
    rfl
  · rw [h]
    have e : n ≠ 0 := fun z => by
      rw [z, numL_lt (by decide)] at h
      cases h
      omega
    rw [decide_eq_false e, decide_eq_false]
    simp
    omega
theorem tx_zero : tx 0 = "0" := by decide +kernel
theorem num_len2 {n : Nat} (h : n < 100) : (tx (n : Int)).length ≤ 2 := by
  rw [len_tl, tl_pos]
  exact numL_len (by decide) (by omega)
end My
namespace My
open PySem L2 PySem.Calls PyProof.Rows
open TL NumText
theorem tx_digit (i : Int) : ∃ c ∈ tl (tx i), 48 ≤ c := by
  have h : ∀ n : Nat, ∃ c ∈ numL n, 48 ≤ c := fun n => by
    obtain ⟨c, r, e⟩ := List.exists_cons_of_ne_nil (numL_ne n)
    have : c ∈ numL n := by rw [e]; exact .head _
    exact ⟨c, this, (numL_digits n c this).1⟩
  cases i with
  | ofNat n =>
    rw [show tl (tx (Int.ofNat n)) = numL n from tl_pos n]
    exact h n
  | negSucc n =>
    rw [tl_neg]
    obtain ⟨c, m, l⟩ := h (n + 1)
    exact ⟨c, .tail _ m, l⟩
theorem mem_joinL {S : List Nat} {c : Nat} : ∀ {ps : List (List Nat)} {p : List Nat}, p ∈ ps → c ∈ p → c ∈ joinL S ps
  | [], _, h, _ => nomatch h
  | [q], p, h, m => by
    rw [List.mem_singleton.mp h] at m
    exact m
  | q :: r :: t, p, h, m => by
    show c ∈ q ++ (S ++ joinL S (r :: t))
    rcases List.mem_cons.mp h with e | e
    · rw [← e]
      exact List.mem_append_left _ m
    · exact List.mem_append_right _ (List.mem_append_right _ (mem_joinL e m))
theorem join_not_dash {ns : List Int} (h : ns ≠ []) : Txt.join (" " : Str) (ns.map tx) ≠ ("-" : Str) := by
  intro e
  obtain ⟨n, r, rfl⟩ := List.exists_cons_of_ne_nil h
  obtain ⟨c, m, l⟩ := tx_digit n
  have m2 : c ∈ tl (Txt.join (" " : Str) ((n :: r).map tx)) := by
    rw [join_eq, tl_join]
    exact mem_joinL (List.mem_map_of_mem (List.mem_map_of_mem (.head _))) m
  rw [e] at m2
  have : c = 45 := List.mem_singleton.mp m2
  omega
theorem split_txs {ns : List Int} (h : ns ≠ []) : Txt.split (Txt.join (" " : Str) (ns.map tx)) (" " : Str) = ns.map tx := by
  refine split_join (s := 32) (S := []) (by decide +kernel) (by decide +kernel) (by simpa using h) ?_
  intro p hp
  obtain ⟨n, _, rfl⟩ := List.mem_map.mp hp
  exact tx_free (.inl (by decide)) (by decide)
end My
namespace My
open PySem L2 PySem.Calls PyProof.Rows
open TL NumText
theorem joinL_mem {S : List Nat} {c : Nat} : ∀ {ps : List (List Nat)}, c ∈ joinL S ps → c ∈ S ∨ ∃ p ∈ ps, c ∈ p
  | [], h => nomatch h
  | [q], h => .inr ⟨q, .head _, h⟩
  | q :: r :: t, h => by
    have h' : c ∈ q ++ (S ++ joinL S (r :: t)) := h
    rcases List.mem_append.mp h' with m | m
    · exact .inr ⟨q, .head _, m⟩
    · rcases List.mem_append.mp m with m | m
      · exact .inl m
      · rcases joinL_mem m with e | ⟨p, hp, m⟩
        · exact .inl e
        · exact .inr ⟨p, .tail _ hp, m⟩
theorem join_free {y : Str} {ps : List Str} {c : Nat} (h1 : c ∉ tl y) (h2 : ∀ p ∈ ps, c ∉ tl p) : c ∉ tl (Txt.join y ps) := by
  rw [join_eq, tl_join]
  intro h
  rcases joinL_mem h with m | ⟨p, hp, m⟩
  · exact h1 m
  · obtain ⟨q, hq, rfl⟩ := List.mem_map.mp hp
    exact h2 q hq m
theorem cut_front (x y : Str) : cutS (x ++ y) (some (x.length : Int)) none = y := by
  apply ext_tl
  unfold cutS
  show ((tl (x ++ y)).drop _).take _ = _
  have e : (tl (x ++ y)).length = (x ++ y).length := (len_tl _).symm
  have e2 : (x ++ y).length = x.length + y.length := by rw [len_tl, tl_append, List.length_append, ← len_tl, ← len_tl]
  have h1 : HT.sIx (x ++ y).length 0 (some (x.length : Int)) = x.length := by
    rw [e2]
    simp only [HT.sIx]
    first | omega | (simp; omega) | simp
  have h2 : HT.sIx (x ++ y).length (x ++ y).length none = (x ++ y).length := by simp [HT.sIx]
  rw [h1, h2, tl_append, len_tl x, List.drop_left, List.take_of_length_le]
  rw [e2, len_tl x, len_tl y]
  omega
end My
/-! Comprehensions that only make new things: the list of g of each item. -/
namespace My
open PySem L2 PySem.Calls PyProof.Rows
theorem same_upd3 {H : Hp} {p : Addr} {o : HO} (h : H p = none) : Same H (upd H p o) := by
  intro b x e
  rw [upd_ne (ne_of_none e h)]
  exact e
section
variable {K : PySem.W.Frag} {a D : Addr} {xs : List V} {i : Nat} {vs : List Nat} {te : TE} {σ : L2.St} {H1 : Hp} {Qd : Hp → Prop}
theorem map_listS (gs : List V) (hl : gs.length = xs.length) (hS : ∀ H, Same H1 H → SqL K H a xs) (nD : H1 D = none) (sz : xs.length ≤ 1000)
    (hw : ∀ x, wipe ((wipe σ vs).set i (some x)) vs = wipe σ vs)
    (hs : ∀ (j : Nat) (x y : V) (H : Hp), xs[j]? = some x → gs[j]? = some y → Same H1 H → ∀ R : VK, (∀ H4, Same H H4 → R y H4) → te ((wipe σ vs).set i (some x)) H R)
    (hd : ∀ H, Same H1 H → H D = some (.lst gs) → Qd H) :
    ∃ W : Nat → Nat → Hp → Prop, (∃ m, W 0 m (upd H1 D (.lst []))) ∧ ∀ i0 m H, W i0 m H →
      ((Itl K a).stop i0 H ∧ Qd H) ∨ ((Itl K a).go i0 H ∧ ∃ Nx : Hp → Prop, (∀ H', Nx H' → ∃ m', m' < m ∧ W (i0 + 1) m' H') ∧ ∀ x H', (Itl K a).yld i0 H x H' → gName i x (wipe σ vs) H' fun σ2 H2 => wipe σ2 vs = wipe σ vs ∧ tYes σ2 H2 fun b H3 =>
        if b = true then te σ2 H3 fun y H4 => ∃ acc, H4 D = some (.lst acc) ∧ acc.length < sizeLine ∧ Nx (upd H4 D (.lst (acc ++ [y]))) else Nx H3) := by
  refine lc_list (fun j H => Same H1 H ∧ H D = some (.lst (gs.take j))) ⟨same_upd3 nD, upd_same⟩ (fun j H _ h => hS H h.1) ?_ ?_
  · rintro j x H hx ⟨hj, e⟩
    refine ⟨hw x, ?_⟩
    dsimp only [tYes]
    rw [if_pos rfl]
    have hlt := (List.getElem?_eq_some_iff.mp hx).1
    have hy : gs[j]? = some gs[j] := List.getElem?_eq_getElem (by omega)
    refine hs j x _ H hx hy hj _ fun H4 s4 => ⟨_, s4 _ _ e, ?_, ?_, ?_⟩
    · rw [List.length_take]
      exact Nat.lt_of_lt_of_le (by omega : _ < 1001) (by decide)
    · intro b u e2
      rw [upd_ne (ne_of_none e2 nD)]
      exact s4 _ _ (hj _ _ e2)
    · rw [upd_same, List.take_succ, hy]
      rfl
  · rintro H ⟨hj, e⟩
    rw [← hl, List.take_length] at e
    exact hd H hj e
theorem map_listG (gs : List V) (hl : gs.length = xs.length) (hS : H1 a = some (.lst xs)) (nD : H1 D = none) (sz : xs.length ≤ 1000)
    (hw : ∀ x, wipe ((wipe σ vs).set i (some x)) vs = wipe σ vs)
    (hs : ∀ (j : Nat) (x y : V) (H : Hp), xs[j]? = some x → gs[j]? = some y → Same H1 H → ∀ R : VK, (∀ H4, Same H H4 → R y H4) → te ((wipe σ vs).set i (some x)) H R)
    (hd : ∀ H, Same H1 H → H D = some (.lst gs) → Qd H) :
    ∃ W : Nat → Nat → Hp → Prop, (∃ m, W 0 m (upd H1 D (.lst []))) ∧ ∀ i0 m H, W i0 m H →
      ((Itl K a).stop i0 H ∧ Qd H) ∨ ((Itl K a).go i0 H ∧ ∃ Nx : Hp → Prop, (∀ H', Nx H' → ∃ m', m' < m ∧ W (i0 + 1) m' H') ∧ ∀ x H', (Itl K a).yld i0 H x H' → gName i x (wipe σ vs) H' fun σ2 H2 => wipe σ2 vs = wipe σ vs ∧ tYes σ2 H2 fun b H3 =>
        if b = true then te σ2 H3 fun y H4 => ∃ acc, H4 D = some (.lst acc) ∧ acc.length < sizeLine ∧ Nx (upd H4 D (.lst (acc ++ [y]))) else Nx H3) :=
  map_listS gs hl (fun H s => SqL.of (s _ _ hS)) nD sz hw hs hd
theorem map_list (g : V → V) (hS : H1 a = some (.lst xs)) (nD : H1 D = none) (sz : xs.length ≤ 1000)
    (hw : ∀ x, wipe ((wipe σ vs).set i (some x)) vs = wipe σ vs)
    (hs : ∀ (j : Nat) (x : V) (H : Hp), xs[j]? = some x → Same H1 H → ∀ R : VK, (∀ H4, Same H H4 → R (g x) H4) → te ((wipe σ vs).set i (some x)) H R)
    (hd : ∀ H, Same H1 H → H D = some (.lst (xs.map g)) → Qd H) :
    ∃ W : Nat → Nat → Hp → Prop, (∃ m, W 0 m (upd H1 D (.lst []))) ∧ ∀ i0 m H, W i0 m H →
      ((Itl K a).stop i0 H ∧ Qd H) ∨ ((Itl K a).go i0 H ∧ ∃ Nx : Hp → Prop, (∀ H', Nx H' → ∃ m', m' < m ∧ W (i0 + 1) m' H') ∧ ∀ x H', (Itl K a).yld i0 H x H' → gName i x (wipe σ vs) H' fun σ2 H2 => wipe σ2 vs = wipe σ vs ∧ tYes σ2 H2 fun b H3 =>
        if b = true then te σ2 H3 fun y H4 => ∃ acc, H4 D = some (.lst acc) ∧ acc.length < sizeLine ∧ Nx (upd H4 D (.lst (acc ++ [y]))) else Nx H3) := by
  refine map_listG (xs.map g) (List.length_map ..) hS nD sz hw (fun j x y H hx hy sH R hR => ?_) hd
  rw [List.getElem?_map, hx] at hy
  cases hy
  exact hs j x H hx sH R hR
theorem map_tupS (gs : List V) (hl : gs.length = xs.length) (hS : ∀ H, Same H1 H → SqT K H a xs) (nD : H1 D = none) (sz : xs.length ≤ 1000)
    (hw : ∀ x, wipe ((wipe σ vs).set i (some x)) vs = wipe σ vs)
    (hs : ∀ (j : Nat) (x y : V) (H : Hp), xs[j]? = some x → gs[j]? = some y → Same H1 H → ∀ R : VK, (∀ H4, Same H H4 → R y H4) → te ((wipe σ vs).set i (some x)) H R)
    (hd : ∀ H, Same H1 H → H D = some (.lst gs) → Qd H) :
    ∃ W : Nat → Nat → Hp → Prop, (∃ m, W 0 m (upd H1 D (.lst []))) ∧ ∀ i0 m H, W i0 m H →
      ((Itt K a).stop i0 H ∧ Qd H) ∨ ((Itt K a).go i0 H ∧ ∃ Nx : Hp → Prop, (∀ H', Nx H' → ∃ m', m' < m ∧ W (i0 + 1) m' H') ∧ ∀ x H', (Itt K a).yld i0 H x H' → gName i x (wipe σ vs) H' fun σ2 H2 => wipe σ2 vs = wipe σ vs ∧ tYes σ2 H2 fun b H3 =>
        if b = true then te σ2 H3 fun y H4 => ∃ acc, H4 D = some (.lst acc) ∧ acc.length < sizeLine ∧ Nx (upd H4 D (.lst (acc ++ [y]))) else Nx H3) := by
  refine lc_tup (fun j H => Same H1 H ∧ H D = some (.lst (gs.take j))) ⟨same_upd3 nD, upd_same⟩ (fun j H _ h => hS H h.1) ?_ ?_
  · rintro j x H hx ⟨hj, e⟩
    refine ⟨hw x, ?_⟩
    dsimp only [tYes]
    rw [if_pos rfl]
    have hlt := (List.getElem?_eq_some_iff.mp hx).1
    have hy : gs[j]? = some gs[j] := List.getElem?_eq_getElem (by omega)
    refine hs j x _ H hx hy hj _ fun H4 s4 => ⟨_, s4 _ _ e, ?_, ?_, ?_⟩
    · rw [List.length_take]
      exact Nat.lt_of_lt_of_le (by omega : _ < 1001) (by decide)
    · intro b u e2
      rw [upd_ne (ne_of_none e2 nD)]
      exact s4 _ _ (hj _ _ e2)
    · rw [upd_same, List.take_succ, hy]
      rfl
  · rintro H ⟨hj, e⟩
    rw [← hl, List.take_length] at e
    exact hd H hj e
theorem map_tupG (gs : List V) (hl : gs.length = xs.length) (hS : H1 a = some (.tup xs)) (nD : H1 D = none) (sz : xs.length ≤ 1000)
    (hw : ∀ x, wipe ((wipe σ vs).set i (some x)) vs = wipe σ vs)
    (hs : ∀ (j : Nat) (x y : V) (H : Hp), xs[j]? = some x → gs[j]? = some y → Same H1 H → ∀ R : VK, (∀ H4, Same H H4 → R y H4) → te ((wipe σ vs).set i (some x)) H R)
    (hd : ∀ H, Same H1 H → H D = some (.lst gs) → Qd H) :
    ∃ W : Nat → Nat → Hp → Prop, (∃ m, W 0 m (upd H1 D (.lst []))) ∧ ∀ i0 m H, W i0 m H →
      ((Itt K a).stop i0 H ∧ Qd H) ∨ ((Itt K a).go i0 H ∧ ∃ Nx : Hp → Prop, (∀ H', Nx H' → ∃ m', m' < m ∧ W (i0 + 1) m' H') ∧ ∀ x H', (Itt K a).yld i0 H x H' → gName i x (wipe σ vs) H' fun σ2 H2 => wipe σ2 vs = wipe σ vs ∧ tYes σ2 H2 fun b H3 =>
        if b = true then te σ2 H3 fun y H4 => ∃ acc, H4 D = some (.lst acc) ∧ acc.length < sizeLine ∧ Nx (upd H4 D (.lst (acc ++ [y]))) else Nx H3) :=
  map_tupS gs hl (fun H s => SqT.of (s _ _ hS)) nD sz hw hs hd
theorem map_tup (g : V → V) (hS : H1 a = some (.tup xs)) (nD : H1 D = none) (sz : xs.length ≤ 1000)
    (hw : ∀ x, wipe ((wipe σ vs).set i (some x)) vs = wipe σ vs)
    (hs : ∀ (j : Nat) (x : V) (H : Hp), xs[j]? = some x → Same H1 H → ∀ R : VK, (∀ H4, Same H H4 → R (g x) H4) → te ((wipe σ vs).set i (some x)) H R)
    (hd : ∀ H, Same H1 H → H D = some (.lst (xs.map g)) → Qd H) :
    ∃ W : Nat → Nat → Hp → Prop, (∃ m, W 0 m (upd H1 D (.lst []))) ∧ ∀ i0 m H, W i0 m H →
      ((Itt K a).stop i0 H ∧ Qd H) ∨ ((Itt K a).go i0 H ∧ ∃ Nx : Hp → Prop, (∀ H', Nx H' → ∃ m', m' < m ∧ W (i0 + 1) m' H') ∧ ∀ x H', (Itt K a).yld i0 H x H' → gName i x (wipe σ vs) H' fun σ2 H2 => wipe σ2 vs = wipe σ vs ∧ tYes σ2 H2 fun b H3 =>
        if b = true then te σ2 H3 fun y H4 => ∃ acc, H4 D = some (.lst acc) ∧ acc.length < sizeLine ∧ Nx (upd H4 D (.lst (acc ++ [y]))) else Nx H3) := by
  refine map_tupG (xs.map g) (List.length_map ..) hS nD sz hw (fun j x y H hx hy sH R hR => ?_) hd
  rw [List.getElem?_map, hx] at hy
  cases hy
  exact hs j x H hx sH R hR
theorem map_range {lo : Int} {n : Nat} (gs : List V) (hl : gs.length = n) (nD : H1 D = none) (sz : n ≤ 1000)
    (hw : ∀ x, wipe ((wipe σ vs).set i (some x)) vs = wipe σ vs)
    (hs : ∀ (j : Nat) (y : V) (H : Hp), j < n → gs[j]? = some y → Same H1 H → ∀ R : VK, (∀ H4, Same H H4 → R y H4) → te ((wipe σ vs).set i (some (.int (lo + j)))) H R)
    (hd : ∀ H, Same H1 H → H D = some (.lst gs) → Qd H) :
    ∃ W : Nat → Nat → Hp → Prop, (∃ m, W 0 m (upd H1 D (.lst []))) ∧ ∀ i0 m H, W i0 m H →
      ((Itr lo n).stop i0 H ∧ Qd H) ∨ ((Itr lo n).go i0 H ∧ ∃ Nx : Hp → Prop, (∀ H', Nx H' → ∃ m', m' < m ∧ W (i0 + 1) m' H') ∧ ∀ x H', (Itr lo n).yld i0 H x H' → gName i x (wipe σ vs) H' fun σ2 H2 => wipe σ2 vs = wipe σ vs ∧ tYes σ2 H2 fun b H3 =>
        if b = true then te σ2 H3 fun y H4 => ∃ acc, H4 D = some (.lst acc) ∧ acc.length < sizeLine ∧ Nx (upd H4 D (.lst (acc ++ [y]))) else Nx H3) := by
  refine lc_range (fun j H => Same H1 H ∧ H D = some (.lst (gs.take j))) ⟨same_upd3 nD, upd_same⟩ ?_ ?_
  · rintro j H hx ⟨hj, e⟩
    refine ⟨hw _, ?_⟩
    dsimp only [tYes]
    rw [if_pos rfl]
    have hy : gs[j]? = some gs[j] := List.getElem?_eq_getElem (by omega)
    refine hs j _ H hx hy hj _ fun H4 s4 => ⟨_, s4 _ _ e, ?_, ?_, ?_⟩
    · rw [List.length_take]
      exact Nat.lt_of_lt_of_le (by omega : _ < 1001) (by decide)
    · intro b u e2
      rw [upd_ne (ne_of_none e2 nD)]
      exact s4 _ _ (hj _ _ e2)
    · rw [upd_same, List.take_succ, hy]
      rfl
  · rintro H ⟨hj, e⟩
    rw [← hl, List.take_length] at e
    exact hd H hj e
variable {F : Nat → V → Prop}
theorem comp_rangeD {lo : Int} {n : Nat} (I : Nat → Hp → Prop) (F : Nat → V → Prop) (h0 : I 0 H1) (hI : ∀ j H o, I j H → I j (upd H D o)) (sz : n ≤ 1000)
    (hw : ∀ x, wipe ((wipe σ vs).set i (some x)) vs = wipe σ vs)
    (hs : ∀ j H ys, j < n → I j H → H D = some (.lst ys) → ∀ R : VK, (∀ y H4, F j y → I (j + 1) H4 → H4 D = H D → R y H4) → te ((wipe σ vs).set i (some (.int (lo + j)))) H R)
    (hd : ∀ H ys, I n H → H D = some (.lst ys) → Gives F n ys → Qd H) :
    ∃ W : Nat → Nat → Hp → Prop, (∃ m, W 0 m (upd H1 D (.lst []))) ∧ ∀ i0 m H, W i0 m H →
      ((Itr lo n).stop i0 H ∧ Qd H) ∨ ((Itr lo n).go i0 H ∧ ∃ Nx : Hp → Prop, (∀ H', Nx H' → ∃ m', m' < m ∧ W (i0 + 1) m' H') ∧ ∀ x H', (Itr lo n).yld i0 H x H' → gName i x (wipe σ vs) H' fun σ2 H2 => wipe σ2 vs = wipe σ vs ∧ tYes σ2 H2 fun b H3 =>
        if b = true then te σ2 H3 fun y H4 => ∃ acc, H4 D = some (.lst acc) ∧ acc.length < sizeLine ∧ Nx (upd H4 D (.lst (acc ++ [y]))) else Nx H3) := by
  refine lc_range (fun j H => I j H ∧ ∃ ys, H D = some (.lst ys) ∧ Gives F j ys) ⟨hI 0 _ _ h0, [], upd_same, rfl, fun j y h => by cases h⟩ ?_ ?_
  · rintro j H hx ⟨hj, ys, e, g⟩
    refine ⟨hw _, ?_⟩
    dsimp only [tYes]
    rw [if_pos rfl]
    refine hs j H ys hx hj e _ fun y H4 hy hj4 e4 => ⟨ys, e4.trans e, ?_, hI _ _ _ hj4, _, upd_same, g.snoc hy⟩
    rw [g.1]
    exact Nat.lt_of_lt_of_le (by omega : j < 1001) (by decide)
  · rintro H ⟨hj, ys, e, g⟩
    exact hd H ys hj e g
theorem comp_listD (I : Nat → Hp → Prop) (F : Nat → V → Prop) (h0 : I 0 H1) (hI : ∀ j H o, I j H → I j (upd H D o)) (hS : ∀ j H, I j H → SqL K H a xs) (sz : xs.length ≤ 1000)
    (hw : ∀ x, wipe ((wipe σ vs).set i (some x)) vs = wipe σ vs)
    (hs : ∀ (j : Nat) (x : V) (H : Hp) (ys : List V), xs[j]? = some x → I j H → H D = some (.lst ys) → ∀ R : VK, (∀ y H4, F j y → I (j + 1) H4 → H4 D = H D → R y H4) → te ((wipe σ vs).set i (some x)) H R)
    (hd : ∀ H ys, I xs.length H → H D = some (.lst ys) → Gives F xs.length ys → Qd H) :
    ∃ W : Nat → Nat → Hp → Prop, (∃ m, W 0 m (upd H1 D (.lst []))) ∧ ∀ i0 m H, W i0 m H →
      ((Itl K a).stop i0 H ∧ Qd H) ∨ ((Itl K a).go i0 H ∧ ∃ Nx : Hp → Prop, (∀ H', Nx H' → ∃ m', m' < m ∧ W (i0 + 1) m' H') ∧ ∀ x H', (Itl K a).yld i0 H x H' → gName i x (wipe σ vs) H' fun σ2 H2 => wipe σ2 vs = wipe σ vs ∧ tYes σ2 H2 fun b H3 =>
        if b = true then te σ2 H3 fun y H4 => ∃ acc, H4 D = some (.lst acc) ∧ acc.length < sizeLine ∧ Nx (upd H4 D (.lst (acc ++ [y]))) else Nx H3) := by
  refine lc_list (fun j H => I j H ∧ ∃ ys, H D = some (.lst ys) ∧ Gives F j ys) ⟨hI 0 _ _ h0, [], upd_same, rfl, fun j y h => by cases h⟩ (fun j H _ h => hS j H h.1) ?_ ?_
  · rintro j x H hx ⟨hj, ys, e, g⟩
    refine ⟨hw x, ?_⟩
    dsimp only [tYes]
    rw [if_pos rfl]
    refine hs j x H ys hx hj e _ fun y H4 hy hj4 e4 => ⟨ys, e4.trans e, ?_, hI _ _ _ hj4, _, upd_same, g.snoc hy⟩
    rw [g.1]
    have := (List.getElem?_eq_some_iff.mp hx).1
    exact Nat.lt_of_lt_of_le (by omega : j < 1001) (by decide)
  · rintro H ⟨hj, ys, e, g⟩
    exact hd H ys hj e g
end
end My
/-! for i, x in enumerate(xs, start=k) -/
namespace My
open PySem L2 PySem.Calls PyProof.Rows
section
variable {M : Model} {A : Around} {E : Value → Shared → Prop} {s : Shared} {env : Env}
theorem callWith_type_kwB {pos : Pos} {T : String} {first : List Value} {args : List (Bool × Sem Value)} {keywords : List (Option Str × Sem Value)} {Q : Value → Shared → Prop}
    (hplain : args.any (·.1) = false) (hkw : keywords.any (·.1.isNone) = false)
    (h : wpAny M A (evalArgs (.type T) true args keywords) (fun a s₁ => wpAny M A (call (.type T) (first ++ a.pos) a.kw) Q E s₁) E s) :
    wpAny M A (callWith pos (.type T) first args keywords) Q E s := by
  unfold callWith
  refine wpAny_bind (wpAny_holding (wpAny_mono h (fun a s₁ h₁ => wpAny_bind (wpAny_standAt ?_)) fun _ _ x => x))
  simp only [hplain, hkw, Bool.or_false]
  refine wpAny_bind (wpAny_pure ?_)
  exact wpAny_bind (wpAny_mono h₁ (fun r s₂ hr => wpAny_bind (wpAny_holding (wpAny_point (wpAny_pure hr)))) fun _ _ x => x)
theorem callWith_type_kw {pos : Pos} {T : String} {e : Expr} {rest : List Expr} {kws : List Keyword} {Q : Value → Shared → Prop}
    (h : wpAny M A (spliced (backTo pos (starEach (e :: rest) env))) (fun vs s₁ => wpAny M A (evalAll ((backToKw pos (keywordEach kws env)).map (·.2)))
      (fun kvs s₂ => wpAny M A (call (.type T) vs (((backToKw pos (keywordEach kws env)).filterMap (·.1)).zip kvs)) Q E s₂) E s₁) E s)
    (he : backTo pos (starEach (e :: rest) env) = (false, eval e env) :: backTo pos (starEach rest env) := by rfl)
    (hplain : (backTo pos (starEach (e :: rest) env)).any (·.1) = false := by rfl)
    (hall : (backToKw pos (keywordEach kws env)).all (·.1.isSome) = true := by rfl)
    (hkw : (backToKw pos (keywordEach kws env)).any (·.1.isNone) = false := by rfl) :
    wpAny M A (callWith pos (.type T) [] (backTo pos (starEach (e :: rest) env)) (backToKw pos (keywordEach kws env))) Q E s := by
  refine callWith_type_kwB hplain hkw ?_
  rw [he] at h ⊢
  exact evalArgs_kwB hall h
end
/-- what a walk counted from k gives: a fresh pair of the count and the item of the list at a -/
def Ctd (K : PySem.W.Frag) (a : Addr) (k : Int) : It where
  go j G := ∃ (ys : List V) (y : V), SqL K G a ys ∧ ys[j]? = some y
  yld j G z G' := ∃ T y, z = .ref T ∧ G T = none ∧ G' = upd G T (.tup [.int (k + (j : Nat)), y]) ∧ ∀ ys, SqL K G a ys → ys[j]? = some y
  stop j G := ∃ ys : List V, SqL K G a ys ∧ ys.length ≤ j
/-- the counter's state before turn j -/
def CtdSt (a cnt li : Addr) (k : Int) (j : Nat) (g : Heap) : Prop := (∃ z, IsEnum g cnt li (k + ((j : Nat) : Int)) z) ∧ g.IsListIter li a j ∧ cnt ≠ li
theorem CtdSt.apart {a cnt li : Addr} {k : Int} {j : Nat} {g : Heap} {ws : Array Value} (c : CtdSt a cnt li k j g) (l : g.IsList a ws) : a ≠ li ∧ a ≠ cnt := by
  obtain ⟨⟨z, c1⟩, ⟨o1, q1, k1, _⟩, _⟩ := c
  obtain ⟨o2, q2, k2, _⟩ := l
  refine ⟨fun e => ?_, fun e => ?_⟩
  · subst e
    have e2 : o1 = o2 := Option.some.inj (q1.symm.trans q2)
    rw [e2, k2] at k1
    exact absurd k1 (by decide)
  · subst e
    have e2 := Option.some.inj (c1.symm.trans q2)
    rw [← e2] at k2
    exact absurd (show Value.type "enumerate" = Value.type "list" from k2) (by decide)
section
variable {P : Program} {w : World} {A : Around} {E : Value → Shared → Prop} {s : Shared}
/-- the counter is at its end -/
theorem ctd_end {a cnt li : Addr} {j : Nat} {c : Int} {z : Value} {ws : Array Value} {Q : Option Value → Shared → Prop} (cold : A.handled = none) (c1 : IsEnum s.heap cnt li c z) (c2 : s.heap.IsListIter li a j) (l : s.heap.IsList a ws)
    (o : ws[j]? = none) (q : ∀ g, Heap.ExtBut li s.heap g → Q none { s with heap := g }) : wpAny (model P w) A (pyNext (.ref cnt)) Q E s := by
  have ty : s.TypeIs (.ref cnt) "enumerate" := ⟨_, c1, rfl⟩
  have body : wpAny (model P w) A.in1 (Builtin.«enumerate.__next__» ⟨[.ref cnt], []⟩) (fun fin s' => False)
      (fun x s' => ∃ g, Heap.ExtBut li s.heap g ∧ s' = { s with heap := g } ∧ ∃ y, x = .ref y ∧ ∃ ob, g.get? y = some ob ∧ ob.cls = .type "StopIteration") s := by
    show wpAny _ _ (field (.ref cnt) 2 >>= _) _ _ _
    refine wpAny_bind (wpAny_field c1 rfl (x := .ref li) rfl (wpAny_bind ?_))
    exact wpAny_nextOf_list_end cold c2 l o fun g y eb ob => ⟨g, eb, rfl, y, rfl, ob⟩
  unfold pyNext
  refine wpAny_bind (wpAny_attempt (wpAny_callSpecial?_slot (name := Str.ofString "__next__") ty F.slot_enumerate_next ?_))
  refine wpAny_call_entry F.slot_enumerate_next ty F.entry_enumerate_next (wpAny_mono body (fun _ _ f => f.elim) fun x s' h => ?_) (F.args_enumerate_next_1 _)
  obtain ⟨g, eb, rfl, y, rfl, ob, e1, e2⟩ := h
  exact wpAny_bind (wpAny_isInstance (T := "StopIteration") (b := true) ⟨ob, e1, e2⟩ isSubtype_stop (wpAny_pure (q g eb)))
end
section
variable {P : Program} {w : World} {K : PySem.W.Frag} {elts : List Expr} {kk : Nat} {tpos : Pos}
/-- one turn: the next pair, handed out -/
theorem ctd_item {X : Cx} {pins : List (Addr × Obj)} {σ : L2.St} {G : Hp} {E : Value → Shared → Prop} {a cnt li : Addr} {k : Int} {j : Nat} {s : Shared} {ys : List V} {y : V}
    (cold : X.A.handled = none) (I : Inv X pins σ G s) (fr : ∀ b ∈ [cnt, li], FpOk X pins G b) (c : CtdSt a cnt li k j s.heap) (l : SqL X.K G a ys) (hy : ys[j]? = some y) :
    wpAny (model X.prog X.w) X.A (pyNext (.ref cnt)) (fun r s1 => ∃ u, r = some u ∧
      wpAny (model X.prog X.w) X.A (letOwnedTupleGo (.Tuple elts kk tpos) (.ref cnt) u) (fun _ s2 => ∃ x G', Inv X pins σ G' s2 ∧ RelV x u ∧ (Ctd X.K a k).yld j G x G' ∧ CtdSt a cnt li k (j + 1) s2.heap ∧ ∀ b ∈ [cnt, li], G' b = none) E s1) E s := by
  obtain ⟨ws, rel, at_, _⟩ := I.list l
  obtain ⟨v, hv, rv⟩ := rel.get hy
  obtain ⟨nli, ncnt⟩ := c.apart at_.isList
  obtain ⟨⟨z, c1⟩, c2, ne⟩ := c
  have l1 : cnt < s.heap.objs.size := Heap.lt_size c1
  have l2 : li < s.heap.objs.size := by
    obtain ⟨o, q, _⟩ := c2
    exact Heap.lt_size q
  have small : j < ws.toArray.size := by simpa using (List.getElem?_eq_some_iff.mp hv).1
  have nfp : cnt ∉ [li, a] := by
    intro m
    rcases List.mem_cons.mp m with e | m
    · exact ne e
    · exact ncnt (List.mem_singleton.mp m).symm
  have cold1 : X.A.in1.handled = none := cold
  refine wpAny_pyNext_enum_itemC (Draws.list cold1 li a nli ws.toArray) c1 ⟨c2, at_.isList⟩ small ne nfp fun v2 g tk hv2 out c2' tup sz keep => ?_
  have e : v2 = v := by
    have : ws.toArray[j]? = some v := by simpa using hv
    exact Option.some.inj (hv2.symm.trans this)
  subst e
  refine ⟨_, rfl, wpAny_letOwnedTupleGo_enum (s := { s with heap := g, toks := tk + 1 }) out fun g2 c1' same => ?_⟩
  have tup2 := (same.2 _ (Nat.ne_of_gt l1)).trans tup
  have made : ObjOk X.prog X.w (upd G s.heap.objs.size (.tup [.int (k + (j : Nat)), y])) g2 s.heap.objs.size (.tup [.int (k + (j : Nat)), y]) :=
    ⟨by show 2 ≤ sizeLine; decide, _, .cons ⟨tk, rfl⟩ (.cons rv .nil), ⟨_, tup2, rfl, _, rfl⟩⟩
  have rest : ∀ b o, b ∉ [cnt, li] → s.heap.get? b = some o → g2.get? b = some o := by
    intro b o nb q
    have n1 : b ≠ cnt := fun e => nb (by rw [e]; exact .head _)
    have n2 : b ≠ li := fun e => nb (by rw [e]; exact .tail _ (.head _))
    exact (same.2 b n1).trans (keep b o n1 n2 q)
  refine ⟨.ref s.heap.objs.size, _, I.turnedNew (ch := [cnt, li]) rest fr (Nat.le_refl _) made, rfl, ⟨_, y, rfl, I.hok.fresh (Nat.le_refl _), rfl, fun zs hz => by rw [I.list_inj hz l]; exact hy⟩, ⟨⟨v2, ?_⟩, c2'.1.at fun o q => (same.2 li (Ne.symm ne)).trans q, ne⟩, ?_⟩
  · rw [show k + ((j + 1 : Nat) : Int) = k + ((j : Nat) : Int) + 1 by omega]
    exact c1'
  · intro b hb
    have lb : b < s.heap.objs.size := by
      rcases List.mem_cons.mp hb with e | e
      · rw [e]
        exact l1
      · rw [List.mem_singleton.mp e]
        exact l2
    rw [upd_ne (Nat.ne_of_lt lb)]
    exact (fr b hb).1
theorem ctd_turn (a cnt li : Addr) (k : Int) : Turn P w K (.Tuple elts kk tpos) (Ctd K a k) [cnt, li] cnt (CtdSt a cnt li k) := by
  refine { mem := .head _, obj := ?_, keep := ?_, item := ?_, done := ?_, self := ?_ }
  · intro j g c b m
    obtain ⟨⟨z, c1⟩, ⟨o, q, _, d⟩, _⟩ := c
    rcases List.mem_cons.mp m with rfl | m
    · exact ⟨_, c1, fun v q => nomatch q⟩
    · rw [List.mem_singleton.mp m]
      exact ⟨o, q, fun v q => by rw [d] at q; cases q⟩
  · intro j g g' c kp
    obtain ⟨⟨z, c1⟩, c2, ne⟩ := c
    exact ⟨⟨z, kp _ (.head _) _ c1⟩, c2.at fun o q => kp _ (.tail _ (.head _)) o q, ne⟩
  · rintro X rfl rfl rfl calm j pins s σ G E I fr c ⟨ys, y, l, hy⟩
    exact ctd_item (I.ok.hd calm) I fr c l hy
  · rintro X rfl rfl rfl calm j pins s σ G E I fr c ⟨ys, l, hn⟩
    obtain ⟨ws, rel, at_, _⟩ := I.list l
    obtain ⟨f0, f1, f2, f3, f4, f5⟩ := fr li (.tail _ (.head _))
    have len := rel.length
    obtain ⟨⟨z, c1⟩, c2, ne⟩ := c
    exact ctd_end (I.ok.hd calm) c1 c2 at_.isList (by simp; omega) fun g eb => ⟨rfl, I.turned (t' := s.toks) (fun b o nb q => eb b o nb q) f0 f1 f3 f4 f5⟩
  · intro B j s Q E c q
    obtain ⟨⟨z, c1⟩, _⟩ := c
    exact wpAny_pyIter_enum c1 q
/-- enumerate(xs, start=n) -/
def iCtd (K : PySem.W.Frag) (ta : TA) (tk : TA) : TI := fun σ H R => ta σ H fun vs H1 => tk σ H1 fun ks H2 => ∃ a xs k, vs = [.ref a] ∧ ks = [.int k] ∧ -(2 ^ 63) ≤ k ∧ k < 2 ^ 63 ∧ SqL K H2 a xs ∧ R (Ctd K a k) H2
theorem pi_ctd {X : Cx} {e : Expr} {ta tk : TA} {p pos kpos : Pos} {ke : Expr} (hg : Gl X "enumerate") (hm : X.mg "enumerate" = none) (ha : PA X [e] ta) (hk : PK X [⟨some "start", ke, kpos⟩] tk)
    (he : backTo pos (starEach [e] X.env) = (false, eval e X.env) :: backTo pos (starEach [] X.env) := by rfl) :
    PI X (.Tuple elts kk tpos) (.Call (.Name "enumerate" p) [e] [⟨some "start", ke, kpos⟩] pos) (iCtd X.K ta tk) := by
  refine ⟨fun pins s σ H R I h => wpAny_Call_Name_kw (ld_blt I hg hm boot_enumerate (callWith_type_kw (thn (ha.run pos pins s σ H _ I h) fun us s1 ⟨vs, H1, I1, r1, q1⟩ => thn (hk.run pos pins s1 σ H1 _ I1 q1) fun ws s2 ⟨ks, H2, I2, r2, q2⟩ => ?_) he (by rw [he]; rfl)))⟩
  obtain ⟨a, xs, k, rfl, rfl, k0, k1, l, q⟩ := q2
  obtain ⟨v1, rfl, rv1⟩ : ∃ v1, us = [v1] ∧ RelV (.ref a) v1 := by
    cases r1 with
    | cons r rr => cases rr; exact ⟨_, rfl, r⟩
  obtain ⟨v2, rfl, t, rfl⟩ : ∃ v2, ws = [v2] ∧ RelV (.int k) v2 := by
    cases r2 with
    | cons r rr => cases rr; exact ⟨_, rfl, r⟩
  obtain rfl : v1 = Value.ref a := rv1
  obtain ⟨its, rv, at_, _⟩ := I2.list l
  refine enum_begins_start (begins_list a its.toArray) at_.isList k0 k1 fun g c1 it_ sz kp => wpAny_pyIter_enum c1 ?_
  have I3 : Inv X pins σ H2 { s2 with heap := g } := I2.kept (t' := s2.toks) kp
  refine ⟨s2.heap.objs.size + 1, [s2.heap.objs.size + 1, s2.heap.objs.size], CtdSt a (s2.heap.objs.size + 1) s2.heap.objs.size k, _, H2, rfl, I3, ctd_turn a _ _ k, ⟨⟨.none, ?_⟩, ⟨_, it_, rfl, rfl⟩, Nat.succ_ne_self _⟩, fun b hb => ?_, q⟩
  · rw [show k + ((0 : Nat) : Int) = k by omega]
    exact c1
  · have lb : s2.heap.objs.size ≤ b := by
      rcases List.mem_cons.mp hb with e | e
      · rw [e]
        exact Nat.le_add_right _ _
      · rw [List.mem_singleton.mp e]
        exact Nat.le_refl _
    exact I2.fpOk lb (I2.hok.fresh lb)
/-- for i, x in enumerate(xs, start=k) -/
theorem for_ctd {a : Addr} {xs : List V} {g : TG} {tb : TS} {D : Ends} {σ : L2.St} {H : Hp} {c : Int} (Pv : Nat → L2.St → Hp → Prop) (h0 : Pv 0 σ H)
    (hl : ∀ i σ H, i ≤ xs.length → Pv i σ H → SqL K H a xs)
    (hs : ∀ i x T σ H, xs[i]? = some x → Pv i σ H → H T = none → g (.ref T) σ (upd H T (.tup [.int (c + (i : Nat)), x])) fun σ2 H2 => tb { D with nx := Pv (i + 1), ct := Pv (i + 1), bk := D.nx } σ2 H2)
    (hd : ∀ σ H, Pv xs.length σ H → D.nx σ H) :
    ∃ W : Nat → Nat → L2.St → Hp → Prop, (∃ m, W 0 m σ H) ∧ ∀ i m σ H, W i m σ H →
      ((Ctd K a c).stop i H ∧ D.nx σ H) ∨ ((Ctd K a c).go i H ∧ ∃ N : L2.St → Hp → Prop, (∀ σ' H', N σ' H' → ∃ m', m' < m ∧ W (i + 1) m' σ' H') ∧
        ∀ x H', (Ctd K a c).yld i H x H' → g x σ H' fun σ2 H2 => tb { D with nx := N, ct := N, bk := D.nx } σ2 H2) := by
  refine ⟨fun i m σ H => m + i = xs.length ∧ Pv i σ H, ⟨xs.length, rfl, h0⟩, ?_⟩
  rintro i m σ H ⟨e, p⟩
  have q := hl i σ H (by omega) p
  by_cases hlt : i < xs.length
  · refine .inr ⟨⟨xs, xs[i], q, List.getElem?_eq_getElem hlt⟩, Pv (i + 1), fun σ' H' p' => ⟨m - 1, by omega, by omega, p'⟩, ?_⟩
    rintro x H' ⟨T, y, rfl, nT, rfl, fv⟩
    exact hs i y T σ H (fv xs q) p nT
  · have ei : i = xs.length := by omega
    subst ei
    exact .inl ⟨⟨xs, q, Nat.le_refl _⟩, hd σ H p⟩
end
end My
/-! cls(e, ..) by a local name; == by an own __eq__ with either answer; tuples of tuples of ints compared. -/
namespace My
open PySem L2 PySem.Calls PyProof.Rows
section
variable {X : Cx} {CX : CXT} {k i : Nat} {f C : Addr} {fd : FuncData} {ps : List Str} {sp : Sp} {dvs : List V} {ds : List Value} {E : XK} {x : Str} {p pos : Pos} {e : Expr} {es : List Expr} {t : TA}
/-- the name in slot i holds the class at C, which is made -/
def tMakeAt (i : Nat) (C : Addr) (sp : Sp) (dvs : List V) (E : XK) (t : TA) : TE := fun σ H Q => σ[i]? = some (some (.ref C)) ∧ tMake C sp dvs E t σ H Q
theorem pe_makeAt (M : Mk X.K C f) (F : FnOk X.prog X.w X.K X.mg X.base CX k f fd ps sp) (hr : Room (k + 1) X.A) (hb : Binds X.K fd ps ds) (hd : Vals dvs ds) (hx : Passes CX X E)
    (hN : X.N[i]? = some x) (hv : Vis X.env.scope x) (ha : PA X (e :: es) t) (n1 : (x == ("__debug__" : Str)) = false := by decide) (n2 : (x == ("__classdict__" : Str)) = false := by decide)
    (s1 : starEach (e :: es) X.env = (false, eval e X.env) :: starEach es X.env := by rfl) (s2 : (backTo pos (starEach es X.env)).any (·.1) = false := by rfl) :
    PE X (.Call (.Name x p) (e :: es) [] pos) (tMakeAt i C sp dvs E t) := by
  refine ⟨fun pins s σ H Q I ⟨at_, h⟩ => ?_⟩
  have name := (pe_var (pos := p) (i := i) hN hv n1 n2).run pins s σ H (fun v H1 => v = .ref C ∧ H1 = H) I ⟨.ref C, at_, rfl, rfl⟩
  refine wpAny_Call_Name_kw (thn name fun u t1 ⟨v, H1, I1, r1, e1, e2⟩ => ?_)
  subst e1 e2
  obtain rfl : u = Value.ref C := r1
  refine PySem.W.callWith_K (h₀ := X.base) I1.ok.mod.kin M.kp (thn (ha.run pos pins t1 σ _ _ I1 h) fun us t2 ⟨vs, H2, I2, r, q⟩ => ⟨I2.kIn, ?_⟩) s1 s2
  exact run_make M F hr hb hd hx I2 r q
/-- the answer r that an own __eq__ gives -/
def rEqOwn (C : Addr) (R : Addr → Addr → Hp → Bool → Prop) : R2 := fun x y H Q => ∃ a b dx dy fs gs r, x = .ref a ∧ y = .ref b ∧ H a = some (.ins C dx fs) ∧ H b = some (.ins C dy gs) ∧ R a b H r ∧ ∀ H', Same H H' → Q (.bl r) H'
def spEqB (R : Addr → Addr → Hp → Bool → Prop) : Sp := fun vs H Q _ => ∃ a b r, vs = [.ref a, .ref b] ∧ R a b H r ∧ ∀ H', Same H H' → Q (.bl r) H'
theorem op_eqOwn {R : Addr → Addr → Hp → Bool → Prop} (F : FnOk X.prog X.w X.K X.mg X.base CX k f fd ps (spEqB R)) (hr : Room k X.A) (hs : PySem.W.findIn X.K (.ref C) "__eq__" = some (some (.ref f))) (hf : PySem.W.isFn X.K (.ref f) = true)
    (hb : Binds X.K fd ps []) (hx : Passes CX X E) : OpR X (compareOp .Eq) (rEqOwn C R) := by
  intro pins s σ H x y v u Q I rx ry hq
  obtain ⟨a, b, dx, dy, fs, gs, r, rfl, rfl, ha, hb', hR, q⟩ := hq
  obtain rfl : v = Value.ref a := rx
  obtain rfl : u = Value.ref b := ry
  obtain ⟨_, ja, _⟩ := ins_get I.hok ha
  obtain ⟨_, jb, _⟩ := ins_get I.hok hb'
  obtain ⟨_, ka, _⟩ := ja.look
  obtain ⟨_, kb, _⟩ := jb.look
  obtain ⟨m, fr⟩ := I.fr
  show wpAny (model X.prog X.w) X.A (richCompare .Eq (.ref a) (.ref b)) (EP X pins σ Q) X.xe s
  refine PySem.W.cmp_K (op := .Eq) (tb := .ref C) hr.units0 fr I.ok.mod.kin ka kb.type (by simp [PySem.W.notFirst]) hs hf ?_
  have run : wpAny (model X.prog X.w) X.A (call (.ref f) [.ref a, .ref b]) (EP X pins σ fun z H' => z = .bl r ∧ Q z H') X.xe s :=
    run_fn (us := [.ref a, .ref b]) (vs := [.ref a, .ref b]) (dvs := []) (ds := []) F hr hb .nil hx I (.cons rfl (.cons rfl .nil)) ⟨a, b, r, rfl, hR, fun H' sm => ⟨rfl, q H' sm⟩⟩
  refine thn run fun w1 s1 ⟨z, H1, I1, r1, e1, q1⟩ => ?_
  subst e1
  obtain rfl : w1 = Value.bool r := r1
  exact ⟨.bl r, H1, I1, rfl, q1⟩
end
/-- rows as data -/
def rowD (ns : List Int) : PyData := .tuple (ns.map PyData.int)
def tabD (nss : List (List Int)) : PyData := .tuple (nss.map rowD)
section
variable {K : PySem.W.Frag} {H : Hp}
theorem dp_ints : ∀ ns : List Int, DpAll K H (ns.map V.int) (ns.map PyData.int)
  | [] => .nil
  | n :: r => .cons (.int n) (dp_ints r)
theorem dp_rows : ∀ {ts : List Addr} {nss : List (List Int)}, Paired (fun t ns => H t = some (.tup (ns.map V.int))) ts nss → DpAll K H (ts.map V.ref) (nss.map rowD)
  | _, _, .nil => .nil
  | _, _, .cons h t => .cons (.tup (SqT.of h) (dp_ints _)) (dp_rows t)
theorem dp_tab {p : Addr} {ts : List Addr} {nss : List (List Int)} (h : H p = some (.tup (ts.map V.ref))) (t : Paired (fun t ns => H t = some (.tup (ns.map V.int))) ts nss) : Dp K H (.ref p) (tabD nss) := .tup (SqT.of h) (dp_rows t)
end
theorem lay_ints : ∀ ns : List Int, PyData.canLayAll0 (ns.map PyData.int) = true
  | [] => rfl
  | n :: r => by
    rw [List.map_cons, PyData.canLayAll0, lay_ints r]
    rfl
theorem lay_rows : ∀ nss : List (List Int), PyData.canLayAll0 (nss.map rowD) = true
  | [] => rfl
  | ns :: r => by
    rw [List.map_cons, PyData.canLayAll0, lay_rows r, Bool.and_true]
    exact lay_ints ns
theorem eqv_ints : ∀ ms ns : List Int, PyData.eqvAll (ms.map PyData.int) (ns.map PyData.int) = decide (ms = ns)
  | [], [] => rfl
  | [], n :: r => rfl
  | m :: r, [] => rfl
  | m :: r, n :: t => by
    rw [List.map_cons, List.map_cons, PyData.eqvAll, eqv_ints r t, PyData.eqv]
    by_cases e : m = n <;> simp [e]
theorem eqv_rows : ∀ ms ns : List (List Int), PyData.eqvAll (ms.map rowD) (ns.map rowD) = decide (ms = ns)
  | [], [] => rfl
  | [], n :: r => rfl
  | m :: r, [] => rfl
  | m :: r, n :: t => by
    rw [List.map_cons, List.map_cons, PyData.eqvAll, eqv_rows r t, rowD, rowD, PyData.eqv, eqv_ints]
    simp
theorem depth_ints : ∀ ns : List Int, PyData.depthAll (ns.map PyData.int) ≤ 1
  | [] => by decide
  | n :: r => by
    have := depth_ints r
    rw [List.map_cons, PyData.depthAll]
    refine Nat.max_le.mpr ⟨?_, this⟩
    rw [PyData.depth]
    omega
theorem depth_rows : ∀ nss : List (List Int), PyData.depthAll (nss.map rowD) ≤ 5
  | [] => by decide
  | ns :: r => by
    have h1 := depth_rows r
    have h2 := depth_ints ns
    rw [List.map_cons, PyData.depthAll]
    refine Nat.max_le.mpr ⟨?_, h1⟩
    rw [rowD, PyData.depth]
    omega
theorem shaped_tab (nss : List (List Int)) : SeqAt.shaped (tabD nss) = true := by
  unfold SeqAt.shaped
  rw [Bool.and_eq_true]
  refine ⟨lay_rows nss, decide_eq_true ?_⟩
  have := depth_rows nss
  rw [tabD, PyData.depth]
  omega
theorem eqv_tab (ms ns : List (List Int)) : PyData.eqv (tabD ms) (tabD ns) = decide (ms = ns) := by
  rw [tabD, tabD, PyData.eqv, eqv_rows]
end My
namespace My
open PySem L2 PySem.Calls PyProof.Rows
/-! a list of lists of ints, and whether it is empty -/
def lrowD (ns : List Int) : PyData := .list (ns.map PyData.int)
def ltabD (nss : List (List Int)) : PyData := .list (nss.map lrowD)
theorem ldp_rows {K : PySem.W.Frag} {H : Hp} : ∀ {ts : List Addr} {nss : List (List Int)}, Paired (fun t ns => H t = some (.lst (ns.map V.int))) ts nss → DpAll K H (ts.map V.ref) (nss.map lrowD)
  | _, _, .nil => .nil
  | _, _, .cons h t => .cons (.lst (SqL.of h) (dp_ints _)) (ldp_rows t)
theorem ldp_tab {K : PySem.W.Frag} {H : Hp} {p : Addr} {ts : List Addr} {nss : List (List Int)} (h : H p = some (.lst (ts.map V.ref))) (t : Paired (fun t ns => H t = some (.lst (ns.map V.int))) ts nss) : Dp K H (.ref p) (ltabD nss) := .lst (SqL.of h) (ldp_rows t)
theorem llay_rows : ∀ nss : List (List Int), PyData.canLayAll0 (nss.map lrowD) = true
  | [] => rfl
  | ns :: r => by
    rw [List.map_cons, PyData.canLayAll0, llay_rows r, Bool.and_true]
    exact lay_ints ns
theorem ldepth_rows : ∀ nss : List (List Int), PyData.depthAll (nss.map lrowD) ≤ 5
  | [] => by decide
  | ns :: r => by
    have h1 := ldepth_rows r
    have h2 := depth_ints ns
    rw [List.map_cons, PyData.depthAll]
    refine Nat.max_le.mpr ⟨?_, h1⟩
    rw [lrowD, PyData.depth]
    omega
theorem shaped_ltab (nss : List (List Int)) : SeqAt.shaped (ltabD nss) = true := by
  unfold SeqAt.shaped
  rw [Bool.and_eq_true]
  refine ⟨llay_rows nss, decide_eq_true ?_⟩
  have := ldepth_rows nss
  rw [ltabD, PyData.depth]
  omega
theorem eqv_none (nss : List (List Int)) : PyData.eqv (ltabD nss) (.list []) = nss.isEmpty := by
  cases nss <;> rfl
/-- a list of ints, each as told -/
theorem Gives.ints {B : Int → Prop} {n : Nat} {ys : List V} (h : Gives (fun _ y => ∃ i, y = .int i ∧ B i) n ys) : ∃ ns : List Int, ys = ns.map V.int ∧ ns.length = n ∧ ∀ i ∈ ns, B i := by
  obtain ⟨h1, h2⟩ := h
  have all : ∀ y ∈ ys, ∃ i, y = V.int i ∧ B i := by
    intro y hy
    obtain ⟨j, hj, rfl⟩ := List.mem_iff_getElem.mp hy
    exact h2 j _ (List.getElem?_eq_getElem hj)
  clear h2
  induction ys generalizing n with
  | nil => exact ⟨[], rfl, h1, fun _ h => nomatch h⟩
  | cons y r ih =>
    obtain ⟨i, rfl, b⟩ := all y (.head _)
    obtain ⟨ns, e1, e2, e3⟩ := ih (n := r.length) rfl fun z m => all z (.tail _ m)
    refine ⟨i :: ns, by rw [e1]; rfl, by rw [List.length_cons, e2, ← h1, List.length_cons], fun j m => ?_⟩
    rcases List.mem_cons.mp m with rfl | m
    · exact b
    · exact e3 j m
end My
namespace My
open PySem L2 PySem.Calls PyProof.Rows
theorem pi_listK {X : Cx} {K : PySem.W.Frag} {tg e : Expr} {te : TE} (h : X.K = K) (he : PE X e te) : PI X tg e (iList K te) := h ▸ pi_list he
theorem pi_tupK {X : Cx} {K : PySem.W.Frag} {tg e : Expr} {te : TE} (h : X.K = K) (he : PE X e te) : PI X tg e (iTup K te) := h ▸ pi_tup he
end My
namespace My
open PySem L2 PySem.Calls PyProof.Rows
def rJoin (K : PySem.W.Frag) : V → List V → Hp → VK → Prop := fun x xs H Q => ∃ a p, ∃ ys : List Str, x = .str a ∧ xs = [.ref p] ∧ (SqL K H p (ys.map V.str) ∨ SqT K H p (ys.map V.str)) ∧ (ys.map (·.length)).sum + ys.length * a.length ≤ 16777216 ∧ Q (.str (Txt.join a ys)) H
theorem pe_joinK {X : Cx} {K : PySem.W.Frag} {o e : Expr} {to te : TE} {apos pos : Pos} (h : X.K = K) (ho : PE X o to) (he : PE X e te) (hs : starEach [e] X.env = [(false, eval e X.env)] := by rfl)
    (h1 : attributeBase o "join" X.env (eval o X.env) = eval o X.env := by rfl) (h2 : (apos.endLine == pos.line) = true := by rfl) :
    PE X (.Call (.Attribute o "join" apos) [e] [] pos) (tM1 (rJoin K) to te) := by
  subst h
  exact pe_join ho he hs h1 h2
end My
/-! A def with defaults, all of whose arguments are written. -/
namespace My
open PySem L2 PySem.Calls PyProof.Rows
theorem bind_dflt {K : PySem.W.Frag} {fd : FuncData} {ps : List Str} {T : Addr} {oT : Obj} {its : Array Value} {n : Nat} (lT : K.lookup T = some oT) (hT : oT.data = .seq its n)
    (h : ∀ us : List Value, us.length = ps.length → ∃ k, bindArgs fd ⟨us, []⟩ = seqItems? (.ref T) >>= k ∧ k (some its) = pure (ps.zip us)) : Binds K fd ps [] := by
  intro s us X hl
  rw [List.append_nil] at hl ⊢
  obtain ⟨k, e1, e2⟩ := h us hl
  refine BindsTo.of_looks fun M => ?_
  rw [e1]
  exact looks_items X lT hT (.of_pure e2)
end My
/-! Which texts are whole numbers as they are written, which lines are rows. -/
namespace My
open PySem L2 PySem.Calls PyProof.Rows
open TL NumText
theorem canon_pos : ∀ (n : Nat) (c : Nat) (r : List Nat), r.length = n → AllDigits (c :: r) → 49 ≤ c → numL (digitsVal (c :: r)) = c :: r
  | 0, c, r, hl, hd, hc => by
    have e : r = [] := List.length_eq_zero_iff.mp hl
    subst e
    have h := hd.head
    have ev : digitsVal [c] = c - 48 := by simp [digitsVal]
    rw [ev, numL_lt (by omega)]
    congr 1
    omega
  | n + 1, c, r, hl, hd, hc => by
    have hne : r ≠ [] := fun e => by
      rw [e] at hl
      cases hl
    obtain ⟨q, d, rfl⟩ : ∃ q d, r = q ++ [d] := ⟨r.dropLast, r.getLast hne, (List.dropLast_concat_getLast hne).symm⟩
    have lq : q.length = n := by
      rw [List.length_append, List.length_singleton] at hl
      omega
    have hd2 : AllDigits (c :: q) := fun x hx => hd x (by
      rw [← List.cons_append]
      exact List.mem_append_left _ hx)
    have hdd : 48 ≤ d ∧ d ≤ 57 := hd d (by
      rw [← List.cons_append]
      exact List.mem_append_right _ (.head _))
    have ih := canon_pos n c q lq hd2 hc
    have hp : 0 < digitsVal (c :: q) := digitsVal_pos hc
    rw [← List.cons_append, digitsVal_snoc, numL_step (by omega)]
    have e1 : (digitsVal (c :: q) * 10 + (d - 48)) / 10 = digitsVal (c :: q) := by omega
    have e2 : (digitsVal (c :: q) * 10 + (d - 48)) % 10 = d - 48 := by omega
    rw [e1, e2, ih]
    congr 1
    congr 1
    omega
/-- the signs of a number from 0 on, as it is written -/
def Can (cs : List Nat) : Prop := AllDigits cs ∧ cs ≠ [] ∧ (cs[0]? = some 48 → cs = [48])
theorem can_num (n : Nat) : Can (numL n) := by
  refine ⟨numL_digits n, numL_ne n, fun h => ?_⟩
  rcases numL_head n with ⟨_, e⟩ | ⟨c, r, e, h1, h2⟩
  · exact e
  · rw [e] at h
    cases h
    omega
theorem num_can {cs : List Nat} (h : Can cs) : numL (digitsVal cs) = cs := by
  obtain ⟨h1, h2, h3⟩ := h
  cases cs with
  | nil => exact absurd rfl h2
  | cons c r =>
    by_cases e : c = 48
    · subst e
      have := h3 rfl
      rw [this]
      decide +kernel
    · have := h1.head
      exact canon_pos r.length c r rfl h1 (by omega)
theorem val_lt : ∀ (cs : List Nat), AllDigits cs → digitsVal cs < 10 ^ cs.length := by
  have key : ∀ (cs : List Nat) (a : Nat), AllDigits cs → cs.foldl (fun acc c => acc * 10 + (c - 48)) a < (a + 1) * 10 ^ cs.length := by
    intro cs
    induction cs with
    | nil =>
      intro a _
      simp
    | cons c r ih =>
      intro a h
      have hc := h.head
      have := ih (a * 10 + (c - 48)) h.tail
      rw [List.foldl_cons, List.length_cons, Nat.pow_succ]
      refine Nat.lt_of_lt_of_le this ?_
      have e : (a + 1) * (10 ^ r.length * 10) = ((a + 1) * 10) * 10 ^ r.length := by
        rw [Nat.mul_comm (10 ^ r.length) 10, Nat.mul_assoc]
      rw [e]
      exact Nat.mul_le_mul_right _ (by omega)
  intro cs h
  have := key cs 0 h
  rw [Nat.zero_add, Nat.one_mul] at this
  exact this
theorem ascii_digit : ∀ c : Nat, c < 128 → Unicode.isDigit c = true → 48 ≤ c ∧ c ≤ 57 := by decide +kernel
/-- ascii and digits: just the ten signs, and there is one -/
theorem digits_iff (x : Str) : (Txt.isascii x = true ∧ Txt.isdigit x = true) ↔ (AllDigits (tl x) ∧ tl x ≠ []) := by
  constructor
  · rintro ⟨h1, h2⟩
    unfold Txt.isascii at h1
    unfold Txt.isdigit at h2
    rw [← Array.all_toList, List.all_eq_true] at h1
    rw [Bool.and_eq_true, ← Array.all_toList, List.all_eq_true] at h2
    refine ⟨fun c hc => ascii_digit c (of_decide_eq_true (h1 c hc)) (h2.2 c hc), fun e => ?_⟩
    have := of_decide_eq_true h2.1
    rw [len_tl, e] at this
    exact absurd this (by decide)
  · rintro ⟨h1, h2⟩
    unfold Txt.isascii Txt.isdigit
    rw [← Array.all_toList, List.all_eq_true, Bool.and_eq_true, ← Array.all_toList, List.all_eq_true]
    refine ⟨fun c hc => ?_, ?_, fun c hc => ?_⟩
    · have := h1 c hc
      exact decide_eq_true (by omega)
    · apply decide_eq_true
      rw [len_tl]
      exact List.length_pos_iff.mpr h2
    · have := h1 c hc
      exact isDigit_dec c (by omega) (by omega)
/-- the word is the text of a whole number -/
def IsNum (w : Str) : Prop := ∃ i, w = tx i
theorem isnum_iff (w : Str) : IsNum w ↔ (Can (tl w) ∨ ∃ r, tl w = 45 :: r ∧ Can r ∧ r ≠ [48]) := by
  constructor
  · rintro ⟨i, rfl⟩
    cases i with
    | ofNat n =>
      refine .inl ?_
      rw [show tl (tx (Int.ofNat n)) = numL n from tl_pos n]
      exact can_num n
    | negSucc n =>
      refine .inr ⟨_, tl_neg n, can_num _, fun e => ?_⟩
      have := numL_val (n + 1)
      rw [e] at this
      have h48 : digitsVal [48] = 0 := by decide
      omega
  · rintro (h | ⟨r, e, h, h0⟩)
    · exact ⟨(digitsVal (tl w) : Nat), ext_tl (by rw [tl_pos]; exact (num_can h).symm)⟩
    · have hp : digitsVal r ≠ 0 := fun z => by
        have := num_can h
        rw [z, numL_lt (by decide)] at this
        exact h0 this.symm
      refine ⟨Int.negSucc (digitsVal r - 1), ext_tl ?_⟩
      rw [tl_neg, e, show digitsVal r - 1 + 1 = digitsVal r by omega, num_can h]
theorem num_sz {w : Str} {i : Int} (h : w = tx i) (hl : w.length ≤ 59) : Sz i := by
  show i.natAbs < 10 ^ 60
  rw [h, len_tl] at hl
  cases i with
  | ofNat n =>
    rw [show tl (tx (Int.ofNat n)) = numL n from tl_pos n] at hl
    have h1 := val_lt _ (numL_digits n)
    rw [numL_val] at h1
    have h2 := Nat.pow_le_pow_right (by decide : 0 < 10) hl
    show n < 10 ^ 60
    have : (10 : Nat) ^ 59 ≤ 10 ^ 60 := by decide
    omega
  | negSucc n =>
    rw [tl_neg, List.length_cons] at hl
    have h1 := val_lt _ (numL_digits (n + 1))
    rw [numL_val] at h1
    have h2 := Nat.pow_le_pow_right (by decide : 0 < 10) (by omega : (numL (n + 1)).length ≤ 59)
    show n + 1 < 10 ^ 60
    have : (10 : Nat) ^ 59 ≤ 10 ^ 60 := by decide
    omega
/-- .. and a field has it -/
def NumF (f : Int) (w : Str) : Prop := ∃ i, w = tx i ∧ (f ≠ 0 → 0 ≤ i ∧ i < f)
theorem len_cut1 (w : Str) : tl (cutS w (some 1) none) = (tl w).drop 1 := by
  unfold cutS
  show ((tl w).drop _).take _ = _
  have e1 : HT.sIx w.length 0 (some 1) = min 1 w.length := by
    simp only [HT.sIx]
    first | omega | (simp; omega) | simp
  have e2 : HT.sIx w.length w.length none = w.length := by simp [HT.sIx]
  rw [e1, e2, len_tl w]
  cases h : tl w with
  | nil => rfl
  | cons c r =>
    simp
theorem starts_zero' (w : Str) : Txt.startswith w "0" = decide ((tl w)[0]? = some 48) := by
  rw [show (("0" : String) : Str) = ⟨#[48]⟩ from rfl, starts_one]
theorem starts_minus' (w : Str) : Txt.startswith w "-" = decide ((tl w)[0]? = some 45) := by
  rw [show (("-" : String) : Str) = ⟨#[45]⟩ from rfl, starts_one]
theorem zero_tl (w : Str) : w = ("0" : Str) ↔ tl w = [48] := by
  constructor
  · rintro rfl
    rfl
  · intro h
    exact ext_tl h
end My
/-! raise C(e) and except C as e, C with its own __init__ that keeps e as a field. -/
namespace My
open PySem L2
theorem raise_in {K : PySem.W.Frag} {C : Addr} {fld : Str} (J : InitOf K C C fld) {H1 : Hp} {v : V} {Q : XK} (h : ∀ d, H1 d = none → Q (.ref C) (some d) (upd H1 d (.xd [(fld, v)]))) :
    [v].length ≤ 1000 ∧ ∀ a, H1 a = none → spInit K C fld (.ref a :: ([v] ++ [])) (upd H1 a (exo a C none))
      (fun w H2 => w = .non ∧ ∃ (d : Addr) (fs : List (Str × V)), H2 a = some (exo a C (some d)) ∧ H2 d = some (exd d fs) ∧ H1 d = none ∧ Q (.ref C) (some d) (upd (del H2 a) d (.xd fs))) (fun _ _ _ => False) := by
  refine ⟨Nat.le_of_ble_eq_true rfl, fun a ha => ⟨a, C, v, rfl, J, upd_same, fun dx hdx nd => ⟨rfl, dx, [(fld, v)], upd_same, ?_, ?_, ?_⟩⟩⟩
  · rw [upd_ne nd, upd_same]
  · rw [upd_ne nd] at hdx
    exact hdx
  · rw [upd_ne nd] at hdx
    have e : upd (del (upd (upd (upd H1 a (exo a C none)) dx (exd dx [(fld, v)])) a (exo a C (some dx))) a) dx (.xd [(fld, v)]) = upd H1 dx (.xd [(fld, v)]) := by
      funext b
      by_cases e1 : b = dx
      · rw [e1, upd_same, upd_same]
      · rw [upd_ne e1, upd_ne e1]
        by_cases e2 : b = a
        · rw [e2, del_same, ha]
        · rw [del_ne e2, upd_ne e2, upd_ne e1, upd_ne e2]
    rw [e]
    exact h dx hdx
section
variable {X : Cx} {x fld : Str} {C fI : Addr} {fd : FuncData} {e : Expr} {te : TE} {p pos pos2 : Pos} {W : WX}
/-- raise C(e) -/
theorem ps_raiseM (M : Made X.K X.prog X.mg x fld C fI fd) (hr : Room 1 X.A) (hc : X.calm = true) (tk : Takes X W) (hg : Gl X x) (he : PE X e te)
    (hdb : (x == ("__debug__" : Str)) = false := by decide) (hs : starEach (e :: []) X.env = (false, eval e X.env) :: starEach [] X.env := by rfl) (hpl : (backTo pos (starEach [] X.env)).any (·.1) = false := by rfl) :
    PS X (.Raise (some (.Call (.Name x p) [e] [] pos)) none pos2) (fun _ σ H => tMkO C (spInit X.K C fld) [] (tCons te tNil) σ H fun cls d H' => W cls d σ H') :=
  ps_raise hc tk (pmk_oex M.of.T M.ini M.ti (init_ok (CX := CX0) M.fn M.sup) hr M.bp .nil pass0 hg M.at_ (pa_cons he pa_nil hs) hdb hs hpl)
end
theorem Made.xf {K : PySem.W.Frag} {P : Program} {mg : Str → Option Value} {x fld : Str} {C fI : Addr} {fd : FuncData} (M : Made K P mg x fld C fI fd) : XfC K C := by
  obtain ⟨nm, q, N, bs, bm, sn, sub, ab, col, dd, k0, k1, k2, k3, k5, hC, hbm⟩ := M.of.T.cls
  refine ⟨M.ex.hga, M.ex.hgt, M.ex.sub, ?_⟩
  unfold PySem.W.hasDictIn PySem.W.clsIn
  rw [hC]
  rfl
theorem Made.exm {K : PySem.W.Frag} {P : Program} {mg : Str → Option Value} {x fld : Str} {C fI : Addr} {fd : FuncData} (M : Made K P mg x fld C fI fd) {cls : Value} {b : Bool} (h : PySem.W.subIn K cls (.ref C) = some b) : PySem.W.exmOne K cls (.ref C) = some b := by
  -- exm_self
  unfold PySem.W.exmOne PySem.W.kitCls
  have e2 : ((PySem.W.clsIn K C).isSome && PySem.W.typeIn K (.ref C) == some (.type "type")) = true := by
    rw [M.ex.cls, M.of.T.tyC]
    decide
  rw [if_pos (by rw [M.ex.sub]; decide)]
  show (if ((PySem.W.clsIn K C).isSome && PySem.W.typeIn K (.ref C) == some (.type "type")) = true then PySem.W.subIn K cls (.ref C) else none) = some b
  rw [if_pos e2, h]
end My
/-! A class method called in a try's body. -/
namespace My
open PySem L2
section
variable {X : Cx} {CX : CXT} {k : Nat} {g C p : Addr} {fd : FuncData} {ps : List Str} {sp : Sp} {E : St → XK} {m : Str} {mc : Value} {apos pos : Pos} {e o : Expr} {es : List Expr} {to : TE} {t : TA}
def tCMethS (C : Addr) (sp : Sp) (E : St → XK) (to : TE) (t : TA) : TE := fun σ H Q => to σ H fun x H1 => x = .ref C ∧ t σ H1 fun vs H2 => sp (.ref C :: vs) H2 Q (E σ)
theorem pe_cmethS {pl : Sem Bool} (ho : PE X o to) (R : ClX.CRead X.K C mc) (M : ClX.CMet X.K C mc m p g) (G : FnOk X.prog X.w X.K X.mg X.base CX k g fd ps sp) (room : Room k X.A) (bd : Binds X.K fd ps []) (out : ∀ σ, PassesAt CX X σ (E σ)) (hargs : PA X (e :: es) t)
    (h1 : starEach (e :: es) X.env = (false, eval e X.env) :: starEach es X.env := by rfl) (h2 : (backTo pos (starEach es X.env)).any (·.1) = false := by rfl)
    (tree : eval (.Call (.Attribute o m apos) (e :: es) [] pos) X.env = (do
      let it ← eval o X.env
      standAt apos.atName
      let (q, before) ← holding [it] (getMethod it m pl)
      callWith pos q before (backTo pos (starEach (e :: es) X.env)) (backToKw pos (keywordEach [] X.env))) := by rfl) :
    PE X (.Call (.Attribute o m apos) (e :: es) [] pos) (tCMethS C sp E to t) := by
  refine ⟨fun pn s σ H Q inv want => ?_⟩
  refine PySem.W.methodCall_KW (pl := pl) (thn (ho.run pn s σ H _ inv want) fun u sa ⟨x, Ha, ia, rx, ex, rest⟩ => ?_) tree
  subst ex
  obtain rfl : u = Value.ref C := rx
  refine ClX.getmethcm_ok ia R M fun sb ib => ?_
  refine ClX.callwith_cm ib (ClX.base_none ia (Nat.le_refl _)) M.fi (thn (hargs.run pos _ sb σ Ha _ ib rest) fun us sc ⟨vs, Hb, ic, rv, rest2⟩ => ⟨⟨ClX.pin_at ic, ic.kIn⟩, ?_⟩) h1 h2
  have many : (Value.ref C :: us).length = ps.length := by
    rw [← G.len _ _ _ _ rest2, ← Paired.length (show Vals (V.ref C :: vs) (Value.ref C :: us) from .cons rfl rv)]
  have bound := bd sc (.ref C :: us) ic.kIn (by rw [List.append_nil]; exact many)
  rw [List.append_nil] at bound
  have z : wpAny (model X.prog X.w) X.A (call (.ref sa.heap.objs.size) us) (EP X ((sa.heap.objs.size, PySem.W.methodObj (.ref g) (.ref C)) :: pn) σ Q) X.xe sc := by
    refine wpAny_call (PySem.W.method_call (ClX.pin_at ic) (codeAny_mono (G.run X.A X.stack sc Hb ⟨.ref C :: us, []⟩ (.ref C :: us) (.ref C :: vs) Q (E σ) room ic.env0 bound (.cons rfl rv) rest2) fun r sd back => ?_))
    cases r with
    | error err => exact out σ _ Hb sc err sd ic back
    | ok fl =>
      cases fl with
      | ret u => exact ic.after back
      | next => exact back.elim
      | brk => exact back.elim
      | cont => exact back.elim
  exact thn z fun _ _ y => ClX.unpinE y
end
end My
/-! Comprehensions with a test that only make new things. -/
namespace My
open PySem L2
section
variable {J : It} {n : Nat} {G : Hp → Prop} {Y : Nat → Hp → V → Hp → Prop} {D : Addr} {i : Nat} {vs : List Nat} {tt : TT} {te : TE} {σ : L2.St} {H1 : Hp} {Qd : Hp → Prop}
theorem filt_it (w : Walk J n G Y) (gs : List (Option V)) (hl : gs.length = n) (hG : ∀ H, Same H1 H → G H) (nD : H1 D = none) (sz : n ≤ 10000) (hE : ∀ j H x H', Y j H x H' → H' = H)
    (hw : ∀ x, wipe ((wipe σ vs).set i (some x)) vs = wipe σ vs)
    (hs : ∀ (j : Nat) (x : V) (o : Option V) (H : Hp), Y j H x H → gs[j]? = some o → Same H1 H → ∀ (N : Hp → Prop) (R : VK), (o = none → ∀ H4, Same H H4 → N H4) → (∀ y, o = some y → ∀ H4, Same H H4 → R y H4) →
      tt ((wipe σ vs).set i (some x)) H fun b H3 => if b = true then te ((wipe σ vs).set i (some x)) H3 R else N H3)
    (hd : ∀ H, Same H1 H → H D = some (.lst (gs.filterMap id)) → Qd H) :
    ∃ W : Nat → Nat → Hp → Prop, (∃ m, W 0 m (upd H1 D (.lst []))) ∧ ∀ i0 m H, W i0 m H →
      (J.stop i0 H ∧ Qd H) ∨ (J.go i0 H ∧ ∃ Nx : Hp → Prop, (∀ H', Nx H' → ∃ m', m' < m ∧ W (i0 + 1) m' H') ∧ ∀ x H', J.yld i0 H x H' → gName i x (wipe σ vs) H' fun σ2 H2 => wipe σ2 vs = wipe σ vs ∧ tt σ2 H2 fun b H3 =>
        if b = true then te σ2 H3 fun y H4 => ∃ acc, H4 D = some (.lst acc) ∧ acc.length < sizeLine ∧ Nx (upd H4 D (.lst (acc ++ [y]))) else Nx H3) := by
  refine lc_it w (fun j H => Same H1 H ∧ H D = some (.lst ((gs.take j).filterMap id))) ⟨same_upd3 nD, upd_same⟩ (fun j H _ h => hG H h.1) ?_ ?_
  · rintro j x H H' hj ⟨sH, e⟩ y
    obtain rfl := hE j H x H' y
    refine ⟨hw x, ?_⟩
    have ho : gs[j]? = some gs[j] := List.getElem?_eq_getElem (by omega)
    refine hs j x _ H' y ho sH _ _ (fun hn H4 s4 => ⟨sH.trans s4, ?_⟩) fun z hz H4 s4 => ⟨_, s4 _ _ e, ?_, ?_, ?_⟩
    · rw [List.take_succ, ho, hn]
      rw [s4 _ _ e]
      simp
    · have h1 := List.length_filterMap_le id (gs.take j)
      rw [List.length_take] at h1
      exact Nat.lt_of_le_of_lt (by omega : _ ≤ 10000) (by decide)
    · intro b u e2
      rw [upd_ne (ne_of_none e2 nD)]
      exact s4 _ _ (sH _ _ e2)
    · rw [upd_same, List.take_succ, ho, hz]
      simp
  · rintro H ⟨sH, e⟩
    rw [← hl, List.take_length] at e
    exact hd H sH e
end
theorem all_none {α β : Type} (f : α → Option β) : ∀ xs : List α, (∀ x ∈ xs, f x = none) → (xs.map f).filterMap id = []
  | [], _ => rfl
  | x :: r, h => by
    rw [List.map_cons, List.filterMap_cons, h x (.head _)]
    exact all_none f r fun y m => h y (.tail _ m)
theorem not_none {α β : Type} (f : α → Option β) : ∀ xs : List α, (¬ ∀ x ∈ xs, f x = none) → (xs.map f).filterMap id ≠ []
  | [], h => absurd (fun _ m => nomatch m) h
  | x :: r, h => by
    rw [List.map_cons, List.filterMap_cons]
    cases e : f x with
    | some y => simp
    | none =>
      refine not_none f r fun h2 => h fun y m => ?_
      rcases List.mem_cons.mp m with rfl | m
      · exact e
      · exact h2 y m
end My
/-! A try with several clauses `except C as e`. -/
namespace My
open PySem PySem.Spec L2
open PyProof.Rows hiding St
abbrev ASuite := Addr → Value → Option Addr → TS
/-- what stands when an exception of a try's body has come down to its frame: `was` is the state without it -/
structure Down (X : Cx) (pins : List (Addr × Obj)) (a : Addr) (G : Heap) (cls : Value) (d : Option Addr) (σ : St) (H : Hp) (was now : Shared) : Prop where
  inv0 : Inv X pins σ H was
  kept : ∀ c ob, was.heap.get? c = some ob → c ∉ frs X.stack → G.get? c = some ob
  slots : was.heap.UpToSlots now.heap
  fresh : H a = none
  oseq : now.os = was.os
  gens : AllBare now.gens
  fly : HandSPX.FlyingZ G (X.env :: X.outer) a (Zc cls d) now.heap
section
variable {X : Cx} {pins : List (Addr × Obj)} {a : Addr} {G : Heap} {cls : Value} {d : Option Addr} {σ : St} {H : Hp} {was now : Shared}
theorem Down.inv (D : Down X pins a G cls d σ H was now) : Inv X pins σ H now := D.inv0.landed D.kept D.fly.1 D.slots D.oseq D.gens
theorem Down.move (D : Down X pins a G cls d σ H was now) {g : Heap} (f : HandSPX.FlyingZ G (X.env :: X.outer) a (Zc cls d) g) (u : now.heap.UpToSlots g) : Down X pins a G cls d σ H was { now with heap := g } :=
  ⟨D.inv0, D.kept, D.slots.trans u, D.fresh, D.oseq, D.gens, f⟩
theorem Down.obj (D : Down X pins a G cls d σ H was now) (hf : X.env.frame = some X.env.locals) : ∃ ob fs, now.heap.get? a = some ob ∧ Zc cls d ob ∧ ob.data = .fields fs ∧ a ≠ X.env.locals ∧ a ∉ X.fs := by
  obtain ⟨ob, fs, e1, e2, e3⟩ := D.fly.there
  have out : a ∉ frs (X.env :: X.outer) := by
    intro m
    obtain ⟨_, o2, e4, n4⟩ := D.fly.2.2.1.mem m
    rw [e1] at e4
    cases e4
    exact n4 _ e3
  refine ⟨ob, fs, e1, e2, e3, fun z => out ?_, fun m => ?_⟩
  · exact List.mem_filterMap.mpr ⟨X.env, .head _, by rw [hf, z]⟩
  · obtain ⟨en, m2, q⟩ := List.mem_filterMap.mp m
    exact out (List.mem_filterMap.mpr ⟨en, .tail _ m2, q⟩)
end
/-- the ends of a suite whose name in slot i goes -/
def endsGone (i : Nat) (D : Ends) : Ends := { nx := fun σ H => D.nx (σ.set i none) H, rt := D.rt, bk := fun σ H => D.bk (σ.set i none) H, ct := fun σ H => D.ct (σ.set i none) H }
/-- what the clauses wish of an exception, from the first one on -/
def wAsL (K : PySem.W.Frag) (Wout : WX) (D : Ends) : List (Value × Nat × ASuite) → WX
  | [] => Wout
  | (c, i, ts) :: rest => fun cls d σ H => ∃ b, PySem.W.exmOne K cls c = some b ∧ (b = true → ∀ a, H a = none → ts a cls d (endsGone i D) (σ.set i (some (.ref a))) H) ∧ (b = false → wAsL K Wout D rest cls d σ H)
inductive AsOk (X : Cx) : List ExceptHandler → List (Value × Nat × ASuite) → Prop
  | nil : AsOk X [] []
  | cons {x n : Str} {c : Value} {i : Nat} {ts : ASuite} {st : Stmt} {sts : List Stmt} {p1 p2 : Pos} {more : List ExceptHandler} {l : List (Value × Nat × ASuite)} (hi : X.N[i]? = some n) (hn : X.env.kindOf n = some .local) (hc : Names X x c)
      (hsu : ∀ (a : Addr) (oe : Obj) (cls : Value) (d : Option Addr) (pn : List (Addr × Obj)), Zc cls d oe → (∃ vs, oe.data = .fields vs) → PSs (X.suite a ((a, oe) :: pn)) (st :: sts) (ts a cls d)) (r : AsOk X more l) :
      AsOk X (.ExceptHandler (some (.Name x p1)) (some n) (st :: sts) p2 :: more) ((c, i, ts) :: l)
section
variable {X : Cx} {pins : List (Addr × Obj)} {a : Addr} {G : Heap} {cls : Value} {d : Option Addr} {Wout : WX} {D : Ends}
/-- no clause is left -/
theorem none_left {σ : St} {H : Hp} {was now : Shared} (hs : X.stack = X.env :: X.outer) (hf : X.env.frame = some X.env.locals) (tk : Takes X Wout) (L : Down X pins a G cls d σ H was now) (w : Wout cls d σ H) :
    wpAny (model X.prog X.w) X.A (handleBy (.ref a) X.env []) (SP X pins D) X.xe now := by
  refine wpAny_handleBy_nil ?_
  obtain ⟨_, _, _, ob, fs, T, oT, tf, e1, _, e3, e4, _⟩ := id L.fly
  unfold PySem.passOn
  have key : wpAny (model X.prog X.w) X.A (setFlight (.ref a) X.env.frame) (fun _ s4 => wpAny (model X.prog X.w) X.A (throw (.ref a) : Sem Flow) (SP X pins D) X.xe s4) X.xe now := by
    rw [hf]
    refine HandSPX.setFlight_upZ L.fly fun g hg ug => wpAny_throw (tk _ _ ⟨a, G, was, pins, σ, H, cls, d, rfl, L.inv0, L.kept, L.slots.trans ug, ?_, L.fresh, L.oseq, L.gens, w⟩)
    rw [hs]
    exact .inr (.inr hg)
  refine wpAny_bind (wpAny_field e1 e3 e4 ?_)
  rw [if_neg (show ¬ ((Value.ref T == Value.none) = true) from by simp)]
  first
    | exact wpAny_bind (wpAny_pure (wpAny_bind key))
    | exact wpAny_bind key
/-- the clauses, from the first one on -/
theorem clauses_run {was : Shared} {σ : St} {H : Hp} (hs : X.stack = X.env :: X.outer) (hf : X.env.frame = some X.env.locals) (hN : X.N.Nodup) (tk : Takes X Wout) :
    ∀ {hds : List ExceptHandler} {l : List (Value × Nat × ASuite)}, AsOk X hds l → ∀ {now : Shared}, Down X pins a G cls d σ H was now → wAsL X.K Wout D l cls d σ H →
      wpAny (model X.prog X.w) X.A (handleBy (.ref a) X.env hds) (SP X pins D) X.xe now := by
  intro hds l hk
  induction hk with
  | nil => exact fun L w => none_left hs hf tk L w
  | @cons x n c i ts st sts p1 p2 more rest hi hn hc hsu r ih =>
    intro now L w
    obtain ⟨b, hb, yes, no⟩ := w
    obtain ⟨ob, fs, o1, o2, o3, o4, o5⟩ := L.obj hf
    have S := L.inv.suite o1 o3 L.fresh o4 o5
    have sees : PySem.W.Looks (model X.prog X.w) now.heap (typeOf (.ref a)) cls := fun _ _ _ _ k q => wpAny_typeOf_ref (k _ _ o1) (by rw [o2.1]; exact q)
    have asks := PySem.W.exm_one (M := model X.prog X.w) L.inv.kIn sees hb
    refine wpAny_handleBy_cons (codeAny_handlers_test ?_) (by intro q; cases q)
    have name : ∀ {Q E : Value → Shared → Prop}, Q c now → wpAny (model X.prog X.w) (X.A.mark (some (.ref a))) (eval (.Name x p1) X.env) Q E now := by
      intro Q E q
      obtain ⟨g1, g2, g3 | ⟨g3, g4, g5⟩⟩ := hc
      · exact ld_glob (X := X.suite a ((a, ob) :: (X.pn ++ pins))) S g1 g3 q g2
      · exact ld_blt (X := X.suite a ((a, ob) :: (X.pn ++ pins))) S g1 g3 g4 q g5 g2
    refine name (asks.here ?_)
    cases b with
    | false => exact ih L (no rfl)
    | true =>
      refine codeAny_handlers_suite_as ?_
      refine HandSPX.lands_againZ L.fly fun g fg ug => ?_
      have L2 := L.move fg ug
      obtain ⟨ob2, fs2, q1, q2, q3, q4, q5⟩ := L2.obj hf
      have ok := L.inv0.ok
      refine store_ok (X := X.suite a ((a, ob2) :: (X.pn ++ pins))) (v := .ref a) (L2.inv.suite q1 q3 L.fresh q4 q5) hN hi (.inl hn) rfl (fun s5 I5 => ?_) (.inr hn)
      refine wpAny_mono ((hsu a ob2 cls d (X.pn ++ pins) q2 ⟨_, q3⟩).run [] s5 _ H (endsGone i D) I5 (yes rfl a L.fresh)) (fun fl s6 e6 => ?_) (fun _ _ z => False.elim z)
      have leave : ∀ {σ6 : St} {H6 : Hp} {R : Shared → Prop}, Inv (X.suite a ((a, ob2) :: (X.pn ++ pins))) [] σ6 H6 s6 → (∀ s7, Inv X pins (σ6.set i none) H6 s7 → R s7) →
          wpAny (model X.prog X.w) X.A (do bindName X.env n .none; unbindBehindTheSuite X.env n p2) (fun _ s7 => R s7) X.xe s6 := fun I6 q => gone_ok (I6.unsuite ok) hN hi hn q
      cases fl with
      | ret u =>
        obtain ⟨v, σ6, H6, I6, rv, e⟩ := e6
        exact leave I6 fun s7 I7 => ⟨_, _, _, I7, rv, e⟩
      | next =>
        obtain ⟨σ6, H6, I6, e⟩ := e6
        exact leave I6 fun s7 I7 => ⟨_, _, I7, e⟩
      | cont =>
        obtain ⟨σ6, H6, I6, e⟩ := e6
        exact leave I6 fun s7 I7 => ⟨_, _, I7, e⟩
      | brk =>
        obtain ⟨σ6, H6, I6, e⟩ := e6
        exact leave I6 fun s7 I7 => ⟨_, _, I7, e⟩
end
section
variable {X : Cx} {Wout : WX} {body : List Stmt} {h₀ : ExceptHandler} {hds : List ExceptHandler} {l : List (Value × Nat × ASuite)} {pos : Pos} {tb : WX → TS}
/-- try: body, several clauses `except C as e: suite` -/
theorem ps_try_asL (hs : X.stack = X.env :: X.outer) (hf : X.env.frame = some X.env.locals) (hN : X.N.Nodup) (tk : Takes X Wout)
    (hb : ∀ (W : WX) (pn : List (Addr × Obj)) (xe : Value → Shared → Prop), Takes (X.tr pn xe) W → PassesOwn (model X.prog X.w) X.A X.env xe → PSs (X.tr pn xe) body (tb W)) (hh : AsOk X (h₀ :: hds) l) :
    PS X (.Try body (h₀ :: hds) [] [] pos) (fun D σ H => tb (wAsL X.K Wout D l) D σ H) := by
  refine ⟨fun pins s σ H D I want => ?_⟩
  have hfr : X.A.frames = some (X.env :: X.outer) := by rw [I.ok.frames, hs]
  refine wpAny_Try_except (wpAny_mono ((hb (wAsL X.K Wout D l) (X.pn ++ pins) (fun e s₁ => wpAny (model X.prog X.w) X.A (noteFrame e X.env) (fun _ s₂ => wpAny (model X.prog X.w) X.A (setFlight e none) (fun _ s₃ =>
    wpAny (model X.prog X.w) X.A (handleBy e X.env (h₀ :: hds)) (SP X pins D) X.xe s₃) X.xe s₂) X.xe s₁) (fun u now up => ?_) PassesOwn.looking).run [] s σ H D (I.toTry _) want) (fun f s1 e1 => ?_) (fun e s1 he => he))
  · obtain ⟨a, G, was, pn2, σ2, H2, cls, d, rfl, J, kept, slots, sky, fresh, oseq, gens, w⟩ := up
    rw [show (X.tr (X.pn ++ pins) _).stack = X.env :: X.outer from hs] at sky
    refine Sky.land Zc.steady hfr hf sky fun g fg ug => ?_
    exact clauses_run hs hf hN tk hh ⟨J.ofTry I.ok, kept, slots.trans ug, fresh, oseq, gens, fg⟩ w
  · cases f with
    | ret u =>
      obtain ⟨v, σ2, H2, J, rv, q⟩ := e1
      exact ⟨v, σ2, H2, J.ofTry I.ok, rv, q⟩
    | next =>
      obtain ⟨σ2, H2, J, q⟩ := e1
      exact wpAny_execs_nil ⟨σ2, H2, J.ofTry I.ok, q⟩
    | cont =>
      obtain ⟨σ2, H2, J, q⟩ := e1
      exact ⟨σ2, H2, J.ofTry I.ok, q⟩
    | brk =>
      obtain ⟨σ2, H2, J, q⟩ := e1
      exact ⟨σ2, H2, J.ofTry I.ok, q⟩
end
end My
/-! repr of lists and tuples wants that no repr is under way: defs of which this is known (the law's own). -/
namespace My
open PySem PySem.Spec L2
open PyProof.Rows hiding St
/-- as FnOk, but only where no guard stands on the stack -/
structure FnOkG (P : Program) (w : World) (K : PySem.W.Frag) (mg : Str → Option Value) (base : Heap) (CX : CXT) (k : Nat) (f : Addr) (fd : FuncData) (ps : List Str) (sp : Sp) : Prop where
  len : ∀ vs H Q E, sp vs H Q E → vs.length = ps.length
  go : ∀ (A : Around) (outer : List Env) (s : Shared) (H : Hp) (args : Args) (us : List Value) (vs : List V) (Q : VK) (E : XK), A.guards = some [] → Room k A → Env0 P w K mg base A outer s H → BindsTo s fd args (ps.zip us) → Vals vs us → sp vs H Q E →
    codeAny (model P w) A (.call (.ref f) args) (CR CX outer P w H s Q E) s
theorem FnOkG.of {P : Program} {w : World} {K : PySem.W.Frag} {mg : Str → Option Value} {base : Heap} {CX : CXT} {k : Nat} {f : Addr} {fd : FuncData} {ps : List Str} {sp : Sp} (F : FnOk P w K mg base CX k f fd ps sp) : FnOkG P w K mg base CX k f fd ps sp :=
  ⟨F.len, fun A outer s H args us vs Q E _ => F.run A outer s H args us vs Q E⟩
theorem bodyG {CX : CXT} {P : Program} {w : World} {K : PySem.W.Frag} {mg : Str → Option Value} {base : Heap} {k : Nat} {f : Addr} {name qual : Str} {params : Arguments} {body : List Stmt} {scope : Scope} {dV kV doc pm cdv ct oc : Value} {an od : Option Addr}
    {osl : Array (Option Value)} {N ps : List Str} {sp : Sp} (here : K.lookup f = some ⟨oc, od, .func (PySem.W.fnOf name qual params body scope dV kV doc pm an cdv ct), osl⟩) (code : PySem.W.codeIn K cdv qual = true) (S : FnScope N ps scope)
    (len : ∀ vs H Q E, sp vs H Q E → vs.length = ps.length)
    (reads : ∀ (A : Around) (outer : List Env) (s : Shared) (H : Hp) (vs : List V) (Q : VK) (E : XK), A.guards = some [] → Room k (A.deeper (envOfC qual scope s.heap.objs.size f cdv)) → sp vs H Q E →
      ∃ t, PSs (cxOf CX P w K mg base N qual scope f cdv A outer s H E) body t ∧ t { nx := fun _ H' => Q .non H', rt := Q } (start N vs) H) :
    FnOkG P w K mg base CX (k + 1) f (PySem.W.fnOf name qual params body scope dV kV doc pm an cdv ct) ps sp := by
  refine ⟨len, fun A outer s H args us vs Q E none room st bound vals want => ?_⟩
  have many := len _ _ _ _ want
  have knows : K.In s.heap := st.mod.kin.keeps fun b o e => (st.bs b o e).1
  have kinds : ∀ y ∈ ps.zip us, scope.names.lookup y.1 = some .local ∨ (scope.names.lookup y.1 = some .cell ∧ ((cellsFrom (s.heap.objs.size + 1) scope.names []).lookup y.1).isSome = true) := by
    rintro ⟨n, v⟩ hy
    rcases S.par n (List.of_mem_zip hy).1 with q | q
    · exact .inl q
    · exact .inr ⟨q, PySem.W.cellsFrom_some _ _ _ (.inl q)⟩
  refine codeAny_call_function room.depth (knows _ _ here) rfl S.co S.gen rfl (PySem.W.codeRec_of knows code) (bound _ _ _ _ (wpAny_newFunctionEnv_cells S.kind kinds fun env he s1 x => ?_))
  subst he
  refine ⟨(st.mod.nolimit.keeps fun b o e => (st.bs b o e).1).keeps x.toInCall.keep, codeAny_func ?_⟩
  obtain ⟨t, ht, hq⟩ := reads A outer s H vs Q E none (room.deeper _) want
  have at0 : Inv (cxOf CX P w K mg base N qual scope f cdv A outer s H E) [] (start N vs) H s1 := inv_start S room.hd st many vals x
  refine wpAny_mono (ht.run [] s1 (start N vs) H _ at0 hq) (fun fl s2 e2 => ?_) fun _ _ e => e
  cases fl with
  | brk => exact False.elim e2.choose_spec.choose_spec.2
  | cont => exact False.elim e2.choose_spec.choose_spec.2
  | next =>
    obtain ⟨σ2, H2, J, q⟩ := e2
    exact ⟨.non, H2, J.os, J.bare, J.base, J.hok, rfl, q⟩
  | ret u =>
    obtain ⟨v, σ2, H2, J, rv, q⟩ := e2
    exact ⟨v, H2, J.os, J.bare, J.base, J.hok, rv, q⟩
section
variable {P : Program} {w : World} {K : PySem.W.Frag} {mg : Str → Option Value} {base : Heap}
/-- the rule for a def that lets nothing out -/
theorem okG {x qual : Str} {st : Stmt} {f : Addr} {fd : FuncData} {N ps : List Str} {k : Nat} {sp : Sp} (F : Fun K x qual st f fd) (S : FnScope N ps (defScope st)) (len : ∀ vs H Q E, sp vs H Q E → vs.length = ps.length)
    (reads : ∀ (cdv : Value) (A : Around) (outer : List Env) (s : Shared) (H : Hp) (vs : List V) (Q : VK) (E : XK), A.guards = some [] → Room k (A.deeper (envOfC qual (defScope st) s.heap.objs.size f cdv)) → sp vs H Q E →
      ∃ t, PSs (cxOf CX0 P w K mg base N qual (defScope st) f cdv A outer s H E).nox (defBody st) t ∧ t { nx := fun _ H' => Q .non H', rt := Q } (start N vs) H) : FnOkG P w K mg base CX0 (k + 1) f fd ps sp := by
  obtain ⟨_, _, _, _, _, _, cdv, _, _, rfl, here, code⟩ := F.ex
  refine bodyG here code S len fun A outer s H vs Q E none room want => ?_
  obtain ⟨t, h, q⟩ := reads cdv A outer s H vs Q E none room want
  exact ⟨t, h.nox, q⟩
end
section
variable {X : Cx} {CX : CXT} {k : Nat} {f : Addr} {fd : FuncData} {ps : List Str} {sp : Sp} {E : XK} {x : Str} {p pos : Pos} {e : Expr} {es : List Expr} {t : TA}
/-- f(..) of such a def, from one -/
theorem pe_callG (none : X.A.guards = some []) (F : FnOkG X.prog X.w X.K X.mg X.base CX k f fd ps sp) (room : Room k X.A) (hg : Gl X x) (hm : X.mg x = some (.ref f)) (hk : PySem.W.keepIn X.K (.ref f) = true) (hb : Binds X.K fd ps []) (out : Passes CX X E)
    (ha : PA X (e :: es) t) (hdb : (x == ("__debug__" : Str)) = false := by decide) (he : starEach (e :: es) X.env = (false, eval e X.env) :: starEach es X.env := by rfl) (hpl : (backTo pos (starEach es X.env)).any (·.1) = false := by rfl) :
    PE X (.Call (.Name x p) (e :: es) [] pos) (tCall sp [] E t) := by
  refine ⟨fun pn s σ H Q I want => wpAny_Call_Name_kw (ld_glob I hg hm ?_ hdb)⟩
  refine PySem.W.callWith_K (h₀ := X.base) I.ok.mod.kin hk (thn (ha.run pos pn s σ H _ I want) fun us s1 ⟨vs, H1, J, rv, q⟩ => ⟨J.kIn, ?_⟩) he hpl
  have q : sp vs H1 Q E := by rw [← List.append_nil vs]; exact q
  have bd := hb s1 us J.kIn (by rw [List.append_nil, ← rv.length]; exact F.len _ _ _ _ q)
  rw [List.append_nil] at bd
  refine wpAny_call (codeAny_mono (F.go X.A X.stack s1 H1 ⟨us, []⟩ us vs Q E none room J.env0 bd rv q) fun r s2 back => ?_)
  match r, back with
  | .error err, b => exact out pn σ H1 s1 err s2 J b
  | .ok (.ret u), b => exact J.after b
  | .ok .next, b => exact b.elim
  | .ok .brk, b => exact b.elim
  | .ok .cont, b => exact b.elim
end
/-! ### repr -/
/-- the text of a value by its data -/
def RepD (K : PySem.W.Frag) (v : V) (H : Hp) (d : PyData) : Prop := Dp K H v d ∧ d.showable = true ∧ d.hasDict = false ∧ d.depth ≤ 8 ∧ d.shown.length ≤ 1000 ∧ ∀ i, d = .int i → i.natAbs.log2 < 1920
def tRepr (K : PySem.W.Frag) (t : TE) : TE := fun σ H Q => t σ H fun v H1 => ∃ d, RepD K v H1 d ∧ Q (.str d.shown) H1
section
variable {X : Cx} {e : Expr} {t : TE} {p pos : Pos}
theorem call_repr (none : X.A.guards = some []) (hu : X.A.units + 64 < cLine) {pins : List (Addr × Obj)} {s : Shared} {σ : St} {H : Hp} {Q : VK} {v : V} {u : Value} (I : Inv X pins σ H s) (rv : RelV v u) {d : PyData} (R : RepD X.K v H d) (q : Q (.str d.shown) H) :
    wpAny (model X.prog X.w) X.A (call (.builtin "repr") [u]) (EP X pins σ Q) X.xe s := by
  obtain ⟨hd, hs, nodict, deep, hz, hi⟩ := R
  have big : d.shown.length ≤ sizeLine := Nat.le_trans hz (by decide)
  have fin : ∀ (h' : Heap) (tk : Nat) (t2 : Tok), (∀ b o, s.heap.get? b = some o → h'.get? b = some o) → EP X pins σ Q (.str d.shown t2) { s with heap := h', toks := tk } := fun h' tk t2 k => ⟨.str d.shown, H, I.kept k, ⟨_, rfl⟩, q⟩
  have deep9 : X.A.units + (d.depth + 1) < cLine := by omega
  have hd0 := hd
  cases hd with
  | non =>
    obtain rfl : u = Value.none := rv
    exact PySem.P.repr_of_none (fin _ _ _ fun _ _ e => e)
  | bl b =>
    obtain rfl : u = Value.bool b := rv
    exact PySem.P.repr_of_bool (fin _ _ _ fun _ _ e => e)
  | int i =>
    obtain ⟨t1, rfl⟩ := rv
    exact PySem.P.repr_of_int (hi i rfl) (fin _ _ _ fun _ _ e => e)
  | str x =>
    obtain ⟨t1, rfl⟩ := rv
    exact PySem.P.repr_of_str (fin _ _ _ fun _ _ e => e) big
  | lst a b =>
    obtain ⟨as, R⟩ := Dp.reads I _ _ _ hd0 rv
    obtain rfl : u = Value.ref _ := rv
    exact repr_of_reads' R hs (fun z => by rw [nodict] at z; cases z) none deep9 (fun _ _ e => e) (fun h' u tk k => fin h' tk u k) big
  | tup a b =>
    obtain ⟨as, R⟩ := Dp.reads I _ _ _ hd0 rv
    obtain rfl : u = Value.ref _ := rv
    exact repr_of_reads' R hs (fun z => by rw [nodict] at z; cases z) none deep9 (fun _ _ e => e) (fun h' u tk k => fin h' tk u k) big
/-- repr as a built-in that is called -/
def rRepr (K : PySem.W.Frag) : List V → Hp → VK → Prop := fun xs H Q => ∃ v d, xs = [v] ∧ RepD K v H d ∧ Q (.str d.shown) H
theorem call_reprR (none : X.A.guards = some []) (hu : X.A.units + 64 < cLine) : CallR X (.builtin "repr") (rRepr X.K) := by
  intro pins s σ H xs us Q I rv want
  obtain ⟨v, d, rfl, R, q⟩ := want
  cases rv with
  | cons r0 r1 =>
    cases r1
    exact call_repr none hu I r0 R q
end
/-! ### the head of such a law -/
/-- in the heap s₁ nothing is tracked but the script at a and the tables of code objects -/
structure Bare0 (K : PySem.W.Frag) (cs : List (Addr × Addr)) (a : Addr) (vs : List Value) (ns : List Int) (s₁ : Shared) (H : Hp) : Prop where
  tabs : ∀ p ∈ cs, H p.2 = some (.tbl #[])
  only : ∀ b u, H b = some u → (∃ p ∈ cs, b = p.2 ∧ u = .tbl #[]) ∨ (b = a ∧ K.lookup a = none ∧ u = .frz { cls := .type "list", data := .seq vs.toArray } (.lst (ns.map V.int)))
  scr : SqL K H a (ns.map V.int)
section
variable {K : PySem.W.Frag} {cs : List (Addr × Addr)} {a : Addr} {vs : List Value} {ns : List Int} {s₁ : Shared} {H : Hp}
theorem bare0_is (KX : K.In s₁.heap) (hT : ∀ p ∈ cs, s₁.heap.get? p.2 = some { cls := .none, data := .fields #[] }) (ha : s₁.heap.get? a = some { cls := .type "list", data := .seq vs.toArray }) (hi : IntsAre vs ns) (hl : ns.length ≤ sizeLine) :
    ∃ H, Bare0 K cs a vs ns s₁ H := by
  have apart : ∀ p ∈ cs, p.2 ≠ a := fun p hp z => by
    have t := hT p hp
    rw [z, ha] at t
    cases t
  by_cases known : K.lookup a = none
  · refine ⟨fun b => if b = a then some (.frz { cls := .type "list", data := .seq vs.toArray } (.lst (ns.map V.int))) else if b ∈ cs.map (·.2) then some (.tbl #[]) else none, fun p hp => ?_, fun b u e => ?_, .inl (.inr ⟨_, if_pos rfl⟩)⟩
    · exact (if_neg (apart p hp)).trans (if_pos (List.mem_map.mpr ⟨p, hp, rfl⟩))
    · by_cases z : b = a
      · have e2 := (if_pos z).symm.trans e
        cases e2
        exact .inr ⟨z, known, rfl⟩
      · have e2 := (if_neg z).symm.trans e
        by_cases m : b ∈ cs.map (·.2)
        · obtain ⟨p, hp, q⟩ := List.mem_map.mp m
          have e3 := (if_pos m).symm.trans e2
          cases e3
          exact .inl ⟨p, hp, q.symm, rfl⟩
        · have e3 := (if_neg m).symm.trans e2
          cases e3
  · obtain ⟨o, known⟩ := Option.ne_none_iff_exists'.mp known
    have e := KX a o known
    rw [ha] at e
    cases e
    refine ⟨fun b => if b ∈ cs.map (·.2) then some (.tbl #[]) else none, fun p hp => if_pos (List.mem_map.mpr ⟨p, hp, rfl⟩), fun b u e => ?_, .inr ⟨_, vs.toArray, _, known, rfl, rfl, rfl, ?_, ?_⟩⟩
    · by_cases m : b ∈ cs.map (·.2)
      · obtain ⟨p, hp, q⟩ := List.mem_map.mp m
        have e3 := (if_pos m).symm.trans e
        cases e3
        exact .inl ⟨p, hp, q.symm, rfl⟩
      · have e3 := (if_neg m).symm.trans e
        cases e3
    · rw [List.size_toArray, hi.length]
      exact hl
    · have := vals_ints hi
      simpa using this
variable (B : Bare0 K cs a vs ns s₁ H) (hT : ∀ p ∈ cs, s₁.heap.get? p.2 = some { cls := .none, data := .fields #[] }) (nT : ∀ p ∈ cs, K.lookup p.2 = none) (ha : s₁.heap.get? a = some { cls := .type "list", data := .seq vs.toArray })
include B hT ha
theorem Bare0.hok {P : Program} {w : World} (hi : IntsAre vs ns) (hl : ns.length ≤ sizeLine) : HOk P w H s₁.heap := by
  intro b u e
  rcases B.only b u e with ⟨p, hp, rfl, rfl⟩ | ⟨rfl, _, rfl⟩
  · exact hT p hp
  · exact ⟨ha, by rw [List.length_map]; exact hl, vs, _, vals_ints hi, ha⟩
/-- what is neither a list nor an empty table is not tracked -/
theorem Bare0.unseen {b : Addr} {o : Obj} (e : s₁.heap.get? b = some o) (h1 : ∀ us n, o.data ≠ .seq us n) (h2 : o.data ≠ .fields #[]) : H b = none := by
  cases q : H b with
  | none => rfl
  | some u =>
    rcases B.only b u q with ⟨p, hp, rfl, _⟩ | ⟨rfl, _, _⟩
    · rw [hT p hp] at e
      cases e
      exact absurd rfl h2
    · rw [ha] at e
      cases e
      exact absurd rfl (h1 _ _)
include nT
theorem Bare0.known (KX : K.In s₁.heap) : K.In (hidT s₁.heap H) := by
  intro b o e
  refine hidT_get (KX b o e) ?_
  cases q : H b with
  | none => rfl
  | some u =>
    rcases B.only b u q with ⟨p, hp, rfl, _⟩ | ⟨rfl, k, _⟩
    · rw [nT p hp] at e
      cases e
    · rw [k] at e
      cases e
end
theorem tab_at {cs : List (Addr × Addr)} {mg : Str → Option Value} {s₁ : Shared} {h : Heap} {p : Addr × Addr} (hp : p ∈ cs) (hns : s₁.heap.Ns mainGlobals mg) (hT : ∀ p ∈ cs, s₁.heap.get? p.2 = some { cls := .none, data := .fields #[] }) (C : ∀ p ∈ cs, PySem.W.CodeHd s₁.heap p.1 p.2)
    (hbm : ∃ (bm : Addr) (ob : Obj), mg "__builtins__" = some (.ref bm) ∧ bm ≠ builtinsNs ∧ s₁.heap.get? bm = some ob ∧ ob.cls = .type "module" ∧ ob.dict = some builtinsNs ∧ ob.data = .plain)
    (keep : ∀ b o, s₁.heap.get? b = some o → (∀ us n, o.data ≠ .seq us n) → o.data ≠ .fields #[] → h.get? b = some o) : LamX.TabB h mg p.1 p.2 := by
  have tp := hT p hp
  obtain ⟨oc, us, file, tf, flags, tg, inF, text, tt, c1, c2, c3, c4, c5, c6, c7, c8, c9, c10⟩ := C p hp
  obtain ⟨bm, ob, b1, b2, b3, b4, b5, b6⟩ := hbm
  obtain ⟨og, es, ep, g1, g2, _⟩ := hns
  refine ⟨⟨oc, us, file, tf, flags, tg, inF, text, tt, keep _ _ c1 (fun _ _ z => by rw [c3] at z; cases z) fun z => ?_, c2, c3, c4, c5, c6, c7, c8, c9, c10⟩, ⟨bm, ob, b1, b2, fun z => ?_, fun z => ?_, keep _ _ b3 (fun _ _ z => by rw [b6] at z; cases z) (fun z => by rw [b6] at z; cases z), b4, b5, b6⟩, fun z => ?_⟩
  · rw [c3] at z
    cases z
    simp at c4
  · rw [z, g1] at b3
    cases b3
    rw [g2] at b6
    cases b6
  · rw [z, tp] at b3
    cases b3
    cases b6
  · rw [z, tp] at g1
    cases g1
    cases g2
section
variable {P : Program} {w : World} {K : PySem.W.Frag} {mg mb : Str → Option Value} {CX : CXT} {k : Nat} {fa a : Addr} {cs : List (Addr × Addr)} {fd : FuncData} {x : Str} {sp : Sp} {s₁ : Shared} {vs : List Value} {ns : List Int}
/-- the law is called on its script -/
theorem enterG (KX : K.In s₁.heap) (hns : s₁.heap.Ns mainGlobals mg) (hb : s₁.heap.Ns builtinsNs mb) (hbb : ∀ x : Str, x ≠ "__name__" → mb x = bootBuiltins x) (hlim : s₁.heap.NoLimit) (hg : s₁.gens = #[])
    (hT : ∀ p ∈ cs, s₁.heap.get? p.2 = some { cls := .none, data := .fields #[] }) (nT : ∀ p ∈ cs, K.lookup p.2 = none) (C : ∀ p ∈ cs, PySem.W.CodeHd s₁.heap p.1 p.2)
    (hbm : ∃ (bm : Addr) (ob : Obj), mg "__builtins__" = some (.ref bm) ∧ bm ≠ builtinsNs ∧ s₁.heap.get? bm = some ob ∧ ob.cls = .type "module" ∧ ob.dict = some builtinsNs ∧ ob.data = .plain)
    (ha : s₁.heap.get? a = some { cls := .type "list", data := .seq vs.toArray }) (hi : IntsAre vs ns) (hl : ns.length ≤ sizeLine) (room : Room k callerA)
    (F : ∀ base : Heap, K.In base → base.Ns mainGlobals mg → (∀ p ∈ cs, LamX.TabB base mg p.1 p.2) → FnOkG P w K mg base CX k fa fd [x] sp) (bind : ∀ (s : Shared) (u : Value), BindsTo s fd ⟨[u], []⟩ [(x, u)])
    (want : ∀ H : Hp, (∀ p ∈ cs, H p.2 = some (.tbl #[])) → SqL K H a (ns.map V.int) → sp [.ref a] H (fun v _ => v = .bl true) fun _ _ _ => False) (quiet : ∀ H e s', CX [] H s₁ (fun _ _ _ => False) e s' → False) :
    codeAny (model P w) callerA (.call (.ref fa) ⟨[.ref a], []⟩) (fun r s' => r = .ok (.ret (.bool true)) ∧ OldK s₁.heap s'.heap ∧ s'.os = s₁.os ∧ AllBare s'.gens) s₁ := by
  obtain ⟨H, B⟩ := bare0_is (K := K) (cs := cs) (ns := ns) KX hT ha hi hl
  have keep : ∀ b o, s₁.heap.get? b = some o → (∀ us n, o.data ≠ .seq us n) → o.data ≠ .fields #[] → (hidT s₁.heap H).get? b = some o := fun b o e h1 h2 => hidT_get e (B.unseen hT ha e h1 h2)
  have names : ∀ {b : Addr} {m : Str → Option Value}, s₁.heap.Ns b m → (hidT s₁.heap H).Ns b m := by
    rintro b m ⟨o, es, ep, e, d, r⟩
    exact ⟨o, es, ep, keep b o e (fun _ _ z => by rw [d] at z; cases z) (fun z => by rw [d] at z; cases z), d, r⟩
  have KH := B.known hT nT ha KX
  obtain ⟨mc, l1, l2⟩ := hlim
  have st : Env0 P w K mg (hidT s₁.heap H) callerA [] s₁ H := ⟨rfl, ⟨KH, names hns, ⟨mb, names hb, hbb⟩, ⟨mc, names l1, l2⟩⟩, fun b o e => of_hidT e, Nat.le_of_eq (hidT_size _ _), trivial, fun b m => absurd (show b ∈ ([] : List Addr) from m) (by simp), B.hok hT ha hi hl, .of_eq hg⟩
  refine codeAny_mono ((F _ KH (names hns) fun p hp => tab_at hp hns hT C hbm keep).go callerA [] s₁ H ⟨[.ref a], []⟩ [.ref a] [.ref a] _ _ rfl room st (bind s₁ (.ref a)) (.cons rfl .nil) (want H B.tabs B.scr)) fun r s2 e => ?_
  match r, e with
  | .error e, h => exact (quiet H e s2 h).elim
  | .ok .next, h => exact h.elim
  | .ok .brk, h => exact h.elim
  | .ok .cont, h => exact h.elim
  | .ok (.ret u), ⟨v, H2, oseq, gens, un, hok2, rv, q⟩ =>
    obtain rfl : v = .bl true := q
    obtain rfl : u = Value.bool true := rv
    have same : ∀ b o, s₁.heap.get? b = some o → (∀ p ∈ cs, b ≠ p.2) → s2.heap.get? b = some o := by
      intro b o e out
      cases q : H b with
      | none => exact un.keep b o e q (by intro z; exact absurd (show b ∈ ([] : List Addr) from z) (by simp)) (by simp)
      | some t =>
        rcases B.only b t q with ⟨p, hp, eb, _⟩ | ⟨eb, _, et⟩
        · exact absurd eb (out p hp)
        · rw [et] at q
          obtain ⟨m1, _⟩ := hok2 b _ (un.frzs b _ _ q)
          rw [eb] at e
          rw [ha] at e
          cases e
          exact m1
    have more : ∀ p ∈ cs, ∃ us : Array Value, s2.heap.get? p.2 = some { cls := .none, data := .fields us } := by
      intro p hp
      obtain ⟨us, z⟩ := un.tbls p.2 #[] (B.tabs p hp)
      exact ⟨_, hok2 p.2 _ z⟩
    refine ⟨rfl, ⟨fun b o e => ?_, fun b o e => ?_⟩, oseq, gens⟩
    · by_cases m : ∃ p ∈ cs, b = p.2
      · obtain ⟨p, hp, rfl⟩ := m
        obtain ⟨us, hm⟩ := more p hp
        rw [hT p hp] at e
        cases e
        exact .inr (.inl ⟨((C p hp).tab (hT p hp)).isCodeTable, rfl, #[], us, rfl, by rw [Array.empty_append]; exact hm⟩)
      · exact .inl (same b o e fun p hp z => m ⟨p, hp, z⟩)
    · by_cases m : ∃ p ∈ cs, b = p.2
      · obtain ⟨p, hp, rfl⟩ := m
        obtain ⟨us, hm⟩ := more p hp
        exact ⟨_, hm⟩
      · exact ⟨o, same b o e fun p hp z => m ⟨p, hp, z⟩⟩
end
/-- what is known of the law at the head's heap h -/
def LawG (l : PySem.W.OpenLaw) (w : World) (K : PySem.W.Frag) (CX : CXT) (k n : Nat) (x : Str) (mg : Str → Option Value) (fa : Addr) (h : Heap) : Prop :=
  ∃ (fd : FuncData) (cs : List (Addr × Addr)) (sp : Sp), ((∀ p ∈ cs, h.get? p.2 = some { cls := .none, data := .fields #[] }) ∧ (∀ p ∈ cs, K.lookup p.2 = none) ∧ ∀ p ∈ cs, PySem.W.CodeHd h p.1 p.2) ∧ (∀ (s : Shared) (u : Value), BindsTo s fd ⟨[u], []⟩ [(x, u)]) ∧
    (∀ (H : Hp) (a : Addr) (ns : List Int), ns.length ≤ n → (∀ p ∈ cs, H p.2 = some (.tbl #[])) → SqL K H a (ns.map V.int) → sp [.ref a] H (fun v _ => v = .bl true) fun _ _ _ => False) ∧
    ∀ base : Heap, K.In base → base.Ns mainGlobals mg → (∀ p ∈ cs, LamX.TabB base mg p.1 p.2) → FnOkG l.prog w K mg base CX k fa fd [x] sp
theorem walkG {l : PySem.W.OpenLaw} {n k : Nat} {q : Program} {loose : List Str} {XP : (Str → Option Value) → Heap → Prop} {YP : World → Heap → Prop} {d : DefRec} {K : Params → PySem.W.Frag} {CX : World → CXT} {x : Str}
    (hn : l.most = some n) (hn2 : n ≤ sizeLine) (hdf : d.params.defaults = []) (room : Room k callerA) (hY : ∀ (w : World) (h : Heap), YP w h → (K w.params).In h)
    (F : ∀ (w : World) (mg : Str → Option Value) (fa : Addr) (h : Heap), YP w h → (K w.params).In h → h.Ns mainGlobals mg → mg d.name = some (.ref fa) → LawG l w (K w.params) (CX w) k n x mg fa h)
    (quiet : ∀ (w : World) (H : Hp) (s : Shared) (e : Value) (s' : Shared), CX w [] H s (fun _ _ _ => False) e s' → False) :
    PySem.W.WalkO q loose XP YP l.row.toRowW d [] (fun f vs => PySem.call f vs) := by
  refine Att.attach_callB hn hdf fun w s₀ s₁ mg mb fa o pm cd doc a vs ns G Y ho hd hcd hmg hobj hints hlen _ hg => ?_
  obtain ⟨fd, cs, sp, ⟨c1, c2, c3⟩, hb, hsp, hF⟩ := F w mg fa _ Y (hY w _ Y) G.T.g hmg
  exact enterG (hY w _ Y) G.T.g G.T.b G.T.builtins G.T.nolimit hg c1 c2 c3 G.T.bmain hobj hints (Nat.le_trans hlen hn2) room hF hb (fun H hH hS => hsp H a ns hlen hH hS) fun H e s' => quiet w H s₁ e s'
end My
/-! C(..) in a try's body: what __init__ lets out is wished for at the caller's slots. -/
namespace My
open PySem PySem.Spec L2
open PyProof.Rows hiding St
section
variable {X : Cx} {CX : CXT} {k : Nat} {f C : Addr} {fd : FuncData} {ps : List Str} {sp : Sp} {dvs : List V} {ds : List Value} {E : L2.St → XK} {x : Str} {p pos : Pos} {e : Expr} {es : List Expr} {t : TA}
def tMakeS (C : Addr) (sp : Sp) (dvs : List V) (E : L2.St → XK) (t : TA) : TE := fun σ H Q => t σ H fun vs H1 => ∀ x dx, H1 x = none → H1 dx = none → dx ≠ x →
  sp (.ref x :: (vs ++ dvs)) (upd (upd H1 dx (.own x)) x (.ins C dx [])) (fun v H2 => v = .non ∧ Q (.ref x) H2) (E σ)
theorem pe_makeS (M : Mk X.K C f) (F : FnOk X.prog X.w X.K X.mg X.base CX k f fd ps sp) (room : Room (k + 1) X.A) (hg : Gl X x) (hm : X.mg x = some (.ref C)) (hb : Binds X.K fd ps ds) (hd : Vals dvs ds) (out : ∀ σ, PassesAt CX X σ (E σ))
    (ha : PA X (e :: es) t) (hdb : (x == ("__debug__" : Str)) = false := by decide) (he : starEach (e :: es) X.env = (false, eval e X.env) :: starEach es X.env := by rfl) (hpl : (backTo pos (starEach es X.env)).any (·.1) = false := by rfl) :
    PE X (.Call (.Name x p) (e :: es) [] pos) (tMakeS C sp dvs E t) := by
  refine ⟨fun pn s σ H Q I want => wpAny_Call_Name_kw (ld_glob I hg hm ?_ hdb)⟩
  refine PySem.W.callWith_K (h₀ := X.base) I.ok.mod.kin M.kp (thn (ha.run pos pn s σ H _ I want) fun us s1 ⟨vs, H1, J, rv, q⟩ => ⟨J.kIn, ?_⟩) he hpl
  have new := q (s1.heap.objs.size + 1) s1.heap.objs.size (J.hok.fresh (Nat.le_succ _)) (J.hok.fresh (Nat.le_refl _)) (Nat.ne_of_lt (Nat.lt_succ_self _))
  have J2 := Inv.made (C := C) J
  have rv2 : Vals (V.ref (s1.heap.objs.size + 1) :: (vs ++ dvs)) (Value.ref (s1.heap.objs.size + 1) :: (us ++ ds)) := .cons rfl (rv.append hd)
  have many : (Value.ref (s1.heap.objs.size + 1) :: us ++ ds).length = ps.length := (F.len _ _ _ _ new).symm.trans rv2.length |>.symm
  refine wpAny_call (make_map (f := f) J.kIn M.makes M.init (beq_iff_eq.mp M.fn) (codeAny_mono (F.run _ X.stack _ _ ⟨Value.ref (s1.heap.objs.size + 1) :: us, []⟩ (Value.ref (s1.heap.objs.size + 1) :: (us ++ ds)) _ _ (E σ) (room.make C us [])
    (J2.env0.make C us []) (hb _ (Value.ref (s1.heap.objs.size + 1) :: us) J2.kIn many) rv2 new) fun r s2 back => ?_))
  match r, back with
  | .error err, b => exact out σ pn _ _ err s2 J2 b
  | .ok .next, b => exact b.elim
  | .ok .brk, b => exact b.elim
  | .ok .cont, b => exact b.elim
  | .ok (.ret u), b =>
    obtain ⟨v, H3, J3, rw3, ev, q3⟩ := J2.after b
    subst ev
    exact ⟨rw3, .ref (s1.heap.objs.size + 1), H3, J3, rfl, q3⟩
end
end My
/-! A tuple of some items, no times or once. -/
namespace My
open PySem PySem.Spec L2
open PyProof.Rows hiding St
section
variable {l : Addr} {its : Array Value} {n : Nat} {dd : Option Addr} {sl : Array (Option Value)} {u : Tok}
theorem tup_once : Meets (Builtin.«tuple.__mul__» ⟨[.ref l, .int 1 u], []⟩) (fun _ R s => s.heap.get? l = some { cls := .type "tuple", dict := dd, data := .seq its n, slots := sl } ∧ R (.ok (.ret (Value.ref l))) s) :=
  .of_wp fun prog w A R s h => by
    obtain ⟨hp, g, d, tk, os⟩ := s
    obtain ⟨hl, h⟩ := h
    have one := AutoSeq1.idx_int
    wp_walk using wpAny_loadPart' hl
    repeat (first
      | (refine wpAny_ite_false (by decide) ?_; wp_walk using wpAny_loadPart' hl)
      | (refine wpAny_ite_true (by cases its.isEmpty <;> decide) ?_; wp_walk using wpAny_loadPart' hl))
    exact ⟨_, rfl, h⟩
theorem tup_never (full : its.isEmpty = false) : Meets (Builtin.«tuple.__mul__» ⟨[.ref l, .int 0 u], []⟩) (fun _ R s => s.heap.get? l = some { cls := .type "tuple", dict := dd, data := .seq its n, slots := sl } ∧
      R (.ok (.ret (Value.ref s.heap.objs.size))) { s with heap := s.heap.push { cls := Value.type "tuple", data := Data.seq #[] }, toks := s.toks }) :=
  .of_wp fun prog w A R s h => by
    obtain ⟨hp, g, d, tk, os⟩ := s
    obtain ⟨hl, h⟩ := h
    have one := AutoSeq1.idx_int
    wp_walk using wpAny_loadPart' hl
    repeat (first
      | (refine wpAny_ite_false (by decide) ?_; wp_walk using wpAny_loadPart' hl)
      | (refine wpAny_ite_false (by rw [full]; decide) ?_; wp_walk using wpAny_loadPart' hl)
      | (refine wpAny_ite_true (by decide) ?_; wp_walk using wpAny_loadPart' hl)
      | (refine wpAny_ite_true (by rw [full]; decide) ?_; wp_walk using wpAny_loadPart' hl))
    exact ⟨_, rfl, h⟩
end
/-- a tuple that is not empty times a few -/
def rRepT2 (K : PySem.W.Frag) : R2 := fun x y H Q => ∃ l xs, ∃ k : Nat, x = .ref l ∧ y = .int (k : Int) ∧ H l = some (.tup xs) ∧ xs ≠ [] ∧ k ≤ 1000 ∧ xs.length ≤ 1000 ∧ ∀ p H', Same H H' → H' p = some (.tup (List.replicate k xs).flatten) → Q (.ref p) H'
section
variable {X : Cx}
theorem op_repT2 : OpR X (binaryOp .Mult) (rRepT2 X.K) := by
  intro pins s σ H x y v u Q I rx ry h
  obtain ⟨l, xs, k, rfl, rfl, hl, ne, kk, hz, q⟩ := h
  match k with
  | k + 2 =>
    refine op_repT pins s σ H _ _ v u Q I rx ry ⟨l, ((k + 2 : Nat) : Int), xs, rfl, rfl, SqT.of hl, ne, by omega, by omega, hz, fun p np => q p _ ?_ ?_⟩
    · intro b o e
      rw [upd_ne (ne_of_none e np)]
      exact e
    · rw [upd_same, Int.toNat_natCast]
  | 1 =>
    cases rx
    obtain ⟨t, rfl⟩ := ry
    obtain ⟨its, r, ⟨⟨cls, dd, data, sl⟩, ho, hc, n, hd⟩, hs⟩ := I.tuple (SqT.of (K := X.K) hl)
    simp only at hc hd
    subst hc hd
    refine wpAny_binaryOp_repeat_ref (T := "tuple") (U := "int") (by decide) ⟨_, ho, rfl⟩ (fun s' => typeIs_int s' 1 t) noFill_tuple_mul F.fills_int_mul F.slot_int_rmul repeat_tuple F.slot_int_index.lookup
      (call_meets F.slot_int_rmul (typeIs_int s 1 t) F.entry_int_rmul (F.args_int_rmul_2 _ _) (int_rmul_tuple 1 t l its.toArray n dd sl)
        ⟨ho, rfl, ⟨_, ho, rfl⟩, call_meets F.slot_tuple_mul ⟨_, ho, rfl⟩ F.entry_tuple_mul (F.args_tuple_mul_2 _ _) tup_once ⟨ho, ?_⟩⟩)
    exact ⟨.ref l, H, I, rfl, q l H (fun _ _ e => e) (by simpa using hl)⟩
  | 0 =>
    cases rx
    obtain ⟨t, rfl⟩ := ry
    obtain ⟨its, r, ⟨⟨cls, dd, data, sl⟩, ho, hc, n, hd⟩, hs⟩ := I.tuple (SqT.of (K := X.K) hl)
    simp only at hc hd
    subst hc hd
    have full : its.toArray.isEmpty = false := by
      cases its with
      | nil =>
        have := r.length
        exact absurd (List.eq_nil_of_length_eq_zero this) ne
      | cons a b => rfl
    refine wpAny_binaryOp_repeat_ref (T := "tuple") (U := "int") (by decide) ⟨_, ho, rfl⟩ (fun s' => typeIs_int s' 0 t) noFill_tuple_mul F.fills_int_mul F.slot_int_rmul repeat_tuple F.slot_int_index.lookup
      (call_meets F.slot_int_rmul (typeIs_int s 0 t) F.entry_int_rmul (F.args_int_rmul_2 _ _) (int_rmul_tuple 0 t l its.toArray n dd sl)
        ⟨ho, rfl, ⟨_, ho, rfl⟩, call_meets F.slot_tuple_mul ⟨_, ho, rfl⟩ F.entry_tuple_mul (F.args_tuple_mul_2 _ _) (tup_never full) ⟨ho, ?_⟩⟩)
    have np : H s.heap.objs.size = none := I.hok.fresh (Nat.le_refl _)
    refine ⟨.ref s.heap.objs.size, upd H s.heap.objs.size (.tup []), I.laid (t' := s.toks) (o := .tup []) (fun b ob q => Heap.get?_push_of_some _ q) (Nat.le_refl _) ⟨by decide, [], .nil, IsTup.new _ _⟩, rfl, q _ _ ?_ ?_⟩
    · intro b o e
      rw [upd_ne (ne_of_none e np)]
      exact e
    · rw [upd_same]
      rfl
end
end My
/-! What a name holds is walked, be it a list or a tuple. -/
namespace My
open PySem PySem.Spec L2
open PyProof.Rows hiding St
def iOr (a b : TI) : TI := fun σ H R => a σ H R ∨ b σ H R
theorem pi_or {X : Cx} {tg it : Expr} {a b : TI} (h : PI X tg it a) (k : PI X tg it b) : PI X tg it (iOr a b) :=
  ⟨fun pins s σ H R I w => w.elim (h.run pins s σ H R I) (k.run pins s σ H R I)⟩
/-- a name that holds a list or a tuple -/
theorem pi_seqv {X : Cx} {tg l : Expr} {te : TE} (h : PE X l te) : PI X tg l (iOr (iList X.K te) (iTup X.K te)) := pi_or (pi_list h) (pi_tup h)
/-- what its walk asks -/
theorem seqv {K : PySem.W.Frag} {σ : L2.St} {H : Hp} {i : Nat} {a : Addr} {xs : List V} {R : It → Hp → Prop} (hv : σ[i]? = some (some (.ref a))) (hS : H a = some (.lst xs) ∨ H a = some (.tup xs))
    (h : ∀ (J : It) (G : Hp → Prop), Walk J xs.length G (YAt xs) → (∀ H', Same H H' → G H') → R J H) : iOr (iList K (tVar i)) (iTup K (tVar i)) σ H R := by
  rcases hS with e | e
  · exact .inl ⟨_, hv, a, rfl, ⟨xs, SqL.of e⟩, h _ _ walk_list fun H' s => SqL.of (s _ _ e)⟩
  · exact .inr ⟨_, hv, a, rfl, ⟨xs, SqT.of e⟩, h _ _ walk_tup fun H' s => SqT.of (s _ _ e)⟩
section
variable {J : It} {G : Hp → Prop} {xs : List V} {D : Addr} {i : Nat} {vs : List Nat} {te : TE} {σ : L2.St} {H1 : Hp} {Qd : Hp → Prop}
/-- a comprehension without a test over such a walk -/
theorem each_it (w : Walk J xs.length G (YAt xs)) (I : Nat → List V → Hp → Prop) (h0 : I 0 [] (upd H1 D (.lst []))) (hG : ∀ j ys H, I j ys H → G H) (sz : xs.length ≤ 1000) (hw : ∀ x, wipe ((wipe σ vs).set i (some x)) vs = wipe σ vs)
    (hs : ∀ j x ys H, xs[j]? = some x → I j ys H → H D = some (.lst ys) → ∀ R : VK, (∀ y H4, H4 D = some (.lst ys) → I (j + 1) (ys ++ [y]) (upd H4 D (.lst (ys ++ [y]))) → R y H4) → te ((wipe σ vs).set i (some x)) H R)
    (hd : ∀ H ys, I xs.length ys H → H D = some (.lst ys) → ys.length = xs.length → Qd H) :
    ∃ W : Nat → Nat → Hp → Prop, (∃ m, W 0 m (upd H1 D (.lst []))) ∧ ∀ i0 m H, W i0 m H →
      (J.stop i0 H ∧ Qd H) ∨ (J.go i0 H ∧ ∃ Nx : Hp → Prop, (∀ H', Nx H' → ∃ m', m' < m ∧ W (i0 + 1) m' H') ∧ ∀ x H', J.yld i0 H x H' → gName i x (wipe σ vs) H' fun σ2 H2 => wipe σ2 vs = wipe σ vs ∧ tYes σ2 H2 fun b H3 =>
        if b = true then te σ2 H3 fun y H4 => ∃ acc, H4 D = some (.lst acc) ∧ acc.length < sizeLine ∧ Nx (upd H4 D (.lst (acc ++ [y]))) else Nx H3) := by
  refine lc_it w (fun j H => ∃ ys, I j ys H ∧ H D = some (.lst ys) ∧ ys.length = j) ⟨[], h0, upd_same, rfl⟩ (fun j H _ ⟨ys, h, _⟩ => hG j ys H h) ?_ ?_
  · rintro j x H H' hj ⟨ys, hi, e, g⟩ ⟨rfl, hx⟩
    refine ⟨hw x, ?_⟩
    dsimp only [tYes]
    rw [if_pos rfl]
    refine hs j x ys H' hx hi e _ fun y H4 e4 h4 => ⟨ys, e4, ?_, ys ++ [y], h4, upd_same, by rw [List.length_append, g]; rfl⟩
    exact Nat.lt_of_lt_of_le (by omega : ys.length < 1001) (by decide)
  · rintro H ⟨ys, hi, e, g⟩
    exact hd H ys hi e g
end
end My
/-! len of an instance whose class has its own __len__. -/
namespace My
open PySem PySem.Spec L2
open PyProof.Rows hiding St
/-- what an own __len__ promises: the n that R names -/
def spLen (R : Addr → Hp → Nat → Prop) : Sp := fun vs H Q _ => ∃ a n, vs = [.ref a] ∧ R a H n ∧ ∀ H', Same H H' → Q (.int (n : Int)) H'
def rLenOwn (C : Addr) (R : Addr → Hp → Nat → Prop) : List V → Hp → VK → Prop := fun xs H Q => ∃ a dx fs n, xs = [.ref a] ∧ H a = some (.ins C dx fs) ∧ R a H n ∧ n < 1000000 ∧ ∀ H', Same H H' → Q (.int (n : Int)) H'
section
variable {X : Cx} {CX : CXT} {k : Nat} {f C : Addr} {fd : FuncData} {ps : List Str} {E : XK}
theorem call_lenOwn {R : Addr → Hp → Nat → Prop} (F : FnOk X.prog X.w X.K X.mg X.base CX k f fd ps (spLen R)) (room : Room (k + 1) X.A) (has : PySem.W.findIn X.K (.ref C) "__len__" = some (some (.ref f))) (fn : PySem.W.isFn X.K (.ref f) = true)
    (bd : Binds X.K fd ps []) (out : Passes CX X E) : CallR X (.builtin "len") (rLenOwn C R) := by
  intro pins s σ H xs us Q I rv want
  obtain ⟨a, dx, fs, n, rfl, ha, hR, hn, q⟩ := want
  cases rv with
  | cons r0 r1 =>
  cases r1
  obtain rfl := (show _ = Value.ref a from r0)
  obtain ⟨mA, O, _⟩ := ins_get I.hok ha
  obtain ⟨od, J, _⟩ := O.look
  have kind : PySem.W.Looks (model X.prog X.w) s.heap (typeOf (.ref a)) (.ref C) := NwA.type_at J.at_ rfl
  have spec : PySem.W.Looks (model X.prog X.w) s.heap (specialOf (.ref a) "__len__") (some (.ref f)) := kind.andThen (PySem.W.looks_findIn I.kIn has)
  have bind := fun self => PySem.W.bind_fn (M := model X.prog X.w) I.kIn self (beq_iff_eq.mp fn)
  have want2 : spLen R [.ref a] H (fun v H' => v = .int (n : Int) ∧ Q v H') E := ⟨a, n, rfl, hR, fun H' sm => ⟨rfl, q H' sm⟩⟩
  have bd2 := bd s [.ref a] I.kIn (by rw [List.append_nil]; exact F.len _ _ _ _ want2)
  rw [List.append_nil] at bd2
  have run : wpAny (model X.prog X.w) X.A.in1 (call (.ref f) [.ref a]) (EP X pins σ fun v H' => v = .int (n : Int) ∧ Q v H') X.xe s := by
    refine wpAny_call (codeAny_mono (F.run X.A.in1 X.stack s H ⟨[.ref a], []⟩ [.ref a] [.ref a] _ E room.in1 I.env0.in1 bd2 (.cons rfl .nil) want2) fun r s2 back => ?_)
    match r, back with
    | .error e, b => exact out pins σ H s e s2 I b
    | .ok (.ret u), b => exact I.after b
    | .ok .next, b => exact b.elim
    | .ok .brk, b => exact b.elim
    | .ok .cont, b => exact b.elim
  refine Calls.call_function_entry kind_len plain_len entry_len (args_len1 _) ?_
  unfold Builtin.«len»
  refine wpAny_bind (m := oneArg "len" _) (wpAny_pure ?_)
  have cs : ∀ {R : Option Value → Shared → Prop}, (∀ t s2, EP X pins σ (fun v H' => v = .int (n : Int) ∧ Q v H') (.int (n : Int) t) s2 → R (some (.int (n : Int) t)) s2) → wpAny (model X.prog X.w) X.A.in1 (callSpecial? (.ref a) (PySem.Str.ofString "__len__")) R X.xe s := by
    intro R hR2
    unfold callSpecial?
    refine wpAny_bind (spec.here ?_)
    refine wpAny_holding (wpAny_bind ((bind _).here (wpAny_bind (wpAny_mono run (fun u s2 e2 => wpAny_pure ?_) fun _ _ x => x))))
    obtain ⟨v, H2, I2, rv2, ev, q2⟩ := id e2
    subst ev
    obtain ⟨t, rfl⟩ := rv2
    exact hR2 t s2 e2
  refine wpAny_bind (m := callSpecial? (.ref a) (PySem.Str.ofString "__len__")) (cs fun t s2 e2 => ?_)
  obtain ⟨v, H2, I2, rv2, ev, q2⟩ := e2
  subst ev
  refine wpAny_bind (wpAny_holding (wpAny_pure ?_))
  refine wpAny_bind (wpAny_letGo ?_)
  show wpAny _ _ (if ((n : Nat) : Int) < 0 then _ else _) _ _ _
  rw [if_neg (by omega)]
  show wpAny _ _ (if ((n : Nat) : Int) ≥ 2 ^ 63 then _ else _) _ _ _
  rw [if_neg (by omega)]
  exact wpAny_bind (wpAny_mkInt (wpAny_pure ⟨_, rfl, .int (n : Int), H2, I2.tok _, ⟨_, rfl⟩, q2⟩))
end
end My
/-! enumerate over a tuple; over what a name holds, be it a list or a tuple. -/
namespace My
open PySem PySem.Spec L2
open PyProof.Rows hiding St
open AutoSeq1 (wpAny_loadPart')
theorem new_enumT (l : Addr) (items : Array Value) (n : Nat) (dct : Option Addr) (sl : Array (Option Value)) :
    Meets (Builtin.«enumerate.__new__» ⟨[.type "enumerate", .ref l], []⟩) (fun _ R s => s.heap.get? l = some { cls := .type "tuple", dict := dct, data := .seq items n, slots := sl } ∧
      R (.ok (.ret (.ref (s.heap.push { cls := .type "tuple_iterator", data := .fields #[.ref l, .int 0 0] }).objs.size)))
        { s with heap := (s.heap.push { cls := .type "tuple_iterator", data := .fields #[.ref l, .int 0 0] }).push { cls := .type "enumerate", data := .fields #[.none, .bool false, .ref s.heap.objs.size, rawInt 0, .none, .none] } }) :=
  .of_wp fun prog w A R s h => by
    obtain ⟨hp, g, d, tk, os⟩ := s
    obtain ⟨hl, h⟩ := h
    have hsub := sub_enumerate
    have tup : Heap.IsTuple (Shared.heap ⟨hp, g, d, tk, os⟩) l items := ⟨_, hl, rfl, n, rfl⟩
    wp_walk using wpAny_loadPart' hl
    refine wpAny_stack_any fun st => wpAny_pure ?_
    split
    · rename_i c _ _ _ _ _
      cases (c == Value.type "enumerate") <;> (wp_walk using wpAny_loadPart' hl, wpAny_pyIter_tuple tup; exact ⟨_, rfl, h⟩)
    · wp_walk using wpAny_loadPart' hl, wpAny_pyIter_tuple tup
      exact ⟨_, rfl, h⟩
theorem make_enumT {prog : Program} {w : World} {A : Around} {E : Value → Shared → Prop} {s : Shared} {l : Addr} {items : Array Value} {Q : Value → Shared → Prop} (tup : s.heap.IsTuple l items)
    (h : ∀ h', IsEnum h' (s.heap.objs.size + 1) s.heap.objs.size 0 .none → h'.IsTupleIter s.heap.objs.size l 0 → (∀ b o, s.heap.get? b = some o → h'.get? b = some o) → Q (.ref (s.heap.objs.size + 1)) { s with heap := h' }) :
    wpAny (model prog w) A (call (.type "enumerate") [.ref l]) Q E s := by
  obtain ⟨⟨c, dct, dt, sl⟩, hl, hc, n, hd⟩ := tup
  simp only at hc hd
  subst hc hd
  refine callType_new F.called_enumerate (by decide) (F.typeCall_enumerate_1 _) (F.newCall_enumerate_1 _) (fun obj => F.args_object_init_2 obj _) F.entry_enumerate_new (new_enumT l items n dct sl) ⟨hl, ?_⟩
  have sz : (s.heap.push { cls := .type "tuple_iterator", data := .fields #[.ref l, .int 0 0] }).objs.size = s.heap.objs.size + 1 := Heap.size_push ..
  have en := Heap.get?_push_size (s.heap.push { cls := .type "tuple_iterator", data := .fields #[.ref l, .int 0 0] }) (o := { cls := .type "enumerate", data := .fields #[.none, .bool false, .ref s.heap.objs.size, rawInt 0, .none, .none] }) rfl
  show _ ∧ _
  rw [sz] at en ⊢
  exact ⟨⟨_, en, rfl⟩, h _ en ⟨_, Heap.get?_push_of_some _ (Heap.get?_push_size _ rfl), rfl, rfl⟩ fun b o x => Heap.get?_push_of_some _ (Heap.get?_push_of_some _ x)⟩
/-- the tuple at a, each item in a new pair -/
def IteT (K : PySem.W.Frag) (a : Addr) : It :=
  ⟨fun i H => ∃ (xs : List V) (x : V), SqT K H a xs ∧ xs[i]? = some x, fun i H v H' => ∃ T x, v = .ref T ∧ H T = none ∧ H' = upd H T (.tup [.int (i : Nat), x]) ∧ ∀ xs, SqT K H a xs → xs[i]? = some x, fun i H => ∃ xs : List V, SqT K H a xs ∧ xs.length ≤ i⟩
theorem turn_enumT {P : Program} {w : World} {K : PySem.W.Frag} {elts : List Expr} {kk : Nat} {tpos : Pos} {a e it : Addr} (nae : a ≠ e) (nai : a ≠ it) :
    Turn P w K (.Tuple elts kk tpos) (IteT K a) [e, it] e (fun i h => (∃ old, IsEnum h e it ((i : Nat) : Int) old) ∧ h.IsTupleIter it a i ∧ e ≠ it) where
  mem := by simp
  obj := fun i h st b hb => by
    obtain ⟨⟨old, he⟩, ⟨o, ho, hc, hd⟩, _⟩ := st
    rcases (show b = e ∨ b = it by simpa using hb) with z | z
    · subst z
      exact ⟨_, he, fun v q => nomatch q⟩
    · subst z
      exact ⟨o, ho, fun v q => by rw [hd] at q; cases q⟩
  keep := fun i h h' st k => let ⟨⟨old, he⟩, hi, hne⟩ := st; ⟨⟨old, k e (by simp) _ he⟩, hi.at fun o q => k it (by simp) o q, hne⟩
  item := by
    intro X hP hw hK hc i pins s σ H E I hf st hg
    subst hP hw hK
    obtain ⟨⟨old, he⟩, hit, hne⟩ := st
    obtain ⟨xs, x, hq, hx⟩ := hg
    obtain ⟨its, rv, tp, hz⟩ := I.tuple hq
    obtain ⟨u, hu, ru⟩ := rv.get hx
    have tup : s.heap.IsTuple a its.toArray := tp
    have sizes : ∀ b ∈ [e, it], b < s.heap.objs.size := by
      intro b hb
      rcases (show b = e ∨ b = it by simpa using hb) with z | z
      · rw [z]
        exact Heap.lt_size he
      · obtain ⟨_, q, _⟩ := hit
        rw [z]
        exact Heap.lt_size q
    have hiu : i < its.toArray.size := by
      have := (List.getElem?_eq_some_iff.mp hu).1
      simpa using this
    refine wpAny_pyNext_enum_itemD (Draws.tuple (A := X.A.in1) (show X.A.in1.handled = none from I.ok.hd hc) it a nai its.toArray) he (show s.heap.IsTupleIter it a i ∧ s.heap.IsTuple a its.toArray from ⟨hit, tup⟩) hiu hne (by simp [hne, Ne.symm nae]) fun y h' tk hy ho hst hT hsz hk => ?_
    have ey : y = u := by
      have h2 : its.toArray[i]? = some u := by simpa using hu
      rw [h2] at hy
      exact (Option.some.inj hy).symm
    subst ey
    refine ⟨_, rfl, wpAny_letOwnedTupleGo_enum (s := { s with heap := h', toks := tk + 1 }) ho fun h'' he' sb => ?_⟩
    have hel := sizes e (by simp)
    have hT2 : h''.get? s.heap.objs.size = some { cls := .type "tuple", data := .seq #[.int i tk, y] } := (sb.2 _ (Nat.ne_of_gt hel)).trans hT
    have new : ObjOk X.prog X.w (upd H s.heap.objs.size (.tup [.int (i : Nat), x])) h'' s.heap.objs.size (.tup [.int (i : Nat), x]) :=
      ⟨by show 2 ≤ sizeLine; decide, [.int i tk, y], .cons ⟨_, rfl⟩ (.cons ru .nil), ⟨_, hT2, rfl, _, rfl⟩⟩
    have I1 : Inv X pins σ (upd H s.heap.objs.size (.tup [.int (i : Nat), x])) { s with heap := h'', toks := tk + 1 } :=
      I.turnedNew (ch := [e, it]) (fun b ob hb q => (sb.2 b (fun z => hb (by simp [z]))).trans (hk b ob (fun z => hb (by simp [z])) (fun z => hb (by simp [z])) q)) hf (Nat.le_refl _) new
    refine ⟨.ref s.heap.objs.size, _, I1, rfl, ⟨_, x, rfl, I.hok.fresh (Nat.le_refl _), rfl, fun ys hy2 => by rw [I.tuple_inj hy2 hq]; exact hx⟩, ⟨⟨y, ?_⟩, hst.1.at fun o q => (sb.2 it (Ne.symm hne)).trans q, hne⟩, fun b hb => ?_⟩
    · have e1 : ((i + 1 : Nat) : Int) = (i : Int) + 1 := by omega
      rw [e1]
      exact he'
    · rw [upd_ne (Nat.ne_of_lt (sizes b hb))]
      exact (hf b hb).1
  done := by
    intro X hP hw hK hc i pins s σ H E I hf st hg
    subst hP hw hK
    obtain ⟨⟨old, he⟩, hit, hne⟩ := st
    obtain ⟨xs, hq, hx⟩ := hg
    obtain ⟨its, rv, tp, hz⟩ := I.tuple hq
    have tup : s.heap.IsTuple a its.toArray := tp
    have many := rv.length
    obtain ⟨f0, f1, f2, f3, f4, f5⟩ := hf it (by simp)
    have D := Draws.tuple (prog := X.prog) (w := X.w) (A := X.A.in1) (show X.A.in1.handled = none from I.ok.hd hc) it a nai its.toArray
    have hT : s.TypeIs (.ref e) "enumerate" := ⟨_, he, rfl⟩
    have gone : its.toArray[i]? = none := Array.getElem?_eq_none (by rw [List.size_toArray]; omega)
    unfold pyNext
    refine wpAny_bind (wpAny_attempt (wpAny_callSpecial?_slot (name := Str.ofString "__next__") hT F.slot_enumerate_next
      (wpAny_call_entry F.slot_enumerate_next hT F.entry_enumerate_next ?_ (F.args_enumerate_next_1 _))))
    show wpAny _ _ (field (.ref e) 2 >>= _) _ _ _
    refine wpAny_bind (wpAny_field he rfl (x := .ref it) rfl ?_)
    refine wpAny_bind (wpAny_nextOf_tuple_end (show X.A.in1.handled = none from I.ok.hd hc) hit tup gone fun h' x he' hx' => ?_)
    obtain ⟨o, ho, hc⟩ := hx'
    refine wpAny_bind (wpAny_isInstance (T := "StopIteration") (b := true) ⟨o, ho, hc⟩ isSubtype_stop ?_)
    exact wpAny_pure ⟨rfl, I.turned (t' := s.toks) (fun b o hb q => he' b o hb q) f0 f1 f3 f4 f5⟩
  self := fun A i s Q E st h => let ⟨⟨_, he⟩, _⟩ := st; wpAny_pyIter_enum he h
def iEnumT (K : PySem.W.Frag) (ta : TA) : TI := fun σ H R => ta σ H fun vs H1 => ∃ a xs, vs = [.ref a] ∧ SqT K H1 a xs ∧ R (IteT K a) H1
theorem pi_enumT {X : Cx} {e : Expr} {ta : TA} {p pos tpos : Pos} {elts : List Expr} {kk : Nat} (hg : Gl X "enumerate") (hm : X.mg "enumerate" = none) (ha : PA X [e] ta) (hs : starEach [e] X.env = [(false, eval e X.env)] := by rfl) :
    PI X (.Tuple elts kk tpos) (.Call (.Name "enumerate" p) [e] [] pos) (iEnumT X.K ta) := by
  refine ⟨fun pins s σ H R I want => Call_ (ld_blt I hg hm boot_enumerate (PyProof.Rows.callWith_type1 (thn (ha.run pos pins s σ H _ I want) fun us s1 ⟨vs, H1, J, rv, q⟩ => ?_) hs rfl))⟩
  obtain ⟨a, xs, rfl, hq, q⟩ := q
  cases rv with
  | cons r0 r1 =>
    cases r1
    cases r0
    obtain ⟨its, rv, tp, hz⟩ := J.tuple hq
    have low : a < s1.heap.objs.size := by
      obtain ⟨o, ho, _⟩ := tp
      exact Heap.lt_size ho
    refine make_enumT tp fun h' he hit hk => wpAny_pyIter_enum he ?_
    refine ⟨s1.heap.objs.size + 1, [s1.heap.objs.size + 1, s1.heap.objs.size], _, _, H1, rfl, J.kept (t' := s1.toks) hk, turn_enumT (a := a) (e := s1.heap.objs.size + 1) (it := s1.heap.objs.size) (Nat.ne_of_lt (Nat.lt_trans low (Nat.lt_succ_self _))) (Nat.ne_of_lt low), ⟨⟨.none, he⟩, hit, Nat.succ_ne_self _⟩, fun b hb => ?_, q⟩
    have hle : s1.heap.objs.size ≤ b := by
      rcases (show b = s1.heap.objs.size + 1 ∨ b = s1.heap.objs.size by simpa using hb) with z | z
      · rw [z]
        exact Nat.le_succ _
      · rw [z]
        exact Nat.le_refl _
    exact J.fpOk hle (J.hok.fresh hle)
theorem walk_enumT {K : PySem.W.Frag} {a : Addr} {xs : List V} : Walk (IteT K a) xs.length (fun H => SqT K H a xs) (YPair (fun i => some (.int (i : Nat))) (fun i => xs[i]?)) := by
  refine ⟨fun i _ hi q => ⟨xs, xs[i], q, by simp [hi]⟩, fun _ q => ⟨xs, q, Nat.le_refl _⟩, fun i H v H' _ q y => ?_⟩
  obtain ⟨T, x, h1, h2, h3, h4⟩ := y
  exact ⟨T, .int (i : Nat), x, h1, h2, h3, rfl, h4 xs q⟩
/-- enumerate over a name that holds a list or a tuple -/
theorem pi_enumv {X : Cx} {e : Expr} {ta : TA} {p pos tpos : Pos} {elts : List Expr} {kk : Nat} (hg : Gl X "enumerate") (hm : X.mg "enumerate" = none) (ha : PA X [e] ta) (hs : starEach [e] X.env = [(false, eval e X.env)] := by rfl) :
    PI X (.Tuple elts kk tpos) (.Call (.Name "enumerate" p) [e] [] pos) (iOr (iEnum X.K ta) (iEnumT X.K ta)) := pi_or (pi_enum hg hm ha hs) (pi_enumT hg hm ha hs)
theorem enumv {K : PySem.W.Frag} {σ : L2.St} {H : Hp} {i : Nat} {a : Addr} {xs : List V} {R : It → Hp → Prop} (hv : σ[i]? = some (some (.ref a))) (hS : H a = some (.lst xs) ∨ H a = some (.tup xs))
    (h : ∀ (J : It) (G : Hp → Prop), Walk J xs.length G (YPair (fun i => some (.int (i : Nat))) (fun i => xs[i]?)) → (∀ H', Same H H' → G H') → R J H) : iOr (iEnum K (tCons (tVar i) tNil)) (iEnumT K (tCons (tVar i) tNil)) σ H R := by
  rcases hS with e | e
  · exact .inl ⟨_, hv, a, xs, rfl, SqL.of e, h _ _ walk_enum fun H' s => SqL.of (s _ _ e)⟩
  · exact .inr ⟨_, hv, a, xs, rfl, SqT.of e, h _ _ walk_enumT fun H' s => SqT.of (s _ _ e)⟩
end My
/-! == with anything, != of two instances, by an own __eq__ without an own __ne__. -/
namespace My
open PySem PySem.Spec L2
open PyProof.Rows hiding St
/-- what an own __eq__ answers: the bool r that R names, for any other value -/
def spEqAny (R : Addr → V → Hp → Bool → Prop) : Sp := fun vs H Q _ => ∃ a y r, vs = [.ref a, y] ∧ R a y H r ∧ ∀ H', Same H H' → Q (.bl r) H'
def rEqLst (C : Addr) (R : Addr → V → Hp → Bool → Prop) : R2 := fun x y H Q => ∃ a dx fs r b ys, x = .ref a ∧ y = .ref b ∧ H a = some (.ins C dx fs) ∧ H b = some (.lst ys) ∧ R a y H r ∧ ∀ H', Same H H' → Q (.bl r) H'
def rNeIns (C : Addr) (R : Addr → V → Hp → Bool → Prop) : R2 := fun x y H Q => ∃ a b dx dy fs gs r, x = .ref a ∧ y = .ref b ∧ H a = some (.ins C dx fs) ∧ H b = some (.ins C dy gs) ∧ R a (.ref b) H r ∧ ∀ H', Same H H' → Q (.bl (!r)) H'
section
variable {X : Cx} {k : Nat} {f C : Addr} {fd : FuncData} {ps : List Str} {R : Addr → V → Hp → Bool → Prop}
theorem own_runs {pins : List (Addr × Obj)} {σ : L2.St} {H : Hp} {s : Shared} {a : Addr} {y : V} {u : Value} {r : Bool} {A : Around} (F : FnOk X.prog X.w X.K X.mg X.base CX0 k f fd ps (spEqAny R)) (room : Room k A) (fr : A.frames = X.A.frames) (bd : Binds X.K fd ps [])
    (I : Inv X pins σ H s) (ry : RelV y u) (hR : R a y H r) {E : Value → Shared → Prop} : wpAny (model X.prog X.w) A (call (.ref f) [.ref a, u]) (fun v s2 => v = Value.bool r ∧ ∃ H2, Same H H2 ∧ Inv X pins σ H2 s2) E s := by
  have want : spEqAny R [.ref a, y] H (fun v H2 => v = .bl r ∧ Same H H2) (fun _ _ _ => False) := ⟨a, y, r, rfl, hR, fun H' sm => ⟨rfl, sm⟩⟩
  have e := I.env0
  have st : Env0 X.prog X.w X.K X.mg X.base A X.stack s H := ⟨by rw [fr]; exact e.frames, e.mod, e.bs, e.bsz, e.funs, e.frf, e.hok, e.bare⟩
  have bd2 := bd s [.ref a, u] I.kIn (by rw [List.append_nil]; exact F.len _ _ _ _ want)
  rw [List.append_nil] at bd2
  refine wpAny_call (codeAny_mono (F.run A X.stack s H ⟨[.ref a, u], []⟩ [.ref a, u] [.ref a, y] _ _ room st bd2 (.cons rfl (.cons ry .nil)) want) fun q s2 back => ?_)
  match q, back with
  | .error err, b => exact b.elim
  | .ok .next, b => exact b.elim
  | .ok .brk, b => exact b.elim
  | .ok .cont, b => exact b.elim
  | .ok (.ret z), b =>
    obtain ⟨v, H2, J, rz, ez, sm⟩ := I.after b
    subst ez
    exact ⟨rz, H2, sm, J⟩
theorem sub_list {K : PySem.W.Frag} {C : Addr} : PySem.W.notFirst K C (.type "list") = true := by
  have e : fastBuiltinMro "list" = some [.type "list", .type "object"] := by decide +kernel
  have e2 : PySem.W.subIn K (.type "list") (.ref C) = some false := by
    show (fastBuiltinMro "list").map (·.contains (.ref C)) = some false
    rw [e]
    first
      | rfl
      | simp
  unfold PySem.W.notFirst
  rw [e2]
  simp
/-- x == y, x an instance, y a list -/
theorem op_eqLst (F : FnOk X.prog X.w X.K X.mg X.base CX0 k f fd ps (spEqAny R)) (room : Room k X.A) (hs : PySem.W.findIn X.K (.ref C) "__eq__" = some (some (.ref f))) (hf : PySem.W.isFn X.K (.ref f) = true) (bd : Binds X.K fd ps []) : OpR X (compareOp .Eq) (rEqLst C R) := by
  intro pins s σ H x y v u Q I rx ry want
  obtain ⟨a, dx, fs, r, b, ys, rfl, rfl, ha, hb, hR, q⟩ := want
  obtain rfl : v = Value.ref a := rx
  obtain rfl : u = Value.ref b := ry
  obtain ⟨_, ja, _⟩ := ins_get I.hok ha
  obtain ⟨_, ka, _⟩ := ja.look
  obtain ⟨m, fr⟩ := I.fr
  obtain ⟨_, _, n, _, h1⟩ := (show ObjOk X.prog X.w H s.heap b (.lst ys) from I.hok b _ hb)
  show wpAny (model X.prog X.w) X.A (richCompare .Eq (.ref a) (.ref b)) (EP X pins σ Q) X.xe s
  have lk : PySem.W.Looks (model X.prog X.w) s.heap (typeOf (.ref b)) (.type "list") := fun _ _ _ _ k q => wpAny_typeOf_ref (k _ _ h1) q
  refine PySem.W.cmp_K (op := .Eq) (tb := .type "list") room.units0 fr I.ok.mod.kin ka lk sub_list hs hf ?_
  refine wpAny_mono (own_runs F room rfl bd I (y := .ref b) (u := .ref b) rfl hR) (fun z s2 e => ?_) fun _ _ e => e
  obtain ⟨rfl, H2, sm, J⟩ := e
  exact ⟨.bl r, H2, J, rfl, q H2 sm⟩
def rEqIns (C : Addr) (R : Addr → V → Hp → Bool → Prop) : R2 := fun x y H Q => ∃ a b dx dy fs gs r, x = .ref a ∧ y = .ref b ∧ H a = some (.ins C dx fs) ∧ H b = some (.ins C dy gs) ∧ R a (.ref b) H r ∧ ∀ H', Same H H' → Q (.bl r) H'
theorem op_eqIns (F : FnOk X.prog X.w X.K X.mg X.base CX0 k f fd ps (spEqAny R)) (room : Room k X.A) (hs : PySem.W.findIn X.K (.ref C) "__eq__" = some (some (.ref f))) (hf : PySem.W.isFn X.K (.ref f) = true) (bd : Binds X.K fd ps []) : OpR X (compareOp .Eq) (rEqIns C R) := by
  intro pins s σ H x y v u Q I rx ry want
  obtain ⟨a, b, dx, dy, fs, gs, r, rfl, rfl, ha, hb, hR, q⟩ := want
  obtain rfl : v = Value.ref a := rx
  obtain rfl : u = Value.ref b := ry
  obtain ⟨_, ja, _⟩ := ins_get I.hok ha
  obtain ⟨_, ka, _⟩ := ja.look
  obtain ⟨_, jb, _⟩ := ins_get I.hok hb
  obtain ⟨_, kb, _⟩ := jb.look
  obtain ⟨m, fr⟩ := I.fr
  show wpAny (model X.prog X.w) X.A (richCompare .Eq (.ref a) (.ref b)) (EP X pins σ Q) X.xe s
  refine PySem.W.cmp_K (op := .Eq) (tb := .ref C) room.units0 fr I.ok.mod.kin ka kb.type (by simp [PySem.W.notFirst]) hs hf ?_
  refine wpAny_mono (own_runs F room rfl bd I (y := .ref b) (u := .ref b) rfl hR) (fun z s2 e => ?_) fun _ _ e => e
  obtain ⟨rfl, H2, sm, J⟩ := e
  exact ⟨.bl r, H2, J, rfl, q H2 sm⟩
theorem op_neIns (G : FnOk X.prog X.w X.K X.mg X.base CX0 k f fd ps (spEqAny R)) (room : Room (k + 1) X.A) (hs : PySem.W.findIn X.K (.ref C) "__eq__" = some (some (.ref f))) (hn : PySem.W.findIn X.K (.ref C) "__ne__" = some (some (.builtin "object.__ne__"))) (hm : PySem.W.mroIn X.K C (.type "object") = some true)
    (hf : PySem.W.isFn X.K (.ref f) = true) (bd : Binds X.K fd ps []) : OpR X (compareOp .NotEq) (rNeIns C R) := by
  intro pins s σ H x y v u Q I rx ry want
  obtain ⟨a, b, dx, dy, fs, gs, r, rfl, rfl, ha, hb, hR, q⟩ := want
  obtain rfl : v = Value.ref a := rx
  obtain rfl : u = Value.ref b := ry
  obtain ⟨_, ja, _⟩ := ins_get I.hok ha
  obtain ⟨_, ka, _⟩ := ja.look
  obtain ⟨_, jb, _⟩ := ins_get I.hok hb
  obtain ⟨_, kb, _⟩ := jb.look
  have KI := I.kIn
  have fin : ∀ s2, (∃ H2, Same H H2 ∧ Inv X pins σ H2 s2) → EP X pins σ Q (.bool (!r)) s2 := by
    rintro s2 ⟨H2, sm, J⟩
    exact ⟨.bl (!r), H2, J, rfl, q H2 sm⟩
  have body : wpAny (model X.prog X.w) X.A.in1 (Builtin.«object.__ne__» ⟨[.ref a, .ref b], []⟩) (fun z s2 => z = .done (.ret (.bool (!r))) ∧ ∃ H2, Same H H2 ∧ Inv X pins σ H2 s2) X.xe s := by
    have hu : X.A.in1.units < cLine := room.in1.units0
    unfold Builtin.«object.__ne__»
    repeat (first
      | with_reducible refine wpAny_cRoomFor hu ?_
      | (refine wpAny_bind (m := callSpecialIfBound? (.ref a) (Str.ofString "__eq__") [.ref b]) (PySem.W.ifBound_K KI ka hs hf (wpAny_mono (own_runs G room.in1 rfl bd I (y := .ref b) (u := .ref b) rfl hR) (fun z s2 e => by
          obtain ⟨rfl, e⟩ := e
          repeat (first | exact ⟨rfl, e⟩ | exact wpAny_pure ⟨rfl, e⟩ | (refine wpAny_bind (m := truthy (.bool _)) (wpAny_truthy_bool ?_)) | wp_step)) fun _ _ e => e)))
      | wp_step)
  have ne1 : ∀ {Z : Value → Shared → Prop}, (∀ s2, (∃ H2, Same H H2 ∧ Inv X pins σ H2 s2) → Z (.bool (!r)) s2) → wpAny (model X.prog X.w) X.A (call (.builtin "object.__ne__") [.ref a, .ref b]) Z X.xe s := by
    intro Z hZ
    refine wpAny_call (codeAny_call_builtin F.cmp_object.ne.plain F.cmpEntry_ne (PySem.W.check_slot F.cmpKind_ne F.cmpSplit_ne (ka.type.andThen (PySem.W.looks_mroIn KI hm)) (F.cmpArgs_ne _ _) (wpAny_mono body (fun z s2 e => ?_) fun _ _ e => e)))
    obtain ⟨rfl, e⟩ := e
    exact hZ s2 e
  have try1 : wpAny (model X.prog X.w) X.A (tryCompare (.ref a) "__ne__" (.ref b)) (fun z s2 => ∃ v, z = some v ∧ EP X pins σ Q v s2) X.xe s := by
    unfold tryCompare
    have go : wpAny (model X.prog X.w) X.A (callSpecialIfBound? (.ref a) "__ne__" [.ref b]) (fun z s2 => z = some (.bool (!r)) ∧ ∃ H2, Same H H2 ∧ Inv X pins σ H2 s2) X.xe s := by
      simp only [callSpecialIfBound?, bindSpecialIfBound?]
      refine wpAny_holding (wpAny_bind (wpAny_bind (wpAny_bind (ka.type.here ((PySem.W.looks_findIn KI hn).here ?_)))))
      refine wpAny_bind (wpAny_askSetting (wpAny_ite ?_))
      have tail : wpAny (model X.prog X.w) X.A (call (.builtin "object.__ne__") ([.ref a] ++ [.ref b]) >>= fun v => pure (some v)) (fun z s2 => z = some (.bool (!r)) ∧ ∃ H2, Same H H2 ∧ Inv X pins σ H2 s2) X.xe s := wpAny_bind (ne1 fun s2 e => wpAny_pure ⟨rfl, e⟩)
      split
      · exact wpAny_bind (wpAny_of_eq (F.cmp_object.ne.bind _) (wpAny_pure (by exact tail)))
      · exact wpAny_tryCatch (wpAny_bind (wpAny_of_eq (F.cmp_object.ne.bind _) (wpAny_pure (by exact tail))))
    refine wpAny_bind (wpAny_mono go (fun z s2 e => ?_) fun _ _ e => e)
    obtain ⟨rfl, e⟩ := e
    exact wpAny_pure ⟨_, rfl, fin s2 e⟩
  show wpAny (model X.prog X.w) X.A (richCompare .NotEq (.ref a) (.ref b)) (EP X pins σ Q) X.xe s
  unfold richCompare
  simp only [oneThing_ref]
  refine wpAny_holding (wpAny_bind (wpAny_cRoomFor room.units0 ?_))
  refine wpAny_bind (ka.type.here (wpAny_bind (kb.type.here ?_)))
  rw [cmpInfo_NotEq]
  dsimp only
  rw [show (Value.ref C != Value.ref C) = false from by simp]
  simp only [Bool.false_eq_true, if_false]
  refine wpAny_bind (wpAny_pure ?_)
  simp only [Bool.false_eq_true, if_false]
  refine wpAny_bind (wpAny_mono try1 (fun z s2 e => ?_) fun _ _ e => e)
  obtain ⟨v, rfl, e⟩ := e
  exact wpAny_pure e
end
end My
/-! // by a great number of either sign; zip of a tuple and a list. -/
namespace My
open PySem PySem.Spec L2
open PyProof.Rows hiding St
def CDivNW (i j : Int) : Prop := j ≠ 0 ∧ j.natAbs.log2 < 9000
theorem op_fdivNW {X : Cx} : OpR X (binaryOp .FloorDiv) (rI CDivNW fun i j => .int (i.fdiv j)) :=
  opI fun i j t u s Q E c h => PyProof.Rows.floordiv_int c.1 h (.inl (PyProof.noPylong_of_log2 c.2))
abbrev zmH1 (h : Heap) (l1 : Addr) : Heap := h.push { cls := .type "tuple_iterator", data := .fields #[.ref l1, .int 0 0] }
abbrev zmH2 (h : Heap) (l1 l2 : Addr) : Heap := (zmH1 h l1).push { cls := .type "list_iterator", data := .fields #[.ref l2, .int 0 0] }
abbrev zmH3 (h : Heap) (l1 l2 : Addr) : Heap := (zmH2 h l1 l2).push { cls := .type "tuple", data := .seq #[.ref h.objs.size, .ref (zmH1 h l1).objs.size] }
abbrev zmH4 (h : Heap) (l1 l2 : Addr) : Heap := (zmH3 h l1 l2).push { cls := .type "tuple", data := .seq #[.none, .none] }
abbrev zmH5 (h : Heap) (l1 l2 : Addr) : Heap := (zmH4 h l1 l2).push { cls := .type "zip", data := .fields #[.none, .bool false, .bool false, .ref (zmH2 h l1 l2).objs.size, .ref (zmH3 h l1 l2).objs.size] }
theorem new_zipM (l1 l2 : Addr) (xs ys : Array Value) :
    Meets (Builtin.«zip.__new__» ⟨[.type "zip", .ref l1, .ref l2], []⟩) (fun _ R s => s.heap.IsTuple l1 xs ∧ s.heap.IsList l2 ys ∧
      R (.ok (.ret (.ref (zmH4 s.heap l1 l2).objs.size))) { s with heap := zmH5 s.heap l1 l2 }) :=
  .of_wp fun prog w A R s h => by
    obtain ⟨hp, g, d, tk, os⟩ := s
    obtain ⟨h1, h2, h⟩ := h
    have hsub := sub_zip
    have h2' : (zmH1 hp l1).IsList l2 ys := h2.push _
    wp_walk using wpAny_pyIter_tuple h1, wpAny_pyIter_list h2'
    exact ⟨_, rfl, h⟩
theorem call_zipM {prog : Program} {w : World} {A : Around} {E : Value → Shared → Prop} {s : Shared} {l1 l2 : Addr} {xs ys : Array Value} {Q : Value → Shared → Prop} (h1 : s.heap.IsTuple l1 xs) (h2 : s.heap.IsList l2 ys)
    (h : ∀ h', IsZip h' (s.heap.objs.size + 4) (s.heap.objs.size + 2) (s.heap.objs.size + 3) .none → IsPair h' (s.heap.objs.size + 2) (.ref s.heap.objs.size) (.ref (s.heap.objs.size + 1)) → IsPair h' (s.heap.objs.size + 3) .none .none →
      h'.IsTupleIter s.heap.objs.size l1 0 → h'.IsListIter (s.heap.objs.size + 1) l2 0 → (∀ c o, s.heap.get? c = some o → h'.get? c = some o) → Q (.ref (s.heap.objs.size + 4)) { s with heap := h' }) :
    wpAny (model prog w) A (call (.type "zip") [.ref l1, .ref l2]) Q E s := by
  refine callType_new F.called_zip (by decide) (F.typeCall_zip_2 _ _) (F.newCall_zip_2 _ _) (fun obj => F.args_object_init_3 obj _ _) F.entry_zip_new (new_zipM l1 l2 xs ys) ⟨h1, h2, ?_⟩
  have z1 : (zmH1 s.heap l1).objs.size = s.heap.objs.size + 1 := Heap.size_push ..
  have z2 : (zmH2 s.heap l1 l2).objs.size = s.heap.objs.size + 2 := by rw [Heap.size_push, z1]
  have z3 : (zmH3 s.heap l1 l2).objs.size = s.heap.objs.size + 3 := by rw [Heap.size_push, z2]
  have z4 : (zmH4 s.heap l1 l2).objs.size = s.heap.objs.size + 4 := by rw [Heap.size_push, z3]
  have g5 : (zmH5 s.heap l1 l2).get? (zmH4 s.heap l1 l2).objs.size = some _ := Heap.get?_push_size (zmH4 s.heap l1 l2) rfl
  have g4 : (zmH4 s.heap l1 l2).get? (zmH3 s.heap l1 l2).objs.size = some _ := Heap.get?_push_size (zmH3 s.heap l1 l2) rfl
  have g3 : (zmH3 s.heap l1 l2).get? (zmH2 s.heap l1 l2).objs.size = some _ := Heap.get?_push_size (zmH2 s.heap l1 l2) rfl
  have g2 : (zmH2 s.heap l1 l2).get? (zmH1 s.heap l1).objs.size = some _ := Heap.get?_push_size (zmH1 s.heap l1) rfl
  have g1 : (zmH1 s.heap l1).get? s.heap.objs.size = some _ := Heap.get?_push_size s.heap rfl
  have k1 : ∀ c o, s.heap.get? c = some o → (zmH1 s.heap l1).get? c = some o := fun c o q => Heap.get?_push_of_some _ q
  have k2 : ∀ c o, (zmH1 s.heap l1).get? c = some o → (zmH2 s.heap l1 l2).get? c = some o := fun c o q => Heap.get?_push_of_some _ q
  have k3 : ∀ c o, (zmH2 s.heap l1 l2).get? c = some o → (zmH3 s.heap l1 l2).get? c = some o := fun c o q => Heap.get?_push_of_some _ q
  have k4 : ∀ c o, (zmH3 s.heap l1 l2).get? c = some o → (zmH4 s.heap l1 l2).get? c = some o := fun c o q => Heap.get?_push_of_some _ q
  have k5 : ∀ c o, (zmH4 s.heap l1 l2).get? c = some o → (zmH5 s.heap l1 l2).get? c = some o := fun c o q => Heap.get?_push_of_some _ q
  rw [z4] at g5
  rw [z3] at g4
  rw [z2] at g3
  rw [z1] at g2
  have g5' := g5
  rw [z2, z3] at g5'
  have g3' := k5 _ _ (k4 _ _ g3)
  rw [z1] at g3'
  have q := h (zmH5 s.heap l1 l2) g5' g3' (k5 _ _ g4) ⟨_, k5 _ _ (k4 _ _ (k3 _ _ (k2 _ _ g1))), rfl, rfl⟩ ⟨_, k5 _ _ (k4 _ _ (k3 _ _ g2)), rfl, rfl⟩ (fun c o q => k5 _ _ (k4 _ _ (k3 _ _ (k2 _ _ (k1 _ _ q)))))
  show _ ∧ _
  rw [z4]
  exact ⟨⟨_, g5, rfl⟩, q⟩
/-- the tuple at a and the list at b, item beside item in a new pair -/
def ItzM (K : PySem.W.Frag) (a b : Addr) : It :=
  ⟨fun i H => ∃ (xs ys : List V) (x y : V), SqT K H a xs ∧ SqL K H b ys ∧ xs[i]? = some x ∧ ys[i]? = some y,
   fun i H v H' => ∃ T x y, v = .ref T ∧ H T = none ∧ H' = upd H T (.tup [x, y]) ∧ (∀ xs, SqT K H a xs → xs[i]? = some x) ∧ ∀ ys, SqL K H b ys → ys[i]? = some y,
   fun i H => ∃ xs ys : List V, SqT K H a xs ∧ SqL K H b ys ∧ i ≤ xs.length ∧ i ≤ ys.length ∧ (i = xs.length ∨ i = ys.length)⟩
theorem turn_zipM {P : Program} {w : World} {K : PySem.W.Frag} {elts : List Expr} {kk : Nat} {tpos : Pos} {a b z TI TO i1 i2 : Addr} (ap : ZipApart z TI TO i1 i2 a b) :
    Turn P w K (.Tuple elts kk tpos) (ItzM K a b) [z, TI, TO, i1, i2] z (fun i h => IsZip h z TI TO .none ∧ IsPair h TI (.ref i1) (.ref i2) ∧ (∃ x y, IsPair h TO x y) ∧ h.IsTupleIter i1 a i ∧ h.IsListIter i2 b i) where
  mem := by simp
  obj := fun i h st c hc => by
    obtain ⟨hz, hTI, ⟨x, y, hTO⟩, ⟨o1, e1, _, d1⟩, ⟨o2, e2, _, d2⟩⟩ := st
    rcases (show c = z ∨ c = TI ∨ c = TO ∨ c = i1 ∨ c = i2 by simpa using hc) with q | q | q | q | q
    · subst q
      exact ⟨_, hz, fun v r => nomatch r⟩
    · subst q
      exact ⟨_, hTI, fun v r => nomatch r⟩
    · subst q
      exact ⟨_, hTO, fun v r => nomatch r⟩
    · subst q
      exact ⟨o1, e1, fun v r => by rw [d1] at r; cases r⟩
    · subst q
      exact ⟨o2, e2, fun v r => by rw [d2] at r; cases r⟩
  keep := fun i h h' st k => let ⟨hz, hTI, ⟨x, y, hTO⟩, h1, h2⟩ := st; ⟨k z (by simp) _ hz, k TI (by simp) _ hTI, ⟨x, y, k TO (by simp) _ hTO⟩, h1.at fun o q => k i1 (by simp) o q, h2.at fun o q => k i2 (by simp) o q⟩
  item := by
    intro X hP hw hK hc i pins s σ H E I hf st hg
    subst hP hw hK
    obtain ⟨hz, hTI, ⟨o1, o2, hTO⟩, h1, h2⟩ := st
    obtain ⟨xs, ys, x, y, hq1, hq2, hx, hy⟩ := hg
    obtain ⟨its1, rv1, tp1, _⟩ := I.tuple hq1
    obtain ⟨its2, rv2, tp2, _⟩ := I.list hq2
    obtain ⟨u1, hu1, ru1⟩ := rv1.get hx
    obtain ⟨u2, hu2, ru2⟩ := rv2.get hy
    have t1 : s.heap.IsTuple a its1.toArray := tp1
    have t2 : s.heap.IsList b its2.toArray := tp2.isList
    have sizes : ∀ c ∈ [z, TI, TO, i1, i2], c < s.heap.objs.size := by
      intro c hc
      rcases (show c = z ∨ c = TI ∨ c = TO ∨ c = i1 ∨ c = i2 by simpa using hc) with q | q | q | q | q
      · rw [q]; exact Heap.lt_size hz
      · rw [q]; exact Heap.lt_size hTI
      · rw [q]; exact Heap.lt_size hTO
      · obtain ⟨_, q2, _⟩ := h1
        rw [q]; exact Heap.lt_size q2
      · obtain ⟨_, q2, _⟩ := h2
        rw [q]; exact Heap.lt_size q2
    have hd := show X.A.in1.in1.handled = none from I.ok.hd hc
    have D1 := Draws.tuple (prog := X.prog) (w := X.w) (A := X.A.in1) hd i1 a ap.l1i1 its1.toArray
    have D2 := Draws.list (prog := X.prog) (w := X.w) (A := X.A.in1) hd i2 b ap.l2i2 its2.toArray
    have sep : ZipSep2 z TI TO i1 i2 [i1, a] [i2, b] := ⟨ap.TIz, ap.TOz, ap.TITO, ap.TIi1, by simp, by simp [ap.i1z.symm, ap.l1z.symm], by simp [ap.TOi1, ap.l1TO.symm], ap.TIi2, by simp, by simp [ap.i2z.symm, ap.l2z.symm], by simp [ap.TOi2, ap.l2TO.symm],
      by simp [ap.i12, ap.l2i1.symm], by simp [ap.i12.symm, ap.l1i2.symm]⟩
    have l1 : i < its1.toArray.size := by
      have := (List.getElem?_eq_some_iff.mp hu1).1
      simpa using this
    have l2 : i < its2.toArray.size := by
      have := (List.getElem?_eq_some_iff.mp hu2).1
      simpa using this
    refine wpAny_pyNext_zipD2_item sep D1 D2 hz hTI hTO (show s.heap.IsTupleIter i1 a i ∧ s.heap.IsTuple a its1.toArray from ⟨h1, t1⟩) (show s.heap.IsListIter i2 b i ∧ s.heap.IsList b its2.toArray from ⟨h2, t2⟩) l1 l2 fun y1 y2 h' tk e1 e2 hz' hTO' s1 s2 hT hsz hk => ?_
    have ey1 : y1 = u1 := by
      have h2 : its1.toArray[i]? = some u1 := by simpa using hu1
      rw [h2] at e1
      exact (Option.some.inj e1).symm
    have ey2 : y2 = u2 := by
      have h2 : its2.toArray[i]? = some u2 := by simpa using hu2
      rw [h2] at e2
      exact (Option.some.inj e2).symm
    subst ey1 ey2
    refine ⟨_, rfl, wpAny_letOwnedTupleGo_zip (s := { s with heap := h', toks := tk }) hz' fun h'' hz'' sb => ?_⟩
    have hzl := sizes z (by simp)
    have hT2 : h''.get? s.heap.objs.size = some { cls := .type "tuple", data := .seq #[y1, y2] } := (sb.2 _ (Nat.ne_of_gt hzl)).trans hT
    have new : ObjOk X.prog X.w (upd H s.heap.objs.size (.tup [x, y])) h'' s.heap.objs.size (.tup [x, y]) :=
      ⟨by show 2 ≤ sizeLine; decide, [y1, y2], .cons ru1 (.cons ru2 .nil), ⟨_, hT2, rfl, _, rfl⟩⟩
    have I1 : Inv X pins σ (upd H s.heap.objs.size (.tup [x, y])) { s with heap := h'', toks := tk } :=
      I.turnedNew (ch := [z, TI, TO, i1, i2]) (fun c ob hb q => (sb.2 c (fun z => hb (by simp [z]))).trans (hk c ob (fun z => hb (by simp [z])) (fun z => hb (by simp [z])) (fun z => hb (by simp [z])) (fun z => hb (by simp [z])) q)) hf (Nat.le_refl _) new
    refine ⟨.ref s.heap.objs.size, _, I1, rfl, ⟨_, x, y, rfl, I.hok.fresh (Nat.le_refl _), rfl, fun ys hy2 => by rw [I.tuple_inj hy2 hq1]; exact hx, fun ys hy2 => by rw [I.list_inj hy2 hq2]; exact hy⟩, ⟨hz'', ?_, ⟨y1, y2, ?_⟩, ?_, ?_⟩, fun c hc => ?_⟩
    · exact (sb.2 TI ap.TIz).trans (hk TI _ ap.TIz ap.TITO ap.TIi1 ap.TIi2 hTI)
    · exact (sb.2 TO ap.TOz).trans hTO'
    · exact s1.1.at fun o q => (sb.2 i1 ap.i1z).trans q
    · exact s2.1.at fun o q => (sb.2 i2 ap.i2z).trans q
    · rw [upd_ne (Nat.ne_of_lt (sizes c hc))]
      exact (hf c hc).1
  done := by
    intro X hP hw hK hc i pins s σ H E I hf st hg
    subst hP hw hK
    obtain ⟨hz, hTI, ⟨o1, o2, hTO⟩, h1, h2⟩ := st
    obtain ⟨xs, ys, hq1, hq2, b1, b2, hx⟩ := hg
    obtain ⟨its1, rv1, tp1, _⟩ := I.tuple hq1
    obtain ⟨its2, rv2, tp2, _⟩ := I.list hq2
    have t1 : s.heap.IsTuple a its1.toArray := tp1
    have t2 : s.heap.IsList b its2.toArray := tp2.isList
    have hd := show X.A.in1.in1.handled = none from I.ok.hd hc
    have D1 := Draws.tuple (prog := X.prog) (w := X.w) (A := X.A.in1) hd i1 a ap.l1i1 its1.toArray
    have D2 := Draws.list (prog := X.prog) (w := X.w) (A := X.A.in1) hd i2 b ap.l2i2 its2.toArray
    have m1 := rv1.length
    have m2 := rv2.length
    have sep : ZipSep2 z TI TO i1 i2 [i1, a] [i2, b] := ⟨ap.TIz, ap.TOz, ap.TITO, ap.TIi1, by simp, by simp [ap.i1z.symm, ap.l1z.symm], by simp [ap.TOi1, ap.l1TO.symm], ap.TIi2, by simp, by simp [ap.i2z.symm, ap.l2z.symm], by simp [ap.TOi2, ap.l2TO.symm],
      by simp [ap.i12, ap.l2i1.symm], by simp [ap.i12.symm, ap.l1i2.symm]⟩
    refine wpAny_pyNext_zipD2_end sep D1 D2 hz hTI hTO (show s.heap.IsTupleIter i1 a i ∧ s.heap.IsTuple a its1.toArray from ⟨h1, t1⟩) (show s.heap.IsListIter i2 b i ∧ s.heap.IsList b its2.toArray from ⟨h2, t2⟩)
      (by rw [List.size_toArray]; omega) (by rw [List.size_toArray]; omega) (by rw [List.size_toArray, List.size_toArray]; omega) fun h' tk hk => ⟨rfl, ?_⟩
    exact I.turnedL (ch := [z, TI, TO, i1, i2]) (fun c ob hb q => hk c ob (fun z => hb (by simp [z])) (fun z => hb (by simp [z])) (fun z => hb (by simp [z])) (fun z => hb (by simp [z])) q) hf
  self := fun A i s Q E st h => wpAny_pyIter_zip st.1 h
def iZipM (K : PySem.W.Frag) (ta : TA) : TI := fun σ H R => ta σ H fun vs H1 => ∃ a b xs ys, vs = [.ref a, .ref b] ∧ SqT K H1 a xs ∧ SqL K H1 b ys ∧ R (ItzM K a b) H1
theorem pi_zipM {X : Cx} {e e2 : Expr} {ta : TA} {p pos tpos : Pos} {elts : List Expr} {kk : Nat} (hg : Gl X "zip") (hm : X.mg "zip" = none) (ha : PA X [e, e2] ta) (hs : starEach [e, e2] X.env = (false, eval e X.env) :: starEach [e2] X.env := by rfl)
    (hpl : (backTo pos (starEach [e2] X.env)).any (·.1) = false := by rfl) :
    PI X (.Tuple elts kk tpos) (.Call (.Name "zip" p) [e, e2] [] pos) (iZipM X.K ta) := by
  refine ⟨fun pins s σ H R I want => Call_ (ld_blt I hg hm boot_zip (PyProof.Rows.callWith_type1 (thn (ha.run pos pins s σ H _ I want) fun us s1 ⟨vs, H1, J, rv, q⟩ => ?_) hs hpl))⟩
  obtain ⟨a, b, xs, ys, rfl, hq1, hq2, q⟩ := q
  cases rv with
  | cons r0 r1 =>
    cases r1 with
    | cons r2 r3 =>
      cases r3
      cases r0
      cases r2
      obtain ⟨its1, rv1, tp1, _⟩ := J.tuple hq1
      obtain ⟨its2, rv2, tp2, _⟩ := J.list hq2
      have t1 : s1.heap.IsTuple a its1.toArray := tp1
      have t2 : s1.heap.IsList b its2.toArray := tp2.isList
      have low1 : a < s1.heap.objs.size := by
        obtain ⟨o, ho, _⟩ := t1
        exact Heap.lt_size ho
      have low2 : b < s1.heap.objs.size := by
        obtain ⟨o, ho, _⟩ := t2
        exact Heap.lt_size ho
      refine call_zipM t1 t2 fun h' hz hTI hTO h1 h2 hk => wpAny_pyIter_zip hz ?_
      refine ⟨s1.heap.objs.size + 4, [s1.heap.objs.size + 4, s1.heap.objs.size + 2, s1.heap.objs.size + 3, s1.heap.objs.size, s1.heap.objs.size + 1], _, _, H1, rfl, J.kept (t' := s1.toks) hk, turn_zipM (PySem.W.ktu_apart _ a b low1 low2), ⟨hz, hTI, ⟨_, _, hTO⟩, h1, h2⟩, fun c hc => ?_, q⟩
      have hle : s1.heap.objs.size ≤ c := by
        rcases (show c = s1.heap.objs.size + 4 ∨ c = s1.heap.objs.size + 2 ∨ c = s1.heap.objs.size + 3 ∨ c = s1.heap.objs.size ∨ c = s1.heap.objs.size + 1 by simpa using hc) with z | z | z | z | z <;> rw [z]
        · exact Nat.le_add_right _ _
        · exact Nat.le_add_right _ _
        · exact Nat.le_add_right _ _
        · exact Nat.le_refl _
        · exact Nat.le_add_right _ _
      exact J.fpOk hle (J.hok.fresh hle)
theorem walk_zipM {K : PySem.W.Frag} {a b : Addr} {xs ys : List V} {n : Nat} (hn : n = min xs.length ys.length) : Walk (ItzM K a b) n (fun H => SqT K H a xs ∧ SqL K H b ys) (YPair (fun i => xs[i]?) (fun i => ys[i]?)) := by
  refine ⟨fun i _ hi q => ⟨xs, ys, xs[i]'(by omega), ys[i]'(by omega), q.1, q.2, List.getElem?_eq_getElem _, List.getElem?_eq_getElem _⟩, fun _ q => ⟨xs, ys, q.1, q.2, by omega, by omega, by omega⟩, fun i H v H' _ q y => ?_⟩
  obtain ⟨T, x, y, h1, h2, h3, h4, h5⟩ := y
  exact ⟨T, x, y, h1, h2, h3, h4 xs q.1, h5 ys q.2⟩
end My
/-! Vectors of whole numbers, reckoned where p divides what is nothing (p = 0: over the fractions). -/
namespace My
namespace Lin
/-- f 0 + .. + f (n - 1) -/
def S : Nat → (Nat → Int) → Int
  | 0, _ => 0
  | n + 1, f => S n f + f n
theorem S_congr {n : Nat} {f g : Nat → Int} (h : ∀ i, i < n → f i = g i) : S n f = S n g := by
  induction n with
  | zero => rfl
  | succ n ih =>
    show S n f + f n = S n g + g n
    rw [ih fun i hi => h i (Nat.lt_succ_of_lt hi), h n (Nat.lt_succ_self n)]
theorem S_add (n : Nat) (f g : Nat → Int) : S n (fun i => f i + g i) = S n f + S n g := by
  induction n with
  | zero => rfl
  | succ n ih =>
    show S n _ + (f n + g n) = (S n f + f n) + (S n g + g n)
    rw [ih]
    omega
theorem S_sub (n : Nat) (f g : Nat → Int) : S n (fun i => f i - g i) = S n f - S n g := by
  induction n with
  | zero => rfl
  | succ n ih =>
    show S n _ + (f n - g n) = (S n f + f n) - (S n g + g n)
    rw [ih]
    omega
theorem S_mul (n : Nat) (a : Int) (f : Nat → Int) : S n (fun i => a * f i) = a * S n f := by
  induction n with
  | zero => exact (Int.mul_zero a).symm
  | succ n ih =>
    show S n _ + a * f n = a * (S n f + f n)
    rw [ih, Int.mul_add]
theorem S_mul' (n : Nat) (a : Int) (f : Nat → Int) : S n (fun i => f i * a) = S n f * a := by
  rw [Int.mul_comm, ← S_mul]
  exact S_congr fun i _ => Int.mul_comm _ _
theorem S_zero (n : Nat) : S n (fun _ => 0) = 0 := by
  induction n with
  | zero => rfl
  | succ n ih =>
    show S n _ + 0 = 0
    rw [ih]
    rfl
theorem S_swap (n m : Nat) (f : Nat → Nat → Int) : S n (fun i => S m (fun j => f i j)) = S m (fun j => S n (fun i => f i j)) := by
  induction n with
  | zero =>
    show (0 : Int) = S m fun _ => 0
    rw [S_zero]
  | succ n ih =>
    show S n (fun i => S m (fun j => f i j)) + S m (fun j => f n j) = S m fun j => S n (fun i => f i j) + f n j
    rw [ih, S_add]
theorem S_one {n k : Nat} {f : Nat → Int} (hk : k < n) (h : ∀ i, i < n → i ≠ k → f i = 0) : S n f = f k := by
  induction n with
  | zero => exact absurd hk (Nat.not_lt_zero _)
  | succ n ih =>
    show S n f + f n = f k
    by_cases e : k = n
    · subst e
      have : S k f = 0 := by
        rw [S_congr (g := fun _ => 0) fun i hi => h i (Nat.lt_succ_of_lt hi) (by omega), S_zero]
      omega
    · rw [ih (by omega) fun i hi ne => h i (Nat.lt_succ_of_lt hi) ne, h n (Nat.lt_succ_self n) (fun z => e z.symm)]
      omega
theorem S_dvd {p : Int} {n : Nat} {f : Nat → Int} (h : ∀ i, i < n → p ∣ f i) : p ∣ S n f := by
  induction n with
  | zero => exact Int.dvd_zero p
  | succ n ih => exact Int.dvd_add (ih fun i hi => h i (Nat.lt_succ_of_lt hi)) (h n (Nat.lt_succ_self n))
theorem S_cong {p : Int} {n : Nat} {f g : Nat → Int} (h : ∀ i, i < n → p ∣ f i - g i) : p ∣ S n f - S n g := by
  rw [← S_sub]
  exact S_dvd h
/-- past k -/
def skip (k i : Nat) : Nat := if i < k then i else i + 1
theorem S_skip {n k : Nat} (f : Nat → Int) (hk : k ≤ n) : S (n + 1) f = S n (fun i => f (skip k i)) + f k := by
  induction n with
  | zero =>
    have : k = 0 := by omega
    subst this
    rfl
  | succ n ih =>
    by_cases e : k = n + 1
    · subst e
      show S (n + 1) f + f (n + 1) = _
      congr 1
      exact S_congr fun i hi => by
        unfold skip
        rw [if_pos hi]
    · show S (n + 1) f + f (n + 1) = (S n (fun i => f (skip k i)) + f (skip k n)) + f k
      rw [ih (by omega)]
      have : skip k n = n + 1 := by
        unfold skip
        rw [if_neg (by omega)]
      rw [this]
      omega
theorem skip_ne {k i : Nat} : skip k i ≠ k := by
  unfold skip
  by_cases h : i < k
  · rw [if_pos h]
    omega
  · rw [if_neg h]
    omega
theorem skip_back {k i : Nat} : (if skip k i < k then skip k i else skip k i - 1) = i := by
  unfold skip
  by_cases h : i < k
  · rw [if_pos h, if_pos h]
  · rw [if_neg h, if_neg (by omega)]
    omega
theorem skip_lt {k i m : Nat} (h : i < m) : skip k i < m + 1 := by
  unfold skip
  by_cases h : i < k
  · rw [if_pos h]
    omega
  · rw [if_neg h]
    omega
/-- what p divides is nothing: no two things that are something make nothing -/
structure Dom (p : Int) : Prop where
  mul : ∀ {x y : Int}, p ∣ x * y → p ∣ x ∨ p ∣ y
  one : ¬ p ∣ 1
theorem Dom.nz {p x y : Int} (D : Dom p) (hx : ¬ p ∣ x) (hy : ¬ p ∣ y) : ¬ p ∣ x * y := fun h => (D.mul h).elim hx hy
theorem Dom.can {p a x : Int} (D : Dom p) (ha : ¬ p ∣ a) (h : p ∣ a * x) : p ∣ x := (D.mul h).resolve_left ha
theorem dom_zero : Dom 0 := by
  refine ⟨fun {x y} h => ?_, fun h => ?_⟩
  · rw [Int.zero_dvd] at h
    rcases Int.mul_eq_zero.mp h with e | e
    · exact .inl (by rw [e]; exact Int.dvd_refl 0)
    · exact .inr (by rw [e]; exact Int.dvd_refl 0)
  · rw [Int.zero_dvd] at h
    cases h
/-- a prime, by its own table of units -/
theorem dom_prime {q : Nat} (h1 : 1 < q) (h : ∀ a, a < q → a ≠ 0 → Nat.gcd a q = 1) : Dom (q : Int) := by
  refine ⟨fun {x y} hd => ?_, fun hd => ?_⟩
  · by_cases hx : (q : Int) ∣ x
    · exact .inl hx
    · refine .inr ?_
      have hd' : q ∣ x.natAbs * y.natAbs := by
        rw [← Int.natAbs_mul]
        exact Int.ofNat_dvd_left.mp hd
      have hx' : ¬ q ∣ x.natAbs := fun z => hx (Int.ofNat_dvd_left.mpr z)
      have hm : x.natAbs % q ≠ 0 := fun z => hx' (Nat.dvd_of_mod_eq_zero z)
      have hg := h (x.natAbs % q) (Nat.mod_lt _ (by omega)) hm
      have hg2 : Nat.gcd q x.natAbs = 1 := by
        rw [Nat.gcd_rec]
        exact hg
      have : q ∣ y.natAbs := Nat.Coprime.dvd_of_dvd_mul_left (show Nat.Coprime q x.natAbs from hg2) hd'
      exact Int.ofNat_dvd_left.mpr this
  · have : q ∣ 1 := by
      have := Int.ofNat_dvd_left.mp hd
      simpa using this
    have := Nat.le_of_dvd (by omega) this
    omega
/-- fewer equations than unknowns -/
theorem hom {p : Int} (D : Dom p) : ∀ (n m : Nat) (A : Nat → Nat → Int), n < m → ∃ c : Nat → Int, (∃ i, i < m ∧ ¬ p ∣ c i) ∧ ∀ j, j < n → p ∣ S m fun i => c i * A i j
  | 0, m, A, h => ⟨fun _ => 1, ⟨0, h, D.one⟩, fun j hj => absurd hj (Nat.not_lt_zero _)⟩
  | n + 1, m, A, h => by
    by_cases hz : ∀ i, i < m → p ∣ A i n
    · obtain ⟨c, h1, h2⟩ := hom D n m A (by omega)
      refine ⟨c, h1, fun j hj => ?_⟩
      by_cases e : j = n
      · subst e
        exact S_dvd fun i hi => Int.dvd_mul_of_dvd_right (hz i hi)
      · exact h2 j (by omega)
    · obtain ⟨i0, hi0, hp⟩ : ∃ i, i < m ∧ ¬ p ∣ A i n := by
        apply Classical.byContradiction
        intro hn
        exact hz fun i hi => Classical.byContradiction fun hp => hn ⟨i, hi, hp⟩
      obtain ⟨m, rfl⟩ : ∃ k, m = k + 1 := ⟨m - 1, by omega⟩
      obtain ⟨d, ⟨i1, hi1, hd⟩, h2⟩ := hom D n m (fun i j => A i0 n * A (skip i0 i) j - A (skip i0 i) n * A i0 j) (by omega)
      have key : ∀ j, S (m + 1) (fun i => (if i = i0 then - S m (fun l => d l * A (skip i0 l) n) else d (if i < i0 then i else i - 1) * A i0 n) * A i j) = S m fun i => d i * (A i0 n * A (skip i0 i) j - A (skip i0 i) n * A i0 j) := by
        intro j
        rw [S_skip _ (show i0 ≤ m by omega), if_pos rfl]
        have e1 : S m (fun i => (if skip i0 i = i0 then - S m (fun l => d l * A (skip i0 l) n) else d (if skip i0 i < i0 then skip i0 i else skip i0 i - 1) * A i0 n) * A (skip i0 i) j) = S m fun i => d i * A i0 n * A (skip i0 i) j := by
          refine S_congr fun i _ => ?_
          rw [if_neg skip_ne, skip_back]
        rw [e1]
        have e4 : S m (fun i => d i * (A i0 n * A (skip i0 i) j - A (skip i0 i) n * A i0 j)) = S m (fun i => d i * A i0 n * A (skip i0 i) j) - S m (fun i => d i * A (skip i0 i) n) * A i0 j := by
          rw [← S_mul', ← S_sub]
          exact S_congr fun i _ => by grind
        rw [e4]
        grind
      refine ⟨fun i => if i = i0 then - S m (fun l => d l * A (skip i0 l) n) else d (if i < i0 then i else i - 1) * A i0 n, ⟨skip i0 i1, skip_lt hi1, ?_⟩, fun j hj => ?_⟩
      · show ¬ p ∣ (if skip i0 i1 = i0 then _ else _)
        rw [if_neg skip_ne, skip_back]
        exact D.nz hd hp
      · show p ∣ S (m + 1) _
        rw [key j]
        by_cases e : j = n
        · subst e
          refine S_dvd fun i _ => ?_
          have : d i * (A i0 j * A (skip i0 i) j - A (skip i0 i) j * A i0 j) = 0 := by grind
          rw [this]
          exact Int.dvd_zero p
        · exact h2 j (by omega)
/-! ### vectors of width w -/
abbrev Vec := Nat → Int
/-- n of them, none made of the others -/
def Indep (p : Int) (w n : Nat) (v : Nat → Vec) : Prop := ∀ a : Nat → Int, (∀ k, k < w → p ∣ S n fun i => a i * v i k) → ∀ i, i < n → p ∣ a i
/-- made of n of them -/
def Span (p : Int) (w n : Nat) (v : Nat → Vec) (x : Vec) : Prop := ∃ (l : Int) (a : Nat → Int), ¬ p ∣ l ∧ ∀ k, k < w → p ∣ l * x k - S n fun i => a i * v i k
section
variable {p : Int} {w n m : Nat} {u v : Nat → Vec} {x y : Vec}
theorem Span.zero (D : Dom p) (h : ∀ k, k < w → p ∣ x k) : Span p w n v x := by
  refine ⟨1, fun _ => 0, D.one, fun k hk => ?_⟩
  have : S n (fun i => 0 * v i k) = 0 := by
    rw [S_congr (g := fun _ => 0) fun i _ => Int.zero_mul _, S_zero]
  rw [this, Int.one_mul, Int.sub_zero]
  exact h k hk
theorem Span.cong (D : Dom p) (h : Span p w n v x) (e : ∀ k, k < w → p ∣ y k - x k) : Span p w n v y := by
  obtain ⟨l, a, hl, h⟩ := h
  refine ⟨l, a, hl, fun k hk => ?_⟩
  have h1 := h k hk
  have h2 := Int.dvd_mul_of_dvd_right (b := l) (e k hk)
  have : l * y k - S n (fun i => a i * v i k) = (l * x k - S n (fun i => a i * v i k)) + l * (y k - x k) := by grind
  rw [this]
  exact Int.dvd_add h1 h2
theorem Span.mem (D : Dom p) {i : Nat} (hi : i < n) : Span p w n v (v i) := by
  refine ⟨1, fun j => if j = i then 1 else 0, D.one, fun k _ => ?_⟩
  have : S n (fun j => (if j = i then 1 else 0) * v j k) = v i k := by
    rw [S_one hi fun j _ ne => by rw [if_neg ne, Int.zero_mul], if_pos rfl, Int.one_mul]
  rw [this]
  simp
theorem Span.add (D : Dom p) (hx : Span p w n v x) (hy : Span p w n v y) : Span p w n v fun k => x k + y k := by
  obtain ⟨l, a, hl, h1⟩ := hx
  obtain ⟨l', b, hl', h2⟩ := hy
  refine ⟨l * l', fun i => l' * a i + l * b i, D.nz hl hl', fun k hk => ?_⟩
  have e : S n (fun i => (l' * a i + l * b i) * v i k) = l' * S n (fun i => a i * v i k) + l * S n (fun i => b i * v i k) := by
    rw [← S_mul, ← S_mul, ← S_add]
    exact S_congr fun i _ => by grind
  rw [e]
  have q := Int.dvd_add (Int.dvd_mul_of_dvd_right (b := l') (h1 k hk)) (Int.dvd_mul_of_dvd_right (b := l) (h2 k hk))
  have e2 : l * l' * (x k + y k) - (l' * S n (fun i => a i * v i k) + l * S n (fun i => b i * v i k)) = l' * (l * x k - S n fun i => a i * v i k) + l * (l' * y k - S n fun i => b i * v i k) := by grind
  rw [e2]
  exact q
theorem Span.smul (D : Dom p) (b : Int) (hx : Span p w n v x) : Span p w n v fun k => b * x k := by
  obtain ⟨l, a, hl, h1⟩ := hx
  refine ⟨l, fun i => b * a i, hl, fun k hk => ?_⟩
  have e : S n (fun i => (b * a i) * v i k) = b * S n (fun i => a i * v i k) := by
    rw [← S_mul]
    exact S_congr fun i _ => by grind
  rw [e]
  have q := Int.dvd_mul_of_dvd_right (b := b) (h1 k hk)
  have e2 : l * (b * x k) - b * S n (fun i => a i * v i k) = b * (l * x k - S n fun i => a i * v i k) := by grind
  rw [e2]
  exact q
theorem Span.sum (D : Dom p) {a : Nat → Int} (h : ∀ i, i < m → Span p w n v (u i)) : Span p w n v fun k => S m fun i => a i * u i k := by
  induction m with
  | zero => exact Span.zero D fun k _ => Int.dvd_zero p
  | succ m ih => exact (ih fun i hi => h i (Nat.lt_succ_of_lt hi)).add D ((h m (Nat.lt_succ_self m)).smul D (a m))
/-- what times something is made, is made -/
theorem Span.of_mul (D : Dom p) {l : Int} (hl : ¬ p ∣ l) (h : Span p w n v fun k => l * x k) : Span p w n v x := by
  obtain ⟨l', a, hl', h⟩ := h
  exact ⟨l' * l, a, D.nz hl' hl, fun k hk => by rw [Int.mul_assoc]; exact h k hk⟩
theorem Span.trans (D : Dom p) (hx : Span p w m u x) (h : ∀ i, i < m → Span p w n v (u i)) : Span p w n v x := by
  obtain ⟨l, a, hl, e⟩ := hx
  exact Span.of_mul D hl ((Span.sum D (a := a) h).cong D e)
/-- Steinitz -/
theorem steinitz (D : Dom p) (hu : Indep p w m u) (h : ∀ i, i < m → Span p w n v (u i)) : m ≤ n := by
  apply Classical.byContradiction
  intro hlt
  have hc : ∀ i, ∃ (l : Int) (a : Nat → Int), i < m → ¬ p ∣ l ∧ ∀ k, k < w → p ∣ l * u i k - S n fun j => a j * v j k := by
    intro i
    by_cases hi : i < m
    · obtain ⟨l, a, h1⟩ := h i hi
      exact ⟨l, a, fun _ => h1⟩
    · exact ⟨0, fun _ => 0, fun z => absurd z hi⟩
  have hL := fun i => (Classical.choose_spec (hc i))
  let l := fun i => Classical.choose (hc i)
  have hA : ∀ i, ∃ a : Nat → Int, i < m → ¬ p ∣ l i ∧ ∀ k, k < w → p ∣ l i * u i k - S n fun j => a j * v j k := hL
  let A := fun i => Classical.choose (hA i)
  have hS : ∀ i, i < m → ¬ p ∣ l i ∧ ∀ k, k < w → p ∣ l i * u i k - S n fun j => A i j * v j k := fun i => Classical.choose_spec (hA i)
  obtain ⟨c, ⟨i1, hi1, hc1⟩, h2⟩ := hom D n m A (by omega)
  have q := hu (fun i => c i * l i) (fun k hk => ?_) i1 hi1
  · exact (D.mul q).elim hc1 (hS i1 hi1).1
  · have e1 : p ∣ S m (fun i => c i * l i * u i k) - S m (fun i => c i * S n fun j => A i j * v j k) := by
      refine S_cong fun i hi => ?_
      have := Int.dvd_mul_of_dvd_right (b := c i) ((hS i hi).2 k hk)
      have e : c i * l i * u i k - c i * S n (fun j => A i j * v j k) = c i * (l i * u i k - S n fun j => A i j * v j k) := by grind
      rw [e]
      exact this
    have e2 : S m (fun i => c i * S n fun j => A i j * v j k) = S n fun j => (S m fun i => c i * A i j) * v j k := by
      rw [S_congr (g := fun i => S n fun j => c i * (A i j * v j k)) fun i _ => (S_mul n _ _).symm, S_swap]
      refine S_congr fun j _ => ?_
      rw [← S_mul']
      exact S_congr fun i _ => by grind
    have e3 : p ∣ S m (fun i => c i * S n fun j => A i j * v j k) := by
      rw [e2]
      exact S_dvd fun j hj => Int.dvd_mul_of_dvd_left (h2 j hj)
    have := Int.dvd_add e1 e3
    simpa using this
end
/-- n is the rank of m vectors -/
def RankIs (p : Int) (w m : Nat) (r : Nat → Vec) (n : Nat) : Prop := ∃ u : Nat → Vec, Indep p w n u ∧ (∀ i, i < n → Span p w m r (u i)) ∧ ∀ i, i < m → Span p w n u (r i)
theorem RankIs.le {p : Int} {w m m' n n' : Nat} {r r' : Nat → Vec} (D : Dom p) (h : RankIs p w m r n) (h' : RankIs p w m' r' n') (sub : ∀ i, i < m → Span p w m' r' (r i)) : n ≤ n' := by
  obtain ⟨u, h1, h2, _⟩ := h
  obtain ⟨u', _, _, k3⟩ := h'
  exact steinitz D h1 fun i hi => ((h2 i hi).trans D sub).trans D k3
theorem RankIs.one {p : Int} {w m n n' : Nat} {r : Nat → Vec} (D : Dom p) (h : RankIs p w m r n) (h' : RankIs p w m r n') : n = n' :=
  Nat.le_antisymm (h.le D h' fun i hi => Span.mem D hi) (h'.le D h fun i hi => Span.mem D hi)
end Lin
end My
/-! The number of w rows that is 0 just where they hang together, and what comes of it when a row is exchanged. -/
namespace My
namespace Lin
theorem S_two {n i j : Nat} {f : Nat → Int} (hi : i < n) (hj : j < n) (ne : i ≠ j) (h : ∀ l, l < n → l ≠ i → l ≠ j → f l = 0) : S n f = f i + f j := by
  obtain ⟨n, rfl⟩ : ∃ m, n = m + 1 := ⟨n - 1, by omega⟩
  rw [S_skip f (show i ≤ n by omega)]
  have hb : ∃ k, k < n ∧ skip i k = j := by
    by_cases e : j < i
    · exact ⟨j, by omega, by unfold skip; rw [if_pos e]⟩
    · exact ⟨j - 1, by omega, by unfold skip; rw [if_neg (by omega)]; omega⟩
  obtain ⟨k, hk, ek⟩ := hb
  have : S n (fun l => f (skip i l)) = f j := by
    rw [S_one hk fun l hl nl => ?_, ek]
    refine h _ (skip_lt hl) skip_ne fun z => nl ?_
    have e1 : (if skip i l < i then skip i l else skip i l - 1) = l := skip_back
    have e2 : (if skip i k < i then skip i k else skip i k - 1) = k := skip_back
    rw [z] at e1
    rw [ek] at e2
    rw [← e1, ← e2]
  rw [this]
  omega
def upd1 (r : Nat → Vec) (q : Nat) (v : Vec) : Nat → Vec := fun i => if i = q then v else r i
def unitV (k : Nat) : Vec := fun l => if l = k then 1 else 0
def minor (i : Nat) (r : Nat → Vec) : Nat → Vec := fun a k => r (skip i a) (k + 1)
def sg (i : Nat) : Int := if i % 2 = 0 then 1 else -1
theorem sg_succ (i : Nat) : sg (i + 1) = - sg i := by
  unfold sg
  by_cases h : i % 2 = 0
  · rw [if_pos h, if_neg (by omega)]
  · rw [if_neg h, if_pos (by omega)]
    rfl
def D : Nat → (Nat → Vec) → Int
  | 0, _ => 1
  | w + 1, r => S (w + 1) fun i => sg i * r i 0 * D w (minor i r)
theorem upd1_at (r : Nat → Vec) (q : Nat) (v : Vec) : upd1 r q v q = v := if_pos rfl
theorem upd1_ne {r : Nat → Vec} {q i : Nat} {v : Vec} (h : i ≠ q) : upd1 r q v i = r i := if_neg h
theorem upd1_comm {r : Nat → Vec} {q j : Nat} {x y : Vec} (h : q ≠ j) : upd1 (upd1 r q x) j y = upd1 (upd1 r j y) q x := by
  funext i
  by_cases e : i = j
  · rw [e, upd1_at, upd1_ne (Ne.symm h), upd1_at]
  · rw [upd1_ne e]
    by_cases e2 : i = q
    · rw [e2, upd1_at, upd1_at]
    · rw [upd1_ne e2, upd1_ne e2, upd1_ne e]
theorem upd1_self (r : Nat → Vec) (q : Nat) : upd1 r q (r q) = r := by
  funext i
  by_cases e : i = q
  · rw [e, upd1_at]
  · rw [upd1_ne e]
theorem upd1_twice (r : Nat → Vec) (q : Nat) (x y : Vec) : upd1 (upd1 r q x) q y = upd1 r q y := by
  funext i
  by_cases e : i = q
  · rw [e, upd1_at, upd1_at]
  · rw [upd1_ne e, upd1_ne e, upd1_ne e]
theorem D_congr : ∀ {w : Nat} {r r' : Nat → Vec}, (∀ i, i < w → ∀ k, k < w → r i k = r' i k) → D w r = D w r'
  | 0, _, _, _ => rfl
  | w + 1, r, r', h => by
    unfold D
    refine S_congr fun i hi => ?_
    rw [h i hi 0 (Nat.succ_pos w), D_congr (w := w) (r := minor i r) (r' := minor i r') fun a ha k hk => h _ (skip_lt ha) _ (Nat.succ_lt_succ hk)]
theorem minor_upd {r : Nat → Vec} {i q : Nat} {z : Vec} (h : i ≠ q) : minor i (upd1 r q z) = upd1 (minor i r) (if q < i then q else q - 1) fun k => z (k + 1) := by
  funext a k
  unfold minor
  by_cases e : skip i a = q
  · have e2 : a = if q < i then q else q - 1 := by
      have := skip_back (k := i) (i := a)
      rw [e] at this
      exact this.symm
    rw [← e2, e, upd1_at, upd1_at]
  · have e2 : a ≠ if q < i then q else q - 1 := by
      intro z
      apply e
      rw [z]
      unfold skip
      by_cases g : q < i
      · rw [if_pos g, if_pos g]
      · rw [if_neg g, if_neg (by omega)]
        omega
    rw [upd1_ne e, upd1_ne e2]
theorem minor_updS {r : Nat → Vec} {q : Nat} {z : Vec} : minor q (upd1 r q z) = minor q r := by
  funext a k
  unfold minor
  rw [upd1_ne skip_ne]
theorem D_lin : ∀ {w : Nat} {r : Nat → Vec} {q : Nat} {x y : Vec} {a b : Int}, q < w → D w (upd1 r q fun k => a * x k + b * y k) = a * D w (upd1 r q x) + b * D w (upd1 r q y)
  | 0, _, _, _, _, _, _, h => absurd h (Nat.not_lt_zero _)
  | w + 1, r, q, x, y, a, b, h => by
    unfold D
    rw [← S_mul, ← S_mul, ← S_add]
    refine S_congr fun i hi => ?_
    by_cases e : i = q
    · subst e
      rw [minor_updS, minor_updS, minor_updS, upd1_at, upd1_at, upd1_at]
      grind
    · rw [minor_upd e, minor_upd e, minor_upd e, upd1_ne e, upd1_ne e, upd1_ne e, D_lin (w := w) (by split <;> omega)]
      grind
theorem D_adj : ∀ {w : Nat} {r : Nat → Vec} {q : Nat}, q + 1 < w → (∀ k, k < w → r q k = r (q + 1) k) → D w r = 0
  | 0, _, _, h, _ => absurd h (Nat.not_lt_zero _)
  | w + 1, r, q, h, e => by
    unfold D
    rw [S_two (i := q) (j := q + 1) (by omega) h (by omega) fun i hi n1 n2 => ?_]
    · have e1 : D w (minor q r) = D w (minor (q + 1) r) := by
        refine D_congr fun a ha k hk => ?_
        unfold minor
        by_cases z : a = q
        · have s1 : skip q a = q + 1 := by unfold skip; rw [if_neg (by omega), z]
          have s2 : skip (q + 1) a = q := by unfold skip; rw [if_pos (by omega), z]
          rw [s1, s2]
          exact (e _ (Nat.succ_lt_succ hk)).symm
        · have : skip q a = skip (q + 1) a := by
            unfold skip
            by_cases g : a < q
            · rw [if_pos g, if_pos (by omega)]
            · rw [if_neg g, if_neg (by omega)]
          rw [this]
      rw [e1, sg_succ, e 0 (Nat.succ_pos w)]
      grind
    · have : D w (minor i r) = 0 := by
        by_cases g : i < q
        · refine D_adj (q := q - 1) (by omega) fun k hk => ?_
          unfold minor
          have s1 : skip i (q - 1) = q := by unfold skip; rw [if_neg (by omega)]; omega
          have s2 : skip i (q - 1 + 1) = q + 1 := by unfold skip; rw [if_neg (by omega)]; omega
          rw [s1, s2]
          exact e _ (Nat.succ_lt_succ hk)
        · refine D_adj (q := q) (by omega) fun k hk => ?_
          unfold minor
          have s1 : skip i q = q := by unfold skip; rw [if_pos (by omega)]
          have s2 : skip i (q + 1) = q + 1 := by unfold skip; rw [if_pos (by omega)]
          rw [s1, s2]
          exact e _ (Nat.succ_lt_succ hk)
      rw [this, Int.mul_zero]
theorem swap_of {F : Vec → Vec → Int} (h0 : ∀ x, F x x = 0) (h1 : ∀ x x' y, F (fun k => 1 * x k + 1 * x' k) y = 1 * F x y + 1 * F x' y) (h2 : ∀ x y y', F x (fun k => 1 * y k + 1 * y' k) = 1 * F x y + 1 * F x y') (x y : Vec) : F x y = - F y x := by
  have := h0 fun k => 1 * x k + 1 * y k
  rw [h1, h2, h2, h0, h0] at this
  omega
theorem D_swapA {w q : Nat} {r : Nat → Vec} {x y : Vec} (h : q + 1 < w) : D w (upd1 (upd1 r q x) (q + 1) y) = - D w (upd1 (upd1 r q y) (q + 1) x) := by
  refine swap_of (F := fun x y => D w (upd1 (upd1 r q x) (q + 1) y)) (fun x => ?_) (fun x x' y => ?_) (fun x y y' => D_lin h) x y
  · refine D_adj h fun k _ => ?_
    rw [upd1_at, upd1_ne (by omega), upd1_at]
  · show D w (upd1 (upd1 r q _) (q + 1) y) = 1 * D w (upd1 (upd1 r q x) (q + 1) y) + 1 * D w (upd1 (upd1 r q x') (q + 1) y)
    rw [upd1_comm (by omega), D_lin (by omega), upd1_comm (by omega), upd1_comm (x := x') (by omega)]
theorem D_alt : ∀ {d w i j : Nat} {r : Nat → Vec}, i + 1 + d = j → j < w → (∀ k, k < w → r i k = r j k) → D w r = 0
  | 0, w, i, j, r, hd, hj, e => by
    have : j = i + 1 := by omega
    subst this
    exact D_adj hj e
  | d + 1, w, i, j, r, hd, hj, e => by
    obtain ⟨j, rfl⟩ : ∃ m, j = m + 1 := ⟨j - 1, by omega⟩
    have e1 : r = upd1 (upd1 r j (r j)) (j + 1) (r (j + 1)) := by
      have : upd1 r j (r j) = r := upd1_self r j
      rw [this, upd1_self]
    rw [e1, D_swapA hj, D_alt (d := d) (i := i) (j := j) (by omega) (by omega) fun k hk => ?_]
    · rfl
    · rw [upd1_ne (by omega), upd1_ne (by omega), upd1_ne (by omega), upd1_at]
      exact e k hk
theorem D_eq0 {w i j : Nat} {r : Nat → Vec} (hi : i < w) (hj : j < w) (ne : i ≠ j) (e : ∀ k, k < w → r i k = r j k) : D w r = 0 := by
  by_cases g : i < j
  · exact D_alt (d := j - i - 1) (i := i) (j := j) (by omega) hj e
  · exact D_alt (d := i - j - 1) (i := j) (j := i) (by omega) hi fun k hk => (e k hk).symm
theorem D_swap {w q j : Nat} {r : Nat → Vec} {x y : Vec} (hq : q < w) (hj : j < w) (ne : q ≠ j) : D w (upd1 (upd1 r q x) j y) = - D w (upd1 (upd1 r q y) j x) := by
  refine swap_of (F := fun x y => D w (upd1 (upd1 r q x) j y)) (fun x => ?_) (fun x x' y => ?_) (fun x y y' => D_lin hj) x y
  · refine D_eq0 hq hj ne fun k _ => ?_
    rw [upd1_at, upd1_ne ne, upd1_at]
  · show D w (upd1 (upd1 r q _) j y) = 1 * D w (upd1 (upd1 r q x) j y) + 1 * D w (upd1 (upd1 r q x') j y)
    rw [upd1_comm ne, D_lin hq, upd1_comm ne, upd1_comm (x := x') ne]
theorem D_unit : ∀ w : Nat, D w unitV = 1
  | 0 => rfl
  | w + 1 => by
    unfold D
    rw [S_one (k := 0) (Nat.succ_pos w) fun i hi ne => ?_]
    · have e : D w (minor 0 unitV) = D w unitV := by
        refine D_congr fun a _ k _ => ?_
        unfold minor skip unitV
        rw [if_neg (Nat.not_lt_zero a)]
        by_cases z : k = a
        · rw [if_pos z, if_pos (by omega)]
        · rw [if_neg z, if_neg (by omega)]
      rw [e, D_unit w]
      rfl
    · have : unitV i 0 = 0 := if_neg fun z => ne z.symm
      rw [this, Int.mul_zero, Int.zero_mul]
theorem D_zero {w q : Nat} {r : Nat → Vec} (hq : q < w) : D w (upd1 r q fun _ => 0) = 0 := by
  have := D_lin (r := r) (x := fun _ => 0) (y := fun _ => 0) (a := 0) (b := 0) hq
  simpa using this
theorem D_sum {w q : Nat} {r : Nat → Vec} (hq : q < w) (a : Nat → Int) (u : Nat → Vec) : ∀ n, D w (upd1 r q fun k => S n fun i => a i * u i k) = S n fun i => a i * D w (upd1 r q (u i))
  | 0 => D_zero hq
  | n + 1 => by
    have e : (fun k => S (n + 1) fun i => a i * u i k) = fun k => 1 * (S n fun i => a i * u i k) + a n * u n k := by
      funext k
      show S n _ + a n * u n k = _
      rw [Int.one_mul]
    rw [e, D_lin hq (x := fun k => S n fun i => a i * u i k) (y := u n), D_sum hq a u n, Int.one_mul]
    rfl
/-- what stands at k in column j -/
def cof (w : Nat) (r : Nat → Vec) (j k : Nat) : Int := D w (upd1 r j (unitV k))
theorem D_exp {w j : Nat} {r : Nat → Vec} (hj : j < w) (x : Vec) : S w (fun k => x k * cof w r j k) = D w (upd1 r j x) := by
  unfold cof
  rw [← D_sum hj x unitV w]
  refine D_congr fun i _ k hk => ?_
  by_cases e : i = j
  · rw [e, upd1_at, upd1_at]
    show S w (fun i => x i * unitV i k) = x k
    rw [S_one hk fun l _ nl => ?_]
    · show x k * (if k = k then 1 else 0) = x k
      rw [if_pos rfl, Int.mul_one]
    · show x l * (if k = l then 1 else 0) = 0
      rw [if_neg fun z => nl z.symm, Int.mul_zero]
  · rw [upd1_ne e, upd1_ne e]
theorem D_exact {w q j k : Nat} {r : Nat → Vec} {v : Vec} (hq : q < w) (hj : j < w) (ne : j ≠ q) (h : ∀ k, k < w → S w (fun i => D w (upd1 r i v) * r i k) = D w r * v k) :
    D w r * cof w (upd1 r q v) j k = D w (upd1 r q v) * cof w r j k - D w (upd1 r j v) * cof w r q k := by
  have e1 : D w r * cof w (upd1 r q v) j k = D w (upd1 (upd1 r j (unitV k)) q fun k => S w fun i => D w (upd1 r i v) * r i k) := by
    have e2 : D w (upd1 (upd1 r j (unitV k)) q fun k => S w fun i => D w (upd1 r i v) * r i k) = D w (upd1 (upd1 r j (unitV k)) q fun k => D w r * v k + 0 * v k) := by
      refine D_congr fun i _ k' hk => ?_
      by_cases e : i = q
      · rw [e, upd1_at, upd1_at, h k' hk]
        grind
      · rw [upd1_ne e, upd1_ne e]
    rw [e2, D_lin hq, Int.zero_mul, Int.add_zero, upd1_comm ne]
    rfl
  rw [e1, D_sum hq, S_two (i := q) (j := j) hq hj (Ne.symm ne) fun i hi n1 n2 => ?_]
  · have e3 : upd1 (upd1 r j (unitV k)) q (r q) = upd1 r j (unitV k) := by
      rw [upd1_comm ne, upd1_self]
    have e4 : D w (upd1 (upd1 r j (unitV k)) q (r j)) = - cof w r q k := by
      rw [D_swap hj hq ne, upd1_self]
      rfl
    rw [e3, e4]
    show D w (upd1 r q v) * cof w r j k + _ = _
    grind
  · have : D w (upd1 (upd1 r j (unitV k)) q (r i)) = 0 := by
      refine D_eq0 hi hq n1 fun k' _ => ?_
      rw [upd1_at, upd1_ne n1, upd1_ne n2]
    rw [this, Int.mul_zero]
/-! ### a gauge -/
/-- w rows, the columns that measure by them, and the scale -/
structure Adj (p : Int) (w : Nat) (s : Int) (c r : Nat → Vec) : Prop where
  nz : ¬ p ∣ s
  at_ : ∀ i, i < w → ∀ j, j < w → p ∣ S w (fun k => r i k * c j k) - (if i = j then s else 0)
  all : ∀ (x : Vec) (k : Nat), k < w → p ∣ S w (fun j => S w (fun l => x l * c j l) * r j k) - s * x k
  ex : p = 0 → s = D w r ∧ ∀ j, j < w → ∀ k, k < w → c j k = cof w r j k
theorem S_unitL {w i : Nat} (hi : i < w) (f : Nat → Int) : S w (fun k => unitV i k * f k) = f i := by
  rw [S_one hi fun l _ nl => ?_]
  · show (if i = i then 1 else 0) * f i = f i
    rw [if_pos rfl, Int.one_mul]
  · show (if l = i then 1 else 0) * f l = 0
    rw [if_neg nl, Int.zero_mul]
theorem unit_sym (j k : Nat) : unitV j k = unitV k j := by
  unfold unitV
  by_cases e : k = j
  · rw [if_pos e, if_pos e.symm]
  · rw [if_neg e, if_neg fun z => e z.symm]
theorem adj_start {p : Int} (Dp : Dom p) (w : Nat) : Adj p w 1 unitV unitV := by
  refine ⟨Dp.one, fun i hi j hj => ?_, fun x k hk => ?_, fun _ => ⟨(D_unit w).symm, fun j hj k hk => ?_⟩⟩
  · rw [S_unitL hi]
    show p ∣ (if i = j then 1 else 0) - (if i = j then 1 else 0)
    rw [Int.sub_self]
    exact Int.dvd_zero p
  · have e : S w (fun j => S w (fun l => x l * unitV j l) * unitV j k) = x k := by
      rw [S_congr (g := fun j => unitV k j * x j) fun j hj => ?_, S_unitL hk]
      rw [S_congr (g := fun l => unitV j l * x l) fun l _ => Int.mul_comm _ _, S_unitL hj, unit_sym]
      exact Int.mul_comm _ _
    rw [e, Int.one_mul, Int.sub_self]
    exact Int.dvd_zero p
  · unfold cof
    have := D_exp (r := unitV) hj (unitV k)
    rw [← this, S_unitL hk]
    have e : cof w unitV j k = unitV j k := by
      unfold cof
      by_cases z : k = j
      · subst z
        rw [upd1_self, D_unit]
        show 1 = if k = k then (1 : Int) else 0
        rw [if_pos rfl]
      · rw [D_eq0 hk hj z fun l _ => by rw [upd1_ne z, upd1_at]]
        show (0 : Int) = if k = j then 1 else 0
        rw [if_neg z]
    exact e.symm
theorem fdiv_exact {s x : Int} (h : s ≠ 0) : Int.fdiv (s * x) s = x := Int.mul_fdiv_cancel_left x h
theorem Adj.step {p : Int} {w q : Nat} {s : Int} {c c' r : Nat → Vec} {sh : Nat → Int} {v : Vec} (Dp : Dom p) (A : Adj p w s c r) (hq : q < w)
    (hs : ∀ j, j < w → p ∣ sh j - S w (fun k => v k * c j k)) (nq : ¬ p ∣ sh q) (cq : ∀ k, k < w → c' q k = c q k)
    (cj : p ≠ 0 → ∀ j, j < w → j ≠ q → ∀ k, k < w → p ∣ s * c' j k - (sh q * c j k - sh j * c q k))
    (c0 : p = 0 → ∀ j, j < w → j ≠ q → ∀ k, k < w → c' j k = Int.fdiv (sh q * c j k - sh j * c q k) s) : Adj p w (sh q) c' (upd1 r q v) := by
  have hs0 : p = 0 → ∀ j, j < w → sh j = S w (fun k => v k * c j k) := by
    intro e j hj
    have := hs j hj
    rw [e, Int.zero_dvd] at this
    omega
  have hD : p = 0 → ∀ j, j < w → sh j = D w (upd1 r j v) := by
    intro e j hj
    rw [hs0 e j hj, ← D_exp hj v]
    exact S_congr fun k hk => by rw [(A.ex e).2 j hj k hk]
  have hex : p = 0 → ∀ j, j < w → j ≠ q → ∀ k, k < w → s * cof w (upd1 r q v) j k = sh q * c j k - sh j * c q k := by
    intro e j hj nj k hk
    rw [(A.ex e).1, D_exact hq hj nj fun k hk => ?_, hD e q hq, hD e j hj, (A.ex e).2 j hj k hk, (A.ex e).2 q hq k hk]
    have := A.all v k hk
    rw [e, Int.zero_dvd] at this
    rw [← (A.ex e).1]
    have e2 : S w (fun i => D w (upd1 r i v) * r i k) = S w (fun j => S w (fun l => v l * c j l) * r j k) := S_congr fun i hi => by rw [← hD e i hi, hs0 e i hi]
    rw [e2]
    omega
  have hc0 : p = 0 → ∀ j, j < w → ∀ k, k < w → c' j k = cof w (upd1 r q v) j k := by
    intro e j hj k hk
    by_cases z : j = q
    · rw [z, cq k hk, (A.ex e).2 q hq k hk]
      unfold cof
      rw [upd1_twice]
    · rw [c0 e j hj z k hk, ← hex e j hj z k hk, fdiv_exact]
      intro z2
      have := A.nz
      rw [e, Int.zero_dvd] at this
      exact this z2
  have cj' : ∀ j, j < w → j ≠ q → ∀ k, k < w → p ∣ s * c' j k - (sh q * c j k - sh j * c q k) := by
    intro j hj nj k hk
    by_cases e : p = 0
    · rw [hc0 e j hj k hk, hex e j hj nj k hk, Int.sub_self]
      exact Int.dvd_zero p
    · exact cj e j hj nj k hk
  -- what the new columns measure, times the old scale
  have meas : ∀ (x : Vec) (j : Nat), j < w → j ≠ q → p ∣ s * S w (fun k => x k * c' j k) - (sh q * S w (fun k => x k * c j k) - sh j * S w (fun k => x k * c q k)) := by
    intro x j hj nj
    have e : s * S w (fun k => x k * c' j k) - (sh q * S w (fun k => x k * c j k) - sh j * S w (fun k => x k * c q k)) = S w fun k => x k * (s * c' j k - (sh q * c j k - sh j * c q k)) := by
      rw [← S_mul, ← S_mul, ← S_mul, ← S_sub, ← S_sub]
      exact S_congr fun k _ => by grind
    rw [e]
    exact S_dvd fun k hk => Int.dvd_mul_of_dvd_right (cj' j hj nj k hk)
  have measq : ∀ x : Vec, S w (fun k => x k * c' q k) = S w (fun k => x k * c q k) := fun x => S_congr fun k hk => by rw [cq k hk]
  refine ⟨nq, fun i hi j hj => ?_, fun x k hk => ?_, fun e => ⟨hD e q hq, hc0 e⟩⟩
  · by_cases ei : i = q
    · subst ei
      rw [upd1_at]
      by_cases ej : i = j
      · subst ej
        rw [if_pos rfl, measq]
        have := hs i hi
        have e : S w (fun k => v k * c i k) - sh i = -(sh i - S w (fun k => v k * c i k)) := by omega
        rw [e]
        exact (Int.dvd_neg).mpr this
      · rw [if_neg ej, Int.sub_zero]
        refine Dp.can A.nz ?_
        have h1 := meas v j hj (Ne.symm ej)
        have h2 := hs i hi
        have h3 := hs j hj
        have e : s * S w (fun k => v k * c' j k) = (s * S w (fun k => v k * c' j k) - (sh i * S w (fun k => v k * c j k) - sh j * S w (fun k => v k * c i k))) + (sh j * (sh i - S w (fun k => v k * c i k)) - sh i * (sh j - S w (fun k => v k * c j k))) := by grind
        rw [e]
        exact Int.dvd_add h1 (Int.dvd_sub (Int.dvd_mul_of_dvd_right h2) (Int.dvd_mul_of_dvd_right h3))
    · rw [upd1_ne ei]
      by_cases ej : j = q
      · subst ej
        rw [measq, if_neg ei]
        have := A.at_ i hi j hj
        rw [if_neg ei] at this
        exact this
      · refine Dp.can A.nz ?_
        have h1 := meas (r i) j hj ej
        have h2 := A.at_ i hi j hj
        have h3 := A.at_ i hi q hq
        rw [if_neg ei, Int.sub_zero] at h3
        have e : s * (S w (fun k => r i k * c' j k) - (if i = j then sh q else 0)) = (s * S w (fun k => r i k * c' j k) - (sh q * S w (fun k => r i k * c j k) - sh j * S w (fun k => r i k * c q k))) + (sh q * (S w (fun k => r i k * c j k) - (if i = j then s else 0)) - sh j * S w (fun k => r i k * c q k)) := by
          by_cases g : i = j
          · rw [if_pos g, if_pos g]
            grind
          · rw [if_neg g, if_neg g]
            grind
        rw [e]
        exact Int.dvd_add h1 (Int.dvd_sub (Int.dvd_mul_of_dvd_right h2) (Int.dvd_mul_of_dvd_right h3))
  · refine Dp.can A.nz ?_
    have h1 := A.all x k hk
    have h2 := A.all v k hk
    -- all but the row that is exchanged
    obtain ⟨w, rfl⟩ : ∃ m, w = m + 1 := ⟨w - 1, by omega⟩
    have hq' : q ≤ w := by omega
    have t0 : S (w + 1) (fun j => S (w + 1) (fun l => x l * c' j l) * upd1 r q v j k) = S w (fun j => S (w + 1) (fun l => x l * c' (skip q j) l) * r (skip q j) k) + S (w + 1) (fun l => x l * c q l) * v k := by
      rw [S_skip _ hq', upd1_at, measq]
      congr 1
      exact S_congr fun j _ => by rw [upd1_ne skip_ne]
    have t1 : S (w + 1) (fun j => S (w + 1) (fun l => x l * c j l) * r j k) = S w (fun j => S (w + 1) (fun l => x l * c (skip q j) l) * r (skip q j) k) + S (w + 1) (fun l => x l * c q l) * r q k := S_skip _ hq'
    have t2 : S (w + 1) (fun j => S (w + 1) (fun l => v l * c j l) * r j k) = S w (fun j => S (w + 1) (fun l => v l * c (skip q j) l) * r (skip q j) k) + S (w + 1) (fun l => v l * c q l) * r q k := S_skip _ hq'
    have t3 : p ∣ s * S w (fun j => S (w + 1) (fun l => x l * c' (skip q j) l) * r (skip q j) k) - (sh q * S w (fun j => S (w + 1) (fun l => x l * c (skip q j) l) * r (skip q j) k) - S (w + 1) (fun l => x l * c q l) * S w (fun j => S (w + 1) (fun l => v l * c (skip q j) l) * r (skip q j) k)) := by
      have e : s * S w (fun j => S (w + 1) (fun l => x l * c' (skip q j) l) * r (skip q j) k) - (sh q * S w (fun j => S (w + 1) (fun l => x l * c (skip q j) l) * r (skip q j) k) - S (w + 1) (fun l => x l * c q l) * S w (fun j => S (w + 1) (fun l => v l * c (skip q j) l) * r (skip q j) k)) =
          S w fun j => ((s * S (w + 1) (fun l => x l * c' (skip q j) l) - (sh q * S (w + 1) (fun l => x l * c (skip q j) l) - sh (skip q j) * S (w + 1) (fun l => x l * c q l))) * r (skip q j) k - (sh (skip q j) - S (w + 1) (fun l => v l * c (skip q j) l)) * (S (w + 1) (fun l => x l * c q l) * r (skip q j) k)) := by
        rw [← S_mul, ← S_mul, ← S_mul, ← S_sub, ← S_sub]
        exact S_congr fun j _ => by grind
      rw [e]
      refine S_dvd fun j hj => Int.dvd_sub (Int.dvd_mul_of_dvd_left (meas x _ (skip_lt hj) skip_ne)) (Int.dvd_mul_of_dvd_left (hs _ (skip_lt hj)))
    have h4 := hs q hq
    rw [t0]
    rw [t1] at h1
    rw [t2] at h2
    generalize S w (fun j => S (w + 1) (fun l => x l * c' (skip q j) l) * r (skip q j) k) = a1 at *
    generalize S w (fun j => S (w + 1) (fun l => x l * c (skip q j) l) * r (skip q j) k) = a2 at *
    generalize S w (fun j => S (w + 1) (fun l => v l * c (skip q j) l) * r (skip q j) k) = a3 at *
    generalize S (w + 1) (fun l => x l * c q l) = b1 at *
    generalize S (w + 1) (fun l => v l * c q l) = b2 at *
    have e : s * (a1 + b1 * v k - sh q * x k) = (s * a1 - (sh q * a2 - b1 * a3)) + sh q * (a2 + b1 * r q k - s * x k) - b1 * (a3 + b2 * r q k - s * v k) - (sh q - b2) * (b1 * r q k) := by grind
    rw [e]
    exact Int.dvd_sub (Int.dvd_sub (Int.dvd_add t3 (Int.dvd_mul_of_dvd_right h1)) (Int.dvd_mul_of_dvd_right h2)) (Int.dvd_mul_of_dvd_left h4)
end Lin
end My
/-! Comprehensions over pairs. -/
namespace My
open PySem L2 PySem.Calls PyProof.Rows
/-- what a comprehension's walk asks -/
abbrev LcW (J : It) (g : TG) (tt : TT) (te : TE) (vs : List Nat) (σ : L2.St) (H1 : Hp) (D : Addr) (Qd : Hp → Prop) : Prop :=
  ∃ W : Nat → Nat → Hp → Prop, (∃ m, W 0 m (upd H1 D (.lst []))) ∧ ∀ i0 m H, W i0 m H →
      (J.stop i0 H ∧ Qd H) ∨ (J.go i0 H ∧ ∃ Nx : Hp → Prop, (∀ H', Nx H' → ∃ m', m' < m ∧ W (i0 + 1) m' H') ∧ ∀ x H', J.yld i0 H x H' → g x (wipe σ vs) H' fun σ2 H2 => wipe σ2 vs = wipe σ vs ∧ tt σ2 H2 fun b H3 =>
        if b = true then te σ2 H3 fun y H4 => ∃ acc, H4 D = some (.lst acc) ∧ acc.length < sizeLine ∧ Nx (upd H4 D (.lst (acc ++ [y]))) else Nx H3)
section
variable {K : PySem.W.Frag} {a D : Addr} {i j : Nat} {vs : List Nat} {te : TE} {σ : L2.St} {H1 : Hp} {Qd : Hp → Prop} {J : It} {n : Nat} {G : Hp → Prop}
theorem map_pair {xs ys : Nat → Option V} (wk : Walk J n G (YPair xs ys)) (gs : List V) (hl : gs.length = n) (hG : ∀ H, Same H1 H → G H) (nD : H1 D = none) (sz : n ≤ 1000)
    (hw : ∀ x y, wipe (((wipe σ vs).set i (some x)).set j (some y)) vs = wipe σ vs)
    (hs : ∀ (k : Nat) (x y v : V) (H : Hp), xs k = some x → ys k = some y → gs[k]? = some v → Same H1 H → ∀ R : VK, (∀ H4, Same H H4 → R v H4) → te (((wipe σ vs).set i (some x)).set j (some y)) H R)
    (hd : ∀ H, Same H1 H → H D = some (.lst gs) → Qd H) : LcW J (gTup K 2 (gCons (gName i) (gCons (gName j) gNil))) tYes te vs σ H1 D Qd := by
  refine lc_it wk (fun k H => Same H1 H ∧ H D = some (.lst (gs.take k))) ⟨same_upd3 nD, upd_same⟩ (fun _ H _ h => hG H h.1) ?_ ?_
  · rintro k x H H' hk ⟨sH, e⟩ ⟨T, x1, y1, rfl, nT, rfl, hx, hy⟩
    have sT := same_upd3 nT (o := .tup [x1, y1])
    refine ⟨T, [x1, y1], rfl, .inl (.inl upd_same), rfl, x1, [y1], rfl, y1, [], rfl, rfl, hw x1 y1, ?_⟩
    dsimp only [tYes]
    rw [if_pos rfl]
    have hv : gs[k]? = some gs[k] := List.getElem?_eq_getElem (by omega)
    refine hs k x1 y1 _ _ hx hy hv (sH.trans sT) _ fun H4 s4 => ⟨_, s4 _ _ (sT _ _ e), ?_, ?_, ?_⟩
    · rw [List.length_take]
      exact Nat.lt_of_lt_of_le (by omega : _ < 1001) (by decide)
    · intro b u e2
      rw [upd_ne (ne_of_none e2 nD)]
      exact s4 _ _ ((sH.trans sT) _ _ e2)
    · rw [upd_same, List.take_succ, hv]
      rfl
  · rintro H ⟨hj, e⟩
    rw [← hl, List.take_length] at e
    exact hd H hj e
/-- .. with a test: the items that stay -/
theorem flt_pair {tt : TT} {xs ys : Nat → Option V} (wk : Walk J n G (YPair xs ys)) (gs : Nat → List V) (g0 : gs 0 = []) (hg : ∀ k, k < n → (gs k).length ≤ k) (hG : ∀ H, Same H1 H → G H) (nD : H1 D = none) (sz : n ≤ 1000)
    (hw : ∀ x y, wipe (((wipe σ vs).set i (some x)).set j (some y)) vs = wipe σ vs)
    (hs : ∀ (k : Nat) (x y : V) (H : Hp), k < n → xs k = some x → ys k = some y → Same H1 H → ∀ (Nn : Hp → Prop) (R : VK), (gs (k + 1) = gs k → ∀ H4, Same H H4 → Nn H4) → (∀ v, gs (k + 1) = gs k ++ [v] → ∀ H4, Same H H4 → R v H4) →
      tt (((wipe σ vs).set i (some x)).set j (some y)) H fun b H3 => if b = true then te (((wipe σ vs).set i (some x)).set j (some y)) H3 R else Nn H3)
    (hd : ∀ H, Same H1 H → H D = some (.lst (gs n)) → Qd H) : LcW J (gTup K 2 (gCons (gName i) (gCons (gName j) gNil))) tt te vs σ H1 D Qd := by
  refine lc_it wk (fun k H => Same H1 H ∧ H D = some (.lst (gs k))) ⟨same_upd3 nD, by rw [upd_same, g0]⟩ (fun _ H _ h => hG H h.1) ?_ ?_
  · rintro k x H H' hk ⟨sH, e⟩ ⟨T, x1, y1, rfl, nT, rfl, hx, hy⟩
    have sT := same_upd3 nT (o := .tup [x1, y1])
    refine ⟨T, [x1, y1], rfl, .inl (.inl upd_same), rfl, x1, [y1], rfl, y1, [], rfl, rfl, hw x1 y1, ?_⟩
    refine hs k x1 y1 _ hk hx hy (sH.trans sT) _ _ (fun h H4 s4 => ⟨(sH.trans sT).trans s4, ?_⟩) fun v hv H4 s4 => ⟨_, s4 _ _ (sT _ _ e), ?_, ?_, ?_⟩
    · rw [h]
      exact s4 _ _ (sT _ _ e)
    · exact Nat.lt_of_le_of_lt (hg k hk) (Nat.lt_of_lt_of_le (by omega : k < 1001) (by decide))
    · intro b u e2
      rw [upd_ne (ne_of_none e2 nD)]
      exact s4 _ _ ((sH.trans sT) _ _ e2)
    · rw [upd_same, hv]
  · rintro H ⟨hj, e⟩
    exact hd H hj e
end
section
variable {K : PySem.W.Frag} {a D : Addr} {i : Nat} {vs : List Nat} {te : TE} {σ : L2.St} {H1 : Hp} {Qd : Hp → Prop}
theorem comp_rangeI {lo : Int} {n : Nat} (I : Nat → List V → Hp → Prop) (h0 : I 0 [] (upd H1 D (.lst []))) (sz : n ≤ 1000) (hw : ∀ x, wipe ((wipe σ vs).set i (some x)) vs = wipe σ vs)
    (hs : ∀ j ys H, j < n → I j ys H → H D = some (.lst ys) → ∀ R : VK, (∀ y H4, H4 D = some (.lst ys) → I (j + 1) (ys ++ [y]) (upd H4 D (.lst (ys ++ [y]))) → R y H4) → te ((wipe σ vs).set i (some (.int (lo + j)))) H R)
    (hd : ∀ H ys, I n ys H → H D = some (.lst ys) → ys.length = n → Qd H) : LcW (Itr lo n) (gName i) tYes te vs σ H1 D Qd := by
  refine lc_range (fun j H => ∃ ys, I j ys H ∧ H D = some (.lst ys) ∧ ys.length = j) ⟨[], h0, upd_same, rfl⟩ ?_ ?_
  · rintro j H hx ⟨ys, hj, e, g⟩
    refine ⟨hw _, ?_⟩
    dsimp only [tYes]
    rw [if_pos rfl]
    refine hs j ys H hx hj e _ fun y H4 e4 hj4 => ⟨ys, e4, ?_, ys ++ [y], hj4, upd_same, by rw [List.length_append, g]; rfl⟩
    rw [g]
    exact Nat.lt_of_lt_of_le (by omega : j < 1001) (by decide)
  · rintro H ⟨ys, hj, e, g⟩
    exact hd H ys hj e g
end
/-- what a dict comprehension's walk asks -/
abbrev DcW (J : It) (g : TG) (tt : TT) (tk tv : TE) (vs : List Nat) (σ : L2.St) (H1 : Hp) (D : Addr) (Qd : Hp → Prop) : Prop :=
  ∃ W : Nat → Nat → Hp → Prop, (∃ m, W 0 m (upd H1 D (.dK []))) ∧ ∀ i0 m H, W i0 m H →
      (J.stop i0 H ∧ Qd H) ∨ (J.go i0 H ∧ ∃ Nx : Hp → Prop, (∀ H', Nx H' → ∃ m', m' < m ∧ W (i0 + 1) m' H') ∧ ∀ x H', J.yld i0 H x H' → g x (wipe σ vs) H' fun σ2 H2 => wipe σ2 vs = wipe σ vs ∧ tt σ2 H2 fun b H3 =>
        if b = true then tk σ2 H3 fun y H4 => tv σ2 H4 fun z H5 => ∃ kvs k, y = kV k ∧ H5 D = some (.dK kvs) ∧ kvs.length < sizeLine ∧ Nx (upd H5 D (.dK (putK kvs k z))) else Nx H3)
theorem dc_walk {J : It} {n : Nat} {G : Hp → Prop} {Y : Nat → Hp → V → Hp → Prop} (wk : Walk J n G Y) {g : TG} {tt : TT} {tk tv : TE} {vs : List Nat} {σ : L2.St} {H1 : Hp} {D : Addr} {Qd : Hp → Prop} (Pv : Nat → Hp → Prop)
    (h0 : Pv 0 (upd H1 D (.dK []))) (hG : ∀ i H, i ≤ n → Pv i H → G H)
    (hs : ∀ i x H H', i < n → Pv i H → Y i H x H' → g x (wipe σ vs) H' fun σ2 H2 => wipe σ2 vs = wipe σ vs ∧ tt σ2 H2 fun b H3 =>
        if b = true then tk σ2 H3 fun y H4 => tv σ2 H4 fun z H5 => ∃ kvs k, y = kV k ∧ H5 D = some (.dK kvs) ∧ kvs.length < sizeLine ∧ Pv (i + 1) (upd H5 D (.dK (putK kvs k z))) else Pv (i + 1) H3)
    (hd : ∀ H, Pv n H → Qd H) : DcW J g tt tk tv vs σ H1 D Qd := by
  refine ⟨fun i m H => m + i = n ∧ Pv i H, ⟨n, rfl, h0⟩, ?_⟩
  rintro i m H ⟨e, p⟩
  have q := hG i H (by omega) p
  by_cases hlt : i < n
  · exact .inr ⟨wk.goes i H hlt q, Pv (i + 1), fun H' p' => ⟨m - 1, by omega, by omega, p'⟩, fun x H' y => hs i x H H' hlt p (wk.yields i H x H' hlt q y)⟩
  · have ei : i = n := by omega
    subst ei
    exact .inl ⟨wk.stops H q, hd H p⟩
/-! the same rules where a comprehension's own context stands -/
section
variable {X : Cx} {K : PySem.W.Frag}
theorem cr_sumK (h : X.K = K) (hc : X.calm = true) : CallR X (.builtin "sum") (rSum K) := h ▸ cr_sum hc
theorem pe_fldK {e : Expr} {f : Str} {pos : Pos} {ta : TE} (h : X.K = K) (he : PE X e ta) (hb : attributeBase e f X.env (eval e X.env) = eval e X.env) : PE X (.Attribute e f pos) (tFld K ta f) := h ▸ pe_fld he hb
theorem pi_zipK {e e2 : Expr} {ta : TA} {p pos tpos : Pos} {elts : List Expr} {kk : Nat} (h : X.K = K) (hg : Gl X "zip") (hm : X.mg "zip" = none) (ha : PA X [e, e2] ta) (hs : starEach [e, e2] X.env = (false, eval e X.env) :: starEach [e2] X.env := by rfl)
    (hpl : (backTo pos (starEach [e2] X.env)).any (·.1) = false := by rfl) : PI X (.Tuple elts kk tpos) (.Call (.Name "zip" p) [e, e2] [] pos) (iZip K ta) := h ▸ pi_zip hg hm ha hs hpl
theorem pi_zipMK {e e2 : Expr} {ta : TA} {p pos tpos : Pos} {elts : List Expr} {kk : Nat} (h : X.K = K) (hg : Gl X "zip") (hm : X.mg "zip" = none) (ha : PA X [e, e2] ta) (hs : starEach [e, e2] X.env = (false, eval e X.env) :: starEach [e2] X.env := by rfl)
    (hpl : (backTo pos (starEach [e2] X.env)).any (·.1) = false := by rfl) : PI X (.Tuple elts kk tpos) (.Call (.Name "zip" p) [e, e2] [] pos) (iZipM K ta) := h ▸ pi_zipM hg hm ha hs hpl
theorem pg_tupK {pos : Pos} {es : List Expr} {k : Nat} {t : TGs} {n : Nat} (hK : X.K = K) (hc : X.calm = true) (h : PGs X es t) (h1 : (assignEach es X.env).length = n := by rfl) (h2 : (assignEach es X.env).findIdx? (fun x => x.1) = none := by rfl) :
    PG X (.Tuple es k pos) (gTup K n t) := hK ▸ pg_tup hc h h1 h2
end
end My
/-! xs.remove(x), x at a place of xs, no item ahead of it equal to it. -/
namespace My
open PySem PySem.Spec L2
open PyProof.Rows hiding St
theorem plain_rm : plainId "list.remove.loop" = true := by decide +kernel
theorem rm_loop (l : Addr) (items : Array Value) (n : Nat) (x : Value) (j : Nat) (hj : j < items.size) (small : items.size ≤ sizeLine) :
    ∀ k i, j - i = k → i ≤ j → Meets (Builtin.«list.remove.loop» ⟨[.ref l, x, rawInt (i : Int)], []⟩) (fun A R s => s.heap.get? l = some { cls := .type "list", data := .seq items n } ∧
      (∀ m (hm : m < items.size), m < j → SeqAt.EqAt A.in1 s items[m] x false) ∧ SeqAt.EqAt A.in1 s items[j] x true ∧ R (.ok (.ret .none)) { s with heap := s.heap.update l (Obj.mapSeq fun xs => xs.eraseIdxIfInBounds j) }) := by
  intro k
  induction k with
  | zero =>
    intro i hk hi prog w A R s ⟨hl, he, ej, h⟩
    obtain rfl : i = j := by omega
    have g : items[(i : Int).toNat]? = some items[i] := by
      rw [Int.toNat_natCast]
      exact Array.getElem?_eq_getElem hj
    show wpAny _ _ (Builtin.List.listItems (.ref l) >>= _) _ _ _
    refine wpAny_bind ?_
    unfold Builtin.List.listItems seqItems?
    refine wpAny_bind (wpAny_bind (wpAny_load' hl ?_))
    refine wpAny_pure (wpAny_pure ?_)
    rw [g]
    show wpAny _ _ (eqBool items[i] x >>= _) _ _ _
    refine wpAny_bind (ej prog w _ _ ?_)
    show wpAny _ _ (Builtin.List.listUpdate (.ref l) _ >>= _) _ _ _
    refine wpAny_bind ?_
    unfold Builtin.List.listUpdate updateSeq
    refine wpAny_bind (wpAny_load' hl ?_)
    show wpAny _ _ (update l _ >>= _) _ _ _
    refine wpAny_bind (wpAny_update hl ?_)
    have g2 : (s.heap.update l (Obj.mapSeq fun x => x.eraseIdxIfInBounds (i : Int).toNat)).get? l = some (Obj.mapSeq (fun x => x.eraseIdxIfInBounds (i : Int).toNat) { cls := .type "list", data := .seq items n }) := by
      refine Heap.get?_update_self _ hl ?_
      rfl
    refine wpAny_lookBehind g2 ?_ (wpAny_pure h)
    show Data.pastItsLine (.seq _ _) = none
    unfold Data.pastItsLine
    refine if_neg ?_
    have e : (items.eraseIdxIfInBounds (i : Int).toNat).size ≤ items.size := by
      rw [Int.toNat_natCast]
      unfold Array.eraseIdxIfInBounds
      rw [dif_pos hj, Array.size_eraseIdx]
      omega
    show ¬ (items.eraseIdxIfInBounds (i : Int).toNat).size > sizeLine + 1
    omega
  | succ k ih =>
    intro i hk hi prog w A R s ⟨hl, he, ej, h⟩
    have il : i < items.size := by omega
    have g : items[(i : Int).toNat]? = some items[i] := by
      rw [Int.toNat_natCast]
      exact Array.getElem?_eq_getElem il
    show wpAny _ _ (Builtin.List.listItems (.ref l) >>= _) _ _ _
    refine wpAny_bind ?_
    unfold Builtin.List.listItems seqItems?
    refine wpAny_bind (wpAny_bind (wpAny_load' hl ?_))
    refine wpAny_pure (wpAny_pure ?_)
    rw [g]
    show wpAny _ _ (eqBool items[i] x >>= _) _ _ _
    refine wpAny_bind (he i il (by omega) prog w _ _ ?_)
    refine wpAny_pure ⟨plainId_quiet plain_rm _, codeAny_builtin MeetsSeq.entry_remove_loop ?_⟩
    rw [Around.under_plainId plain_rm]
    exact ih (i + 1) (by omega) (by omega) prog w A R s ⟨hl, he, ej, h⟩
theorem list_rm (l : Addr) (items : Array Value) (n : Nat) (x : Value) (j : Nat) (hj : j < items.size) (small : items.size ≤ sizeLine) :
    Meets (Builtin.«list.remove» ⟨[.ref l, x], []⟩) (fun A R s => s.heap.get? l = some { cls := .type "list", data := .seq items n } ∧
      (∀ m (hm : m < items.size), m < j → SeqAt.EqAt A.in1 s items[m] x false) ∧ SeqAt.EqAt A.in1 s items[j] x true ∧ R (.ok (.ret .none)) { s with heap := s.heap.update l (Obj.mapSeq fun xs => xs.eraseIdxIfInBounds j) }) := by
  refine MeetsSeq.meets_again (id' := "list.remove.loop") (args' := ⟨[.ref l, x, rawInt ((0 : Nat) : Int)], []⟩) ?_ plain_rm MeetsSeq.entry_remove_loop (rm_loop l items n x j hj small j 0 (by omega) (Nat.zero_le _))
  rfl
/-- xs.remove(x): x is at place j -/
def rRemD (K : PySem.W.Frag) : V → List V → Hp → VK → Prop := fun x xs H Q => ∃ (l : Addr) (ys : List V) (a j : Nat) (dx : PyData), x = .ref l ∧ xs = [.ref a] ∧ H l = some (.lst ys) ∧ ys[j]? = some (.ref a) ∧ Dp K H (.ref a) dx ∧ PyData.canLay0 dx = true ∧ dx.depth ≤ 8 ∧
  (∀ m z, m < j → ys[m]? = some z → ∃ d, Dp K H z d ∧ PyData.canLay0 d = true ∧ PyData.eqv d dx = false) ∧ Q .non (upd H l (.lst (ys.eraseIdx j)))
theorem mt_removeD {X : Cx} (hu : X.A.units + 64 < cLine) : MtM X "list.remove" (rRemD X.K) := by
  rintro pins s σ H x xs v us Q I rx rxs ⟨l, ys, a, j, dx, rfl, rfl, hl, hj, hdx, ly, dp, hm, q⟩
  obtain rfl : v = Value.ref l := rx
  cases rxs with
  | cons r0 r1 =>
    cases r1
    rename_i ux
    obtain rfl : ux = Value.ref a := r0
    obtain ⟨hsz, its, n, rv, hlen, hget⟩ := I.lstM hl
    have jl : j < ys.length := (List.getElem?_eq_some_iff.mp hj).1
    have jl2 : j < its.toArray.size := by
      rw [List.size_toArray]
      omega
    obtain ⟨as, rdx⟩ := Dp.reads I dx (.ref a) (.ref a) hdx rfl
    have un : X.A.in1.in1.units + min dx.depth dx.depth < cLine := by
      have : X.A.in1.in1.units ≤ X.A.units + 2 := Nat.le_refl _
      omega
    refine call_meets PySem.F.slot_list_remove ⟨_, hget, rfl⟩ PySem.F.entry_list_remove (PySem.F.args_list_remove_2 _ _) (list_rm l its.toArray n (.ref a) j jl2 (by rw [List.size_toArray]; omega)) ⟨hget, fun m hm2 mj => ?_, ?_, ?_⟩
    · have ml : m < its.length := by
        rw [List.size_toArray] at hm2
        exact hm2
      have mys : ys[m]? = some (ys[m]'(by omega)) := List.getElem?_eq_getElem _
      obtain ⟨u, hu, ru⟩ := rv.get mys
      have eu : its.toArray[m] = u := by
        have h2 := (List.getElem?_eq_some_iff.mp hu).2
        simpa using h2
      rw [eu]
      obtain ⟨d, hd, ld, ne⟩ := hm m _ mj mys
      obtain ⟨bs, rd⟩ := Dp.reads I d _ u hd ru
      rw [← ne]
      refine SeqAt.eqAt_reads d dx _ s u (.ref a) bs as rd rdx ld ly ?_
      have : X.A.in1.in1.units ≤ X.A.units + 2 := Nat.le_refl _
      have h3 : min d.depth dx.depth ≤ dx.depth := Nat.min_le_right _ _
      show X.A.in1.units + _ < _
      have h4 : X.A.in1.units ≤ X.A.units + 1 := Nat.le_refl _
      omega
    · obtain ⟨u, hu, ru⟩ := rv.get hj
      obtain rfl : u = Value.ref a := ru
      have eu : its.toArray[j] = Value.ref a := by
        have h2 := (List.getElem?_eq_some_iff.mp hu).2
        simpa using h2
      rw [eu]
      exact SeqAt.EqAt.same _
    · refine ⟨.non, _, I.lset (t' := s.toks) hl hget (List.eraseIdxIfInBounds_toArray its j) (rv.eraseIdx j) ?_, rfl, q⟩
      exact Nat.le_trans (List.length_eraseIdx_le ys j) hsz
end My
/-! Ranks of lists of rows: by clearing columns. -/
namespace My
namespace Lin
/-- made of those that P tells -/
inductive Cl (p : Int) (w : Nat) (P : Vec → Prop) : Vec → Prop
  | mem {x : Vec} : P x → Cl p w P x
  | zero {x : Vec} : (∀ k, k < w → p ∣ x k) → Cl p w P x
  | add {x y : Vec} : Cl p w P x → Cl p w P y → Cl p w P fun k => x k + y k
  | smul {x : Vec} (b : Int) : Cl p w P x → Cl p w P fun k => b * x k
  | unmul {x : Vec} {l : Int} : ¬ p ∣ l → (Cl p w P fun k => l * x k) → Cl p w P x
  | cong {x y : Vec} : Cl p w P x → (∀ k, k < w → p ∣ y k - x k) → Cl p w P y
section
variable {p : Int} {w n n' : Nat} {P P' : Vec → Prop} {u : Nat → Vec} {x : Vec}
theorem Cl.span (D : Dom p) (h : Cl p w P x) (k : ∀ y, P y → Span p w n u y) : Span p w n u x := by
  induction h with
  | mem h => exact k _ h
  | zero h => exact Span.zero D h
  | add _ _ h1 h2 => exact h1.add D h2
  | smul b _ h => exact h.smul D b
  | unmul hl _ h => exact Span.of_mul D hl h
  | cong _ e h => exact h.cong D e
theorem Cl.cl (h : Cl p w P x) (k : ∀ y, P y → Cl p w P' y) : Cl p w P' x := by
  induction h with
  | mem h => exact k _ h
  | zero h => exact .zero h
  | add _ _ h1 h2 => exact .add h1 h2
  | smul b _ h => exact .smul b h
  | unmul hl _ h => exact .unmul hl h
  | cong _ e h => exact .cong h e
theorem Cl.sub {k : Nat} (D : Dom p) (hk : k < w) (h : Cl p w P x) (z : ∀ y, P y → p ∣ y k) : p ∣ x k := by
  induction h with
  | mem h => exact z _ h
  | zero h => exact h k hk
  | add _ _ h1 h2 => exact Int.dvd_add h1 h2
  | smul b _ h => exact Int.dvd_mul_of_dvd_right h
  | unmul hl _ h => exact D.can hl h
  | @cong x y _ e h =>
    have := Int.dvd_add (e k hk) h
    have e2 : y k - x k + x k = y k := by omega
    rw [e2] at this
    exact this
theorem Cl.sum {m : Nat} {v : Nat → Vec} {a : Nat → Int} (h : ∀ i, i < m → Cl p w P (v i)) : Cl p w P fun k => S m fun i => a i * v i k := by
  induction m with
  | zero => exact .zero fun k _ => Int.dvd_zero p
  | succ m ih => exact .add (ih fun i hi => h i (Nat.lt_succ_of_lt hi)) (.smul _ (h m (Nat.lt_succ_self m)))
theorem Span.toCl {m : Nat} {v : Nat → Vec} (h : Span p w m v x) (k : ∀ i, i < m → Cl p w P (v i)) : Cl p w P x := by
  obtain ⟨l, a, hl, e⟩ := h
  exact .unmul hl (.cong (Cl.sum (a := a) k) e)
/-- n is the rank of those that P tells -/
def RankOf (p : Int) (w : Nat) (P : Vec → Prop) (n : Nat) : Prop := ∃ u : Nat → Vec, Indep p w n u ∧ (∀ i, i < n → Cl p w P (u i)) ∧ ∀ x, P x → Span p w n u x
theorem RankOf.le (D : Dom p) (h : RankOf p w P n) (h' : RankOf p w P' n') (sub : ∀ x, P x → Cl p w P' x) : n ≤ n' := by
  obtain ⟨u, h1, h2, _⟩ := h
  obtain ⟨u', _, _, k3⟩ := h'
  exact steinitz D h1 fun i hi => ((h2 i hi).cl sub).span D k3
theorem RankOf.same (D : Dom p) (h : RankOf p w P n) (h' : RankOf p w P' n') (s1 : ∀ x, P x → Cl p w P' x) (s2 : ∀ x, P' x → Cl p w P x) : n = n' :=
  Nat.le_antisymm (h.le D h' s1) (h'.le D h s2)
end
def vec (ns : List Int) : Vec := fun k => ns.getD k 0
/-- the rows of a list -/
def In (rows : List (List Int)) (x : Vec) : Prop := ∃ r ∈ rows, x = vec r
/-! ### clearing -/
def clr (red : Int → Int) (pl : Nat) (h row : List Int) : List Int := List.zipWith (fun x y => red (h.getD pl 0 * x - row.getD pl 0 * y)) row h
def heads (pl : Nat) (left : List (List Int)) : List (List Int) := left.filter fun r => decide (r.getD pl 0 ≠ 0)
/-- from place pl on: so many places are left -/
def elim (red : Int → Int) : Nat → Nat → List (List Int) → Nat
  | 0, _, _ => 0
  | m + 1, pl, left => match heads pl left with
    | [] => elim red m (pl + 1) left
    | h :: _ => elim red m (pl + 1) ((left.erase h).map (clr red pl h)) + 1
theorem clr_at {red : Int → Int} {pl : Nat} {h row : List Int} {w k : Nat} (l1 : h.length = w) (l2 : row.length = w) (hk : k < w) : vec (clr red pl h row) k = red (h.getD pl 0 * row.getD k 0 - row.getD pl 0 * h.getD k 0) := by
  unfold vec clr
  rw [List.getD_eq_getElem?_getD, List.getElem?_zipWith, List.getElem?_eq_getElem (by omega), List.getElem?_eq_getElem (by omega)]
  simp only [List.getD_eq_getElem?_getD]
  rw [List.getElem?_eq_getElem (show k < row.length by omega), List.getElem?_eq_getElem (show k < h.length by omega)]
  rfl
/-- red tells what is nothing -/
structure Red (p : Int) (red : Int → Int) : Prop where
  cong : ∀ x, p ∣ red x - x
  zero : ∀ x, p ∣ red x → red x = 0
def Told (p : Int) (w : Nat) (rows : List (List Int)) : Prop := ∀ r ∈ rows, r.length = w ∧ ∀ x ∈ r, p ∣ x → x = 0
theorem Told.at {p : Int} {w k : Nat} {rows : List (List Int)} {r : List Int} (h : Told p w rows) (hr : r ∈ rows) (z : p ∣ r.getD k 0) : r.getD k 0 = 0 := by
  rw [List.getD_eq_getElem?_getD] at z ⊢
  cases e : r[k]? with
  | none => rfl
  | some x =>
    rw [e] at z
    exact (h r hr).2 x (List.mem_of_getElem? e) z
theorem elim_rank {p : Int} {w : Nat} {red : Int → Int} (D : Dom p) (R : Red p red) : ∀ (m pl : Nat) (left : List (List Int)), pl + m = w → Told p w left → (∀ r ∈ left, ∀ k, k < pl → r.getD k 0 = 0) → RankOf p w (In left) (elim red m pl left)
  | 0, pl, left, e, hT, hz => by
    refine ⟨fun _ _ => 0, fun a _ i hi => absurd hi (Nat.not_lt_zero _), fun i hi => absurd hi (Nat.not_lt_zero _), ?_⟩
    rintro x ⟨r, hr, rfl⟩
    exact Span.zero D fun k hk => by
      show p ∣ r.getD k 0
      rw [hz r hr k (by omega)]
      exact Int.dvd_zero p
  | m + 1, pl, left, e, hT, hz => by
    have epl : pl < w := by omega
    unfold elim
    cases hh : heads pl left with
    | nil =>
      have nz : ∀ r ∈ left, r.getD pl 0 = 0 := by
        intro r hr
        apply Classical.byContradiction
        intro hn
        have : r ∈ heads pl left := List.mem_filter.mpr ⟨hr, decide_eq_true hn⟩
        rw [hh] at this
        cases this
      refine elim_rank D R m (pl + 1) left (by omega) hT fun r hr k hk => ?_
      by_cases z : k = pl
      · rw [z]
        exact nz r hr
      · exact hz r hr k (by omega)
    | cons h t =>
      have hm : h ∈ left ∧ h.getD pl 0 ≠ 0 := by
        have : h ∈ heads pl left := by
          rw [hh]
          exact .head _
        have := List.mem_filter.mp this
        exact ⟨this.1, of_decide_eq_true this.2⟩
      show RankOf p w (In left) (elim red m (pl + 1) ((left.erase h).map (clr red pl h)) + 1)
      have lh := (hT h hm.1).1
      have hnz : ¬ p ∣ h.getD pl 0 := fun z => hm.2 (hT.at hm.1 z)
      have hT' : Told p w ((left.erase h).map (clr red pl h)) := by
        intro r hr
        obtain ⟨row, hrow, rfl⟩ := List.mem_map.mp hr
        have lr := (hT row (List.mem_of_mem_erase hrow)).1
        refine ⟨by unfold clr; rw [List.length_zipWith]; omega, fun x hx hz2 => ?_⟩
        unfold clr at hx
        obtain ⟨i, hi⟩ := List.mem_iff_getElem?.mp hx
        rw [List.getElem?_zipWith] at hi
        cases e1 : row[i]? with
        | none => rw [e1] at hi; cases hi
        | some x1 => cases e2 : h[i]? with
          | none => rw [e1, e2] at hi; cases hi
          | some x2 =>
            rw [e1, e2] at hi
            cases hi
            exact R.zero _ hz2
      have hz' : ∀ r ∈ (left.erase h).map (clr red pl h), ∀ k, k < pl + 1 → r.getD k 0 = 0 := by
        intro r hr k hk
        obtain ⟨row, hrow, rfl⟩ := List.mem_map.mp hr
        have hrow' := List.mem_of_mem_erase hrow
        have lr := (hT row hrow').1
        refine hT'.at hr ?_
        have := clr_at (red := red) (pl := pl) lh lr (show k < w by omega)
        show p ∣ vec (clr red pl h row) k
        rw [this]
        have c := R.cong (h.getD pl 0 * row.getD k 0 - row.getD pl 0 * h.getD k 0)
        have z : h.getD pl 0 * row.getD k 0 - row.getD pl 0 * h.getD k 0 = 0 := by
          by_cases z : k = pl
          · rw [z, Int.mul_comm, Int.sub_self]
          · rw [hz row hrow' k (by omega), hz h hm.1 k (by omega)]
            simp
        rw [z, Int.sub_zero] at c
        rw [z]
        exact c
      obtain ⟨u, i1, i2, i3⟩ := elim_rank D R m (pl + 1) ((left.erase h).map (clr red pl h)) (by omega) hT' hz'
      generalize elim red m (pl + 1) ((left.erase h).map (clr red pl h)) = n at *
      have upl : ∀ i, i < n → p ∣ u i pl := fun i hi => Cl.sub D epl (i2 i hi) fun y ⟨r, hr, ey⟩ => by
        rw [ey]
        show p ∣ r.getD pl 0
        rw [hz' r hr pl (Nat.lt_succ_self _)]
        exact Int.dvd_zero p
      have cin : ∀ y, In ((left.erase h).map (clr red pl h)) y → Cl p w (In left) y := by
        rintro y ⟨r, hr, rfl⟩
        obtain ⟨row, hrow, rfl⟩ := List.mem_map.mp hr
        have hrow' := List.mem_of_mem_erase hrow
        have lr := (hT row hrow').1
        refine .cong (x := fun k => h.getD pl 0 * vec row k + (- row.getD pl 0) * vec h k) (.add (.smul _ (.mem ⟨row, hrow', rfl⟩)) (.smul _ (.mem ⟨h, hm.1, rfl⟩))) fun k hk => ?_
        rw [clr_at lh lr hk]
        have c := R.cong (h.getD pl 0 * row.getD k 0 - row.getD pl 0 * h.getD k 0)
        have e2 : h.getD pl 0 * vec row k + (- row.getD pl 0) * vec h k = h.getD pl 0 * row.getD k 0 - row.getD pl 0 * h.getD k 0 := by
          unfold vec
          grind
        rw [e2]
        exact c
      refine ⟨fun i => if i = n then vec h else u i, fun a ha i hi => ?_, fun i hi => ?_, ?_⟩
      · have split : ∀ k, S (n + 1) (fun i => a i * (if i = n then vec h else u i) k) = S n (fun i => a i * u i k) + a n * vec h k := by
          intro k
          show S n _ + a n * (if n = n then vec h else u n) k = _
          rw [if_pos rfl]
          congr 1
          exact S_congr fun i hi => by rw [if_neg (by omega)]
        have an : p ∣ a n := by
          have := ha pl epl
          rw [show (S (n + 1) fun i => a i * (fun i => if i = n then vec h else u i) i pl) = _ from split pl] at this
          have z1 : p ∣ S n fun i => a i * u i pl := S_dvd fun i hi => Int.dvd_mul_of_dvd_right (upl i hi)
          have z2 : p ∣ a n * vec h pl := by
            have := Int.dvd_sub this z1
            have e3 : S n (fun i => a i * u i pl) + a n * vec h pl - S n (fun i => a i * u i pl) = a n * vec h pl := by omega
            rw [e3] at this
            exact this
          exact (D.mul z2).resolve_right hnz
        by_cases z : i = n
        · rw [z]
          exact an
        · refine i1 a (fun k hk => ?_) i (by omega)
          have := ha k hk
          rw [show (S (n + 1) fun i => a i * (fun i => if i = n then vec h else u i) i k) = _ from split k] at this
          have z2 := Int.dvd_sub this (Int.dvd_mul_of_dvd_left (c := vec h k) an)
          have e3 : S n (fun i => a i * u i k) + a n * vec h k - a n * vec h k = S n (fun i => a i * u i k) := by omega
          rw [e3] at z2
          exact z2
      · by_cases z : i = n
        · show Cl p w (In left) (if i = n then vec h else u i)
          rw [if_pos z]
          exact .mem ⟨h, hm.1, rfl⟩
        · show Cl p w (In left) (if i = n then vec h else u i)
          rw [if_neg z]
          exact (i2 i (by omega)).cl cin
      · have hh2 : Span p w (n + 1) (fun i => if i = n then vec h else u i) (vec h) := by
          have := Span.mem (n := n + 1) (w := w) (v := fun i => if i = n then vec h else u i) D (Nat.lt_succ_self n)
          simpa using this
        have hu : ∀ x, Span p w n u x → Span p w (n + 1) (fun i => if i = n then vec h else u i) x := fun x hx => hx.trans D fun i hi => by
          have := Span.mem (n := n + 1) (w := w) (v := fun i => if i = n then vec h else u i) D (Nat.lt_succ_of_lt hi)
          simpa [Nat.ne_of_lt hi] using this
        rintro x ⟨r, hr, rfl⟩
        by_cases z : r = h
        · rw [z]
          exact hh2
        · have hre : r ∈ left.erase h := (List.mem_erase_of_ne z).mpr hr
          have lr := (hT r hr).1
          have s1 := hu _ (i3 (vec (clr red pl h r)) ⟨_, List.mem_map.mpr ⟨r, hre, rfl⟩, rfl⟩)
          refine Span.of_mul D hnz ((s1.add D (hh2.smul D (r.getD pl 0))).cong D fun k hk => ?_)
          rw [clr_at lh lr hk]
          have c := R.cong (h.getD pl 0 * r.getD k 0 - r.getD pl 0 * h.getD k 0)
          have e3 : h.getD pl 0 * vec r k - (red (h.getD pl 0 * r.getD k 0 - r.getD pl 0 * h.getD k 0) + r.getD pl 0 * vec h k) = -(red (h.getD pl 0 * r.getD k 0 - r.getD pl 0 * h.getD k 0) - (h.getD pl 0 * r.getD k 0 - r.getD pl 0 * h.getD k 0)) := by
            unfold vec
            grind
          rw [e3]
          exact (Int.dvd_neg).mpr c
end Lin
end My
/-! set(xs), xs a list of ints. -/
namespace My
open PySem PySem.Spec L2
open PyProof.Rows hiding St
theorem init_set {P : Program} {w : World} {A : Around} {s : Shared} {R : Result → Shared → Prop} {l a : Addr} {items : Array Value} (ns : List Int) (hh : A.handled = none) (hl : s.heap.IsList l items) (hi : IntsAre items.toList ns) (hn : ns.length + 1 < scanBound)
    (ha : s.heap.get? a = some { cls := .type "set", data := .set #[] 0 (SetTable.fresh 0 0 !w.params.followText "set-order") })
    (h : ∀ s' c, SetR w s'.heap a (fun j => decide (j ∈ ns)) c → c ≤ ns.length → (∀ b o, b ≠ a → s.heap.get? b = some o → s'.heap.get? b = some o) → s'.gens = s.gens → s'.drawn = s.drawn → s'.os = s.os → R (.ok (.ret .none)) s') :
    codeAny (model P w) A (.call (.builtin "set.__init__") ⟨[.ref a, .ref l], []⟩) R s := by
  obtain ⟨hp, g, d, tk, os⟩ := s
  have ty : Shared.TypeIs ⟨hp, g, d, tk, os⟩ (.ref a) "set" := ⟨_, ha, rfl⟩
  have tl : Shared.TypeIs ⟨hp, g, d, tk, os⟩ (.ref l) "list" := by
    obtain ⟨o, ho, hc, _⟩ := hl
    exact ⟨o, ho, hc⟩
  refine codeAny_call_builtin (by decide +kernel) PySem.F.entry_set_init (check_set_init_1 ty ?_)
  have fits : ((SetTable.fresh 0 0 !w.params.followText "set-order").place.size != (#[] : Array (Int × Value)).size || decide ((SetTable.fresh 0 0 !w.params.followText "set-order").fill > (SetTable.fresh 0 0 !w.params.followText "set-order").mask)) = false := by
    cases w.params.followText "set-order" <;> rfl
  have fill0 : ((SetTable.fresh 0 0 !w.params.followText "set-order").fill != 0) = false := by
    cases w.params.followText "set-order" <;> rfl
  unfold Builtin.«set.__init__»
  have s1 := PySem.F.sub_list_set
  have s2 := PySem.F.sub_list_frozenset
  wp_walk using wpAny_load' ha, wpAny_pyIter_list hl
  have al : a ≠ l := fun e => by
    obtain ⟨o, ho, hc, _⟩ := hl
    rw [← e] at ho
    have e2 := Option.some.inj (ha.symm.trans ho)
    rw [← e2] at hc
    have e3 : ("set" : String) = "list" := by
      injection hc
    exact absurd e3 (by decide)
  have lsz : l < hp.objs.size := by
    obtain ⟨o, ho, _⟩ := hl
    exact Heap.lt_size ho
  have asz : a < hp.objs.size := Heap.lt_size ha
  have len : items.size = ns.length := by
    rw [← hi.length, Array.length_toList]
  refine L2.set_update_ints (n := items.size) ((Walks.list (prog := P) (w := w) (A := A.in1.in1) hh hp.objs.size l (Nat.ne_of_lt lsz) items).toS) a (by simp [al, Nat.ne_of_lt asz]) ns len hn (fun i v hv => ?_) items.size 0 _ (Nat.sub_zero _) (Nat.zero_le _) ⟨⟨_, Heap.get?_push_size _ rfl, rfl, rfl⟩, hl.push _⟩ ⟨0, Nat.le_refl _, L2.setR_new_at (Heap.get?_push_of_some _ ha)⟩ fun s' c mv hc hS => ?_
  · have h2 : items.toList[i]? = some v := by
      rw [Array.getElem?_toList]
      exact hv
    obtain ⟨t, e2⟩ := hi.int_at i v h2
    have il : i < ns.length := by
      have := (List.getElem?_eq_some_iff.mp h2).1
      rw [hi.length] at this
      exact this
    refine ⟨ns.getD i 0, t, ?_, e2⟩
    rw [List.getD_eq_getElem?_getD, List.getElem?_eq_getElem il]
    rfl
  · refine wpAny_pure (wpAny_pure ?_)
    refine h s' c hS (by omega) (fun b o nb q => mv.heap b o ?_ (Heap.get?_push_of_some _ q)) mv.gens mv.drawn mv.os
    have := Heap.lt_size q
    simp [nb, Nat.ne_of_lt this]
theorem call_set_lstI {P : Program} {w : World} {A : Around} {E : Value → Shared → Prop} {s : Shared} {l : Addr} {items : Array Value} (ns : List Int) {Q : Value → Shared → Prop} (hh : A.handled = none) (hl : s.heap.IsList l items) (hi : IntsAre items.toList ns) (hn : ns.length + 1 < scanBound)
    (h : ∀ s' c, SetR w s'.heap s.heap.objs.size (fun j => decide (j ∈ ns)) c → c ≤ ns.length → (∀ b o, s.heap.get? b = some o → s'.heap.get? b = some o) → s'.gens = s.gens → s'.drawn = s.drawn → s'.os = s.os → Q (.ref s.heap.objs.size) s') :
    wpAny (model P w) A (call (.type "set") [.ref l]) Q E s := by
  obtain ⟨hp, g, d, tk, os⟩ := s
  have called := PySem.F.called_set
  have c1 := called.mro
  have c2 := called.made
  have c3 := called.sub
  have c4 := called.notType
  have c5 := called.canCreate
  have c6 := PySem.F.typeCall_set_1 (.ref l)
  refine wpAny_call (codeAny_of_tree ?_)
  show wpAny _ _ (pure (Fin.again (.builtin "type.__call__" ⟨[.type "set", .ref l], []⟩))) _ _ _
  refine wpAny_pure ⟨Code.quiet_builtin _ (by decide +kernel), codeAny_builtin PySem.F.entry_type_call ?_⟩
  rw [Around.under_plain (weight_type_call_type _ _ _) rfl]
  unfold Builtin.«type.__call__»
  obtain ⟨c0, tl0, c1⟩ := c1
  wp_walk using wpAny_load' hl
  refine codeAny_mono (L2.code_set_led1 (Q₁ := fun v s1 => v = .ref hp.objs.size ∧ s1 = ⟨hp.push { cls := .type "set", data := .set #[] 0 (SetTable.fresh 0 0 !w.params.followText "set-order") }, g, d, tk, os⟩) (E := fun _ _ => False) (.ref l) ⟨rfl, rfl⟩) fun r s' hr => ?_
  match r, hr with
  | .ok (.ret v), hr =>
    obtain ⟨rfl, rfl⟩ := hr
    have hget := Heap.get?_push_size hp (o := { cls := .type "set", data := .set #[] 0 (SetTable.fresh 0 0 !w.params.followText "set-order") }) rfl
    have ty : Shared.TypeIs ⟨hp.push { cls := .type "set", data := .set #[] 0 (SetTable.fresh 0 0 !w.params.followText "set-order") }, g, d, tk, os⟩ (.ref hp.objs.size) "set" := ⟨_, hget, rfl⟩
    show wpAny _ _ _ _ _ _
    refine wpAny_bind (wpAny_isInstance ty c3 ?_)
    refine wpAny_bind (wpAny_holding (wpAny_callSpecial?_slot (name := Str.ofString "__init__") ty called.init (wpAny_call (init_set ns hh (hl.push _) hi hn hget fun s' c hS hc hk h1 h2 h3 => ?_))))
    exact wpAny_pure (h s' c hS hc (fun b o q => hk b o (Nat.ne_of_lt (Heap.lt_size q)) (Heap.get?_push_of_some _ q)) h1 h2 h3)
/-- set(xs) -/
def rSetOf (K : PySem.W.Frag) (w : World) : List V → Hp → VK → Prop := fun xs H Q => ∃ (l : Addr) (ns : List Int), xs = [.ref l] ∧ SqL K H l (ns.map V.int) ∧ ns.length < 64 ∧ ∀ (p : Addr) (c : Nat), c ≤ ns.length → H p = none → Q (.ref p) (upd H p (SetO w p (fun j => decide (j ∈ ns)) c))
theorem cr_setL {X : Cx} (hc : X.calm = true) : CallR X (.type "set") (rSetOf X.K X.w) := by
  rintro pins s σ H xs us Q I rx ⟨l, ns, rfl, hl, hn, q⟩
  cases rx with
  | cons r0 r1 =>
    cases r1
    cases r0
    obtain ⟨its, rv, pl, hz⟩ := I.list hl
    have hi : IntsAre its.toArray.toList ns := by
      have := ints_of_vals rv
      simpa using this
    have sb : (64 : Nat) + 1 < scanBound := by decide
    refine call_set_lstI ns (show X.A.handled = none from I.ok.hd hc) pl.isList hi (by omega) fun s' c hS hcn hk h1 h2 h3 => ?_
    refine ⟨.ref s.heap.objs.size, _, ?_, rfl, q s.heap.objs.size c hcn (I.hok.fresh (Nat.le_refl _))⟩
    obtain ⟨hp', g', d', tk', os'⟩ := s'
    obtain rfl : g' = s.gens := h1
    obtain rfl : d' = s.drawn := h2
    obtain rfl : os' = s.os := h3
    exact I.laid (t' := tk') hk (Nat.le_refl _) (L2.setO_new hS)
theorem cr_setLK {X : Cx} {K : PySem.W.Frag} {w : World} (h : X.K = K) (h2 : X.w = w) (hc : X.calm = true) : CallR X (.type "set") (rSetOf K w) := by
  subst h h2
  exact cr_setL hc
theorem cr_sortedSetK {X : Cx} {w : World} (h2 : X.w = w) (hc : X.calm = true) : CallR X (.builtin "sorted") (rSortedSet w) := by
  subst h2
  exact cr_sortedSet hc
end My

namespace My
open PySem L2
/-! ### a layer of plain values: what a value is, told as a tree; what stands in the slots; who owns what -/
inductive PV where
  | non | bl (b : Bool) | int (i : Int) | str (s : Str) | ty (n : String)
  | lst (xs : List PV) | tup (xs : List PV) | dct (kvs : List (Key × PV)) | set (S : Int → Bool) (n : Nat)
  | tab (f : Int) (nss : List (List Int)) | src | ktup (xs : List PV) | cls
/-- what the source's list holds behind at most n draws -/
def SrcP (n : Nat) (o : HO) : Prop := ∃ (g sd c : Int), o = .lst [.int g, .int sd, .int c] ∧ 0 ≤ sd ∧ sd < 2147483647 ∧ 0 ≤ c ∧ c ≤ (n : Int)
def tellP (f n : Int) : Int := if f = 0 then n else n % f
def ToldP (H : Hp) (f : Int) (ts : List Addr) (nss : List (List Int)) : Prop := Paired (fun t ns => H t = some (.tup ((ns.map (tellP f)).map V.int))) ts nss
/-- the table at p -/
def TabP (C : Addr) (H : Hp) (p : Addr) (f : Int) (nss : List (List Int)) : Prop := ∃ dx t ts, H p = some (.ins C dx [("_field", .int f), ("_rows", .ref t), ("_width", .int (((nss.headD []).length : Nat) : Int))]) ∧ H t = some (.tup (ts.map V.ref)) ∧ ToldP H f ts nss
/-- the constants: the module's part, the world, the class of tables -/
structure Pm where
  K : PySem.W.Frag
  w : World
  C : Addr
  T : List (Addr × Str) := []
/-- what may be written again -/
def Mt (C : Addr) : HO → Prop
  | .tup _ => False
  | .ins D _ _ => D ≠ C
  | _ => True
/-- no code object's table -/
def NoT (u : HO) : Prop := ∀ ps, u ≠ .tbl ps
theorem not_lst {xs : List V} : NoT (.lst xs) := fun _ z => HO.noConfusion z
theorem not_tup {xs : List V} : NoT (.tup xs) := fun _ z => HO.noConfusion z
theorem not_dK {xs : List (Key × V)} : NoT (.dK xs) := fun _ z => HO.noConfusion z
theorem not_ins {C d : Addr} {xs : List (Str × V)} : NoT (.ins C d xs) := fun _ z => HO.noConfusion z
theorem not_set {w : World} {a : Addr} {S : Int → Bool} {n : Nat} : NoT (SetO w a S n) := fun _ z => by unfold SetO at z; cases z
mutual
/-- the value v is the tree x; its lists and dicts stand apart from O -/
inductive Rep (M : Pm) (p : Option Addr) (O : Addr → Prop) (H : Hp) : V → PV → Prop
  | non : Rep M p O H .non .non
  | bl (b : Bool) : Rep M p O H (.bl b) (.bl b)
  | int (i : Int) : Rep M p O H (.int i) (.int i)
  | str (s : Str) : Rep M p O H (.str s) (.str s)
  | ty (n : String) : Rep M p O H (.ty n) (.ty n)
  | lst {a : Addr} {vs : List V} {xs : List PV} (e : H a = some (.lst vs)) (n : ¬ O a) (r : RepL M p O H vs xs) : Rep M p O H (.ref a) (.lst xs)
  | tup {a : Addr} {vs : List V} {xs : List PV} (e : H a = some (.tup vs)) (r : RepL M p O H vs xs) : Rep M p O H (.ref a) (.tup xs)
  | stup {a : Addr} {vs : List V} {xs : List PV} (e : ∀ G, SqT M.K G a vs) (r : RepL M p O H vs xs) : Rep M p O H (.ref a) (.ktup xs)
  | dct {a : Addr} {ks : List (Key × V)} {kvs : List (Key × PV)} (e : H a = some (.dK ks)) (n : ¬ O a) (r : RepK M p O H ks kvs) : Rep M p O H (.ref a) (.dct kvs)
  | set {a : Addr} {S : Int → Bool} {k : Nat} (e : H a = some (SetO M.w a S k)) (n : ¬ O a) : Rep M p O H (.ref a) (.set S k)
  | tab {a : Addr} {f : Int} {nss : List (List Int)} (e : TabP M.C H a f nss) : Rep M p O H (.ref a) (.tab f nss)
  | src {a : Addr} (e : p = some a) : Rep M p O H (.ref a) .src
  | cls : Rep M p O H (.ref M.C) .cls
inductive RepL (M : Pm) (p : Option Addr) (O : Addr → Prop) (H : Hp) : List V → List PV → Prop
  | nil : RepL M p O H [] []
  | cons {v : V} {x : PV} {vs : List V} {xs : List PV} (r : Rep M p O H v x) (t : RepL M p O H vs xs) : RepL M p O H (v :: vs) (x :: xs)
inductive RepK (M : Pm) (p : Option Addr) (O : Addr → Prop) (H : Hp) : List (Key × V) → List (Key × PV) → Prop
  | nil : RepK M p O H [] []
  | cons {k : Key} {v : V} {x : PV} {vs : List (Key × V)} {xs : List (Key × PV)} (r : Rep M p O H v x) (t : RepK M p O H vs xs) : RepK M p O H ((k, v) :: vs) ((k, x) :: xs)
end
section
variable {M : Pm} {p : Option Addr} {O O' : Addr → Prop} {H H' : Hp}
theorem ToldP.keep {f : Int} {ts : List Addr} {nss : List (List Int)} (h : ToldP H f ts nss) (s : ∀ b xs, H b = some (.tup xs) → H' b = some (.tup xs)) : ToldP H' f ts nss := by
  induction h with
  | nil => exact .nil
  | cons r _ ih => exact .cons (s _ _ r) ih
/-- what moves a tree from one heap to the next -/
structure Mv (C : Addr) (O : Addr → Prop) (H : Hp) (O' : Addr → Prop) (H' : Hp) : Prop where
  o : ∀ b u, H b = some u → NoT u → O' b → O b
  h : ∀ b u, H b = some u → NoT u → H' b = some u ∨ (O b ∧ Mt C u)
theorem Mv.refl {C : Addr} : Mv C O H O H := ⟨fun _ _ _ _ h => h, fun _ _ e _ => .inl e⟩
theorem Mv.trans {C : Addr} {O1 O2 O3 : Addr → Prop} {H1 H2 H3 : Hp} (a : Mv C O1 H1 O2 H2) (b : Mv C O2 H2 O3 H3) : Mv C O1 H1 O3 H3 := by
  refine ⟨fun x u e nt h => ?_, fun x u e nt => ?_⟩
  · rcases a.h x u e nt with e2 | m
    · exact a.o x u e nt (b.o x u e2 nt h)
    · exact m.1
  · rcases a.h x u e nt with e2 | m
    · rcases b.h x u e2 nt with e3 | ⟨o2, m⟩
      · exact .inl e3
      · exact .inr ⟨a.o x u e nt o2, m⟩
    · exact .inr m
theorem TabP.mv {a : Addr} {f : Int} {nss : List (List Int)} (h : TabP M.C H a f nss) (m : Mv M.C O H O' H') : TabP M.C H' a f nss := by
  obtain ⟨dx, t, ts, h1, h2, h3⟩ := h
  refine ⟨dx, t, ts, (m.h _ _ h1 not_ins).resolve_right fun z => z.2 rfl, (m.h _ _ h2 not_tup).resolve_right fun z => z.2, h3.keep fun b xs e => (m.h _ _ e not_tup).resolve_right fun z => z.2⟩
mutual
theorem Rep.mv (m : Mv M.C O H O' H') : ∀ {v : V} {x : PV}, Rep M p O H v x → Rep M p O' H' v x
  | _, _, .non => .non
  | _, _, .bl b => .bl b
  | _, _, .int i => .int i
  | _, _, .str s => .str s
  | _, _, .ty n => .ty n
  | _, _, .lst e n r => .lst ((m.h _ _ e not_lst).resolve_right fun z => n z.1) (fun z => n (m.o _ _ e not_lst z)) (RepL.mv m r)
  | _, _, .tup e r => .tup ((m.h _ _ e not_tup).resolve_right fun z => z.2) (RepL.mv m r)
  | _, _, .stup e r => .stup e (RepL.mv m r)
  | _, _, .dct e n r => .dct ((m.h _ _ e not_dK).resolve_right fun z => n z.1) (fun z => n (m.o _ _ e not_dK z)) (RepK.mv m r)
  | _, _, .set e n => .set ((m.h _ _ e not_set).resolve_right fun z => n z.1) (fun z => n (m.o _ _ e not_set z))
  | _, _, .tab e => .tab (e.mv m)
  | _, _, .src e => .src e
  | _, _, .cls => .cls
theorem RepL.mv (m : Mv M.C O H O' H') : ∀ {vs : List V} {xs : List PV}, RepL M p O H vs xs → RepL M p O' H' vs xs
  | _, _, .nil => .nil
  | _, _, .cons r t => .cons (Rep.mv m r) (RepL.mv m t)
theorem RepK.mv (m : Mv M.C O H O' H') : ∀ {vs : List (Key × V)} {xs : List (Key × PV)}, RepK M p O H vs xs → RepK M p O' H' vs xs
  | _, _, .nil => .nil
  | _, _, .cons r t => .cons (Rep.mv m r) (RepK.mv m t)
end
end
end My
namespace My
open PySem L2
/-! ### what stands in the slots -/
inductive POwn where
  | lst (xs : List PV) | dct (kvs : List (Key × PV)) | set (S : Int → Bool) (n : Nat)
def POwn.pv : POwn → PV
  | .lst xs => .lst xs
  | .dct kvs => .dct kvs
  | .set S n => .set S n
inductive PSl where
  | emp | any | sh (x : PV) | own (o : POwn)
/-- an exception: its class, its field -/
structure PX where
  C : Addr
  f : Str
  x : PV
structure PSt where
  n : Nat
  sl : List PSl
  R : PX → Nat → Prop
def PSt.put (st : PSt) (i : Nat) (s : PSl) : PSt := { st with sl := st.sl.set i s }
def PSt.at (st : PSt) (n : Nat) : PSt := { st with n := n }
structure PCx where
  p : Option Addr
  H0 : Hp
  B : Addr → Prop
def PCx.ex (c : PCx) (D : Addr) : PCx := { c with B := fun b => c.B b ∨ b = D }
def NewR (M : Pm) (p : Option Addr) (O : Addr → Prop) (H : Hp) (a : Addr) (ho : HO) : POwn → Prop
  | .lst xs => ∃ vs, ho = .lst vs ∧ RepL M p O H vs xs
  | .dct kvs => ∃ ks, ho = .dK ks ∧ RepK M p O H ks kvs
  | .set S n => ho = SetO M.w a S n
def OwnR (M : Pm) (p : Option Addr) (O : Addr → Prop) (H : Hp) (a : Addr) (o : POwn) : Prop := ∃ ho, H a = some ho ∧ NewR M p O H a ho o
def Av (c : PCx) (A : Nat → Addr) (sl : List PSl) (b : Addr) : Prop := c.B b ∨ ∃ i o, sl[i]? = some (.own o) ∧ A i = b
def SlotR (M : Pm) (p : Option Addr) (O : Addr → Prop) (H : Hp) (a : Addr) : Option V → PSl → Prop
  | v, .emp => v = none
  | _, .any => True
  | v, .sh x => ∃ u, v = some u ∧ Rep M p O H u x
  | v, .own o => v = some (.ref a) ∧ OwnR M p O H a o
def Out (c : PCx) (H : Hp) : Prop := ∀ b u, c.H0 b = some u → c.p ≠ some b → H b = some u
def SrcAt (M : Pm) (c : PCx) (H : Hp) (n : Nat) : Prop := (∀ q, c.p = some q → ∃ o, H q = some o ∧ SrcP n o) ∧ LamX.Tabs M.T H
/-- tables of code stay where lists and dicts alone are written -/
theorem tabs_mv {T : List (Addr × Str)} {H H' : Hp} (t : LamX.Tabs T H) (m : ∀ b u, H b = some u → (∀ xs, u ≠ .lst xs) → (∀ xs, u ≠ .dK xs) → H' b = some u) : LamX.Tabs T H' := by
  intro q hq
  obtain ⟨ps, e, ok, all⟩ := t q hq
  refine ⟨ps, m _ _ e (fun _ z => HO.noConfusion z) (fun _ z => HO.noConfusion z), ok, fun pos cv h => ?_⟩
  obtain ⟨d, e1, e2⟩ := all pos cv h
  exact ⟨d, e1, m _ _ e2 (fun _ z => by unfold LamX.CodeO at z; cases z) (fun _ z => by unfold LamX.CodeO at z; cases z)⟩
def EOk (M : Pm) (E : XK) (c : PCx) (R : PX → Nat → Prop) : Prop := ∀ C f x n d v H', R ⟨C, f, x⟩ n → Out c H' → SrcAt M c H' n → H' d = some (.xd [(f, v)]) → c.H0 d = none → Rep M c.p c.B H' v x → E (.ref C) (some d) H'
/-- the slots are as st tells -/
structure REnv (M : Pm) (E : XK) (c : PCx) (A : Nat → Addr) (st : PSt) (σ : L2.St) (H : Hp) : Prop where
  len : σ.length = st.sl.length
  inj : ∀ i j o o', st.sl[i]? = some (.own o) → st.sl[j]? = some (.own o') → A i = A j → i = j
  fr : ∀ i o, st.sl[i]? = some (.own o) → ¬ c.B (A i) ∧ c.H0 (A i) = none
  out : Out c H
  src : SrcAt M c H st.n
  sb : ∀ q, c.p = some q → c.B q
  mt : ∀ b, c.B b → ∃ u, H b = some u ∧ Mt M.C u ∧ NoT u
  sl : ∀ i s v, st.sl[i]? = some s → σ[i]? = some v → SlotR M c.p (Av c A st.sl) H (A i) v s
  er : EOk M E c st.R
  h0 : ∀ b u, c.H0 b = some u → NoT u
def Keeps (c : PCx) (H H' : Hp) : Prop := ∀ b u, H b = some u → c.p ≠ some b → NoT u → H' b = some u
theorem Keeps.refl {c : PCx} {H : Hp} : Keeps c H H := fun _ _ e _ _ => e
theorem Keeps.trans {c : PCx} {H1 H2 H3 : Hp} (a : Keeps c H1 H2) (b : Keeps c H2 H3) : Keeps c H1 H3 := fun x u e n t => b x u (a x u e n t) n t
theorem Keeps.same {c : PCx} {H H' : Hp} (s : Same H H') : Keeps c H H' := fun x u e _ _ => s x u e
theorem Keeps.new {c : PCx} {H : Hp} {D : Addr} {o : HO} (n : H D = none) : Keeps c H (upd H D o) := .same (same_upd3 n)
def Less (sl' sl : List PSl) : Prop := ∀ (j : Nat) (o : POwn), sl'[j]? = some (PSl.own o) → sl[j]? = some (PSl.own o)
theorem Less.refl {sl : List PSl} : Less sl sl := fun _ _ h => h
theorem Less.trans {s1 s2 s3 : List PSl} (a : Less s1 s2) (b : Less s2 s3) : Less s1 s3 := fun j o h => b j o (a j o h)
theorem Less.av {c : PCx} {A : Nat → Addr} {sl' sl : List PSl} (h : Less sl' sl) {b : Addr} (k : Av c A sl' b) : Av c A sl b := by
  rcases k with k | ⟨i, o, e, z⟩
  · exact .inl k
  · exact .inr ⟨i, o, h i o e, z⟩
def Evo (M : Pm) (c : PCx) (A : Nat → Addr) (sl : List PSl) (H : Hp) (A' : Nat → Addr) (sl' : List PSl) (H' : Hp) : Prop := Mv M.C (Av c A sl) H (Av c A' sl') H'
section
variable {M : Pm} {E : XK} {c : PCx} {A : Nat → Addr} {st : PSt} {σ : L2.St} {H H' : Hp}
theorem Evo.refl {sl : List PSl} : Evo M c A sl H A sl H := Mv.refl
theorem Evo.trans {A1 A2 A3 : Nat → Addr} {s1 s2 s3 : List PSl} {H1 H2 H3 : Hp} (a : Evo M c A1 s1 H1 A2 s2 H2) (b : Evo M c A2 s2 H2 A3 s3 H3) : Evo M c A1 s1 H1 A3 s3 H3 := Mv.trans a b
theorem SrcP.nt {n : Nat} {o : HO} (h : SrcP n o) : NoT o := by
  obtain ⟨g, s, k, rfl, _⟩ := h
  exact not_lst
theorem SrcP.mt {C : Addr} {n : Nat} {o : HO} (h : SrcP n o) : Mt C o := by
  obtain ⟨g, s, k, rfl, _⟩ := h
  trivial
/-- an expression's step moves trees -/
theorem REnv.mvK2 (I : REnv M E c A st σ H) (k : Keeps c H H') {O' : Addr → Prop} (h : ∀ b u, H b = some u → NoT u → O' b → Av c A st.sl b) : Mv M.C (Av c A st.sl) H O' H' := by
  refine ⟨h, fun b u e nt => ?_⟩
  by_cases z : c.p = some b
  · refine .inr ⟨.inl (I.sb b z), ?_⟩
    obtain ⟨o, e2, s⟩ := I.src.1 b z
    rw [e] at e2
    cases e2
    exact s.mt
  · exact .inl (k b u e z nt)
theorem REnv.mvK (I : REnv M E c A st σ H) (k : Keeps c H H') {O' : Addr → Prop} (h : ∀ b, O' b → Av c A st.sl b) : Mv M.C (Av c A st.sl) H O' H' := I.mvK2 k fun b _ _ _ => h b
theorem REnv.evoK (I : REnv M E c A st σ H) (k : Keeps c H H') {sl' : List PSl} (l : Less sl' st.sl) : Evo M c A st.sl H A sl' H' := I.mvK k fun b => l.av
theorem NewR.mv {O O' : Addr → Prop} {p : Option Addr} (m : Mv M.C O H O' H') {a : Addr} {ho : HO} : ∀ {o : POwn}, NewR M p O H a ho o → NewR M p O' H' a ho o
  | .lst _, ⟨vs, e, r⟩ => ⟨vs, e, r.mv m⟩
  | .dct _, ⟨ks, e, r⟩ => ⟨ks, e, r.mv m⟩
  | .set _ _, e => e
theorem NewR.mt {O : Addr → Prop} {p : Option Addr} {C a : Addr} {ho : HO} : ∀ {o : POwn}, NewR M p O H a ho o → Mt C ho
  | .lst _, ⟨vs, e, r⟩ => by rw [e]; trivial
  | .dct _, ⟨ks, e, r⟩ => by rw [e]; trivial
  | .set _ _, e => by rw [e]; trivial
theorem NewR.nt {O : Addr → Prop} {p : Option Addr} {a : Addr} {ho : HO} : ∀ {o : POwn}, NewR M p O H a ho o → NoT ho
  | .lst _, ⟨vs, e, r⟩ => by rw [e]; exact not_lst
  | .dct _, ⟨ks, e, r⟩ => by rw [e]; exact not_dK
  | .set _ _, e => by rw [e]; exact not_set
theorem NewR.rep {O : Addr → Prop} {p : Option Addr} {a : Addr} {ho : HO} (e : H a = some ho) (n : ¬ O a) : ∀ {o : POwn}, NewR M p O H a ho o → Rep M p O H (.ref a) o.pv
  | .lst _, ⟨vs, z, r⟩ => .lst (by rw [e, z]) n r
  | .dct _, ⟨ks, z, r⟩ => .dct (by rw [e, z]) n r
  | .set _ _, z => .set (by rw [e, z]) n
theorem SlotR.mv {O O' : Addr → Prop} {p : Option Addr} (m : Mv M.C O H O' H') {a : Addr} (own : ∀ ho, H a = some ho → NoT ho → H' a = some ho) {v : Option V} : ∀ {s : PSl}, SlotR M p O H a v s → SlotR M p O' H' a v s
  | .emp, e => e
  | .any, _ => trivial
  | .sh x, ⟨u, e, r⟩ => ⟨u, e, r.mv m⟩
  | .own o, ⟨e, ho, e2, r⟩ => ⟨e, ho, own _ e2 r.nt, r.mv m⟩
/-- behind an expression's step, the slots as they were -/
theorem REnv.keep (I : REnv M E c A st σ H) (k : Keeps c H H') {n : Nat} (s : SrcAt M c H' n) : REnv M E c A (st.at n) σ H' := by
  refine ⟨I.len, I.inj, I.fr, fun b u e z => k b u (I.out b u e z) z (I.h0 b u e), s, I.sb, fun b hb => ?_, fun i sl v e1 e2 => ?_, I.er, I.h0⟩
  · by_cases q : c.p = some b
    · obtain ⟨o, e, h⟩ := s.1 b q
      exact ⟨o, e, h.mt, h.nt⟩
    · obtain ⟨u, e, h, nt⟩ := I.mt b hb
      exact ⟨u, k b u e q nt, h, nt⟩
  · have key := I.sl i sl v e1 e2
    have m : Mv M.C (Av c A st.sl) H (Av c A st.sl) H' := I.mvK k fun _ h => h
    cases sl with
    | own o =>
      refine key.mv m fun ho eh nt => k _ _ eh (fun z => ?_) nt
      exact (I.fr i o e1).1 (I.sb _ z)
    | emp => exact key
    | any => trivial
    | sh x =>
      obtain ⟨u, e3, r⟩ := key
      exact ⟨u, e3, r.mv m⟩
theorem PSt.at_self {st : PSt} : st.at st.n = st := rfl
theorem REnv.same (I : REnv M E c A st σ H) (k : Same H H') : REnv M E c A st σ H' := by
  refine I.keep (n := st.n) (.same k) ⟨fun q e => ?_, I.src.2.ext k⟩
  obtain ⟨o, h1, h2⟩ := I.src.1 q e
  exact ⟨o, k _ _ h1, h2⟩
theorem REnv.new (I : REnv M E c A st σ H) {D : Addr} {o : HO} (n : H D = none) : REnv M E c A st σ (upd H D o) := I.same (same_upd3 n)
theorem REnv.nop (I : REnv M E c A st σ H) {D : Addr} (n : H D = none) : c.p ≠ some D := fun z => by
  obtain ⟨o, e, _⟩ := I.src.1 D z
  rw [n] at e
  cases e
theorem REnv.noB (I : REnv M E c A st σ H) {D : Addr} (n : H D = none) : ¬ c.B D := fun z => by
  obtain ⟨o, e, _⟩ := I.mt D z
  rw [n] at e
  cases e
theorem REnv.noA (I : REnv M E c A st σ H) {D : Addr} (n : H D = none) : ¬ Av c A st.sl D := by
  rintro (z | ⟨i, o, e, rfl⟩)
  · exact I.noB n z
  · have hl : i < σ.length := by rw [I.len]; exact (List.getElem?_eq_some_iff.mp e).1
    obtain ⟨_, ho, e2, _⟩ := I.sl i _ _ e (List.getElem?_eq_getElem hl)
    rw [n] at e2
    cases e2
theorem REnv.no0 (I : REnv M E c A st σ H) {D : Addr} (n : H D = none) : c.H0 D = none := by
  cases e : c.H0 D with
  | none => rfl
  | some u =>
    have := I.out D u e (I.nop n)
    rw [n] at this
    cases this
theorem REnv.ownAt (I : REnv M E c A st σ H) {i : Nat} {o : POwn} (e : st.sl[i]? = some (.own o)) : σ[i]? = some (some (.ref (A i))) ∧ OwnR M c.p (Av c A st.sl) H (A i) o := by
  have hl : i < σ.length := by rw [I.len]; exact (List.getElem?_eq_some_iff.mp e).1
  obtain ⟨h1, h2⟩ := I.sl i _ _ e (List.getElem?_eq_getElem hl)
  exact ⟨by rw [List.getElem?_eq_getElem hl, h1], h2⟩
theorem REnv.shAt (I : REnv M E c A st σ H) {i : Nat} {x : PV} (e : st.sl[i]? = some (.sh x)) : ∃ v, σ[i]? = some (some v) ∧ Rep M c.p (Av c A st.sl) H v x := by
  have hl : i < σ.length := by rw [I.len]; exact (List.getElem?_eq_some_iff.mp e).1
  obtain ⟨v, h1, h2⟩ := I.sl i _ _ e (List.getElem?_eq_getElem hl)
  exact ⟨v, by rw [List.getElem?_eq_getElem hl, h1], h2⟩
theorem less_set {sl : List PSl} {i : Nat} {s : PSl} (h : ∀ o, s ≠ .own o) : Less (sl.set i s) sl := by
  intro j o e
  rw [List.getElem?_set] at e
  split at e
  · split at e
    · exact absurd (Option.some.inj e) (h o)
    · cases e
  · exact e
/-- a value is put into a slot -/
theorem REnv.put (I : REnv M E c A st σ H) {i : Nat} {v : V} {x : PV} (hi : i < st.sl.length) (r : Rep M c.p (Av c A (st.sl.set i (.sh x))) H v x) : REnv M E c A (st.put i (.sh x)) (σ.set i (some v)) H := by
  have ls : Less (st.sl.set i (.sh x)) st.sl := less_set fun _ h => nomatch h
  refine ⟨by rw [List.length_set, I.len]; exact (List.length_set ..).symm, fun j k o o' h1 h2 => I.inj j k o o' (ls _ _ h1) (ls _ _ h2), fun j o h => I.fr j o (ls _ _ h), I.out, I.src, I.sb, I.mt, fun j s w e1 e2 => ?_, I.er, I.h0⟩
  have m : Mv M.C (Av c A st.sl) H (Av c A (st.sl.set i (.sh x))) H := I.mvK .refl fun b => ls.av
  by_cases z : i = j
  · subst z
    have e1 : (st.sl.set i (.sh x))[i]? = some s := e1
    rw [List.getElem?_set_self hi] at e1
    rw [List.getElem?_set_self (by rw [I.len]; exact hi)] at e2
    cases e1
    cases e2
    exact ⟨v, rfl, r⟩
  · have e1 : (st.sl.set i (.sh x))[j]? = some s := e1
    rw [List.getElem?_set_ne z] at e1 e2
    exact (I.sl j s w e1 e2).mv m fun _ h _ => h
theorem REnv.put' (I : REnv M E c A st σ H) {i : Nat} {v : V} {x : PV} (hi : i < st.sl.length) (r : Rep M c.p (Av c A st.sl) H v x) : REnv M E c A (st.put i (.sh x)) (σ.set i (some v)) H :=
  I.put hi (r.mv (I.mvK .refl fun b => Less.av (less_set (s := PSl.sh x) fun _ h => PSl.noConfusion h)))
/-- a slot's own list is told to others from now on -/
theorem REnv.freeze (I : REnv M E c A st σ H) {i : Nat} {o : POwn} (e : st.sl[i]? = some (.own o)) : REnv M E c A (st.put i (.sh o.pv)) σ H ∧ Rep M c.p (Av c A (st.put i (.sh o.pv)).sl) H (.ref (A i)) o.pv := by
  obtain ⟨h1, ho, h2, h3⟩ := I.ownAt e
  have hi : i < st.sl.length := (List.getElem?_eq_some_iff.mp e).1
  have ls : Less (st.sl.set i (.sh o.pv)) st.sl := less_set fun _ h => nomatch h
  have na : ¬ Av c A (st.sl.set i (.sh o.pv)) (A i) := by
    rintro (z | ⟨j, o', e2, z⟩)
    · exact (I.fr i o e).1 z
    · have e3 := ls _ _ e2
      have := I.inj j i _ _ e3 e z
      subst this
      rw [List.getElem?_set_self hi] at e2
      cases e2
  have m : Mv M.C (Av c A st.sl) H (Av c A (st.sl.set i (.sh o.pv))) H := I.mvK .refl fun b => ls.av
  have r : Rep M c.p (Av c A (st.sl.set i (.sh o.pv))) H (.ref (A i)) o.pv := (h3.mv m).rep h2 na
  refine ⟨?_, r⟩
  have key := I.put (v := .ref (A i)) hi r
  have e4 : σ.set i (some (.ref (A i))) = σ := by
    apply List.ext_getElem?
    intro j
    by_cases z : i = j
    · subst z
      rw [h1, List.getElem?_set_self (by rw [I.len]; exact hi)]
    · rw [List.getElem?_set_ne z]
  rw [e4] at key
  exact key
/-- a new list, dict, set is put into a slot, which owns it -/
theorem REnv.putOwn (I : REnv M E c A st σ H) {i : Nat} {D : Addr} {ho : HO} {o : POwn} (hi : i < st.sl.length) (nD : H D = none) (r : NewR M c.p (Av c A st.sl) H D ho o) :
    REnv M E c (fun j => if j = i then D else A j) (st.put i (.own o)) (σ.set i (some (.ref D))) (upd H D ho) ∧ Evo M c A st.sl H (fun j => if j = i then D else A j) (st.sl.set i (.own o)) (upd H D ho) := by
  have s := same_upd3 nD (o := ho)
  have no0 := I.no0 nD
  have noB := I.noB nD
  have noA := I.noA nD
  have av : ∀ b u, H b = some u → NoT u → Av c (fun j => if j = i then D else A j) (st.sl.set i (.own o)) b → Av c A st.sl b := by
    rintro b u e _ (z | ⟨j, o', e2, z⟩)
    · exact .inl z
    · dsimp only at z
      by_cases q : j = i
      · rw [if_pos q] at z
        rw [← z, nD] at e
        cases e
      · rw [if_neg q] at z
        rw [List.getElem?_set_ne (Ne.symm q)] at e2
        exact .inr ⟨j, o', e2, z⟩
  have m : Mv M.C (Av c A st.sl) H (Av c (fun j => if j = i then D else A j) (st.sl.set i (.own o))) (upd H D ho) := ⟨av, fun b u e _ => .inl (s b u e)⟩
  have ne : ∀ (j : Nat) (o' : POwn), j ≠ i → (st.sl.set i (.own o))[j]? = some (.own o') → st.sl[j]? = some (.own o') ∧ A j ≠ D := fun j o' q e => by
    rw [List.getElem?_set_ne (Ne.symm q)] at e
    refine ⟨e, fun z => ?_⟩
    obtain ⟨_, ho', e2, _⟩ := I.ownAt e
    rw [z, nD] at e2
    cases e2
  refine ⟨⟨by rw [List.length_set, I.len]; exact (List.length_set ..).symm, fun j k o1 o2 h1 h2 h => ?_, fun j o1 h => ?_, fun b u e z => s b u (I.out b u e z), ⟨fun q e => ?_, I.src.2.ext s⟩, I.sb, fun b hb => ?_, fun j sl w e1 e2 => ?_, I.er, I.h0⟩, m⟩
  · have h1 : (st.sl.set i (.own o))[j]? = _ := h1
    have h2 : (st.sl.set i (.own o))[k]? = _ := h2
    by_cases q1 : j = i
    · by_cases q2 : k = i
      · rw [q1, q2]
      · rw [if_pos q1, if_neg q2] at h
        exact absurd h.symm (ne k o2 q2 h2).2
    · by_cases q2 : k = i
      · rw [if_neg q1, if_pos q2] at h
        exact absurd h (ne j o1 q1 h1).2
      · rw [if_neg q1, if_neg q2] at h
        exact I.inj j k o1 o2 (ne j o1 q1 h1).1 (ne k o2 q2 h2).1 h
  · show ¬ c.B (if j = i then D else A j) ∧ c.H0 (if j = i then D else A j) = none
    have h : (st.sl.set i (.own o))[j]? = _ := h
    by_cases q : j = i
    · rw [if_pos q]
      exact ⟨noB, no0⟩
    · rw [if_neg q]
      exact I.fr j o1 (ne j o1 q h).1
  · obtain ⟨o1, e1, e2⟩ := I.src.1 q e
    exact ⟨o1, s _ _ e1, e2⟩
  · obtain ⟨u, e1, e2⟩ := I.mt b hb
    exact ⟨u, s _ _ e1, e2⟩
  · have e1 : (st.sl.set i (PSl.own o))[j]? = some sl := e1
    show SlotR M c.p _ _ (if j = i then D else A j) w sl
    by_cases q : j = i
    · subst q
      rw [List.getElem?_set_self hi] at e1
      rw [List.getElem?_set_self (by rw [I.len]; exact hi)] at e2
      cases e1
      cases e2
      rw [if_pos rfl]
      exact ⟨rfl, ho, upd_same, r.mv m⟩
    · rw [if_neg q]
      rw [List.getElem?_set_ne (Ne.symm q)] at e1 e2
      exact (I.sl j sl w e1 e2).mv m fun ho' h _ => s _ _ h
/-- what a slot owns is written -/
theorem REnv.write (I : REnv M E c A st σ H) {i : Nat} {ho : HO} {o o' : POwn} (e : st.sl[i]? = some (.own o)) (hx : (∃ xs, o = .lst xs) ∨ ∃ xs, o = .dct xs) (r : NewR M c.p (Av c A st.sl) H (A i) ho o') :
    REnv M E c A (st.put i (.own o')) σ (upd H (A i) ho) ∧ Evo M c A st.sl H A (st.sl.set i (.own o')) (upd H (A i) ho) := by
  have hi : i < st.sl.length := (List.getElem?_eq_some_iff.mp e).1
  obtain ⟨h1, h0, h2, h3⟩ := I.ownAt e
  have ow : ∀ (j : Nat) (o1 : POwn), (st.sl.set i (PSl.own o'))[j]? = some (PSl.own o1) → ∃ o2 : POwn, st.sl[j]? = some (PSl.own o2) := fun j o1 h => by
    by_cases q : i = j
    · subst q
      exact ⟨o, e⟩
    · rw [List.getElem?_set_ne q] at h
      exact ⟨o1, h⟩
  have av : ∀ b, Av c A (st.sl.set i (.own o')) b → Av c A st.sl b := by
    rintro b (z | ⟨j, o1, h, z⟩)
    · exact .inl z
    · obtain ⟨o2, h⟩ := ow j o1 h
      exact .inr ⟨j, o2, h, z⟩
  have ai : Av c A st.sl (A i) := .inr ⟨i, o, e, rfl⟩
  have m : Mv M.C (Av c A st.sl) H (Av c A (st.sl.set i (.own o'))) (upd H (A i) ho) := by
    refine ⟨fun b _ _ _ h => av b h, fun b u h _ => ?_⟩
    by_cases q : b = A i
    · subst q
      rw [h2] at h
      cases h
      exact .inr ⟨ai, h3.mt⟩
    · exact .inl (by rw [upd_ne q]; exact h)
  have fr := I.fr i o e
  have kind : (∃ xs, h0 = .lst xs) ∨ ∃ xs, h0 = .dK xs := by
    rcases hx with ⟨xs, rfl⟩ | ⟨xs, rfl⟩
    · obtain ⟨vs, z, _⟩ := h3
      exact .inl ⟨vs, z⟩
    · obtain ⟨vs, z, _⟩ := h3
      exact .inr ⟨vs, z⟩
  refine ⟨⟨by rw [I.len]; exact (List.length_set ..).symm, fun j k o1 o2 k1 k2 h => ?_, fun j o1 h => ?_, fun b u h z => ?_, ⟨fun q h => ?_, tabs_mv I.src.2 fun b u h nl nd => ?_⟩, I.sb, fun b hb => ?_, fun j sl w e1 e2 => ?_, I.er, I.h0⟩, m⟩
  · obtain ⟨_, k1⟩ := ow j o1 k1
    obtain ⟨_, k2⟩ := ow k o2 k2
    exact I.inj j k _ _ k1 k2 h
  · obtain ⟨_, h⟩ := ow j o1 h
    exact I.fr j _ h
  · have h2 := I.out b u h z
    rw [upd_ne fun q => by rw [q, fr.2] at h; cases h]
    exact h2
  · obtain ⟨o1, k1, k2⟩ := I.src.1 q h
    refine ⟨o1, ?_, k2⟩
    rw [upd_ne fun z => fr.1 (by rw [← z]; exact I.sb q h)]
    exact k1
  · rw [upd_ne fun z => ?_]
    · exact h
    · rw [z, h2] at h
      cases h
      rcases kind with ⟨xs, z⟩ | ⟨xs, z⟩
      · exact nl xs z
      · exact nd xs z
  · obtain ⟨u, k1, k2⟩ := I.mt b hb
    refine ⟨u, ?_, k2⟩
    rw [upd_ne fun z => fr.1 (by rw [← z]; exact hb)]
    exact k1
  · have e1 : (st.sl.set i (.own o'))[j]? = some sl := e1
    by_cases q : i = j
    · subst q
      rw [List.getElem?_set_self hi] at e1
      cases e1
      rw [h1] at e2
      cases e2
      exact ⟨rfl, ho, upd_same, r.mv m⟩
    · rw [List.getElem?_set_ne q] at e1
      have key := I.sl j sl w e1 e2
      cases sl with
      | own o1 =>
        refine key.mv m fun ho' h _ => ?_
        rw [upd_ne fun z => q (I.inj j i _ _ e1 e z).symm]
        exact h
      | emp => exact key
      | any => trivial
      | sh x =>
        obtain ⟨u, e3, r⟩ := key
        exact ⟨u, e3, r.mv m⟩
end
/-! ### a value that is looked at, perhaps a slot's own -/
def Peek (M : Pm) (c : PCx) (A : Nat → Addr) (st : PSt) (H : Hp) (v : V) (x : PV) : Prop :=
  Rep M c.p (Av c A st.sl) H v x ∨ ∃ i o, st.sl[i]? = some (.own o) ∧ v = .ref (A i) ∧ x = o.pv ∧ OwnR M c.p (Av c A st.sl) H (A i) o
inductive PeekL (M : Pm) (c : PCx) (A : Nat → Addr) (st : PSt) (H : Hp) : List V → List PV → Prop
  | nil : PeekL M c A st H [] []
  | cons {v : V} {x : PV} {vs : List V} {xs : List PV} (r : Peek M c A st H v x) (t : PeekL M c A st H vs xs) : PeekL M c A st H (v :: vs) (x :: xs)
section
variable {M : Pm} {E : XK} {c : PCx} {A : Nat → Addr} {st st' : PSt} {σ : L2.St} {H H' : Hp} {v : V} {x : PV}
theorem Peek.step (h : Peek M c A st H v x) (I : REnv M E c A st σ H) (k : Keeps c H H') (l : Less st'.sl st.sl) : Peek M c A st' H' v x := by
  have m : Mv M.C (Av c A st.sl) H (Av c A st'.sl) H' := I.mvK k fun b => l.av
  rcases h with h | ⟨i, o, e, rfl, rfl, ho, e2, r⟩
  · exact .inl (h.mv m)
  · have e3 : H' (A i) = some ho := k _ _ e2 (fun z => (I.fr i o e).1 (I.sb _ z)) r.nt
    by_cases z : ∃ o', st'.sl[i]? = some (.own o')
    · obtain ⟨o', z⟩ := z
      have := l i o' z
      rw [e] at this
      cases this
      exact .inr ⟨i, o, z, rfl, rfl, ho, e3, r.mv m⟩
    · refine .inl ((r.mv m).rep e3 ?_)
      rintro (q | ⟨j, o', q, w⟩)
      · exact (I.fr i o e).1 q
      · have := I.inj j i _ _ (l j o' q) e w
        subst this
        exact z ⟨o', q⟩
theorem PeekL.step {vs : List V} {xs : List PV} (h : PeekL M c A st H vs xs) (I : REnv M E c A st σ H) (k : Keeps c H H') (l : Less st'.sl st.sl) : PeekL M c A st' H' vs xs := by
  induction h with
  | nil => exact .nil
  | cons r _ ih => exact .cons (r.step I k l) ih
theorem Peek.int {i : Int} (h : Peek M c A st H v (.int i)) : v = .int i := by
  rcases h with h | ⟨_, o, _, _, z, _⟩
  · cases h
    rfl
  · cases o <;> cases z
theorem Peek.bl {i : Bool} (h : Peek M c A st H v (.bl i)) : v = .bl i := by
  rcases h with h | ⟨_, o, _, _, z, _⟩
  · cases h
    rfl
  · cases o <;> cases z
theorem Peek.non (h : Peek M c A st H v .non) : v = .non := by
  rcases h with h | ⟨_, o, _, _, z, _⟩
  · cases h
    rfl
  · cases o <;> cases z
theorem Peek.str {i : Str} (h : Peek M c A st H v (.str i)) : v = .str i := by
  rcases h with h | ⟨_, o, _, _, z, _⟩
  · cases h
    rfl
  · cases o <;> cases z
theorem Peek.ty {i : String} (h : Peek M c A st H v (.ty i)) : v = .ty i := by
  rcases h with h | ⟨_, o, _, _, z, _⟩
  · cases h
    rfl
  · cases o <;> cases z
theorem Peek.lst {xs : List PV} (h : Peek M c A st H v (.lst xs)) : ∃ a vs, v = .ref a ∧ H a = some (.lst vs) ∧ RepL M c.p (Av c A st.sl) H vs xs := by
  rcases h with h | ⟨i, o, _, rfl, z, ho, e, r⟩
  · cases h with
    | lst e n r => exact ⟨_, _, rfl, e, r⟩
  · cases o with
    | lst ys =>
      cases z
      obtain ⟨vs, rfl, r⟩ := r
      exact ⟨_, vs, rfl, e, r⟩
    | _ => cases z
theorem Peek.tup {xs : List PV} (h : Peek M c A st H v (.tup xs)) : ∃ a vs, v = .ref a ∧ H a = some (.tup vs) ∧ RepL M c.p (Av c A st.sl) H vs xs := by
  rcases h with h | ⟨i, o, _, rfl, z, ho, e, r⟩
  · cases h with
    | tup e r => exact ⟨_, _, rfl, e, r⟩
  · cases o <;> cases z
theorem Peek.ktup {xs : List PV} (h : Peek M c A st H v (.ktup xs)) : ∃ a vs, v = .ref a ∧ (∀ G, SqT M.K G a vs) ∧ RepL M c.p (Av c A st.sl) H vs xs := by
  rcases h with h | ⟨i, o, _, rfl, z, ho, e, r⟩
  · cases h with
    | stup e r => exact ⟨_, _, rfl, e, r⟩
  · cases o <;> cases z
theorem Peek.cls (h : Peek M c A st H v .cls) : v = .ref M.C := by
  rcases h with h | ⟨i, o, _, rfl, z, ho, e, r⟩
  · cases h
    rfl
  · cases o <;> cases z
theorem Peek.dct {xs : List (Key × PV)} (h : Peek M c A st H v (.dct xs)) : ∃ a vs, v = .ref a ∧ H a = some (.dK vs) ∧ RepK M c.p (Av c A st.sl) H vs xs := by
  rcases h with h | ⟨i, o, _, rfl, z, ho, e, r⟩
  · cases h with
    | dct e n r => exact ⟨_, _, rfl, e, r⟩
  · cases o with
    | dct ys =>
      cases z
      obtain ⟨vs, rfl, r⟩ := r
      exact ⟨_, vs, rfl, e, r⟩
    | _ => cases z
theorem Peek.set {S : Int → Bool} {k : Nat} (h : Peek M c A st H v (.set S k)) : ∃ a, v = .ref a ∧ H a = some (SetO M.w a S k) := by
  rcases h with h | ⟨i, o, _, rfl, z, ho, e, r⟩
  · cases h with
    | set e n => exact ⟨_, rfl, e⟩
  · cases o with
    | set S' k' =>
      cases z
      exact ⟨_, rfl, by rw [e]; exact congrArg some r⟩
    | _ => cases z
theorem Peek.tab {f : Int} {nss : List (List Int)} (h : Peek M c A st H v (.tab f nss)) : ∃ a, v = .ref a ∧ TabP M.C H a f nss := by
  rcases h with h | ⟨i, o, _, rfl, z, ho, e, r⟩
  · cases h with
    | tab e => exact ⟨_, rfl, e⟩
  · cases o <;> cases z
theorem Peek.src (h : Peek M c A st H v .src) : ∃ a, v = .ref a ∧ c.p = some a := by
  rcases h with h | ⟨i, o, _, rfl, z, ho, e, r⟩
  · cases h with
    | src e => exact ⟨_, rfl, e⟩
  · cases o <;> cases z
theorem RepL.length {p : Option Addr} {O : Addr → Prop} : ∀ {vs : List V} {xs : List PV}, RepL M p O H vs xs → vs.length = xs.length
  | _, _, .nil => rfl
  | _, _, .cons _ t => by rw [List.length_cons, List.length_cons, RepL.length t]
theorem RepL.app {p : Option Addr} {O : Addr → Prop} {ws : List V} {ys : List PV} : ∀ {vs : List V} {xs : List PV}, RepL M p O H vs xs → RepL M p O H ws ys → RepL M p O H (vs ++ ws) (xs ++ ys)
  | _, _, .nil, k => k
  | _, _, .cons r t, k => .cons r (RepL.app t k)
theorem RepL.get {p : Option Addr} {O : Addr → Prop} : ∀ {vs : List V} {xs : List PV}, RepL M p O H vs xs → ∀ {i : Nat} {x : PV}, xs[i]? = some x → ∃ v, vs[i]? = some v ∧ Rep M p O H v x
  | _, _, .nil, _, _, e => nomatch e
  | _, _, .cons r _, 0, _, e => by
    cases e
    exact ⟨_, rfl, r⟩
  | _, _, .cons _ t, i + 1, _, e => RepL.get t (i := i) e
theorem RepL.getV {p : Option Addr} {O : Addr → Prop} : ∀ {vs : List V} {xs : List PV}, RepL M p O H vs xs → ∀ {i : Nat} {v : V}, vs[i]? = some v → ∃ x, xs[i]? = some x ∧ Rep M p O H v x
  | _, _, .nil, _, _, e => nomatch e
  | _, _, .cons r _, 0, _, e => by
    cases e
    exact ⟨_, rfl, r⟩
  | _, _, .cons _ t, i + 1, _, e => RepL.getV t (i := i) e
end
end My
namespace My
open PySem L2
/-! ### readings over trees -/
abbrev PTE := PSt → (PV → PSt → Prop) → Prop
abbrev PTA := PSt → (List PV → PSt → Prop) → Prop
abbrev PTT := PSt → (Bool → PSt → Prop) → Prop
def LiftE (M : Pm) (E : XK) (t : PTE) : TE := fun σ H Q => ∃ c A st Qp, REnv M E c A st σ H ∧ t st Qp ∧ ∀ x st' v H', Qp x st' → REnv M E c A st' σ H' → Keeps c H H' → Less st'.sl st.sl → Rep M c.p (Av c A st'.sl) H' v x → Q v H'
def LiftK (M : Pm) (E : XK) (t : PTE) : TE := fun σ H Q => ∃ c A st Qp, REnv M E c A st σ H ∧ t st Qp ∧ ∀ x st' v H', Qp x st' → REnv M E c A st' σ H' → Keeps c H H' → Less st'.sl st.sl → Peek M c A st' H' v x → Q v H'
def LiftT (M : Pm) (E : XK) (t : PTT) : TT := fun σ H Q => ∃ c A st Qp, REnv M E c A st σ H ∧ t st Qp ∧ ∀ b st' H', Qp b st' → REnv M E c A st' σ H' → Keeps c H H' → Less st'.sl st.sl → Q b H'
def LiftA (M : Pm) (E : XK) (t : PTA) : TA := fun σ H Q => ∃ c A st Qp, REnv M E c A st σ H ∧ t st Qp ∧ ∀ xs st' vs H', Qp xs st' → REnv M E c A st' σ H' → Keeps c H H' → Less st'.sl st.sl → RepL M c.p (Av c A st'.sl) H' vs xs → Q vs H'
def LiftB (M : Pm) (E : XK) (t : PTA) : TA := fun σ H Q => ∃ c A st Qp, REnv M E c A st σ H ∧ t st Qp ∧ ∀ xs st' vs H', Qp xs st' → REnv M E c A st' σ H' → Keeps c H H' → Less st'.sl st.sl → PeekL M c A st' H' vs xs → Q vs H'
abbrev PP (X : Cx) (M : Pm) (E : XK) (e : Expr) (t : PTE) : Prop := PE X e (LiftE M E t)
abbrev PK (X : Cx) (M : Pm) (E : XK) (e : Expr) (t : PTE) : Prop := PE X e (LiftK M E t)
abbrev PPT (X : Cx) (M : Pm) (E : XK) (e : Expr) (t : PTT) : Prop := PT X e (LiftT M E t)
abbrev PPW (X : Cx) (M : Pm) (E : XK) (e : Expr) (t : PTT) : Prop := PW X e (LiftT M E t)
abbrev PPA (X : Cx) (M : Pm) (E : XK) (e : List Expr) (t : PTA) : Prop := PA X e (LiftA M E t)
abbrev PKA (X : Cx) (M : Pm) (E : XK) (e : List Expr) (t : PTA) : Prop := PA X e (LiftB M E t)
theorem imE {X : Cx} {e : Expr} {t t' : TE} (h : PE X e t) (k : ∀ σ H Q, t' σ H Q → t σ H Q) : PE X e t' := ⟨fun pins s σ H Q I q => h.run pins s σ H Q I (k σ H Q q)⟩
theorem imT {X : Cx} {e : Expr} {t t' : TT} (h : PT X e t) (k : ∀ σ H Q, t' σ H Q → t σ H Q) : PT X e t' := ⟨fun pins s σ H Q I q => h.run pins s σ H Q I (k σ H Q q)⟩
theorem imW {X : Cx} {e : Expr} {t t' : TT} (h : PW X e t) (k : ∀ σ H Q, t' σ H Q → t σ H Q) : PW X e t' := ⟨fun whole pins s σ H Q I q => h.run whole pins s σ H Q I (k σ H Q q)⟩
theorem imA {X : Cx} {e : List Expr} {t t' : TA} (h : PA X e t) (k : ∀ σ H Q, t' σ H Q → t σ H Q) : PA X e t' := ⟨fun pos pins s σ H Q I q => h.run pos pins s σ H Q I (k σ H Q q)⟩
theorem imS {X : Cx} {e : Stmt} {t t' : TS} (h : PS X e t) (k : ∀ D σ H, t' D σ H → t D σ H) : PS X e t' := ⟨fun pins s σ H D I q => h.run pins s σ H D I (k D σ H q)⟩
theorem imSs {X : Cx} {e : List Stmt} {t t' : TS} (h : PSs X e t) (k : ∀ D σ H, t' D σ H → t D σ H) : PSs X e t' := ⟨fun pins s σ H D I q => h.run pins s σ H D I (k D σ H q)⟩
theorem orE {X : Cx} {e : Expr} {t t' : TE} (h : PE X e t) (h' : PE X e t') : PE X e (fun σ H Q => t σ H Q ∨ t' σ H Q) := ⟨fun pins s σ H Q I q => q.elim (h.run pins s σ H Q I) (h'.run pins s σ H Q I)⟩
section
variable {X : Cx} {M : Pm} {E : XK} {e a b d : Expr} {es : List Expr} {pos : Pos} {t ta tb td : PTE} {ts : PTA}
theorem REnv.id {c : PCx} {A : Nat → Addr} {st : PSt} {σ : L2.St} {H : Hp} (I : REnv M E c A st σ H) {H' : Hp} (s : Same H H') : REnv M E c A st σ H' ∧ Keeps c H H' ∧ Less st.sl st.sl := ⟨I.same s, .same s, .refl⟩
theorem pk_of (h : PP X M E e t) : PK X M E e t := imE h fun σ H Q ⟨c, A, st, Qp, I, q, k⟩ => ⟨c, A, st, Qp, I, q, fun x st' v H' h1 h2 h3 h4 r => k x st' v H' h1 h2 h3 h4 (.inl r)⟩
/-- weaker readings -/
theorem pp_im {t' : PTE} (h : PP X M E e t) (k : ∀ st Q, t' st Q → t st Q) : PP X M E e t' := imE h fun σ H Q ⟨c, A, st, Qp, I, q, z⟩ => ⟨c, A, st, Qp, I, k _ _ q, z⟩
theorem pp_c {v : V} {x : PV} (h : PE X e (tC v)) (r : ∀ p O H, Rep M p O H v x) : PP X M E e (fun st Q => Q x st) :=
  imE h fun σ H Q ⟨c, A, st, Qp, I, q, k⟩ => k x st v H q I .refl .refl (r _ _ _)
def rdV (i : Nat) : PTE := fun st Q => match st.sl[i]? with
  | some (.sh x) => Q x st
  | some (.own o) => Q o.pv (st.put i (.sh o.pv))
  | _ => False
def rdK (i : Nat) : PTE := fun st Q => match st.sl[i]? with
  | some (.sh x) => Q x st
  | some (.own o) => Q o.pv st
  | _ => False
theorem pp_v {i : Nat} (h : PE X e (tVar i)) : PP X M E e (rdV i) := imE h fun σ H Q ⟨c, A, st, Qp, I, q, k⟩ => by
  unfold rdV at q
  cases hs : st.sl[i]? with
  | none =>
    rw [hs] at q
    exact q.elim
  | some s =>
    rw [hs] at q
    cases s with
    | sh x =>
      obtain ⟨v, h1, h2⟩ := I.shAt hs
      exact ⟨v, h1, k x st v H q I .refl .refl h2⟩
    | own o =>
      obtain ⟨h1, h2⟩ := I.freeze hs
      exact ⟨_, (I.ownAt hs).1, k _ _ _ H q h1 .refl (less_set fun _ h => PSl.noConfusion h) h2⟩
    | emp => exact False.elim q
    | any => exact False.elim q
theorem pk_v {i : Nat} (h : PE X e (tVar i)) : PK X M E e (rdK i) := imE h fun σ H Q ⟨c, A, st, Qp, I, q, k⟩ => by
  unfold rdK at q
  cases hs : st.sl[i]? with
  | none =>
    rw [hs] at q
    exact q.elim
  | some s =>
    rw [hs] at q
    cases s with
    | sh x =>
      obtain ⟨v, h1, h2⟩ := I.shAt hs
      exact ⟨v, h1, k x st v H q I .refl .refl (.inl h2)⟩
    | own o =>
      obtain ⟨h1, h2⟩ := I.ownAt hs
      exact ⟨_, h1, k _ _ _ H q I .refl .refl (.inr ⟨i, o, hs, rfl, rfl, h2⟩)⟩
    | emp => exact False.elim q
    | any => exact False.elim q
/-! lists of expressions -/
def pNil : PTA := fun st Q => Q [] st
def pCons (t : PTE) (ts : PTA) : PTA := fun st Q => t st fun x s1 => ts s1 fun xs s2 => Q (x :: xs) s2
theorem ppa_nil : PPA X M E [] pNil := imA pa_nil fun σ H Q ⟨c, A, st, Qp, I, q, k⟩ => k [] st [] H q I .refl .refl .nil
theorem pka_nil : PKA X M E [] pNil := imA pa_nil fun σ H Q ⟨c, A, st, Qp, I, q, k⟩ => k [] st [] H q I .refl .refl .nil
theorem ppa_cons (h : PP X M E e t) (hs : PPA X M E es ts) (he : starEach (e :: es) X.env = (false, eval e X.env) :: starEach es X.env := by rfl) : PPA X M E (e :: es) (pCons t ts) :=
  imA (pa_cons h hs he) fun σ H Q ⟨c, A, st, Qp, I, q, k⟩ => ⟨c, A, st, _, I, q, fun x s1 v H1 q1 I1 k1 l1 r1 => ⟨c, A, s1, _, I1, q1, fun xs s2 vs H2 q2 I2 k2 l2 r2 =>
    k (x :: xs) s2 (v :: vs) H2 q2 I2 (k1.trans k2) (l2.trans l1) (.cons (r1.mv (I1.mvK k2 fun b => l2.av)) r2)⟩⟩
theorem pka_cons (h : PK X M E e t) (hs : PKA X M E es ts) (he : starEach (e :: es) X.env = (false, eval e X.env) :: starEach es X.env := by rfl) : PKA X M E (e :: es) (pCons t ts) :=
  imA (pa_cons h hs he) fun σ H Q ⟨c, A, st, Qp, I, q, k⟩ => ⟨c, A, st, _, I, q, fun x s1 v H1 q1 I1 k1 l1 r1 => ⟨c, A, s1, _, I1, q1, fun xs s2 vs H2 q2 I2 k2 l2 r2 =>
    k (x :: xs) s2 (v :: vs) H2 q2 I2 (k1.trans k2) (l2.trans l1) (.cons (r1.step I1 k2 l2) r2)⟩⟩
/-! operators -/
def PureO (M : Pm) (r : R2) (rp : PV → PV → (PV → Prop) → Prop) : Prop := ∀ (E : XK) (c : PCx) (A : Nat → Addr) (st : PSt) (σ : L2.St) (H : Hp) (v w : V) (x y : PV) (Qp : PV → Prop) (Q : VK), REnv M E c A st σ H → Peek M c A st H v x → Peek M c A st H w y → rp x y Qp →
  (∀ z u H', Qp z → REnv M E c A st σ H' → Keeps c H H' → Rep M c.p (Av c A st.sl) H' u z → Q u H') → r v w H Q
def pOp (rp : PV → PV → (PV → Prop) → Prop) (ta tb : PTE) : PTE := fun st Q => ta st fun x s1 => tb s1 fun y s2 => rp x y fun z => Q z s2
theorem pp_op {op : Operator} {r : R2} {rp : PV → PV → (PV → Prop) → Prop} (ho : OpR X (binaryOp op) r) (hp : PureO M r rp) (ha : PK X M E a ta) (hb : PK X M E b tb) : PP X M E (.BinOp a op b pos) (pOp rp ta tb) :=
  imE (pe_op ho ha hb) fun σ H Q ⟨c, A, st, Qp, I, q, k⟩ => ⟨c, A, st, _, I, q, fun x s1 v H1 q1 I1 k1 l1 r1 => ⟨c, A, s1, _, I1, q1, fun y s2 w H2 q2 I2 k2 l2 r2 =>
    hp E c A s2 σ H2 v w x y _ _ I2 (r1.step I1 k2 l2) r2 q2 fun z u H3 q3 I3 k3 r3 => k z s2 u H3 q3 I3 ((k1.trans k2).trans k3) (l2.trans l1) r3⟩⟩
theorem pp_cmp {op : CmpOp} {r : R2} {rp : PV → PV → (PV → Prop) → Prop} (ho : OpR X (compareOp op) r) (hp : PureO M r rp) (ha : PK X M E a ta) (hb : PK X M E b tb) (hm : behindInMarks op b = false := by rfl) : PP X M E (.Compare a [op] [b] pos) (pOp rp ta tb) :=
  imE (pe_cmpR ho ha hb hm) fun σ H Q ⟨c, A, st, Qp, I, q, k⟩ => ⟨c, A, st, _, I, q, fun x s1 v H1 q1 I1 k1 l1 r1 => ⟨c, A, s1, _, I1, q1, fun y s2 w H2 q2 I2 k2 l2 r2 =>
    hp E c A s2 σ H2 v w x y _ _ I2 (r1.step I1 k2 l2) r2 q2 fun z u H3 q3 I3 k3 r3 => k z s2 u H3 q3 I3 ((k1.trans k2).trans k3) (l2.trans l1) r3⟩⟩
def pTest (t : PTE) : PTT := fun st Q => t st fun x s1 => ∃ b, x = .bl b ∧ Q b s1
theorem pt_cmpP {op : CmpOp} {r : R2} {rp : PV → PV → (PV → Prop) → Prop} (ho : OpR X (compareOp op) r) (hp : PureO M r rp) (ha : PK X M E a ta) (hb : PK X M E b tb) (hm : behindInMarks op b = false := by rfl) : PPT X M E (.Compare a [op] [b] pos) (pTest (pOp rp ta tb)) :=
  imT (pt_cmpR ho ha hb hm) fun σ H Q ⟨c, A, st, Qp, I, q, k⟩ => ⟨c, A, st, _, I, q, fun x s1 v H1 q1 I1 k1 l1 r1 => ⟨c, A, s1, _, I1, q1, fun y s2 w H2 q2 I2 k2 l2 r2 =>
    hp E c A s2 σ H2 v w x y _ _ I2 (r1.step I1 k2 l2) r2 q2 fun z u H3 ⟨bb, e3, q3⟩ I3 k3 r3 => by
      subst e3
      cases r3
      exact ⟨bb, rfl, k bb s2 H3 q3 I3 ((k1.trans k2).trans k3) (l2.trans l1)⟩⟩⟩
/-- a test that is a value -/
theorem pt_v (h : PP X M E e t) (he : ∀ whole, isTrue e X.env whole = (do let v ← whole; standAt e.pos; holding [v] (truthy v)) := by intro _; rfl) : PPT X M E e (pTest t) :=
  imT (pt_val h he) fun σ H Q ⟨c, A, st, Qp, I, q, k⟩ => ⟨c, A, st, _, I, q, fun x s1 v H1 ⟨bb, e1, q1⟩ I1 k1 l1 r1 => by
    subst e1
    cases r1
    exact ⟨bb, rfl, k bb s1 H1 q1 I1 k1 l1⟩⟩
def pNot (t : PTT) : PTT := fun st Q => t st fun b s1 => Q (!b) s1
theorem pt_notP {tt : PTT} (h : PPT X M E e tt) : PPT X M E (.UnaryOp .Not e pos) (pNot tt) :=
  imT (pt_not h) fun σ H Q ⟨c, A, st, Qp, I, q, k⟩ => ⟨c, A, st, _, I, q, fun bb s1 H1 q1 I1 k1 l1 => k (!bb) s1 H1 q1 I1 k1 l1⟩
def pAnd (t u : PTT) : PTT := fun st Q => t st fun b s1 => if b = true then u s1 Q else Q false s1
def pOr (t u : PTT) : PTT := fun st Q => t st fun b s1 => if b = true then Q true s1 else u s1 Q
theorem liftT_app {tt : PTT} {c : PCx} {A : Nat → Addr} {st s1 : PSt} {σ : L2.St} {H H1 : Hp} {Qp : Bool → PSt → Prop} {Q : Bool → Hp → Prop} (I1 : REnv M E c A s1 σ H1) (k1 : Keeps c H H1) (l1 : Less s1.sl st.sl) (q1 : tt s1 Qp)
    (k : ∀ b st' H', Qp b st' → REnv M E c A st' σ H' → Keeps c H H' → Less st'.sl st.sl → Q b H') : LiftT M E tt σ H1 Q :=
  ⟨c, A, s1, Qp, I1, q1, fun b s2 H2 q2 I2 k2 l2 => k b s2 H2 q2 I2 (k1.trans k2) (l2.trans l1)⟩
theorem liftE_app {c : PCx} {A : Nat → Addr} {st s1 : PSt} {σ : L2.St} {H H1 : Hp} {Qp : PV → PSt → Prop} {Q : VK} (I1 : REnv M E c A s1 σ H1) (k1 : Keeps c H H1) (l1 : Less s1.sl st.sl) (q1 : t s1 Qp)
    (k : ∀ x st' v H', Qp x st' → REnv M E c A st' σ H' → Keeps c H H' → Less st'.sl st.sl → Rep M c.p (Av c A st'.sl) H' v x → Q v H') : LiftE M E t σ H1 Q :=
  ⟨c, A, s1, Qp, I1, q1, fun x s2 v H2 q2 I2 k2 l2 r2 => k x s2 v H2 q2 I2 (k1.trans k2) (l2.trans l1) r2⟩
theorem pw_andP {rest : List Expr} {tt tu : PTT} (h : PPT X M E a tt) (h2 : PPW X M E (.BoolOp .And (b :: rest) pos) tu) : PPW X M E (.BoolOp .And (a :: b :: rest) pos) (pAnd tt tu) :=
  imW (pw_and h h2) fun σ H Q ⟨c, A, st, Qp, I, q, k⟩ => ⟨c, A, st, _, I, q, fun bb s1 H1 q1 I1 k1 l1 => by
    cases bb with
    | true => exact (if_pos rfl).mpr (liftT_app I1 k1 l1 ((if_pos rfl).mp q1) k)
    | false => exact (if_neg Bool.false_ne_true).mpr (k false s1 H1 ((if_neg Bool.false_ne_true).mp q1) I1 k1 l1)⟩
theorem pw_orP {rest : List Expr} {tt tu : PTT} (h : PPT X M E a tt) (h2 : PPW X M E (.BoolOp .Or (b :: rest) pos) tu) : PPW X M E (.BoolOp .Or (a :: b :: rest) pos) (pOr tt tu) :=
  imW (pw_or h h2) fun σ H Q ⟨c, A, st, Qp, I, q, k⟩ => ⟨c, A, st, _, I, q, fun bb s1 H1 q1 I1 k1 l1 => by
    cases bb with
    | false => exact (if_neg Bool.false_ne_true).mpr (liftT_app I1 k1 l1 ((if_neg Bool.false_ne_true).mp q1) k)
    | true => exact (if_pos rfl).mpr (k true s1 H1 ((if_pos rfl).mp q1) I1 k1 l1)⟩
theorem pw_and1P {tt : PTT} (h : PPT X M E a tt) : PPW X M E (.BoolOp .And [a] pos) tt := pw_and1 h
theorem pw_or1P {tt : PTT} (h : PPT X M E a tt) : PPW X M E (.BoolOp .Or [a] pos) tt := pw_or1 h
/-! .. as values -/
def pAndV (t u : PTE) : PTE := fun st Q => t st fun x s1 => ∃ b, x = .bl b ∧ if b = true then u s1 Q else Q (.bl false) s1
def pOrV (t u : PTE) : PTE := fun st Q => t st fun x s1 => ∃ b, x = .bl b ∧ if b = true then Q (.bl true) s1 else u s1 Q
theorem pp_and {rest : List Expr} (h : PP X M E a ta) (h2 : PP X M E (.BoolOp .And (b :: rest) pos) tb) : PP X M E (.BoolOp .And (a :: b :: rest) pos) (pAndV ta tb) :=
  imE (pe_and h h2) fun σ H Q ⟨c, A, st, Qp, I, q, k⟩ => ⟨c, A, st, _, I, q, fun x s1 v H1 ⟨bb, e1, q1⟩ I1 k1 l1 r1 => by
    subst e1
    cases r1
    refine ⟨bb, rfl, ?_⟩
    cases bb with
    | true => exact (if_pos rfl).mpr (liftE_app I1 k1 l1 ((if_pos rfl).mp q1) k)
    | false => exact (if_neg Bool.false_ne_true).mpr (k _ s1 _ H1 ((if_neg Bool.false_ne_true).mp q1) I1 k1 l1 (.bl false))⟩
theorem pp_or {rest : List Expr} (h : PP X M E a ta) (h2 : PP X M E (.BoolOp .Or (b :: rest) pos) tb) : PP X M E (.BoolOp .Or (a :: b :: rest) pos) (pOrV ta tb) :=
  imE (pe_or h h2) fun σ H Q ⟨c, A, st, Qp, I, q, k⟩ => ⟨c, A, st, _, I, q, fun x s1 v H1 ⟨bb, e1, q1⟩ I1 k1 l1 r1 => by
    subst e1
    cases r1
    refine ⟨bb, rfl, ?_⟩
    cases bb with
    | false => exact (if_neg Bool.false_ne_true).mpr (liftE_app I1 k1 l1 ((if_neg Bool.false_ne_true).mp q1) k)
    | true => exact (if_pos rfl).mpr (k _ s1 _ H1 ((if_pos rfl).mp q1) I1 k1 l1 (.bl true))⟩
theorem pp_one {op : BoolOp} (h : PP X M E a ta) : PP X M E (.BoolOp op [a] pos) ta := pe_one h
def pNotV (t : PTE) : PTE := fun st Q => t st fun x s1 => ∃ b, x = .bl b ∧ Q (.bl (!b)) s1
theorem pp_not (h : PP X M E a ta) : PP X M E (.UnaryOp .Not a pos) (pNotV ta) :=
  imE (pe_not h) fun σ H Q ⟨c, A, st, Qp, I, q, k⟩ => ⟨c, A, st, _, I, q, fun x s1 v H1 ⟨bb, e1, q1⟩ I1 k1 l1 r1 => by
    subst e1
    cases r1
    exact ⟨bb, rfl, k _ s1 _ H1 q1 I1 k1 l1 (.bl _)⟩⟩
/-- a <= b < c, of ints -/
def pChain (f g : Int → Int → Bool) (ta tb tc : PTE) : PTE := fun st Q => ta st fun x s1 => tb s1 fun y s2 => ∃ i j, x = .int i ∧ y = .int j ∧ if f i j = true then tc s2 fun z s3 => ∃ k, z = .int k ∧ Q (.bl (g j k)) s3 else Q (.bl false) s2
theorem pp_chain {op op' : CmpOp} {f g : Int → Int → Bool} (ho : OpR X (compareOp op) (rI0 fun i j => .bl (f i j))) (ho' : OpR X (compareOp op') (rI0 fun i j => .bl (g i j))) (ha : PP X M E a ta) (hb : PP X M E b tb) (hc : PP X M E d td)
    (hm : lastMarks [op, op'] [b, d] = false := by with_unfolding_all rfl) : PP X M E (.Compare a [op, op'] [b, d] pos) (pChain f g ta tb td) :=
  imE (pe_chain ho ho' ha hb hc hm) fun σ H Q ⟨c, A, st, Qp, I, q, k⟩ => ⟨c, A, st, _, I, q, fun x s1 v H1 q1 I1 k1 l1 r1 => ⟨c, A, s1, _, I1, q1, fun y s2 w H2 ⟨i, j, e1, e2, q2⟩ I2 k2 l2 r2 => by
    subst e1
    subst e2
    cases r1
    cases r2
    refine ⟨i, j, rfl, rfl, _, rfl, ?_⟩
    cases hf : f i j with
    | true =>
      rw [hf] at q2
      refine (if_pos rfl).mpr ⟨c, A, s2, _, I2, (if_pos rfl).mp q2, fun z s3 u H3 ⟨n, e3, q3⟩ I3 k3 l3 r3 => ?_⟩
      subst e3
      cases r3
      exact ⟨j, n, rfl, rfl, k _ s3 _ H3 q3 I3 ((k1.trans k2).trans k3) ((l3.trans l2).trans l1) (.bl _)⟩
    | false =>
      rw [hf] at q2
      exact (if_neg Bool.false_ne_true).mpr (k _ s2 _ H2 ((if_neg Bool.false_ne_true).mp q2) I2 (k1.trans k2) (l2.trans l1) (.bl false))⟩⟩
theorem pt_chainP {op op' : CmpOp} {f g : Int → Int → Bool} (ho : OpR X (compareOp op) (rI0 fun i j => .bl (f i j))) (ho' : OpR X (compareOp op') (rI0 fun i j => .bl (g i j))) (ha : PP X M E a ta) (hb : PP X M E b tb) (hc : PP X M E d td)
    (hm : lastMarks [op, op'] [b, d] = false := by with_unfolding_all rfl) : PPT X M E (.Compare a [op, op'] [b, d] pos) (pTest (pChain f g ta tb td)) :=
  imT (pt_chain ho ho' ha hb hc hm) fun σ H Q ⟨c, A, st, Qp, I, q, k⟩ => ⟨c, A, st, _, I, q, fun x s1 v H1 q1 I1 k1 l1 r1 => ⟨c, A, s1, _, I1, q1, fun y s2 w H2 ⟨i, j, e1, e2, q2⟩ I2 k2 l2 r2 => by
    subst e1
    subst e2
    cases r1
    cases r2
    refine ⟨i, j, rfl, rfl, _, rfl, ?_⟩
    cases hf : f i j with
    | true =>
      rw [hf] at q2
      refine (if_pos rfl).mpr ⟨c, A, s2, _, I2, (if_pos rfl).mp q2, fun z s3 u H3 ⟨n, e3, bb, e4, q3⟩ I3 k3 l3 r3 => ?_⟩
      subst e3
      cases r3
      cases e4
      exact ⟨j, n, rfl, rfl, _, rfl, k _ s3 H3 q3 I3 ((k1.trans k2).trans k3) ((l3.trans l2).trans l1)⟩
    | false =>
      rw [hf] at q2
      obtain ⟨bb, e4, q3⟩ := (if_neg Bool.false_ne_true).mp q2
      cases e4
      exact (if_neg Bool.false_ne_true).mpr ⟨false, rfl, k _ s2 H2 q3 I2 (k1.trans k2) (l2.trans l1)⟩⟩⟩
/-! a if t else b; displays -/
def pIf (tt : PTT) (ta tb : PTE) : PTE := fun st Q => tt st fun b s1 => if b = true then ta s1 Q else tb s1 Q
theorem pp_if {tt : PTT} (hc : PPT X M E d tt) (ha : PP X M E a ta) (hb : PP X M E b tb) : PP X M E (.IfExp d a b pos) (pIf tt ta tb) :=
  imE (pe_ifExp hc ha hb) fun σ H Q ⟨c, A, st, Qp, I, q, k⟩ => ⟨c, A, st, _, I, q, fun bb s1 H1 q1 I1 k1 l1 => by
    cases bb with
    | true => exact (if_pos rfl).mpr (liftE_app I1 k1 l1 ((if_pos rfl).mp q1) k)
    | false => exact (if_neg Bool.false_ne_true).mpr (liftE_app I1 k1 l1 ((if_neg Bool.false_ne_true).mp q1) k)⟩
theorem Rep.new {p : Option Addr} {O : Addr → Prop} {H : Hp} {D : Addr} {o : HO} (n : H D = none) {v : V} {x : PV} (r : Rep M p O H v x) : Rep M p O (upd H D o) v x := r.mv ⟨fun _ _ _ _ h => h, fun b u e _ => .inl (same_upd3 n b u e)⟩
theorem RepL.new {p : Option Addr} {O : Addr → Prop} {H : Hp} {D : Addr} {o : HO} (n : H D = none) {v : List V} {x : List PV} (r : RepL M p O H v x) : RepL M p O (upd H D o) v x := r.mv ⟨fun _ _ _ _ h => h, fun b u e _ => .inl (same_upd3 n b u e)⟩
theorem RepK.new {p : Option Addr} {O : Addr → Prop} {H : Hp} {D : Addr} {o : HO} (n : H D = none) {v : List (Key × V)} {x : List (Key × PV)} (r : RepK M p O H v x) : RepK M p O (upd H D o) v x := r.mv ⟨fun _ _ _ _ h => h, fun b u e _ => .inl (same_upd3 n b u e)⟩
def pLst (ts : PTA) : PTE := fun st Q => ts st fun xs s1 => xs.length ≤ sizeLine ∧ Q (.lst xs) s1
def pTup (ts : PTA) : PTE := fun st Q => ts st fun xs s1 => xs.length ≤ sizeLine ∧ Q (.tup xs) s1
theorem pp_lst (h : PPA X M E es ts) : PP X M E (.List es pos) (pLst ts) :=
  imE (pe_lst h) fun σ H Q ⟨c, A, st, Qp, I, q, k⟩ => ⟨c, A, st, _, I, q, fun xs s1 vs H1 ⟨z, q1⟩ I1 k1 l1 r1 => ⟨by rw [r1.length]; exact z, fun p np =>
    k _ s1 _ _ q1 (I1.new np) (k1.trans (.new np)) l1 (.lst upd_same (I1.noA np) (r1.new np))⟩⟩
theorem pp_tup {kk : Nat} (h : PPA X M E es ts) : PP X M E (.Tuple es kk pos) (pTup ts) :=
  imE (pe_tup h) fun σ H Q ⟨c, A, st, Qp, I, q, k⟩ => ⟨c, A, st, _, I, q, fun xs s1 vs H1 ⟨z, q1⟩ I1 k1 l1 r1 => ⟨by rw [r1.length]; exact z, fun p np =>
    k _ s1 _ _ q1 (I1.new np) (k1.trans (.new np)) l1 (.tup upd_same (r1.new np))⟩⟩
/-! calls by values -/
def PureF (M : Pm) (r : List V → Hp → VK → Prop) (rp : Nat → List PV → (PV → Nat → Prop) → (PX → Nat → Prop) → Prop) (E : XK) : Prop := ∀ (c : PCx) (A : Nat → Addr) (st : PSt) (σ : L2.St) (H : Hp) (vs : List V) (xs : List PV) (Qp : PV → Nat → Prop) (Q : VK), REnv M E c A st σ H → PeekL M c A st H vs xs → rp st.n xs Qp st.R →
  (∀ z n u H', Qp z n → REnv M E c A (st.at n) σ H' → Keeps c H H' → Rep M c.p (Av c A st.sl) H' u z → Q u H') → r vs H Q
abbrev PFn := Nat → List PV → (PV → Nat → Prop) → (PX → Nat → Prop) → Prop
/-- a function without draws and exceptions -/
def fn0 (rp : List PV → (PV → Prop) → Prop) : PFn := fun n xs Q _ => rp xs fun z => Q z n
def pCall (rp : PFn) (ts : PTA) : PTE := fun st Q => ts st fun xs s1 => rp s1.n xs (fun z n => Q z (s1.at n)) s1.R
theorem less_at {st : PSt} {n : Nat} {sl : List PSl} (l : Less st.sl sl) : Less (st.at n).sl sl := l
theorem pp_calls {r : List V → Hp → VK → Prop} {rp : PFn} {tr : TA → TE} (hp : PureF M r rp E) (h : PE X e (fun σ H Q => LiftB M E ts σ H fun vs H1 => r vs H1 Q)) : PP X M E e (pCall rp ts) :=
  imE h fun σ H Q ⟨c, A, st, Qp, I, q, k⟩ => ⟨c, A, st, _, I, q, fun xs s1 vs H1 q1 I1 k1 l1 r1 => hp c A s1 σ H1 vs xs _ _ I1 r1 q1 fun z n u H2 q2 I2 k2 r2 => k z _ u H2 q2 I2 (k1.trans k2) l1 r2⟩
end
end My
namespace My
open PySem L2
/-! ### what operators make of trees -/
mutual
def PV.eqv : PV → PV → Bool
  | .non, .non => true
  | .bl a, .bl b => a == b
  | .bl a, .int j => (if a then 1 else 0) == j
  | .int i, .bl b => i == (if b then 1 else 0)
  | .int i, .int j => i == j
  | .str x, .str y => x == y
  | .lst xs, .lst ys => PV.eqvL xs ys
  | .tup xs, .tup ys => PV.eqvL xs ys
  | _, _ => false
def PV.eqvL : List PV → List PV → Bool
  | [], [] => true
  | x :: xs, y :: ys => PV.eqv x y && PV.eqvL xs ys
  | _, _ => false
end
mutual
def PV.toD : PV → PyData
  | .bl b => .bool b
  | .int i => .int i
  | .str s => .str s
  | .lst xs => .list (PV.toDL xs)
  | .tup xs => .tuple (PV.toDL xs)
  | _ => .none
def PV.toDL : List PV → List PyData
  | [] => []
  | x :: xs => PV.toD x :: PV.toDL xs
end
mutual
def PV.okD : PV → Bool
  | .non => true
  | .bl _ => true
  | .int _ => true
  | .str s => PyData.strOk s
  | .lst xs => PV.okL xs
  | .tup xs => PV.okL xs
  | _ => false
def PV.okL : List PV → Bool
  | [] => true
  | x :: xs => PV.okD x && PV.okL xs
end
mutual
def PV.dep : PV → Nat
  | .lst xs => PV.depL xs + 1
  | .tup xs => PV.depL xs + 1
  | _ => 0
def PV.depL : List PV → Nat
  | [] => 0
  | x :: xs => max (PV.dep x) (PV.depL xs)
end
mutual
theorem toD_lay : ∀ {x : PV}, x.okD = true → x.toD.canLay0 = true
  | .non, _ => rfl
  | .bl _, _ => rfl
  | .int _, _ => rfl
  | .str s, h => by rw [PV.toD, PyData.canLay0]; rw [PV.okD] at h; exact h
  | .lst xs, h => by rw [PV.toD, PyData.canLay0]; rw [PV.okD] at h; exact toDL_lay h
  | .tup xs, h => by rw [PV.toD, PyData.canLay0]; rw [PV.okD] at h; exact toDL_lay h
theorem toDL_lay : ∀ {xs : List PV}, PV.okL xs = true → PyData.canLayAll0 (PV.toDL xs) = true
  | [], _ => rfl
  | x :: xs, h => by
    rw [PV.okL, Bool.and_eq_true] at h
    rw [PV.toDL, PyData.canLayAll0, toD_lay h.1, toDL_lay h.2]
    rfl
end
mutual
theorem toD_dep : ∀ (x : PV), x.toD.depth = x.dep
  | .non | .bl _ | .int _ | .str _ | .ty _ | .dct _ | .set _ _ | .tab _ _ | .src | .ktup _ | .cls => by rw [PV.dep, PV.toD] <;> first | rfl | (intros; contradiction)
  | .lst xs => by rw [PV.toD, PyData.depth, PV.dep, toDL_dep xs]
  | .tup xs => by rw [PV.toD, PyData.depth, PV.dep, toDL_dep xs]
theorem toDL_dep : ∀ (xs : List PV), PyData.depthAll (PV.toDL xs) = PV.depL xs
  | [] => rfl
  | x :: xs => by rw [PV.toDL, PyData.depthAll, PV.depL, toD_dep x, toDL_dep xs]
end
theorem toD_shaped {x : PV} (h : x.okD = true) (d : x.dep ≤ 64) : SeqAt.shaped x.toD = true := by
  unfold SeqAt.shaped
  rw [toD_lay h, toD_dep, decide_eq_true d]
  rfl
mutual
theorem toD_eqv : ∀ {x y : PV}, x.okD = true → y.okD = true → PyData.eqv x.toD y.toD = PV.eqv x y
  | .lst xs, y, h, k => by
    rw [PV.okD] at h
    cases y with
    | lst ys =>
      rw [PV.okD] at k
      rw [PV.toD, PV.toD, PyData.eqv, PV.eqv, toDL_eqv h k]
    | _ => first | rfl | cases k
  | .tup xs, y, h, k => by
    rw [PV.okD] at h
    cases y with
    | tup ys =>
      rw [PV.okD] at k
      rw [PV.toD, PV.toD, PyData.eqv, PV.eqv, toDL_eqv h k]
    | _ => first | rfl | cases k
  | .non, y, _, k => by cases y <;> first | rfl | cases k
  | .bl _, y, _, k => by cases y <;> first | rfl | cases k
  | .int _, y, _, k => by cases y <;> first | rfl | cases k
  | .str _, y, _, k => by cases y <;> first | rfl | cases k
theorem toDL_eqv : ∀ {xs ys : List PV}, PV.okL xs = true → PV.okL ys = true → PyData.eqvAll (PV.toDL xs) (PV.toDL ys) = PV.eqvL xs ys
  | [], [], _, _ => rfl
  | [], _ :: _, _, _ => rfl
  | _ :: _, [], _, _ => rfl
  | x :: xs, y :: ys, h, k => by
    rw [PV.okL, Bool.and_eq_true] at h k
    rw [PV.toDL, PV.toDL, PyData.eqvAll, PV.eqvL, toD_eqv h.1 k.1, toDL_eqv h.2 k.2]
end
section
variable {M : Pm} {p : Option Addr} {O : Addr → Prop} {H : Hp}
mutual
theorem Rep.dp : ∀ {v : V} {x : PV}, Rep M p O H v x → x.okD = true → Dp M.K H v x.toD
  | _, _, .non, _ => .non
  | _, _, .bl b, _ => .bl b
  | _, _, .int i, _ => .int i
  | _, _, .str s, _ => .str s
  | _, _, .lst e n r, h => by rw [PV.okD] at h; rw [PV.toD]; exact .lst (SqL.of e) (RepL.dp r h)
  | _, _, .tup e r, h => by rw [PV.okD] at h; rw [PV.toD]; exact .tup (SqT.of e) (RepL.dp r h)
  | _, _, .stup e r, h => nomatch h
  | _, _, .cls, h => nomatch h
  | _, _, .ty _, h => nomatch h
  | _, _, .dct _ _ _, h => nomatch h
  | _, _, .set _ _, h => nomatch h
  | _, _, .tab _, h => nomatch h
  | _, _, .src _, h => nomatch h
theorem RepL.dp : ∀ {vs : List V} {xs : List PV}, RepL M p O H vs xs → PV.okL xs = true → DpAll M.K H vs (PV.toDL xs)
  | _, _, .nil, _ => .nil
  | _, _, .cons r t, h => by
    rw [PV.okL, Bool.and_eq_true] at h
    exact .cons (Rep.dp r h.1) (RepL.dp t h.2)
end
theorem Peek.dp {c : PCx} {A : Nat → Addr} {st : PSt} {v : V} {x : PV} (h : Peek M c A st H v x) (k : x.okD = true) : Dp M.K H v x.toD := by
  rcases h with h | ⟨i, o, _, rfl, rfl, ho, e, r⟩
  · exact h.dp k
  · cases o with
    | lst xs =>
      obtain ⟨vs, rfl, r⟩ := r
      exact .lst (SqL.of e) (r.dp k)
    | dct _ => cases k
    | set _ _ => cases k
end
def eqP : PV → PV → (PV → Prop) → Prop := fun x y Q => x.okD = true ∧ y.okD = true ∧ x.dep ≤ 64 ∧ y.dep ≤ 64 ∧ Q (.bl (PV.eqv x y))
def neP : PV → PV → (PV → Prop) → Prop := fun x y Q => x.okD = true ∧ y.okD = true ∧ x.dep ≤ 64 ∧ y.dep ≤ 64 ∧ Q (.bl (!PV.eqv x y))
def addP : PV → PV → (PV → Prop) → Prop
  | .int i, .int j, Q => Q (.int (i + j))
  | .lst xs, .lst ys, Q => xs.length + ys.length ≤ sizeLine ∧ Q (.lst (xs ++ ys))
  | .str a, .str b, Q => a.length + b.length ≤ sizeLine ∧ Q (.str (a ++ b))
  | _, _, _ => False
def subP : PV → PV → (PV → Prop) → Prop
  | .int i, .int j, Q => Q (.int (i - j))
  | _, _, _ => False
def mulP : PV → PV → (PV → Prop) → Prop
  | .int i, .int j, Q => CMulW i j ∧ Q (.int (i * j))
  | .lst xs, .int k, Q => -(2 ^ 63) ≤ k ∧ k < 2 ^ 63 ∧ xs.length * k.toNat ≤ sizeLine ∧ Q (.lst (List.replicate k.toNat xs).flatten)
  | _, _, _ => False
def fdvP : PV → PV → (PV → Prop) → Prop
  | .int i, .int j, Q => CDivNW i j ∧ Q (.int (i.fdiv j))
  | _, _, _ => False
def modP : PV → PV → (PV → Prop) → Prop
  | .int i, .int j, Q => 0 < j ∧ Q (.int (i % j))
  | _, _, _ => False
def powP : PV → PV → (PV → Prop) → Prop
  | .int i, .int j, Q => CPowW i j ∧ Q (.int (i ^ j.toNat))
  | _, _, _ => False
def ordP (f : Int → Int → Bool) : PV → PV → (PV → Prop) → Prop
  | .int i, .int j, Q => Q (.bl (f i j))
  | _, _, _ => False
def PV.isN : PV → Bool
  | .non => true
  | _ => false
def isNP (neg : Bool) : PV → PV → (PV → Prop) → Prop
  | x, .non, Q => Q (.bl (neg != x.isN))
  | _, _, _ => False
theorem REnv.fin {M : Pm} {E : XK} {c : PCx} {A : Nat → Addr} {st : PSt} {σ : L2.St} {H : Hp} (I : REnv M E c A st σ H) {Qp : PV → Prop} {Q : VK} (k : ∀ z u H', Qp z → REnv M E c A st σ H' → Keeps c H H' → Rep M c.p (Av c A st.sl) H' u z → Q u H') {xs : List PV} {vs : List V} (q : Qp (.lst xs)) (r : RepL M c.p (Av c A st.sl) H vs xs) :
    ∀ p, H p = none → Q (.ref p) (upd H p (.lst vs)) := fun p np => k _ _ _ q (I.new np) (.new np) (.lst upd_same (I.noA np) (r.new np))
section
variable {M : Pm}
theorem pure_eq : PureO M (rEqD M.K) eqP := fun E c A st σ H v w x y Qp Q I hx hy ⟨h1, h2, h3, h4, h5⟩ k =>
  ⟨_, _, hx.dp h1, hy.dp h2, toD_shaped h1 h3, toD_shaped h2 h4, by rw [toD_eqv h1 h2]; exact k _ _ H h5 I .refl (.bl _)⟩
theorem pure_ne : PureO M (rNeD M.K) neP := fun E c A st σ H v w x y Qp Q I hx hy ⟨h1, h2, h3, h4, h5⟩ k =>
  ⟨_, _, hx.dp h1, hy.dp h2, toD_shaped h1 h3, toD_shaped h2 h4, by rw [toD_eqv h1 h2]; exact k _ _ H h5 I .refl (.bl _)⟩
theorem pure_add : PureO M (fun x y H Q => (rI0 (fun i j => .int (i + j)) x y H Q ∨ rCat x y H Q) ∨ ∃ i j, x = .str i ∧ y = .str j ∧ i.length + j.length ≤ sizeLine ∧ Q (.str (i ++ j)) H) addP := by
  intro E c A st σ H v w x y Qp Q I hx hy h k
  unfold addP at h
  split at h
  · cases hx.int
    cases hy.int
    exact .inl (.inl ⟨_, _, rfl, rfl, k _ _ H h I .refl (.int _)⟩)
  · obtain ⟨a, vs, rfl, e1, r1⟩ := hx.lst
    obtain ⟨b, ws, rfl, e2, r2⟩ := hy.lst
    exact .inl (.inr ⟨a, b, vs, ws, rfl, rfl, e1, e2, by rw [r1.length, r2.length]; exact h.1, I.fin k h.2 (r1.app r2)⟩)
  · cases hx.str
    cases hy.str
    exact .inr ⟨_, _, rfl, rfl, h.1, k _ _ H h.2 I .refl (.str _)⟩
  · exact h.elim
theorem RepL.rep {p : Option Addr} {O : Addr → Prop} {H : Hp} {vs : List V} {xs : List PV} (r : RepL M p O H vs xs) : ∀ n : Nat, RepL M p O H (List.replicate n vs).flatten (List.replicate n xs).flatten
  | 0 => .nil
  | n + 1 => by
    rw [List.replicate_succ, List.replicate_succ, List.flatten_cons, List.flatten_cons]
    exact r.app (r.rep n)
theorem pure_sub : PureO M (rI0 fun i j => .int (i - j)) subP := by
  intro E c A st σ H v w x y Qp Q I hx hy h k
  unfold subP at h
  split at h
  · cases hx.int
    cases hy.int
    exact ⟨_, _, rfl, rfl, k _ _ H h I .refl (.int _)⟩
  · exact h.elim
theorem pure_mul : PureO M (fun x y H Q => rI CMulW (fun i j => .int (i * j)) x y H Q ∨ rRep x y H Q) mulP := by
  intro E c A st σ H v w x y Qp Q I hx hy h k
  unfold mulP at h
  split at h
  · cases hx.int
    cases hy.int
    exact .inl ⟨_, _, rfl, rfl, h.1, k _ _ H h.2 I .refl (.int _)⟩
  · obtain ⟨a, vs, rfl, e1, r1⟩ := hx.lst
    cases hy.int
    obtain ⟨h1, h2, h3, h4⟩ := h
    exact .inr ⟨a, _, vs, rfl, rfl, e1, h1, h2, by rw [r1.length]; exact h3, I.fin k h4 (r1.rep _)⟩
  · exact h.elim
theorem pure_fdv : PureO M (rI CDivNW fun i j => .int (i.fdiv j)) fdvP := by
  intro E c A st σ H v w x y Qp Q I hx hy h k
  unfold fdvP at h
  split at h
  · cases hx.int
    cases hy.int
    exact ⟨_, _, rfl, rfl, h.1, k _ _ H h.2 I .refl (.int _)⟩
  · exact h.elim
theorem pure_mod : PureO M (rI (fun _ j => 0 < j) fun i j => .int (i % j)) modP := by
  intro E c A st σ H v w x y Qp Q I hx hy h k
  unfold modP at h
  split at h
  · cases hx.int
    cases hy.int
    exact ⟨_, _, rfl, rfl, h.1, k _ _ H h.2 I .refl (.int _)⟩
  · exact h.elim
theorem pure_pow : PureO M (rI CPowW fun i j => .int (i ^ j.toNat)) powP := by
  intro E c A st σ H v w x y Qp Q I hx hy h k
  unfold powP at h
  split at h
  · cases hx.int
    cases hy.int
    exact ⟨_, _, rfl, rfl, h.1, k _ _ H h.2 I .refl (.int _)⟩
  · exact h.elim
theorem pure_ord {f : Int → Int → Bool} : PureO M (rI0 fun i j => .bl (f i j)) (ordP f) := by
  intro E c A st σ H v w x y Qp Q I hx hy h k
  unfold ordP at h
  split at h
  · cases hx.int
    cases hy.int
    exact ⟨_, _, rfl, rfl, k _ _ H h I .refl (.bl _)⟩
  · exact h.elim
theorem Peek.isN {c : PCx} {A : Nat → Addr} {st : PSt} {H : Hp} {v : V} {x : PV} (h : Peek M c A st H v x) : decide (v = .non) = x.isN := by
  rcases h with h | ⟨_, o, _, rfl, rfl, _⟩
  · cases h <;> rfl
  · cases o <;> rfl
theorem pure_isN : PureO M (fun x y H Q => y = .non ∧ Q (.bl (decide (x = .non))) H) (isNP false) := by
  intro E c A st σ H v w x y Qp Q I hx hy h k
  unfold isNP at h
  split at h
  · cases hy.non
    refine ⟨rfl, ?_⟩
    rw [hx.isN]
    rw [Bool.false_bne] at h
    exact k _ _ H h I .refl (.bl _)
  · exact h.elim
theorem pure_notN : PureO M (fun x y H Q => y = .non ∧ Q (.bl (!decide (x = .non))) H) (isNP true) := by
  intro E c A st σ H v w x y Qp Q I hx hy h k
  unfold isNP at h
  split at h
  · cases hy.non
    refine ⟨rfl, ?_⟩
    rw [hx.isN]
    rw [Bool.true_bne] at h
    exact k _ _ H h I .refl (.bl _)
  · exact h.elim
end
section
variable {X : Cx} {M : Pm} {E : XK} {a b : Expr} {pos : Pos} {ta tb : PTE}
theorem pp_add (ha : PK X M E a ta) (hb : PK X M E b tb) : PP X M E (.BinOp a .Add b pos) (pOp addP ta tb) := pp_op ((op_add.or op_cat).or op_add_str) pure_add ha hb
theorem pp_sub (ha : PK X M E a ta) (hb : PK X M E b tb) : PP X M E (.BinOp a .Sub b pos) (pOp subP ta tb) := pp_op op_sub pure_sub ha hb
theorem pp_mul (ha : PK X M E a ta) (hb : PK X M E b tb) : PP X M E (.BinOp a .Mult b pos) (pOp mulP ta tb) := pp_op (op_mulW.or op_rep) pure_mul ha hb
theorem pp_fdv (ha : PK X M E a ta) (hb : PK X M E b tb) : PP X M E (.BinOp a .FloorDiv b pos) (pOp fdvP ta tb) := pp_op op_fdivNW pure_fdv ha hb
theorem pp_mod (ha : PK X M E a ta) (hb : PK X M E b tb) : PP X M E (.BinOp a .Mod b pos) (pOp modP ta tb) := pp_op op_mod pure_mod ha hb
theorem pp_pow (ha : PK X M E a ta) (hb : PK X M E b tb) : PP X M E (.BinOp a .Pow b pos) (pOp powP ta tb) := pp_op op_powW pure_pow ha hb
/-- the comparisons, as operators -/
inductive CmpP (X : Cx) (M : Pm) : CmpOp → (PV → PV → (PV → Prop) → Prop) → Prop
  | mk {op : CmpOp} {r : R2} {rp : PV → PV → (PV → Prop) → Prop} (ho : OpR X (compareOp op) r) (hp : PureO M r rp) : CmpP X M op rp
theorem c_eq (h : X.K = M.K) (hu : X.A.units + 64 < cLine) : CmpP X M .Eq eqP := .mk (op_eqD hu) (by rw [h]; exact pure_eq)
theorem c_ne (h : X.K = M.K) (hu : X.A.units + 64 < cLine) : CmpP X M .NotEq neP := .mk (op_neD hu) (by rw [h]; exact pure_ne)
theorem c_lt : CmpP X M .Lt (ordP fun i j => decide (i < j)) := .mk op_lt pure_ord
theorem c_le : CmpP X M .LtE (ordP fun i j => decide (i ≤ j)) := .mk op_le pure_ord
theorem c_gt : CmpP X M .Gt (ordP fun i j => decide (j < i)) := .mk op_gt pure_ord
theorem c_ge : CmpP X M .GtE (ordP fun i j => decide (j ≤ i)) := .mk op_ge pure_ord
theorem c_isN : CmpP X M .Is (isNP false) := .mk op_isN pure_isN
theorem c_notN : CmpP X M .IsNot (isNP true) := .mk op_notN pure_notN
theorem pp_cmpC {op : CmpOp} {rp : PV → PV → (PV → Prop) → Prop} (C : CmpP X M op rp) (ha : PK X M E a ta) (hb : PK X M E b tb) (hm : behindInMarks op b = false := by rfl) : PP X M E (.Compare a [op] [b] pos) (pOp rp ta tb) := by
  cases C with
  | mk ho hp => exact pp_cmp ho hp ha hb hm
theorem pt_cmpC {op : CmpOp} {rp : PV → PV → (PV → Prop) → Prop} (C : CmpP X M op rp) (ha : PK X M E a ta) (hb : PK X M E b tb) (hm : behindInMarks op b = false := by rfl) : PPT X M E (.Compare a [op] [b] pos) (pTest (pOp rp ta tb)) := by
  cases C with
  | mk ho hp => exact pt_cmpP ho hp ha hb hm
end
end My
namespace My
open PySem L2
/-! ### what is walked -/
abbrev PTI := PSt → (List PV → PSt → Prop) → Prop
/-- the walk J gives the trees xs as long as Ev holds of the heap -/
def ItOk (M : Pm) (p : Option Addr) (Ev : (Addr → Prop) → Hp → Prop) (J : It) (xs : List PV) : Prop := ∃ (G : Hp → Prop) (Y : Nat → Hp → V → Hp → Prop), Walk J xs.length G Y ∧ (∀ O H, Ev O H → G H) ∧
  ∀ O H i v H', Ev O H → i < xs.length → Y i H v H' → Same H H' ∧ ∃ x, xs[i]? = some x ∧ Rep M p O H' v x
def EvS (C : Addr) (O : Addr → Prop) (H : Hp) : (Addr → Prop) → Hp → Prop := fun O' H' => Mv C O H O' H'
def EvK (c : PCx) (O : Addr → Prop) (H : Hp) : (Addr → Prop) → Hp → Prop := fun O' H' => Keeps c H H' ∧ ∀ b u, H b = some u → NoT u → O' b → O b
/-- over what stands still (a for), over what is looked at (a comprehension) -/
def LiftI (M : Pm) (E : XK) (ti : PTI) : TI := fun σ H R => ∃ c A st Qp, REnv M E c A st σ H ∧ ti st Qp ∧ ∀ xs st' H' J, Qp xs st' → REnv M E c A st' σ H' → Keeps c H H' → Less st'.sl st.sl → ItOk M c.p (EvS M.C (Av c A st'.sl) H') J xs → R J H'
def LiftJ (M : Pm) (E : XK) (ti : PTI) : TI := fun σ H R => ∃ c A st Qp, REnv M E c A st σ H ∧ ti st Qp ∧ ∀ xs st' H' J, Qp xs st' → REnv M E c A st' σ H' → Keeps c H H' → Less st'.sl st.sl → ItOk M c.p (EvK c (Av c A st'.sl) H') J xs → R J H'
abbrev PIs (X : Cx) (M : Pm) (E : XK) (tg e : Expr) (t : PTI) : Prop := PI X tg e (LiftI M E t)
abbrev PIk (X : Cx) (M : Pm) (E : XK) (tg e : Expr) (t : PTI) : Prop := PI X tg e (LiftJ M E t)
theorem imI {X : Cx} {tg e : Expr} {t t' : TI} (h : PI X tg e t) (k : ∀ σ H Q, t' σ H Q → t σ H Q) : PI X tg e t' := ⟨fun pins s σ H Q I q => h.run pins s σ H Q I (k σ H Q q)⟩
theorem orI {X : Cx} {tg e : Expr} {t t' : TI} (h : PI X tg e t) (h' : PI X tg e t') : PI X tg e (fun σ H Q => t σ H Q ∨ t' σ H Q) := ⟨fun pins s σ H Q I q => q.elim (h.run pins s σ H Q I) (h'.run pins s σ H Q I)⟩
/-- a list's, a tuple's trees -/
def PV.seq : PV → Option (List PV)
  | .lst xs => some xs
  | .tup xs => some xs
  | .ktup xs => some xs
  | _ => none
section
variable {M : Pm} {p : Option Addr}
theorem itok_list {K : PySem.W.Frag} {Ev : (Addr → Prop) → Hp → Prop} {a : Addr} {vs : List V} {xs : List PV} (h : ∀ O H, Ev O H → H a = some (.lst vs) ∧ RepL M p O H vs xs) (hl : vs.length = xs.length) : ItOk M p Ev (Itl K a) xs := by
  refine ⟨fun H => SqL K H a vs, YAt vs, ?_, fun O H e => SqL.of (h O H e).1, fun O H i v H' e hi hy => ?_⟩
  · rw [← hl]
    exact walk_list
  · obtain ⟨e1, e2⟩ := hy
    subst e1
    obtain ⟨x, h1, h2⟩ := (h O _ e).2.getV e2
    exact ⟨same_refl, x, h1, h2⟩
theorem itok_tup {K : PySem.W.Frag} {Ev : (Addr → Prop) → Hp → Prop} {a : Addr} {vs : List V} {xs : List PV} (h : ∀ O H, Ev O H → SqT K H a vs ∧ RepL M p O H vs xs) (hl : vs.length = xs.length) : ItOk M p Ev (Itt K a) xs := by
  refine ⟨fun H => SqT K H a vs, YAt vs, ?_, fun O H e => (h O H e).1, fun O H i v H' e hi hy => ?_⟩
  · rw [← hl]
    exact walk_tup
  · obtain ⟨e1, e2⟩ := hy
    subst e1
    obtain ⟨x, h1, h2⟩ := (h O _ e).2.getV e2
    exact ⟨same_refl, x, h1, h2⟩
theorem itok_range {Ev : (Addr → Prop) → Hp → Prop} {lo : Int} {n : Nat} : ItOk M p Ev (Itr lo n) ((List.range n).map fun i : Nat => .int (lo + i)) := by
  have hl : ((List.range n).map fun i : Nat => PV.int (lo + i)).length = n := by rw [List.length_map, List.length_range]
  refine ⟨fun _ => True, YFn fun i => .int (lo + i), by rw [hl]; exact walk_range, fun _ _ _ => trivial, fun O H i v H' _ hi hy => ?_⟩
  obtain ⟨e1, e2⟩ := hy
  subst e1
  subst e2
  rw [hl] at hi
  refine ⟨same_refl, _, ?_, .int _⟩
  rw [List.getElem?_map, List.getElem?_range hi]
  rfl
/-- pairs that are made anew -/
theorem itok_pair {J : It} {Ev : (Addr → Prop) → Hp → Prop} {n : Nat} {G : Hp → Prop} {fx fy : Nat → Option V} {gx gy : Nat → Option PV} {zs : List PV} (hn : zs.length = n) (w : Walk J n G (YPair fx fy)) (hG : ∀ O H, Ev O H → G H)
    (hz : ∀ i x y, i < n → gx i = some x → gy i = some y → zs[i]? = some (.tup [x, y])) (hx : ∀ O H i v, Ev O H → fx i = some v → ∃ x, gx i = some x ∧ Rep M p O H v x) (hy : ∀ O H i v, Ev O H → fy i = some v → ∃ x, gy i = some x ∧ Rep M p O H v x) : ItOk M p Ev J zs := by
  subst hn
  refine ⟨_, _, w, hG, fun O H i v H' e hi ⟨T, x, y, e1, nT, e2, e3, e4⟩ => ?_⟩
  subst e1
  subst e2
  obtain ⟨x', hx1, hx2⟩ := hx O H i x e e3
  obtain ⟨y', hy1, hy2⟩ := hy O H i y e e4
  exact ⟨same_upd3 nT, _, hz i x' y' hi hx1 hy1, .tup upd_same (.cons (hx2.new nT) (.cons (hy2.new nT) .nil))⟩
end
section
variable {M : Pm} {E : XK} {c : PCx} {A : Nat → Addr} {st : PSt} {σ : L2.St} {H : Hp} {v : V} {x : PV} {xs : List PV}
/-- a looked-at list, while nothing is written -/
theorem Peek.lstK (I : REnv M E c A st σ H) (h : Peek M c A st H v (.lst xs)) : ∃ a vs, v = .ref a ∧ vs.length = xs.length ∧ ∀ O' H', EvK c (Av c A st.sl) H O' H' → H' a = some (.lst vs) ∧ RepL M c.p O' H' vs xs := by
  rcases h with h | ⟨i, o, e1, rfl, e2, ho, e3, r⟩
  · cases h with
    | @lst a vs _ e n r => exact ⟨a, vs, rfl, r.length, fun O' H' k => ⟨k.1 _ _ e (fun z => n (.inl (I.sb _ z))) not_lst, r.mv (I.mvK2 k.1 k.2)⟩⟩
  · cases o with
    | lst zs =>
      cases e2
      obtain ⟨vs, rfl, r⟩ := r
      exact ⟨A i, vs, rfl, r.length, fun O' H' k => ⟨k.1 _ _ e3 (fun z => (I.fr i _ e1).1 (I.sb _ z)) not_lst, r.mv (I.mvK2 k.1 k.2)⟩⟩
    | _ => cases e2
theorem Peek.tupK (I : REnv M E c A st σ H) (h : Peek M c A st H v (.tup xs)) : ∃ a vs, v = .ref a ∧ vs.length = xs.length ∧ ∀ O' H', EvK c (Av c A st.sl) H O' H' → SqT M.K H' a vs ∧ RepL M c.p O' H' vs xs := by
  rcases h with h | ⟨i, o, e1, rfl, e2, ho, e3, r⟩
  · cases h with
    | @tup a vs _ e r => exact ⟨a, vs, rfl, r.length, fun O' H' k => ⟨SqT.of (((I.mvK2 k.1 k.2).h _ _ e not_tup).resolve_right fun z => z.2), r.mv (I.mvK2 k.1 k.2)⟩⟩
  · cases o <;> cases e2
/-- a told one, whatever is written of what is owned -/
theorem Rep.lstS {O : Addr → Prop} {p : Option Addr} (h : Rep M p O H v (.lst xs)) : ∃ a vs, v = .ref a ∧ vs.length = xs.length ∧ ∀ O' H', EvS M.C O H O' H' → H' a = some (.lst vs) ∧ RepL M p O' H' vs xs := by
  cases h with
  | @lst a vs _ e1 n r => exact ⟨a, vs, rfl, r.length, fun O' H' k => ⟨(k.h _ _ e1 not_lst).resolve_right fun z => n z.1, r.mv k⟩⟩
theorem Rep.tupS {O : Addr → Prop} {p : Option Addr} (h : Rep M p O H v (.tup xs)) : ∃ a vs, v = .ref a ∧ vs.length = xs.length ∧ ∀ O' H', EvS M.C O H O' H' → SqT M.K H' a vs ∧ RepL M p O' H' vs xs := by
  cases h with
  | @tup a vs _ e1 r => exact ⟨a, vs, rfl, r.length, fun O' H' k => ⟨SqT.of ((k.h _ _ e1 not_tup).resolve_right fun z => z.2), r.mv k⟩⟩
theorem Peek.ktupK (I : REnv M E c A st σ H) (h : Peek M c A st H v (.ktup xs)) : ∃ a vs, v = .ref a ∧ vs.length = xs.length ∧ ∀ O' H', EvK c (Av c A st.sl) H O' H' → SqT M.K H' a vs ∧ RepL M c.p O' H' vs xs := by
  rcases h with h | ⟨i, o, e1, rfl, e2, ho, e3, r⟩
  · cases h with
    | @stup a vs _ e r => exact ⟨a, vs, rfl, r.length, fun O' H' k => ⟨e _, r.mv (I.mvK2 k.1 k.2)⟩⟩
  · cases o <;> cases e2
theorem Rep.ktupS {O : Addr → Prop} {p : Option Addr} (h : Rep M p O H v (.ktup xs)) : ∃ a vs, v = .ref a ∧ vs.length = xs.length ∧ ∀ O' H', EvS M.C O H O' H' → SqT M.K H' a vs ∧ RepL M p O' H' vs xs := by
  cases h with
  | @stup a vs _ e1 r => exact ⟨a, vs, rfl, r.length, fun O' H' k => ⟨e1 _, r.mv k⟩⟩
theorem EvK.rfl' {c : PCx} {O : Addr → Prop} {H : Hp} : EvK c O H O H := ⟨.refl, fun _ _ _ _ h => h⟩
theorem EvS.rfl' {C : Addr} {O : Addr → Prop} {H : Hp} : EvS C O H O H := .refl
end
def rngP (lo : Int) (n : Nat) : List PV := (List.range n).map fun i : Nat => .int (lo + i)
def iRange1 (ts : PTA) : PTI := fun st Q => ts st fun xs s1 => ∃ j : Int, xs = [.int j] ∧ -(2 ^ 62) ≤ j ∧ j < 2 ^ 62 ∧ Q (rngP 0 j.toNat) s1
def iRange2 (ts : PTA) : PTI := fun st Q => ts st fun xs s1 => ∃ i j : Int, xs = [.int i, .int j] ∧ (-(2 ^ 62) ≤ i ∧ i < 2 ^ 62 ∧ -(2 ^ 62) ≤ j ∧ j < 2 ^ 62) ∧ Q (rngP i (j - i).toNat) s1
def enumP (lo : Int) (xs : List PV) : List PV := (List.range xs.length).zipWith (fun (i : Nat) x => .tup [.int (lo + i), x]) xs
def zipP (xs ys : List PV) : List PV := List.zipWith (fun x y => .tup [x, y]) xs ys
/-- a list, a tuple that an expression hands over -/
def iLstP (t : PTE) : PTI := fun st Q => t st fun x s1 => ∃ xs, x = .lst xs ∧ Q xs s1
def iTupP (t : PTE) : PTI := fun st Q => t st fun x s1 => ∃ xs, (x = .tup xs ∨ x = .ktup xs) ∧ Q xs s1
/-- what a slot holds; for a for: told from now on -/
def slSeq : Option PSl → Option (List PV)
  | some (.sh x) => x.seq
  | some (.own (.lst xs)) => some xs
  | _ => none
def iVarK (i : Nat) : PTI := fun st Q => ∃ xs, slSeq st.sl[i]? = some xs ∧ Q xs st
def iVarS (i : Nat) : PTI := fun st Q => ∃ x xs, st.sl[i]? = some (.sh x) ∧ x.seq = some xs ∧ Q xs st
def iEnumL (ts : PTA) : PTI := fun st Q => ts st fun ys s1 => ∃ xs, ys = [.lst xs] ∧ Q (enumP 0 xs) s1
def iEnumTu (ts : PTA) : PTI := fun st Q => ts st fun ys s1 => ∃ xs, ys = [.tup xs] ∧ Q (enumP 0 xs) s1
def iZipLL (ts : PTA) : PTI := fun st Q => ts st fun zs s1 => ∃ xs ys, zs = [.lst xs, .lst ys] ∧ Q (zipP xs ys) s1
def iZipTT (ts : PTA) : PTI := fun st Q => ts st fun zs s1 => ∃ xs ys, zs = [.tup xs, .tup ys] ∧ Q (zipP xs ys) s1
def iZipTL (ts : PTA) : PTI := fun st Q => ts st fun zs s1 => ∃ xs ys, zs = [.tup xs, .lst ys] ∧ Q (zipP xs ys) s1
theorem enumP_len (lo : Int) (xs : List PV) : (enumP lo xs).length = xs.length := by
  unfold enumP
  rw [List.length_zipWith, List.length_range, Nat.min_self]
theorem enumP_get {lo : Int} {xs : List PV} {i : Nat} {x : PV} (h : xs[i]? = some x) : (enumP lo xs)[i]? = some (.tup [.int (lo + i), x]) := by
  have hi := (List.getElem?_eq_some_iff.mp h).1
  unfold enumP
  rw [List.getElem?_zipWith, List.getElem?_range hi, h]
theorem zipP_len (xs ys : List PV) : (zipP xs ys).length = min xs.length ys.length := List.length_zipWith
theorem zipP_get {xs ys : List PV} {i : Nat} {x y : PV} (h : xs[i]? = some x) (k : ys[i]? = some y) : (zipP xs ys)[i]? = some (.tup [x, y]) := by
  unfold zipP
  rw [List.getElem?_zipWith, h, k]
section
variable {M : Pm} {p : Option Addr} {K : PySem.W.Frag} {Ev : (Addr → Prop) → Hp → Prop} {a b : Addr} {vs ws : List V} {xs ys : List PV}
theorem itok_enumL (h : ∀ O H, Ev O H → H a = some (.lst vs) ∧ RepL M p O H vs xs) (hl : vs.length = xs.length) : ItOk M p Ev (Ite K a) (enumP 0 xs) :=
  itok_pair (gx := fun i => some (.int (0 + (i : Nat)))) (gy := fun i => xs[i]?) (by rw [enumP_len, hl]) walk_enum (fun O H e => SqL.of (h O H e).1) (fun i x y hi e1 e2 => by cases e1; exact enumP_get e2)
    (fun O H i v e e1 => by cases e1; exact ⟨_, rfl, by rw [Int.zero_add]; exact .int _⟩) (fun O H i v e e1 => (h O H e).2.getV e1)
theorem itok_enumT (h : ∀ O H, Ev O H → SqT K H a vs ∧ RepL M p O H vs xs) (hl : vs.length = xs.length) : ItOk M p Ev (IteT K a) (enumP 0 xs) :=
  itok_pair (gx := fun i => some (.int (0 + (i : Nat)))) (gy := fun i => xs[i]?) (by rw [enumP_len, hl]) walk_enumT (fun O H e => (h O H e).1) (fun i x y hi e1 e2 => by cases e1; exact enumP_get e2)
    (fun O H i v e e1 => by cases e1; exact ⟨_, rfl, by rw [Int.zero_add]; exact .int _⟩) (fun O H i v e e1 => (h O H e).2.getV e1)
theorem itok_zipLL (h : ∀ O H, Ev O H → H a = some (.lst vs) ∧ RepL M p O H vs xs) (hl : vs.length = xs.length) (h2 : ∀ O H, Ev O H → H b = some (.lst ws) ∧ RepL M p O H ws ys) (hl2 : ws.length = ys.length) : ItOk M p Ev (Itz K a b) (zipP xs ys) :=
  itok_pair (gx := fun i => xs[i]?) (gy := fun i => ys[i]?) (by rw [zipP_len, hl, hl2]) (walk_zip rfl) (fun O H e => ⟨SqL.of (h O H e).1, SqL.of (h2 O H e).1⟩) (fun i x y hi e1 e2 => zipP_get e1 e2)
    (fun O H i v e e1 => (h O H e).2.getV e1) (fun O H i v e e1 => (h2 O H e).2.getV e1)
theorem itok_zipTL (h : ∀ O H, Ev O H → SqT K H a vs ∧ RepL M p O H vs xs) (hl : vs.length = xs.length) (h2 : ∀ O H, Ev O H → H b = some (.lst ws) ∧ RepL M p O H ws ys) (hl2 : ws.length = ys.length) : ItOk M p Ev (ItzM K a b) (zipP xs ys) :=
  itok_pair (gx := fun i => xs[i]?) (gy := fun i => ys[i]?) (by rw [zipP_len, hl, hl2]) (walk_zipM rfl) (fun O H e => ⟨(h O H e).1, SqL.of (h2 O H e).1⟩) (fun i x y hi e1 e2 => zipP_get e1 e2)
    (fun O H i v e e1 => (h O H e).2.getV e1) (fun O H i v e e1 => (h2 O H e).2.getV e1)
end
section
variable {X : Cx} {M : Pm} {E : XK} {tg e e2 : Expr} {t : PTE} {ts : PTA} {p pos tpos : Pos} {elts : List Expr} {kk : Nat}
theorem pi_LK (hK : X.K = M.K) (h : PK X M E e t) : PIk X M E tg e (iLstP t) :=
  imI (pi_list h) fun σ H R ⟨c, A, st, Qp, I, q, k⟩ => ⟨c, A, st, _, I, q, fun x s1 v H1 ⟨xs, e1, q1⟩ I1 k1 l1 r1 => by
    subst e1
    obtain ⟨a, vs, rfl, hl, h⟩ := r1.lstK I1
    exact ⟨a, rfl, ⟨vs, SqL.of (h _ _ EvK.rfl').1⟩, k xs s1 H1 _ q1 I1 k1 l1 (itok_list h hl)⟩⟩
theorem pi_TK (hK : X.K = M.K) (h : PK X M E e t) : PIk X M E tg e (iTupP t) :=
  imI (pi_tup h) fun σ H R ⟨c, A, st, Qp, I, q, k⟩ => ⟨c, A, st, _, I, q, fun x s1 v H1 ⟨xs, e1, q1⟩ I1 k1 l1 r1 => by
    obtain ⟨a, vs, rfl, hl, h⟩ : ∃ a vs, v = .ref a ∧ vs.length = xs.length ∧ ∀ O' H', EvK c (Av c A s1.sl) H1 O' H' → SqT M.K H' a vs ∧ RepL M c.p O' H' vs xs := by
      rcases e1 with rfl | rfl
      · exact r1.tupK I1
      · exact r1.ktupK I1
    rw [hK]
    exact ⟨a, rfl, ⟨vs, (h _ _ EvK.rfl').1⟩, k xs s1 H1 _ q1 I1 k1 l1 (itok_tup h hl)⟩⟩
theorem pi_LS (hK : X.K = M.K) (h : PP X M E e t) : PIs X M E tg e (iLstP t) :=
  imI (pi_list h) fun σ H R ⟨c, A, st, Qp, I, q, k⟩ => ⟨c, A, st, _, I, q, fun x s1 v H1 ⟨xs, e1, q1⟩ I1 k1 l1 r1 => by
    subst e1
    obtain ⟨a, vs, rfl, hl, h⟩ := r1.lstS
    exact ⟨a, rfl, ⟨vs, SqL.of (h _ _ EvS.rfl').1⟩, k xs s1 H1 _ q1 I1 k1 l1 (itok_list h hl)⟩⟩
theorem pi_TS (hK : X.K = M.K) (h : PP X M E e t) : PIs X M E tg e (iTupP t) :=
  imI (pi_tup h) fun σ H R ⟨c, A, st, Qp, I, q, k⟩ => ⟨c, A, st, _, I, q, fun x s1 v H1 ⟨xs, e1, q1⟩ I1 k1 l1 r1 => by
    obtain ⟨a, vs, rfl, hl, h⟩ : ∃ a vs, v = .ref a ∧ vs.length = xs.length ∧ ∀ O' H', EvS M.C (Av c A s1.sl) H1 O' H' → SqT M.K H' a vs ∧ RepL M c.p O' H' vs xs := by
      rcases e1 with rfl | rfl
      · exact r1.tupS
      · exact r1.ktupS
    rw [hK]
    exact ⟨a, rfl, ⟨vs, (h _ _ EvS.rfl').1⟩, k xs s1 H1 _ q1 I1 k1 l1 (itok_tup h hl)⟩⟩
theorem liftJ_im {t t' : PTI} (h : PIk X M E tg e t) (k : ∀ st Q, t' st Q → t st Q) : PIk X M E tg e t' := imI h fun σ H Q ⟨c, A, st, Qp, I, q, z⟩ => ⟨c, A, st, Qp, I, k _ _ q, z⟩
theorem liftI_im {t t' : PTI} (h : PIs X M E tg e t) (k : ∀ st Q, t' st Q → t st Q) : PIs X M E tg e t' := imI h fun σ H Q ⟨c, A, st, Qp, I, q, z⟩ => ⟨c, A, st, Qp, I, k _ _ q, z⟩
/-- one of two readings, told ahead by the slots -/
theorem pik_or {t u : PTI} (h : PIk X M E tg e t) (k : PIk X M E tg e u) : PIk X M E tg e (fun st Q => t st Q ∨ u st Q) :=
  imI (orI h k) fun σ H R ⟨c, A, st, Qp, I, q, z⟩ => q.elim (fun q => .inl ⟨c, A, st, Qp, I, q, z⟩) fun q => .inr ⟨c, A, st, Qp, I, q, z⟩
theorem pis_or {t u : PTI} (h : PIs X M E tg e t) (k : PIs X M E tg e u) : PIs X M E tg e (fun st Q => t st Q ∨ u st Q) :=
  imI (orI h k) fun σ H R ⟨c, A, st, Qp, I, q, z⟩ => q.elim (fun q => .inl ⟨c, A, st, Qp, I, q, z⟩) fun q => .inr ⟨c, A, st, Qp, I, q, z⟩
theorem pi_vK {i : Nat} (hK : X.K = M.K) (h : PE X e (tVar i)) : PIk X M E tg e (iVarK i) :=
  liftJ_im (pik_or (pi_LK hK (pk_v h)) (pi_TK hK (pk_v h))) fun st Q ⟨xs, h1, h2⟩ => by
    unfold iLstP iTupP rdK
    cases hs : st.sl[i]? with
    | none =>
      rw [hs] at h1
      cases h1
    | some s =>
      rw [hs] at h1
      cases s with
      | sh x =>
        cases x with
        | lst ys =>
          cases h1
          exact .inl ⟨_, rfl, h2⟩
        | tup ys =>
          cases h1
          exact .inr ⟨_, .inl rfl, h2⟩
        | ktup ys =>
          cases h1
          exact .inr ⟨_, .inr rfl, h2⟩
        | _ => cases h1
      | own o =>
        cases o with
        | lst ys =>
          cases h1
          exact .inl ⟨_, rfl, h2⟩
        | _ => cases h1
      | _ => cases h1
theorem pi_vS {i : Nat} (hK : X.K = M.K) (h : PE X e (tVar i)) : PIs X M E tg e (iVarS i) :=
  liftI_im (pis_or (pi_LS hK (pp_v h)) (pi_TS hK (pp_v h))) fun st Q ⟨x, xs, h1, h2, h3⟩ => by
    unfold iLstP iTupP rdV
    rw [h1]
    cases x with
    | lst ys =>
      cases h2
      exact .inl ⟨_, rfl, h3⟩
    | tup ys =>
      cases h2
      exact .inr ⟨_, .inl rfl, h3⟩
    | ktup ys =>
      cases h2
      exact .inr ⟨_, .inr rfl, h3⟩
    | _ => cases h2
theorem Peeks.one {c : PCx} {A : Nat → Addr} {st : PSt} {H : Hp} {vs : List V} {x : PV} (h : PeekL M c A st H vs [x]) : ∃ v, vs = [v] ∧ Peek M c A st H v x := by
  cases h with
  | cons r t =>
    cases t
    exact ⟨_, rfl, r⟩
theorem Peeks.two {c : PCx} {A : Nat → Addr} {st : PSt} {H : Hp} {vs : List V} {x y : PV} (h : PeekL M c A st H vs [x, y]) : ∃ v w, vs = [v, w] ∧ Peek M c A st H v x ∧ Peek M c A st H w y := by
  cases h with
  | cons r t =>
    obtain ⟨w, rfl, k⟩ := Peeks.one t
    exact ⟨_, w, rfl, r, k⟩
theorem Reps.one {p : Option Addr} {O : Addr → Prop} {H : Hp} {vs : List V} {x : PV} (h : RepL M p O H vs [x]) : ∃ v, vs = [v] ∧ Rep M p O H v x := by
  cases h with
  | cons r t =>
    cases t
    exact ⟨_, rfl, r⟩
theorem Reps.two {p : Option Addr} {O : Addr → Prop} {H : Hp} {vs : List V} {x y : PV} (h : RepL M p O H vs [x, y]) : ∃ v w, vs = [v, w] ∧ Rep M p O H v x ∧ Rep M p O H w y := by
  cases h with
  | cons r t =>
    obtain ⟨w, rfl, k⟩ := Reps.one t
    exact ⟨_, w, rfl, r, k⟩
/-! range, enumerate, zip -/
theorem pi_r1K (hg : Gl X "range") (hm : X.mg "range" = none) (h : PKA X M E [e] ts) (hs : starEach [e] X.env = [(false, eval e X.env)] := by rfl) : PIk X M E tg (.Call (.Name "range" p) [e] [] pos) (iRange1 ts) :=
  imI (pi_range1 hg hm h hs) fun σ H R ⟨c, A, st, Qp, I, q, k⟩ => ⟨c, A, st, _, I, q, fun xs s1 vs H1 ⟨j, e1, h1, h2, q1⟩ I1 k1 l1 r1 => by
    subst e1
    obtain ⟨v, rfl, r⟩ := Peeks.one r1
    cases r.int
    exact ⟨j, rfl, h1, h2, k _ s1 H1 _ q1 I1 k1 l1 itok_range⟩⟩
theorem pi_r1S (hg : Gl X "range") (hm : X.mg "range" = none) (h : PKA X M E [e] ts) (hs : starEach [e] X.env = [(false, eval e X.env)] := by rfl) : PIs X M E tg (.Call (.Name "range" p) [e] [] pos) (iRange1 ts) :=
  imI (pi_range1 hg hm h hs) fun σ H R ⟨c, A, st, Qp, I, q, k⟩ => ⟨c, A, st, _, I, q, fun xs s1 vs H1 ⟨j, e1, h1, h2, q1⟩ I1 k1 l1 r1 => by
    subst e1
    obtain ⟨v, rfl, r⟩ := Peeks.one r1
    cases r.int
    exact ⟨j, rfl, h1, h2, k _ s1 H1 _ q1 I1 k1 l1 itok_range⟩⟩
theorem pi_r2K (hg : Gl X "range") (hm : X.mg "range" = none) (h : PKA X M E [e, e2] ts) (hs : starEach [e, e2] X.env = [(false, eval e X.env), (false, eval e2 X.env)] := by rfl) (hs2 : starEach [e2] X.env = [(false, eval e2 X.env)] := by rfl) : PIk X M E tg (.Call (.Name "range" p) [e, e2] [] pos) (iRange2 ts) :=
  imI (pi_range2 hg hm h hs hs2) fun σ H R ⟨c, A, st, Qp, I, q, k⟩ => ⟨c, A, st, _, I, q, fun xs s1 vs H1 ⟨i, j, e1, h1, q1⟩ I1 k1 l1 r1 => by
    subst e1
    obtain ⟨v, w, rfl, r, r'⟩ := Peeks.two r1
    cases r.int
    cases r'.int
    exact ⟨i, j, rfl, h1, k _ s1 H1 _ q1 I1 k1 l1 itok_range⟩⟩
theorem pi_r2S (hg : Gl X "range") (hm : X.mg "range" = none) (h : PKA X M E [e, e2] ts) (hs : starEach [e, e2] X.env = [(false, eval e X.env), (false, eval e2 X.env)] := by rfl) (hs2 : starEach [e2] X.env = [(false, eval e2 X.env)] := by rfl) : PIs X M E tg (.Call (.Name "range" p) [e, e2] [] pos) (iRange2 ts) :=
  imI (pi_range2 hg hm h hs hs2) fun σ H R ⟨c, A, st, Qp, I, q, k⟩ => ⟨c, A, st, _, I, q, fun xs s1 vs H1 ⟨i, j, e1, h1, q1⟩ I1 k1 l1 r1 => by
    subst e1
    obtain ⟨v, w, rfl, r, r'⟩ := Peeks.two r1
    cases r.int
    cases r'.int
    exact ⟨i, j, rfl, h1, k _ s1 H1 _ q1 I1 k1 l1 itok_range⟩⟩
theorem pi_eLK (hg : Gl X "enumerate") (hm : X.mg "enumerate" = none) (h : PKA X M E [e] ts) (hs : starEach [e] X.env = [(false, eval e X.env)] := by rfl) : PIk X M E (.Tuple elts kk tpos) (.Call (.Name "enumerate" p) [e] [] pos) (iEnumL ts) :=
  imI (pi_enum hg hm h hs) fun σ H R ⟨c, A, st, Qp, I, q, k⟩ => ⟨c, A, st, _, I, q, fun ys s1 vs H1 ⟨xs, e1, q1⟩ I1 k1 l1 r1 => by
    subst e1
    obtain ⟨v, rfl, r⟩ := Peeks.one r1
    obtain ⟨a, ws, rfl, hl, h⟩ := r.lstK I1
    exact ⟨a, ws, rfl, SqL.of (h _ _ EvK.rfl').1, k _ s1 H1 _ q1 I1 k1 l1 (itok_enumL h hl)⟩⟩
theorem pi_eLS (hg : Gl X "enumerate") (hm : X.mg "enumerate" = none) (h : PPA X M E [e] ts) (hs : starEach [e] X.env = [(false, eval e X.env)] := by rfl) : PIs X M E (.Tuple elts kk tpos) (.Call (.Name "enumerate" p) [e] [] pos) (iEnumL ts) :=
  imI (pi_enum hg hm h hs) fun σ H R ⟨c, A, st, Qp, I, q, k⟩ => ⟨c, A, st, _, I, q, fun ys s1 vs H1 ⟨xs, e1, q1⟩ I1 k1 l1 r1 => by
    subst e1
    obtain ⟨v, rfl, r⟩ := Reps.one r1
    obtain ⟨a, ws, rfl, hl, h⟩ := r.lstS
    exact ⟨a, ws, rfl, SqL.of (h _ _ EvS.rfl').1, k _ s1 H1 _ q1 I1 k1 l1 (itok_enumL h hl)⟩⟩
theorem pi_eTK (hK : X.K = M.K) (hg : Gl X "enumerate") (hm : X.mg "enumerate" = none) (h : PKA X M E [e] ts) (hs : starEach [e] X.env = [(false, eval e X.env)] := by rfl) : PIk X M E (.Tuple elts kk tpos) (.Call (.Name "enumerate" p) [e] [] pos) (iEnumTu ts) :=
  imI (pi_enumT hg hm h hs) fun σ H R ⟨c, A, st, Qp, I, q, k⟩ => ⟨c, A, st, _, I, q, fun ys s1 vs H1 ⟨xs, e1, q1⟩ I1 k1 l1 r1 => by
    subst e1
    obtain ⟨v, rfl, r⟩ := Peeks.one r1
    obtain ⟨a, ws, rfl, hl, h⟩ := r.tupK I1
    rw [hK]
    exact ⟨a, ws, rfl, (h _ _ EvK.rfl').1, k _ s1 H1 _ q1 I1 k1 l1 (itok_enumT h hl)⟩⟩
theorem pi_eTS (hK : X.K = M.K) (hg : Gl X "enumerate") (hm : X.mg "enumerate" = none) (h : PPA X M E [e] ts) (hs : starEach [e] X.env = [(false, eval e X.env)] := by rfl) : PIs X M E (.Tuple elts kk tpos) (.Call (.Name "enumerate" p) [e] [] pos) (iEnumTu ts) :=
  imI (pi_enumT hg hm h hs) fun σ H R ⟨c, A, st, Qp, I, q, k⟩ => ⟨c, A, st, _, I, q, fun ys s1 vs H1 ⟨xs, e1, q1⟩ I1 k1 l1 r1 => by
    subst e1
    obtain ⟨v, rfl, r⟩ := Reps.one r1
    obtain ⟨a, ws, rfl, hl, h⟩ := r.tupS
    rw [hK]
    exact ⟨a, ws, rfl, (h _ _ EvS.rfl').1, k _ s1 H1 _ q1 I1 k1 l1 (itok_enumT h hl)⟩⟩
theorem pi_zLLK (hg : Gl X "zip") (hm : X.mg "zip" = none) (h : PKA X M E [e, e2] ts) (hs : starEach [e, e2] X.env = (false, eval e X.env) :: starEach [e2] X.env := by rfl) (hpl : (backTo pos (starEach [e2] X.env)).any (·.1) = false := by rfl) : PIk X M E (.Tuple elts kk tpos) (.Call (.Name "zip" p) [e, e2] [] pos) (iZipLL ts) :=
  imI (pi_zip hg hm h hs hpl) fun σ H R ⟨c, A, st, Qp, I, q, k⟩ => ⟨c, A, st, _, I, q, fun zs s1 vs H1 ⟨xs, ys, e1, q1⟩ I1 k1 l1 r1 => by
    subst e1
    obtain ⟨v, w, rfl, r, r'⟩ := Peeks.two r1
    obtain ⟨a, vs, rfl, hl, h⟩ := r.lstK I1
    obtain ⟨b, ws, rfl, hl2, h2⟩ := r'.lstK I1
    exact ⟨a, b, vs, ws, rfl, SqL.of (h _ _ EvK.rfl').1, SqL.of (h2 _ _ EvK.rfl').1, k _ s1 H1 _ q1 I1 k1 l1 (itok_zipLL h hl h2 hl2)⟩⟩
theorem pi_zLLS (hg : Gl X "zip") (hm : X.mg "zip" = none) (h : PPA X M E [e, e2] ts) (hs : starEach [e, e2] X.env = (false, eval e X.env) :: starEach [e2] X.env := by rfl) (hpl : (backTo pos (starEach [e2] X.env)).any (·.1) = false := by rfl) : PIs X M E (.Tuple elts kk tpos) (.Call (.Name "zip" p) [e, e2] [] pos) (iZipLL ts) :=
  imI (pi_zip hg hm h hs hpl) fun σ H R ⟨c, A, st, Qp, I, q, k⟩ => ⟨c, A, st, _, I, q, fun zs s1 vs H1 ⟨xs, ys, e1, q1⟩ I1 k1 l1 r1 => by
    subst e1
    obtain ⟨v, w, rfl, r, r'⟩ := Reps.two r1
    obtain ⟨a, vs, rfl, hl, h⟩ := r.lstS
    obtain ⟨b, ws, rfl, hl2, h2⟩ := r'.lstS
    exact ⟨a, b, vs, ws, rfl, SqL.of (h _ _ EvS.rfl').1, SqL.of (h2 _ _ EvS.rfl').1, k _ s1 H1 _ q1 I1 k1 l1 (itok_zipLL h hl h2 hl2)⟩⟩
theorem pi_zTLK (hK : X.K = M.K) (hg : Gl X "zip") (hm : X.mg "zip" = none) (h : PKA X M E [e, e2] ts) (hs : starEach [e, e2] X.env = (false, eval e X.env) :: starEach [e2] X.env := by rfl) (hpl : (backTo pos (starEach [e2] X.env)).any (·.1) = false := by rfl) : PIk X M E (.Tuple elts kk tpos) (.Call (.Name "zip" p) [e, e2] [] pos) (iZipTL ts) :=
  imI (pi_zipM hg hm h hs hpl) fun σ H R ⟨c, A, st, Qp, I, q, k⟩ => ⟨c, A, st, _, I, q, fun zs s1 vs H1 ⟨xs, ys, e1, q1⟩ I1 k1 l1 r1 => by
    subst e1
    obtain ⟨v, w, rfl, r, r'⟩ := Peeks.two r1
    obtain ⟨a, vs, rfl, hl, h⟩ := r.tupK I1
    obtain ⟨b, ws, rfl, hl2, h2⟩ := r'.lstK I1
    rw [hK]
    exact ⟨a, b, vs, ws, rfl, (h _ _ EvK.rfl').1, SqL.of (h2 _ _ EvK.rfl').1, k _ s1 H1 _ q1 I1 k1 l1 (itok_zipTL h hl h2 hl2)⟩⟩
end
end My
namespace My
open PySem L2
/-! ### targets -/
abbrev PTG := PV → PSt → (PSt → Prop) → Prop
abbrev PTGs := List PV → PSt → (PSt → Prop) → Prop
/-- only the slots vs are stored to -/
def Only (vs : List Nat) (sl' sl : List PSl) : Prop := ∀ i, i ∉ vs → sl'[i]? = sl[i]?
theorem Only.refl {vs : List Nat} {sl : List PSl} : Only vs sl sl := fun _ _ => rfl
def WipeEq (vs : List Nat) (σ' σ : L2.St) : Prop := ∀ ws : List Nat, (∀ i ∈ vs, i ∈ ws) → wipe σ' ws = wipe σ ws
def LiftG (M : Pm) (E : XK) (tg : PTG) (vs : List Nat) : TG := fun v σ H Q => ∃ c A st x Qp, REnv M E c A st σ H ∧ Rep M c.p (Av c A st.sl) H v x ∧ tg x st Qp ∧
  ∀ st' σ', Qp st' → REnv M E c A st' σ' H → Less st'.sl st.sl → Only vs st'.sl st.sl → WipeEq vs σ' σ → Q σ' H
def LiftGs (M : Pm) (E : XK) (tg : PTGs) (vs : List Nat) : TGs := fun v σ H Q => ∃ c A st x Qp, REnv M E c A st σ H ∧ RepL M c.p (Av c A st.sl) H v x ∧ tg x st Qp ∧
  ∀ st' σ', Qp st' → REnv M E c A st' σ' H → Less st'.sl st.sl → Only vs st'.sl st.sl → WipeEq vs σ' σ → Q σ' H
theorem imG {X : Cx} {e : Expr} {t t' : TG} (h : PG X e t) (k : ∀ v σ H Q, t' v σ H Q → t v σ H Q) : PG X e t' := ⟨fun pins s σ H v u Q I r q => h.run pins s σ H v u Q I r (k v σ H Q q)⟩
theorem imGs {X : Cx} {e : List Expr} {t t' : TGs} (h : PGs X e t) (k : ∀ v σ H Q, t' v σ H Q → t v σ H Q) : PGs X e t' := ⟨fun pins s σ H v u Q I r q => h.run pins s σ H v u Q I r (k v σ H Q q)⟩
theorem set_wipe (σ : L2.St) (i : Nat) (o : Option V) : ∀ vs : List Nat, i ∈ vs → wipe (σ.set i o) vs = wipe σ vs := by
  intro vs
  induction vs generalizing σ with
  | nil => exact fun h => nomatch h
  | cons v r ih =>
    intro h
    show (wipe (σ.set i o) r).set v none = (wipe σ r).set v none
    by_cases z : i ∈ r
    · rw [ih σ z]
    · have e : i = v := (List.mem_cons.mp h).resolve_right z
      subst e
      clear ih h
      have key : ∀ r : List Nat, i ∉ r → wipe (σ.set i o) r = (wipe σ r).set i o := by
        intro r
        induction r with
        | nil => exact fun _ => rfl
        | cons w t ih =>
          intro hz
          show (wipe (σ.set i o) t).set w none = ((wipe σ t).set w none).set i o
          rw [ih fun m => hz (.tail _ m), List.set_comm _ _ (fun e => hz (by rw [e]; exact .head _))]
      rw [key r z, List.set_set]
theorem wipe_wipe (σ : L2.St) : ∀ vs : List Nat, wipe (wipe σ vs) vs = wipe σ vs := by
  have key : ∀ (ws vs : List Nat) (σ : L2.St), (∀ i ∈ ws, i ∈ vs) → wipe (wipe σ ws) vs = wipe σ vs := by
    intro ws
    induction ws with
    | nil => exact fun _ _ _ => rfl
    | cons w r ih =>
      intro vs σ h
      show wipe ((wipe σ r).set w none) vs = wipe σ vs
      rw [set_wipe _ _ _ vs (h w (.head _)), ih vs σ fun i m => h i (.tail _ m)]
  exact fun vs => key vs vs σ fun _ h => h
def gNm (i : Nat) : PTG := fun x st Q => i < st.sl.length ∧ Q (st.put i (.sh x))
def gsNil : PTGs := fun xs st Q => xs = [] ∧ Q st
def gsCons (g : PTG) (gs : PTGs) : PTGs := fun xs st Q => ∃ x r, xs = x :: r ∧ g x st fun s1 => gs r s1 Q
def gTp (n : Nat) (gs : PTGs) : PTG := fun x st Q => ∃ xs, x = .tup xs ∧ xs.length = n ∧ gs xs st Q
section
variable {X : Cx} {M : Pm} {E : XK} {e : Expr} {es : List Expr} {pos : Pos}
theorem pg_nm {i : Nat} (h : PG X e (gName i)) : PG X e (LiftG M E (gNm i) [i]) :=
  imG h fun v σ H Q ⟨c, A, st, x, Qp, I, r, ⟨hi, q⟩, k⟩ => k _ _ q (I.put' hi r) (less_set fun _ h => PSl.noConfusion h) (fun j hj => List.getElem?_set_ne fun z => hj (by rw [← z]; exact .head _))
    fun ws hw => set_wipe σ i _ ws (hw i (.head _))
theorem pgs_nilP : PGs X [] (LiftGs M E gsNil []) := imGs pgs_nil fun v σ H Q ⟨c, A, st, x, Qp, I, r, ⟨e1, q⟩, k⟩ => by
  subst e1
  cases r
  exact ⟨rfl, k _ _ q I .refl .refl fun _ _ => rfl⟩
theorem REnv.mvL {c : PCx} {A : Nat → Addr} {st : PSt} {σ : L2.St} {H : Hp} (I : REnv M E c A st σ H) {sl' : List PSl} (l : Less sl' st.sl) : Mv M.C (Av c A st.sl) H (Av c A sl') H := I.mvK .refl fun b => l.av
theorem pgs_consP {g : PTG} {gs : PTGs} {vs ws : List Nat} (h : PG X e (LiftG M E g vs)) (h2 : PGs X es (LiftGs M E gs ws)) (hs : (assignEach (e :: es) X.env).map (·.2) = assign e X.env :: (assignEach es X.env).map (·.2) := by rfl) : PGs X (e :: es) (LiftGs M E (gsCons g gs) (vs ++ ws)) :=
  imGs (pgs_cons h h2 hs) fun v σ H Q ⟨c, A, st, x, Qp, I, r, ⟨x0, r0, e1, q⟩, k⟩ => by
    subst e1
    cases r with
    | cons ra rb =>
      refine ⟨_, _, rfl, c, A, st, x0, _, I, ra, q, fun s1 σ1 q1 I1 l1 o1 w1 => ⟨c, A, s1, r0, _, I1, rb.mv (I.mvL l1), q1, fun s2 σ2 q2 I2 l2 o2 w2 => ?_⟩⟩
      exact k s2 σ2 q2 I2 (l2.trans l1) (fun i hi => (o2 i fun m => hi (List.mem_append.mpr (.inr m))).trans (o1 i fun m => hi (List.mem_append.mpr (.inl m))))
        fun zs hz => (w2 zs fun i m => hz i (List.mem_append.mpr (.inr m))).trans (w1 zs fun i m => hz i (List.mem_append.mpr (.inl m)))
theorem RepL.len2 {p : Option Addr} {O : Addr → Prop} {H : Hp} {vs : List V} {xs : List PV} (r : RepL M p O H vs xs) : vs.length = xs.length := r.length
theorem pg_tp {gs : PTGs} {vs : List Nat} {kk n : Nat} (hK : X.K = M.K) (hc : X.calm = true) (h : PGs X es (LiftGs M E gs vs)) (hn : (assignEach es X.env).length = n := by rfl) (hst : (assignEach es X.env).findIdx? (·.1) = none := by rfl) : PG X (.Tuple es kk pos) (LiftG M E (gTp n gs) vs) :=
  imG (pg_tup hc h hn hst) fun v σ H Q ⟨c, A, st, x, Qp, I, r, ⟨xs, e1, hl, q⟩, k⟩ => by
    subst e1
    rw [hK]
    cases r with
    | @tup a vs' _ e2 r => exact ⟨a, vs', rfl, SqT.of e2, by rw [r.length, hl], c, A, st, xs, Qp, I, r, q, k⟩
end
/-! ### comprehensions -/
def wipeP (sl : List PSl) : List Nat → List PSl
  | [] => sl
  | v :: vs => (wipeP sl vs).set v .emp
def PSt.wipe (st : PSt) (vs : List Nat) : PSt := { st with sl := wipeP st.sl vs }
def turnC (tg : PTG) (tt : PTT) (te : PTE) (st0 : PSt) (x : PV) (n : Nat) (K : Option PV → Nat → Prop) : Prop :=
  tg x (st0.at n) fun s1 => tt s1 fun b s2 => s2.sl = s1.sl ∧ if b = true then te s2 fun y s3 => s3.sl = s1.sl ∧ K (some y) s3.n else K none s2.n
def goC (turn : PV → Nat → (Option PV → Nat → Prop) → Prop) : List PV → List PV → Nat → (List PV → Nat → Prop) → Prop
  | [], acc, n, Q => Q acc n
  | x :: r, acc, n, Q => turn x n fun o n' => match o with
    | some y => acc.length < sizeLine ∧ goC turn r (acc ++ [y]) n' Q
    | none => goC turn r acc n' Q
/-- none of the slots is owned -/
def PSl.free : Option PSl → Prop
  | some (.own _) => False
  | _ => True
def noOwn (sl : List PSl) : List Nat → Prop
  | [] => True
  | v :: vs => PSl.free sl[v]? ∧ noOwn sl vs
theorem noOwn_all {sl : List PSl} : ∀ {vs : List Nat}, noOwn sl vs → ∀ i ∈ vs, ∀ o, sl[i]? ≠ some (.own o)
  | v :: vs, h, i, m, o, e => by
    rcases List.mem_cons.mp m with rfl | m
    · have := h.1
      rw [e] at this
      exact this
    · exact noOwn_all h.2 i m o e
def pLc (ti : PTI) (tg : PTG) (tt : PTT) (te : PTE) (vs : List Nat) : PTE := fun st Q => ti st fun xs s1 => noOwn s1.sl vs ∧ goC (turnC tg tt te (s1.wipe vs)) xs [] s1.n fun ys n => Q (.lst ys) (s1.at n)
section
variable {M : Pm} {E : XK} {c : PCx} {A : Nat → Addr} {st : PSt} {σ : L2.St} {H : Hp}
theorem wipeP_len (sl : List PSl) : ∀ vs : List Nat, (wipeP sl vs).length = sl.length
  | [] => rfl
  | v :: vs => by unfold wipeP; rw [List.length_set, wipeP_len sl vs]
theorem REnv.unset (I : REnv M E c A st σ H) (i : Nat) : REnv M E c A (st.put i .emp) (σ.set i none) H := by
  by_cases hi : i < st.sl.length
  · have ls : Less (st.sl.set i .emp) st.sl := less_set fun _ h => PSl.noConfusion h
    refine ⟨by rw [List.length_set, I.len]; exact (List.length_set ..).symm, fun j k o o' h1 h2 => I.inj j k o o' (ls _ _ h1) (ls _ _ h2), fun j o h => I.fr j o (ls _ _ h), I.out, I.src, I.sb, I.mt, fun j s w e1 e2 => ?_, I.er, I.h0⟩
    have e1 : (st.sl.set i PSl.emp)[j]? = some s := e1
    by_cases z : i = j
    · subst z
      rw [List.getElem?_set_self hi] at e1
      rw [List.getElem?_set_self (by rw [I.len]; exact hi)] at e2
      cases e1
      cases e2
      rfl
    · rw [List.getElem?_set_ne z] at e1 e2
      exact (I.sl j s w e1 e2).mv (I.mvL ls) fun _ h _ => h
  · have e1 : st.sl.set i .emp = st.sl := List.set_eq_of_length_le (by omega)
    have e2 : σ.set i none = σ := List.set_eq_of_length_le (by rw [I.len]; omega)
    unfold PSt.put
    rw [e1, e2]
    exact I
theorem REnv.wipe (I : REnv M E c A st σ H) : ∀ vs : List Nat, REnv M E c A (st.wipe vs) (L2.wipe σ vs) H
  | [] => I
  | v :: vs => (I.wipe vs).unset v
theorem less_wipe (sl : List PSl) : ∀ vs : List Nat, Less (wipeP sl vs) sl
  | [] => .refl
  | v :: vs => Less.trans (less_set fun _ h => PSl.noConfusion h) (less_wipe sl vs)
theorem wipeP_ne (sl : List PSl) {i : Nat} : ∀ vs : List Nat, i ∉ vs → (wipeP sl vs)[i]? = sl[i]?
  | [], _ => rfl
  | v :: vs, h => by
    unfold wipeP
    rw [List.getElem?_set_ne fun z => h (by rw [z]; exact .head _)]
    exact wipeP_ne sl vs fun m => h (.tail _ m)
/-- the new list at D kept apart -/
theorem REnv.toEx (I : REnv M E c A st σ H) {D : Addr} (nD : H D = none) {ws : List V} : REnv M E (c.ex D) A st σ (upd H D (.lst ws)) := by
  have J := I.new (o := .lst ws) nD
  refine ⟨J.len, J.inj, fun i o e => ⟨?_, (J.fr i o e).2⟩, J.out, J.src, fun q e => .inl (J.sb q e), ?_, fun i s v e1 e2 => ?_, fun C f x n d v H' r o sr e1 e2 rp => J.er C f x n d v H' r o sr e1 e2 (rp.mv ⟨fun _ _ _ _ h => .inl h, fun _ _ e _ => .inl e⟩), I.h0⟩
  · rintro (z | z)
    · exact (J.fr i o e).1 z
    · exact I.noA nD (.inr ⟨i, o, e, z⟩)
  · rintro b (z | z)
    · exact J.mt b z
    · exact ⟨.lst ws, by rw [z]; exact upd_same, trivial, not_lst⟩
  · have key := I.sl i s v e1 e2
    refine key.mv ⟨fun b u e _ h => ?_, fun b u e _ => .inl (same_upd3 nD b u e)⟩ fun ho e _ => same_upd3 nD _ _ e
    rcases h with (h | h) | h
    · exact .inl h
    · rw [h, nD] at e
      cases e
    · exact .inr h
theorem REnv.exMore (I : REnv M E (c.ex D) A st σ H) {ws ws' : List V} (e : H D = some (.lst ws)) (np : c.p ≠ some D) (n0 : c.H0 D = none) (na : ¬ Av c A st.sl D) : REnv M E (c.ex D) A st σ (upd H D (.lst ws')) := by
  have k : ∀ b, b ≠ D → upd H D (.lst ws') b = H b := fun b n => upd_ne n
  have mv : Mv M.C (Av (c.ex D) A st.sl) H (Av (c.ex D) A st.sl) (upd H D (.lst ws')) := ⟨fun _ _ _ _ h => h, fun b u h _ => by
    by_cases z : b = D
    · subst z
      rw [e] at h
      cases h
      exact .inr ⟨.inl (.inr rfl), trivial⟩
    · exact .inl (by rw [k b z]; exact h)⟩
  refine ⟨I.len, I.inj, I.fr, fun b u h z => ?_, ⟨fun q h => ?_, tabs_mv I.src.2 fun b u h nl _ => ?_⟩, I.sb, fun b hb => ?_, fun i s v e1 e2 => ?_, I.er, I.h0⟩
  · rw [k b fun w => by rw [w] at h; rw [show c.H0 D = (c.ex D).H0 D from rfl] at n0; rw [n0] at h; cases h]
    exact I.out b u h z
  · obtain ⟨o, h1, h2⟩ := I.src.1 q h
    refine ⟨o, ?_, h2⟩
    rw [k q fun w => np (by rw [← w]; exact h)]
    exact h1
  · rw [k b fun w => by rw [w, e] at h; cases h; exact nl _ rfl]
    exact h
  · by_cases z : b = D
    · exact ⟨.lst ws', by rw [z]; exact upd_same, trivial, not_lst⟩
    · obtain ⟨u, h1, h2⟩ := I.mt b hb
      exact ⟨u, by rw [k b z]; exact h1, h2⟩
  · have key := I.sl i s v e1 e2
    cases s with
    | own o =>
      refine key.mv mv fun ho h _ => ?_
      rw [k _ fun w => na (.inr ⟨i, o, e1, w⟩)]
      exact h
    | emp => exact key
    | any => trivial
    | sh x =>
      obtain ⟨u, e3, r⟩ := key
      exact ⟨u, e3, r.mv mv⟩
theorem REnv.unEx (I : REnv M E (c.ex D) A st σ H) (er : EOk M E c st.R) (sb : ∀ q, c.p = some q → c.B q) : REnv M E c A st σ H := by
  have mv : Mv M.C (Av (c.ex D) A st.sl) H (Av c A st.sl) H := ⟨fun b _ _ _ h => h.elim (fun h => .inl (.inl h)) .inr, fun _ _ e _ => .inl e⟩
  exact ⟨I.len, I.inj, fun i o e => ⟨fun z => (I.fr i o e).1 (.inl z), (I.fr i o e).2⟩, I.out, I.src, sb, fun b hb => I.mt b (.inl hb), fun i s v e1 e2 => (I.sl i s v e1 e2).mv mv fun _ h _ => h, er, I.h0⟩
end
/-- the heap without what stands at D -/
def minus (H : Hp) (D : Addr) : Hp := fun b => if b = D then none else H b
theorem minus_at {H : Hp} {D : Addr} : minus H D D = none := if_pos rfl
theorem minus_ne {H : Hp} {D b : Addr} (h : b ≠ D) : minus H D b = H b := if_neg h
theorem minus_upd {H : Hp} {D : Addr} {o : HO} (h : H D = some o) : upd (minus H D) D o = H := by
  funext b
  by_cases e : b = D
  · rw [e, upd_same, h]
  · rw [upd_ne e, minus_ne e]
theorem REnv.minus {M : Pm} {E : XK} {c : PCx} {A : Nat → Addr} {st : PSt} {σ : L2.St} {H : Hp} {D : Addr} {ws : List V} (I : REnv M E (c.ex D) A st σ H) (e : H D = some (.lst ws)) (np : c.p ≠ some D) (n0 : c.H0 D = none) (nB : ¬ c.B D) (na : ¬ Av c A st.sl D) (er : EOk M E c st.R) (sb : ∀ q, c.p = some q → c.B q) :
    REnv M E c A st σ (minus H D) ∧ Mv M.C (Av (c.ex D) A st.sl) H (Av c A st.sl) (My.minus H D) := by
  have mv : Mv M.C (Av (c.ex D) A st.sl) H (Av c A st.sl) (My.minus H D) := ⟨fun b _ _ _ h => h.elim (fun h => .inl (.inl h)) .inr, fun b u h _ => by
    by_cases z : b = D
    · subst z
      rw [e] at h
      cases h
      exact .inr ⟨.inl (.inr rfl), trivial⟩
    · exact .inl (by rw [minus_ne z]; exact h)⟩
  refine ⟨⟨I.len, I.inj, fun i o h => ⟨fun z => (I.fr i o h).1 (.inl z), (I.fr i o h).2⟩, fun b u h z => ?_, ⟨fun q h => ?_, tabs_mv I.src.2 fun b u h nl _ => ?_⟩, sb, fun b hb => ?_, fun i s v e1 e2 => ?_, er, I.h0⟩, mv⟩
  · rw [minus_ne fun w => by rw [w, n0] at h; cases h]
    exact I.out b u h z
  · obtain ⟨o, h1, h2⟩ := I.src.1 q h
    exact ⟨o, by rw [minus_ne fun w => np (by rw [← w]; exact h)]; exact h1, h2⟩
  · rw [minus_ne fun w => by rw [w, e] at h; cases h; exact nl _ rfl]
    exact h
  · obtain ⟨u, h1, h2⟩ := I.mt b (.inl hb)
    exact ⟨u, by rw [minus_ne fun w => nB (by rw [← w]; exact hb)]; exact h1, h2⟩
  · have key := I.sl i s v e1 e2
    cases s with
    | own o =>
      refine key.mv mv fun ho h _ => ?_
      rw [minus_ne fun w => na (.inr ⟨i, o, e1, w⟩)]
      exact h
    | emp => exact key
    | any => trivial
    | sh x =>
      obtain ⟨u, e3, r⟩ := key
      exact ⟨u, e3, r.mv mv⟩
section
variable {X : Cx} {M : Pm} {E : XK} {elt tg iter : Expr} {ifs : List Expr} {scope : Scope} {own : List (Str × Nat)} {pos : Pos} {ti : PTI} {g : PTG} {tt : PTT} {te : PTE} {gs : List Nat}
abbrev PTsP (X : Cx) (M : Pm) (E : XK) (ifs : List Expr) (t : PTT) : Prop := PTs X ifs (LiftT M E t)
def yesP : PTT := fun st Q => Q true st
theorem imTs {X : Cx} {e : List Expr} {t t' : TT} (h : PTs X e t) (k : ∀ σ H Q, t' σ H Q → t σ H Q) : PTs X e t' := ⟨fun pins s σ H Q I q => h.run pins s σ H Q I (k σ H Q q)⟩
theorem pts_nilP : PTsP X M E [] yesP := imTs pts_nil fun σ H Q ⟨c, A, st, Qp, I, q, k⟩ => k true st H q I .refl .refl
theorem pts_oneP {e : Expr} {t : PTT} (h : PPT X M E e t) : PTsP X M E [e] t := pts_one h
/-- the loop of a comprehension -/
theorem comp_core {c : PCx} {A : Nat → Addr} {s1 : PSt} {σ : L2.St} {H1 : Hp} {J : It} {xs : List PV} {vs : List Nat} {Qf : List PV → Nat → Prop} {Qd : Hp → Prop} {D : Addr} (I1 : REnv M E c A s1 σ H1) (io : ItOk M c.p (EvK c (Av c A s1.sl) H1) J xs) (nD : H1 D = none) (no' : noOwn s1.sl vs)
    (sub : ∀ i ∈ gs, i ∈ vs) (q : goC (turnC g tt te (s1.wipe vs)) xs [] s1.n Qf)
    (fin : ∀ (ys : List PV) (n : Nat) (ws : List V) (H' : Hp), Qf ys n → REnv M E (c.ex D) A (s1.at n) σ H' → Keeps c H1 H' → H' D = some (.lst ws) → RepL M c.p (Av (c.ex D) A s1.sl) H' ws ys → Qd H') :
    ∃ W : Nat → Nat → Hp → Prop, (∃ m, W 0 m (upd H1 D (.lst []))) ∧ ∀ i m H, W i m H →
      (J.stop i H ∧ Qd H) ∨ (J.go i H ∧ ∃ Nx : Hp → Prop, (∀ H', Nx H' → ∃ m', m' < m ∧ W (i + 1) m' H') ∧ ∀ x H', J.yld i H x H' → LiftG M E g gs x (L2.wipe σ vs) H' fun σ2 H2 => L2.wipe σ2 vs = L2.wipe σ vs ∧ LiftT M E tt σ2 H2 fun b H3 =>
        if b = true then LiftE M E te σ2 H3 fun y H4 => ∃ acc, H4 D = some (.lst acc) ∧ acc.length < sizeLine ∧ Nx (upd H4 D (.lst (acc ++ [y]))) else Nx H3) := by
  obtain ⟨G, Y, wk, hG, hY⟩ := io
  have no := noOwn_all no'
  have np := I1.nop nD
  have n0 := I1.no0 nD
  have na := I1.noA nD
  let Pv : Nat → Hp → Prop := fun i H => ∃ (acc : List PV) (ws : List V) (n : Nat), H D = some (.lst ws) ∧ REnv M E (c.ex D) A (s1.at n) σ H ∧ Keeps c H1 H ∧ RepL M c.p (Av (c.ex D) A s1.sl) H ws acc ∧ goC (turnC g tt te (s1.wipe vs)) (xs.drop i) acc n Qf
  have ev : ∀ H, Keeps c H1 H → EvK c (Av c A s1.sl) H1 (Av (c.ex D) A s1.sl) H := fun H k => ⟨k, fun b u e _ h => by
    rcases h with (h | h) | h
    · exact .inl h
    · rw [h, nD] at e
      cases e
    · exact .inr h⟩
  refine lc_it wk Pv ⟨[], [], s1.n, upd_same, I1.toEx nD, .new nD, .nil, q⟩ (fun i H _ ⟨_, _, _, _, _, k, _⟩ => hG _ _ (ev H k)) ?_ ?_
  · rintro i x' H H' hi ⟨acc, ws, n, hD, J1, k1, rl, qq⟩ hy
    obtain ⟨sm, x, hx, rx⟩ := hY _ H i x' H' (ev H k1) hi hy
    have ed : xs.drop i = x :: xs.drop (i + 1) := by
      rw [List.drop_eq_getElem_cons hi]
      rw [List.getElem?_eq_getElem hi] at hx
      cases hx
      rfl
    rw [ed] at qq
    have J2 : REnv M E (c.ex D) A (s1.at n) σ H' := J1.same sm
    have J3 := J2.wipe vs
    have less0 : Less (wipeP s1.sl vs) s1.sl := less_wipe _ _
    refine ⟨c.ex D, A, (s1.at n).wipe vs, x, _, J3, rx.mv (J2.mvL less0), qq, fun s2 σ2 q2 I2 l2 o2 w2 => ⟨by rw [w2 vs sub, wipe_wipe], c.ex D, A, s2, _, I2, q2, fun b s3 H3 ⟨e3, q3⟩ I3 k3 l3 => ?_⟩⟩
    have own2 : ∀ j o, s1.sl[j]? = some (PSl.own o) → s2.sl[j]? = some (PSl.own o) := fun j o e => by
      have nj : j ∉ vs := fun m => no j m o e
      rw [o2 j fun m => nj (sub j m)]
      exact (wipeP_ne s1.sl vs nj).trans e
    have k13 : Keeps (c.ex D) H H3 := Keeps.trans (.same sm) k3
    cases b with
    | false =>
      have q3 := (if_neg Bool.false_ne_true).mp q3
      refine (if_neg Bool.false_ne_true).mpr ⟨acc, ws, s3.n, k13 _ _ hD np not_lst, J1.keep k13 I3.src, k1.trans k13, rl.mv (J1.mvK k13 fun _ h => h), q3⟩
    | true =>
      have q3 := (if_pos rfl).mp q3
      refine (if_pos rfl).mpr ⟨c.ex D, A, s3, _, I3, q3, fun y s4 v H4 ⟨e4, q4⟩ I4 k4 l4 r4 => ?_⟩
      have k14 : Keeps (c.ex D) H H4 := k13.trans k4
      have hD4 := k14 _ _ hD np not_lst
      have rl4 : RepL M c.p (Av (c.ex D) A s1.sl) H4 ws acc := rl.mv (J1.mvK k14 fun _ h => h)
      refine ⟨ws, hD4, by rw [rl.length]; exact q4.1, acc ++ [y], ws ++ [v], s4.n, upd_same, ((J1.keep k14 I4.src).exMore hD4 np n0 na), fun b u e z nt => ?_, ?_, q4.2⟩
      · rw [upd_ne fun w => by rw [w, nD] at e; cases e]
        exact (k1.trans k14) b u e z nt
      · have r5 : Rep M c.p (Av (c.ex D) A s1.sl) H4 v y := r4.mv ⟨fun b u _ _ h => ?_, fun _ _ e _ => .inl e⟩
        · have m5 : Mv M.C (Av (c.ex D) A s1.sl) H4 (Av (c.ex D) A s1.sl) (upd H4 D (.lst (ws ++ [v]))) := ⟨fun _ _ _ _ h => h, fun b u h _ => by
            by_cases z : b = D
            · subst z
              rw [hD4] at h
              cases h
              exact .inr ⟨.inl (.inr rfl), trivial⟩
            · exact .inl (by rw [upd_ne z]; exact h)⟩
          exact (rl4.app (.cons r5 .nil)).mv m5
        · rcases h with h | ⟨j, o, e, z⟩
          · exact .inl h
          · exact .inr ⟨j, o, by rw [e4]; exact own2 j o e, z⟩
  · rintro H ⟨acc, ws, n, hD, J1, k1, rl, qq⟩
    rw [List.drop_length] at qq
    exact fin acc n ws H qq J1 k1 hD rl
theorem pp_lc (hc : X.calm = true) (hN : X.N.Nodup) (hi : PIk X M E tg iter ti) (ok : BlkOk X.N X.env.scope scope own)
    (hg : ∀ (s : Shared) (H : Hp) (C : Addr) (cl : List (Str × Addr)) (fp : List Addr), PG (X.blk s H scope (compEnvC scope cl C X.env) fp) tg (LiftG M E g gs)) (ht : ∀ (s : Shared) (H : Hp) (C : Addr) (cl : List (Str × Addr)) (fp : List Addr), PTsP (X.blk s H scope (compEnvC scope cl C X.env) fp) M E ifs tt)
    (he : ∀ (s : Shared) (H : Hp) (C : Addr) (cl : List (Str × Addr)) (fp : List Addr), PP (X.blk s H scope (compEnvC scope cl C X.env) fp) M E elt te) (sub : ∀ i ∈ gs, i ∈ own.map (·.2)) (hs : ∀ x, foldedSetIterable iter X.env x = pure x := by intro _; rfl) :
    PP X M E (.ListComp elt [⟨tg, iter, ifs, 0⟩] scope pos) (pLc ti g tt te (own.map (·.2))) :=
  imE (pe_lc hc hN hi ok hg ht he hs) fun σ H Q ⟨c, A, st, Qp, I, q, k⟩ => ⟨c, A, st, _, I, q, fun xs s1 H1 J ⟨no, q1⟩ I1 k1 l1 io D nD =>
    comp_core I1 io nD no sub q1 fun ys n ws H' q2 I2 k2 hD r => k _ _ _ H' q2 (I2.unEx I1.er I1.sb) (k1.trans k2) l1 (.lst hD (fun z => I1.noA nD z) (r.mv ⟨fun b _ _ _ h => h.elim (fun h => .inl (.inl h)) .inr, fun _ _ e _ => .inl e⟩))⟩
end
end My
namespace My
open PySem L2
/-! ### items, slices, membership -/
theorem IxR.or' {X : Cx} {r r' : R2} (h : IxR X r) (h' : IxR X r') : IxR X (fun x y H Q => r x y H Q ∨ r' x y H Q) := fun value slice pins s σ H x y v u Q I rx ry q e => q.elim (fun q => h value slice pins s σ H x y v u Q I rx ry q e) fun q => h' value slice pins s σ H x y v u Q I rx ry q e
theorem CallR.or' {X : Cx} {f : Value} {r r' : List V → Hp → VK → Prop} (h : CallR X f r) (h' : CallR X f r') : CallR X f (fun xs H Q => r xs H Q ∨ r' xs H Q) := fun pins s σ H xs us Q I r q => q.elim (h pins s σ H xs us Q I r) (h' pins s σ H xs us Q I r)
def ixP : PV → PV → (PV → Prop) → Prop
  | .lst xs, .int i, Q => ∃ z, atI xs i = some z ∧ Q z
  | .tup xs, .int i, Q => ∃ z, atI xs i = some z ∧ Q z
  | _, _, _ => False
theorem RepL.atI {M : Pm} {p : Option Addr} {O : Addr → Prop} {H : Hp} {vs : List V} {xs : List PV} (r : RepL M p O H vs xs) {i : Int} {z : PV} (h : L2.atI xs i = some z) : ∃ v, L2.atI vs i = some v ∧ Rep M p O H v z := by
  unfold L2.atI at h ⊢
  rw [r.length]
  cases e : ixN xs.length i with
  | none =>
    rw [e] at h
    cases h
  | some j =>
    rw [e] at h
    exact r.get h
theorem pure_ix {M : Pm} : PureO M (fun x y H Q => rIxL M.K x y H Q ∨ rIxT M.K x y H Q) ixP := by
  intro E c A st σ H v w x y Qp Q I hx hy h k
  unfold ixP at h
  split at h
  · obtain ⟨z, h1, h2⟩ := h
    cases hy.int
    obtain ⟨a, vs, rfl, e, r⟩ := hx.lst
    obtain ⟨u, e2, r2⟩ := r.atI h1
    exact .inl ⟨a, vs, _, u, rfl, rfl, SqL.of e, e2, k z u H h2 I .refl r2⟩
  · obtain ⟨z, h1, h2⟩ := h
    cases hy.int
    obtain ⟨a, vs, rfl, e, r⟩ := hx.tup
    obtain ⟨u, e2, r2⟩ := r.atI h1
    exact .inr ⟨a, vs, _, u, rfl, rfl, SqT.of e, e2, k z u H h2 I .refl r2⟩
  · exact h.elim
section
variable {X : Cx} {M : Pm} {E : XK} {a b : Expr} {pos : Pos} {ta tb : PTE}
theorem pp_ix (hK : X.K = M.K) (ha : PK X M E a ta) (hb : PK X M E b tb) (hs : PlainIx b := by exact fun _ _ => rfl) : PP X M E (.Subscript a b pos) (pOp ixP ta tb) :=
  imE (pe_ix (IxR.or' ix_list ix_tup) ha hb hs) fun σ H Q ⟨c, A, st, Qp, I, q, k⟩ => ⟨c, A, st, _, I, q, fun x s1 v H1 q1 I1 k1 l1 r1 => ⟨c, A, s1, _, I1, q1, fun y s2 w H2 q2 I2 k2 l2 r2 => by
    rw [hK]
    exact pure_ix E c A s2 σ H2 v w x y _ _ I2 (r1.step I1 k2 l2) r2 q2 fun z u H3 q3 I3 k3 r3 => k z s2 u H3 q3 I3 ((k1.trans k2).trans k3) (l2.trans l1) r3⟩⟩
end
/-! dicts -/
def getP (kvs : List (Key × PV)) (k : Key) : Option PV := (kvs.find? fun kv => decide (kv.1 = k)).map (·.2)
def PV.key : PV → Option Key
  | .int i => some (.inl i)
  | .str s => some (.inr s)
  | _ => none
theorem RepK.get {M : Pm} {p : Option Addr} {O : Addr → Prop} {H : Hp} : ∀ {vs : List (Key × V)} {xs : List (Key × PV)}, RepK M p O H vs xs → ∀ (k : Key), (∃ v x, valV vs k = some v ∧ getP xs k = some x ∧ Rep M p O H v x) ∨ (valV vs k = none ∧ getP xs k = none)
  | _, _, .nil, _ => .inr ⟨rfl, rfl⟩
  | _, (k0, x) :: xs0, .cons (v := v) r t, k => by
    by_cases z : k0 = k
    · refine .inl ⟨v, x, valV_pos z, ?_, r⟩
      unfold getP
      rw [List.find?_cons, decide_eq_true z]
      rfl
    · rw [valV_neg z]
      have e : getP ((k0, x) :: xs0) k = getP xs0 k := by
        unfold getP
        rw [List.find?_cons, decide_eq_false z]
      rw [e]
      exact t.get k
theorem key_rep {M : Pm} {p : Option Addr} {O : Addr → Prop} {H : Hp} {v : V} {x : PV} (r : Rep M p O H v x) {k : Key} (h : x.key = some k) : v = kV k := by
  cases r <;> cases h <;> rfl
theorem Peek.key {M : Pm} {c : PCx} {A : Nat → Addr} {st : PSt} {H : Hp} {v : V} {x : PV} (r : Peek M c A st H v x) {k : Key} (h : x.key = some k) : v = kV k := by
  rcases r with r | ⟨i, o, _, rfl, rfl, _⟩
  · exact key_rep r h
  · cases o <;> cases h
section
variable {X : Cx} {M : Pm} {E : XK} {a b : Expr} {pos : Pos} {ta tb : PTE}
def dgP : PV → PV → (PV → Prop) → Prop := fun x y Q => ∃ kvs k z, x = .dct kvs ∧ y.key = some k ∧ getP kvs k = some z ∧ Q z
theorem pp_dg (hu : X.A.units + 1 < cLine) (ha : PK X M E a ta) (hb : PK X M E b tb) (hs : NoSl b := by exact fun _ _ => rfl) : PP X M E (.Subscript a b pos) (pOp dgP ta tb) :=
  imE (pe_dget hu ha hb hs) fun σ H Q ⟨c, A, st, Qp, I, q, k⟩ => ⟨c, A, st, _, I, q, fun x s1 v H1 q1 I1 k1 l1 r1 => ⟨c, A, s1, _, I1, q1, fun y s2 w H2 ⟨kvs, ky, z, e1, e2, e3, q2⟩ I2 k2 l2 r2 => by
    subst e1
    obtain ⟨a, vs, rfl, ed, rk⟩ := (r1.step I1 k2 l2).dct
    rcases rk.get ky with ⟨u, z', f1, f2, f3⟩ | ⟨_, f2⟩
    · rw [e3] at f2
      cases f2
      exact ⟨a, u, rfl, .inl ⟨vs, ky, .inl ed, r2.key e2, f1.symm⟩, k z s2 u H2 q2 I2 (k1.trans k2) (l2.trans l1) f3⟩
    · rw [e3] at f2
      cases f2⟩⟩
def dinP (neg : Bool) : PV → PV → (PV → Prop) → Prop := fun y x Q => ∃ kvs k, x = .dct kvs ∧ y.key = some k ∧ Q (.bl (neg != (getP kvs k).isSome))
theorem pp_din (hu : X.A.units + 1 < cLine) (ha : PK X M E a ta) (hb : PK X M E b tb) (hm : behindInMarks .In b = false := by rfl) : PP X M E (.Compare a [.In] [b] pos) (pOp (dinP false) ta tb) :=
  imE (pe_cmp (pc_din hu ha hb) hm) fun σ H Q ⟨c, A, st, Qp, I, q, k⟩ => ⟨c, A, st, _, I, q, fun y s1 v H1 q1 I1 k1 l1 r1 => ⟨c, A, s1, _, I1, q1, fun x s2 w H2 ⟨kvs, ky, e1, e2, q2⟩ I2 k2 l2 r2 => by
    subst e1
    obtain ⟨a, vs, rfl, ed, rk⟩ := r2.dct
    refine ⟨a, valV vs ky, rfl, .inl ⟨vs, ky, .inl ed, (r1.step I1 k2 l2).key e2, rfl⟩, ?_⟩
    have e : (valV vs ky).isSome = (getP kvs ky).isSome := by
      rcases rk.get ky with ⟨u, z', f1, f2, f3⟩ | ⟨f1, f2⟩ <;> rw [f1, f2] <;> rfl
    rw [e]
    rw [Bool.false_bne] at q2
    exact k _ s2 _ H2 q2 I2 (k1.trans k2) (l2.trans l1) (.bl _)⟩⟩
theorem pp_dnotin (hu : X.A.units + 1 < cLine) (ha : PK X M E a ta) (hb : PK X M E b tb) (hm : behindInMarks .NotIn b = false := by rfl) : PP X M E (.Compare a [.NotIn] [b] pos) (pOp (dinP true) ta tb) :=
  imE (pe_cmp (pc_dnotin hu ha hb) hm) fun σ H Q ⟨c, A, st, Qp, I, q, k⟩ => ⟨c, A, st, _, I, q, fun y s1 v H1 q1 I1 k1 l1 r1 => ⟨c, A, s1, _, I1, q1, fun x s2 w H2 ⟨kvs, ky, e1, e2, q2⟩ I2 k2 l2 r2 => by
    subst e1
    obtain ⟨a, vs, rfl, ed, rk⟩ := r2.dct
    refine ⟨a, valV vs ky, rfl, .inl ⟨vs, ky, .inl ed, (r1.step I1 k2 l2).key e2, rfl⟩, ?_⟩
    have e : (valV vs ky).isSome = (getP kvs ky).isSome := by
      rcases rk.get ky with ⟨u, z', f1, f2, f3⟩ | ⟨f1, f2⟩ <;> rw [f1, f2] <;> rfl
    rw [e]
    rw [Bool.true_bne] at q2
    exact k _ s2 _ H2 q2 I2 (k1.trans k2) (l2.trans l1) (.bl _)⟩⟩
theorem pt_dinT (hu : X.A.units + 1 < cLine) (ha : PK X M E a ta) (hb : PK X M E b tb) (hm : behindInMarks .In b = false := by rfl) : PPT X M E (.Compare a [.In] [b] pos) (pTest (pOp (dinP false) ta tb)) :=
  imT (pt_cmp (pc_din hu ha hb) hm) fun σ H Q ⟨c, A, st, Qp, I, q, k⟩ => ⟨c, A, st, _, I, q, fun y s1 v H1 q1 I1 k1 l1 r1 => ⟨c, A, s1, _, I1, q1, fun x s2 w H2 ⟨kvs, ky, e1, e2, bb, e3, q2⟩ I2 k2 l2 r2 => by
    subst e1
    obtain ⟨a, vs, rfl, ed, rk⟩ := r2.dct
    refine ⟨a, valV vs ky, rfl, .inl ⟨vs, ky, .inl ed, (r1.step I1 k2 l2).key e2, rfl⟩, _, rfl, ?_⟩
    have e : (valV vs ky).isSome = (getP kvs ky).isSome := by
      rcases rk.get ky with ⟨u, z', f1, f2, f3⟩ | ⟨f1, f2⟩ <;> rw [f1, f2] <;> rfl
    rw [e]
    rw [Bool.false_bne] at e3
    cases e3
    exact k _ s2 H2 q2 I2 (k1.trans k2) (l2.trans l1)⟩⟩
theorem pt_dnotinT (hu : X.A.units + 1 < cLine) (ha : PK X M E a ta) (hb : PK X M E b tb) (hm : behindInMarks .NotIn b = false := by rfl) : PPT X M E (.Compare a [.NotIn] [b] pos) (pTest (pOp (dinP true) ta tb)) :=
  imT (pt_cmp (pc_dnotin hu ha hb) hm) fun σ H Q ⟨c, A, st, Qp, I, q, k⟩ => ⟨c, A, st, _, I, q, fun y s1 v H1 q1 I1 k1 l1 r1 => ⟨c, A, s1, _, I1, q1, fun x s2 w H2 ⟨kvs, ky, e1, e2, bb, e3, q2⟩ I2 k2 l2 r2 => by
    subst e1
    obtain ⟨a, vs, rfl, ed, rk⟩ := r2.dct
    refine ⟨a, valV vs ky, rfl, .inl ⟨vs, ky, .inl ed, (r1.step I1 k2 l2).key e2, rfl⟩, _, rfl, ?_⟩
    have e : (valV vs ky).isSome = (getP kvs ky).isSome := by
      rcases rk.get ky with ⟨u, z', f1, f2, f3⟩ | ⟨f1, f2⟩ <;> rw [f1, f2] <;> rfl
    rw [e]
    rw [Bool.true_bne] at e3
    cases e3
    exact k _ s2 H2 q2 I2 (k1.trans k2) (l2.trans l1)⟩⟩
end
/-! x in a list, a tuple, a set -/
def PV.flat : PV → Bool
  | .non => true
  | .bl _ => true
  | .int _ => true
  | .str _ => true
  | _ => false
theorem flat_rep {M : Pm} {p : Option Addr} {O : Addr → Prop} {H : Hp} {v : V} {x : PV} (r : Rep M p O H v x) (h : x.flat = true) : flatV v = true := by
  cases r <;> first | rfl | cases h
theorem flat_eqv {M : Pm} {p : Option Addr} {O : Addr → Prop} {H : Hp} {v w : V} {x y : PV} (r : Rep M p O H v x) (r' : Rep M p O H w y) (h : x.flat = true) (h' : y.flat = true) : eqV v w = PV.eqv x y := by
  cases r <;> first | (cases h; done) | (cases r' <;> first | (cases h'; done) | rfl)
theorem flat_peek {M : Pm} {c : PCx} {A : Nat → Addr} {st : PSt} {H : Hp} {v : V} {x : PV} (r : Peek M c A st H v x) (h : x.flat = true) : Rep M c.p (Av c A st.sl) H v x := by
  rcases r with r | ⟨i, o, _, rfl, rfl, _⟩
  · exact r
  · cases o <;> cases h
theorem flat_all {M : Pm} {p : Option Addr} {O : Addr → Prop} {H : Hp} {w : V} {y : PV} (r' : Rep M p O H w y) (h' : y.flat = true) : ∀ {vs : List V} {xs : List PV}, RepL M p O H vs xs → xs.all PV.flat = true → vs.all flatV = true ∧ inV w vs = xs.any fun z => PV.eqv z y
  | _, _, .nil, _ => ⟨rfl, rfl⟩
  | _, _, .cons r t, h => by
    rw [List.all_cons, Bool.and_eq_true] at h
    obtain ⟨k1, k2⟩ := flat_all r' h' t h.2
    refine ⟨by rw [List.all_cons, flat_rep r h.1, k1]; rfl, ?_⟩
    have e := flat_eqv r r' h.1 h'
    unfold inV at k2 ⊢
    rw [List.any_cons, List.any_cons, k2, e]
def inP (neg : Bool) : PV → PV → (PV → Prop) → Prop := fun x y Q => (∃ xs, y.seq = some xs ∧ x.flat = true ∧ xs.all PV.flat = true ∧ Q (.bl (neg != xs.any fun z => PV.eqv z x))) ∨ ∃ S n k, y = .set S n ∧ x = .int k ∧ Q (.bl (neg != S k))
theorem pure_in {M : Pm} : PureO M (fun x y H Q => rIn M.K false x y H Q ∨ rSIn M.w x y H Q) (inP false) := by
  intro E c A st σ H v w x y Qp Q I hx hy h k
  rcases h with ⟨xs, e, f1, f2, q⟩ | ⟨S, n, i, rfl, rfl, q⟩
  · have rx := flat_peek hx f1
    rw [Bool.false_bne] at q
    cases y with
    | lst ys =>
      cases e
      obtain ⟨a, vs, rfl, e, r⟩ := hy.lst
      obtain ⟨g1, g2⟩ := flat_all rx f1 r f2
      refine .inl ⟨a, vs, rfl, .inl (SqL.of e), flat_rep rx f1, g1, ?_⟩
      rw [if_neg Bool.false_ne_true, g2]
      exact k _ _ H q I .refl (.bl _)
    | tup ys =>
      cases e
      obtain ⟨a, vs, rfl, e, r⟩ := hy.tup
      obtain ⟨g1, g2⟩ := flat_all rx f1 r f2
      refine .inl ⟨a, vs, rfl, .inr (SqT.of e), flat_rep rx f1, g1, ?_⟩
      rw [if_neg Bool.false_ne_true, g2]
      exact k _ _ H q I .refl (.bl _)
    | ktup ys =>
      cases e
      obtain ⟨a, vs, rfl, e, r⟩ := hy.ktup
      obtain ⟨g1, g2⟩ := flat_all rx f1 r f2
      refine .inl ⟨a, vs, rfl, .inr (e _), flat_rep rx f1, g1, ?_⟩
      rw [if_neg Bool.false_ne_true, g2]
      exact k _ _ H q I .refl (.bl _)
    | _ => cases e
  · cases hx.int
    obtain ⟨a, rfl, e⟩ := hy.set
    rw [Bool.false_bne] at q
    exact .inr ⟨i, a, S, n, rfl, rfl, e, k _ _ H q I .refl (.bl _)⟩
theorem pure_notin {M : Pm} : PureO M (fun x y H Q => rIn M.K true x y H Q ∨ rSNotIn M.w x y H Q) (inP true) := by
  intro E c A st σ H v w x y Qp Q I hx hy h k
  rcases h with ⟨xs, e, f1, f2, q⟩ | ⟨S, n, i, rfl, rfl, q⟩
  · have rx := flat_peek hx f1
    rw [Bool.true_bne] at q
    cases y with
    | lst ys =>
      cases e
      obtain ⟨a, vs, rfl, e, r⟩ := hy.lst
      obtain ⟨g1, g2⟩ := flat_all rx f1 r f2
      refine .inl ⟨a, vs, rfl, .inl (SqL.of e), flat_rep rx f1, g1, ?_⟩
      rw [if_pos rfl, g2]
      exact k _ _ H q I .refl (.bl _)
    | tup ys =>
      cases e
      obtain ⟨a, vs, rfl, e, r⟩ := hy.tup
      obtain ⟨g1, g2⟩ := flat_all rx f1 r f2
      refine .inl ⟨a, vs, rfl, .inr (SqT.of e), flat_rep rx f1, g1, ?_⟩
      rw [if_pos rfl, g2]
      exact k _ _ H q I .refl (.bl _)
    | ktup ys =>
      cases e
      obtain ⟨a, vs, rfl, e, r⟩ := hy.ktup
      obtain ⟨g1, g2⟩ := flat_all rx f1 r f2
      refine .inl ⟨a, vs, rfl, .inr (e _), flat_rep rx f1, g1, ?_⟩
      rw [if_pos rfl, g2]
      exact k _ _ H q I .refl (.bl _)
    | _ => cases e
  · cases hx.int
    obtain ⟨a, rfl, e⟩ := hy.set
    rw [Bool.true_bne] at q
    exact .inr ⟨i, a, S, n, rfl, rfl, e, k _ _ H q I .refl (.bl _)⟩
theorem c_in {X : Cx} {M : Pm} (h : X.K = M.K) (hw : X.w = M.w) : CmpP X M .In (inP false) := .mk (op_in_seq.or or_sin) (by rw [h, hw]; exact pure_in)
theorem c_notin {X : Cx} {M : Pm} (h : X.K = M.K) (hw : X.w = M.w) : CmpP X M .NotIn (inP true) := .mk (op_notIn_seq.or or_snotin) (by rw [h, hw]; exact pure_notin)
/-! slices -/
def cutP (xs : List PV) (lo hi : Option Int) : List PV := (xs.drop (HT.sIx xs.length 0 lo)).take (HT.sIx xs.length xs.length hi - HT.sIx xs.length 0 lo)
theorem RepL.take {M : Pm} {p : Option Addr} {O : Addr → Prop} {H : Hp} : ∀ {vs : List V} {xs : List PV}, RepL M p O H vs xs → ∀ n : Nat, RepL M p O H (vs.take n) (xs.take n)
  | _, _, .nil, n => by rw [List.take_nil, List.take_nil]; exact .nil
  | _, _, .cons _ _, 0 => .nil
  | _, _, .cons r t, n + 1 => .cons r (t.take n)
theorem RepL.drop {M : Pm} {p : Option Addr} {O : Addr → Prop} {H : Hp} : ∀ {vs : List V} {xs : List PV}, RepL M p O H vs xs → ∀ n : Nat, RepL M p O H (vs.drop n) (xs.drop n)
  | _, _, .nil, n => by rw [List.drop_nil, List.drop_nil]; exact .nil
  | _, _, .cons r t, 0 => .cons r t
  | _, _, .cons _ t, n + 1 => t.drop n
theorem RepL.cut {M : Pm} {p : Option Addr} {O : Addr → Prop} {H : Hp} {vs : List V} {xs : List PV} (r : RepL M p O H vs xs) (lo hi : Option Int) : RepL M p O H (cutV vs lo hi) (cutP xs lo hi) := by
  unfold cutV cutP
  rw [r.length]
  exact (r.drop _).take _
abbrev PTO := PSt → (Option Int → PSt → Prop) → Prop
def LiftO (M : Pm) (E : XK) (t : PTO) : TO := fun σ H Q => ∃ c A st Qp, REnv M E c A st σ H ∧ t st Qp ∧ ∀ b st' H', Qp b st' → REnv M E c A st' σ H' → Keeps c H H' → Less st'.sl st.sl → Q b H'
def noPart : PTO := fun st Q => Q none st
def somePart (t : PTE) : PTO := fun st Q => t st fun x s1 => ∃ i, x = .int i ∧ Q (some i) s1
theorem imO {X : Cx} {e : Option Expr} {t t' : TO} (h : PO X e t) (k : ∀ σ H Q, t' σ H Q → t σ H Q) : PO X e t' := ⟨fun pins s σ H Q I q => h.run pins s σ H Q I (k σ H Q q)⟩
section
variable {X : Cx} {M : Pm} {E : XK} {e : Expr} {lo hi : Option Expr} {pos p2 : Pos} {t : PTE} {tl th : PTO}
theorem po_noneP : PO X none (LiftO M E noPart) := imO po_none fun σ H Q ⟨c, A, st, Qp, I, q, k⟩ => k _ st H q I .refl .refl
theorem po_someP (h : PP X M E e t) : PO X (some e) (LiftO M E (somePart t)) := imO (po_some h) fun σ H Q ⟨c, A, st, Qp, I, q, k⟩ => ⟨c, A, st, _, I, q, fun x s1 v H1 ⟨i, e1, q1⟩ I1 k1 l1 r1 => by
  subst e1
  cases r1
  exact ⟨i, rfl, k _ s1 H1 q1 I1 k1 l1⟩⟩
def pSl (t : PTE) (tl th : PTO) : PTE := fun st Q => t st fun x s1 => tl s1 fun l s2 => th s2 fun u s3 => ∃ xs, x = .lst xs ∧ Q (.lst (cutP xs l u)) s3
theorem pp_sl (h : PK X M E e t) (hl : PO X lo (LiftO M E tl)) (hh : PO X hi (LiftO M E th)) : PP X M E (.Subscript e (.Slice lo hi none p2) pos) (pSl t tl th) :=
  imE (pe_slice sl_list h hl hh) fun σ H Q ⟨c, A, st, Qp, I, q, k⟩ => ⟨c, A, st, _, I, q, fun x s1 v H1 q1 I1 k1 l1 r1 => ⟨c, A, s1, _, I1, q1, fun lo s2 H2 q2 I2 k2 l2 => ⟨c, A, s2, _, I2, q2, fun up s3 H3 ⟨xs, e3, q3⟩ I3 k3 l3 => by
    subst e3
    obtain ⟨a, vs, rfl, e, r⟩ := ((r1.step I1 k2 l2).step I2 k3 l3).lst
    exact ⟨a, vs, rfl, SqL.of e, fun p np => k _ s3 _ _ q3 (I3.new np) (((k1.trans k2).trans k3).trans (.new np)) ((l3.trans l2).trans l1) (.lst upd_same (I3.noA np) ((r.cut _ _).new np))⟩⟩⟩⟩
end
end My
namespace My
open PySem L2
/-! ### calls: of built-ins, of the program's own -/
inductive CalB (X : Cx) (M : Pm) (E : XK) : String → PFn → Prop
  | mk {id : String} {r : List V → Hp → VK → Prop} {rp : PFn} (ho : CallR X (.builtin id) r) (hp : PureF M r rp E) : CalB X M E id rp
inductive CalT (X : Cx) (M : Pm) (E : XK) : String → PFn → Prop
  | mk {id : String} {r : List V → Hp → VK → Prop} {rp : PFn} (ho : CallR X (.type id) r) (hp : PureF M r rp E) : CalT X M E id rp
abbrev pI (ns : List Int) : PV := .lst (ns.map PV.int)
abbrev pB (bs : List Bool) : PV := .lst (bs.map PV.bl)
section
variable {M : Pm} {p : Option Addr} {O : Addr → Prop} {H : Hp}
theorem RepL.ints : ∀ {vs : List V} {ns : List Int}, RepL M p O H vs (ns.map PV.int) → vs = ns.map V.int
  | _, [], h => by cases h; rfl
  | _, n :: r, h => by
    cases h with
    | cons a t =>
      cases a
      rw [RepL.ints t]
      rfl
theorem RepL.bls : ∀ {vs : List V} {ns : List Bool}, RepL M p O H vs (ns.map PV.bl) → vs = ns.map V.bl
  | _, [], h => by cases h; rfl
  | _, n :: r, h => by
    cases h with
    | cons a t =>
      cases a
      rw [RepL.bls t]
      rfl
theorem RepL.ofInts : ∀ ns : List Int, RepL M p O H (ns.map V.int) (ns.map PV.int)
  | [] => .nil
  | n :: r => .cons (.int n) (RepL.ofInts r)
end
theorem RepK.len {M : Pm} {p : Option Addr} {O : Addr → Prop} {H : Hp} : ∀ {vs : List (Key × V)} {xs : List (Key × PV)}, RepK M p O H vs xs → vs.length = xs.length
  | _, _, .nil => rfl
  | _, _, .cons _ t => congrArg (· + 1) t.len
theorem Peek.tupR {M : Pm} {c : PCx} {A : Nat → Addr} {st : PSt} {H : Hp} {v : V} {xs : List PV} (r : Peek M c A st H v (.tup xs)) : Rep M c.p (Av c A st.sl) H v (.tup xs) := by
  rcases r with r | ⟨i, o, _, _, z, _⟩
  · exact r
  · cases o <;> cases z
/-- a function of looked-at trees without draws -/
theorem pureF0 {M : Pm} {E : XK} {r : List V → Hp → VK → Prop} {rp : List PV → (PV → Prop) → Prop} (h : ∀ (c : PCx) (A : Nat → Addr) (st : PSt) (σ : L2.St) (H : Hp) (vs : List V) (xs : List PV) (Qp : PV → Prop) (Q : VK), REnv M E c A st σ H → PeekL M c A st H vs xs → rp xs Qp →
    (∀ z u H', Qp z → REnv M E c A st σ H' → Keeps c H H' → Rep M c.p (Av c A st.sl) H' u z → Q u H') → r vs H Q) : PureF M r (fn0 rp) E :=
  fun c A st σ H vs xs Qp Q I hv hq k => h c A st σ H vs xs _ Q I hv hq fun z u H' q I' kk rr => k z st.n u H' q I' kk rr
def lenP : List PV → (PV → Prop) → Prop
  | [.lst xs], Q => Q (.int (xs.length : Nat))
  | [.tup xs], Q => Q (.int (xs.length : Nat))
  | [.dct xs], Q => Q (.int (xs.length : Nat))
  | [.str z], Q => z.length ≤ sizeLine ∧ Q (.int (z.length : Nat))
  | _, _ => False
def listP : List PV → (PV → Prop) → Prop
  | [.lst xs], Q => Q (.lst xs)
  | [.tup xs], Q => Q (.lst xs)
  | _, _ => False
def tupleP : List PV → (PV → Prop) → Prop
  | [.lst xs], Q => Q (.tup xs)
  | [.tup xs], Q => Q (.tup xs)
  | _, _ => False
def intP : List PV → (PV → Prop) → Prop
  | [.int i], Q => Q (.int i)
  | [.bl b], Q => Q (.int (if b then 1 else 0))
  | _, _ => False
def sumP : List PV → (PV → Prop) → Prop := fun xs Q => ∃ ns : List Int, xs = [pI ns] ∧ Q (.int ns.sum)
def anyP : List PV → (PV → Prop) → Prop := fun xs Q => ∃ bs : List Bool, xs = [pB bs] ∧ Q (.bl (bs.any id))
def allP : List PV → (PV → Prop) → Prop := fun xs Q => ∃ bs : List Bool, xs = [pB bs] ∧ Q (.bl (bs.all id))
def minP : List PV → (PV → Prop) → Prop := fun xs Q => (∃ i j : Int, xs = [.int i, .int j] ∧ Q (.int (if j < i then j else i))) ∨ ∃ ns : List Int, xs = [pI ns] ∧ 0 < ns.length ∧ ∀ m, m ∈ ns → (∀ y, y ∈ ns → m ≤ y) → Q (.int m)
def maxP : List PV → (PV → Prop) → Prop := fun xs Q => (∃ i j : Int, xs = [.int i, .int j] ∧ Q (.int (if j > i then j else i))) ∨ ∃ ns : List Int, xs = [pI ns] ∧ 0 < ns.length ∧ ∀ m, m ∈ ns → (∀ y, y ∈ ns → y ≤ m) → Q (.int m)
def absP : List PV → (PV → Prop) → Prop
  | [.int i], Q => Q (.int (if i < 0 then -i else i))
  | _, _ => False
def sortP : List PV → (PV → Prop) → Prop := fun xs Q => (∃ ns : List Int, xs = [pI ns] ∧ ∀ ms : List Int, ms.Perm ns → ms.Pairwise (· ≤ ·) → Q (pI ms)) ∨
  (∃ S n, xs = [.set S n] ∧ n < 64 ∧ ∀ ms : List Int, ms.Pairwise (· < ·) → (∀ k : Int, k ∈ ms ↔ S k = true) → ms.length = n → Q (pI ms)) ∨
  ∃ (kvs : List (Key × PV)) (ks : List Int), xs = [.dct kvs] ∧ kvs.map (·.1) = ks.map Sum.inl ∧ ks.length < 64 ∧ ∀ ms : List Int, ms.Perm ks → ms.Pairwise (· ≤ ·) → Q (pI ms)
def setP : List PV → (PV → Prop) → Prop := fun xs Q => ∃ ns : List Int, xs = [pI ns] ∧ ns.length < 64 ∧ ∀ c : Nat, c ≤ ns.length → Q (.set (fun j => decide (j ∈ ns)) c)
def PV.tyN : PV → Option String
  | .non => some "NoneType"
  | .bl _ => some "bool"
  | .int _ => some "int"
  | .str _ => some "str"
  | .lst _ => some "list"
  | .tup _ => some "tuple"
  | .dct _ => some "dict"
  | _ => none
def classes : List String := ["int", "bool", "str", "list", "tuple", "dict"]
/-- is one type below another -/
def subT (t u : String) : Bool := t == u || (t == "bool" && u == "int")
def isiP : List PV → (PV → Prop) → Prop
  | [x, .ty u], Q => u ∈ classes ∧ ∃ t, x.tyN = some t ∧ Q (.bl (subT t u))
  | [x, .tup ys], Q => (match ys with | [.ty a, .ty b] => a = "list" ∧ b = "tuple" | _ => False) ∧ ∃ t, x.tyN = some t ∧ Q (.bl (t == "list" || t == "tuple"))
  | _, _ => False
section
variable {M : Pm} {E : XK}
theorem pure_len : PureF M (fun xs H Q => ((∃ p ys, xs = [.ref p] ∧ (SqL M.K H p ys ∨ SqT M.K H p ys) ∧ Q (.int ys.length) H) ∨ ∃ z, xs = [.str z] ∧ z.length ≤ sizeLine ∧ Q (.int z.length) H) ∨ ∃ a kvs, xs = [V.ref a] ∧ H a = some (.dK kvs) ∧ Q (.int kvs.length) H) (fn0 lenP) E :=
  pureF0 fun c A st σ H vs xs Qp Q I hv h k => by
    unfold lenP at h
    split at h
    · obtain ⟨v, rfl, r⟩ := Peeks.one hv
      obtain ⟨a, ws, rfl, e, r⟩ := r.lst
      exact .inl (.inl ⟨a, ws, rfl, .inl (SqL.of e), by rw [r.length]; exact k _ _ H h I .refl (.int _)⟩)
    · obtain ⟨v, rfl, r⟩ := Peeks.one hv
      obtain ⟨a, ws, rfl, e, r⟩ := r.tup
      exact .inl (.inl ⟨a, ws, rfl, .inr (SqT.of e), by rw [r.length]; exact k _ _ H h I .refl (.int _)⟩)
    · obtain ⟨v, rfl, r⟩ := Peeks.one hv
      obtain ⟨a, ws, rfl, e, r⟩ := r.dct
      exact .inr ⟨a, ws, rfl, e, by rw [r.len]; exact k _ _ H h I .refl (.int _)⟩
    · obtain ⟨v, rfl, r⟩ := Peeks.one hv
      cases r.str
      exact .inl (.inr ⟨_, rfl, h.1, k _ _ H h.2 I .refl (.int _)⟩)
    · exact h.elim
theorem pure_list : PureF M (fun xs H Q => ∃ p ys, xs = [.ref p] ∧ (SqL M.K H p ys ∨ SqT M.K H p ys) ∧ ∀ l, H l = none → Q (.ref l) (upd H l (.lst ys))) (fn0 listP) E :=
  pureF0 fun c A st σ H vs xs Qp Q I hv h k => by
    unfold listP at h
    split at h
    · obtain ⟨v, rfl, r⟩ := Peeks.one hv
      obtain ⟨a, ws, rfl, e, r⟩ := r.lst
      exact ⟨a, ws, rfl, .inl (SqL.of e), I.fin k h r⟩
    · obtain ⟨v, rfl, r⟩ := Peeks.one hv
      obtain ⟨a, ws, rfl, e, r⟩ := r.tup
      exact ⟨a, ws, rfl, .inr (SqT.of e), I.fin k h r⟩
    · exact h.elim
theorem pure_tuple : PureF M (fun xs H Q => ∃ p ys, xs = [.ref p] ∧ ((SqL M.K H p ys ∧ ∀ l, H l = none → Q (.ref l) (upd H l (.tup ys))) ∨ (SqT M.K H p ys ∧ Q (.ref p) H))) (fn0 tupleP) E :=
  pureF0 fun c A st σ H vs xs Qp Q I hv h k => by
    unfold tupleP at h
    split at h
    · obtain ⟨v, rfl, r⟩ := Peeks.one hv
      obtain ⟨a, ws, rfl, e, r⟩ := r.lst
      exact ⟨a, ws, rfl, .inl ⟨SqL.of e, fun l nl => k _ _ _ h (I.new nl) (.new nl) (.tup upd_same (r.new nl))⟩⟩
    · obtain ⟨v, rfl, r⟩ := Peeks.one hv
      have rr := r.tupR
      obtain ⟨a, ws, rfl, e, r⟩ := r.tup
      exact ⟨a, ws, rfl, .inr ⟨SqT.of e, k _ _ H h I .refl rr⟩⟩
    · exact h.elim
theorem pure_int : PureF M (fun xs H Q => (∃ i, xs = [.int i] ∧ Q (.int i) H) ∨ ∃ k, xs = [.bl k] ∧ Q (.int (if k then 1 else 0)) H) (fn0 intP) E :=
  pureF0 fun c A st σ H vs xs Qp Q I hv h k => by
    unfold intP at h
    split at h
    · obtain ⟨v, rfl, r⟩ := Peeks.one hv
      cases r.int
      exact .inl ⟨_, rfl, k _ _ H h I .refl (.int _)⟩
    · obtain ⟨v, rfl, r⟩ := Peeks.one hv
      cases r.bl
      exact .inr ⟨_, rfl, k _ _ H h I .refl (.int _)⟩
    · exact h.elim
theorem pure_abs : PureF M (fun xs H Q => ∃ i, xs = [.int i] ∧ Q (.int (if i < 0 then -i else i)) H) (fn0 absP) E :=
  pureF0 fun c A st σ H vs xs Qp Q I hv h k => by
    unfold absP at h
    split at h
    · obtain ⟨v, rfl, r⟩ := Peeks.one hv
      cases r.int
      exact ⟨_, rfl, k _ _ H h I .refl (.int _)⟩
    · exact h.elim
theorem pure_sum : PureF M (rSum M.K) (fn0 sumP) E := pureF0 fun c A st σ H vs xs Qp Q I hv ⟨ns, e, q⟩ k => by
  subst e
  obtain ⟨v, rfl, r⟩ := Peeks.one hv
  obtain ⟨a, ws, rfl, e, r⟩ := r.lst
  exact ⟨a, ns, rfl, by rw [← r.ints]; exact SqL.of e, k _ _ H q I .refl (.int _)⟩
theorem pure_any : PureF M (rAny M.K) (fn0 anyP) E := pureF0 fun c A st σ H vs xs Qp Q I hv ⟨ns, e, q⟩ k => by
  subst e
  obtain ⟨v, rfl, r⟩ := Peeks.one hv
  obtain ⟨a, ws, rfl, e, r⟩ := r.lst
  exact ⟨a, ns, rfl, by rw [← r.bls]; exact SqL.of e, k _ _ H q I .refl (.bl _)⟩
theorem pure_all : PureF M (rAll M.K) (fn0 allP) E := pureF0 fun c A st σ H vs xs Qp Q I hv ⟨ns, e, q⟩ k => by
  subst e
  obtain ⟨v, rfl, r⟩ := Peeks.one hv
  obtain ⟨a, ws, rfl, e, r⟩ := r.lst
  exact ⟨a, ns, rfl, by rw [← r.bls]; exact SqL.of e, k _ _ H q I .refl (.bl _)⟩
theorem pure_min : PureF M (fun xs H Q => (∃ i j, xs = [.int i, .int j] ∧ Q (.int (if j < i then j else i)) H) ∨ rMin M.K xs H Q) (fn0 minP) E := pureF0 fun c A st σ H vs xs Qp Q I hv h k => by
  rcases h with ⟨i, j, rfl, q⟩ | ⟨ns, rfl, h0, q⟩
  · obtain ⟨v, w, rfl, r, r'⟩ := Peeks.two hv
    cases r.int
    cases r'.int
    exact .inl ⟨i, j, rfl, k _ _ H q I .refl (.int _)⟩
  · obtain ⟨v, rfl, r⟩ := Peeks.one hv
    obtain ⟨a, ws, rfl, e, r⟩ := r.lst
    exact .inr ⟨a, ns, rfl, by rw [← r.ints]; exact SqL.of e, h0, fun m hm hy => k _ _ H (q m hm hy) I .refl (.int _)⟩
theorem pure_max : PureF M (fun xs H Q => (∃ i j, xs = [.int i, .int j] ∧ Q (.int (if j > i then j else i)) H) ∨ rMax M.K xs H Q) (fn0 maxP) E := pureF0 fun c A st σ H vs xs Qp Q I hv h k => by
  rcases h with ⟨i, j, rfl, q⟩ | ⟨ns, rfl, h0, q⟩
  · obtain ⟨v, w, rfl, r, r'⟩ := Peeks.two hv
    cases r.int
    cases r'.int
    exact .inl ⟨i, j, rfl, k _ _ H q I .refl (.int _)⟩
  · obtain ⟨v, rfl, r⟩ := Peeks.one hv
    obtain ⟨a, ws, rfl, e, r⟩ := r.lst
    exact .inr ⟨a, ns, rfl, by rw [← r.ints]; exact SqL.of e, h0, fun m hm hy => k _ _ H (q m hm hy) I .refl (.int _)⟩
theorem RepK.keys {p : Option Addr} {O : Addr → Prop} {H : Hp} : ∀ {vs : List (Key × V)} {xs : List (Key × PV)}, RepK M p O H vs xs → vs.map (·.1) = xs.map (·.1)
  | _, _, .nil => rfl
  | _, _, .cons _ t => by rw [List.map_cons, List.map_cons, t.keys]
theorem pure_sort : PureF M (fun xs H Q => (rSortedI M.K xs H Q ∨ rSortedSet M.w xs H Q) ∨ ∃ (a : Addr) (kvs : List (Key × V)) (ks : List Int), xs = [.ref a] ∧ Rd H a (.dK kvs) ∧ kvs.map (·.1) = ks.map Sum.inl ∧ ks.length < 64 ∧
    ∀ (ys : List Int) (p : Addr), ys.Perm ks → ys.Pairwise (· ≤ ·) → H p = none → Q (.ref p) (upd H p (.lst (ys.map V.int)))) (fn0 sortP) E := pureF0 fun c A st σ H vs xs Qp Q I hv h k => by
  rcases h with ⟨ns, rfl, q⟩ | ⟨S, n, rfl, hn, q⟩ | ⟨kvs, ks, rfl, hk, hn, q⟩
  · obtain ⟨v, rfl, r⟩ := Peeks.one hv
    obtain ⟨a, ws, rfl, e, r⟩ := r.lst
    exact .inl (.inl ⟨a, ns, rfl, by rw [← r.ints]; exact SqL.of e, fun ms p h1 h2 np => I.fin k (q ms h1 h2) (RepL.ofInts ms) p np⟩)
  · obtain ⟨v, rfl, r⟩ := Peeks.one hv
    obtain ⟨a, rfl, e⟩ := r.set
    exact .inl (.inr ⟨a, S, n, rfl, e, hn, fun ms p h1 h2 h3 np => I.fin k (q ms h1 h2 h3) (RepL.ofInts ms) p np⟩)
  · obtain ⟨v, rfl, r⟩ := Peeks.one hv
    obtain ⟨a, ws, rfl, e, r⟩ := r.dct
    exact .inr ⟨a, ws, ks, rfl, .inl e, by rw [r.keys]; exact hk, hn, fun ms p h1 h2 np => I.fin k (q ms h1 h2) (RepL.ofInts ms) p np⟩
theorem pure_set : PureF M (rSetOf M.K M.w) (fn0 setP) E := pureF0 fun c A st σ H vs xs Qp Q I hv ⟨ns, e, hn, q⟩ k => by
  subst e
  obtain ⟨v, rfl, r⟩ := Peeks.one hv
  obtain ⟨a, ws, rfl, e, r⟩ := r.lst
  exact ⟨a, ns, rfl, by rw [← r.ints]; exact SqL.of e, hn, fun p cc hc np => k _ _ _ (q cc hc) (I.new np) (.new np) (.set upd_same (I.noA np))⟩
theorem Peek.tyx {c : PCx} {A : Nat → Addr} {st : PSt} {H : Hp} {v : V} {x : PV} (r : Peek M c A st H v x) {t : String} (h : x.tyN = some t) : TyX M.K H v (.type t) := by
  cases x with
  | non => cases h; cases r.non; exact .base .non
  | bl b => cases h; cases r.bl; exact .base (.bl b)
  | int i => cases h; cases r.int; exact .base (.int i)
  | str s => cases h; cases r.str; exact .base (.str s)
  | lst xs => cases h; obtain ⟨a, ws, rfl, e, _⟩ := r.lst; exact .base (.lst e)
  | dct xs => cases h; obtain ⟨a, ws, rfl, e, _⟩ := r.dct; exact .base (.dK e)
  | tup xs =>
    cases h
    obtain ⟨a, ws, rfl, e, _⟩ := r.tup
    exact .base (.tup e)
  | _ => cases h
theorem kit_sub {K : PySem.W.Frag} {x : PV} {t : String} (h : x.tyN = some t) {u : String} (k : u ∈ classes) : PySem.W.kitOne K (.type t) (.type u) = some (subT t u) := by
  unfold classes at k
  simp only [List.mem_cons, List.not_mem_nil, or_false] at k
  cases x <;> cases h <;> rcases k with rfl | rfl | rfl | rfl | rfl | rfl <;> kernel_rfl
theorem kit_seq {K : PySem.W.Frag} {x : PV} {t : String} (h : x.tyN = some t) : PySem.W.kitAny K (.type t) [.type "list", .type "tuple"] = some (t == "list" || t == "tuple") := by
  cases x <;> cases h <;> kernel_rfl
theorem pure_isi : PureF M (fun xs H Q => (rIsi M.K xs H Q ∨ rIsiT M.K xs H Q) ∨ rIsiK M.K xs H Q) (fn0 isiP) E := pureF0 fun c A st σ H vs xs Qp Q I hv h k => by
  unfold isiP at h
  split at h
  · obtain ⟨hu, t, ht, q⟩ := h
    obtain ⟨v, w, rfl, r, r'⟩ := Peeks.two hv
    cases r'.ty
    exact .inl (.inl ⟨v, _, _, _, _, rfl, .ty _, r.tyx ht, kit_sub ht hu, k _ _ H q I .refl (.bl _)⟩)
  · obtain ⟨hy, t, ht, q⟩ := h
    obtain ⟨v, w, rfl, r, r'⟩ := Peeks.two hv
    obtain ⟨a, ws, rfl, e, r2⟩ := r'.tup
    split at hy
    case h_2 => exact hy.elim
    obtain ⟨rfl, rfl⟩ := hy
    obtain ⟨w1, w2, rfl, ra, rb⟩ := Reps.two r2
    cases ra
    cases rb
    exact .inl (.inr ⟨v, a, _, _, _, _, rfl, e, .cons (.ty _) (.cons (.ty _) .nil), r.tyx ht, kit_seq ht, k _ _ H q I .refl (.bl _)⟩)
  · exact h.elim
end
section
variable {X : Cx} {M : Pm} {E : XK}
theorem b_len (h : X.K = M.K) : CalB X M E "len" (fn0 lenP) := .mk (CallR.or' (CallR.or' call_len_seq call_len_str) call_lenD) (by rw [h]; exact pure_len)
theorem b_sum (h : X.K = M.K) (hc : X.calm = true) : CalB X M E "sum" (fn0 sumP) := .mk (cr_sum hc) (by rw [h]; exact pure_sum)
theorem b_any (h : X.K = M.K) (hc : X.calm = true) : CalB X M E "any" (fn0 anyP) := .mk (cr_any hc) (by rw [h]; exact pure_any)
theorem b_all (h : X.K = M.K) (hc : X.calm = true) : CalB X M E "all" (fn0 allP) := .mk (cr_all hc) (by rw [h]; exact pure_all)
theorem b_min (h : X.K = M.K) (hc : X.calm = true) : CalB X M E "min" (fn0 minP) := .mk (CallR.or' (call_min2 hc) (cr_min hc)) (by rw [h]; exact pure_min)
theorem b_max (h : X.K = M.K) (hc : X.calm = true) : CalB X M E "max" (fn0 maxP) := .mk (CallR.or' (call_max2 hc) (cr_max hc)) (by rw [h]; exact pure_max)
theorem b_abs : CalB X M E "abs" (fn0 absP) := .mk call_abs pure_abs
theorem b_sorted (h : X.K = M.K) (hw : X.w = M.w) (hc : X.calm = true) : CalB X M E "sorted" (fn0 sortP) := .mk (CallR.or' (CallR.or' cr_sortedI (cr_sortedSet hc)) (call_sortedDI hc)) (by rw [h, hw]; exact pure_sort)
theorem b_isi (h : X.K = M.K) : CalB X M E "isinstance" (fn0 isiP) := .mk (CallR.or' (CallR.or' call_isi call_isiT) call_isiK) (by rw [h]; exact pure_isi)
theorem t_list (h : X.K = M.K) : CalT X M E "list" (fn0 listP) := .mk call_list_of (by rw [h]; exact pure_list)
theorem t_tuple (h : X.K = M.K) : CalT X M E "tuple" (fn0 tupleP) := .mk call_tuple_of (by rw [h]; exact pure_tuple)
theorem t_int : CalT X M E "int" (fn0 intP) := .mk call_int1 pure_int
theorem t_set (h : X.K = M.K) (hw : X.w = M.w) (hc : X.calm = true) : CalT X M E "set" (fn0 setP) := .mk (cr_setL hc) (by rw [h, hw]; exact pure_set)
variable {x : Str} {e : Expr} {es : List Expr} {p pos : Pos} {ts : PTA} {id : String} {rp : PFn}
theorem pp_callB (C : CalB X M E id rp) (hg : Gl X x) (hm : X.mg x = none) (hv : bootBuiltins x = some (.builtin id)) (ha : PKA X M E (e :: es) ts) (hn : x ≠ "__name__" := by decide) (hdb : (x == ("__debug__" : Str)) = false := by decide)
    (he : starEach (e :: es) X.env = (false, eval e X.env) :: starEach es X.env := by rfl) (hpl : (backTo pos (starEach es X.env)).any (·.1) = false := by rfl) : PP X M E (.Call (.Name x p) (e :: es) [] pos) (pCall rp ts) := by
  cases C with
  | mk ho hp =>
    exact imE (pe_callB ho hg hm hv ha hn hdb he hpl) fun σ H Q ⟨c, A, st, Qp, I, q, k⟩ => ⟨c, A, st, _, I, q, fun xs s1 vs H1 q1 I1 k1 l1 r1 => hp c A s1 σ H1 vs xs _ _ I1 r1 q1 fun z n u H2 q2 I2 k2 r2 => k z _ u H2 q2 I2 (k1.trans k2) l1 r2⟩
theorem pp_callT (C : CalT X M E id rp) (hg : Gl X x) (hm : X.mg x = none) (hv : bootBuiltins x = some (.type id)) (ha : PKA X M E (e :: es) ts) (hn : x ≠ "__name__" := by decide) (hdb : (x == ("__debug__" : Str)) = false := by decide)
    (he : starEach (e :: es) X.env = (false, eval e X.env) :: starEach es X.env := by rfl) (hpl : (backTo pos (starEach es X.env)).any (·.1) = false := by rfl) : PP X M E (.Call (.Name x p) (e :: es) [] pos) (pCall rp ts) := by
  cases C with
  | mk ho hp =>
    exact imE (pe_callTy ho hg hm hv ha hn hdb he hpl) fun σ H Q ⟨c, A, st, Qp, I, q, k⟩ => ⟨c, A, st, _, I, q, fun xs s1 vs H1 q1 I1 k1 l1 r1 => hp c A s1 σ H1 vs xs _ _ I1 r1 q1 fun z n u H2 q2 I2 k2 r2 => k z _ u H2 q2 I2 (k1.trans k2) l1 r2⟩
end
/-! the program's own -/
theorem RepL.peeks {M : Pm} {c : PCx} {A : Nat → Addr} {st : PSt} {H : Hp} : ∀ {vs : List V} {xs : List PV}, RepL M c.p (Av c A st.sl) H vs xs → PeekL M c A st H vs xs
  | _, _, .nil => .nil
  | _, _, .cons r t => .cons (.inl r) t.peeks
/-- a function that is told trees: what it is asked, what it tells -/
def PureR (M : Pm) (sp : Sp) (rp : PFn) (E : XK) : Prop := ∀ (c : PCx) (A : Nat → Addr) (st : PSt) (σ : L2.St) (H : Hp) (vs : List V) (xs : List PV) (Qp : PV → Nat → Prop) (Q : VK), REnv M E c A st σ H → RepL M c.p (Av c A st.sl) H vs xs → rp st.n xs Qp st.R →
  (∀ z n u H', Qp z n → REnv M E c A (st.at n) σ H' → Keeps c H H' → Rep M c.p (Av c A st.sl) H' u z → Q u H') → sp vs H Q E
/-- a def of the module, known by what it makes of trees -/
structure DefP (P : Program) (w : World) (K : PySem.W.Frag) (mg : Str → Option Value) (base : Heap) (M : Pm) (CX : CXT) (k : Nat) (x : Str) (ps : List Str) (rp : PFn) : Prop where
  ex : ∃ (f : Addr) (fd : FuncData) (sp : Sp), FnOk P w K mg base CX k f fd ps sp ∧ PySem.W.keepIn K (.ref f) = true ∧ Binds K fd ps [] ∧ mg x = some (.ref f) ∧ ∀ E, PureR M sp rp E
section
variable {X : Cx} {M : Pm} {E : XK} {x : Str} {e : Expr} {es : List Expr} {p pos : Pos} {ts : PTA} {rp : PFn} {CX : CXT} {k : Nat} {ps : List Str}
theorem pp_callD (D : DefP X.prog X.w X.K X.mg X.base M CX k x ps rp) (hr : Room k X.A) (hg : Gl X x) (hx : Passes CX X E) (ha : PPA X M E (e :: es) ts) (hdb : (x == ("__debug__" : Str)) = false := by decide) (he : starEach (e :: es) X.env = (false, eval e X.env) :: starEach es X.env := by rfl)
    (hpl : (backTo pos (starEach es X.env)).any (·.1) = false := by rfl) : PP X M E (.Call (.Name x p) (e :: es) [] pos) (pCall rp ts) := by
  obtain ⟨f, fd, sp, F, hk, hb, hm, hp⟩ := D.ex
  exact imE (pe_call F hr hg hm hk hb .nil hx ha hdb he hpl) fun σ H Q ⟨c, A, st, Qp, I, q, k⟩ => ⟨c, A, st, _, I, q, fun xs s1 vs H1 q1 I1 k1 l1 r1 => by
    show sp (vs ++ []) H1 Q E
    rw [List.append_nil]
    exact hp E c A s1 σ H1 vs xs _ _ I1 r1 q1 fun z n u H2 q2 I2 k2 r2 => k z _ u H2 q2 I2 (k1.trans k2) l1 r2⟩
end
end My
namespace My
open PySem L2
/-! ### statements -/
structure PEnds where
  nx : PSt → Prop
  rt : PV → PSt → Prop
  bk : PSt → Prop := fun _ => False
  ct : PSt → Prop := fun _ => False
abbrev PTS := PEnds → PSt → Prop
structure EndsOk (M : Pm) (E : XK) (c : PCx) (A : Nat → Addr) (sl : List PSl) (H : Hp) (P : PEnds) (D : Ends) : Prop where
  nx : ∀ A' st' σ' H', P.nx st' → REnv M E c A' st' σ' H' → Evo M c A sl H A' st'.sl H' → D.nx σ' H'
  bk : ∀ A' st' σ' H', P.bk st' → REnv M E c A' st' σ' H' → Evo M c A sl H A' st'.sl H' → D.bk σ' H'
  ct : ∀ A' st' σ' H', P.ct st' → REnv M E c A' st' σ' H' → Evo M c A sl H A' st'.sl H' → D.ct σ' H'
  rt : ∀ A' st' σ' x v H', P.rt x st' → REnv M E c A' st' σ' H' → Rep M c.p c.B H' v x → D.rt v H'
def LiftS (M : Pm) (E : XK) (t : PTS) : TS := fun D σ H => ∃ c A st P, REnv M E c A st σ H ∧ t P st ∧ EndsOk M E c A st.sl H P D
abbrev PPS (X : Cx) (M : Pm) (E : XK) (s : Stmt) (t : PTS) : Prop := PS X s (LiftS M E t)
abbrev PPSs (X : Cx) (M : Pm) (E : XK) (s : List Stmt) (t : PTS) : Prop := PSs X s (LiftS M E t)
section
variable {M : Pm} {E : XK} {c : PCx} {A A1 : Nat → Addr} {st s1 : PSt} {σ : L2.St} {H H1 : Hp} {P P' : PEnds} {D D' : Ends} {sl sl1 : List PSl}
/-- later ends -/
theorem EndsOk.later (k : EndsOk M E c A sl H P D) (e : Evo M c A sl H A1 sl1 H1) : EndsOk M E c A1 sl1 H1 P D :=
  ⟨fun A' st' σ' H' p I e' => k.nx A' st' σ' H' p I (e.trans e'), fun A' st' σ' H' p I e' => k.bk A' st' σ' H' p I (e.trans e'), fun A' st' σ' H' p I e' => k.ct A' st' σ' H' p I (e.trans e'), k.rt⟩
theorem EndsOk.behind (k : EndsOk M E c A sl H P D) {nx' : PSt → Prop} {N : L2.St → Hp → Prop} (h : ∀ A' st' σ' H', nx' st' → REnv M E c A' st' σ' H' → Evo M c A sl H A' st'.sl H' → N σ' H') : EndsOk M E c A sl H { P with nx := nx' } { D with nx := N } := ⟨h, k.bk, k.ct, k.rt⟩
theorem REnv.evoS (I : REnv M E c A st σ H) (k : Keeps c H H1) (I1 : REnv M E c A s1 σ H1) (l : Less s1.sl st.sl) : Evo M c A st.sl H A s1.sl H1 := I.evoK k l
end
def pSeq (t u : PTS) : PTS := fun P st => t { P with nx := u P } st
def pNext : PTS := fun P st => P.nx st
section
variable {X : Cx} {M : Pm} {E : XK} {e : Expr} {s : Stmt} {rest : List Stmt} {pos : Pos} {t u : PTS} {te : PTE}
theorem pps_nil : PPSs X M E [] pNext := imSs pss_nil fun D σ H ⟨c, A, st, P, I, q, k⟩ => k.nx _ _ _ _ q I .refl
theorem pps_cons (h : PPS X M E s t) (h2 : PPSs X M E rest u) : PPSs X M E (s :: rest) (pSeq t u) :=
  imSs (pss_cons h h2) fun D σ H ⟨c, A, st, P, I, q, k⟩ => ⟨c, A, st, _, I, q, k.behind fun A1 s1 σ1 H1 q1 I1 e1 => ⟨c, A1, s1, P, I1, q1, k.later e1⟩⟩
theorem pps_one (h : PPS X M E s t) : PPSs X M E [s] t := pss_one h
def pRet (te : PTE) : PTS := fun P st => te st fun x s1 => P.rt x s1
theorem pps_ret (h : PP X M E e te) : PPS X M E (.Return (some e) pos) (pRet te) :=
  imS (ps_ret h) fun D σ H ⟨c, A, st, P, I, q, k⟩ => ⟨c, A, st, _, I, q, fun x s1 v H1 q1 I1 k1 l1 r1 => k.rt A s1 σ x v H1 q1 I1 (r1.mv ⟨fun _ _ _ _ h => .inl h, fun _ _ e _ => .inl e⟩)⟩
def pRetN : PTS := fun P st => P.rt .non st
theorem pps_retN : PPS X M E (.Return none pos) pRetN := imS ps_retN fun D σ H ⟨c, A, st, P, I, q, k⟩ => k.rt A st σ .non .non H q I .non
def pBrk : PTS := fun P st => P.bk st
def pCnt : PTS := fun P st => P.ct st
theorem pps_brk : PPS X M E (.Break pos) pBrk := imS ps_break fun D σ H ⟨c, A, st, P, I, q, k⟩ => k.bk A st σ H q I .refl
theorem pps_cnt : PPS X M E (.Continue pos) pCnt := imS ps_continue fun D σ H ⟨c, A, st, P, I, q, k⟩ => k.ct A st σ H q I .refl
theorem pps_pass : PPS X M E (.Pass pos) pNext := imS ps_pass fun D σ H ⟨c, A, st, P, I, q, k⟩ => k.nx A st σ H q I .refl
def pIfS (tt : PTT) (t u : PTS) : PTS := fun P st => tt st fun b s1 => if b = true then t P s1 else u P s1
theorem pps_if {cnd : Expr} {a b : List Stmt} {tt : PTT} (hc : PPT X M E cnd tt) (ha : PPSs X M E a t) (hb : PPSs X M E b u) : PPS X M E (.If cnd a b pos) (pIfS tt t u) :=
  imS (ps_if hc ha hb) fun D σ H ⟨c, A, st, P, I, q, k⟩ => ⟨c, A, st, _, I, q, fun bb s1 H1 q1 I1 k1 l1 => by
    have kk := k.later (I.evoS k1 I1 l1)
    cases bb with
    | true => exact (if_pos rfl).mpr ⟨c, A, s1, P, I1, (if_pos rfl).mp q1, kk⟩
    | false => exact (if_neg Bool.false_ne_true).mpr ⟨c, A, s1, P, I1, (if_neg Bool.false_ne_true).mp q1, kk⟩⟩
/-- a value is dropped -/
def pDrop (te : PTE) : PTS := fun P st => te st fun _ s1 => P.nx s1
theorem pps_drop (h : PP X M E e te) (hs : swapsWith e none pos.line X.env = pure false := by rfl) : PPS X M E (.Expr e pos) (pDrop te) :=
  imS (ps_expr h hs) fun D σ H ⟨c, A, st, P, I, q, k⟩ => ⟨c, A, st, _, I, q, fun x s1 v H1 q1 I1 k1 l1 r1 => k.nx A s1 σ H1 q1 I1 (I.evoS k1 I1 l1)⟩
/-- x = e -/
def pSet (i : Nat) (te : PTE) : PTS := fun P st => te st fun x s1 => i < s1.sl.length ∧ P.nx (s1.put i (.sh x))
theorem REnv.putEvo {c : PCx} {A : Nat → Addr} {st : PSt} {σ : L2.St} {H : Hp} (I : REnv M E c A st σ H) {i : Nat} {v : V} {x : PV} (hi : i < st.sl.length) (r : Rep M c.p (Av c A st.sl) H v x) :
    REnv M E c A (st.put i (.sh x)) (σ.set i (some v)) H ∧ Evo M c A st.sl H A (st.put i (.sh x)).sl H :=
  ⟨I.put' hi r, I.mvL (less_set fun _ h => PSl.noConfusion h)⟩
theorem pps_setG {i : Nat} (h : PS X s (tAsg (LiftE M E te) (gName i))) : PPS X M E s (pSet i te) :=
  imS h fun D σ H ⟨c, A, st, P, I, q, k⟩ => ⟨c, A, st, _, I, q, fun x s1 v H1 ⟨hi, q1⟩ I1 k1 l1 r1 => by
    obtain ⟨I2, e2⟩ := I1.putEvo hi r1
    exact k.nx A _ _ H1 q1 I2 ((I.evoS k1 I1 l1).trans e2)⟩
/-- targets from the left -/
def pAsg (te : PTE) (g : PTG) : PTS := fun P st => te st fun x s1 => g x s1 P.nx
theorem pps_asgG {g : PTG} {vs : List Nat} (h : PS X s (tAsg (LiftE M E te) (LiftG M E g vs))) : PPS X M E s (pAsg te g) :=
  imS h fun D σ H ⟨c, A, st, P, I, q, k⟩ => ⟨c, A, st, _, I, q, fun x s1 v H1 q1 I1 k1 l1 r1 => ⟨c, A, s1, x, _, I1, r1, q1, fun s2 σ2 q2 I2 l2 _ _ =>
    k.nx A s2 σ2 H1 q2 I2 ((I.evoS k1 I1 l1).trans (I1.mvL l2))⟩⟩
end
/-! what is new is owned by the name that gets it -/
abbrev PTN := PSt → (POwn → PSt → Prop) → Prop
def LiftN (M : Pm) (E : XK) (t : PTN) : TE := fun σ H Q => ∃ c A st Qp, REnv M E c A st σ H ∧ t st Qp ∧ ∀ o st' D ho H1, Qp o st' → REnv M E c A st' σ H1 → Keeps c H H1 → Less st'.sl st.sl → H1 D = none → NewR M c.p (Av c A st'.sl) H1 D ho o → Q (.ref D) (upd H1 D ho)
abbrev PN (X : Cx) (M : Pm) (E : XK) (e : Expr) (t : PTN) : Prop := PE X e (LiftN M E t)
def nLst (ts : PTA) : PTN := fun st Q => ts st fun xs s1 => xs.length ≤ sizeLine ∧ Q (.lst xs) s1
def nLc (ti : PTI) (tg : PTG) (tt : PTT) (te : PTE) (vs : List Nat) : PTN := fun st Q => ti st fun xs s1 => noOwn s1.sl vs ∧ goC (turnC tg tt te (s1.wipe vs)) xs [] s1.n fun ys n => Q (.lst ys) (s1.at n)
def nList (te : PTE) : PTN := fun st Q => te st fun x s1 => ∃ xs, x.seq = some xs ∧ Q (.lst xs) s1
def nCat (ta tb : PTE) : PTN := fun st Q => ta st fun x s1 => tb s1 fun y s2 => ∃ xs ys, x = .lst xs ∧ y = .lst ys ∧ xs.length + ys.length ≤ sizeLine ∧ Q (.lst (xs ++ ys)) s2
def nRep (ta tb : PTE) : PTN := fun st Q => ta st fun x s1 => tb s1 fun y s2 => ∃ xs k, x = .lst xs ∧ y = .int k ∧ -(2 ^ 63) ≤ k ∧ k < 2 ^ 63 ∧ xs.length * k.toNat ≤ sizeLine ∧ Q (.lst (List.replicate k.toNat xs).flatten) s2
def nDct0 : PTN := fun st Q => Q (.dct []) st
def nSet0 : PTN := fun st Q => Q (.set (fun _ => false) 0) st
section
variable {X : Cx} {M : Pm} {E : XK} {e a b : Expr} {es : List Expr} {s : Stmt} {pos p : Pos} {te ta tb : PTE} {ts : PTA} {tn : PTN}
theorem pn_lst (h : PPA X M E es ts) : PN X M E (.List es pos) (nLst ts) :=
  imE (pe_lst h) fun σ H Q ⟨c, A, st, Qp, I, q, k⟩ => ⟨c, A, st, _, I, q, fun xs s1 vs H1 ⟨z, q1⟩ I1 k1 l1 r1 => ⟨by rw [r1.length]; exact z, fun p np => k (.lst xs) s1 p (.lst vs) H1 q1 I1 k1 l1 np ⟨vs, rfl, r1⟩⟩⟩
theorem pn_dct0 : PN X M E (.Dict [] [] pos) nDct0 := imE pe_dnewK fun σ H Q ⟨c, A, st, Qp, I, q, k⟩ => fun d nd => k (.dct []) st d (.dK []) H q I .refl .refl nd ⟨[], rfl, .nil⟩
theorem pn_cat (ha : PK X M E a ta) (hb : PK X M E b tb) : PN X M E (.BinOp a .Add b pos) (nCat ta tb) :=
  imE (pe_op op_cat ha hb) fun σ H Q ⟨c, A, st, Qp, I, q, k⟩ => ⟨c, A, st, _, I, q, fun x s1 v H1 q1 I1 k1 l1 r1 => ⟨c, A, s1, _, I1, q1, fun y s2 w H2 ⟨xs, ys, e1, e2, hz, q2⟩ I2 k2 l2 r2 => by
    subst e1 e2
    obtain ⟨a, vs, rfl, f1, g1⟩ := (r1.step I1 k2 l2).lst
    obtain ⟨b, ws, rfl, f2, g2⟩ := r2.lst
    exact ⟨a, b, vs, ws, rfl, rfl, f1, f2, by rw [g1.length, g2.length]; exact hz, fun p np => k _ s2 p _ H2 q2 I2 (k1.trans k2) (l2.trans l1) np ⟨_, rfl, g1.app g2⟩⟩⟩⟩
theorem pn_rep (ha : PK X M E a ta) (hb : PK X M E b tb) : PN X M E (.BinOp a .Mult b pos) (nRep ta tb) :=
  imE (pe_op op_rep ha hb) fun σ H Q ⟨c, A, st, Qp, I, q, k⟩ => ⟨c, A, st, _, I, q, fun x s1 v H1 q1 I1 k1 l1 r1 => ⟨c, A, s1, _, I1, q1, fun y s2 w H2 ⟨xs, j, e1, e2, h1, h2, h3, q2⟩ I2 k2 l2 r2 => by
    subst e1 e2
    obtain ⟨a, vs, rfl, f1, g1⟩ := (r1.step I1 k2 l2).lst
    cases r2.int
    exact ⟨a, j, vs, rfl, rfl, f1, h1, h2, by rw [g1.length]; exact h3, fun p np => k _ s2 p _ H2 q2 I2 (k1.trans k2) (l2.trans l1) np ⟨_, rfl, g1.rep _⟩⟩⟩⟩
theorem pn_list {pp : Pos} (hK : X.K = M.K) (hg : Gl X "list") (hm : X.mg "list" = none) (ha : PK X M E e te) (he : starEach [e] X.env = (false, eval e X.env) :: starEach [] X.env := by rfl) (hpl : (backTo pos (starEach [] X.env)).any (·.1) = false := by rfl) : PN X M E (.Call (.Name "list" pp) [e] [] pos) (nList te) :=
  imE (pe_callTy call_list_of hg hm (by decide +kernel) (pa_cons ha pa_nil he) (by decide) (by decide) he hpl) fun σ H Q ⟨c, A, st, Qp, I, q, k⟩ => ⟨c, A, st, _, I, q, fun x s1 v H1 ⟨xs, e1, q1⟩ I1 k1 l1 r1 => by
    rw [hK]
    cases x with
    | lst ys =>
      cases e1
      obtain ⟨a, vs, rfl, f1, g1⟩ := r1.lst
      exact ⟨a, vs, rfl, .inl (SqL.of f1), fun p np => k _ s1 p _ H1 q1 I1 k1 l1 np ⟨_, rfl, g1⟩⟩
    | tup ys =>
      cases e1
      obtain ⟨a, vs, rfl, f1, g1⟩ := r1.tup
      exact ⟨a, vs, rfl, .inr (SqT.of f1), fun p np => k _ s1 p _ H1 q1 I1 k1 l1 np ⟨_, rfl, g1⟩⟩
    | ktup ys =>
      cases e1
      obtain ⟨a, vs, rfl, f1, g1⟩ := r1.ktup
      exact ⟨a, vs, rfl, .inr (f1 _), fun p np => k _ s1 p _ H1 q1 I1 k1 l1 np ⟨_, rfl, g1⟩⟩
    | _ => cases e1⟩
def pOwn (i : Nat) (tn : PTN) : PTS := fun P st => tn st fun o s1 => i < s1.sl.length ∧ P.nx (s1.put i (.own o))
theorem pps_ownG {i : Nat} (h : PS X s (tAsg (LiftN M E tn) (gName i))) : PPS X M E s (pOwn i tn) :=
  imS h fun D σ H ⟨c, A, st, P, I, q, k⟩ => ⟨c, A, st, _, I, q, fun o s1 d ho H1 ⟨hi, q1⟩ I1 k1 l1 nd r1 => by
    obtain ⟨I2, e2⟩ := I1.putOwn hi nd r1
    exact k.nx _ _ _ _ q1 I2 ((I.evoS k1 I1 l1).trans e2)⟩
/-! x.append(e), x[i] = e, d[k] = e -/
def pApp (i : Nat) (te : PTE) : PTS := fun P st => ∃ ys, st.sl[i]? = some (.own (.lst ys)) ∧ te st fun x s1 => ∃ xs, s1.sl[i]? = some (.own (.lst xs)) ∧ xs.length < sizeLine ∧ P.nx (s1.put i (.own (.lst (xs ++ [x]))))
theorem pps_app {o : Expr} {i : Nat} {apos cpos : Pos} (ho : PE X o (tVar i)) (h : PP X M E e te) (hw : swapsWith (.Call (.Attribute o "append" apos) [e] [] cpos) none pos.line X.env = pure false := by rfl) (hbase : attributeBase o "append" X.env (eval o X.env) = eval o X.env := by rfl)
    (hfew : ((backTo cpos (starEach [e] X.env)).all (fun x => !x.1) && (backToKw cpos (keywordEach [] X.env)).all (fun x => x.1.isSome) && decide ([e].length + ([] : List Keyword).length + (if ([] : List Keyword).isEmpty then 0 else 1) < 30)) = true := by rfl)
    (hline : (apos.endLine == cpos.line) = true := by rfl) (hs : starEach [e] X.env = (false, eval e X.env) :: starEach [] X.env := by rfl) (hplain : (backTo cpos (starEach [] X.env)).any (·.1) = false := by rfl) :
    PPS X M E (.Expr (.Call (.Attribute o "append" apos) [e] [] cpos) pos) (pApp i te) :=
  imS (ps_expr (pe_bm PySem.F.plainAttrs_list PySem.F.slot_list_append PySem.F.type_list_append mt_append ho (pa_cons h pa_nil hs) hbase hfew hline hs hplain) hw) fun D σ H ⟨c, A, st, P, I, ⟨o0, h0, q⟩, k⟩ => by
    obtain ⟨z1, ho0, z2, z3⟩ := I.ownAt h0
    refine ⟨_, z1, ?_, c, A, st, _, I, q, fun x s1 v H1 ⟨xs, h1, hz, q1⟩ I1 k1 l1 r1 => ?_⟩
    · obtain ⟨vs, rfl, _⟩ := z3
      exact .inl ⟨rfl, _, SqL.of z2⟩
    · obtain ⟨w1, ho1, w2, w3⟩ := I1.ownAt h1
      obtain ⟨vs, rfl, w3⟩ := w3
      obtain ⟨I2, e2⟩ := I1.write (ho := .lst (vs ++ [v])) (o' := .lst (xs ++ [x])) h1 (.inl ⟨_, rfl⟩) ⟨_, rfl, w3.app (.cons r1 .nil)⟩
      exact ⟨A i, vs, v, rfl, rfl, w2, by rw [w3.length]; exact hz, k.nx A _ σ _ q1 I2 ((I.evoS k1 I1 l1).trans e2)⟩
def pSetI (i : Nat) (tv ti : PTE) : PTS := fun P st => tv st fun x s1 => ∃ ys, s1.sl[i]? = some (.own (.lst ys)) ∧ ti s1 fun y s2 => ∃ xs k j, s2.sl[i]? = some (.own (.lst xs)) ∧ y = .int k ∧ ixN xs.length k = some j ∧ P.nx (s2.put i (.own (.lst (xs.set j x))))
theorem RepL.set {p : Option Addr} {O : Addr → Prop} {H : Hp} {v : V} {x : PV} (r : Rep M p O H v x) : ∀ {vs : List V} {xs : List PV}, RepL M p O H vs xs → ∀ j : Nat, RepL M p O H (vs.set j v) (xs.set j x)
  | _, _, .nil, _ => .nil
  | _, _, .cons _ t, 0 => .cons r t
  | _, _, .cons r' t, j + 1 => .cons r' (RepL.set r t j)
theorem pps_setI {i : Nat} {tv ti : PTE} (h : PS X s (tAsg (LiftE M E tv) (gSub (tVar i) (LiftE M E ti) rSetL))) : PPS X M E s (pSetI i tv ti) :=
  imS h fun D σ H ⟨c, A, st, P, I, q, k⟩ => ⟨c, A, st, _, I, q, fun x s1 v H1 ⟨ys, h0, q1⟩ I1 k1 l1 r1 => by
    obtain ⟨z1, ho0, z2, z3⟩ := I1.ownAt h0
    refine ⟨_, z1, c, A, s1, _, I1, q1, fun y s2 w H2 ⟨xs, kk, j, h1, e2, hj, q2⟩ I2 k2 l2 r2 => ?_⟩
    subst e2
    cases r2
    obtain ⟨w1, ho1, w2, w3⟩ := I2.ownAt h1
    obtain ⟨vs, rfl, w3⟩ := w3
    have rx : Rep M c.p (Av c A s2.sl) H2 v x := r1.mv (I1.mvK k2 fun b => l2.av)
    obtain ⟨I3, e3⟩ := I2.write (ho := .lst (vs.set j v)) (o' := .lst (xs.set j x)) h1 (.inl ⟨_, rfl⟩) ⟨_, rfl, RepL.set rx w3 j⟩
    exact ⟨A i, vs, kk, j, rfl, rfl, w2, by rw [w3.length]; exact hj, k.nx A _ σ _ q2 I3 ((I.evoS (k1.trans k2) I2 (l2.trans l1)).trans e3)⟩⟩
/-! dicts -/
def putP (kvs : List (Key × PV)) (k : Key) (v : PV) : List (Key × PV) := if (kvs.any fun kv => decide (kv.1 = k)) = true then kvs.map (fun kv => if kv.1 = k then (kv.1, v) else kv) else kvs ++ [(k, v)]
theorem RepK.mp {p : Option Addr} {O : Addr → Prop} {H : Hp} {v : V} {x : PV} (r : Rep M p O H v x) (k : Key) : ∀ {vs : List (Key × V)} {xs : List (Key × PV)}, RepK M p O H vs xs → RepK M p O H (vs.map fun kv => if kv.1 = k then (kv.1, v) else kv) (xs.map fun kv => if kv.1 = k then (kv.1, x) else kv)
  | _, _, .nil => .nil
  | (k0, v0) :: _, (_, x0) :: _, .cons r0 t => by
    rw [List.map_cons, List.map_cons]
    by_cases z : k0 = k
    · rw [if_pos z, if_pos z]
      exact .cons r (t.mp r k)
    · rw [if_neg z, if_neg z]
      exact .cons r0 (t.mp r k)
theorem RepK.snoc {p : Option Addr} {O : Addr → Prop} {H : Hp} {v : V} {x : PV} (r : Rep M p O H v x) (k : Key) : ∀ {vs : List (Key × V)} {xs : List (Key × PV)}, RepK M p O H vs xs → RepK M p O H (vs ++ [(k, v)]) (xs ++ [(k, x)])
  | _, _, .nil => .cons r .nil
  | _, _, .cons r0 t => .cons r0 (t.snoc r k)
theorem RepK.any {p : Option Addr} {O : Addr → Prop} {H : Hp} (k : Key) : ∀ {vs : List (Key × V)} {xs : List (Key × PV)}, RepK M p O H vs xs → (vs.any fun kv => decide (kv.1 = k)) = (xs.any fun kv => decide (kv.1 = k))
  | _, _, .nil => rfl
  | (k0, v0) :: _, (_, x0) :: _, .cons _ t => by
    rw [List.any_cons, List.any_cons, t.any k]
theorem RepK.put {p : Option Addr} {O : Addr → Prop} {H : Hp} {v : V} {x : PV} (r : Rep M p O H v x) (k : Key) {vs : List (Key × V)} {xs : List (Key × PV)} (h : RepK M p O H vs xs) : RepK M p O H (putK vs k v) (putP xs k x) := by
  unfold putK putP
  rw [h.any k]
  split
  · exact h.mp r k
  · exact h.snoc r k
def pDput (i : Nat) (tv ty : PTE) : PTS := fun P st => tv st fun x s1 => ∃ ys, s1.sl[i]? = some (.own (.dct ys)) ∧ ty s1 fun y s2 => ∃ kvs k, s2.sl[i]? = some (.own (.dct kvs)) ∧ y.key = some k ∧ kvs.length < sizeLine ∧ P.nx (s2.put i (.own (.dct (putP kvs k x))))
theorem pps_dputG {i : Nat} {tv ty : PTE} (h : PS X s (sDPut (tVar i) (LiftE M E ty) (LiftE M E tv))) : PPS X M E s (pDput i tv ty) :=
  imS h fun D σ H ⟨c, A, st, P, I, q, k⟩ => ⟨c, A, st, _, I, q, fun x s1 v H1 ⟨ys, h0, q1⟩ I1 k1 l1 r1 => by
    obtain ⟨z1, ho0, z2, z3⟩ := I1.ownAt h0
    refine ⟨_, z1, c, A, s1, _, I1, q1, fun y s2 w H2 ⟨xs, ky, h1, e2, hj, q2⟩ I2 k2 l2 r2 => ?_⟩
    have ew := key_rep r2 e2
    subst ew
    obtain ⟨w1, ho1, w2, w3⟩ := I2.ownAt h1
    obtain ⟨vs, rfl, w3⟩ := w3
    have rx : Rep M c.p (Av c A s2.sl) H2 v x := r1.mv (I1.mvK k2 fun b => l2.av)
    obtain ⟨I3, e3⟩ := I2.write (ho := .dK (putK vs ky v)) (o' := .dct (putP xs ky x)) h1 (.inr ⟨_, rfl⟩) ⟨_, rfl, RepK.put rx ky w3⟩
    exact ⟨A i, _, rfl, .inl ⟨vs, ky, w2, rfl, by rw [w3.len]; exact hj, rfl⟩, k.nx A _ σ _ q2 I3 ((I.evoS (k1.trans k2) I2 (l2.trans l1)).trans e3)⟩⟩
/-! x op= e -/
def PureI (M : Pm) (r : TIp) (rp : PV → PV → (PV → Prop) → Prop) : Prop := PureO M r rp
def pAug (i : Nat) (te : PTE) (rp : PV → PV → (PV → Prop) → Prop) : PTS := fun P st => ∃ x, st.sl[i]? = some (.sh x) ∧ te st fun y s1 => rp x y fun z => i < s1.sl.length ∧ P.nx (s1.put i (.sh z))
/-- a comprehension's list -/
theorem pn_lc {elt tg iter : Expr} {ifs : List Expr} {scope : Scope} {own : List (Str × Nat)} {ti : PTI} {g : PTG} {tt : PTT} {gs : List Nat} (hc : X.calm = true) (hN : X.N.Nodup) (hi : PIk X M E tg iter ti) (ok : BlkOk X.N X.env.scope scope own)
    (hg : ∀ (s : Shared) (H : Hp) (C : Addr) (cl : List (Str × Addr)) (fp : List Addr), PG (X.blk s H scope (compEnvC scope cl C X.env) fp) tg (LiftG M E g gs)) (ht : ∀ (s : Shared) (H : Hp) (C : Addr) (cl : List (Str × Addr)) (fp : List Addr), PTsP (X.blk s H scope (compEnvC scope cl C X.env) fp) M E ifs tt)
    (he : ∀ (s : Shared) (H : Hp) (C : Addr) (cl : List (Str × Addr)) (fp : List Addr), PP (X.blk s H scope (compEnvC scope cl C X.env) fp) M E elt te) (sub : ∀ i ∈ gs, i ∈ own.map (·.2)) (hs : ∀ x, foldedSetIterable iter X.env x = pure x := by intro _; rfl) :
    PN X M E (.ListComp elt [⟨tg, iter, ifs, 0⟩] scope pos) (nLc ti g tt te (own.map (·.2))) :=
  imE (pe_lc hc hN hi ok hg ht he hs) fun σ H Q ⟨c, A, st, Qp, I, q, k⟩ => ⟨c, A, st, _, I, q, fun xs s1 H1 J ⟨no, q1⟩ I1 k1 l1 io D nD =>
    comp_core I1 io nD no sub q1 fun ys n ws H' q2 I2 k2 hD r => by
      obtain ⟨I3, mv⟩ := I2.minus hD (I1.nop nD) (I1.no0 nD) (I1.noB nD) (I1.noA nD) I1.er I1.sb
      have key := k (.lst ys) (s1.at n) D (.lst ws) (minus H' D) q2 I3 (k1.trans fun b u e z nt => by rw [minus_ne fun w => by rw [w, nD] at e; cases e]; exact k2 b u e z nt) l1 minus_at ⟨ws, rfl, r.mv mv⟩
      rw [minus_upd hD] at key
      exact key⟩
/-- x = [.. for ..] on one line -/
theorem pps_setLc {i : Nat} {y : Str} {py spos : Pos} {elt tg iter : Expr} {ifs : List Expr} {scope : Scope} {own : List (Str × Nat)} {ti : PTI} {g : PTG} {tt : PTT} {gs : List Nat} (hc : X.calm = true) (hN : X.N.Nodup) (hy : X.N[i]? = some y) (hyl : X.env.scope.names.lookup y = some .local)
    (hsw : swapsWith (.ListComp elt [⟨tg, iter, ifs, 0⟩] scope pos) (some (.Name y py)) spos.line X.env = pure true) (hi : PIk X M E tg iter ti) (ok : BlkOk X.N X.env.scope scope own)
    (hg : ∀ (s : Shared) (H : Hp) (C : Addr) (cl : List (Str × Addr)) (fp : List Addr), PG (X.blk s H scope (compEnvC scope cl C X.env) fp) tg (LiftG M E g gs)) (ht : ∀ (s : Shared) (H : Hp) (C : Addr) (cl : List (Str × Addr)) (fp : List Addr), PTsP (X.blk s H scope (compEnvC scope cl C X.env) fp) M E ifs tt)
    (he : ∀ (s : Shared) (H : Hp) (C : Addr) (cl : List (Str × Addr)) (fp : List Addr), PP (X.blk s H scope (compEnvC scope cl C X.env) fp) M E elt te) (sub : ∀ i ∈ gs, i ∈ own.map (·.2)) (hs : ∀ x, foldedSetIterable iter X.env x = pure x := by intro _; rfl) :
    PPS X M E (.Assign [.Name y py] (.ListComp elt [⟨tg, iter, ifs, 0⟩] scope pos) spos) (pOwn i (nLc ti g tt te (own.map (·.2)))) :=
  imS (ps_setLc (i := i) hc hN hy hyl hsw hi ok hg ht he hs) fun D σ H ⟨c, A, st, P, I, q, k⟩ => ⟨c, A, st, _, I, q, fun xs s1 H1 J ⟨no, q1⟩ I1 k1 l1 io d nD =>
    comp_core I1 io nD no sub q1 fun ys n ws H' ⟨hi, q2⟩ I2 k2 hD r => by
      obtain ⟨I3, mv⟩ := I2.minus hD (I1.nop nD) (I1.no0 nD) (I1.noB nD) (I1.noA nD) I1.er I1.sb
      have k3 : Keeps c H (minus H' d) := k1.trans fun b u e z nt => by rw [minus_ne fun w => by rw [w, nD] at e; cases e]; exact k2 b u e z nt
      obtain ⟨I4, e4⟩ := I3.putOwn (o := .lst ys) (ho := .lst ws) hi minus_at ⟨ws, rfl, r.mv mv⟩
      rw [minus_upd hD] at I4 e4
      exact k.nx _ _ _ _ q2 I4 ((I.evoS k3 I3 l1).trans e4)⟩
/-! loops -/
def goF (tg : PTG) (tb : PTS) : List PV → PEnds → PSt → Prop
  | [], P, st => P.nx st
  | x :: r, P, st => tg x st fun s1 => tb { nx := fun s2 => goF tg tb r P s2, ct := fun s2 => goF tg tb r P s2, bk := P.nx, rt := P.rt } s1
def pFor (ti : PTI) (tg : PTG) (tb : PTS) : PTS := fun P st => ti st fun xs s1 => goF tg tb xs P s1
theorem pps_for {tg iter : Expr} {body : List Stmt} {ti : PTI} {g : PTG} {tb : PTS} {vs : List Nat} (hp : PassesOwn (model X.prog X.w) X.A X.env X.xe) (hc : X.calm = true) (hi : PIs X M E tg iter ti) (hg : PG X tg (LiftG M E g vs)) (hb : PPSs X M E body tb)
    (hs : ∀ x, foldedSetIterable iter X.env x = pure x := by intro _; rfl) : PPS X M E (.For tg iter body [] pos) (pFor ti g tb) :=
  imS (ps_for hp hc hi hg hb hs) fun D σ H ⟨c, A, st, P, I, q, k⟩ => ⟨c, A, st, _, I, q, fun xs s1 H1 J q1 I1 k1 l1 io => by
    obtain ⟨G, Y, wk, hG, hY⟩ := io
    have e01 := I.evoS k1 I1 l1
    refine for_it wk (fun i σ' H' => ∃ A' st', REnv M E c A' st' σ' H' ∧ Evo M c A s1.sl H1 A' st'.sl H' ∧ goF g tb (xs.drop i) P st') ⟨A, s1, I1, .refl, q1⟩ (fun i σ' H' _ ⟨A', st', _, e, _⟩ => hG _ _ e) ?_ ?_
    · rintro i x' σ' H2 H3 hi ⟨A', st', I2, e2, q2⟩ hy
      obtain ⟨sm, x, hx, rx⟩ := hY _ H2 i x' H3 e2 hi hy
      have ed : xs.drop i = x :: xs.drop (i + 1) := by
        rw [List.drop_eq_getElem_cons hi]
        rw [List.getElem?_eq_getElem hi] at hx
        cases hx
        rfl
      rw [ed] at q2
      have I3 := I2.same sm
      have e3 : Evo M c A s1.sl H1 A' st'.sl H3 := e2.trans (I2.evoK (.same sm) .refl)
      refine ⟨c, A', st', x, _, I3, rx, q2, fun s4 σ4 q4 I4 l4 _ _ => ?_⟩
      have e4 : Evo M c A s1.sl H1 A' s4.sl H3 := e3.trans (I3.mvL l4)
      refine ⟨c, A', s4, _, I4, q4, ?_⟩
      exact ⟨fun A5 s5 σ5 H5 q5 I5 e5 => ⟨A5, s5, I5, e4.trans e5, q5⟩, fun A5 s5 σ5 H5 q5 I5 e5 => k.nx A5 s5 σ5 H5 q5 I5 ((e01.trans e4).trans e5), fun A5 s5 σ5 H5 q5 I5 e5 => ⟨A5, s5, I5, e4.trans e5, q5⟩, k.rt⟩
    · rintro σ' H' ⟨A', st', I2, e2, q2⟩
      rw [List.drop_length] at q2
      exact k.nx A' st' σ' H' q2 I2 (e01.trans e2)⟩
/-- a while: an invariant with a number that falls -/
def pWhile (tt : PTT) (tb : PTS) : PTS := fun P st => ∃ W : Nat → PSt → Prop, (∃ m, W m st) ∧ ∀ m s1, W m s1 → tt s1 fun b s2 => if b = true then tb { nx := fun s3 => ∃ m', m' < m ∧ W m' s3, ct := fun s3 => ∃ m', m' < m ∧ W m' s3, bk := P.nx, rt := P.rt } s2 else P.nx s2
theorem pps_while {cnd : Expr} {body : List Stmt} {tt : PTT} {tb : PTS} (hp : PassesOwn (model X.prog X.w) X.A X.env X.xe) (hc : PPT X M E cnd tt) (hb : PPSs X M E body tb) : PPS X M E (.While cnd body [] pos) (pWhile tt tb) :=
  imS (ps_while hp hc hb) fun D σ H ⟨c, A, st, P, I, ⟨W, ⟨m0, w0⟩, turn⟩, k⟩ => by
    refine ⟨fun m σ' H' => ∃ A' st', REnv M E c A' st' σ' H' ∧ Evo M c A st.sl H A' st'.sl H' ∧ W m st', ⟨m0, A, st, I, .refl, w0⟩, fun m σ' H' ⟨A', st', I', e', w'⟩ => ?_⟩
    refine ⟨c, A', st', _, I', turn m st' w', fun b s2 H2 q2 I2 k2 l2 => ?_⟩
    have e2 := e'.trans (I'.evoS k2 I2 l2)
    cases b with
    | false => exact (if_neg Bool.false_ne_true).mpr (k.nx A' s2 σ' H2 ((if_neg Bool.false_ne_true).mp q2) I2 e2)
    | true =>
      have q2 := (if_pos rfl).mp q2
      refine (if_pos rfl).mpr ⟨fun σ3 H3 => ∃ m', m' < m ∧ ∃ A3 s3, REnv M E c A3 s3 σ3 H3 ∧ Evo M c A st.sl H A3 s3.sl H3 ∧ W m' s3, fun σ3 H3 ⟨m', lt, h⟩ => ⟨m', lt, h⟩, c, A', s2, _, I2, q2, ?_⟩
      exact ⟨fun A5 s5 σ5 H5 ⟨m', lt, w5⟩ I5 e5 => ⟨m', lt, A5, s5, I5, e2.trans e5, w5⟩, fun A5 s5 σ5 H5 q5 I5 e5 => k.nx A5 s5 σ5 H5 q5 I5 (e2.trans e5), fun A5 s5 σ5 H5 ⟨m', lt, w5⟩ I5 e5 => ⟨m', lt, A5, s5, I5, e2.trans e5, w5⟩, k.rt⟩
end
end My
namespace My
open PySem L2
/-! ### more words -/
def PV.tru : PV → Option Bool
  | .non => some false
  | .bl b => some b
  | .int i => some (i != 0)
  | .lst xs => some (!xs.isEmpty)
  | .tup xs => some (!xs.isEmpty)
  | .dct xs => some (!xs.isEmpty)
  | _ => none
theorem RepL.emp {M : Pm} {p : Option Addr} {O : Addr → Prop} {H : Hp} {vs : List V} {xs : List PV} (r : RepL M p O H vs xs) : vs.isEmpty = xs.isEmpty := by cases r <;> rfl
theorem RepK.emp {M : Pm} {p : Option Addr} {O : Addr → Prop} {H : Hp} {vs : List (Key × V)} {xs : List (Key × PV)} (r : RepK M p O H vs xs) : vs.isEmpty = xs.isEmpty := by cases r <;> rfl
theorem Peek.tru {M : Pm} {c : PCx} {A : Nat → Addr} {st : PSt} {H : Hp} {v : V} {x : PV} (r : Peek M c A st H v x) {b : Bool} (h : x.tru = some b) : TruV M.K v H b := by
  cases x with
  | non => cases h; cases r.non; rfl
  | bl b => cases h; cases r.bl; rfl
  | int i => cases h; cases r.int; rfl
  | lst xs =>
    cases h
    obtain ⟨a, ws, rfl, e, q⟩ := r.lst
    exact .inl ⟨ws, SqL.of e, by rw [q.emp]⟩
  | tup xs =>
    cases h
    obtain ⟨a, ws, rfl, e, q⟩ := r.tup
    exact .inr (.inl ⟨ws, SqT.of e, by rw [q.emp]⟩)
  | dct xs =>
    cases h
    obtain ⟨a, ws, rfl, e, q⟩ := r.dct
    exact .inr (.inr ⟨ws, e, by rw [q.emp]⟩)
  | _ => cases h
def pTru (t : PTE) : PTT := fun st Q => t st fun x s1 => ∃ b, x.tru = some b ∧ Q b s1
def pNeg (t : PTE) : PTE := fun st Q => t st fun x s1 => ∃ i, x = .int i ∧ Q (.int (-i)) s1
section
variable {X : Cx} {M : Pm} {E : XK} {e : Expr} {s : Stmt} {pos : Pos} {t te : PTE} {tn : PTN}
theorem pt_tr (hK : X.K = M.K) (h : PK X M E e t) (he : ∀ whole, isTrue e X.env whole = (do let v ← whole; standAt e.pos; holding [v] (truthy v)) := by intro _; rfl) : PPT X M E e (pTru t) :=
  imT (pt_truth h he) fun σ H Q ⟨c, A, st, Qp, I, q, k⟩ => ⟨c, A, st, _, I, q, fun x s1 v H1 ⟨bb, e1, q1⟩ I1 k1 l1 r1 => by
    rw [hK]
    exact ⟨bb, r1.tru e1, k bb s1 H1 q1 I1 k1 l1⟩⟩
theorem pp_neg (h : PP X M E e t) : PP X M E (.UnaryOp .USub e pos) (pNeg t) :=
  imE (pe_un un_neg h) fun σ H Q ⟨c, A, st, Qp, I, q, k⟩ => ⟨c, A, st, _, I, q, fun x s1 v H1 ⟨i, e1, q1⟩ I1 k1 l1 r1 => by
    subst e1
    cases r1
    exact ⟨i, rfl, k _ s1 _ H1 q1 I1 k1 l1 (.int _)⟩⟩
variable {i : Nat} {x : Str} {pos' : Pos}
theorem pps_set (hN : X.N.Nodup) (hi : X.N[i]? = some x) (hx : Loc X.env.scope x) (he : PP X M E e te) (hs : swapsWith e (some (.Name x pos')) pos.line X.env = pure false := by rfl) (hf : X.fn x = true ∨ X.env.scope.names.lookup x = some .local := by first | exact .inl rfl | exact .inr rfl | assumption) :
    PPS X M E (.Assign [.Name x pos'] e pos) (pSet i te) := pps_setG (ps_set hN hi hx he hs hf)
theorem pps_own (hN : X.N.Nodup) (hi : X.N[i]? = some x) (hx : Loc X.env.scope x) (he : PN X M E e tn) (hs : swapsWith e (some (.Name x pos')) pos.line X.env = pure false := by rfl) (hf : X.fn x = true ∨ X.env.scope.names.lookup x = some .local := by first | exact .inl rfl | exact .inr rfl | assumption) :
    PPS X M E (.Assign [.Name x pos'] e pos) (pOwn i tn) := pps_ownG (ps_set hN hi hx he hs hf)
theorem pps_asg {tg : Expr} {g : PTG} {vs : List Nat} (he : PP X M E e te) (hg : PG X tg (LiftG M E g vs)) (hs : swapsWithSole [tg] e pos.line X.env = pure false := by rfl) (hw : swappedStores [tg] e X.env = pure none := by rfl)
    (h1 : (assignEach [tg] X.env).map (·.2) = [assign tg X.env] := by rfl) : PPS X M E (.Assign [tg] e pos) (pAsg te g) := pps_asgG (ps_asg he hg hs hw h1)
theorem pps_dput {o ix : Expr} {tv ty : PTE} {pos' : Pos} (hu : X.A.units + 1 < cLine) (ho : PE X o (tVar i)) (hi : PP X M E ix ty) (hv : PP X M E e tv) (hs : swapsWith e (some (.Subscript o ix pos')) pos.line X.env = pure false := by rfl) :
    PPS X M E (.Assign [.Subscript o ix pos'] e pos) (pDput i tv ty) := pps_dputG (ps_dput hu ho hi hv hs)
/-- the operations op= on ints -/
inductive AugP (X : Cx) (M : Pm) : Operator → (PV → PV → (PV → Prop) → Prop) → Prop
  | mk {op : Operator} {r : TIp} {rp : PV → PV → (PV → Prop) → Prop} (ho : PIp X op r) (hp : PureO M r rp) : AugP X M op rp
theorem a_add : AugP X M .Add (fun x y Q => ∃ i j, x = .int i ∧ y = .int j ∧ Q (.int (i + j))) := .mk iop_add fun E c A st σ H v w x y Qp Q I hx hy ⟨i, j, e1, e2, q⟩ k => by
  subst e1 e2
  cases hx.int
  cases hy.int
  exact ⟨i, j, rfl, rfl, k _ _ H q I .refl (.int _)⟩
theorem a_sub : AugP X M .Sub (fun x y Q => ∃ i j, x = .int i ∧ y = .int j ∧ Q (.int (i - j))) := .mk iop_sub fun E c A st σ H v w x y Qp Q I hx hy ⟨i, j, e1, e2, q⟩ k => by
  subst e1 e2
  cases hx.int
  cases hy.int
  exact ⟨i, j, rfl, rfl, k _ _ H q I .refl (.int _)⟩
theorem pps_aug {op : Operator} {rp : PV → PV → (PV → Prop) → Prop} (C : AugP X M op rp) (hN : X.N.Nodup) (hi : X.N[i]? = some x) (hx : Loc X.env.scope x) (he : PP X M E e te) (hf : X.fn x = true ∨ X.env.scope.names.lookup x = some .local := by first | exact .inl rfl | exact .inr rfl | assumption) :
    PPS X M E (.AugAssign (.Name x pos') op e pos) (pAug i te rp) := by
  cases C with
  | mk ho hp =>
    exact imS (ps_aug hN hi hx he ho hf) fun D σ H ⟨c, A, st, P, I, ⟨x0, h0, q⟩, k⟩ => by
      obtain ⟨v0, e0, r0⟩ := I.shAt h0
      refine ⟨v0, e0, c, A, st, _, I, q, fun y s1 w H1 q1 I1 k1 l1 r1 => ?_⟩
      refine hp E c A s1 σ H1 v0 w x0 y _ _ I1 (.inl (r0.mv (I.mvK k1 fun b => l1.av))) (.inl r1) q1 fun z u H2 ⟨hi, q2⟩ I2 k2 r2 => ?_
      obtain ⟨I3, e3⟩ := I2.putEvo hi r2
      exact k.nx A _ _ H2 q2 I3 ((I.evoS (k1.trans k2) I2 l1).trans e3)
end
/-! ### a def, by what it makes of trees -/
/-- the heap without tables of code -/
def nt (H : Hp) : Hp := fun b => match H b with
  | some (.tbl _) => none
  | x => x
theorem nt_of {H : Hp} {b : Addr} {u : HO} (e : H b = some u) (n : NoT u) : nt H b = some u := by
  unfold nt
  rw [e]
  cases u with
  | tbl ps => exact absurd rfl (n ps)
  | _ => rfl
theorem of_nt {H : Hp} {b : Addr} {u : HO} (e : nt H b = some u) : H b = some u ∧ NoT u := by
  unfold nt at e
  split at e
  · cases e
  · rename_i x h
    exact ⟨e, fun ps z => h ps (by rw [e, z])⟩
def spP (M : Pm) (rp : PFn) : Sp := fun vs H Q E => ∃ (c : PCx) (n : Nat) (xs : List PV) (Qp : PV → Nat → Prop) (R : PX → Nat → Prop), c.H0 = nt H ∧ (∀ q, c.p = some q → c.B q) ∧ (∀ b, c.B b → ∃ u, H b = some u ∧ Mt M.C u ∧ NoT u) ∧ SrcAt M c H n ∧ RepL M c.p c.B H vs xs ∧ rp n xs Qp R ∧ EOk M E c R ∧
  ∀ z n' v H', Qp z n' → Out c H' → SrcAt M c H' n' → Rep M c.p c.B H' v z → Q v H'
theorem pureR_spP {M : Pm} {rp : PFn} {E : XK} : PureR M (spP M rp) rp E := by
  intro c A st σ H vs xs Qp Q I rl q k
  refine ⟨⟨c.p, nt H, Av c A st.sl⟩, st.n, xs, Qp, st.R, rfl, fun q e => .inl (I.sb q e), ?_, I.src, rl, q, ?_, ?_⟩
  · rintro b (h | ⟨i, o, e, rfl⟩)
    · exact I.mt b h
    · obtain ⟨_, ho, e2, r⟩ := I.ownAt e
      exact ⟨ho, e2, r.mt, r.nt⟩
  · intro C f x n d v H' hr ho hs h1 h2 hx
    refine I.er C f x n d v H' hr (fun b u e z => ho b u (nt_of (I.out b u e z) (I.h0 b u e)) z) hs h1 ?_ (hx.mv ⟨fun _ _ _ _ h => .inl h, fun _ _ e _ => .inl e⟩)
    cases e : c.H0 d with
    | none => rfl
    | some u =>
      by_cases z : c.p = some d
      · obtain ⟨o, e1, e2⟩ := hs.1 d z
        rw [h1] at e1
        cases e1
        obtain ⟨_, _, _, z, _⟩ := e2
        cases z
      · have := nt_of (I.out d u e z) (I.h0 d u e)
        rw [show (nt H) d = none from h2] at this
        cases this
  · intro z n' v H' hz ho hs hx
    exact k z n' v H' hz (I.keep (fun b u e z t => ho b u (nt_of e t) z) hs) (fun b u e z t => ho b u (nt_of e t) z) hx
def startP (N : List Str) (xs : List PV) : List PSl := xs.map PSl.sh ++ List.replicate (N.length - xs.length) .emp
theorem start_env {M : Pm} {E : XK} {c : PCx} {n : Nat} {R : PX → Nat → Prop} {vs : List V} {xs : List PV} {H : Hp} {N : List Str} (h0 : c.H0 = nt H) (sb : ∀ q, c.p = some q → c.B q) (mt : ∀ b, c.B b → ∃ u, H b = some u ∧ Mt M.C u ∧ NoT u) (hs : SrcAt M c H n) (rl : RepL M c.p c.B H vs xs) (er : EOk M E c R) :
    REnv M E c (fun _ => 0) ⟨n, startP N xs, R⟩ (L2.start N vs) H := by
  have no : ∀ (i : Nat) (o : POwn), (startP N xs)[i]? ≠ some (PSl.own o) := by
    intro i o e
    have m := List.mem_of_getElem? e
    unfold startP at m
    rcases List.mem_append.mp m with m | m
    · obtain ⟨x, _, z⟩ := List.mem_map.mp m
      cases z
    · have := (List.mem_replicate.mp m).2
      cases this
  have hl := rl.length
  refine ⟨?_, fun i j o o' e => absurd e (no i o), fun i o e => absurd e (no i o), fun b u e _ => by rw [h0] at e; exact (of_nt e).1, hs, sb, mt, fun i s v e1 e2 => ?_, er, fun b u e => by rw [h0] at e; exact (of_nt e).2⟩
  · unfold L2.start startP
    rw [List.length_append, List.length_append, List.length_map, List.length_map, List.length_replicate, List.length_replicate, hl]
  · have e1 : (startP N xs)[i]? = some s := e1
    unfold startP at e1
    unfold L2.start at e2
    by_cases z : i < xs.length
    · rw [List.getElem?_append_left (by rw [List.length_map]; exact z), List.getElem?_map] at e1
      rw [List.getElem?_append_left (by rw [List.length_map, hl]; exact z), List.getElem?_map] at e2
      rw [List.getElem?_eq_getElem z] at e1
      obtain ⟨w, hw, rw'⟩ := rl.get (List.getElem?_eq_getElem z)
      rw [hw] at e2
      cases e1
      cases e2
      exact ⟨w, rfl, rw'.mv ⟨fun b u _ _ h => by
        rcases h with h | ⟨j, o, e, _⟩
        · exact h
        · exact absurd e (no j o), fun _ _ e _ => .inl e⟩⟩
    · rw [List.getElem?_append_right (by rw [List.length_map]; omega)] at e1
      rw [List.getElem?_append_right (by rw [List.length_map, hl]; omega)] at e2
      have m1 := (List.mem_replicate.mp (List.mem_of_getElem? e1)).2
      have m2 := (List.mem_replicate.mp (List.mem_of_getElem? e2)).2
      subst m1
      exact m2
/-- the facts of a def that stands in the module -/
structure RawF (K : PySem.W.Frag) (mg : Str → Option Value) (x qual : Str) (st : Stmt) (ps : List Str) : Prop where
  ex : ∃ f fd, Fun K x qual st f fd ∧ Binds K fd ps [] ∧ mg x = some (.ref f)
section
variable {P : Program} {w : World} {K : PySem.W.Frag} {mg : Str → Option Value} {base : Heap} {M : Pm}
theorem Fun.pure {x qual : Str} {st : Stmt} {f : Addr} {fd : FuncData} {N ps : List Str} {k : Nat} {rp : PFn} (F : Fun K x qual st f fd) (S : FnScope N ps (defScope st)) (hl : ∀ n xs Q R, rp n xs Q R → xs.length = ps.length)
    (body : ∀ (cdv : Value) (A : Around) (outer : List Env) (s : Shared) (H : Hp) (E : XK), Room k (A.deeper (PyProof.Rows.envOfC qual (defScope st) s.heap.objs.size f cdv)) →
      ∃ T, PPSs (cxOf CX0 P w K mg base N qual (defScope st) f cdv A outer s H E).nox M E (defBody st) T ∧ ∀ n xs Q R, rp n xs Q R → T { nx := fun st' => Q .non st'.n, rt := fun z st' => Q z st'.n } ⟨n, startP N xs, R⟩) : FnOk P w K mg base CX0 (k + 1) f fd ps (spP M rp) := by
  refine F.ok S (fun vs H Q E h => ?_) fun cdv A outer s H vs Q E hr h => ?_
  · obtain ⟨c, n, xs, Qp, R, _, _, _, _, rl, q, _⟩ := h
    rw [rl.length]
    exact hl n xs _ _ q
  · obtain ⟨c, n, xs, Qp, R, h0, sb, mt, hs, rl, q, er, kk⟩ := h
    obtain ⟨T, hT, hq⟩ := body cdv A outer s H E hr
    refine ⟨_, hT, c, fun _ => 0, ⟨n, startP N xs, R⟩, _, start_env h0 sb mt hs rl er, hq n xs Qp R q, ⟨fun A' st' σ' H' p I _ => kk .non st'.n .non H' p I.out I.src .non, fun _ _ _ _ p => p.elim, fun _ _ _ _ p => p.elim, fun A' st' σ' z v H' p I r => kk z st'.n v H' p I.out I.src r⟩⟩
theorem RawF.pure {x qual : Str} {st : Stmt} {N ps : List Str} {k : Nat} {rp : PFn} (F : RawF K mg x qual st ps) (S : FnScope N ps (defScope st)) (hl : ∀ n xs Q R, rp n xs Q R → xs.length = ps.length)
    (body : ∀ (f : Addr) (cdv : Value) (A : Around) (outer : List Env) (s : Shared) (H : Hp) (E : XK), Room k (A.deeper (PyProof.Rows.envOfC qual (defScope st) s.heap.objs.size f cdv)) →
      ∃ T, PPSs (cxOf CX0 P w K mg base N qual (defScope st) f cdv A outer s H E).nox M E (defBody st) T ∧ ∀ n xs Q R, rp n xs Q R → T { nx := fun st' => Q .non st'.n, rt := fun z st' => Q z st'.n } ⟨n, startP N xs, R⟩) : DefP P w K mg base M CX0 (k + 1) x ps rp := by
  obtain ⟨f, fd, F, B, g⟩ := F.ex
  exact ⟨f, fd, _, Fun.pure F S hl (body f), F.kp, B, g, fun E => pureR_spP⟩
/-- a def that was proved otherwise -/
theorem DefP.of {CX : CXT} {k : Nat} {x : Str} {f : Addr} {fd : FuncData} {ps : List Str} {sp : Sp} {rp : PFn} (F : FnOk P w K mg base CX k f fd ps sp) (hk : PySem.W.keepIn K (.ref f) = true) (hb : Binds K fd ps []) (hg : mg x = some (.ref f)) (h : ∀ E, PureR M sp rp E) : DefP P w K mg base M CX k x ps rp := ⟨f, fd, sp, F, hk, hb, hg, h⟩
end
end My
namespace My
open PySem L2
/-! ### xs[::-1] -/
theorem Vals.rev : ∀ {xs : List V} {us : List Value}, Vals xs us → Vals xs.reverse us.reverse
  | _, _, .nil => .nil
  | _, _, .cons r t => by
    rw [List.reverse_cons, List.reverse_cons]
    exact Vals.append (Vals.rev t) (.cons r .nil)
section
open PySem.Spec PyProof.Rows
variable {X : Cx} {e st : Expr} {te tb : TE} {pos p2 : Pos}
def kBack (K : PySem.W.Frag) (x : V) (Q : VK) : Option Int → Hp → Prop := fun o G => o = some (-1) ∧ ∃ a xs, x = .ref a ∧ SqL K G a xs ∧ ∀ p, G p = Option.none → Q (.ref p) (upd G p (.lst xs.reverse))
def tBack (K : PySem.W.Frag) (t tb : TE) : TE := fun σ H Q => t σ H fun x H1 => tPart tb σ H1 (kBack K x Q)
theorem pe_back (he : PE X e te) (hb : PE X st tb) : PE X (.Subscript e (.Slice none none (some st) p2) pos) (tBack X.K te tb) := by
  refine ⟨fun pins s σ H Q I want => Subscript_ (thn (he.run pins s σ H _ I want) fun v s1 ⟨x, H1, J1, rx, w1⟩ => ?_)⟩
  refine wpAny_Slice (thn (po_none.run pins s1 σ H1 (fun o G => o = Option.none ∧ tPart tb σ G (kBack X.K x Q)) J1 ⟨rfl, w1⟩) fun vl s2 ⟨l, H2, J2, pl, e2, w2⟩ =>
    thn (po_none.run pins s2 σ H2 (fun o G => o = Option.none ∧ tPart tb σ G (kBack X.K x Q)) J2 ⟨rfl, w2⟩) fun vu s3 ⟨u, H3, J3, pu, e3, w3⟩ =>
    thn ((po_some hb).run pins s3 σ H3 (kBack X.K x Q) J3 w3) fun vk s4 ⟨o, H4, J4, pk, e4, a, xs, ex, hx, w4⟩ => ?_)
  subst e2 e3 e4 ex
  cases rx
  have J5 : Inv X pins σ H4 { s4 with heap := s4.heap.push { cls := .type "slice", data := .fields #[vl, vu, vk] } } := J4.kept (t' := s4.toks) fun b o q => Heap.get?_push_of_some _ q
  obtain ⟨its, rv, pl2, hz⟩ := J5.list hx
  have hlen := rv.length
  refine tail_any (ops := [.ref a, .ref s4.heap.objs.size]) pl2.isList.typeIs slot_list_getitem.lookup ?_ (by with_unfolding_all rfl)
  refine wpAny_getItem_list_slice pl2.isList (Heap.IsSliceOf.new ..) pl pu pk (by decide) ?_ (by rw [List.size_toArray]; omega)
  rw [PySem.W.krv_pick]
  refine ⟨.ref _, _, J5.laid (t' := s4.toks) (o := .lst xs.reverse) (fun b o q => Heap.get?_push_of_some _ q) (Nat.le_refl _) ?_, rfl, w4 _ (J5.hok.fresh (Nat.le_refl _))⟩
  refine ⟨by rw [List.length_reverse]; exact hz, _, 0, Vals.rev rv, ?_⟩
  exact Heap.get?_push_size _ rfl
end
section
variable {X : Cx} {M : Pm} {E : XK} {e a st : Expr} {es : List Expr} {pos p2 p : Pos} {t tb ta : PTE} {ts : PTA}
theorem RepL.rev {M : Pm} {p : Option Addr} {O : Addr → Prop} {H : Hp} : ∀ {vs : List V} {xs : List PV}, RepL M p O H vs xs → RepL M p O H vs.reverse xs.reverse
  | _, _, .nil => .nil
  | _, _, .cons r t => by
    rw [List.reverse_cons, List.reverse_cons]
    exact t.rev.app (.cons r .nil)
def pBack (t tb : PTE) : PTE := fun st Q => t st fun x s1 => tb s1 fun y s2 => ∃ xs, x = .lst xs ∧ y = .int (-1) ∧ Q (.lst xs.reverse) s2
theorem pp_back (h : PK X M E e t) (hb : PP X M E st tb) : PP X M E (.Subscript e (.Slice none none (some st) p2) pos) (pBack t tb) :=
  imE (pe_back h hb) fun σ H Q ⟨c, A, st, Qp, I, q, k⟩ => ⟨c, A, st, _, I, q, fun x s1 v H1 q1 I1 k1 l1 r1 => ⟨c, A, s1, _, I1, q1, fun y s2 w H2 ⟨xs, e1, e2, q2⟩ I2 k2 l2 r2 => by
    subst e1 e2
    cases r2
    obtain ⟨a, vs, rfl, e, r⟩ := (r1.step I1 k2 l2).lst
    exact ⟨_, rfl, rfl, a, vs, rfl, SqL.of e, fun p np => k _ s2 _ _ q2 (I2.new np) ((k1.trans k2).trans (.new np)) (l2.trans l1) (.lst upd_same (I2.noA np) (r.rev.new np))⟩⟩⟩
/-! list(range(..)) -/
theorem rg_rep {p : Option Addr} {O : Addr → Prop} {H : Hp} (a b : Int) : RepL M p O H (rgV a b) (rngP a (b - a).toNat) := by
  unfold rgV rngP
  generalize (b - a).toNat = n
  have key : ∀ l : List Nat, RepL M p O H (l.map fun i : Nat => V.int (a + (i : Nat))) (l.map fun i : Nat => PV.int (a + i)) := by
    intro l
    induction l with
    | nil => exact .nil
    | cons x r ih => exact .cons (.int _) ih
  exact key _
def pRng1 (t : PTE) : PTE := fun st Q => t st fun x s1 => ∃ j : Int, x = .int j ∧ RgOk 0 j ∧ Q (.lst (rngP 0 j.toNat)) s1
def pRng2 (t u : PTE) : PTE := fun st Q => t st fun x s1 => u s1 fun y s2 => ∃ i j : Int, x = .int i ∧ y = .int j ∧ RgOk i j ∧ Q (.lst (rngP i (j - i).toNat)) s2
theorem pp_lrange1 {pp : Pos} (hc : X.calm = true) (hg : Gl X "list") (hm : X.mg "list" = none) (hg2 : Gl X "range") (hm2 : X.mg "range" = none) (h : PP X M E e t) (na : starEach [.Call (.Name "range" p) [e] [] p2] X.env = (false, eval (.Call (.Name "range" p) [e] [] p2) X.env) :: starEach [] X.env := by rfl)
    (nb : starEach [e] X.env = (false, eval e X.env) :: starEach [] X.env := by rfl) : PP X M E (.Call (.Name "list" pp) [.Call (.Name "range" p) [e] [] p2] [] pos) (pRng1 t) :=
  imE (pe_listRg hc hg hm (prg_1 hg2 hm2 h nb) na) fun σ H Q ⟨c, A, st, Qp, I, q, k⟩ => ⟨c, A, st, _, I, q, fun x s1 v H1 ⟨j, e1, ok, q1⟩ I1 k1 l1 r1 => by
    subst e1
    cases r1
    refine ⟨j, rfl, ok, fun q nq => k _ s1 _ _ q1 (I1.new nq) (k1.trans (.new nq)) l1 (.lst upd_same (I1.noA nq) ?_)⟩
    have key := (rg_rep (M := M) (p := c.p) (O := Av c A s1.sl) (H := H1) 0 j).new nq (o := .lst (rgV 0 j))
    rw [Int.sub_zero] at key
    exact key⟩
theorem pp_lrange2 {pp : Pos} {u : PTE} (hc : X.calm = true) (hg : Gl X "list") (hm : X.mg "list" = none) (hg2 : Gl X "range") (hm2 : X.mg "range" = none) (h : PP X M E e t) (h2 : PP X M E a u) (na : starEach [.Call (.Name "range" p) [e, a] [] p2] X.env = (false, eval (.Call (.Name "range" p) [e, a] [] p2) X.env) :: starEach [] X.env := by rfl)
    (nb : starEach [e, a] X.env = (false, eval e X.env) :: starEach [a] X.env := by rfl) (nc : starEach [a] X.env = (false, eval a X.env) :: starEach [] X.env := by rfl) (np : (backTo p2 (starEach [a] X.env)).any (·.1) = false := by rfl) : PP X M E (.Call (.Name "list" pp) [.Call (.Name "range" p) [e, a] [] p2] [] pos) (pRng2 t u) :=
  imE (pe_listRg hc hg hm (prg_2 hg2 hm2 h h2 nb nc np) na) fun σ H Q ⟨c, A, st, Qp, I, q, k⟩ => ⟨c, A, st, _, I, q, fun x s1 v H1 q1 I1 k1 l1 r1 => ⟨c, A, s1, _, I1, q1, fun y s2 w H2 ⟨i, j, e1, e2, ok, q2⟩ I2 k2 l2 r2 => by
    subst e1 e2
    cases r1
    cases r2
    exact ⟨i, j, rfl, rfl, ok, fun q nq => k _ s2 _ _ q2 (I2.new nq) ((k1.trans k2).trans (.new nq)) (l2.trans l1) (.lst upd_same (I2.noA nq) ((rg_rep i j).new nq))⟩⟩⟩
end
/-! ### methods, properties, tables made -/
structure MetP (P : Program) (w : World) (K : PySem.W.Frag) (mg : Str → Option Value) (base : Heap) (M : Pm) (CX : CXT) (k : Nat) (x : Str) (ps : List Str) (rp : PFn) : Prop where
  cl : Cls K M.C
  ex : ∃ (f : Addr) (fd : FuncData) (sp : Sp), FnOk P w K mg base CX k f fd ps sp ∧ Meth K M.C x f ∧ Binds K fd ps [] ∧ ∀ E, PureR M sp rp E
def tabFs : List Str := ["_field", "_rows", "_width"]
theorem tab_look {f : Int} {t : Addr} {n : Int} {x : Str} (h : x ∉ tabFs) : List.lookup x ([("_field", .int f), ("_rows", .ref t), ("_width", .int n)] : List (Str × V)) = none := by
  unfold tabFs at h
  simp only [List.mem_cons, List.not_mem_nil, or_false, not_or] at h
  simp only [List.lookup_cons]
  rw [show (x == ("_field" : Str)) = false from beq_eq_false_iff_ne.mpr h.1, show (x == ("_rows" : Str)) = false from beq_eq_false_iff_ne.mpr h.2.1, show (x == ("_width" : Str)) = false from beq_eq_false_iff_ne.mpr h.2.2]
  rfl
def pMeth (rp : PFn) (to : PTE) (ts : PTA) : PTE := fun st Q => to st fun x s1 => ∃ f nss, x = .tab f nss ∧ ts s1 fun xs s2 => rp s2.n (x :: xs) (fun z n => Q z (s2.at n)) s2.R
section
variable {X : Cx} {M : Pm} {E : XK} {o e : Expr} {es : List Expr} {apos pos : Pos} {to : PTE} {ts : PTA} {rp : PFn} {CX : CXT} {k : Nat} {x : Str} {ps : List Str}
theorem pp_meth {pl : Sem Bool} (hK : X.K = M.K) (ho : PK X M E o to) (D : MetP X.prog X.w X.K X.mg X.base M CX k x ps rp) (hr : Room k X.A) (hx : Passes CX X E) (ha : PPA X M E (e :: es) ts) (hn : x ∉ tabFs := by decide)
    (s1 : starEach (e :: es) X.env = (false, eval e X.env) :: starEach es X.env := by rfl) (s2 : (backTo pos (starEach es X.env)).any (·.1) = false := by rfl)
    (s3 : eval (.Call (.Attribute o x apos) (e :: es) [] pos) X.env = (do let ov ← eval o X.env; standAt apos.atName; let (f, first) ← holding [ov] (getMethod ov x pl); callWith pos f first (backTo pos (starEach (e :: es) X.env)) (backToKw pos (keywordEach [] X.env))) := by rfl) :
    PP X M E (.Call (.Attribute o x apos) (e :: es) [] pos) (pMeth rp to ts) := by
  obtain ⟨f, fd, sp, F, me, hb, hp⟩ := D.ex
  exact imE (pe_meth ho D.cl me F hr hb .nil hx ha s1 s2 s3) fun σ H Q ⟨c, A, st, Qp, I, q, k⟩ => ⟨c, A, st, _, I, q, fun y s1 v H1 ⟨fl, nss, e1, q1⟩ I1 k1 l1 r1 => by
    subst e1
    obtain ⟨a, rfl, tb⟩ := r1.tab
    obtain ⟨dx, t, tt, h1, h2, h3⟩ := id tb
    refine ⟨a, dx, _, rfl, h1, tab_look hn, c, A, s1, _, I1, q1, fun xs s2 vs H2 q2 I2 k2 l2 r2 => ?_⟩
    have rt : Rep M c.p (Av c A s2.sl) H2 (.ref a) (.tab fl nss) := .tab (tb.mv (I1.mvK k2 fun b => l2.av))
    show sp (.ref a :: (vs ++ [])) H2 Q E
    rw [List.append_nil]
    exact hp E c A s2 σ H2 (.ref a :: vs) _ _ _ I2 (.cons rt r2) q2 fun z n u H3 q3 I3 k3 r3 => k z _ u H3 q3 I3 ((k1.trans k2).trans k3) (l2.trans l1) r3⟩
/-- a property -/
structure PrpP (P : Program) (w : World) (K : PySem.W.Frag) (mg : Str → Option Value) (base : Heap) (M : Pm) (k : Nat) (x : Str) (rp : PFn) : Prop where
  cl : Cls K M.C
  ex : ∃ (f g : Addr) (fd : FuncData) (sp : Sp), FnOk P w K mg base CX0 k f fd ["self"] sp ∧ PropOf K M.C x g f ∧ Binds K fd ["self"] [] ∧ ∀ E, PureR M sp rp E
theorem pp_prop (ho : PK X M E o to) (D : PrpP X.prog X.w X.K X.mg X.base M k x rp) (hr : Room (k + 1) X.A) (hab : attributeBase o x X.env (eval o X.env) = eval o X.env := by rfl) (hx : Passes CX0 X.nox E := by exact pass0) : PP X M E (.Attribute o x pos) (pMeth rp to pNil) := by
  obtain ⟨f, g, fd, sp, F, pr, hb, hp⟩ := D.ex
  exact imE (pe_prop ho D.cl pr F hr hb .nil hx hab) fun σ H Q ⟨c, A, st, Qp, I, q, k⟩ => ⟨c, A, st, _, I, q, fun y s1 v H1 ⟨fl, nss, e1, q1⟩ I1 k1 l1 r1 => by
    subst e1
    obtain ⟨a, rfl, tb⟩ := r1.tab
    obtain ⟨dx, t, tt, h1, h2, h3⟩ := id tb
    exact ⟨a, dx, _, rfl, h1, hp E c A s1 σ H1 [.ref a] [.tab fl nss] _ _ I1 (.cons (.tab tb) .nil) q1 fun z n u H3 q3 I3 k3 r3 => k z _ u H3 q3 I3 (k1.trans k3) l1 r3⟩⟩
/-- isinstance(x, Rows) -/
structure ClsFacts (K : PySem.W.Frag) (C : Addr) : Prop where
  cl : Cls K C
  ha : PySem.W.findIn K (.ref C) "__class__" = some (some (.builtin "object.__class__"))
  hn : PySem.W.specialIn K (.builtin "object.__class__") "__get__" = some (some (.builtin "getset_descriptor.__get__"))
  tk : PySem.W.takesIn K (.builtin "object.__class__") = some true
  hm : PySem.W.mroIn K C (.type "object") = some true
  no : ∀ x : PV, ∀ t, x.tyN = some t → PySem.W.kitOne K (.type t) (.ref C) = some false
def isiCP : List PV → (PV → Prop) → Prop
  | [.tab _ _, .cls], Q => Q (.bl true)
  | [x, .cls], Q => x.tyN.isSome = true ∧ Q (.bl false)
  | _, _ => False
theorem b_isiC (hK : X.K = M.K) (F : ClsFacts M.K M.C) : CalB X M E "isinstance" (fn0 isiCP) :=
  .mk call_isi (by
    rw [hK]
    exact pureF0 fun c A st σ H vs xs Qp Q I hv q k => by
      unfold isiCP at q
      split at q
      · obtain ⟨v, w, rfl, r, r'⟩ := Peeks.two hv
        cases r'.cls
        obtain ⟨a, rfl, tb⟩ := r.tab
        obtain ⟨dx, t, tt, h1, h2, h3⟩ := id tb
        exact ⟨_, _, _, _, _, rfl, .own M.C, .base (.ins h1 F.cl F.ha F.hn F.tk F.hm), kitOne_same, k _ _ H q I .refl (.bl _)⟩
      · obtain ⟨v, w, rfl, r, r'⟩ := Peeks.two hv
        cases r'.cls
        obtain ⟨h1, q⟩ := q
        rename_i x _
        cases e : x.tyN with
        | none =>
          rw [e] at h1
          cases h1
        | some t => exact ⟨_, _, _, _, _, rfl, .own M.C, r.tyx e, F.no x t e, k _ _ H q I .refl (.bl _)⟩
      · exact q.elim)
/-- len(table) -/
def lenTP : List PV → (PV → Prop) → Prop
  | [.tab _ nss], Q => nss.length < 1000000 ∧ Q (.int (nss.length : Nat))
  | _, _ => False
theorem b_lenT {R : Addr → Hp → Nat → Prop} {f : Addr} {fd : FuncData} (h : CallR X (.builtin "len") (rLenOwn M.C R)) (hR : ∀ H a fl nss, TabP M.C H a fl nss → R a H nss.length) : CalB X M E "len" (fn0 lenTP) :=
  .mk h (pureF0 fun c A st σ H vs xs Qp Q I hv q k => by
    unfold lenTP at q
    split at q
    · obtain ⟨v, rfl, r⟩ := Peeks.one hv
      obtain ⟨a, rfl, tb⟩ := r.tab
      obtain ⟨dx, t, tt, h1, h2, h3⟩ := id tb
      exact ⟨a, dx, _, _, rfl, h1, hR _ _ _ _ tb, q.1, fun H' s => k _ _ H' q.2 (I.same s) (.same s) (.int _)⟩
    · exact q.elim)
end
/-! ### words that simp knows -/
theorem sz_0 : (0 ≤ sizeLine) = True := eq_true (Nat.le_of_ble_eq_true rfl)
theorem sz_1 : (1 ≤ sizeLine) = True := eq_true (Nat.le_of_ble_eq_true rfl)
theorem sz_2 : (2 ≤ sizeLine) = True := eq_true (Nat.le_of_ble_eq_true rfl)
theorem sz_3 : (3 ≤ sizeLine) = True := eq_true (Nat.le_of_ble_eq_true rfl)
theorem sz_4 : (4 ≤ sizeLine) = True := eq_true (Nat.le_of_ble_eq_true rfl)
theorem sz_5 : (5 ≤ sizeLine) = True := eq_true (Nat.le_of_ble_eq_true rfl)
theorem sz_6 : (6 ≤ sizeLine) = True := eq_true (Nat.le_of_ble_eq_true rfl)
theorem sz_7 : (7 ≤ sizeLine) = True := eq_true (Nat.le_of_ble_eq_true rfl)
theorem sz_8 : (8 ≤ sizeLine) = True := eq_true (Nat.le_of_ble_eq_true rfl)
theorem sz_9 : (9 ≤ sizeLine) = True := eq_true (Nat.le_of_ble_eq_true rfl)
theorem sz_10 : (10 ≤ sizeLine) = True := eq_true (Nat.le_of_ble_eq_true rfl)
theorem sz_11 : (11 ≤ sizeLine) = True := eq_true (Nat.le_of_ble_eq_true rfl)
theorem sz_12 : (12 ≤ sizeLine) = True := eq_true (Nat.le_of_ble_eq_true rfl)
theorem isi_non_int  {Q : PV → Prop} : isiP [PV.non, .ty "int"] Q = Q (.bl false) := propext ⟨fun h => by obtain ⟨_, t, e, q⟩ := h; cases e; exact q, fun h => ⟨by decide, _, rfl, h⟩⟩
theorem isi_non_bool  {Q : PV → Prop} : isiP [PV.non, .ty "bool"] Q = Q (.bl false) := propext ⟨fun h => by obtain ⟨_, t, e, q⟩ := h; cases e; exact q, fun h => ⟨by decide, _, rfl, h⟩⟩
theorem isi_non_str  {Q : PV → Prop} : isiP [PV.non, .ty "str"] Q = Q (.bl false) := propext ⟨fun h => by obtain ⟨_, t, e, q⟩ := h; cases e; exact q, fun h => ⟨by decide, _, rfl, h⟩⟩
theorem isi_non_list  {Q : PV → Prop} : isiP [PV.non, .ty "list"] Q = Q (.bl false) := propext ⟨fun h => by obtain ⟨_, t, e, q⟩ := h; cases e; exact q, fun h => ⟨by decide, _, rfl, h⟩⟩
theorem isi_non_tuple  {Q : PV → Prop} : isiP [PV.non, .ty "tuple"] Q = Q (.bl false) := propext ⟨fun h => by obtain ⟨_, t, e, q⟩ := h; cases e; exact q, fun h => ⟨by decide, _, rfl, h⟩⟩
theorem isi_non_dict  {Q : PV → Prop} : isiP [PV.non, .ty "dict"] Q = Q (.bl false) := propext ⟨fun h => by obtain ⟨_, t, e, q⟩ := h; cases e; exact q, fun h => ⟨by decide, _, rfl, h⟩⟩
theorem isi_non_seq  {Q : PV → Prop} : isiP [PV.non, .tup [.ty "list", .ty "tuple"]] Q = Q (.bl false) := propext ⟨fun h => by obtain ⟨_, t, e, q⟩ := h; cases e; exact q, fun h => ⟨⟨rfl, rfl⟩, _, rfl, h⟩⟩
theorem isi_bl_int {b : Bool} {Q : PV → Prop} : isiP [(PV.bl b), .ty "int"] Q = Q (.bl true) := propext ⟨fun h => by obtain ⟨_, t, e, q⟩ := h; cases e; exact q, fun h => ⟨by decide, _, rfl, h⟩⟩
theorem isi_bl_bool {b : Bool} {Q : PV → Prop} : isiP [(PV.bl b), .ty "bool"] Q = Q (.bl true) := propext ⟨fun h => by obtain ⟨_, t, e, q⟩ := h; cases e; exact q, fun h => ⟨by decide, _, rfl, h⟩⟩
theorem isi_bl_str {b : Bool} {Q : PV → Prop} : isiP [(PV.bl b), .ty "str"] Q = Q (.bl false) := propext ⟨fun h => by obtain ⟨_, t, e, q⟩ := h; cases e; exact q, fun h => ⟨by decide, _, rfl, h⟩⟩
theorem isi_bl_list {b : Bool} {Q : PV → Prop} : isiP [(PV.bl b), .ty "list"] Q = Q (.bl false) := propext ⟨fun h => by obtain ⟨_, t, e, q⟩ := h; cases e; exact q, fun h => ⟨by decide, _, rfl, h⟩⟩
theorem isi_bl_tuple {b : Bool} {Q : PV → Prop} : isiP [(PV.bl b), .ty "tuple"] Q = Q (.bl false) := propext ⟨fun h => by obtain ⟨_, t, e, q⟩ := h; cases e; exact q, fun h => ⟨by decide, _, rfl, h⟩⟩
theorem isi_bl_dict {b : Bool} {Q : PV → Prop} : isiP [(PV.bl b), .ty "dict"] Q = Q (.bl false) := propext ⟨fun h => by obtain ⟨_, t, e, q⟩ := h; cases e; exact q, fun h => ⟨by decide, _, rfl, h⟩⟩
theorem isi_bl_seq {b : Bool} {Q : PV → Prop} : isiP [(PV.bl b), .tup [.ty "list", .ty "tuple"]] Q = Q (.bl false) := propext ⟨fun h => by obtain ⟨_, t, e, q⟩ := h; cases e; exact q, fun h => ⟨⟨rfl, rfl⟩, _, rfl, h⟩⟩
theorem isi_int_int {b : Int} {Q : PV → Prop} : isiP [(PV.int b), .ty "int"] Q = Q (.bl true) := propext ⟨fun h => by obtain ⟨_, t, e, q⟩ := h; cases e; exact q, fun h => ⟨by decide, _, rfl, h⟩⟩
theorem isi_int_bool {b : Int} {Q : PV → Prop} : isiP [(PV.int b), .ty "bool"] Q = Q (.bl false) := propext ⟨fun h => by obtain ⟨_, t, e, q⟩ := h; cases e; exact q, fun h => ⟨by decide, _, rfl, h⟩⟩
theorem isi_int_str {b : Int} {Q : PV → Prop} : isiP [(PV.int b), .ty "str"] Q = Q (.bl false) := propext ⟨fun h => by obtain ⟨_, t, e, q⟩ := h; cases e; exact q, fun h => ⟨by decide, _, rfl, h⟩⟩
theorem isi_int_list {b : Int} {Q : PV → Prop} : isiP [(PV.int b), .ty "list"] Q = Q (.bl false) := propext ⟨fun h => by obtain ⟨_, t, e, q⟩ := h; cases e; exact q, fun h => ⟨by decide, _, rfl, h⟩⟩
theorem isi_int_tuple {b : Int} {Q : PV → Prop} : isiP [(PV.int b), .ty "tuple"] Q = Q (.bl false) := propext ⟨fun h => by obtain ⟨_, t, e, q⟩ := h; cases e; exact q, fun h => ⟨by decide, _, rfl, h⟩⟩
theorem isi_int_dict {b : Int} {Q : PV → Prop} : isiP [(PV.int b), .ty "dict"] Q = Q (.bl false) := propext ⟨fun h => by obtain ⟨_, t, e, q⟩ := h; cases e; exact q, fun h => ⟨by decide, _, rfl, h⟩⟩
theorem isi_int_seq {b : Int} {Q : PV → Prop} : isiP [(PV.int b), .tup [.ty "list", .ty "tuple"]] Q = Q (.bl false) := propext ⟨fun h => by obtain ⟨_, t, e, q⟩ := h; cases e; exact q, fun h => ⟨⟨rfl, rfl⟩, _, rfl, h⟩⟩
theorem isi_str_int {b : Str} {Q : PV → Prop} : isiP [(PV.str b), .ty "int"] Q = Q (.bl false) := propext ⟨fun h => by obtain ⟨_, t, e, q⟩ := h; cases e; exact q, fun h => ⟨by decide, _, rfl, h⟩⟩
theorem isi_str_bool {b : Str} {Q : PV → Prop} : isiP [(PV.str b), .ty "bool"] Q = Q (.bl false) := propext ⟨fun h => by obtain ⟨_, t, e, q⟩ := h; cases e; exact q, fun h => ⟨by decide, _, rfl, h⟩⟩
theorem isi_str_str {b : Str} {Q : PV → Prop} : isiP [(PV.str b), .ty "str"] Q = Q (.bl true) := propext ⟨fun h => by obtain ⟨_, t, e, q⟩ := h; cases e; exact q, fun h => ⟨by decide, _, rfl, h⟩⟩
theorem isi_str_list {b : Str} {Q : PV → Prop} : isiP [(PV.str b), .ty "list"] Q = Q (.bl false) := propext ⟨fun h => by obtain ⟨_, t, e, q⟩ := h; cases e; exact q, fun h => ⟨by decide, _, rfl, h⟩⟩
theorem isi_str_tuple {b : Str} {Q : PV → Prop} : isiP [(PV.str b), .ty "tuple"] Q = Q (.bl false) := propext ⟨fun h => by obtain ⟨_, t, e, q⟩ := h; cases e; exact q, fun h => ⟨by decide, _, rfl, h⟩⟩
theorem isi_str_dict {b : Str} {Q : PV → Prop} : isiP [(PV.str b), .ty "dict"] Q = Q (.bl false) := propext ⟨fun h => by obtain ⟨_, t, e, q⟩ := h; cases e; exact q, fun h => ⟨by decide, _, rfl, h⟩⟩
theorem isi_str_seq {b : Str} {Q : PV → Prop} : isiP [(PV.str b), .tup [.ty "list", .ty "tuple"]] Q = Q (.bl false) := propext ⟨fun h => by obtain ⟨_, t, e, q⟩ := h; cases e; exact q, fun h => ⟨⟨rfl, rfl⟩, _, rfl, h⟩⟩
theorem isi_lst_int {b : List PV} {Q : PV → Prop} : isiP [(PV.lst b), .ty "int"] Q = Q (.bl false) := propext ⟨fun h => by obtain ⟨_, t, e, q⟩ := h; cases e; exact q, fun h => ⟨by decide, _, rfl, h⟩⟩
theorem isi_lst_bool {b : List PV} {Q : PV → Prop} : isiP [(PV.lst b), .ty "bool"] Q = Q (.bl false) := propext ⟨fun h => by obtain ⟨_, t, e, q⟩ := h; cases e; exact q, fun h => ⟨by decide, _, rfl, h⟩⟩
theorem isi_lst_str {b : List PV} {Q : PV → Prop} : isiP [(PV.lst b), .ty "str"] Q = Q (.bl false) := propext ⟨fun h => by obtain ⟨_, t, e, q⟩ := h; cases e; exact q, fun h => ⟨by decide, _, rfl, h⟩⟩
theorem isi_lst_list {b : List PV} {Q : PV → Prop} : isiP [(PV.lst b), .ty "list"] Q = Q (.bl true) := propext ⟨fun h => by obtain ⟨_, t, e, q⟩ := h; cases e; exact q, fun h => ⟨by decide, _, rfl, h⟩⟩
theorem isi_lst_tuple {b : List PV} {Q : PV → Prop} : isiP [(PV.lst b), .ty "tuple"] Q = Q (.bl false) := propext ⟨fun h => by obtain ⟨_, t, e, q⟩ := h; cases e; exact q, fun h => ⟨by decide, _, rfl, h⟩⟩
theorem isi_lst_dict {b : List PV} {Q : PV → Prop} : isiP [(PV.lst b), .ty "dict"] Q = Q (.bl false) := propext ⟨fun h => by obtain ⟨_, t, e, q⟩ := h; cases e; exact q, fun h => ⟨by decide, _, rfl, h⟩⟩
theorem isi_lst_seq {b : List PV} {Q : PV → Prop} : isiP [(PV.lst b), .tup [.ty "list", .ty "tuple"]] Q = Q (.bl true) := propext ⟨fun h => by obtain ⟨_, t, e, q⟩ := h; cases e; exact q, fun h => ⟨⟨rfl, rfl⟩, _, rfl, h⟩⟩
theorem isi_tup_int {b : List PV} {Q : PV → Prop} : isiP [(PV.tup b), .ty "int"] Q = Q (.bl false) := propext ⟨fun h => by obtain ⟨_, t, e, q⟩ := h; cases e; exact q, fun h => ⟨by decide, _, rfl, h⟩⟩
theorem isi_tup_bool {b : List PV} {Q : PV → Prop} : isiP [(PV.tup b), .ty "bool"] Q = Q (.bl false) := propext ⟨fun h => by obtain ⟨_, t, e, q⟩ := h; cases e; exact q, fun h => ⟨by decide, _, rfl, h⟩⟩
theorem isi_tup_str {b : List PV} {Q : PV → Prop} : isiP [(PV.tup b), .ty "str"] Q = Q (.bl false) := propext ⟨fun h => by obtain ⟨_, t, e, q⟩ := h; cases e; exact q, fun h => ⟨by decide, _, rfl, h⟩⟩
theorem isi_tup_list {b : List PV} {Q : PV → Prop} : isiP [(PV.tup b), .ty "list"] Q = Q (.bl false) := propext ⟨fun h => by obtain ⟨_, t, e, q⟩ := h; cases e; exact q, fun h => ⟨by decide, _, rfl, h⟩⟩
theorem isi_tup_tuple {b : List PV} {Q : PV → Prop} : isiP [(PV.tup b), .ty "tuple"] Q = Q (.bl true) := propext ⟨fun h => by obtain ⟨_, t, e, q⟩ := h; cases e; exact q, fun h => ⟨by decide, _, rfl, h⟩⟩
theorem isi_tup_dict {b : List PV} {Q : PV → Prop} : isiP [(PV.tup b), .ty "dict"] Q = Q (.bl false) := propext ⟨fun h => by obtain ⟨_, t, e, q⟩ := h; cases e; exact q, fun h => ⟨by decide, _, rfl, h⟩⟩
theorem isi_tup_seq {b : List PV} {Q : PV → Prop} : isiP [(PV.tup b), .tup [.ty "list", .ty "tuple"]] Q = Q (.bl true) := propext ⟨fun h => by obtain ⟨_, t, e, q⟩ := h; cases e; exact q, fun h => ⟨⟨rfl, rfl⟩, _, rfl, h⟩⟩
theorem isi_dct_int {b : List (Key × PV)} {Q : PV → Prop} : isiP [(PV.dct b), .ty "int"] Q = Q (.bl false) := propext ⟨fun h => by obtain ⟨_, t, e, q⟩ := h; cases e; exact q, fun h => ⟨by decide, _, rfl, h⟩⟩
theorem isi_dct_bool {b : List (Key × PV)} {Q : PV → Prop} : isiP [(PV.dct b), .ty "bool"] Q = Q (.bl false) := propext ⟨fun h => by obtain ⟨_, t, e, q⟩ := h; cases e; exact q, fun h => ⟨by decide, _, rfl, h⟩⟩
theorem isi_dct_str {b : List (Key × PV)} {Q : PV → Prop} : isiP [(PV.dct b), .ty "str"] Q = Q (.bl false) := propext ⟨fun h => by obtain ⟨_, t, e, q⟩ := h; cases e; exact q, fun h => ⟨by decide, _, rfl, h⟩⟩
theorem isi_dct_list {b : List (Key × PV)} {Q : PV → Prop} : isiP [(PV.dct b), .ty "list"] Q = Q (.bl false) := propext ⟨fun h => by obtain ⟨_, t, e, q⟩ := h; cases e; exact q, fun h => ⟨by decide, _, rfl, h⟩⟩
theorem isi_dct_tuple {b : List (Key × PV)} {Q : PV → Prop} : isiP [(PV.dct b), .ty "tuple"] Q = Q (.bl false) := propext ⟨fun h => by obtain ⟨_, t, e, q⟩ := h; cases e; exact q, fun h => ⟨by decide, _, rfl, h⟩⟩
theorem isi_dct_dict {b : List (Key × PV)} {Q : PV → Prop} : isiP [(PV.dct b), .ty "dict"] Q = Q (.bl true) := propext ⟨fun h => by obtain ⟨_, t, e, q⟩ := h; cases e; exact q, fun h => ⟨by decide, _, rfl, h⟩⟩
theorem isi_dct_seq {b : List (Key × PV)} {Q : PV → Prop} : isiP [(PV.dct b), .tup [.ty "list", .ty "tuple"]] Q = Q (.bl false) := propext ⟨fun h => by obtain ⟨_, t, e, q⟩ := h; cases e; exact q, fun h => ⟨⟨rfl, rfl⟩, _, rfl, h⟩⟩
mutual
theorem eqv_refl : ∀ {x : PV}, x.okD = true → PV.eqv x x = true
  | .non, _ => rfl
  | .bl b, _ => by rw [PV.eqv]; exact beq_self_eq_true b
  | .int i, _ => by rw [PV.eqv]; exact beq_self_eq_true i
  | .str s, _ => by rw [PV.eqv]; exact beq_self_eq_true s
  | .lst xs, h => by rw [PV.okD] at h; rw [PV.eqv]; exact eqvL_refl h
  | .tup xs, h => by rw [PV.okD] at h; rw [PV.eqv]; exact eqvL_refl h
theorem eqvL_refl : ∀ {xs : List PV}, PV.okL xs = true → PV.eqvL xs xs = true
  | [], _ => rfl
  | x :: xs, h => by
    rw [PV.okL, Bool.and_eq_true] at h
    rw [PV.eqvL, eqv_refl h.1, eqvL_refl h.2]
    rfl
end
theorem okL_map {α : Type} {f : α → PV} (h : ∀ a, (f a).okD = true) : ∀ as : List α, PV.okL (as.map f) = true
  | [] => rfl
  | a :: as => by rw [List.map_cons, PV.okL, h a, okL_map h as]; rfl
theorem depL_map {α : Type} {f : α → PV} {k : Nat} (h : ∀ a, (f a).dep ≤ k) : ∀ as : List α, PV.depL (as.map f) ≤ k
  | [] => Nat.zero_le _
  | a :: as => by rw [List.map_cons, PV.depL]; exact Nat.max_le.mpr ⟨h a, depL_map h as⟩
theorem eqvL_map {α : Type} {f : α → PV} [DecidableEq α] (h : ∀ a b, PV.eqv (f a) (f b) = decide (a = b)) : ∀ as bs : List α, PV.eqvL (as.map f) (bs.map f) = decide (as = bs)
  | [], [] => rfl
  | [], _ :: _ => rfl
  | _ :: _, [] => rfl
  | a :: as, b :: bs => by
    rw [List.map_cons, List.map_cons, PV.eqvL, h a b, eqvL_map h as bs]
    by_cases e : a = b
    · by_cases e2 : as = bs
      · rw [e, e2]; simp
      · rw [decide_eq_true e, decide_eq_false e2, decide_eq_false fun z => e2 (List.cons.inj z).2]; rfl
    · rw [decide_eq_false e, decide_eq_false fun z => e (List.cons.inj z).1]; rfl
theorem eqT_int (a b : Int) : PV.eqv (.int a) (.int b) = decide (a = b) := by rw [PV.eqv]; rfl
theorem eqT_bl (a b : Bool) : PV.eqv (.bl a) (.bl b) = decide (a = b) := by rw [PV.eqv]; cases a <;> cases b <;> rfl
theorem eqT_str (a b : Str) : PV.eqv (.str a) (.str b) = decide (a = b) := by rw [PV.eqv]; rfl
theorem eqT_ints (as bs : List Int) : PV.eqv (.lst (as.map PV.int)) (.lst (bs.map PV.int)) = decide (as = bs) := by rw [PV.eqv]; exact eqvL_map eqT_int as bs
theorem eqT_intss (as bs : List (List Int)) : PV.eqv (.lst (as.map fun r => .lst (r.map PV.int))) (.lst (bs.map fun r => .lst (r.map PV.int))) = decide (as = bs) := by rw [PV.eqv]; exact eqvL_map eqT_ints as bs
theorem ok_int (a : Int) : (PV.int a).okD = true := by rw [PV.okD]
theorem ok_ints (as : List Int) : (PV.lst (as.map PV.int)).okD = true := by rw [PV.okD]; exact okL_map ok_int as
theorem ok_intss (as : List (List Int)) : (PV.lst (as.map fun r => .lst (r.map PV.int))).okD = true := by rw [PV.okD]; exact okL_map ok_ints as
theorem dep_int (a : Int) : (PV.int a).dep ≤ 0 := Nat.le_refl _
theorem dep_ints (as : List Int) : (PV.lst (as.map PV.int)).dep ≤ 1 := by rw [PV.dep]; exact Nat.succ_le_succ (depL_map dep_int as)
theorem dep_intss (as : List (List Int)) : (PV.lst (as.map fun r => .lst (r.map PV.int))).dep ≤ 2 := by rw [PV.dep]; exact Nat.succ_le_succ (depL_map dep_ints as)
theorem eqP_int {a b : Int} {Q : PV → Prop} : eqP (.int a) (.int b) Q = Q (.bl (decide (a = b))) := propext ⟨fun h => by rw [← eqT_int]; exact h.2.2.2.2, fun h => ⟨rfl, rfl, Nat.zero_le _, Nat.zero_le _, by rw [eqT_int]; exact h⟩⟩
theorem neP_int {a b : Int} {Q : PV → Prop} : neP (.int a) (.int b) Q = Q (.bl (!decide (a = b))) := propext ⟨fun h => by rw [← eqT_int]; exact h.2.2.2.2, fun h => ⟨rfl, rfl, Nat.zero_le _, Nat.zero_le _, by rw [eqT_int]; exact h⟩⟩
theorem eqP_bl {a b : Bool} {Q : PV → Prop} : eqP (.bl a) (.bl b) Q = Q (.bl (decide (a = b))) := propext ⟨fun h => by rw [← eqT_bl]; exact h.2.2.2.2, fun h => ⟨rfl, rfl, Nat.zero_le _, Nat.zero_le _, by rw [eqT_bl]; exact h⟩⟩
theorem neP_bl {a b : Bool} {Q : PV → Prop} : neP (.bl a) (.bl b) Q = Q (.bl (!decide (a = b))) := propext ⟨fun h => by rw [← eqT_bl]; exact h.2.2.2.2, fun h => ⟨rfl, rfl, Nat.zero_le _, Nat.zero_le _, by rw [eqT_bl]; exact h⟩⟩
theorem eqP_ints {a b : List Int} {Q : PV → Prop} : eqP (.lst (a.map PV.int)) (.lst (b.map PV.int)) Q = Q (.bl (decide (a = b))) := propext ⟨fun h => by rw [← eqT_ints]; exact h.2.2.2.2, fun h => ⟨ok_ints a, ok_ints b, Nat.le_trans (dep_ints a) (by decide), Nat.le_trans (dep_ints b) (by decide), by rw [eqT_ints]; exact h⟩⟩
theorem neP_ints {a b : List Int} {Q : PV → Prop} : neP (.lst (a.map PV.int)) (.lst (b.map PV.int)) Q = Q (.bl (!decide (a = b))) := propext ⟨fun h => by rw [← eqT_ints]; exact h.2.2.2.2, fun h => ⟨ok_ints a, ok_ints b, Nat.le_trans (dep_ints a) (by decide), Nat.le_trans (dep_ints b) (by decide), by rw [eqT_ints]; exact h⟩⟩
theorem eqP_nil {a : List Int} {Q : PV → Prop} : eqP (.lst (a.map PV.int)) (.lst []) Q = Q (.bl (decide (a = []))) := eqP_ints (b := [])
theorem neP_nil {a : List Int} {Q : PV → Prop} : neP (.lst (a.map PV.int)) (.lst []) Q = Q (.bl (!decide (a = []))) := neP_ints (b := [])
theorem tr_lst {xs : List PV} {Q : Bool → Prop} : (∃ b, (PV.lst xs).tru = some b ∧ Q b) = Q (!xs.isEmpty) := propext ⟨fun ⟨b, e, q⟩ => by cases e; exact q, fun q => ⟨_, rfl, q⟩⟩
theorem tr_int {i : Int} {Q : Bool → Prop} : (∃ b, (PV.int i).tru = some b ∧ Q b) = Q (i != 0) := propext ⟨fun ⟨b, e, q⟩ => by cases e; exact q, fun q => ⟨_, rfl, q⟩⟩
theorem tr_bl {i : Bool} {Q : Bool → Prop} : (∃ b, (PV.bl i).tru = some b ∧ Q b) = Q i := propext ⟨fun ⟨b, e, q⟩ => by cases e; exact q, fun q => ⟨_, rfl, q⟩⟩
/-! ### readings of loops and comprehensions -/
/-- a comprehension without draws: what each turn gives -/
theorem goC_map {α β : Type} (ea : α → PV) (eb : β → PV) (g : α → Option β) {turn : PV → Nat → (Option PV → Nat → Prop) → Prop} {n : Nat} {Q : List PV → Nat → Prop} : ∀ (as : List α) (acc : List β), (∀ a ∈ as, ∀ K : Option PV → Nat → Prop, K ((g a).map eb) n → turn (ea a) n K) → acc.length + as.length < sizeLine →
    Q ((acc ++ as.filterMap g).map eb) n → goC turn (as.map ea) (acc.map eb) n Q
  | [], acc, _, _, q => by
    rw [List.filterMap_nil, List.append_nil] at q
    exact q
  | a :: as, acc, ht, hl, q => by
    rw [List.length_cons] at hl
    refine ht a (.head _) _ ?_
    cases e : g a with
    | none =>
      refine goC_map ea eb g as acc (fun b m => ht b (.tail _ m)) (by omega) ?_
      rw [List.filterMap_cons, e] at q
      exact q
    | some b =>
      refine ⟨by rw [List.length_map]; omega, ?_⟩
      have key := goC_map ea eb g as (acc ++ [b]) (fun b m => ht b (.tail _ m)) (by rw [List.length_append]; show acc.length + 1 + as.length < sizeLine; omega) (Q := Q) (by
        rw [List.filterMap_cons, e] at q
        rw [List.append_assoc]
        exact q)
      rw [List.map_append] at key
      exact key
/-- all are taken -/
theorem goC_all {α β : Type} (ea : α → PV) (eb : β → PV) (g : α → β) {turn : PV → Nat → (Option PV → Nat → Prop) → Prop} {n : Nat} {Q : List PV → Nat → Prop} (as : List α) (ht : ∀ a ∈ as, ∀ K : Option PV → Nat → Prop, K (some (eb (g a))) n → turn (ea a) n K) (hl : as.length < sizeLine)
    (q : Q ((as.map g).map eb) n) : goC turn (as.map ea) [] n Q := by
  refine goC_map ea eb (fun a => some (g a)) as [] (fun a m K h => ht a m K h) (by rw [List.length_nil]; omega) ?_
  rw [List.nil_append, List.filterMap_eq_map']
  exact q
/-- some are taken as they are -/
theorem goC_flt {α β : Type} (ea : α → PV) (eb : β → PV) (g : α → Option β) {turn : PV → Nat → (Option PV → Nat → Prop) → Prop} {n : Nat} {Q : List PV → Nat → Prop} (as : List α) (ht : ∀ a ∈ as, ∀ K : Option PV → Nat → Prop, K ((g a).map eb) n → turn (ea a) n K) (hl : as.length < sizeLine)
    (q : Q ((as.filterMap g).map eb) n) : goC turn (as.map ea) [] n Q :=
  goC_map ea eb g as [] ht (by rw [List.length_nil]; omega) (by rw [List.nil_append]; exact q)
/-- any comprehension: what holds of the list so far and of the draws -/
theorem goC_inv {turn : PV → Nat → (Option PV → Nat → Prop) → Prop} {Q : List PV → Nat → Prop} (I : Nat → List PV → Nat → Prop) (xs : List PV) (n : Nat) (h0 : I 0 [] n) (ht : ∀ (j : Nat) (x : PV) (acc : List PV) (n : Nat) (K : Option PV → Nat → Prop), xs[j]? = some x → acc.length ≤ j → I j acc n → (∀ o n', (match o with | some y => I (j + 1) (acc ++ [y]) n' | none => I (j + 1) acc n') → K o n') → turn x n K)
    (hl : xs.length < sizeLine) (q : ∀ acc n, I xs.length acc n → Q acc n) : goC turn xs [] n Q := by
  have key : ∀ (r : List PV) (j : Nat) (acc : List PV) (n : Nat), xs.drop j = r → acc.length ≤ j → j + r.length = xs.length → I j acc n → goC turn r acc n Q := by
    intro r
    induction r with
    | nil =>
      intro j acc n _ _ e h
      have : j = xs.length := by simpa using e
      subst this
      exact q acc n h
    | cons x r ih =>
      intro j acc n e ha hj h
      rw [List.length_cons] at hj
      have hx : xs[j]? = some x := by
        have : (xs.drop j)[0]? = some x := by rw [e]; rfl
        rw [List.getElem?_drop] at this
        exact this
      have e2 : xs.drop (j + 1) = r := by
        have : (xs.drop j).drop 1 = r := by rw [e]; rfl
        rw [List.drop_drop] at this
        exact this
      refine ht j x acc n _ hx ha h fun o n' hi => ?_
      cases o with
      | none => exact ih (j + 1) acc n' e2 (by omega) (by omega) hi
      | some y => exact ⟨by omega, ih (j + 1) (acc ++ [y]) n' e2 (by rw [List.length_append]; show acc.length + 1 ≤ j + 1; omega) (by omega) hi⟩
  exact key xs 0 [] n rfl (Nat.le_refl _) (by omega) h0
/-- a for: what holds ahead of each turn -/
theorem goF_inv {tg : PTG} {tb : PTS} {P : PEnds} {st : PSt} (I : Nat → PSt → Prop) (xs : List PV) (h0 : I 0 st) (ht : ∀ (j : Nat) (x : PV) (s : PSt) (N : PSt → Prop), xs[j]? = some x → I j s → (∀ s', I (j + 1) s' → N s') → tg x s fun s1 => tb { nx := N, ct := N, bk := P.nx, rt := P.rt } s1)
    (hd : ∀ s, I xs.length s → P.nx s) : goF tg tb xs P st := by
  have key : ∀ (r : List PV) (j : Nat) (s : PSt), xs.drop j = r → j + r.length = xs.length → I j s → goF tg tb r P s := by
    intro r
    induction r with
    | nil =>
      intro j s _ e h
      have : j = xs.length := by simpa using e
      subst this
      exact hd s h
    | cons x r ih =>
      intro j s e hj h
      rw [List.length_cons] at hj
      have hx : xs[j]? = some x := by
        have : (xs.drop j)[0]? = some x := by rw [e]; rfl
        rw [List.getElem?_drop] at this
        exact this
      have e2 : xs.drop (j + 1) = r := by
        have : (xs.drop j).drop 1 = r := by rw [e]; rfl
        rw [List.drop_drop] at this
        exact this
      exact ht j x s _ hx h fun s' hi => ih (j + 1) s' e2 (by omega) hi
  exact key xs 0 st rfl (by omega) h0
end My
namespace My
open PySem L2
/-! ### exceptions -/
section
variable {X : Cx} {M : Pm} {E : XK} {e : Expr} {sts : List Stmt} {te : PTE} {x fld : Str} {C fI : Addr} {fd : FuncData} {p pos pos2 : Pos}
def pNever : PTS := fun _ _ => False
theorem pps_never : PPSs X M E sts pNever := imSs pss_never fun D σ H ⟨c, A, st, P, I, q, k⟩ => q.elim
/-- raise C(e) -/
def pRaise (C : Addr) (fld : Str) (te : PTE) : PTS := fun _ st => te st fun x s1 => s1.R ⟨C, fld, x⟩ s1.n
theorem pps_raise (Md : Made X.K X.prog X.mg x fld C fI fd) (hr : Room 1 X.A) (hc : X.calm = true) (tk : Takes X (fun cls d _ H => E cls d H)) (hg : Gl X x) (he : PP X M E e te)
    (hdb : (x == ("__debug__" : Str)) = false := by decide) (hs : starEach (e :: []) X.env = (false, eval e X.env) :: starEach [] X.env := by rfl) (hpl : (backTo pos (starEach [] X.env)).any (·.1) = false := by rfl) :
    PPS X M E (.Raise (some (.Call (.Name x p) [e] [] pos)) none pos2) (pRaise C fld te) :=
  imS (ps_raiseM Md hr hc tk hg he hdb hs hpl) fun D σ H ⟨c, A, st, P, I, q, k⟩ => ⟨c, A, st, _, I, q, fun y s1 v H1 q1 I1 k1 l1 r1 => by
    dsimp only [tNil]
    refine raise_in Md.of fun d hd => ?_
    have r2 : Rep M c.p c.B H1 v y := r1.mv ⟨fun _ _ _ _ h => .inl h, fun _ _ e _ => .inl e⟩
    refine I1.er C fld y s1.n d v _ q1 (fun b u e z => ?_) ⟨fun q e => ?_, I1.src.2.ext (same_upd3 hd)⟩ upd_same (I1.no0 hd) (r2.new hd)
    · exact same_upd3 hd b u (I1.out b u e z)
    · obtain ⟨o, h1, h2⟩ := I1.src.1 q e
      exact ⟨o, same_upd3 hd _ _ h1, h2⟩⟩
end
section
variable {P : Program} {w : World} {K : PySem.W.Frag} {mg : Str → Option Value} {base : Heap} {M : Pm}
theorem Fun.pureX {x qual : Str} {st : Stmt} {f : Addr} {fd : FuncData} {N ps : List Str} {k : Nat} {rp : PFn} (F : Fun K x qual st f fd) (S : FnScope N ps (defScope st)) (hl : ∀ n xs Q R, rp n xs Q R → xs.length = ps.length)
    (body : ∀ (cdv : Value) (A : Around) (outer : List Env) (s : Shared) (H : Hp) (E : XK), Room k (A.deeper (PyProof.Rows.envOfC qual (defScope st) s.heap.objs.size f cdv)) →
      ∃ T, PPSs (cxOf (L2.CX P w) P w K mg base N qual (defScope st) f cdv A outer s H E) M E (defBody st) T ∧ ∀ n xs Q R, rp n xs Q R → T { nx := fun st' => Q .non st'.n, rt := fun z st' => Q z st'.n } ⟨n, startP N xs, R⟩) : FnOk P w K mg base (L2.CX P w) (k + 1) f fd ps (spP M rp) := by
  refine F.okX S (fun vs H Q E h => ?_) fun cdv A outer s H vs Q E hr h => ?_
  · obtain ⟨c, n, xs, Qp, R, _, _, _, _, rl, q, _⟩ := h
    rw [rl.length]
    exact hl n xs _ _ q
  · obtain ⟨c, n, xs, Qp, R, h0, sb, mt, hs, rl, q, er, kk⟩ := h
    obtain ⟨T, hT, hq⟩ := body cdv A outer s H E hr
    refine ⟨_, hT, c, fun _ => 0, ⟨n, startP N xs, R⟩, _, start_env h0 sb mt hs rl er, hq n xs Qp R q, ⟨fun A' st' σ' H' p I _ => kk .non st'.n .non H' p I.out I.src .non, fun _ _ _ _ p => p.elim, fun _ _ _ _ p => p.elim, fun A' st' σ' z v H' p I r => kk z st'.n v H' p I.out I.src r⟩⟩
theorem RawF.pureX {x qual : Str} {st : Stmt} {N ps : List Str} {k : Nat} {rp : PFn} (F : RawF K mg x qual st ps) (S : FnScope N ps (defScope st)) (hl : ∀ n xs Q R, rp n xs Q R → xs.length = ps.length)
    (body : ∀ (f : Addr) (cdv : Value) (A : Around) (outer : List Env) (s : Shared) (H : Hp) (E : XK), Room k (A.deeper (PyProof.Rows.envOfC qual (defScope st) s.heap.objs.size f cdv)) →
      ∃ T, PPSs (cxOf (L2.CX P w) P w K mg base N qual (defScope st) f cdv A outer s H E) M E (defBody st) T ∧ ∀ n xs Q R, rp n xs Q R → T { nx := fun st' => Q .non st'.n, rt := fun z st' => Q z st'.n } ⟨n, startP N xs, R⟩) : DefP P w K mg base M (L2.CX P w) (k + 1) x ps rp := by
  obtain ⟨f, fd, F, B, g⟩ := F.ex
  exact ⟨f, fd, _, Fun.pureX F S hl (body f), F.kp, B, g, fun E => pureR_spP⟩
end
/-! ### a lambda that is tried -/
def PSl.hide : PSl → PSl
  | .own _ => .any
  | s => s
def PSt.inLam (st : PSt) (R : PX → Nat → Prop) : PSt := { n := st.n, sl := st.sl.map PSl.hide, R := R }
theorem REnv.lam {M : Pm} {E E' : XK} {c : PCx} {A : Nat → Addr} {st : PSt} {σ : L2.St} {H : Hp} {R : PX → Nat → Prop} (I : REnv M E c A st σ H) (er : EOk M E' ⟨c.p, nt H, Av c A st.sl⟩ R) : REnv M E' ⟨c.p, nt H, Av c A st.sl⟩ (fun _ => 0) (st.inLam R) σ H := by
  have no : ∀ (i : Nat) (o : POwn), (st.sl.map PSl.hide)[i]? ≠ some (PSl.own o) := fun i o e => by
    rw [List.getElem?_map] at e
    cases z : st.sl[i]? with
    | none =>
      rw [z] at e
      cases e
    | some s =>
      rw [z] at e
      cases s <;> cases e
  refine ⟨by rw [I.len]; exact (List.length_map ..).symm, fun i j o o' e => absurd e (no i o), fun i o e => absurd e (no i o), fun b u e _ => (of_nt e).1, I.src, fun q e => .inl (I.sb q e), ?_, fun i s v e1 e2 => ?_, er, fun b u e => (of_nt e).2⟩
  · rintro b (h | ⟨i, o, e, rfl⟩)
    · exact I.mt b h
    · obtain ⟨_, ho, e2, r⟩ := I.ownAt e
      exact ⟨ho, e2, r.mt, r.nt⟩
  · have e1 : (st.sl.map PSl.hide)[i]? = some s := e1
    rw [List.getElem?_map] at e1
    cases z : st.sl[i]? with
    | none =>
      rw [z] at e1
      cases e1
    | some s0 =>
      rw [z] at e1
      have key := I.sl i s0 v z e2
      cases s0 with
      | own o =>
        cases e1
        trivial
      | emp =>
        cases e1
        exact key
      | any =>
        cases e1
        trivial
      | sh x =>
        cases e1
        obtain ⟨u, e3, r⟩ := key
        refine ⟨u, e3, r.mv ⟨fun b u _ _ h => ?_, fun _ _ e _ => .inl e⟩⟩
        rcases h with h | ⟨j, o, e, _⟩
        · exact h
        · exact absurd e (no j o)
inductive TMode where
  | val | zero | same
def tldP : TMode → PV → PV
  | .val, x => .tup [.str "told", x]
  | .zero, _ => .tup [.str "told", .int 0]
  | .same, _ => .tup [.str "told", .non]
/-- what the def that tries makes of the lambda's reading: a word and what was told, a word and what the exception holds -/
def TTgen (vs0 : List V) (cl : List (Addr × Str × Str)) (md : TMode) : (XK → Hp → VK → Prop) → Hp → VK → Prop := fun tl H Q => ∀ t0, H t0 = none →
  tl (fun cls d H' => ∃ C f w dd v, (C, f, w) ∈ cl ∧ cls = .ref C ∧ d = some dd ∧ H' dd = some (.xd [(f, v)]) ∧ ∀ p, H' p = none → Q (.ref p) (upd H' p (.tup [.str w, v]))) (upd H t0 (.tup vs0))
    (fun v H2 => match md with
      | .val => ∀ p, H2 p = none → Q (.ref p) (upd H2 p (.tup [.str "told", v]))
      | .zero => ∀ p, H2 p = none → Q (.ref p) (upd H2 p (.tup [.str "told", .int 0]))
      | .same => H2 t0 = some (.tup vs0) → Q (.ref t0) H2)
def pTried (cl : List (Addr × Str × Str)) (md : TMode) (t : PTE) : PTE := fun st Q => t (st.inLam fun px n => ∃ w, (px.C, px.f, w) ∈ cl ∧ Q (.tup [.str w, px.x]) (st.at n)) fun x s1 => Q (tldP md x) (st.at s1.n)
theorem pp_tried {X : Cx} {M : Pm} {E : XK} {e : Expr} {vs0 : List V} {cl : List (Addr × Str × Str)} {md : TMode} {t : PTE} (h : PE X e (LamX.tLam M.T (TTgen vs0 cl md) fun E' => LiftE M E' t)) (hm : md = .same → vs0 = [.str "told", .non]) : PP X M E e (pTried cl md t) :=
  imE h fun σ H Q ⟨c, A, st, Qp, I, q, k⟩ => ⟨I.src.2, fun H1 eN T1 t0 n0 => by
    have k01 : Keeps c H H1 := fun b u e _ nt => eN b u e nt
    have I1 : REnv M E c A st σ H1 := I.keep (n := st.n) k01 ⟨fun q e => by
      obtain ⟨o, h1, h2⟩ := I.src.1 q e
      exact ⟨o, eN _ _ h1 h2.nt, h2⟩, T1⟩
    have I2 := I1.new n0 (o := .tup vs0)
    have k02 : Keeps c H (upd H1 t0 (.tup vs0)) := k01.trans (.new n0)
    have ht0 : upd H1 t0 (.tup vs0) t0 = some (.tup vs0) := upd_same
    generalize upd H1 t0 (.tup vs0) = H2 at I2 k02 ht0 ⊢
    have fin : ∀ (z : PV) (n : Nat) (v : V) (H3 : Hp), Qp z (st.at n) → Out ⟨c.p, nt H2, Av c A st.sl⟩ H3 → SrcAt M c H3 n → Rep M c.p (Av c A st.sl) H3 v z → Q v H3 := fun z n v H3 qz ho hs r => by
      have k23 : Keeps c H2 H3 := fun b u e z t => ho b u (nt_of e t) z
      exact k z (st.at n) v H3 qz (I2.keep k23 hs) (k02.trans k23) .refl r
    have finN : ∀ (z : PV) (n : Nat) (us : List V) (xs : List PV) (H3 : Hp) (p : Addr), z = .tup xs → H3 p = none → Qp z (st.at n) → Out ⟨c.p, nt H2, Av c A st.sl⟩ H3 → SrcAt M c H3 n → RepL M c.p (Av c A st.sl) H3 us xs → Q (.ref p) (upd H3 p (.tup us)) := fun z n us xs H3 p e np qz ho hs r => by
      subst e
      refine fin _ n _ _ qz (fun b u e z => same_upd3 np _ _ (ho b u e z)) ⟨fun q e => ?_, hs.2.ext (same_upd3 np)⟩ (.tup upd_same (r.new np))
      obtain ⟨o, h1, h2⟩ := hs.1 q e
      exact ⟨o, same_upd3 np _ _ h1, h2⟩
    refine ⟨⟨c.p, nt H2, Av c A st.sl⟩, fun _ => 0, _, _, I2.lam ?_, q, fun x s1 v H3 q1 I3 k3 l3 r3 => ?_⟩
    · rintro C f x n d v H' ⟨w, hw, hq⟩ ho hs h1 h2 hx
      exact ⟨C, f, w, d, v, hw, rfl, rfl, h1, fun p np => finN _ n _ _ H' p rfl np hq ho hs (.cons (.str w) (.cons hx .nil))⟩
    · have ho : Out ⟨c.p, nt H2, Av c A st.sl⟩ H3 := I3.out
      have hs : SrcAt M c H3 s1.n := I3.src
      have r4 : Rep M c.p (Av c A st.sl) H3 v x := r3.mv ⟨fun b u _ _ h => .inl h, fun _ _ e _ => .inl e⟩
      cases md with
      | val => exact fun p np => finN _ s1.n _ _ H3 p rfl np q1 ho hs (.cons (.str _) (.cons r4 .nil))
      | zero => exact fun p np => finN _ s1.n _ _ H3 p rfl np q1 ho hs (.cons (.str _) (.cons (.int _) .nil))
      | same =>
        have e0 := hm rfl
        subst e0
        exact fun ht => fin _ s1.n _ H3 q1 ho hs (.tup ht (.cons (.str _) (.cons .non .nil)))⟩
end My
namespace My
open PySem L2
def top (i : Nat) : Stmt := PySem.Challenge.pw_freelots_k07_lots_refused.main.body.getD i (.Pass ⟨0, 0, 0, 0⟩)
/-! ### a reading of ints and names, told as plain words -/
theorem at0 {a : V} {r : List V} : atI (a :: r) 0 = some a := atI_nat (j := 0) rfl
theorem at1 {a b : V} {r : List V} : atI (a :: b :: r) 1 = some b := atI_nat (j := 1) rfl
theorem at2 {a b c : V} {r : List V} : atI (a :: b :: c :: r) 2 = some c := atI_nat (j := 2) rfl
theorem set0 : ixN 3 0 = some 0 := rfl
theorem set1 : ixN 3 1 = some 1 := rfl
theorem set2 : ixN 3 2 = some 2 := rfl
theorem upd_upd {H : Hp} {a : Addr} {o u : HO} : upd (upd H a o) a u = upd H a u := by
  funext b
  by_cases e : b = a
  · rw [e, upd_same, upd_same]
  · rw [upd_ne e, upd_ne e, upd_ne e]
theorem scal_int (i j : Int) : scal (V.int i) (V.int j) = true := rfl
local macro_rules | `(tactic| walk_at "rd") => `(tactic| (simp (config := { failIfUnchanged := true }) only [gName, gSub, rSetL, fIxL, fIxT, fLenL, fLenT, CPowW, CDivN, tRet, L2.start, List.map_cons, List.map_nil, List.length_cons, List.length_nil, List.replicate_succ, List.replicate_zero, List.cons_append, List.nil_append, Nat.reduceAdd, Nat.reduceSub, HO.lst.injEq, HO.tup.injEq, at0, at1, at2, set0, set1, set2, upd_same, upd_upd, tSeq, tIfS, tAnd, tTest, tOp, tVar, tC, rI, rI0, tAsg, tNext, tCB, tCons, tNil, rEq, CMul, CPow,
  List.set, List.getElem?_cons_zero, List.getElem?_cons_succ, Option.some.injEq, V.int.injEq, V.bl.injEq, V.ref.injEq, reduceCtorEq, List.cons.injEq, and_true, true_and, and_false, false_and, exists_false, or_false, false_or,
  decide_eq_true_eq, Bool.false_eq_true, if_false, if_true, exists_eq_left', exists_eq_left, exists_and_left, exists_eq_right, exists_eq, exists_eq', exists_const, scal_int, Int.reduceLT, Int.reduceLE, Int.reduceNeg, Int.reducePow, Nat.reducePow, Nat.reduceLT, Int.reduceToNat, or_true, true_or, decide_true, decide_false]))
/-! ### the law's own draws -/
abbrev sSource : Stmt := top 38
abbrev sDraw : Stmt := top 39
abbrev sPick : Stmt := top 40
theorem same_upd {H : Hp} {p : Addr} {o : HO} (h : H p = none) : Same H (upd H p o) := by
  intro b x e
  rw [upd_ne (ne_of_none e h)]
  exact e
/-- what the source's list holds behind at most n draws -/
def SrcL (n : Nat) (o : HO) : Prop := ∃ (g sd c : Int), o = .lst [.int g, .int sd, .int c] ∧ 0 ≤ sd ∧ sd < 2147483647 ∧ 0 ≤ c ∧ c ≤ (n : Int)
theorem SrcL.mono {m n : Nat} {o : HO} (h : SrcL m o) (l : m ≤ n) : SrcL n o := by
  obtain ⟨g, sd, c, e, h1, h2, h3, h4⟩ := h
  exact ⟨g, sd, c, e, h1, h2, h3, by omega⟩
def spSource (K : PySem.W.Frag) : Sp := fun vs H Q _ => ∃ (a : Addr) (ns : List Int), vs = [.ref a] ∧ SqL K H a (ns.map V.int) ∧
  ∀ (H' : Hp) (p : Addr) (o : HO), Same H H' → H p = none → H' p = some o → SrcL 0 o → Q (.ref p) H'
def spDraw : Sp := fun vs H Q _ => ∃ (p : Addr) (o : HO) (n : Nat) (m : Int), vs = [.ref p, .int m] ∧ H p = some o ∧ SrcL n o ∧ n ≤ 100000 ∧ 0 < m ∧ m < 1000000 ∧
  ∀ (r : Int) (o' : HO), 0 ≤ r → r < m → SrcL (n + 1) o' → Q (.int r) (upd H p o')
def spPick (K : PySem.W.Frag) : Sp := fun vs H Q _ => ∃ (p l : Addr) (o : HO) (n : Nat) (xs : List V), vs = [.ref p, .ref l] ∧ H p = some o ∧ SrcL n o ∧ n ≤ 100000 ∧ H l = some (.lst xs) ∧ xs ≠ [] ∧ xs.length < 1000 ∧ p ≠ l ∧
  ∀ (x : V) (o' : HO), x ∈ xs → SrcL (n + 1) o' → Q x (upd H p o')
section
variable {P : Program} {w : World} {K : PySem.W.Frag} {mg : Str → Option Value} {base : Heap}
theorem scSo : FnScope ["_law_script", "_law_great", "_law_seed", "_law_cell"] ["_law_script"] (defScope sSource) := ⟨rfl, rfl, rfl, by decide +kernel, rfl, by decide +kernel, by decide +kernel⟩
theorem ok_source {f : Addr} {fd : FuncData} (F : Fun K "_law_source" "_law_source" sSource f fd) (mI : mg "int" = none) : FnOk P w K mg base CX0 1 f fd ["_law_script"] (spSource K) := by
  refine F.ok scSo (fun vs H Q E h => ?_) (fun cdv A outer s H vs Q E hr h => ?_)
  · obtain ⟨a, ns, rfl, _⟩ := h
    rfl
  · obtain ⟨a, ns, rfl, hS, k⟩ := h
    have nd := scSo.nd
    refine ⟨_, pss_cons (ps_asg (pe_tup (pa_cons pe_int (pa_cons pe_int pa_nil))) (pg_tup (by rfl) (pgs_cons (pg_name (i := 1) nd rfl (.inl rfl)) (pgs_cons (pg_name (i := 2) nd rfl (.inl rfl)) pgs_nil))))
      (pss_cons (ps_for PassesOwn.never rfl (pi_list (pv 0)) (pg_name (i := 3) nd rfl (.inl rfl))
        (pss_cons (ps_if (PW.pt (pw_and (pt_cmpR op_eq (pv 1) pe_int (nomark _)) (pw_and1 (pt_cmpR op_ge (pv 3) (pe_op op_pow pe_int pe_int) (nomark _)))))
            (pss_one (ps_set (i := 1) nd rfl (.inl rfl) (pv 3))) pss_nil)
          (pss_one (ps_set (i := 2) nd rfl (.inl rfl)
            (pe_op op_mod (pe_callTy call_int1 (by rfl) mI (by decide +kernel) (pa_cons (pe_op op_add (pe_op op_add (pe_op op_mul (pv 2) pe_int) (pv 3)) pe_int) pa_nil)) pe_int)))))
      (pss_one (ps_ret (pe_lst (pa_cons (pv 1) (pa_cons (pv 2) (pa_cons pe_int pa_nil))))))), ?_⟩
    refine ⟨by show 2 ≤ sizeLine; decide, fun t ht => ?_⟩
    have s1 : Same H (upd H t (.tup [.int 0, .int 17])) := same_upd ht
    refine ⟨t, [.int 0, .int 17], rfl, .inl (.inl upd_same), rfl, .int 0, [.int 17], rfl, .int 17, [], rfl, rfl, ?_⟩
    refine ⟨.ref a, rfl, a, rfl, ⟨_, s1.seq hS⟩, for_list (K := K) (a := a) (xs := ns.map V.int) (fun i σ H' => ∃ (g sd : Int) (v : Option V), σ = [some (.ref a), some (.int g), some (.int sd), v] ∧ 0 ≤ sd ∧ sd < 2147483647 ∧ H' = upd H t (.tup [.int 0, .int 17]))
      ⟨0, 17, none, rfl, by decide, by decide, rfl⟩ (fun i σ H' _ ⟨_, _, _, _, _, _, e⟩ => by rw [e]; exact s1.seq hS) ?_ ?_⟩
    · rintro i y σ H' hi ⟨g, sd, v, rfl, h0, h1, rfl⟩
      obtain ⟨u, rfl⟩ : ∃ u, y = V.int u := by
        rw [List.getElem?_map] at hi
        cases e : ns[i]? with
        | none =>
          rw [e] at hi
          cases hi
        | some u =>
          rw [e] at hi
          exact ⟨u, (Option.some.inj hi).symm⟩
      walk_at "rd"
      have m0 : 0 ≤ (sd * 31 + u + 7) % 2147483647 := Int.emod_nonneg _ (by decide)
      have m1 : (sd * 31 + u + 7) % 2147483647 < 2147483647 := Int.emod_lt_of_pos _ (by decide)
      refine ite2 (fun _ => ⟨by decide, ite2 (fun _ => ?_) (fun _ => ?_)⟩) (fun _ => ?_)
      all_goals exact ⟨_, _, _, ⟨rfl, rfl, rfl⟩, m0, m1⟩
    · rintro σ H' ⟨g, sd, v, rfl, h0, h1, rfl⟩
      refine ⟨_, rfl, _, rfl, by show 3 ≤ sizeLine; decide, fun p hp => ?_⟩
      have np : H p = none := by
        by_cases e : p = t
        · rw [e]
          exact ht
        · rw [upd_ne e] at hp
          exact hp
      exact k _ p _ (s1.trans (same_upd hp)) np upd_same ⟨g, sd, 0, rfl, h0, h1, by decide, by decide⟩
theorem scDr : FnScope ["_law_source_here", "_law_many", "_law_digit", "_law_mixed"] ["_law_source_here", "_law_many"] (defScope sDraw) := ⟨rfl, rfl, rfl, by decide +kernel, rfl, by decide +kernel, by decide +kernel⟩
theorem ok_draw {f : Addr} {fd : FuncData} (F : Fun K "_law_draw" "_law_draw" sDraw f fd) (mI : mg "int" = none) : FnOk P w K mg base CX0 1 f fd ["_law_source_here", "_law_many"] spDraw := by
  refine F.ok scDr (fun vs H Q E h => ?_) (fun cdv A outer s H vs Q E hr h => ?_)
  · obtain ⟨p, o, n, m, rfl, _⟩ := h
    rfl
  · obtain ⟨p, o, n, m, rfl, hp, ⟨g, sd, c, rfl, h0, h1, c0, c1⟩, hn, m0, m1, k⟩ := h
    have nd := scDr.nd
    refine ⟨_, pss_cons (ps_asg (pe_op op_add (pe_ix ixL (pv 0) pe_int (fun _ _ => rfl)) pe_int) (pg_sub (pv 0) pe_int set_list))
      (pss_cons (ps_if (pt_cmpR op_gt (pe_ix ixL (pv 0) pe_int (fun _ _ => rfl)) pe_int (nomark _))
          (pss_cons (ps_set (i := 2) nd rfl (.inl rfl) (pe_op op_mod (pe_callTy call_int1 (by rfl) mI (by decide +kernel) (pa_cons (pe_ix ixL (pv 0) pe_int (fun _ _ => rfl)) pa_nil)) (pv 1)))
            (pss_cons (ps_asg (pe_op op_fdivN (pe_ix ixL (pv 0) pe_int (fun _ _ => rfl)) (pv 1)) (pg_sub (pv 0) pe_int set_list))
              (pss_one (ps_ret (pv 2))))) pss_nil)
        (pss_cons (ps_set (i := 3) nd rfl (.inl rfl) (pe_op op_mod (pe_op op_pow (pe_op op_add (pe_ix ixL (pv 0) pe_int (fun _ _ => rfl)) (pe_op op_mul pe_int (pe_ix ixL (pv 0) pe_int (fun _ _ => rfl)))) pe_int) pe_int))
          (pss_one (ps_ret (pe_op op_mod (pe_op op_mod (pe_op op_pow (pe_op op_add (pe_op op_add (pe_op op_mul (pv 3) pe_int)
            (pe_op op_mul (pe_op op_mul pe_int (pe_ix ixL (pv 0) pe_int (fun _ _ => rfl))) (pe_ix ixL (pv 0) pe_int (fun _ _ => rfl)))) pe_int) pe_int) pe_int) (pv 1)))))), ?_⟩
    walk_at "rd"
    simp only [hp]
    walk_at "rd"
    have hn' : (n : Int) ≤ 100000 := by omega
    refine ite2 (fun _ => ⟨m0, ⟨by omega, by omega⟩, ?_⟩) (fun _ => ⟨by omega, .inr (by omega), ?_, m0, ?_⟩)
    · exact k _ _ (Int.emod_nonneg _ (by omega)) (Int.emod_lt_of_pos _ m0) ⟨_, sd, c + 1, rfl, h0, h1, by omega, by omega⟩
    · have r0 : 0 ≤ (sd + 7919 * (c + 1)) ^ 5 % 2147483629 := Int.emod_nonneg _ (by decide)
      have r1 : (sd + 7919 * (c + 1)) ^ 5 % 2147483629 < 2147483629 := Int.emod_lt_of_pos _ (by decide)
      have q0 : 0 ≤ 16807 * (c + 1) * (c + 1) := Int.mul_nonneg (by omega) (by omega)
      have q1 : 16807 * (c + 1) * (c + 1) ≤ 1680716807 * 100001 := Int.mul_le_mul (by omega) (by omega) (by omega) (by decide)
      omega
    · exact k _ _ (Int.emod_nonneg _ (by omega)) (Int.emod_lt_of_pos _ m0) ⟨_, sd, c + 1, rfl, h0, h1, by omega, by omega⟩
theorem scPi : FnScope ["_law_source_here", "_law_things"] ["_law_source_here", "_law_things"] (defScope sPick) := ⟨rfl, rfl, rfl, by decide +kernel, rfl, by decide +kernel, by decide +kernel⟩
theorem ok_pick {f fD : Addr} {fd fdD : FuncData} (F : Fun K "_law_pick" "_law_pick" sPick f fd) (GD : FnOk P w K mg base CX0 1 fD fdD ["_law_source_here", "_law_many"] spDraw) (mD : mg "_law_draw" = some (.ref fD))
    (kD : PySem.W.keepIn K (.ref fD) = true) (bD : Binds K fdD ["_law_source_here", "_law_many"] []) (mL : mg "len" = none) :
    FnOk P w K mg base CX0 2 f fd ["_law_source_here", "_law_things"] (spPick K) := by
  refine F.ok scPi (fun vs H Q E h => ?_) (fun cdv A outer s H vs Q E hr h => ?_)
  · obtain ⟨p, l, o, n, xs, rfl, _⟩ := h
    rfl
  · obtain ⟨p, l, o, n, xs, rfl, hp, ho, hn, hl, hx, hz, npl, k⟩ := h
    refine ⟨_, pss_one (ps_ret (pe_ix ixL (pv 1) (pe_call GD hr rfl mD kD bD .nil pass0 (pa_cons (pv 0) (pa_cons (pe_callB lenL (by rfl) mL PySem.boot_len (pa_cons (pv 1) pa_nil)) pa_nil))) (fun _ _ => rfl))), ?_⟩
    have hpos : 0 < xs.length := List.length_pos_iff.mpr hx
    refine ⟨_, rfl, _, rfl, _, rfl, l, xs, rfl, hl, p, o, n, _, rfl, hp, ho, hn, by omega, by omega, fun r o' r0 r1 ho' => ?_⟩
    obtain ⟨j, rfl⟩ : ∃ j : Nat, r = j := ⟨r.toNat, by omega⟩
    have hj : j < xs.length := by omega
    refine ⟨l, j, xs, xs[j], rfl, rfl, by rw [upd_ne (Ne.symm npl)]; exact hl, atI_nat (List.getElem?_eq_getElem hj), ?_⟩
    exact k _ _ (List.getElem_mem hj) ho'
end
local macro_rules | `(tactic| walk_at "pd") => `(tactic| (simp (config := { failIfUnchanged := false }) only [pSeq, pNext, pRet, pRetN, pBrk, pCnt, pIfS, pNot, pTest, pTru, pAnd, pOr, pAndV, pOrV, pNotV, pChain, pIf, pLst, pTup, pCall, pCons, pNil, pOp, pDrop, pSet, pAsg, pOwn, pApp, pSetI, pDput, pAug, pFor, pLc, pNeg, pMeth, pSl, pBack, pRng1, pRng2, noPart, somePart,
  nLst, nLc, nCat, nRep, nList, nDct0, rdV, rdK, iVarK, iVarS, iLstP, iTupP, iRange1, iRange2, iEnumL, iEnumTu, iZipLL, iZipTT, iZipTL, gNm, gTp, gsCons, gsNil, yesP, fn0, addP, subP, mulP, fdvP, modP, powP, ordP, isNP, ixP, lenP, listP, tupleP, intP, absP, lenTP, PSt.put, PSt.at, PSt.wipe, wipeP, POwn.pv, slSeq, PV.seq, PV.isN, startP, noOwn, PSl.free, sz_0, sz_1, sz_2, sz_3, sz_4, sz_5, sz_6, sz_7, sz_8, sz_9, sz_10, sz_11, sz_12,
  eqP_int, neP_int, eqP_bl, neP_bl, eqP_ints, neP_ints, eqP_nil, neP_nil, tr_lst, tr_int, tr_bl, isi_non_int, isi_non_bool, isi_non_str, isi_non_list, isi_non_tuple, isi_non_dict, isi_non_seq, isi_bl_int, isi_bl_bool, isi_bl_str, isi_bl_list, isi_bl_tuple, isi_bl_dict, isi_bl_seq, isi_int_int, isi_int_bool, isi_int_str, isi_int_list, isi_int_tuple, isi_int_dict, isi_int_seq, isi_str_int, isi_str_bool, isi_str_str, isi_str_list, isi_str_tuple, isi_str_dict, isi_str_seq, isi_lst_int, isi_lst_bool, isi_lst_str, isi_lst_list, isi_lst_tuple, isi_lst_dict, isi_lst_seq, isi_tup_int, isi_tup_bool, isi_tup_str, isi_tup_list, isi_tup_tuple, isi_tup_dict, isi_tup_seq, isi_dct_int, isi_dct_bool, isi_dct_str, isi_dct_list, isi_dct_tuple, isi_dct_dict, isi_dct_seq,
  List.map_cons, List.map_nil, List.length_cons, List.length_nil, List.replicate_succ, List.replicate_zero, List.cons_append, List.nil_append, List.getElem?_cons_zero, List.getElem?_cons_succ, List.set_cons_zero, List.set_cons_succ, List.length_set, Nat.reduceAdd, Nat.reduceSub, Nat.reduceLT, Nat.zero_lt_succ, Nat.lt_add_one,
  Option.some.injEq, PV.int.injEq, PV.bl.injEq, PV.lst.injEq, PV.tup.injEq, PV.str.injEq, PV.tab.injEq, PSl.sh.injEq, PSl.own.injEq, POwn.lst.injEq, POwn.dct.injEq, List.cons.injEq, reduceCtorEq, and_true, true_and, and_false, false_and, exists_false, or_false, false_or, exists_eq_left', exists_eq_left, exists_and_left, exists_eq_right, exists_eq, exists_eq', exists_const, exists_and_right,
  Bool.not_true, Bool.not_false, Bool.false_eq_true, if_false, if_true, Bool.false_bne, Bool.true_bne, Int.reduceNeg, Int.toNat_natCast, Int.sub_zero, Int.zero_add, Nat.le_refl, Nat.zero_le, decide_true, decide_false]))
/-! ### checks, of ints in lists and tuples -/
abbrev sWhole : Stmt := top 14
abbrev sList : Stmt := top 16
abbrev sField : Stmt := top 17
abbrev sRow : Stmt := top 18
abbrev sFault : Stmt := top 19
abbrev sTold : Stmt := top 27
/-- at a: a list or a tuple of xs -/
def Sq (H : Hp) (a : Addr) (xs : List V) : Prop := H a = some (.lst xs) ∨ H a = some (.tup xs)
theorem Sq.same {H H' : Hp} {a : Addr} {xs : List V} (h : Sq H a xs) (s : Same H H') : Sq H' a xs := by
  rcases h with h | h
  · exact .inl (s _ _ h)
  · exact .inr (s _ _ h)
theorem same_new {H H' : Hp} {D : Addr} {o : HO} (n : H D = none) (s : Same H H') : Same H (upd H' D o) := by
  intro b x e
  rw [upd_ne (ne_of_none e n)]
  exact s _ _ e
/-- the names that checks use -/
structure Nm (mg : Str → Option Value) : Prop where
  isin : mg "isinstance" = none
  int : mg "int" = none
  bool : mg "bool" = none
  list : mg "list" = none
  tuple : mg "tuple" = none
  len : mg "len" = none
  all : mg "all" = none
  enum : mg "enumerate" = none
  str : mg "str" = none
  range : mg "range" = none
def spWhole : Sp := fun vs H Q _ => ∃ i, vs = [.int i] ∧ Q (.bl true) H
def spList : Sp := fun vs H Q _ => ∃ a xs, vs = [.ref a] ∧ Sq H a xs ∧ ∀ H', Same H H' → Q (.bl true) H'
def fields : List Int := [0, 2, 3, 5, 7, 11, 13]
def spField : Sp := fun vs H Q _ => ∃ i, vs = [.int i] ∧ i ∈ fields ∧ Q (.bl true) H
def spRow : Sp := fun vs H Q _ => ∃ (a : Addr) (ns : List Int), vs = [.ref a] ∧ Sq H a (ns.map V.int) ∧ ns.length ≤ 12 ∧ ∀ H', Same H H' → Q (.bl true) H'
section
variable {P : Program} {w : World} {K : PySem.W.Frag} {mg : Str → Option Value} {base : Heap}
theorem scWh : FnScope ["value"] ["value"] (defScope sWhole) := ⟨rfl, rfl, rfl, by decide +kernel, rfl, by decide +kernel, by decide +kernel⟩
theorem ok_whole {f : Addr} {fd : FuncData} (F : Fun K "is_whole" "is_whole" sWhole f fd) (N : Nm mg) : FnOk P w K mg base CX0 1 f fd ["value"] spWhole := by
  refine F.ok scWh (fun vs H Q E h => ?_) (fun cdv A outer s H vs Q E hr h => ?_)
  · obtain ⟨i, rfl, _⟩ := h
    rfl
  · obtain ⟨i, rfl, k⟩ := h
    refine ⟨_, pss_one (ps_ret (pe_and (pe_callB call_isi (by rfl) N.isin (by decide +kernel) (pa_cons (pv 0) (pa_cons (pe_bltn (v := V.ty "int") (by rfl) N.int (by decide +kernel) rfl) pa_nil)))
      (pe_one (pe_not (pe_callB call_isi (by rfl) N.isin (by decide +kernel) (pa_cons (pv 0) (pa_cons (pe_bltn (v := V.ty "bool") (by rfl) N.bool (by decide +kernel) rfl) pa_nil))))))), ?_⟩
    refine ⟨_, rfl, _, _, _, _, true, rfl, .ty _, .base (.int i), by kernel_rfl, true, rfl, iteT ?_⟩
    exact ⟨_, rfl, _, _, _, _, false, rfl, .ty _, .base (.int i), by kernel_rfl, false, rfl, k⟩
theorem scLi : FnScope ["value"] ["value"] (defScope sList) := ⟨rfl, rfl, rfl, by decide +kernel, rfl, by decide +kernel, by decide +kernel⟩
theorem ok_list {f : Addr} {fd : FuncData} (F : Fun K "is_list" "is_list" sList f fd) (N : Nm mg) : FnOk P w K mg base CX0 1 f fd ["value"] spList := by
  refine F.ok scLi (fun vs H Q E h => ?_) (fun cdv A outer s H vs Q E hr h => ?_)
  · obtain ⟨a, xs, rfl, _⟩ := h
    rfl
  · obtain ⟨a, xs, rfl, hS, k⟩ := h
    refine ⟨_, pss_one (ps_ret (pe_callB call_isiT (by rfl) N.isin (by decide +kernel) (pa_cons (pv 0) (pa_cons (pe_tup (pa_cons (pe_bltn (v := V.ty "list") (by rfl) N.list (by decide +kernel) rfl)
      (pa_cons (pe_bltn (v := V.ty "tuple") (by rfl) N.tuple (by decide +kernel) rfl) pa_nil))) pa_nil)))), ?_⟩
    refine ⟨_, rfl, by show 2 ≤ sizeLine; decide, fun t ht => ?_⟩
    have hS2 := hS.same (same_upd ht (o := .tup [.ty "list", .ty "tuple"]))
    rcases hS2 with h | h
    · exact ⟨_, t, _, _, _, true, rfl, upd_same, .cons (.ty _) (.cons (.ty _) .nil), .base (.lst h), by kernel_rfl, k _ (same_upd ht)⟩
    · exact ⟨_, t, _, _, _, true, rfl, upd_same, .cons (.ty _) (.cons (.ty _) .nil), .base (.tup h), by kernel_rfl, k _ (same_upd ht)⟩
theorem scFd : FnScope ["value"] ["value"] (defScope sField) := ⟨rfl, rfl, rfl, by decide +kernel, rfl, by decide +kernel, by decide +kernel⟩
theorem ok_field {f fW aF : Addr} {fd fdW : FuncData} (F : Fun K "is_field" "is_field" sField f fd) (FW : Fun K "is_whole" "is_whole" sWhole fW fdW) (bW : Binds K fdW ["value"] []) (gW : mg "is_whole" = some (.ref fW)) (N : Nm mg)
    (gF : mg "FIELDS" = some (.ref aF)) (tF : ∀ H, SqT K H aF (fields.map V.int)) : FnOk P w K mg base CX0 2 f fd ["value"] spField := by
  have GW := ok_whole (P := P) (w := w) (base := base) FW N
  refine F.ok scFd (fun vs H Q E h => ?_) (fun cdv A outer s H vs Q E hr h => ?_)
  · obtain ⟨i, rfl, _⟩ := h
    rfl
  · obtain ⟨i, rfl, hi, k⟩ := h
    refine ⟨_, pss_one (ps_ret (pe_and (pe_call GW hr rfl gW FW.kp bW .nil pass0 (pa_cons (pv 0) pa_nil)) (pe_one (pe_cmpR op_in_seq (pv 0) (pe_gref (by rfl) gF) (by rfl))))), ?_⟩
    refine ⟨_, rfl, i, rfl, true, rfl, iteT ⟨_, rfl, aF, _, rfl, .inr (tF H), rfl, rfl, ?_⟩⟩
    have e : inV (.int i) (fields.map V.int) = true := by
      simp only [fields, List.mem_cons, List.not_mem_nil, or_false] at hi
      rcases hi with rfl | rfl | rfl | rfl | rfl | rfl | rfl <;> rfl
    rw [if_neg Bool.false_ne_true, e]
    exact k
theorem scRw : FnScope ["value", "number"] ["value"] (defScope sRow) := ⟨rfl, rfl, rfl, by decide +kernel, rfl, by decide +kernel, by decide +kernel⟩
theorem all_yes {n : Nat} : ((List.range n).map fun _ => V.bl true) = ((List.range n).map fun _ => true).map V.bl := by
  rw [List.map_map]
  rfl
theorem all_yes2 {n : Nat} : ((List.range n).map fun _ => true).all id = true := by
  rw [List.all_eq_true]
  intro b hb
  obtain ⟨_, _, rfl⟩ := List.mem_map.mp hb
  rfl
theorem int_at {ns : List Int} {j : Nat} {x : V} (h : (ns.map V.int)[j]? = some x) : ∃ i, x = .int i ∧ ns[j]? = some i := by
  rw [List.getElem?_map] at h
  cases e : ns[j]? with
  | none =>
    rw [e] at h
    cases h
  | some i =>
    rw [e] at h
    cases h
    exact ⟨i, rfl, rfl⟩
theorem ok_row {f fW fL : Addr} {fd fdW fdL : FuncData} {tk : Tok} (F : Fun K "is_row" "is_row" sRow f fd) (FW : Fun K "is_whole" "is_whole" sWhole fW fdW) (bW : Binds K fdW ["value"] []) (gW : mg "is_whole" = some (.ref fW))
    (FL : Fun K "is_list" "is_list" sList fL fdL) (bL : Binds K fdL ["value"] []) (gL : mg "is_list" = some (.ref fL)) (N : Nm mg) (gM : mg "MOST_WIDTH" = some (.int 12 tk)) : FnOk P w K mg base CX0 2 f fd ["value"] spRow := by
  have GW := ok_whole (P := P) (w := w) (base := base) FW N
  have GL := ok_list (P := P) (w := w) (base := base) FL N
  refine F.ok scRw (fun vs H Q E h => ?_) (fun cdv A outer s H vs Q E hr h => ?_)
  · obtain ⟨a, ns, rfl, _⟩ := h
    rfl
  · obtain ⟨a, ns, rfl, hS, hl, k⟩ := h
    have nd := scRw.nd
    have hd12 : decide (((ns.map V.int).length : Int) ≤ 12) = true := by
      rw [List.length_map]
      exact decide_eq_true (by omega)
    rcases hS with hS | hS
    · refine ⟨_, pss_one (ps_ret (pe_and (pe_call GL hr rfl gL FL.kp bL .nil pass0 (pa_cons (pv 0) pa_nil)) (pe_and (pe_cmpR op_le (pe_callB lenL (by rfl) N.len PySem.boot_len (pa_cons (pv 0) pa_nil)) (pe_glob (v := .int 12) (by rfl) gM ⟨_, rfl⟩) (nomark _))
        (pe_one (pe_callB (cr_all rfl) (by rfl) N.all (by decide +kernel) (pa_cons (pe_lc (own := [("number", 1)]) (g := gName 1) (tt := tYes) rfl nd (pi_list (pv 0)) (blkOk_by (own := [("number", 1)]) (N := ["value", "number"]) (sc := defScope sRow) (by decide +kernel))
          (fun _ _ _ _ _ => pg_name (i := 1) nd rfl (Or.inl rfl)) (fun _ _ _ _ _ => pts_nil) (fun _ _ _ _ _ => pe_call GW hr rfl gW FW.kp bW .nil pass0 (pa_cons (pv 1) pa_nil))) pa_nil)))))), ?_⟩
      refine ⟨_, rfl, a, _, rfl, .inl hS, fun H1 s1 => ⟨true, rfl, iteT ⟨_, rfl, a, _, rfl, s1 _ _ hS, _, _, rfl, rfl, _, rfl, ?_⟩⟩⟩
      rw [if_pos hd12]
      refine ⟨_, rfl, a, rfl, ⟨_, SqL.of (s1 _ _ hS)⟩, fun D nD => comp_list (fun _ H' => Same H1 H') (fun _ y => y = .bl true) same_refl (fun _ _ _ h => same_new nD h) (fun _ _ h => SqL.of (h _ _ (s1 _ _ hS)))
        (by rw [List.length_map]; omega) (fun _ => rfl) ?_ ?_⟩
      · intro j x H' hx hH R hR
        obtain ⟨i, rfl, _⟩ := int_at hx
        exact ⟨_, rfl, i, rfl, hR _ _ rfl hH rfl⟩
      · intro H' ys hH e g
        rw [g.map (f := fun _ => .bl true) (fun _ _ _ h => h), all_yes] at e
        refine ⟨D, _, rfl, SqL.of e, ?_⟩
        rw [all_yes2]
        exact k _ (s1.trans hH)
    · refine ⟨_, pss_one (ps_ret (pe_and (pe_call GL hr rfl gL FL.kp bL .nil pass0 (pa_cons (pv 0) pa_nil)) (pe_and (pe_cmpR op_le (pe_callB lenT (by rfl) N.len PySem.boot_len (pa_cons (pv 0) pa_nil)) (pe_glob (v := .int 12) (by rfl) gM ⟨_, rfl⟩) (nomark _))
        (pe_one (pe_callB (cr_all rfl) (by rfl) N.all (by decide +kernel) (pa_cons (pe_lc (own := [("number", 1)]) (g := gName 1) (tt := tYes) rfl nd (pi_tup (pv 0)) (blkOk_by (own := [("number", 1)]) (N := ["value", "number"]) (sc := defScope sRow) (by decide +kernel))
          (fun _ _ _ _ _ => pg_name (i := 1) nd rfl (Or.inl rfl)) (fun _ _ _ _ _ => pts_nil) (fun _ _ _ _ _ => pe_call GW hr rfl gW FW.kp bW .nil pass0 (pa_cons (pv 1) pa_nil))) pa_nil)))))), ?_⟩
      refine ⟨_, rfl, a, _, rfl, .inr hS, fun H1 s1 => ⟨true, rfl, iteT ⟨_, rfl, a, _, rfl, s1 _ _ hS, _, _, rfl, rfl, _, rfl, ?_⟩⟩⟩
      rw [if_pos hd12]
      refine ⟨_, rfl, a, rfl, ⟨_, SqT.of (s1 _ _ hS)⟩, fun D nD => comp_tup (fun _ H' => Same H1 H') (fun _ y => y = .bl true) same_refl (fun _ _ _ h => same_new nD h) (fun _ _ h => SqT.of (h _ _ (s1 _ _ hS)))
        (by rw [List.length_map]; omega) (fun _ => rfl) ?_ ?_⟩
      · intro j x H' hx hH R hR
        obtain ⟨i, rfl, _⟩ := int_at hx
        exact ⟨_, rfl, i, rfl, hR _ _ rfl hH rfl⟩
      · intro H' ys hH e g
        rw [g.map (f := fun _ => .bl true) (fun _ _ _ h => h), all_yes] at e
        refine ⟨D, _, rfl, SqL.of e, ?_⟩
        rw [all_yes2]
        exact k _ (s1.trans hH)
/-- rows: at each of some addresses a list or a tuple of ints, all of the same length -/
def RowsAt (H : Hp) (wd : Nat) (rs : List Addr) (nss : List (List Int)) : Prop := Paired (fun r ns => Sq H r (ns.map V.int) ∧ ns.length = wd) rs nss
theorem RowsAt.same {H H' : Hp} {wd : Nat} : ∀ {rs : List Addr} {nss : List (List Int)}, RowsAt H wd rs nss → Same H H' → RowsAt H' wd rs nss
  | _, _, .nil, _ => .nil
  | _, _, .cons h t, s => .cons ⟨h.1.same s, h.2⟩ (RowsAt.same t s)
theorem ref_at {rs : List Addr} {j : Nat} {x : V} (h : (rs.map V.ref)[j]? = some x) : ∃ r, x = .ref r ∧ rs[j]? = some r := by
  rw [List.getElem?_map] at h
  cases e : rs[j]? with
  | none =>
    rw [e] at h
    cases h
  | some i =>
    rw [e] at h
    cases h
    exact ⟨i, rfl, rfl⟩
theorem sq_or {K : PySem.W.Frag} {H : Hp} {a : Addr} {xs : List V} (h : Sq H a xs) : SqL K H a xs ∨ SqT K H a xs := by
  rcases h with h | h
  · exact .inl (SqL.of h)
  · exact .inr (SqT.of h)
def spFault : Sp := fun vs H Q _ => ∃ (a : Addr) (wd : Nat) (rs : List Addr) (nss : List (List Int)), vs = [.ref a] ∧ H a = some (.lst (rs.map V.ref)) ∧ RowsAt H wd rs nss ∧ wd ≤ 12 ∧ rs.length ≤ 60 ∧ ∀ H', Same H H' → Q .non H'
theorem scFa : FnScope ["rows", "index", "row"] ["rows"] (defScope sFault) := ⟨rfl, rfl, rfl, by decide +kernel, rfl, by decide +kernel, by decide +kernel⟩
theorem ok_fault {f fR fL : Addr} {fd fdR fdL : FuncData} {tk : Tok} (F : Fun K "rows_fault" "rows_fault" sFault f fd) (GR : FnOk P w K mg base CX0 2 fR fdR ["value"] spRow) (kR : PySem.W.keepIn K (.ref fR) = true) (bR : Binds K fdR ["value"] []) (gR : mg "is_row" = some (.ref fR))
    (FL : Fun K "is_list" "is_list" sList fL fdL) (bL : Binds K fdL ["value"] []) (gL : mg "is_list" = some (.ref fL)) (N : Nm mg) (gM : mg "MOST_ROWS" = some (.int 60 tk)) : FnOk P w K mg base CX0 3 f fd ["rows"] spFault := by
  have GL := ok_list (P := P) (w := w) (base := base) FL N
  refine F.ok scFa (fun vs H Q E h => ?_) (fun cdv A outer s H vs Q E hr h => ?_)
  · obtain ⟨a, wd, rs, nss, rfl, _⟩ := h
    rfl
  · obtain ⟨a, wd, rs, nss, rfl, hA, hR, hw, hn, k⟩ := h
    have nd := scFa.nd
    have hr1 : Room 1 _ := hr.mono (by decide)
    refine ⟨_, pss_cons (ps_if (pt_not (pt_val (pe_call GL hr1 rfl gL FL.kp bL .nil pass0 (pa_cons (pv 0) pa_nil)))) (pss_one (ps_ret pe_int)) pss_nil)
      (pss_cons (ps_for PassesOwn.never rfl (pi_enum (by rfl) N.enum (pa_cons (pv 0) pa_nil)) (pg_tup rfl (pgs_cons (pg_name (i := 1) nd rfl (.inl rfl)) (pgs_cons (pg_name (i := 2) nd rfl (.inl rfl)) pgs_nil)))
        (pss_one (ps_if (PW.pt (pw_or (pt_not (pt_val (pe_call GR hr rfl gR kR bR .nil pass0 (pa_cons (pv 2) pa_nil)))) (pw_or1 (pt_cmpR op_ne (pe_callB call_len_seq (by rfl) N.len PySem.boot_len (pa_cons (pv 2) pa_nil))
          (pe_callB call_len_seq (by rfl) N.len PySem.boot_len (pa_cons (pe_ix ixL (pv 0) pe_int (fun _ _ => rfl)) pa_nil)) (nomark _))))) (pss_one (ps_ret (pv 1))) pss_nil)))
      (pss_one (ps_ret (pe_ifExp (pt_cmpR op_gt (pe_callB lenL (by rfl) N.len PySem.boot_len (pa_cons (pv 0) pa_nil)) (pe_glob (v := .int 60) (by rfl) gM ⟨_, rfl⟩) (nomark _)) (pe_glob (v := .int 60) (by rfl) gM ⟨_, rfl⟩) pe_non)))), ?_⟩
    refine ⟨_, rfl, a, _, rfl, .inl hA, fun H1 s1 => ⟨true, rfl, iteF ?_⟩⟩
    refine ⟨_, rfl, a, _, rfl, SqL.of (s1 _ _ hA), for_enum (fun i σ H' => ∃ u v, σ = [some (.ref a), u, v] ∧ Same H1 H') ⟨none, none, rfl, same_refl⟩ (fun i σ H' _ ⟨_, _, _, sH⟩ => SqL.of (sH _ _ (s1 _ _ hA))) ?_ ?_⟩
    · rintro i x T σ H' hx ⟨u, v, rfl, sH⟩ nT
      obtain ⟨r, rfl, hr0⟩ := ref_at hx
      obtain ⟨ns, hns, hrow, hlen⟩ := paired_get hR hr0
      obtain ⟨r0, h00⟩ : ∃ r0, rs[0]? = some r0 := ⟨rs[0]'(by have := (List.getElem?_eq_some_iff.mp hr0).1; omega), List.getElem?_eq_getElem _⟩
      obtain ⟨n0, hn0, hrow0, hlen0⟩ := paired_get hR h00
      have sT := (s1.trans sH).trans (same_upd nT (o := .tup [.int (i : Nat), .ref r]))
      refine ⟨T, [.int (i : Nat), .ref r], rfl, .inl (.inl upd_same), rfl, .int (i : Nat), [.ref r], rfl, .ref r, [], rfl, rfl, ?_⟩
      refine ⟨_, rfl, r, ns, rfl, hrow.same sT, by omega, fun H2 s2 => ⟨true, rfl, iteF ?_⟩⟩
      have s3 := sT.trans s2
      refine ⟨_, rfl, r, _, rfl, sq_or (hrow.same s3), _, rfl, a, 0, _, .ref r0, rfl, rfl, s3 _ _ hA, atI_nat (j := 0) (by rw [List.getElem?_map, h00]; rfl), r0, _, rfl, sq_or (hrow0.same s3), rfl, _, rfl, ?_⟩
      have e : decide (V.int ((ns.map V.int).length : Int) = V.int ((n0.map V.int).length : Int)) = true := by
        rw [List.length_map, List.length_map, hlen, hlen0]
        exact decide_eq_true rfl
      rw [e]
      refine iteF ?_
      exact ⟨_, _, rfl, (sH.trans (same_upd nT)).trans s2⟩
    · rintro σ H' ⟨u, v, rfl, sH⟩
      refine ⟨_, rfl, a, _, rfl, sH _ _ (s1 _ _ hA), _, _, rfl, rfl, _, rfl, ?_⟩
      have e : decide ((60 : Int) < ((rs.map V.ref).length : Int)) = false := by
        rw [List.length_map]
        exact decide_eq_false (by omega)
      rw [e]
      exact iteF (k _ (s1.trans sH))
end
theorem PE.imp' {X : Cx} {e : Expr} {t t' : TE} (h : PE X e t) (k : ∀ σ H Q, t' σ H Q → t σ H Q) : PE X e t' := ⟨fun pins s σ H Q I q => h.run pins s σ H Q I (k σ H Q q)⟩
theorem PS.imp' {X : Cx} {e : Stmt} {t t' : TS} (h : PS X e t) (k : ∀ D σ H, t' D σ H → t D σ H) : PS X e t' := ⟨fun pins s σ H D I q => h.run pins s σ H D I (k D σ H q)⟩
theorem PSs.imp' {X : Cx} {e : List Stmt} {t t' : TS} (h : PSs X e t) (k : ∀ D σ H, t' D σ H → t D σ H) : PSs X e t' := ⟨fun pins s σ H D I q => h.run pins s σ H D I (k D σ H q)⟩
/-! ### checks, of whatever the law hands over -/
theorem call_isiK2 {X : Cx} {K : PySem.W.Frag} (h : X.K = K) : CallR X (.builtin "isinstance") (rIsi K) := by
  rw [← h]
  exact call_isi
/-- no list and no tuple -/
inductive Oth (H : Hp) : V → Prop where
  | non : Oth H .non
  | bl (b : Bool) : Oth H (.bl b)
  | int (i : Int) : Oth H (.int i)
  | str (x : Str) : Oth H (.str x)
  | dct {a : Addr} {kvs : List (Key × V)} (e : H a = some (.dK kvs)) : Oth H (.ref a)
/-- a value of any kind that is handed over -/
def Any (H : Hp) (x : V) : Prop := Oth H x ∨ ∃ a xs, x = .ref a ∧ Sq H a xs
def Wh : V → Bool
  | .int _ => true
  | _ => false
theorem Oth.same {H H' : Hp} {x : V} (h : Oth H x) (s : Same H H') : Oth H' x := by
  cases h with
  | non => exact .non
  | bl b => exact .bl b
  | int i => exact .int i
  | str x => exact .str x
  | dct e => exact .dct (s _ _ e)
theorem Any.same {H H' : Hp} {x : V} (h : Any H x) (s : Same H H') : Any H' x := by
  rcases h with h | ⟨a, xs, e, h⟩
  · exact .inl (h.same s)
  · exact .inr ⟨a, xs, e, h.same s⟩
theorem Any.sq {H : Hp} {a : Addr} {xs : List V} (h : Sq H a xs) : Any H (.ref a) := .inr ⟨a, xs, rfl, h⟩
/-- its type, one of a few -/
theorem oth_ty {K : PySem.W.Frag} {H : Hp} {x : V} (h : Oth H x) : ∃ t : String, TyX K H x (.type t) ∧ PySem.W.kitAny K (.type t) [.type "list", .type "tuple"] = some false ∧
    ((PySem.W.kitOne K (.type t) (.type "int") = some true ∧ PySem.W.kitOne K (.type t) (.type "bool") = some (!Wh x)) ∨ (PySem.W.kitOne K (.type t) (.type "int") = some false ∧ Wh x = false)) := by
  cases h with
  | non => exact ⟨_, .base .non, by kernel_rfl, .inr ⟨by kernel_rfl, rfl⟩⟩
  | bl b => exact ⟨_, .base (.bl b), by kernel_rfl, .inl ⟨by kernel_rfl, by kernel_rfl⟩⟩
  | int i => exact ⟨_, .base (.int i), by kernel_rfl, .inl ⟨by kernel_rfl, by kernel_rfl⟩⟩
  | str y => exact ⟨_, .base (.str y), by kernel_rfl, .inr ⟨by kernel_rfl, rfl⟩⟩
  | dct e => exact ⟨_, .base (.dK e), by kernel_rfl, .inr ⟨by kernel_rfl, rfl⟩⟩
theorem sq_ty {K : PySem.W.Frag} {H : Hp} {a : Addr} {xs : List V} (h : Sq H a xs) : ∃ t : String, TyX K H (.ref a) (.type t) ∧ PySem.W.kitAny K (.type t) [.type "list", .type "tuple"] = some true ∧ PySem.W.kitOne K (.type t) (.type "int") = some false := by
  rcases h with e | e
  · exact ⟨_, .base (.lst e), by kernel_rfl, by kernel_rfl⟩
  · exact ⟨_, .base (.tup e), by kernel_rfl, by kernel_rfl⟩
theorem any_ty {K : PySem.W.Frag} {H : Hp} {x : V} (h : Any H x) : ∃ t : String, TyX K H x (.type t) ∧
    ((PySem.W.kitOne K (.type t) (.type "int") = some true ∧ PySem.W.kitOne K (.type t) (.type "bool") = some (!Wh x)) ∨ (PySem.W.kitOne K (.type t) (.type "int") = some false ∧ Wh x = false)) := by
  rcases h with h | ⟨a, xs, rfl, h⟩
  · obtain ⟨t, h1, _, h3⟩ := oth_ty (K := K) h
    exact ⟨t, h1, h3⟩
  · obtain ⟨t, h1, _, h3⟩ := sq_ty (K := K) h
    exact ⟨t, h1, .inr ⟨h3, rfl⟩⟩
def spWholeA : Sp := fun vs H Q _ => ∃ x, vs = [x] ∧ Any H x ∧ Q (.bl (Wh x)) H
section
variable {P : Program} {w : World} {K : PySem.W.Frag} {mg : Str → Option Value} {base : Heap}
theorem ok_wholeA {f : Addr} {fd : FuncData} (F : Fun K "is_whole" "is_whole" sWhole f fd) (N : Nm mg) : FnOk P w K mg base CX0 1 f fd ["value"] spWholeA := by
  refine F.ok scWh (fun vs H Q E h => ?_) (fun cdv A outer s H vs Q E hr h => ?_)
  · obtain ⟨x, rfl, _⟩ := h
    rfl
  · obtain ⟨x, rfl, hx, k⟩ := h
    refine ⟨_, pss_one (ps_ret (pe_and (pe_callB call_isi (by rfl) N.isin (by decide +kernel) (pa_cons (pv 0) (pa_cons (pe_bltn (v := V.ty "int") (by rfl) N.int (by decide +kernel) rfl) pa_nil)))
      (pe_one (pe_not (pe_callB call_isi (by rfl) N.isin (by decide +kernel) (pa_cons (pv 0) (pa_cons (pe_bltn (v := V.ty "bool") (by rfl) N.bool (by decide +kernel) rfl) pa_nil))))))), ?_⟩
    obtain ⟨t, ty, h | ⟨h1, h2⟩⟩ := any_ty (K := K) hx
    · refine ⟨_, rfl, _, _, _, _, true, rfl, .ty _, ty, h.1, true, rfl, iteT ?_⟩
      refine ⟨_, rfl, _, _, _, _, !Wh x, rfl, .ty _, ty, h.2, !Wh x, rfl, ?_⟩
      rw [Bool.not_not]
      exact k
    · refine ⟨_, rfl, _, _, _, _, false, rfl, .ty _, ty, h1, false, rfl, iteF ?_⟩
      rw [← h2]
      exact k
end
/-! ### the integer by which a number becomes 1 -/
abbrev sInv : Stmt := top 23
/-- p is no number that two others make, and stands below 2 ^ 60 -/
def InvIs (p n r : Int) : Prop := 0 ≤ r ∧ r < p ∧ p ∣ n * r - 1
def intAt3 (σ : L2.St) (_ : Hp) : Nat := match σ[3]? with | some (some (V.int lo)) => lo.toNat | _ => 0
def spInv : Sp := fun vs H Q _ => ∃ n p, vs = [.int n, .int p] ∧ Lin.Dom p ∧ 1 < p ∧ p < 2 ^ 60 ∧ ¬ p ∣ n ∧ ∀ r H', InvIs p n r → Same H H' → Q (.int r) H'
theorem inv_dvd {p n d : Int} (D : Lin.Dom p) (hp : 1 < p) (hn : ¬ p ∣ n) (h1 : d ∣ p) (h2 : d ∣ n % p) : d ∣ 1 := by
  have hdn : d ∣ n := by
    have e : n = n % p + p * (n / p) := (Int.emod_add_mul_ediv n p).symm
    rw [e]
    exact Int.dvd_add h2 (Int.dvd_mul_of_dvd_left h1)
  obtain ⟨e, he⟩ := h1
  have h3 : p ∣ d * e := by
    rw [← he]
    exact Int.dvd_refl p
  rcases D.mul h3 with h | h
  · exact absurd (Int.dvd_trans h hdn) hn
  · obtain ⟨e', he'⟩ := h
    refine ⟨e', ?_⟩
    have : p * 1 = p * (d * e') := by
      rw [Int.mul_one, ← Int.mul_assoc, Int.mul_comm p d, Int.mul_assoc, ← he', ← he]
    exact Int.eq_of_mul_eq_mul_left (by omega) this
section
variable {P : Program} {w : World} {K : PySem.W.Frag} {mg : Str → Option Value} {base : Heap}
theorem scInv : FnScope ["number", "prime", "high", "low", "above", "below", "times"] ["number", "prime"] (defScope sInv) := ⟨rfl, rfl, rfl, by decide +kernel, rfl, by decide +kernel, by decide +kernel⟩
theorem ok_inv {f : Addr} {fd : FuncData} (F : Fun K "inverse" "inverse" sInv f fd) : FnOk P w K mg base CX0 1 f fd ["number", "prime"] spInv := by
  refine F.ok scInv (fun vs H Q E h => ?_) (fun cdv A outer s H vs Q E hr h => ?_)
  · obtain ⟨n, p, rfl, _⟩ := h
    rfl
  · obtain ⟨n, p, rfl, D, p1, p2, hn, k⟩ := h
    have nd := scInv.nd
    refine ⟨_, pss_cons (ps_par (i := 2) (j := 3) rfl nd rfl rfl (by decide) rfl rfl (pa_cons (pv 1) (pa_cons (pe_op op_mod (pv 0) (pv 1)) pa_nil)) (by rfl))
      (pss_cons (ps_asg (pe_tup (pa_cons pe_int (pa_cons pe_int pa_nil))) (pg_tup (by rfl) (pgs_cons (pg_name (i := 4) nd rfl (.inl rfl)) (pgs_cons (pg_name (i := 5) nd rfl (.inl rfl)) pgs_nil))))
      (pss_cons (ps_while PassesOwn.never (pt_cmpR op_gt (pv 3) pe_int (nomark _))
        (pss_cons (ps_set (i := 6) nd rfl (.inl rfl) (pe_op op_fdivNW (pv 2) (pv 3)))
        (pss_cons (ps_par (i := 2) (j := 3) rfl nd rfl rfl (by decide) rfl rfl (pa_cons (pv 3) (pa_cons (pe_op op_sub (pv 2) (pe_op op_mul (pv 6) (pv 3))) pa_nil)) (by rfl))
        (pss_one (ps_par (i := 4) (j := 5) rfl nd rfl rfl (by decide) rfl rfl (pa_cons (pv 5) (pa_cons (pe_op op_sub (pv 4) (pe_op op_mul (pv 6) (pv 5))) pa_nil)) (by rfl))))))
      (pss_one (ps_ret (pe_op op_mod (pv 4) (pv 1)))))), ?_⟩
    refine ⟨_, rfl, _, rfl, _, rfl, n, p, rfl, rfl, by omega, _, _, rfl, ?_⟩
    refine ⟨by show 2 ≤ sizeLine; decide, fun t ht => ?_⟩
    refine ⟨t, [.int 0, .int 1], rfl, .inl (.inl upd_same), rfl, .int 0, [.int 1], rfl, .int 1, [], rfl, rfl, ?_⟩
    have sT := same_upd ht (o := .tup [.int 0, .int 1])
    generalize upd H t (.tup [.int 0, .int 1]) = HT at *
    have e0 : n = n % p + p * (n / p) := (Int.emod_add_mul_ediv n p).symm
    have m0 := Int.emod_nonneg n (show p ≠ 0 by omega)
    have m1 := Int.emod_lt_of_pos n (show 0 < p by omega)
    refine while_by (fun σ H' => ∃ (hi lo ab be : Int) (v : Option V), σ = [some (.int n), some (.int p), some (.int hi), some (.int lo), some (.int ab), some (.int be), v] ∧ H' = HT ∧ 0 ≤ lo ∧ lo < hi ∧ hi ≤ p ∧ p ∣ n * ab - hi ∧ p ∣ n * be - lo ∧ ∀ d, d ∣ hi → d ∣ lo → d ∣ 1)
      intAt3 ⟨p, n % p, 0, 1, none, rfl, rfl, m0, m1, Int.le_refl _, ⟨-1, by omega⟩, ⟨n / p, by omega⟩, fun d h1 h2 => inv_dvd D p1 hn h1 h2⟩ ?_ (fun σ H Q Q' hQ h => ?_)
    · rintro σ H' ⟨hi, lo, ab, be, v, rfl, rfl, l0, l1, l2, c1, c2, g⟩
      refine ⟨_, rfl, _, _, rfl, rfl, _, rfl, ?_⟩
      by_cases z : 0 < lo
      · rw [decide_eq_true z]
        refine iteT ?_
        have q0 : 0 ≤ hi / lo := Int.ediv_nonneg (by omega) l0
        have q1 : hi / lo ≤ hi := Int.ediv_le_self _ (by omega)
        have q2 : hi = hi % lo + lo * (hi / lo) := (Int.emod_add_mul_ediv hi lo).symm
        have q3 := Int.emod_nonneg hi (show lo ≠ 0 by omega)
        have q4 := Int.emod_lt_of_pos hi z
        have e1 : hi.fdiv lo = hi / lo := by rw [Int.fdiv_eq_ediv_of_nonneg _ l0]
        have lg : lo.natAbs.log2 < 9000 := by
          have h1 := Nat.log2_lt (n := lo.natAbs) (k := 100) (by omega)
          have h2 : lo.natAbs < 2 ^ 100 := Nat.lt_of_lt_of_le (show lo.natAbs < 2 ^ 60 by omega) (Nat.pow_le_pow_right (by decide) (by decide))
          have := h1.mpr h2
          omega
        refine ⟨_, rfl, _, rfl, hi, lo, rfl, rfl, ⟨by omega, lg⟩, ?_⟩
        dsimp only
        rw [e1]
        generalize hi / lo = t at *
        refine ⟨_, rfl, _, rfl, _, rfl, _, rfl, t, lo, rfl, rfl, .inl ⟨by omega, by omega⟩, hi, t * lo, rfl, rfl, _, _, rfl, ?_⟩
        refine ⟨_, rfl, _, rfl, _, rfl, _, rfl, t, be, rfl, rfl, .inl ⟨by omega, by omega⟩, ab, t * be, rfl, rfl, _, _, rfl, ?_⟩
        have e2 : hi - t * lo = hi % lo := by
          rw [Int.mul_comm]
          omega
        refine ⟨⟨lo, hi - t * lo, be, ab - t * be, _, rfl, rfl, by omega, by omega, by omega, c2, ?_, fun d h1 h2 => g d ?_ h1⟩, ?_⟩
        · have : n * (ab - t * be) - (hi - t * lo) = (n * ab - hi) - t * (n * be - lo) := by grind
          rw [this]
          exact Int.dvd_sub c1 (Int.dvd_mul_of_dvd_right c2)
        · have : hi = (hi - t * lo) + t * lo := by omega
          rw [this]
          exact Int.dvd_add h2 (Int.dvd_mul_of_dvd_right h1)
        · show (hi - t * lo).toNat < lo.toNat
          omega
      · rw [decide_eq_false z]
        refine iteF ⟨_, rfl, _, rfl, ab, p, rfl, rfl, by omega, ?_⟩
        have z0 : lo = 0 := by omega
        subst z0
        have g1 := g hi (Int.dvd_refl hi) (Int.dvd_zero hi)
        have : hi = 1 := by
          have := Int.le_of_dvd (by decide) g1
          omega
        subst this
        refine k _ _ ⟨Int.emod_nonneg _ (by omega), Int.emod_lt_of_pos _ (by omega), ?_⟩ sT
        have e3 : n * (ab % p) - 1 = (n * ab - 1) - p * (n * (ab / p)) := by
          have := Int.emod_add_mul_ediv ab p
          grind
        rw [e3]
        exact Int.dvd_sub c1 ⟨_, rfl⟩
    · obtain ⟨v, h1, i, j, h2, h3, b, h4, h5⟩ := h
      exact ⟨v, h1, i, j, h2, h3, b, h4, hQ _ _ h5⟩
end
/-! ### the table -/
abbrev sInit : Stmt := inClass (top 30) 0
def tell (f n : Int) : Int := if f = 0 then n else n % f
/-- a def with defaults -/
structure FunD (K : PySem.W.Frag) (x qual : Str) (st : Stmt) (f : Addr) (fd : FuncData) : Prop where
  ex : ∃ (oc : Value) (od : Option Addr) (dV kV doc pm : Value) (an : Option Addr) (cdv ct : Value) (osl : Array (Option Value)),
    fd = PySem.W.fnOf x qual (defArgs st) (defBody st) (defScope st) dV kV doc pm an cdv ct ∧ K.lookup f = some ⟨oc, od, .func fd, osl⟩ ∧ PySem.W.codeIn K cdv qual = true
section
variable {P : Program} {w : World} {K : PySem.W.Frag} {mg : Str → Option Value} {base : Heap}
theorem FunD.ok {x qual : Str} {st : Stmt} {f : Addr} {fd : FuncData} {N ps : List Str} {k : Nat} {sp : Sp} (F : FunD K x qual st f fd) (S : FnScope N ps (defScope st)) (len : ∀ vs H Q E, sp vs H Q E → vs.length = ps.length)
    (hb : ∀ (cdv : Value) (A : Around) (outer : List Env) (s : Shared) (H : Hp) (vs : List V) (Q : VK) (E : XK), Room k (A.deeper (PyProof.Rows.envOfC qual (defScope st) s.heap.objs.size f cdv)) → sp vs H Q E →
      ∃ t, PSs (cxOf CX0 P w K mg base N qual (defScope st) f cdv A outer s H E).nox (defBody st) t ∧ t { nx := fun _ H' => Q .non H', rt := Q } (L2.start N vs) H) : FnOk P w K mg base CX0 (k + 1) f fd ps sp := by
  obtain ⟨oc, od, dV, kV, doc, pm, an, cdv, ct, osl, rfl, lk, hcd⟩ := F.ex
  refine fn_of lk hcd S len fun A outer s H vs Q E hr hsp => ?_
  obtain ⟨t, h, q⟩ := hb cdv A outer s H vs Q E hr hsp
  exact ⟨t, h.nox, q⟩
def spTold : Sp := fun vs H Q _ => ∃ (a : Addr) (f : Int) (ns : List Int), vs = [.ref a, .int f] ∧ Sq H a (ns.map V.int) ∧ ns.length ≤ 12 ∧ 0 ≤ f ∧
  ∀ H' t, Same H H' → H t = none → H' t = some (.tup ((ns.map (tell f)).map V.int)) → Q (.ref t) H'
theorem scTo : FnScope ["row", "field", "number"] ["row", "field"] (defScope sTold) := ⟨rfl, rfl, rfl, by decide +kernel, rfl, by decide +kernel, by decide +kernel⟩
theorem told_items {ns : List Int} {f : Int} {n : Nat} {ys : List V} (hn : n = ns.length) (g : Gives (fun j y => ∀ i, ns[j]? = some i → y = V.int (tell f i)) n ys) : ys = (ns.map (tell f)).map V.int := by
  subst hn
  obtain ⟨h1, h2⟩ := g
  apply List.ext_getElem?
  intro j
  rw [List.getElem?_map, List.getElem?_map]
  by_cases hj : j < ns.length
  · rw [List.getElem?_eq_getElem hj, List.getElem?_eq_getElem (by omega)]
    have := h2 j _ (List.getElem?_eq_getElem (by omega)) _ (List.getElem?_eq_getElem hj)
    simp [this]
  · rw [List.getElem?_eq_none (by omega), List.getElem?_eq_none (by omega)]
    rfl
theorem ok_told {f : Addr} {fd : FuncData} (F : Fun K "told" "told" sTold f fd) (N : Nm mg) : FnOk P w K mg base CX0 1 f fd ["row", "field"] spTold := by
  refine F.ok scTo (fun vs H Q E h => ?_) (fun cdv A outer s H vs Q E hr h => ?_)
  · obtain ⟨a, f, ns, rfl, _⟩ := h
    rfl
  · obtain ⟨a, fl, ns, rfl, hS, hl, hf, k⟩ := h
    have nd := scTo.nd
    have turn : ∀ (H1 : Hp) (D : Addr) (j : Nat) (x : V) (H' : Hp), (ns.map V.int)[j]? = some x → Same H H' → ∀ R : VK, (∀ y H4, (∀ i, ns[j]? = some i → y = V.int (tell fl i)) → Same H H4 → H4 D = H' D → R y H4) →
        ∃ k, k = (fl != 0) ∧ if k = true then (∃ i j2, x = .int i ∧ V.int fl = .int j2 ∧ 0 < j2 ∧ R (.int (i % j2)) H') else ((∃ i, [x] = [V.int i] ∧ R (.int i) H') ∨ ∃ b, [x] = [V.bl b] ∧ R (.int (if b = true then 1 else 0)) H') := by
      intro H1 D j x H' hx hH R hR
      obtain ⟨i, rfl, hi⟩ := int_at hx
      refine ⟨_, rfl, ?_⟩
      by_cases z : fl = 0
      · have e : (fl != 0) = false := by simp [z]
        rw [e]
        refine iteF (.inl ⟨i, rfl, hR _ _ (fun i2 h2 => ?_) hH rfl⟩)
        rw [hi] at h2
        cases h2
        unfold tell
        rw [if_pos z]
      · have e : (fl != 0) = true := by simp [z]
        rw [e]
        refine iteT ⟨i, fl, rfl, rfl, by omega, hR _ _ (fun i2 h2 => ?_) hH rfl⟩
        rw [hi] at h2
        cases h2
        unfold tell
        rw [if_neg z]
    have fin : ∀ (H' : Hp) (D : Addr) (ys : List V), Same H H' → H' D = some (.lst ys) → Gives (fun j y => ∀ i, ns[j]? = some i → y = V.int (tell fl i)) (ns.map V.int).length ys →
        ∃ p zs, [V.ref D] = [V.ref p] ∧ ((SqL K H' p zs ∧ ∀ l, H' l = none → Q (.ref l) (upd H' l (.tup zs))) ∨ (SqT K H' p zs ∧ Q (.ref p) H')) := by
      intro H' D ys hH e g
      rw [told_items (List.length_map ..) g] at e
      refine ⟨D, _, rfl, .inl ⟨SqL.of e, fun l hl0 => k _ _ (hH.trans (same_upd hl0)) (hH.free hl0) upd_same⟩⟩
    rcases hS with hS | hS
    · refine ⟨_, pss_one (ps_ret (pe_callTy call_tuple_of (by rfl) N.tuple (by decide +kernel) (pa_cons (pe_lc (own := [("number", 2)]) (g := gName 2) (tt := tYes) rfl nd (pi_list (pv 0))
        (blkOk_by (own := [("number", 2)]) (N := ["row", "field", "number"]) (sc := defScope sTold) (by decide +kernel)) (fun _ _ _ _ _ => pg_name (i := 2) nd rfl (Or.inl rfl)) (fun _ _ _ _ _ => pts_nil)
        (fun _ _ _ _ _ => pe_ifExp (pt_truthI (pv 1) (by intro _; rfl)) (pe_op op_mod (pv 2) (pv 1)) (pe_callTy call_int1 (by rfl) N.int (by decide +kernel) (pa_cons (pv 2) pa_nil)))) pa_nil))), ?_⟩
      refine ⟨_, rfl, a, rfl, ⟨_, SqL.of hS⟩, fun D nD => comp_list (fun _ H' => Same H H') (fun j y => ∀ i, ns[j]? = some i → y = V.int (tell fl i)) same_refl (fun _ _ _ h => same_new nD h) (fun _ _ h => SqL.of (h _ _ hS)) (by rw [List.length_map]; omega) (fun _ => rfl) ?_ (fun H' ys hH e g => fin H' D ys hH e g)⟩
      intro j x H' hx hH R hR
      obtain ⟨kk, ek, hk⟩ := turn H D j x H' hx hH R hR
      refine ⟨_, rfl, fl, rfl, ?_⟩
      rw [← ek]
      cases kk with
      | true =>
        obtain ⟨i, j2, e1, e2, e3, e4⟩ := (if_pos rfl).mp hk
        refine iteT ⟨_, rfl, _, rfl, i, j2, e1, e2, e3, e4⟩
      | false =>
        have hk2 := (if_neg Bool.false_ne_true).mp hk
        refine iteF ⟨_, rfl, hk2⟩
    · refine ⟨_, pss_one (ps_ret (pe_callTy call_tuple_of (by rfl) N.tuple (by decide +kernel) (pa_cons (pe_lc (own := [("number", 2)]) (g := gName 2) (tt := tYes) rfl nd (pi_tup (pv 0))
        (blkOk_by (own := [("number", 2)]) (N := ["row", "field", "number"]) (sc := defScope sTold) (by decide +kernel)) (fun _ _ _ _ _ => pg_name (i := 2) nd rfl (Or.inl rfl)) (fun _ _ _ _ _ => pts_nil)
        (fun _ _ _ _ _ => pe_ifExp (pt_truthI (pv 1) (by intro _; rfl)) (pe_op op_mod (pv 2) (pv 1)) (pe_callTy call_int1 (by rfl) N.int (by decide +kernel) (pa_cons (pv 2) pa_nil)))) pa_nil))), ?_⟩
      refine ⟨_, rfl, a, rfl, ⟨_, SqT.of hS⟩, fun D nD => comp_tup (fun _ H' => Same H H') (fun j y => ∀ i, ns[j]? = some i → y = V.int (tell fl i)) same_refl (fun _ _ _ h => same_new nD h) (fun _ _ h => SqT.of (h _ _ hS)) (by rw [List.length_map]; omega) (fun _ => rfl) ?_ (fun H' ys hH e g => fin H' D ys hH e g)⟩
      intro j x H' hx hH R hR
      obtain ⟨kk, ek, hk⟩ := turn H D j x H' hx hH R hR
      refine ⟨_, rfl, fl, rfl, ?_⟩
      rw [← ek]
      cases kk with
      | true =>
        obtain ⟨i, j2, e1, e2, e3, e4⟩ := (if_pos rfl).mp hk
        refine iteT ⟨_, rfl, _, rfl, i, j2, e1, e2, e3, e4⟩
      | false =>
        have hk2 := (if_neg Bool.false_ne_true).mp hk
        refine iteF ⟨_, rfl, hk2⟩
/-- all but what stands at p is as before -/
def But (p : Addr) (H H' : Hp) : Prop := ∀ b u, b ≠ p → H b = some u → H' b = some u
theorem But.trans {p : Addr} {H H1 H2 : Hp} (h : But p H H1) (h2 : But p H1 H2) : But p H H2 := fun b u n e => h2 b u n (h b u n e)
theorem But.same {p : Addr} {H H1 : Hp} (h : Same H H1) : But p H H1 := fun b u _ e => h b u e
theorem But.upd {p : Addr} {H : Hp} {o : HO} : But p H (upd H p o) := fun b u n e => by rw [upd_ne n]; exact e
theorem But.free {p L : Addr} {A B : Hp} {u : HO} (h : But p A B) (hp : B p = some u) (n : B L = none) : A L = none := by
  cases e : A L with
  | none => rfl
  | some x =>
    by_cases e2 : L = p
    · rw [e2, hp] at n
      cases n
    · rw [h _ _ e2 e] at n
      cases n
theorem But.new {p D : Addr} {A B : Hp} {o : HO} (h : But p A B) (n : A D = none) : But p A (L2.upd B D o) := fun b u nb e => by
  rw [upd_ne (ne_of_none e n)]
  exact h b u nb e
structure RTxt (K : PySem.W.Frag) (mg : Str → Option Value) (C : Addr) : Prop where
  cl : Cls K C
  nF : NoAttr K C "_field"
  nR : NoAttr K C "_rows"
  nW : NoAttr K C "_width"
  mgC : mg "Rows" = some (.ref C)
def rf (f : Int) (t : Addr) (wd : Nat) : List (Str × V) := [("_field", .int f), ("_rows", .ref t), ("_width", .int (wd : Int))]
/-- the tuples of a table's rows, told -/
def ToldAt (H : Hp) (f : Int) (ts : List Addr) (nss : List (List Int)) : Prop := Paired (fun t ns => H t = some (.tup ((ns.map (tell f)).map V.int))) ts nss
theorem ToldAt.keep {H H' : Hp} {f : Int} : ∀ {ts : List Addr} {nss : List (List Int)}, ToldAt H f ts nss → (∀ t ∈ ts, ∀ u, H t = some u → H' t = some u) → ToldAt H' f ts nss
  | _, _, .nil, _ => .nil
  | _, _, .cons h t, s => .cons (s _ (.head _) _ h) (ToldAt.keep t fun x m => s x (.tail _ m))
/-- the table at p -/
def TabAt (C : Addr) (H : Hp) (p : Addr) (f : Int) (nss : List (List Int)) : Prop := ∃ dx t ts, H p = some (.ins C dx (rf f t (nss.headD []).length)) ∧ H t = some (.tup (ts.map V.ref)) ∧ ToldAt H f ts nss
theorem RowsAt.keep {H H' : Hp} {wd : Nat} : ∀ {rs : List Addr} {nss : List (List Int)}, RowsAt H wd rs nss → (∀ r ∈ rs, ∀ u, H r = some u → H' r = some u) → RowsAt H' wd rs nss
  | _, _, .nil, _ => .nil
  | _, _, .cons h t, s => .cons ⟨h.1.elim (fun e => .inl (s _ (.head _) _ e)) (fun e => .inr (s _ (.head _) _ e)), h.2⟩ (RowsAt.keep t fun x m => s x (.tail _ m))
theorem paired_memR {α β : Type} {R : α → β → Prop} : ∀ {xs : List α} {ys : List β}, Paired R xs ys → ∀ {y : β}, y ∈ ys → ∃ x, x ∈ xs ∧ R x y
  | _, _, .nil, _, h => nomatch h
  | _, _, .cons r _, _, .head _ => ⟨_, .head _, r⟩
  | _, _, .cons _ t, _, .tail _ m => by
    obtain ⟨x, h1, h2⟩ := paired_memR t m
    exact ⟨x, .tail _ h1, h2⟩
theorem paired_mem {α β : Type} {R : α → β → Prop} : ∀ {xs : List α} {ys : List β}, Paired R xs ys → ∀ {x : α}, x ∈ xs → ∃ y, y ∈ ys ∧ R x y
  | _, _, .nil, _, h => nomatch h
  | _, _, .cons r _, _, .head _ => ⟨_, .head _, r⟩
  | _, _, .cons _ t, _, .tail _ m => by
    obtain ⟨y, h1, h2⟩ := paired_mem t m
    exact ⟨y, .tail _ h1, h2⟩
theorem TabAt.keep {C : Addr} {H H' : Hp} {p : Addr} {f : Int} {nss : List (List Int)} (h : TabAt C H p f nss) (s : Same H H') : TabAt C H' p f nss := by
  obtain ⟨dx, t, ts, h1, h2, h3⟩ := h
  exact ⟨dx, t, ts, s _ _ h1, s _ _ h2, h3.keep fun t _ u e => s _ _ e⟩
def spInit0 (C : Addr) : Sp := fun vs H Q _ => ∃ (p a dx : Addr) (f : Int) (wd : Nat) (rs : List Addr) (nss : List (List Int)), vs = [.ref p, .ref a, .int f] ∧ H p = some (.ins C dx []) ∧ p ≠ a ∧ H a = some (.lst (rs.map V.ref)) ∧
  RowsAt H wd rs nss ∧ (∀ r ∈ rs, r ≠ p) ∧ wd ≤ 12 ∧ rs.length ≤ 60 ∧ f ∈ fields ∧ ∀ H', But p H H' → TabAt C H' p f nss → Q .non H'
theorem fields_ge {f : Int} (h : f ∈ fields) : 0 ≤ f ∧ f ≤ 13 := by
  simp only [fields, List.mem_cons, List.not_mem_nil, or_false] at h
  omega
theorem scIn : FnScope ["self", "rows", "field", "fault", "row"] ["self", "rows", "field"] (defScope sInit) := ⟨rfl, rfl, rfl, by decide +kernel, rfl, by decide +kernel, by decide +kernel⟩
theorem ok_init0 {f fF fA fT C : Addr} {fd fdF fdA fdT : FuncData} (F : FunD K "__init__" "Rows.__init__" sInit f fd) (T : RTxt K mg C) (N : Nm mg)
    (GF : FnOk P w K mg base CX0 2 fF fdF ["value"] spField) (kF : PySem.W.keepIn K (.ref fF) = true) (bF : Binds K fdF ["value"] []) (gF : mg "is_field" = some (.ref fF))
    (GA : FnOk P w K mg base CX0 3 fA fdA ["rows"] spFault) (kA : PySem.W.keepIn K (.ref fA) = true) (bA : Binds K fdA ["rows"] []) (gA : mg "rows_fault" = some (.ref fA))
    (GT : FnOk P w K mg base CX0 1 fT fdT ["row", "field"] spTold) (kT : PySem.W.keepIn K (.ref fT) = true) (bT : Binds K fdT ["row", "field"] []) (gT : mg "told" = some (.ref fT)) :
    FnOk P w K mg base CX0 4 f fd ["self", "rows", "field"] (spInit0 C) := by
  refine F.ok scIn (fun vs H Q E h => ?_) (fun cdv A outer s H vs Q E hr h => ?_)
  · obtain ⟨p, a, dx, f, wd, rs, nss, rfl, _⟩ := h
    rfl
  · obtain ⟨p, a, dx, fl, wd, rs, nss, rfl, hp, npa, hA, hR, hrp, hw, hn, hf, k⟩ := h
    have nd := scIn.nd
    have hr1 : Room 1 _ := hr.mono (by decide)
    have hr2 : Room 2 _ := hr.mono (by decide)
    have hg := fields_ge hf
    refine ⟨_, pss_cons (ps_if (pt_not (pt_val (pe_call GF hr2 rfl gF kF bF .nil pass0 (pa_cons (pv 2) pa_nil)))) pss_never pss_nil)
      (pss_cons (ps_set (i := 3) nd rfl (.inl rfl) (pe_call GA hr rfl gA kA bA .nil pass0 (pa_cons (pv 1) pa_nil)))
      (pss_cons (ps_if (pt_cmpR op_notN (pv 3) pe_non (nomark _)) pss_never pss_nil)
      (pss_cons (ps_fld (pv 0) (pe_callTy call_int1 (by rfl) N.int (by decide +kernel) (pa_cons (pv 2) pa_nil)) rfl)
      (pss_cons (ps_fld (pv 0) (pe_callTy call_tuple_of (by rfl) N.tuple (by decide +kernel) (pa_cons (pe_lc (own := [("row", 4)]) (g := gName 4) (tt := tYes) rfl nd (pi_list (pv 1))
        (blkOk_by (own := [("row", 4)]) (N := ["self", "rows", "field", "fault", "row"]) (sc := defScope sInit) (by decide +kernel)) (fun _ _ _ _ _ => pg_name (i := 4) nd rfl (Or.inl rfl)) (fun _ _ _ _ _ => pts_nil)
        (fun _ _ _ _ _ => pe_call GT hr1 rfl gT kT bT .nil pass0 (pa_cons (pv 4) (pa_cons (pv 2) pa_nil)))) pa_nil)) rfl)
      (pss_one (ps_fld (pv 0) (pe_ifExp (pt_cmpR op_gt (pe_callB lenL (by rfl) N.len PySem.boot_len (pa_cons (pv 1) pa_nil)) pe_int (nomark _))
        (pe_callB call_len_seq (by rfl) N.len PySem.boot_len (pa_cons (pe_ix ixL (pv 1) pe_int (fun _ _ => rfl)) pa_nil)) pe_int) rfl)))))), ?_⟩
    refine ⟨_, rfl, fl, rfl, hf, true, rfl, iteF ?_⟩
    refine ⟨_, rfl, a, wd, rs, nss, rfl, hA, hR, hw, hn, fun H1 s1 => ?_⟩
    refine ⟨_, rfl, rfl, _, rfl, iteF ?_⟩
    have hp1 := s1 _ _ hp
    refine ⟨_, rfl, .inl ⟨fl, rfl, ?_⟩⟩
    refine ⟨_, rfl, p, C, dx, [], rfl, hp1, T.cl, T.nF, by decide, ?_⟩
    have e1 : putF "_field" (V.int fl) [] = [(("_field" : Str), V.int fl)] := rfl
    rw [e1]
    generalize hH2 : upd H1 p (.ins C dx [(("_field" : Str), V.int fl)]) = H2
    have p2 : H2 p = some (.ins C dx [(("_field" : Str), V.int fl)]) := by rw [← hH2, upd_same]
    have b2 : But p H1 H2 := by rw [← hH2]; exact But.upd
    have hA2 : H2 a = some (.lst (rs.map V.ref)) := b2 _ _ (Ne.symm npa) (s1 _ _ hA)
    have hR2 : RowsAt H2 wd rs nss := RowsAt.keep hR (fun r hr0 u e => b2 _ _ (hrp r hr0) (s1 _ _ e))
    refine ⟨_, rfl, a, rfl, ⟨_, SqL.of hA2⟩, fun D nD => comp_listI (fun j ys H' => Same H2 H' ∧ ∃ ts : List Addr, ys = ts.map V.ref ∧ ToldAt H' fl ts (nss.take j) ∧ ∀ t ∈ ts, t ≠ D)
      ⟨same_upd nD, [], rfl, .nil, fun _ h => nomatch h⟩ (fun _ _ _ h => SqL.of (h.1 _ _ hA2)) (by rw [List.length_map]; omega) (fun _ => rfl) ?_ ?_⟩
    · rintro j x ys H' hx ⟨sH, ts, rfl, hts, htD⟩ hD R hR'
      obtain ⟨r, rfl, hr0⟩ := ref_at hx
      obtain ⟨ns, hns, hrow, hlen⟩ := paired_get hR2 hr0
      refine ⟨_, rfl, _, rfl, r, fl, ns, rfl, hrow.same sH, by omega, hg.1, fun H3 t s3 nt ht => ?_⟩
      have ntD : t ≠ D := fun e => by
        rw [e, hD] at nt
        cases nt
      refine hR' _ _ (s3 _ _ hD) ⟨same_new nD (sH.trans s3), ts ++ [t], by rw [List.map_append]; rfl, ?_, ?_⟩
      · rw [List.take_succ, hns]
        refine Paired.snoc (ToldAt.keep hts fun x hx u e => ?_) (by rw [upd_ne ntD]; exact ht)
        rw [upd_ne (htD x hx)]
        exact s3 _ _ e
      · intro x hx
        rcases List.mem_append.mp hx with h | h
        · exact htD x h
        · rw [List.mem_singleton.mp h]
          exact ntD
    · rintro H3 ys ⟨sH, ts, rfl, hts, htD⟩ hD hlen
      have ll : rs.length = nss.length := Paired.length hR2
      have ht2 : (List.map V.ref rs).length = nss.length := by rw [List.length_map, ll]
      rw [ht2, List.take_length] at hts
      refine ⟨D, _, rfl, .inl ⟨SqL.of hD, fun l nl => ?_⟩⟩
      have p3 : upd H3 l (.tup (ts.map V.ref)) p = some (.ins C dx [(("_field" : Str), V.int fl)]) := by
        rw [upd_ne (ne_of_none (sH _ _ p2) nl)]
        exact sH _ _ p2
      refine ⟨_, rfl, p, C, dx, _, rfl, p3, T.cl, T.nR, Nat.le_of_ble_eq_true rfl, ?_⟩
      have e2 : putF "_rows" (V.ref l) [(("_field" : Str), V.int fl)] = [(("_field" : Str), V.int fl), (("_rows" : Str), V.ref l)] := rfl
      rw [e2]
      have lp : l ≠ p := fun e => by
        rw [e, sH _ _ p2] at nl
        cases nl
      generalize hH4 : upd (upd H3 l (.tup (ts.map V.ref))) p (.ins C dx [(("_field" : Str), V.int fl), (("_rows" : Str), V.ref l)]) = H4
      have p4 : H4 p = some (.ins C dx [(("_field" : Str), V.int fl), (("_rows" : Str), V.ref l)]) := by rw [← hH4, upd_same]
      have l4 : H4 l = some (.tup (ts.map V.ref)) := by rw [← hH4, upd_ne lp, upd_same]
      have b4 : But p H3 H4 := by
        rw [← hH4]
        exact (But.same (same_upd nl)).trans But.upd
      have bb : But p H H4 := (((But.same s1).trans b2).trans (But.same sH)).trans b4
      have tp : ∀ t ∈ ts, t ≠ p := by
        intro t m e
        obtain ⟨ns, _, h⟩ := paired_mem hts m
        rw [e, sH _ _ p2] at h
        cases h
      have hts4 : ToldAt H4 fl ts nss := ToldAt.keep hts fun t m u e => b4 _ _ (tp t m) e
      have hA4 : H4 a = some (.lst (rs.map V.ref)) := bb _ _ (Ne.symm npa) hA
      have fin : ∀ i : Nat, i = (nss.headD []).length → Q .non (upd H4 p (.ins C dx (putF "_width" (V.int (i : Int)) [(("_field" : Str), V.int fl), (("_rows" : Str), V.ref l)]))) := by
        rintro i rfl
        refine k _ (bb.trans But.upd) ⟨dx, l, ts, upd_same, by rw [upd_ne lp]; exact l4, ToldAt.keep hts4 fun t m u e => ?_⟩
        rw [upd_ne (tp t m)]
        exact e
      refine ⟨_, rfl, a, _, rfl, hA4, _, _, rfl, rfl, _, rfl, ?_⟩
      have hR4 : RowsAt H4 wd rs nss := RowsAt.keep hR (fun r hr0 u e => bb _ _ (hrp r hr0) e)
      by_cases e : rs.length = 0
      · have e3 : decide ((0 : Int) < ((rs.map V.ref).length : Int)) = false := by
          rw [List.length_map, e]
          rfl
        rw [e3]
        have e4 : nss = [] := List.length_eq_zero_iff.mp (by omega)
        exact iteF ⟨_, rfl, p, C, dx, _, rfl, p4, T.cl, T.nW, Nat.le_of_ble_eq_true rfl, fin 0 (by rw [e4]; rfl)⟩
      · have e3 : decide ((0 : Int) < ((rs.map V.ref).length : Int)) = true := by
          rw [List.length_map]
          exact decide_eq_true (by omega)
        rw [e3]
        obtain ⟨r0, h00⟩ : ∃ r0, rs[0]? = some r0 := ⟨rs[0]'(by omega), List.getElem?_eq_getElem _⟩
        obtain ⟨n0, hn0, hrow0, hlen0⟩ := paired_get hR4 h00
        refine iteT ⟨_, rfl, a, 0, _, .ref r0, rfl, rfl, hA4, atI_nat (j := 0) (by rw [List.getElem?_map, h00]; rfl), r0, _, rfl, sq_or hrow0, _, rfl, p, C, dx, _, rfl, p4, T.cl, T.nW, Nat.le_of_ble_eq_true rfl, fin _ ?_⟩
        cases nss with
        | nil => cases hn0
        | cons x y =>
          cases hn0
          rw [List.length_map]
          rfl
end
/-! ### a row of a table; what its properties are; tables compared with anything -/
abbrev sIsInt : Stmt := top 15
abbrev sRowAt : Stmt := inClass (top 30) 5
abbrev sGetF : Stmt := inClass (top 30) 1
abbrev sGetW : Stmt := inClass (top 30) 2
abbrev sLen : Stmt := inClass (top 30) 3
abbrev sEq : Stmt := inClass (top 30) 4
def inR (x : V) (lo hi : Int) : Bool := match x with | .int i => decide (lo ≤ i) && decide (i ≤ hi) | _ => false
def spIntA : Sp := fun vs H Q _ => ∃ x lo hi, vs = [x, .int lo, .int hi] ∧ Any H x ∧ Q (.bl (inR x lo hi)) H
def spRowAt (C CN : Addr) : Sp := fun vs H Q E => ∃ (p : Addr) (x : V) (f : Int) (nss : List (List Int)), vs = [.ref p, x] ∧ TabAt C H p f nss ∧ Any H x ∧
  (∀ (i : Nat) (ns : List Int), x = .int i → nss[i]? = some ns → ∀ t, H t = some (.tup ((ns.map (tell f)).map V.int)) → Q (.ref t) H) ∧
  (inR x 0 ((nss.length : Int) - 1) = false → ∀ d H', Same H H' → H d = none → H' d = some (.xd [("row", x)]) → E (.ref CN) (some d) H')
def LenIs (C : Addr) : Addr → Hp → Nat → Prop := fun a H n => ∃ f nss, TabAt C H a f nss ∧ nss.length = n
def tellN (f : Int) (nss : List (List Int)) : List (List Int) := nss.map fun ns => ns.map (tell f)
def TupsAt (H : Hp) (ts : List Addr) (nss : List (List Int)) : Prop := Paired (fun t ns => H t = some (.tup (ns.map V.int))) ts nss
theorem ToldAt.tups {H : Hp} {f : Int} : ∀ {ts : List Addr} {nss : List (List Int)}, ToldAt H f ts nss → TupsAt H ts (tellN f nss)
  | _, _, .nil => .nil
  | _, _, .cons h t => .cons h (ToldAt.tups t)
structure RIs (K : PySem.W.Frag) (C : Addr) : Prop where
  cl : Cls K C
  ha : PySem.W.findIn K (.ref C) "__class__" = some (some (.builtin "object.__class__"))
  hn : PySem.W.specialIn K (.builtin "object.__class__") "__get__" = some (some (.builtin "getset_descriptor.__get__"))
  tk : PySem.W.takesIn K (.builtin "object.__class__") = some true
  hm : PySem.W.mroIn K C (.type "object") = some true
theorem RIs.ty {K : PySem.W.Frag} {C a dx : Addr} {H : Hp} {fs : List (Str × V)} (R : RIs K C) (h : H a = some (.ins C dx fs)) : TyX K H (.ref a) (.ref C) := .base (.ins h R.cl R.ha R.hn R.tk R.hm)
/-- the answer of a == y -/
def EqA (C : Addr) (a : Addr) (y : V) (H : Hp) (r : Bool) : Prop := ∃ b f nss, y = .ref b ∧ TabAt C H a f nss ∧ ((∃ g mss, TabAt C H b g mss ∧ r = (decide (f = g) && decide (tellN f nss = tellN g mss))) ∨ ((∃ ys, H b = some (.lst ys)) ∧ r = false))
section
variable {P : Program} {w : World} {K : PySem.W.Frag} {mg : Str → Option Value} {base : Heap}
theorem scII : FnScope ["value", "low", "high"] ["value", "low", "high"] (defScope sIsInt) := ⟨rfl, rfl, rfl, by decide +kernel, rfl, by decide +kernel, by decide +kernel⟩
theorem ok_intA {f fW : Addr} {fd fdW : FuncData} (F : Fun K "is_integer" "is_integer" sIsInt f fd) (GW : FnOk P w K mg base CX0 1 fW fdW ["value"] spWholeA) (kW : PySem.W.keepIn K (.ref fW) = true) (bW : Binds K fdW ["value"] []) (gW : mg "is_whole" = some (.ref fW)) :
    FnOk P w K mg base CX0 2 f fd ["value", "low", "high"] spIntA := by
  refine F.ok scII (fun vs H Q E h => ?_) (fun cdv A outer s H vs Q E hr h => ?_)
  · obtain ⟨x, lo, hi, rfl, _⟩ := h
    rfl
  · obtain ⟨x, lo, hi, rfl, hx, k⟩ := h
    refine ⟨_, pss_one (ps_ret (pe_and (pe_call GW hr rfl gW kW bW .nil pass0 (pa_cons (pv 0) pa_nil)) (pe_one (pe_chain op_le op_le (pv 1) (pv 0) (pv 2))))), ?_⟩
    refine ⟨_, rfl, x, rfl, hx, Wh x, rfl, ?_⟩
    cases x with
    | int i =>
      refine iteT ⟨_, rfl, _, rfl, _, _, rfl, rfl, _, rfl, ?_⟩
      have k : Q (.bl (decide (lo ≤ i) && decide (i ≤ hi))) H := k
      by_cases c : lo ≤ i
      · rw [decide_eq_true c] at k ⊢
        rw [Bool.true_and] at k
        exact iteT ⟨_, rfl, _, _, rfl, rfl, k⟩
      · rw [decide_eq_false c] at k ⊢
        exact iteF k
    | _ => exact iteF k
theorem scRA : FnScope ["self", "row"] ["self", "row"] (defScope sRowAt) := ⟨rfl, rfl, rfl, by decide +kernel, rfl, by decide +kernel, by decide +kernel⟩
theorem ok_rowat {f fI C CN fN : Addr} {fd fdI fdN : FuncData} (F : Fun K "row_at" "Rows.row_at" sRowAt f fd) (N : Nm mg) (T : RTxt K mg C) (MN : Made K P mg "NoRow" "row" CN fN fdN)
    (GI : FnOk P w K mg base CX0 2 fI fdI ["value", "low", "high"] spIntA) (kI : PySem.W.keepIn K (.ref fI) = true) (bI : Binds K fdI ["value", "low", "high"] []) (gI : mg "is_integer" = some (.ref fI)) : FnOk P w K mg base (L2.CX P w) 3 f fd ["self", "row"] (spRowAt C CN) := by
  refine F.okX scRA (fun vs H Q E h => ?_) (fun cdv A outer s H vs Q E hr h => ?_)
  · obtain ⟨p, x, fl, nss, rfl, _⟩ := h
    rfl
  · obtain ⟨p, x, fl, nss, rfl, ⟨dx, t, ts, hA, hT, hts⟩, hx, kY, kE⟩ := h
    have hr1 : Room 1 _ := hr.mono (by decide)
    refine ⟨_, pss_cons (ps_if (pt_not (pt_val (pe_call GI hr rfl gI kI bI .nil pass0 (pa_cons (pv 1) (pa_cons pe_int (pa_cons (pe_op op_sub (pe_callB lenT (by rfl) N.len PySem.boot_len (pa_cons (pe_fld (pv 0) rfl) pa_nil)) pe_int) pa_nil)))))) (pss_one (ps_raiseM MN hr1 rfl (takes_of rfl rfl rfl rfl) (by rfl) (pv 1))) pss_nil)
      (pss_one (ps_ret (pe_ix ixT (pe_fld (pv 0) rfl) (pv 1) (fun _ _ => rfl)))), ?_⟩
    have tl : ts.length = nss.length := Paired.length hts
    refine ⟨_, rfl, _, rfl, p, C, dx, _, _, rfl, hA, T.cl, T.nR, rfl, t, _, rfl, hT, _, _, rfl, rfl, x, 0, ((ts.map V.ref).length : Int) - 1, rfl, hx, inR x 0 (((ts.map V.ref).length : Int) - 1), rfl, ?_⟩
    rw [List.length_map, tl]
    cases hin : inR x 0 ((nss.length : Int) - 1) with
    | false => exact iteT ⟨_, rfl, raise_in MN.of fun d hd => kE hin d _ (same_upd hd) hd upd_same⟩
    | true =>
      refine iteF ?_
      obtain ⟨i, rfl⟩ : ∃ i, x = .int i := by
        cases x with
        | int i => exact ⟨i, rfl⟩
        | _ => cases hin
      have hin : (decide (0 ≤ i) && decide (i ≤ (nss.length : Int) - 1)) = true := hin
      rw [Bool.and_eq_true] at hin
      have h1 := of_decide_eq_true hin.1
      have h2 := of_decide_eq_true hin.2
      obtain ⟨n, rfl⟩ : ∃ n : Nat, i = n := ⟨i.toNat, by omega⟩
      have hn : n < ts.length := by omega
      have ht0 : ts[n]? = some ts[n] := List.getElem?_eq_getElem hn
      obtain ⟨ns, hns, htu⟩ := paired_get hts ht0
      exact ⟨_, rfl, p, C, dx, _, _, rfl, hA, T.cl, T.nR, rfl, _, rfl, t, (n : Int), _, _, rfl, rfl, hT, atI_nat (j := n) (by rw [List.getElem?_map, ht0]; rfl), kY n ns rfl hns _ htu⟩
theorem scLen : FnScope ["self"] ["self"] (defScope sLen) := ⟨rfl, rfl, rfl, by decide +kernel, rfl, by decide +kernel, by decide +kernel⟩
theorem ok_len {f C : Addr} {fd : FuncData} (F : Fun K "__len__" "Rows.__len__" sLen f fd) (N : Nm mg) (T : RTxt K mg C) : FnOk P w K mg base CX0 1 f fd ["self"] (spLen (LenIs C)) := by
  refine F.ok scLen (fun vs H Q E h => ?_) (fun cdv A outer s H vs Q E hr h => ?_)
  · obtain ⟨a, n, rfl, _⟩ := h
    rfl
  · obtain ⟨a, n, rfl, ⟨fl, nss, ⟨dx, t, ts, hA, hT, hts⟩, rfl⟩, k⟩ := h
    refine ⟨_, pss_one (ps_ret (pe_callB lenT (by rfl) N.len PySem.boot_len (pa_cons (pe_fld (pv 0) rfl) pa_nil))), ?_⟩
    refine ⟨_, rfl, a, C, dx, _, _, rfl, hA, T.cl, T.nR, rfl, t, _, rfl, hT, ?_⟩
    rw [List.length_map, Paired.length hts]
    exact k H same_refl
theorem scGF : FnScope ["self"] ["self"] (defScope sGetF) := ⟨rfl, rfl, rfl, by decide +kernel, rfl, by decide +kernel, by decide +kernel⟩
theorem scGW : FnScope ["self"] ["self"] (defScope sGetW) := ⟨rfl, rfl, rfl, by decide +kernel, rfl, by decide +kernel, by decide +kernel⟩
theorem ok_getF {f C : Addr} {fd : FuncData} (F : Fun K "field" "Rows.field" sGetF f fd) (T : RTxt K mg C) : FnOk P w K mg base CX0 1 f fd ["self"] (getSp C "_field") := by
  refine F.ok scGF (fun vs H Q E h => ?_) (fun cdv A outer s H vs Q E hr h => ?_)
  · obtain ⟨a, dx, fs, v, rfl, _⟩ := h
    rfl
  · obtain ⟨a, dx, fs, v, rfl, ha, hl, k⟩ := h
    exact ⟨_, pss_one (ps_ret (pe_fld (pv 0) rfl)), _, rfl, a, C, dx, fs, v, rfl, ha, T.cl, T.nF, hl, k⟩
theorem ok_getW {f C : Addr} {fd : FuncData} (F : Fun K "width" "Rows.width" sGetW f fd) (T : RTxt K mg C) : FnOk P w K mg base CX0 1 f fd ["self"] (getSp C "_width") := by
  refine F.ok scGW (fun vs H Q E h => ?_) (fun cdv A outer s H vs Q E hr h => ?_)
  · obtain ⟨a, dx, fs, v, rfl, _⟩ := h
    rfl
  · obtain ⟨a, dx, fs, v, rfl, ha, hl, k⟩ := h
    exact ⟨_, pss_one (ps_ret (pe_fld (pv 0) rfl)), _, rfl, a, C, dx, fs, v, rfl, ha, T.cl, T.nW, hl, k⟩
theorem scEq : FnScope ["self", "other"] ["self", "other"] (defScope sEq) := ⟨rfl, rfl, rfl, by decide +kernel, rfl, by decide +kernel, by decide +kernel⟩
theorem ok_eqA {f C : Addr} {fd : FuncData} (F : Fun K "__eq__" "Rows.__eq__" sEq f fd) (N : Nm mg) (T : RTxt K mg C) (R : RIs K C) (nl : PySem.W.kitOne K (.type "list") (.ref C) = some false) : FnOk P w K mg base CX0 1 f fd ["self", "other"] (spEqAny (EqA C)) := by
  refine F.ok scEq (fun vs H Q E h => ?_) (fun cdv A outer s H vs Q E hr h => ?_)
  · obtain ⟨a, y, r, rfl, _⟩ := h
    rfl
  · obtain ⟨a, y, r, rfl, ⟨b, fl, nss, rfl, ⟨dx, t, ts, hA, hT, hts⟩, hy⟩, k⟩ := h
    refine ⟨_, pss_one (ps_ret (pe_and (pe_callB call_isi (by rfl) N.isin (by decide +kernel) (pa_cons (pv 1) (pa_cons (pe_glob (v := V.ref C) (by rfl) T.mgC rfl) pa_nil)))
      (pe_and (pe_cmpR op_eq (pe_fld (pv 0) rfl) (pe_fld (pv 1) rfl) (nomark _)) (pe_one (pe_cmpR (op_eqD hr.units) (pe_fld (pv 0) rfl) (pe_fld (pv 1) rfl) (nomark _)))))), ?_⟩
    rcases hy with ⟨g, mss, ⟨dy, u, us, hB, hU, hus⟩, rfl⟩ | ⟨⟨ys, hB⟩, rfl⟩
    · refine ⟨_, rfl, _, _, _, _, true, rfl, .own C, R.ty hB, kitOne_same, true, rfl, iteT ?_⟩
      refine ⟨_, rfl, a, C, dx, _, _, rfl, hA, T.cl, T.nF, rfl, _, rfl, b, C, dy, _, _, rfl, hB, T.cl, T.nF, rfl, rfl, _, rfl, ?_⟩
      by_cases e : fl = g
      · rw [decide_eq_true (congrArg V.int e)]
        refine iteT ⟨_, rfl, a, C, dx, _, _, rfl, hA, T.cl, T.nR, rfl, _, rfl, b, C, dy, _, _, rfl, hB, T.cl, T.nR, rfl, tabD (tellN fl nss), tabD (tellN g mss), dp_tab hT hts.tups, dp_tab hU hus.tups, shaped_tab _, shaped_tab _, ?_⟩
        rw [eqv_tab]
        have q := k H same_refl
        rw [decide_eq_true e, Bool.true_and] at q
        exact q
      · rw [decide_eq_false fun h => e (V.int.inj h)]
        have q := k H same_refl
        rw [decide_eq_false e, Bool.false_and] at q
        exact iteF q
    · exact ⟨_, rfl, _, _, _, _, false, rfl, .own C, .base (.lst hB), nl, false, rfl, iteF (k H same_refl)⟩
end
/-! ### the gauge of a free lot -/
abbrev sGInit : Stmt := inClass (top 24) 0
abbrev sGMany : Stmt := inClass (top 24) 1
abbrev sGShares : Stmt := inClass (top 24) 3
abbrev sGLacking : Stmt := inClass (top 24) 4
abbrev sGTake : Stmt := inClass (top 24) 5
abbrev sGTurned : Stmt := inClass (top 24) 6
abbrev sGMakers : Stmt := inClass (top 24) 7
structure NmG (mg : Str → Option Value) : Prop extends Nm mg where
  sum : mg "sum" = none
  zip : mg "zip" = none
structure GState where
  s : Int
  cols : List (List Int)
  held : List (Option Int)
def optV : Option Int → V
  | none => .non
  | some i => .int i
def gf (s f : Int) (c h : Addr) : List (Str × V) := [("scale", .int s), ("_prime", .int f), ("_columns", .ref c), ("_held", .ref h)]
structure GTxt (K : PySem.W.Frag) (mg : Str → Option Value) (C : Addr) : Prop where
  cl : Cls K C
  nS : NoAttr K C "scale"
  nP : NoAttr K C "_prime"
  nC : NoAttr K C "_columns"
  nH : NoAttr K C "_held"
  mgC : mg "Gauge" = some (.ref C)
def ColsAt (H : Hp) (cs : List Addr) (cols : List (List Int)) : Prop := Paired (fun a ns => H a = some (.lst (ns.map V.int))) cs cols
theorem ColsAt.keep {H H' : Hp} : ∀ {cs : List Addr} {cols : List (List Int)}, ColsAt H cs cols → (∀ a ∈ cs, ∀ u, H a = some u → H' a = some u) → ColsAt H' cs cols
  | _, _, .nil, _ => .nil
  | _, _, .cons h t, s => .cons (s _ (.head _) _ h) (ColsAt.keep t fun x m => s x (.tail _ m))
/-- the gauge at g, its columns at c, what it holds at h -/
def GaugeAt (CG : Addr) (H : Hp) (g c h : Addr) (f : Int) (G : GState) : Prop := ∃ dx cs, H g = some (.ins CG dx (gf G.s f c h)) ∧ H c = some (.lst (cs.map V.ref)) ∧ H h = some (.lst (G.held.map optV)) ∧ ColsAt H cs G.cols ∧ c ≠ h ∧ ∀ a ∈ cs, a ≠ c ∧ a ≠ h
theorem GaugeAt.keep {CG : Addr} {H H' : Hp} {g c h : Addr} {f : Int} {G : GState} (A : GaugeAt CG H g c h f G) (s : Same H H') : GaugeAt CG H' g c h f G := by
  obtain ⟨dx, cs, h1, h2, h3, h4, h5⟩ := A
  exact ⟨dx, cs, s _ _ h1, s _ _ h2, s _ _ h3, h4.keep fun a _ u e => s _ _ e, h5⟩
def Bits (b : Nat) (ns : List Int) : Prop := ∀ n ∈ ns, n.natAbs < 2 ^ b
def dotL (a b : List Int) : Int := (List.zipWith (· * ·) a b).sum
def redf (f x : Int) : Int := if f = 0 then x else x % f
def sharesL (f : Int) (cols : List (List Int)) (ns : List Int) : List Int := cols.map fun c => redf f (dotL ns c)
/-- w columns of w numbers, none of b digits or more -/
structure GShape (f : Int) (w b : Nat) (G : GState) : Prop where
  cl : G.cols.length = w
  rl : ∀ c ∈ G.cols, c.length = w
  hl : G.held.length = w
  cb : ∀ c ∈ G.cols, Bits b c
  sb : G.s.natAbs < 2 ^ b
  w12 : w ≤ 12
theorem ints_snd {ns : List Int} {k : Nat} {x : V} (h : (ns.map V.int)[k]? = some x) : ∃ i, x = .int i ∧ ns[k]? = some i := int_at h
theorem cols_at {H : Hp} {cs : List Addr} {cols : List (List Int)} (h : ColsAt H cs cols) {j : Nat} {x : V} (hx : (cs.map V.ref)[j]? = some x) : ∃ a c, x = .ref a ∧ cs[j]? = some a ∧ cols[j]? = some c ∧ H a = some (.lst (c.map V.int)) := by
  obtain ⟨a, rfl, ha⟩ := ref_at hx
  obtain ⟨c, hc, hh⟩ := paired_get h ha
  exact ⟨a, c, rfl, ha, hc, hh⟩
def tDots (K : PySem.W.Frag) : TE := tCB (rSum K) (tCons (tLc (iZipM K (tCons (tVar 1) (tCons (tVar 3) tNil))) (gTup K 2 (gCons (gName 4) (gCons (gName 5) gNil))) tYes (tOp (rI CMulW fun i j => .int (i * j)) (tVar 4) (tVar 5)) [4, 5]) tNil)
def spGShares (CG : Addr) : Sp := fun vs H Q _ => ∃ (g c h t : Addr) (f : Int) (w a b : Nat) (G : GState) (ns : List Int), vs = [.ref g, .ref t] ∧ GaugeAt CG H g c h f G ∧ GShape f w b G ∧ H t = some (.tup (ns.map V.int)) ∧
  ns.length = w ∧ Bits a ns ∧ 0 < a ∧ 0 < b ∧ a + b ≤ 100000 ∧ 0 ≤ f ∧ ∀ H' p, Same H H' → H p = none → H' p = some (.lst ((sharesL f G.cols ns).map V.int)) → Q (.ref p) H'
section
variable {P : Program} {w : World} {K : PySem.W.Frag} {mg : Str → Option Value} {base : Heap}
theorem scGS : FnScope ["self", "numbers", "sums", "column", "one", "two", "share"] ["self", "numbers"] (defScope sGShares) := ⟨rfl, rfl, rfl, by decide +kernel, rfl, by decide +kernel, by decide +kernel⟩
theorem ok_gshares {f CG : Addr} {fd : FuncData} (F : Fun K "_shares" "Gauge._shares" sGShares f fd) (N : NmG mg) (T : GTxt K mg CG) : FnOk P w K mg base CX0 1 f fd ["self", "numbers"] (spGShares CG) := by
  refine F.ok scGS (fun vs H Q E h => ?_) (fun cdv A outer s H vs Q E hr h => ?_)
  · obtain ⟨g, c, h, t, fl, w, a, b, G, ns, rfl, _⟩ := h
    rfl
  · obtain ⟨g, c, h, t, fl, wd, a, b, G, ns, rfl, hG, sG, ht, hn, hb, a0, b0, ab, f0, k⟩ := h
    have nd := scGS.nd
    refine ⟨_, pss_cons (ps_setLc (i := 2) (own := [("column", 3)]) (g := gName 3) (tt := tYes) (te := tDots K) rfl nd rfl rfl (sw_true rfl rfl rfl (by decide +kernel)) (pi_list (pe_fld (pv 0) rfl))
        (blkOk_by (by kernel_rfl)) (fun _ _ _ _ _ => pg_name (i := 3) nd rfl (Or.inl rfl)) (fun _ _ _ _ _ => pts_nil)
        (fun _ _ _ _ _ => by
          refine pe_callB (id := "sum") (cr_sumK (K := K) rfl rfl) (by rfl) N.sum (by decide +kernel) (pa_cons ?_ pa_nil)
          refine pe_lc (own := [("one", 4), ("two", 5)]) (tt := tYes) rfl nd ?_ (blkOk_by (by kernel_rfl)) (fun _ _ _ _ _ => ?_) (fun _ _ _ _ _ => pts_nil) (fun _ _ _ _ _ => ?_)
          · exact pi_zipMK (K := K) rfl (by rfl) N.zip (pa_cons (pv 1) (pa_cons (pv 3) pa_nil))
          · exact pg_tupK (n := 2) (K := K) rfl rfl (pgs_cons (pg_name (i := 4) nd rfl (Or.inl rfl)) (pgs_cons (pg_name (i := 5) nd rfl (Or.inl rfl)) pgs_nil))
          · exact pe_op op_mulW (pv 4) (pv 5)))
      (pss_one (ps_ret (pe_ifExp (pt_truthI (pe_fld (pv 0) rfl) (by intro _; rfl)) (pe_lc (own := [("share", 6)]) (g := gName 6) (tt := tYes) rfl nd (pi_list (pv 2)) (blkOk_by (by kernel_rfl)) (fun _ _ _ _ _ => pg_name (i := 6) nd rfl (Or.inl rfl)) (fun _ _ _ _ _ => pts_nil)
        (fun _ _ _ _ _ => by exact pe_op op_mod (pv 6) (pe_fldK (K := K) rfl (pv 0) rfl))) (pv 2)))), ?_⟩
    obtain ⟨dx, cs, hg, hc, hh, hcs, nch, hap⟩ := hG
    have lcs : cs.length = wd := (Paired.length hcs).trans sG.cl
    have w12 := sG.w12
    refine ⟨_, rfl, g, CG, dx, _, _, rfl, hg, T.cl, T.nC, rfl, c, rfl, ⟨_, SqL.of hc⟩, fun D nD => map_listG ((G.cols.map (dotL ns)).map V.int) (by rw [List.length_map, List.length_map, List.length_map, sG.cl, lcs]) hc nD (by rw [List.length_map]; omega) (fun _ => rfl) ?_ ?_⟩
    · intro j x y H1 hx hy s1 R hR
      obtain ⟨ca, cc, rfl, hca, hcc, hcol⟩ := cols_at hcs hx
      have hyv : y = V.int (dotL ns cc) := by
        rw [List.getElem?_map, List.getElem?_map, hcc] at hy
        exact (Option.some.inj hy).symm
      have lcc : cc.length = wd := sG.rl _ (List.mem_of_getElem? hcc)
      have bcc := sG.cb _ (List.mem_of_getElem? hcc)
      refine ⟨_, rfl, _, rfl, t, ca, _, _, rfl, SqT.of (s1 _ _ ht), SqL.of (s1 _ _ hcol), fun D2 nD2 => map_pair (n := wd) (walk_zipM (by rw [List.length_map, List.length_map]; omega)) ((List.zipWith (· * ·) ns cc).map V.int) (by rw [List.length_map, List.length_zipWith]; omega)
        (fun H' s' => ⟨SqT.of (s' _ _ (s1 _ _ ht)), SqL.of (s' _ _ (s1 _ _ hcol))⟩) nD2 (by omega) (fun _ _ => rfl) ?_ ?_⟩
      · intro k x1 y1 v H2 hx1 hy1 hv s2 R2 hR2
        obtain ⟨i1, rfl, h1⟩ := int_at hx1
        obtain ⟨i2, rfl, h2⟩ := int_at hy1
        have ev : v = V.int (i1 * i2) := by
          rw [List.getElem?_map, List.getElem?_zipWith, h1, h2] at hv
          exact (Option.some.inj hv).symm
        rw [ev] at hR2
        exact ⟨_, rfl, _, rfl, i1, i2, rfl, rfl, wide_mul (hb _ (List.mem_of_getElem? h1)) (bcc _ (List.mem_of_getElem? h2)) a0 b0 (by omega), hR2 _ same_refl⟩
      · intro H2 s2 e2
        rw [hyv] at hR
        exact ⟨D2, _, rfl, SqL.of e2, hR _ s2⟩
    · intro H1 s1 e1
      have hgs : ∀ H', Same H H' → H' g = some (.ins CG dx (gf G.s fl c h)) := fun H' s' => s' _ _ hg
      refine ⟨_, rfl, g, CG, dx, _, _, rfl, s1 _ _ hg, T.cl, T.nP, rfl, fl, rfl, ?_⟩
      by_cases z : fl = 0
      · have e : (fl != 0) = false := by simp [z]
        rw [e]
        refine iteF ⟨_, rfl, k _ _ s1 nD ?_⟩
        rw [e1]
        unfold sharesL redf
        rw [List.map_map, List.map_map, z]
        rfl
      · have e : (fl != 0) = true := by simp [z]
        rw [e]
        refine iteT ⟨_, rfl, D, rfl, ⟨_, SqL.of e1⟩, fun D2 nD2 => map_listG ((sharesL fl G.cols ns).map V.int) (by unfold sharesL; rw [List.length_map, List.length_map, List.length_map, List.length_map]) e1 nD2 (by rw [List.length_map, List.length_map, sG.cl]; omega) (fun _ => rfl) ?_ ?_⟩
        · intro j x y H2 hx hy s2 R hR
          obtain ⟨d, rfl, hd⟩ := int_at hx
          have ey : y = V.int (d % fl) := by
            unfold sharesL at hy
            rw [List.getElem?_map] at hd hy
            rw [List.getElem?_map] at hy
            cases hc2 : G.cols[j]? with
            | none => rw [hc2] at hd; cases hd
            | some cc =>
              rw [hc2] at hd hy
              have e1 := Option.some.inj hd
              have e2 := Option.some.inj hy
              rw [← e2, ← e1]
              show V.int (redf fl _) = _
              unfold redf
              rw [if_neg z]
          rw [ey] at hR
          exact ⟨_, rfl, _, rfl, g, CG, dx, _, _, rfl, s2 _ _ (s1 _ _ hg), T.cl, T.nP, rfl, d, fl, rfl, rfl, by omega, hR _ same_refl⟩
        · intro H2 s2 e2
          exact k _ _ (s1.trans s2) (s1.free nD2) e2
end
/-! ### the first place that lacks; the start; how many -/
def lackFrom : Nat → List Int → List (Option Int) → Option Nat
  | i, s :: ss, h :: hs => if s ≠ 0 ∧ h = none then some i else lackFrom (i + 1) ss hs
  | _, _, _ => none
def lackL (sh : List Int) (held : List (Option Int)) : Option Nat := lackFrom 0 sh held
def natV : Option Nat → V
  | none => .non
  | some k => .int (k : Int)
theorem lackFrom_at {sh : List Int} {held : List (Option Int)} {i : Nat} {s : Int} {o : Option Int} (h1 : sh[i]? = some s) (h2 : held[i]? = some o) :
    lackFrom i (sh.drop i) (held.drop i) = if s ≠ 0 ∧ o = none then some i else lackFrom (i + 1) (sh.drop (i + 1)) (held.drop (i + 1)) := by
  have l1 := (List.getElem?_eq_some_iff.mp h1).1
  have l2 := (List.getElem?_eq_some_iff.mp h2).1
  have e1 : sh.drop i = s :: sh.drop (i + 1) := by
    rw [List.drop_eq_getElem_cons l1]
    rw [List.getElem?_eq_getElem l1] at h1
    cases h1
    rfl
  have e2 : held.drop i = o :: held.drop (i + 1) := by
    rw [List.drop_eq_getElem_cons l2]
    rw [List.getElem?_eq_getElem l2] at h2
    cases h2
    rfl
  rw [e1, e2]
  rfl
def spGLack (CG : Addr) : Sp := fun vs H Q _ => ∃ (g c h l : Addr) (f : Int) (G : GState) (sh : List Int), vs = [.ref g, .ref l] ∧ GaugeAt CG H g c h f G ∧ H l = some (.lst (sh.map V.int)) ∧ sh.length = G.held.length ∧
  ∀ H', Same H H' → Q (natV (lackL sh G.held)) H'
def gStart (w : Nat) : GState := ⟨1, (List.range w).map fun j => (List.range w).map fun k => if k = j then 1 else 0, List.replicate w none⟩
def spGInit (CG : Addr) : Sp := fun vs H Q _ => ∃ (g dx : Addr) (f : Int) (w : Nat), vs = [.ref g, .int (w : Int), .int f] ∧ H g = some (.ins CG dx []) ∧ w ≤ 12 ∧
  ∀ H' c h, But g H H' → H c = none → H h = none → GaugeAt CG H' g c h f (gStart w) → Q .non H'
theorem rep_flat : ∀ n : Nat, (List.replicate n (none : Option Int)).map optV = (List.replicate n [V.non]).flatten
  | 0 => rfl
  | n + 1 => by
    rw [List.replicate_succ, List.replicate_succ, List.flatten_cons, List.map_cons, rep_flat n]
    rfl
def manyL (held : List (Option Int)) : Nat := (held.filterMap id).length
def spGMany (CG : Addr) : Sp := fun vs H Q _ => ∃ (g c h : Addr) (f : Int) (G : GState), vs = [.ref g] ∧ GaugeAt CG H g c h f G ∧ G.held.length ≤ 12 ∧ ∀ H', Same H H' → Q (.int (manyL G.held : Int)) H'
section
variable {P : Program} {w : World} {K : PySem.W.Frag} {mg : Str → Option Value} {base : Heap}
theorem scGL : FnScope ["self", "shares", "place", "share"] ["self", "shares"] (defScope sGLacking) := ⟨rfl, rfl, rfl, by decide +kernel, rfl, by decide +kernel, by decide +kernel⟩
theorem ok_glack {f CG : Addr} {fd : FuncData} (F : Fun K "_lacking" "Gauge._lacking" sGLacking f fd) (N : NmG mg) (T : GTxt K mg CG) : FnOk P w K mg base CX0 1 f fd ["self", "shares"] (spGLack CG) := by
  refine F.ok scGL (fun vs H Q E h => ?_) (fun cdv A outer s H vs Q E hr h => ?_)
  · obtain ⟨g, c, h, l, fl, G, sh, rfl, _⟩ := h
    rfl
  · obtain ⟨g, c, h, l, fl, G, sh, rfl, hG, hl, hn, k⟩ := h
    have nd := scGL.nd
    refine ⟨_, pss_cons (ps_for PassesOwn.never rfl (pi_enum (by rfl) N.enum (pa_cons (pv 1) pa_nil)) (pg_tup rfl (pgs_cons (pg_name (i := 2) nd rfl (.inl rfl)) (pgs_cons (pg_name (i := 3) nd rfl (.inl rfl)) pgs_nil)))
        (pss_one (ps_if (PW.pt (pw_and (pt_cmpR op_ne (pv 3) pe_int (nomark _)) (pw_and1 (pt_cmpR op_isN (pe_ix ixL (pe_fld (pv 0) rfl) (pv 2) (fun _ _ => rfl)) pe_non (nomark _))))) (pss_one (ps_ret (pv 2))) pss_nil)))
      (pss_one (ps_ret pe_non)), ?_⟩
    refine ⟨_, rfl, l, _, rfl, SqL.of hl, for_enum (fun i σ H' => ∃ u v, σ = [some (.ref g), some (.ref l), u, v] ∧ Same H H' ∧ lackFrom i (sh.drop i) (G.held.drop i) = lackL sh G.held) ⟨none, none, rfl, same_refl, rfl⟩ (fun i σ H' _ ⟨_, _, _, sH, _⟩ => SqL.of (sH _ _ hl)) ?_ ?_⟩
    · rintro i x T0 σ H' hx ⟨u, v, rfl, sH, hk⟩ nT
      obtain ⟨s0, rfl, hs⟩ := int_at hx
      have li := (List.getElem?_eq_some_iff.mp hs).1
      have ho : G.held[i]? = some (G.held[i]'(by omega)) := List.getElem?_eq_getElem _
      generalize G.held[i]'(by omega) = o at ho
      have sT := sH.trans (same_upd nT (o := .tup [.int (i : Nat), .int s0]))
      obtain ⟨dx, cs, hg, hc, hh, hcs, nch, hap⟩ := hG.keep sT
      rw [lackFrom_at hs ho] at hk
      refine ⟨T0, [.int (i : Nat), .int s0], rfl, .inl (.inl upd_same), rfl, .int (i : Nat), [.int s0], rfl, .int s0, [], rfl, rfl, ?_⟩
      refine ⟨_, rfl, rfl, _, rfl, ?_⟩
      by_cases z : s0 = 0
      · rw [decide_eq_true (congrArg V.int z)]
        rw [if_neg (fun h => h.1 z)] at hk
        refine iteF (iteF ⟨_, _, rfl, sT, hk⟩)
      · rw [decide_eq_false (fun h => z (V.int.inj h))]
        refine iteT ⟨_, rfl, g, CG, dx, _, _, rfl, hg, T.cl, T.nH, rfl, _, rfl, h, (i : Int), _, optV o, rfl, rfl, hh, atI_nat (j := i) (by rw [List.getElem?_map, ho]; rfl), rfl, _, rfl, ?_⟩
        cases o with
        | none =>
          rw [if_pos ⟨z, rfl⟩] at hk
          refine iteT ⟨_, rfl, ?_⟩
          have q := k _ sT
          rw [← hk] at q
          exact q
        | some r =>
          rw [if_neg (fun h => nomatch h.2)] at hk
          exact iteF ⟨_, _, rfl, sT, hk⟩
    · rintro σ H' ⟨u, v, rfl, sH, hk⟩
      have e : lackFrom (List.map V.int sh).length (sh.drop (List.map V.int sh).length) (G.held.drop (List.map V.int sh).length) = none := by
        rw [List.length_map, List.drop_length]
        rfl
      rw [e] at hk
      have q := k _ sH
      rw [← hk] at q
      exact q
def tUnits : TE := tLc (iRng1 (tCons (tVar 1) tNil)) (gName 4) tYes (tIf (tTest (tOp rEq (tVar 4) (tVar 3))) (tC (.int 1)) (tC (.int 0))) [4]
theorem scGI : FnScope ["self", "width", "field", "place", "at"] ["self", "width", "field"] (defScope sGInit) := ⟨rfl, rfl, rfl, by decide +kernel, rfl, by decide +kernel, by decide +kernel⟩
theorem ok_ginit {f CG : Addr} {fd : FuncData} (F : Fun K "__init__" "Gauge.__init__" sGInit f fd) (N : NmG mg) (T : GTxt K mg CG) : FnOk P w K mg base CX0 1 f fd ["self", "width", "field"] (spGInit CG) := by
  refine F.ok scGI (fun vs H Q E h => ?_) (fun cdv A outer s H vs Q E hr h => ?_)
  · obtain ⟨g, dx, fl, wd, rfl, _⟩ := h
    rfl
  · obtain ⟨g, dx, fl, wd, rfl, hg, w12, k⟩ := h
    have nd := scGI.nd
    refine ⟨_, pss_cons (ps_fld (pv 0) pe_int rfl) (pss_cons (ps_fld (pv 0) (pv 2) rfl)
      (pss_cons (ps_fld (pv 0) (pe_lc (own := [("place", 3)]) (g := gName 3) (tt := tYes) (te := tUnits) rfl nd (pi_range1 (by rfl) N.range (pa_cons (pv 1) pa_nil)) (blkOk_by (by kernel_rfl)) (fun _ _ _ _ _ => pg_name (i := 3) nd rfl (Or.inr rfl)) (fun _ _ _ _ _ => pts_nil)
        (fun _ _ _ _ _ => by
          refine pe_lc (own := [("at", 4)]) (g := gName 4) (tt := tYes) rfl nd ?_ (blkOk_by (by kernel_rfl)) (fun _ _ _ _ _ => ?_) (fun _ _ _ _ _ => pts_nil) (fun _ _ _ _ _ => ?_)
          · exact pi_range1 (by rfl) N.range (pa_cons (pv 1) pa_nil)
          · exact pg_name (i := 4) nd rfl (Or.inl rfl)
          · exact pe_ifExp (pt_cmpR op_eq (pv 4) (pv 3) (nomark _)) pe_int pe_int)) rfl)
      (pss_one (ps_fld (pv 0) (pe_op op_rep (pe_lst (pa_cons pe_non pa_nil)) (pv 1)) rfl)))), ?_⟩
    refine ⟨_, rfl, g, CG, dx, _, rfl, hg, T.cl, T.nS, by decide, ?_⟩
    have e1 : putF "scale" (V.int 1) [] = [(("scale" : Str), V.int 1)] := rfl
    rw [e1]
    generalize hH1 : upd H g (.ins CG dx [(("scale" : Str), V.int 1)]) = H1
    have g1 : H1 g = some (.ins CG dx [(("scale" : Str), V.int 1)]) := by rw [← hH1, upd_same]
    have b1 : But g H H1 := by rw [← hH1]; exact But.upd
    refine ⟨_, rfl, _, rfl, g, CG, dx, _, rfl, g1, T.cl, T.nP, Nat.le_of_ble_eq_true rfl, ?_⟩
    have e2 : putF "_prime" (V.int fl) [(("scale" : Str), V.int 1)] = [(("scale" : Str), V.int 1), (("_prime" : Str), V.int fl)] := rfl
    rw [e2]
    generalize hH2 : upd H1 g (.ins CG dx [(("scale" : Str), V.int 1), (("_prime" : Str), V.int fl)]) = H2
    have g2 : H2 g = some (.ins CG dx [(("scale" : Str), V.int 1), (("_prime" : Str), V.int fl)]) := by rw [← hH2, upd_same]
    have b2 : But g H H2 := by rw [← hH2]; exact b1.trans But.upd
    refine ⟨_, rfl, (wd : Int), rfl, by omega, by omega, fun D nD => comp_rangeI (fun j ys H' => Same H2 H' ∧ ∃ cs : List Addr, ys = cs.map V.ref ∧ ColsAt H' cs ((List.range j).map fun j => (List.range wd).map fun k => if k = j then (1 : Int) else 0) ∧ ∀ a ∈ cs, a ≠ D)
      ⟨same_upd nD, [], rfl, .nil, fun _ h => nomatch h⟩ (by omega) (fun _ => rfl) ?_ ?_⟩
    · rintro j ys H' hj ⟨sH, cs, rfl, hcs, hnD⟩ hD R hR
      refine ⟨_, rfl, (wd : Int), rfl, by omega, by omega, fun D2 nD2 => map_range (lo := 0) (n := wd) (((List.range wd).map fun k => if k = j then (1 : Int) else 0).map V.int) (by rw [List.length_map, List.length_map, List.length_range]) nD2 (by omega) (fun _ => rfl) ?_ ?_⟩
      · intro k y H3 hk hy s3 R3 hR3
        have ey : y = V.int (if k = j then 1 else 0) := by
          rw [List.getElem?_map, List.getElem?_map, List.getElem?_range hk] at hy
          exact (Option.some.inj hy).symm
        rw [ey] at hR3
        refine ⟨_, rfl, _, rfl, scal_int _ _, _, rfl, ?_⟩
        by_cases z : k = j
        · rw [if_pos z] at hR3
          rw [decide_eq_true (by rw [z])]
          exact iteT (hR3 _ same_refl)
        · rw [if_neg z] at hR3
          rw [decide_eq_false (by
            intro e
            have := V.int.inj e
            omega)]
          exact iteF (hR3 _ same_refl)
      · intro H3 s3 e3
        have n2D : D2 ≠ D := fun e => by rw [e, hD] at nD2; cases nD2
        refine hR _ _ (s3 _ _ hD) ⟨same_new nD (sH.trans s3), cs ++ [D2], by rw [List.map_append]; rfl, ?_, ?_⟩
        · rw [List.range_succ, List.map_append]
          refine Paired.snoc (ColsAt.keep hcs fun a ha u e => ?_) (by rw [upd_ne n2D]; exact e3)
          rw [upd_ne (hnD a ha)]
          exact s3 _ _ e
        · intro a ha
          rcases List.mem_append.mp ha with h | h
          · exact hnD a h
          · rw [List.mem_singleton.mp h]
            exact n2D
    · rintro H3 ys ⟨s3, cs, rfl, hcs, hnD⟩ hD _
      refine ⟨_, rfl, g, CG, dx, _, rfl, s3 _ _ g2, T.cl, T.nC, Nat.le_of_ble_eq_true rfl, ?_⟩
      have e3 : putF "_columns" (V.ref D) [(("scale" : Str), V.int 1), (("_prime" : Str), V.int fl)] = [(("scale" : Str), V.int 1), (("_prime" : Str), V.int fl), (("_columns" : Str), V.ref D)] := rfl
      rw [e3]
      have gD : D ≠ g := fun e => by rw [e, g2] at nD; cases nD
      have csg : ∀ a ∈ cs, a ≠ g := by
        intro a ha e
        obtain ⟨c, _, hc⟩ := paired_mem hcs ha
        rw [e, s3 _ _ g2] at hc
        cases hc
      generalize hH4 : upd H3 g (.ins CG dx [(("scale" : Str), V.int 1), (("_prime" : Str), V.int fl), (("_columns" : Str), V.ref D)]) = H4
      have g4 : H4 g = some (.ins CG dx [(("scale" : Str), V.int 1), (("_prime" : Str), V.int fl), (("_columns" : Str), V.ref D)]) := by rw [← hH4, upd_same]
      have b4 : But g H3 H4 := by rw [← hH4]; exact But.upd
      have D4 : H4 D = some (.lst (cs.map V.ref)) := b4 _ _ gD hD
      have hcs4 : ColsAt H4 cs ((List.range wd).map fun j => (List.range wd).map fun k => if k = j then (1 : Int) else 0) := hcs.keep fun a ha u e => b4 _ _ (csg a ha) e
      refine ⟨by show 1 ≤ sizeLine; decide, fun l nl => ⟨_, rfl, l, (wd : Int), [.non], rfl, rfl, upd_same, by omega, by omega, ?_, fun p np => ?_⟩⟩
      · show 1 * (wd : Int).toNat ≤ sizeLine
        have : (12 : Nat) ≤ sizeLine := by decide
        omega
      generalize hH5 : upd (upd H4 l (.lst [.non])) p (.lst (List.replicate (wd : Int).toNat [V.non]).flatten) = H5
      have s5 : Same H4 H5 := by
        rw [← hH5]
        exact (same_upd nl).trans (same_upd np)
      have pH4 : H4 p = none := by
        by_cases e : p = l
        · rw [e]
          exact nl
        · rw [upd_ne e] at np
          exact np
      have p5 : H5 p = some (.lst ((List.replicate wd (none : Option Int)).map optV)) := by
        rw [← hH5, upd_same]
        congr 2
        rw [Int.toNat_natCast]
        exact (rep_flat wd).symm
      have gp : p ≠ g := fun e => by rw [e, g4] at pH4; cases pH4
      refine ⟨_, rfl, g, CG, dx, _, rfl, s5 _ _ g4, T.cl, T.nH, Nat.le_of_ble_eq_true rfl, ?_⟩
      have bb : But g H H5 := ((b2.trans (But.same s3)).trans b4).trans (But.same s5)
      refine k _ D p (bb.trans But.upd) ?_ ?_ ⟨dx, cs, upd_same, by rw [upd_ne gD]; exact s5 _ _ D4, by rw [upd_ne gp]; exact p5, hcs4.keep fun a ha u e => ?_, ?_, ?_⟩
      · exact But.free b2 g2 nD
      · exact But.free ((b2.trans (But.same s3)).trans b4) g4 pH4
      · rw [upd_ne (csg a ha)]
        exact s5 _ _ e
      · intro e
        rw [← e, D4] at pH4
        cases pH4
      · intro a ha
        refine ⟨hnD a ha, fun e => ?_⟩
        obtain ⟨c, _, hc⟩ := paired_mem hcs4 ha
        rw [e, pH4] at hc
        cases hc
theorem scGM : FnScope ["self", "row"] ["self"] (defScope sGMany) := ⟨rfl, rfl, rfl, by decide +kernel, rfl, by decide +kernel, by decide +kernel⟩
theorem held_at {held : List (Option Int)} {j : Nat} {x : V} (h : (held.map optV)[j]? = some x) : ∃ o, x = optV o ∧ held[j]? = some o := by
  rw [List.getElem?_map] at h
  cases e : held[j]? with
  | none => rw [e] at h; cases h
  | some o => rw [e] at h; cases h; exact ⟨o, rfl, rfl⟩
theorem many_gs (held : List (Option Int)) : (held.map fun o => o.map V.int).filterMap id = (held.filterMap id).map V.int := by
  induction held with
  | nil => rfl
  | cons o r ih => cases o with
    | none => exact ih
    | some x =>
      show V.int x :: _ = V.int x :: _
      rw [ih]
theorem ok_gmany {f CG : Addr} {fd : FuncData} (F : Fun K "many" "Gauge.many" sGMany f fd) (N : NmG mg) (T : GTxt K mg CG) : FnOk P w K mg base CX0 1 f fd ["self"] (spGMany CG) := by
  refine F.ok scGM (fun vs H Q E h => ?_) (fun cdv A outer s H vs Q E hr h => ?_)
  · obtain ⟨g, c, h, fl, G, rfl, _⟩ := h
    rfl
  · obtain ⟨g, c, h, fl, G, rfl, ⟨dx, cs, hg, hc, hh, hcs, nch, hap⟩, w12, k⟩ := h
    have nd := scGM.nd
    refine ⟨_, pss_one (ps_ret (pe_callB lenL (by rfl) N.len PySem.boot_len (pa_cons (pe_lc (own := [("row", 1)]) (g := gName 1) rfl nd (pi_list (pe_fld (pv 0) rfl)) (blkOk_by (by kernel_rfl)) (fun _ _ _ _ _ => pg_name (i := 1) nd rfl (Or.inl rfl))
      (fun _ _ _ _ _ => pts_one (pt_cmpR op_notN (pv 1) pe_non (nomark _))) (fun _ _ _ _ _ => pv 1)) pa_nil))), ?_⟩
    refine ⟨_, rfl, g, CG, dx, _, _, rfl, hg, T.cl, T.nH, rfl, h, rfl, ⟨_, SqL.of hh⟩, fun D nD => filt_it walk_list (G.held.map fun o => o.map V.int) (by rw [List.length_map, List.length_map]) (fun H' s' => SqL.of (s' _ _ hh)) nD (by rw [List.length_map]; omega) (fun _ _ _ _ y => y.1) (fun _ => rfl) ?_ ?_⟩
    · intro j x o H1 hx ho s1 Nn R hN hR
      obtain ⟨o1, rfl, h1⟩ := held_at hx.2
      have eo : o = o1.map V.int := by
        rw [List.getElem?_map, h1] at ho
        exact (Option.some.inj ho).symm
      refine ⟨_, rfl, rfl, _, rfl, ?_⟩
      cases o1 with
      | none => exact iteF (hN eo _ same_refl)
      | some r => exact iteT ⟨_, rfl, hR _ eo _ same_refl⟩
    · intro H1 s1 e1
      rw [many_gs] at e1
      refine ⟨D, _, rfl, e1, ?_⟩
      rw [List.length_map]
      exact k _ s1
end
/-! ### a column turned; a row taken -/
def cross (size sh : Int) (col pv : List Int) : List Int := List.zipWith (fun one two => size * one - sh * two) col pv
def TurnR (f s : Int) (col pv : List Int) (sh size : Int) (r : List Int) : Prop :=
  (f = 0 ∧ r = (cross size sh col pv).map fun x => x.fdiv s) ∨ (f ≠ 0 ∧ ∃ i, InvIs f s i ∧ r = (cross size sh col pv).map fun x => x * i % f)
/-- a field and a scale that can divide -/
def FOk (f s : Int) : Prop := (f = 0 ∧ s ≠ 0) ∨ (Lin.Dom f ∧ 1 < f ∧ f < 2 ^ 60 ∧ ¬ f ∣ s)
theorem log_lt {x : Int} {b : Nat} (h : x.natAbs < 2 ^ b) (b0 : 0 < b) : x.natAbs.log2 < b := by
  by_cases z : x.natAbs = 0
  · rw [z]
    exact b0
  · exact (Nat.log2_lt z).mpr h
def spGTurned (CG : Addr) : Sp := fun vs H Q _ => ∃ (g c h p q dx : Addr) (f s sh size : Int) (wd b d : Nat) (col pv : List Int), vs = [.ref g, .ref p, .int sh, .ref q, .int size] ∧ H g = some (.ins CG dx (gf s f c h)) ∧ FOk f s ∧
  H p = some (.lst (col.map V.int)) ∧ H q = some (.lst (pv.map V.int)) ∧ col.length = wd ∧ pv.length = wd ∧ wd ≤ 12 ∧ Bits b col ∧ Bits b pv ∧ sh.natAbs < 2 ^ d ∧ size.natAbs < 2 ^ d ∧ s.natAbs < 2 ^ b ∧ 0 < b ∧ 0 < d ∧ b ≤ 8000 ∧ d ≤ 100000 ∧
  ∀ H' l r, Same H H' → H l = none → H' l = some (.lst (r.map V.int)) → TurnR f s col pv sh size r → Q (.ref l) H'
section
variable {P : Program} {w : World} {K : PySem.W.Frag} {mg : Str → Option Value} {base : Heap}
theorem scGT : FnScope ["self", "column", "share", "pivot", "size", "crossed", "one", "two", "factor", "number"] ["self", "column", "share", "pivot", "size"] (defScope sGTurned) := ⟨rfl, rfl, rfl, by decide +kernel, rfl, by decide +kernel, by decide +kernel⟩
theorem ok_gturned {f CG fI : Addr} {fd fdI : FuncData} (F : Fun K "_turned" "Gauge._turned" sGTurned f fd) (N : NmG mg) (T : GTxt K mg CG)
    (GI : FnOk P w K mg base CX0 1 fI fdI ["number", "prime"] spInv) (kI : PySem.W.keepIn K (.ref fI) = true) (bI : Binds K fdI ["number", "prime"] []) (gI : mg "inverse" = some (.ref fI)) :
    FnOk P w K mg base CX0 2 f fd ["self", "column", "share", "pivot", "size"] (spGTurned CG) := by
  refine F.ok scGT (fun vs H Q E h => ?_) (fun cdv A outer s H vs Q E hr h => ?_)
  · obtain ⟨g, c, h, p, q, dx, fl, s, sh, size, wd, b, d, col, pvt, rfl, _⟩ := h
    rfl
  · obtain ⟨g, c, h, p, q, dx, fl, sc, sh, size, wd, b, d, col, pvt, rfl, hg, fok, hp, hq, lc, lp, w12, bc, bp, shb, szb, scb, b0, d0, b8, d9, k⟩ := h
    have nd := scGT.nd
    refine ⟨_, pss_cons (ps_setLc (i := 5) (own := [("one", 6), ("two", 7)]) (tt := tYes) rfl nd rfl rfl (sw_true rfl rfl rfl (by decide +kernel)) (pi_zip (by rfl) N.zip (pa_cons (pv 1) (pa_cons (pv 3) pa_nil)))
        (blkOk_by (by kernel_rfl)) (fun _ _ _ _ _ => pg_tupK (n := 2) (K := K) rfl rfl (pgs_cons (pg_name (i := 6) nd rfl (Or.inl rfl)) (pgs_cons (pg_name (i := 7) nd rfl (Or.inl rfl)) pgs_nil))) (fun _ _ _ _ _ => pts_nil)
        (fun _ _ _ _ _ => pe_op op_sub (pe_op op_mulW (pv 4) (pv 6)) (pe_op op_mulW (pv 2) (pv 7))))
      (pss_cons (ps_if (pt_truthI (pe_fld (pv 0) rfl) (by intro _; rfl))
        (pss_cons (ps_set (i := 8) nd rfl (.inr rfl) (pe_call GI hr rfl gI kI bI .nil pass0 (pa_cons (pe_fld (pv 0) rfl) (pa_cons (pe_fld (pv 0) rfl) pa_nil))))
          (pss_one (ps_ret (pe_lc (own := [("number", 9)]) (g := gName 9) (tt := tYes) rfl nd (pi_list (pv 5)) (blkOk_by (by kernel_rfl)) (fun _ _ _ _ _ => pg_name (i := 9) nd rfl (Or.inl rfl)) (fun _ _ _ _ _ => pts_nil)
            (fun _ _ _ _ _ => by exact pe_op op_mod (pe_op op_mul (pv 9) (pv 8)) (pe_fldK (K := K) rfl (pv 0) rfl)))))) pss_nil)
      (pss_one (ps_ret (pe_lc (own := [("number", 9)]) (g := gName 9) (tt := tYes) rfl nd (pi_list (pv 5)) (blkOk_by (by kernel_rfl)) (fun _ _ _ _ _ => pg_name (i := 9) nd rfl (Or.inl rfl)) (fun _ _ _ _ _ => pts_nil)
            (fun _ _ _ _ _ => by exact pe_op op_fdivNW (pv 9) (pe_fldK (K := K) rfl (pv 0) rfl)))))), ?_⟩
    have dl : ∀ {x y : Int}, x.natAbs < 2 ^ d → y.natAbs < 2 ^ b → CMulW x y := fun hx hy => wide_mul hx hy d0 b0 (by omega)
    refine ⟨_, rfl, _, rfl, p, q, _, _, rfl, SqL.of hp, SqL.of hq, fun D nD => map_pair (n := wd) (walk_zip (by rw [List.length_map, List.length_map]; omega)) ((cross size sh col pvt).map V.int) (by unfold cross; rw [List.length_map, List.length_zipWith]; omega)
      (fun H' s' => ⟨SqL.of (s' _ _ hp), SqL.of (s' _ _ hq)⟩) nD (by omega) (fun _ _ => rfl) ?_ ?_⟩
    · intro k1 x1 y1 v H2 hx1 hy1 hv s2 R2 hR2
      obtain ⟨i1, rfl, h1⟩ := int_at hx1
      obtain ⟨i2, rfl, h2⟩ := int_at hy1
      have ev : v = V.int (size * i1 - sh * i2) := by
        unfold cross at hv
        rw [List.getElem?_map, List.getElem?_zipWith, h1, h2] at hv
        exact (Option.some.inj hv).symm
      rw [ev] at hR2
      exact ⟨_, rfl, _, rfl, size, i1, rfl, rfl, dl szb (bc _ (List.mem_of_getElem? h1)), _, rfl, _, rfl, sh, i2, rfl, rfl, dl shb (bp _ (List.mem_of_getElem? h2)), _, _, rfl, rfl, hR2 _ same_refl⟩
    · intro H1 s1 e1
      have lx : (cross size sh col pvt).length = wd := by unfold cross; rw [List.length_zipWith]; omega
      refine ⟨_, rfl, g, CG, dx, _, _, rfl, s1 _ _ hg, T.cl, T.nP, rfl, fl, rfl, ?_⟩
      rcases fok with ⟨z, sn⟩ | ⟨Dm, f1, f2, fs⟩
      · have e : (fl != 0) = false := by simp [z]
        rw [e]
        refine iteF ⟨_, rfl, D, rfl, ⟨_, SqL.of e1⟩, fun D2 nD2 => map_listG (((cross size sh col pvt).map fun x => x.fdiv sc).map V.int) (by rw [List.length_map, List.length_map, List.length_map]) e1 nD2 (by rw [List.length_map]; omega) (fun _ => rfl) ?_ ?_⟩
        · intro j x y H2 hx hy s2 R hR
          obtain ⟨x0, rfl, hx0⟩ := int_at hx
          have ey : y = V.int (x0.fdiv sc) := by
            rw [List.getElem?_map, List.getElem?_map, hx0] at hy
            exact (Option.some.inj hy).symm
          rw [ey] at hR
          exact ⟨_, rfl, _, rfl, g, CG, dx, _, _, rfl, s2 _ _ (s1 _ _ hg), T.cl, T.nS, rfl, x0, sc, rfl, rfl, ⟨sn, Nat.lt_of_lt_of_le (log_lt scb b0) (by omega)⟩, hR _ same_refl⟩
        · intro H2 s2 e2
          exact k _ _ _ (s1.trans s2) (s1.free nD2) e2 (.inl ⟨z, rfl⟩)
      · have z : fl ≠ 0 := by omega
        have e : (fl != 0) = true := by simp [z]
        rw [e]
        refine iteT ⟨_, rfl, g, CG, dx, _, _, rfl, s1 _ _ hg, T.cl, T.nS, rfl, _, rfl, g, CG, dx, _, _, rfl, s1 _ _ hg, T.cl, T.nP, rfl, sc, fl, rfl, Dm, f1, f2, fs, fun i H2 hi s2 => ?_⟩
        have s12 := s1.trans s2
        refine ⟨_, rfl, D, rfl, ⟨_, SqL.of (s2 _ _ e1)⟩, fun D2 nD2 => map_listG (((cross size sh col pvt).map fun x => x * i % fl).map V.int) (by rw [List.length_map, List.length_map, List.length_map]) (s2 _ _ e1) nD2 (by rw [List.length_map]; omega) (fun _ => rfl) ?_ ?_⟩
        · intro j x y H3 hx hy s3 R hR
          obtain ⟨x0, rfl, hx0⟩ := int_at hx
          have ey : y = V.int (x0 * i % fl) := by
            rw [List.getElem?_map, List.getElem?_map, hx0] at hy
            exact (Option.some.inj hy).symm
          rw [ey] at hR
          have h0 := hi.1
          have h1 := hi.2.1
          exact ⟨_, rfl, _, rfl, x0, i, rfl, rfl, .inr ⟨by omega, by omega⟩, _, rfl, g, CG, dx, _, _, rfl, s3 _ _ (s12 _ _ hg), T.cl, T.nP, rfl, _, fl, rfl, rfl, by omega, hR _ same_refl⟩
        · intro H3 s3 e3
          exact k _ _ _ (s12.trans s3) (s12.free nD2) e3 (.inr ⟨z, i, hi, rfl⟩)
end
/-! ### a row taken -/
def But3 (g c h : Addr) (H H' : Hp) : Prop := ∀ b u, b ≠ g → b ≠ c → b ≠ h → H b = some u → H' b = some u
theorem But3.trans {g c h : Addr} {H H1 H2 : Hp} (a : But3 g c h H H1) (b : But3 g c h H1 H2) : But3 g c h H H2 := fun x u n1 n2 n3 e => b x u n1 n2 n3 (a x u n1 n2 n3 e)
theorem But3.same {g c h : Addr} {H H1 : Hp} (s : Same H H1) : But3 g c h H H1 := fun x u _ _ _ e => s x u e
def TakeR (f : Int) (G : GState) (ns : List Int) (q : Nat) (row : Int) (G' : GState) : Prop :=
  (sharesL f G.cols ns)[q]? = some G'.s ∧ G'.held = G.held.set q (some row) ∧ G'.cols.length = G.cols.length ∧ G'.cols[q]? = G.cols[q]? ∧
  ∀ j, j < G.cols.length → j ≠ q → ∃ r, G'.cols[j]? = some r ∧ TurnR f G.s (G.cols.getD j []) (G.cols.getD q []) ((sharesL f G.cols ns).getD j 0) ((sharesL f G.cols ns).getD q 0) r
def spGTake (CG : Addr) : Sp := fun vs H Q _ => ∃ (g c h t : Addr) (f row : Int) (wd a b : Nat) (G : GState) (ns : List Int), vs = [.ref g, .int row, .ref t] ∧ GaugeAt CG H g c h f G ∧ GShape f wd b G ∧ FOk f G.s ∧ H t = some (.tup (ns.map V.int)) ∧
  ns.length = wd ∧ Bits a ns ∧ 0 < a ∧ 0 < b ∧ a ≤ 8000 ∧ b ≤ 8000 ∧ 0 ≤ f ∧ f < 2 ^ 60 ∧ t ≠ g ∧ t ≠ c ∧ t ≠ h ∧
  (lackL (sharesL f G.cols ns) G.held = none → ∀ H', Same H H' → Q (.bl false) H') ∧
  (∀ q, lackL (sharesL f G.cols ns) G.held = some q → ∀ H' G', But3 g c h H H' → GaugeAt CG H' g c h f G' → TakeR f G ns q row G' → Q (.bl true) H')
theorem lackFrom_lt : ∀ {sh : List Int} {held : List (Option Int)} {i q : Nat}, lackFrom i sh held = some q → i ≤ q ∧ q < i + sh.length ∧ q < i + held.length ∧ sh.getD (q - i) 0 ≠ 0 ∧ held[q - i]? = some none
  | [], _, _, _, h => by
    unfold lackFrom at h
    cases h
  | _ :: _, [], _, _, h => by
    unfold lackFrom at h
    cases h
  | s :: ss, o :: hs, i, q, h => by
    unfold lackFrom at h
    by_cases z : s ≠ 0 ∧ o = none
    · rw [if_pos z] at h
      cases h
      refine ⟨Nat.le_refl _, by simp, by simp, ?_, ?_⟩
      · rw [Nat.sub_self]
        exact z.1
      · rw [Nat.sub_self, z.2]
        rfl
    · rw [if_neg z] at h
      obtain ⟨h1, h2, h3, h4, h5⟩ := lackFrom_lt h
      have e : q - i = (q - (i + 1)) + 1 := by omega
      refine ⟨by omega, by rw [List.length_cons]; omega, by rw [List.length_cons]; omega, ?_, ?_⟩
      · rw [e]
        exact h4
      · rw [e]
        exact h5
theorem natAbs_sum {a : Nat} : ∀ {xs : List Int}, (∀ x ∈ xs, x.natAbs ≤ a) → xs.sum.natAbs ≤ xs.length * a
  | [], _ => Nat.zero_le _
  | x :: r, h => by
    have h1 := natAbs_sum (xs := r) fun y m => h y (.tail _ m)
    have h2 := h x (.head _)
    have h3 := Int.natAbs_add_le x r.sum
    rw [List.sum_cons, List.length_cons, Nat.succ_mul]
    omega
theorem dot_bits {a b wd : Nat} {ns cc : List Int} (ha : Bits a ns) (hb : Bits b cc) (w12 : wd ≤ 12) (l1 : ns.length = wd) : (dotL ns cc).natAbs < 2 ^ (a + b + 4) := by
  have h1 : ∀ x ∈ List.zipWith (· * ·) ns cc, x.natAbs ≤ 2 ^ (a + b) := by
    intro x hx
    obtain ⟨i, hi⟩ := List.mem_iff_getElem?.mp hx
    rw [List.getElem?_zipWith] at hi
    cases e1 : ns[i]? with
    | none => rw [e1] at hi; cases hi
    | some n => cases e2 : cc[i]? with
      | none => rw [e1, e2] at hi; cases hi
      | some c =>
        rw [e1, e2] at hi
        cases hi
        rw [Int.natAbs_mul, Nat.pow_add]
        exact Nat.mul_le_mul (Nat.le_of_lt (ha _ (List.mem_of_getElem? e1))) (Nat.le_of_lt (hb _ (List.mem_of_getElem? e2)))
  have h2 := natAbs_sum h1
  have h3 : (List.zipWith (· * ·) ns cc).length ≤ 12 := by
    rw [List.length_zipWith]
    omega
  have h4 : (List.zipWith (· * ·) ns cc).length * 2 ^ (a + b) ≤ 12 * 2 ^ (a + b) := Nat.mul_le_mul_right _ h3
  have pos : 0 < 2 ^ (a + b) := Nat.pow_pos (by decide)
  have e : 2 ^ (a + b + 4) = 2 ^ (a + b) * 16 := by
    rw [Nat.pow_add]
  unfold dotL
  rw [e]
  omega
theorem redf_le {f x : Int} (f0 : 0 ≤ f) {n : Nat} (hx : x.natAbs < 2 ^ n) (hf : f < 2 ^ 60) (hn : 60 ≤ n) : (redf f x).natAbs < 2 ^ n := by
  unfold redf
  by_cases z : f = 0
  · rw [if_pos z]
    exact hx
  · rw [if_neg z]
    have h1 := Int.emod_nonneg x z
    have h2 := Int.emod_lt_of_pos x (show 0 < f by omega)
    exact Nat.lt_of_lt_of_le (show (x % f).natAbs < 2 ^ 60 by omega) (Nat.pow_le_pow_right (by decide) hn)
theorem ixN_nat {n i : Nat} (h : i < n) : ixN n (i : Int) = some i := by
  unfold ixN
  simp
  omega
theorem paired_set {α β : Type} {R : α → β → Prop} : ∀ {xs : List α} {ys : List β} {i : Nat} {x : α} {y : β}, Paired R xs ys → R x y → Paired R (xs.set i x) (ys.set i y)
  | _, _, _, _, _, .nil, _ => .nil
  | _, _, 0, _, _, .cons _ t, r => .cons r t
  | _, _, i + 1, _, _, .cons h t, r => .cons h (paired_set t r)
section
variable {P : Program} {w : World} {K : PySem.W.Frag} {mg : Str → Option Value} {base : Heap}
theorem scGTk : FnScope ["self", "row", "numbers", "shares", "place", "pivot", "at", "share"] ["self", "row", "numbers"] (defScope sGTake) := ⟨rfl, rfl, rfl, by decide +kernel, rfl, by decide +kernel, by decide +kernel⟩
theorem ok_gtake {f CG fS fL fT : Addr} {fd fdS fdL fdT : FuncData} (F : Fun K "take" "Gauge.take" sGTake f fd) (N : NmG mg) (T : GTxt K mg CG)
    (GS : FnOk P w K mg base CX0 1 fS fdS ["self", "numbers"] (spGShares CG)) (mS : Meth K CG "_shares" fS) (bS : Binds K fdS ["self", "numbers"] [])
    (GL : FnOk P w K mg base CX0 1 fL fdL ["self", "shares"] (spGLack CG)) (mL : Meth K CG "_lacking" fL) (bL : Binds K fdL ["self", "shares"] [])
    (GT : FnOk P w K mg base CX0 2 fT fdT ["self", "column", "share", "pivot", "size"] (spGTurned CG)) (mT : Meth K CG "_turned" fT) (bT : Binds K fdT ["self", "column", "share", "pivot", "size"] []) :
    FnOk P w K mg base CX0 3 f fd ["self", "row", "numbers"] (spGTake CG) := by
  refine F.ok scGTk (fun vs H Q E h => ?_) (fun cdv A outer s H vs Q E hr h => ?_)
  · obtain ⟨g, c, h, t, fl, row, wd, a, b, G, ns, rfl, _⟩ := h
    rfl
  · obtain ⟨g, c, h, t, fl, row, wd, a, b, G, ns, rfl, hG, sG, fok, ht, hn, hb, a0, b0, a8, b8, f0, f60, tg, tc, th, kN, kY⟩ := h
    have nd := scGTk.nd
    have hr1 : Room 1 _ := hr.mono (by decide)
    refine ⟨_, pss_cons (ps_set (i := 3) nd rfl (.inl rfl) (pe_meth (pv 0) T.cl mS GS hr1 bS .nil pass0 (pa_cons (pv 2) pa_nil)))
      (pss_cons (ps_set (i := 4) nd rfl (.inl rfl) (pe_meth (pv 0) T.cl mL GL hr1 bL .nil pass0 (pa_cons (pv 3) pa_nil)))
      (pss_cons (ps_if (pt_cmpR op_isN (pv 4) pe_non (nomark _)) (pss_one (ps_ret pe_bl)) pss_nil)
      (pss_cons (ps_set (i := 5) nd rfl (.inl rfl) (pe_ix ixL (pe_fld (pv 0) rfl) (pv 4) (fun _ _ => rfl)))
      (pss_cons (ps_for PassesOwn.never rfl (pi_enum (by rfl) N.enum (pa_cons (pv 3) pa_nil)) (pg_tup rfl (pgs_cons (pg_name (i := 6) nd rfl (.inl rfl)) (pgs_cons (pg_name (i := 7) nd rfl (.inl rfl)) pgs_nil)))
        (pss_one (ps_if (pt_cmpR op_ne (pv 6) (pv 4) (nomark _)) (pss_one (ps_asg (pe_meth (pv 0) T.cl mT GT hr bT .nil pass0 (pa_cons (pe_ix ixL (pe_fld (pv 0) rfl) (pv 6) (fun _ _ => rfl)) (pa_cons (pv 7) (pa_cons (pv 5) (pa_cons (pe_ix ixL (pv 3) (pv 4) (fun _ _ => rfl)) pa_nil)))))
          (pg_sub (pe_fld (pv 0) rfl) (pv 6) set_list))) pss_nil)))
      (pss_cons (ps_fld (pv 0) (pe_ix ixL (pv 3) (pv 4) (fun _ _ => rfl)) rfl)
      (pss_cons (ps_asg (pv 1) (pg_sub (pe_fld (pv 0) rfl) (pv 4) set_list))
      (pss_one (ps_ret pe_bl)))))))), ?_⟩
    have hG0 := hG
    obtain ⟨dx, cs, hg, hc, hh, hcs, nch, hap⟩ := hG
    refine ⟨_, rfl, g, dx, _, rfl, hg, rfl, _, rfl, g, c, h, t, fl, wd, a, b, G, ns, rfl, hG0, sG, ht, hn, hb, a0, b0, by omega, f0, fun H1 l s1 nl hl => ?_⟩
    refine ⟨_, rfl, g, dx, _, rfl, s1 _ _ hg, rfl, _, rfl, g, c, h, l, fl, G, sharesL fl G.cols ns, rfl, hG0.keep s1, hl, by unfold sharesL; rw [List.length_map, sG.cl, sG.hl], fun H2 s2 => ?_⟩
    have s12 := s1.trans s2
    generalize hsh : sharesL fl G.cols ns = sh at *
    have lsh : sh.length = wd := by rw [← hsh]; unfold sharesL; rw [List.length_map, sG.cl]
    cases hq : lackL sh G.held with
    | none => exact ⟨_, rfl, rfl, _, rfl, iteT (kN hq _ s12)⟩
    | some q =>
      obtain ⟨_, q1, q2, q3, q4⟩ := lackFrom_lt hq
      rw [Nat.zero_add] at q1 q2
      rw [Nat.sub_zero] at q3 q4
      refine ⟨_, rfl, rfl, _, rfl, iteF ?_⟩
      have qcs : cs[q]? = some (cs[q]'(by rw [Paired.length hcs, sG.cl]; omega)) := List.getElem?_eq_getElem _
      generalize cs[q]'(by rw [Paired.length hcs, sG.cl]; omega) = pa at qcs
      obtain ⟨pv0, hpv0, hpa⟩ := paired_get hcs qcs
      have hq2 : (sh.map V.int)[q]? = some (V.int (sh.getD q 0)) := by
        rw [List.getElem?_map, List.getElem?_eq_getElem q1, List.getD_eq_getElem?_getD, List.getElem?_eq_getElem q1]
        rfl
      have g2 := s12 _ _ hg
      have c2 := s12 _ _ hc
      have h2 := s12 _ _ hh
      have l2 := s2 _ _ hl
      have ngc : g ≠ c := fun e => by rw [e, hc] at hg; cases hg
      have ngh : g ≠ h := fun e => by rw [e, hh] at hg; cases hg
      have nlc : l ≠ c := fun e => by rw [e, hc] at nl; cases nl
      have nlg : l ≠ g := fun e => by rw [e, hg] at nl; cases nl
      have nlh : l ≠ h := fun e => by rw [e, hh] at nl; cases nl
      have npc : pa ≠ c := (hap pa (List.mem_of_getElem? qcs)).1
      refine ⟨_, rfl, g, CG, dx, _, _, rfl, g2, T.cl, T.nC, rfl, _, rfl, c, (q : Int), _, .ref pa, rfl, rfl, c2, atI_nat (j := q) (by rw [List.getElem?_map, qcs]; rfl), ?_⟩
      have bitsh : ∀ j, j < wd → (sh.getD j 0).natAbs < 2 ^ (a + b + 64) := by
        intro j hj
        have e : sh.getD j 0 = redf fl (dotL ns (G.cols[j]'(by rw [sG.cl]; exact hj))) := by
          rw [← hsh, List.getD_eq_getElem?_getD]
          unfold sharesL
          rw [List.getElem?_map, List.getElem?_eq_getElem (by rw [sG.cl]; exact hj)]
          rfl
        rw [e]
        refine redf_le f0 ?_ f60 (by omega)
        exact Nat.lt_of_lt_of_le (dot_bits hb (sG.cb _ (List.getElem_mem _)) sG.w12 hn) (Nat.pow_le_pow_right (by decide) (by omega))
      have lcs : cs.length = wd := (Paired.length hcs).trans sG.cl
      refine ⟨_, rfl, l, _, rfl, SqL.of l2, for_enum (fun i σ H' => ∃ u v cs' cols', σ = [some (.ref g), some (.int row), some (.ref t), some (.ref l), some (.int (q : Int)), some (.ref pa), u, v] ∧ But c H2 H' ∧ H' c = some (.lst (cs'.map V.ref)) ∧ ColsAt H' cs' cols' ∧ (∀ x ∈ cs', x ≠ c ∧ x ≠ h) ∧ cols'.length = wd ∧
          ∀ j, j < wd → (j < i → j ≠ q → ∃ r, cols'[j]? = some r ∧ TurnR fl G.s (G.cols.getD j []) (G.cols.getD q []) (sh.getD j 0) (sh.getD q 0) r) ∧ (¬ (j < i ∧ j ≠ q) → cols'[j]? = G.cols[j]?))
        ⟨none, none, cs, G.cols, rfl, fun _ _ _ e => e, c2, hcs.keep fun _ _ _ e => s12 _ _ e, hap, sG.cl, fun j _ => ⟨fun z => absurd z (Nat.not_lt_zero _), fun _ => rfl⟩⟩ (fun i σ H' _ ⟨_, _, _, _, _, bH, _⟩ => SqL.of (bH _ _ nlc l2)) ?_ ?_⟩
      · rintro i x T0 σ H' hx ⟨u, v, cs', cols', rfl, bH, hc', hcs', hap', lc', inv⟩ nT
        obtain ⟨s0, rfl, hs⟩ := int_at hx
        have li := (List.getElem?_eq_some_iff.mp hs).1
        have sT := same_upd nT (o := .tup [.int (i : Nat), .int s0])
        have es0 : sh.getD i 0 = s0 := by rw [List.getD_eq_getElem?_getD, hs]; rfl
        refine ⟨T0, [.int (i : Nat), .int s0], rfl, .inl (.inl upd_same), rfl, .int (i : Nat), [.int s0], rfl, .int s0, [], rfl, rfl, ?_⟩
        have bT : But c H2 (upd H' T0 (.tup [.int (i : Nat), .int s0])) := bH.trans (But.same sT)
        have cT := sT _ _ hc'
        have csT : ColsAt (upd H' T0 (.tup [.int (i : Nat), .int s0])) cs' cols' := hcs'.keep fun _ _ _ e => sT _ _ e
        generalize upd H' T0 (.tup [.int (i : Nat), .int s0]) = HT at *
        refine ⟨_, rfl, _, rfl, rfl, _, rfl, ?_⟩
        by_cases z : i = q
        · have e1 : decide (V.int (i : Int) = V.int (q : Int)) = true := decide_eq_true (by rw [z])
          rw [e1]
          refine iteF ⟨_, _, cs', cols', rfl, bT, cT, csT, hap', lc', fun j hj => ⟨fun h1 h2 => (inv j hj).1 (by omega) h2, fun h1 => (inv j hj).2 fun h2 => h1 ⟨by omega, h2.2⟩⟩⟩
        · have e1 : decide (V.int (i : Int) = V.int (q : Int)) = false := decide_eq_false fun e => z (by have := V.int.inj e; omega)
          rw [e1]
          have ics : cs'[i]? = some (cs'[i]'(by rw [Paired.length hcs', lc']; omega)) := List.getElem?_eq_getElem _
          generalize cs'[i]'(by rw [Paired.length hcs', lc']; omega) = pi at ics
          obtain ⟨ci, hci, hpi⟩ := paired_get csT ics
          have eci : G.cols[i]? = some ci := by
            rw [← (inv i (by omega)).2 (fun h => absurd h.1 (Nat.lt_irrefl _))]
            exact hci
          have mci := List.mem_of_getElem? eci
          have mpv := List.mem_of_getElem? hpv0
          have npi : pi ≠ c := (hap' pi (List.mem_of_getElem? ics)).1
          have gT := bT _ _ ngc g2
          refine iteT ⟨_, rfl, g, dx, _, rfl, gT, rfl, _, rfl, g, CG, dx, _, _, rfl, gT, T.cl, T.nC, rfl, _, rfl, c, (i : Int), _, .ref pi, rfl, rfl, cT, atI_nat (j := i) (by rw [List.getElem?_map, ics]; rfl), _, rfl, _, rfl, _, rfl, _, rfl, l, (q : Int), _, .int (sh.getD q 0), rfl, rfl, bT _ _ nlc l2, atI_nat (j := q) hq2, ?_⟩
          refine ⟨g, c, h, pi, pa, dx, fl, G.s, s0, sh.getD q 0, wd, b, a + b + 64, ci, pv0, rfl, gT, fok, hpi, bT _ _ npc (s12 _ _ hpa), sG.rl _ mci, sG.rl _ mpv, sG.w12, sG.cb _ mci, sG.cb _ mpv, by rw [← es0]; exact bitsh i (by omega), bitsh q (by omega), sG.sb, b0, by omega, b8, by omega, fun H3 p3 r s3 n3 e3 hR => ?_⟩
          refine ⟨_, rfl, g, CG, dx, _, _, rfl, s3 _ _ gT, T.cl, T.nC, rfl, _, rfl, c, _, (i : Int), i, rfl, rfl, s3 _ _ cT, ?_, ?_⟩
          · have : i < cs'.length := by rw [Paired.length hcs', lc']; omega
            rw [List.length_map]
            exact ixN_nat this
          · have n3c : p3 ≠ c := fun e => by rw [e, cT] at n3; cases n3
            have n3h : p3 ≠ h := fun e => by rw [e, bT _ _ (Ne.symm nch) h2] at n3; cases n3
            refine ⟨_, _, cs'.set i p3, cols'.set i r, rfl, (bT.trans (But.same s3)).trans But.upd, by rw [upd_same, List.map_set], ?_, ?_, by rw [List.length_set]; exact lc', ?_⟩
            · refine paired_set (ColsAt.keep csT fun x hx u e => ?_) (by rw [upd_ne n3c]; exact e3)
              rw [upd_ne (hap' x hx).1]
              exact s3 _ _ e
            · intro x hx
              rcases List.mem_or_eq_of_mem_set hx with h | h
              · exact hap' x h
              · rw [h]
                exact ⟨n3c, n3h⟩
            · intro j hj
              have lci : i < cols'.length := by omega
              have egi : G.cols.getD i [] = ci := by rw [List.getD_eq_getElem?_getD, eci]; rfl
              have egq : G.cols.getD q [] = pv0 := by rw [List.getD_eq_getElem?_getD, hpv0]; rfl
              by_cases ji : j = i
              · subst ji
                refine ⟨fun _ _ => ⟨r, List.getElem?_set_self lci, ?_⟩, fun hn => absurd ⟨Nat.lt_succ_self _, z⟩ hn⟩
                rw [egi, egq, es0]
                exact hR
              · have e5 : (cols'.set i r)[j]? = cols'[j]? := List.getElem?_set_ne (Ne.symm ji)
                rw [e5]
                exact ⟨fun h1 h2 => (inv j hj).1 (by omega) h2, fun h1 => (inv j hj).2 fun h2 => h1 ⟨by omega, h2.2⟩⟩
      · rintro σ H' ⟨u, v, cs', cols', rfl, bH, hc', hcs', hap', lc', inv⟩
        rw [List.length_map, lsh] at inv
        have gH := bH _ _ ngc g2
        refine ⟨_, rfl, _, rfl, l, (q : Int), _, .int (sh.getD q 0), rfl, rfl, bH _ _ nlc l2, atI_nat (j := q) hq2, _, rfl, g, CG, dx, _, rfl, gH, T.cl, T.nS, Nat.le_of_ble_eq_true rfl, ?_⟩
        have e3 : putF "scale" (V.int (sh.getD q 0)) (gf G.s fl c h) = gf (sh.getD q 0) fl c h := rfl
        rw [e3]
        generalize hH5 : upd H' g (.ins CG dx (gf (sh.getD q 0) fl c h)) = H5
        have g5 : H5 g = some (.ins CG dx (gf (sh.getD q 0) fl c h)) := by rw [← hH5, upd_same]
        have h5 : H5 h = some (.lst (G.held.map optV)) := by
          rw [← hH5, upd_ne (Ne.symm ngh)]
          exact bH _ _ (Ne.symm nch) h2
        have k5 : ∀ x u, x ≠ g → H' x = some u → H5 x = some u := fun x u nx e => by
          rw [← hH5, upd_ne nx]
          exact e
        have csg : ∀ x ∈ cs', x ≠ g := by
          intro x hx e
          obtain ⟨y, _, hy⟩ := paired_mem hcs' hx
          rw [e, gH] at hy
          cases hy
        refine ⟨_, rfl, _, rfl, g, CG, dx, _, _, rfl, g5, T.cl, T.nH, rfl, _, rfl, h, _, (q : Int), q, rfl, rfl, h5, ixN_nat (by rw [List.length_map]; exact q2), ?_⟩
        refine kY q hq _ ⟨sh.getD q 0, cols', G.held.set q (some row)⟩ (fun x u n1 n2 n3 e => ?_) ⟨dx, cs', by rw [upd_ne ngh]; exact g5, by rw [upd_ne nch]; exact k5 _ _ (Ne.symm ngc) hc', ?_, hcs'.keep fun x hx u e => ?_, nch, hap'⟩ ⟨?_, rfl, ?_, ?_, ?_⟩
        · rw [upd_ne n3]
          exact k5 _ _ n1 (bH _ _ n2 (s12 _ _ e))
        · rw [upd_same, List.map_set]
          rfl
        · rw [upd_ne (hap' x hx).2]
          exact k5 _ _ (csg x hx) e
        · rw [hsh, List.getD_eq_getElem?_getD, List.getElem?_eq_getElem q1]
          rfl
        · show cols'.length = _
          rw [lc', sG.cl]
        · exact (inv q (by omega)).2 fun h => h.2 rfl
        · intro j hj nj
          rw [hsh]
          rw [sG.cl] at hj
          exact (inv j hj).1 (by omega) nj
end
/-! ### the makers of a row -/
def mkStep (acc : List (Key × V)) (o : Option Int) (s : Int) : List (Key × V) := if s = 0 then acc else match o with | some r => putK acc (Sum.inl r) (.int s) | none => acc
def mkFrom : List (Key × V) → List (Option Int) → List Int → List (Key × V)
  | acc, o :: os, s :: ss => mkFrom (mkStep acc o s) os ss
  | acc, _, _ => acc
def mkD (held : List (Option Int)) (sh : List Int) : List (Key × V) := mkFrom [] held sh
theorem mkFrom_at {acc : List (Key × V)} {held : List (Option Int)} {sh : List Int} {i : Nat} {s : Int} {o : Option Int} (h1 : held[i]? = some o) (h2 : sh[i]? = some s) :
    mkFrom acc (held.drop i) (sh.drop i) = mkFrom (mkStep acc o s) (held.drop (i + 1)) (sh.drop (i + 1)) := by
  have l1 := (List.getElem?_eq_some_iff.mp h1).1
  have l2 := (List.getElem?_eq_some_iff.mp h2).1
  have e1 : held.drop i = o :: held.drop (i + 1) := by
    rw [List.drop_eq_getElem_cons l1]
    rw [List.getElem?_eq_getElem l1] at h1
    cases h1
    rfl
  have e2 : sh.drop i = s :: sh.drop (i + 1) := by
    rw [List.drop_eq_getElem_cons l2]
    rw [List.getElem?_eq_getElem l2] at h2
    cases h2
    rfl
  rw [e1, e2]
  rfl
theorem putK_len {kvs : List (Key × V)} {k : Key} {v : V} : (putK kvs k v).length ≤ kvs.length + 1 := by
  unfold putK
  split
  · rw [List.length_map]
    omega
  · rw [List.length_append]
    exact Nat.le_refl _
theorem lackFrom_none : ∀ {sh : List Int} {held : List (Option Int)} {i : Nat}, lackFrom i sh held = none → ∀ (j : Nat) (s : Int), sh[j]? = some s → s ≠ 0 → held[j]? ≠ some none
  | [], _, _, _, j, s, h1, _ => by cases h1
  | _ :: _, [], _, _, j, s, _, _ => fun h => by cases h
  | s0 :: ss, o :: hs, i, h, j, s, h1, h2 => by
    unfold lackFrom at h
    by_cases z : s0 ≠ 0 ∧ o = none
    · rw [if_pos z] at h
      cases h
    · rw [if_neg z] at h
      cases j with
      | zero =>
        cases h1
        intro e
        exact z ⟨h2, Option.some.inj e⟩
      | succ j => exact lackFrom_none h j s h1 h2
def spGMakers (CG : Addr) : Sp := fun vs H Q _ => ∃ (g c h t : Addr) (f : Int) (wd a b : Nat) (G : GState) (ns : List Int), vs = [.ref g, .ref t] ∧ GaugeAt CG H g c h f G ∧ GShape f wd b G ∧ H t = some (.tup (ns.map V.int)) ∧
  ns.length = wd ∧ Bits a ns ∧ 0 < a ∧ 0 < b ∧ a + b ≤ 100000 ∧ 0 ≤ f ∧
  (∀ q, lackL (sharesL f G.cols ns) G.held = some q → ∀ H', Same H H' → Q .non H') ∧
  (lackL (sharesL f G.cols ns) G.held = none → ∀ H' p, Same H H' → H p = none → H' p = some (.dK (mkD G.held (sharesL f G.cols ns))) → Q (.ref p) H')
section
variable {P : Program} {w : World} {K : PySem.W.Frag} {mg : Str → Option Value} {base : Heap}
theorem scGMk : FnScope ["self", "numbers", "shares", "row", "share"] ["self", "numbers"] (defScope sGMakers) := ⟨rfl, rfl, rfl, by decide +kernel, rfl, by decide +kernel, by decide +kernel⟩
theorem ok_gmakers {f CG fS fL : Addr} {fd fdS fdL : FuncData} (F : Fun K "makers" "Gauge.makers" sGMakers f fd) (N : NmG mg) (T : GTxt K mg CG)
    (GS : FnOk P w K mg base CX0 1 fS fdS ["self", "numbers"] (spGShares CG)) (mS : Meth K CG "_shares" fS) (bS : Binds K fdS ["self", "numbers"] [])
    (GL : FnOk P w K mg base CX0 1 fL fdL ["self", "shares"] (spGLack CG)) (mL : Meth K CG "_lacking" fL) (bL : Binds K fdL ["self", "shares"] []) :
    FnOk P w K mg base CX0 2 f fd ["self", "numbers"] (spGMakers CG) := by
  refine F.ok scGMk (fun vs H Q E h => ?_) (fun cdv A outer s H vs Q E hr h => ?_)
  · obtain ⟨g, c, h, t, fl, wd, a, b, G, ns, rfl, _⟩ := h
    rfl
  · obtain ⟨g, c, h, t, fl, wd, a, b, G, ns, rfl, hG, sG, ht, hn, hb, a0, b0, ab, f0, kS, kN⟩ := h
    have nd := scGMk.nd
    refine ⟨_, pss_cons (ps_set (i := 2) nd rfl (.inl rfl) (pe_meth (pv 0) T.cl mS GS hr bS .nil pass0 (pa_cons (pv 1) pa_nil)))
      (pss_cons (ps_if (pt_cmpR op_notN (pe_meth (pv 0) T.cl mL GL hr bL .nil pass0 (pa_cons (pv 2) pa_nil)) pe_non (nomark _)) (pss_one (ps_ret pe_non)) pss_nil)
      (pss_one (ps_ret (pe_dc (own := [("row", 3), ("share", 4)]) rfl nd (pi_zip (by rfl) N.zip (pa_cons (pe_fld (pv 0) rfl) (pa_cons (pv 2) pa_nil))) (blkOk_by (by kernel_rfl))
        (fun _ _ _ _ _ => pg_tupK (n := 2) (K := K) rfl rfl (pgs_cons (pg_name (i := 3) nd rfl (Or.inl rfl)) (pgs_cons (pg_name (i := 4) nd rfl (Or.inl rfl)) pgs_nil))) (fun _ _ _ _ _ => pts_one (pt_cmpR op_ne (pv 4) pe_int (nomark _))) (fun _ _ _ _ _ => pv 3) (fun _ _ _ _ _ => pv 4))))), ?_⟩
    have hG0 := hG
    obtain ⟨dx, cs, hg, hc, hh, hcs, nch, hap⟩ := hG
    refine ⟨_, rfl, g, dx, _, rfl, hg, rfl, _, rfl, g, c, h, t, fl, wd, a, b, G, ns, rfl, hG0, sG, ht, hn, hb, a0, b0, ab, f0, fun H1 l s1 nl hl => ?_⟩
    have lsh : (sharesL fl G.cols ns).length = wd := by unfold sharesL; rw [List.length_map, sG.cl]
    refine ⟨_, rfl, g, dx, _, rfl, s1 _ _ hg, rfl, _, rfl, g, c, h, l, fl, G, sharesL fl G.cols ns, rfl, hG0.keep s1, hl, by rw [lsh, sG.hl], fun H2 s2 => ?_⟩
    have s12 := s1.trans s2
    generalize hsh : sharesL fl G.cols ns = sh at *
    cases hq : lackL sh G.held with
    | some q => exact ⟨rfl, _, rfl, iteT (kS q hq _ s12)⟩
    | none =>
      refine ⟨rfl, _, rfl, iteF ?_⟩
      have w12 := sG.w12
      have h2 := s12 _ _ hh
      have l2 := s2 _ _ hl
      have lh := sG.hl
      refine ⟨_, rfl, g, CG, dx, _, _, rfl, s12 _ _ hg, T.cl, T.nH, rfl, _, rfl, h, l, _, _, rfl, SqL.of h2, SqL.of l2, fun D nD => dc_walk (n := wd) (walk_zip (by rw [List.length_map, List.length_map]; omega))
        (fun i H' => ∃ kvs, H' D = some (.dK kvs) ∧ Same H2 H' ∧ kvs.length ≤ i ∧ mkFrom kvs (G.held.drop i) (sh.drop i) = mkD G.held sh) ⟨[], upd_same, same_upd nD, Nat.le_refl _, rfl⟩
        (fun i H' _ ⟨_, _, s3, _⟩ => ⟨SqL.of (s3 _ _ h2), SqL.of (s3 _ _ l2)⟩) ?_ ?_⟩
      · rintro i x H3 H' hi ⟨kvs, e3, s3, hl3, hk⟩ ⟨T0, x1, y1, rfl, nT, rfl, hx, hy⟩
        obtain ⟨o, rfl, ho⟩ := held_at hx
        obtain ⟨s0, rfl, hs⟩ := int_at hy
        have sT := same_upd nT (o := .tup [optV o, .int s0])
        rw [mkFrom_at ho hs] at hk
        refine ⟨T0, [optV o, .int s0], rfl, .inl (.inl upd_same), rfl, optV o, [.int s0], rfl, .int s0, [], rfl, rfl, rfl, ?_⟩
        refine ⟨_, rfl, rfl, _, rfl, ?_⟩
        by_cases z : s0 = 0
        · rw [decide_eq_true (congrArg V.int z)]
          refine iteF ⟨kvs, sT _ _ e3, s3.trans sT, by omega, ?_⟩
          rw [← hk]
          unfold mkStep
          rw [if_pos z]
        · rw [decide_eq_false (fun h => z (V.int.inj h))]
          cases o with
          | none => exact absurd ho (lackFrom_none hq i s0 hs z)
          | some r =>
            refine iteT ⟨_, rfl, _, rfl, kvs, Sum.inl r, rfl, sT _ _ e3, Nat.lt_of_le_of_lt hl3 (Nat.lt_of_lt_of_le (by omega : i < 13) (by decide)), putK kvs (Sum.inl r) (.int s0), upd_same, same_new nD (s3.trans sT), Nat.le_trans putK_len (by omega), ?_⟩
            rw [← hk]
            unfold mkStep
            rw [if_neg z]
      · rintro H3 ⟨kvs, e3, s3, hl3, hk⟩
        have e : mkFrom kvs (G.held.drop wd) (sh.drop wd) = kvs := by
          rw [List.drop_eq_nil_of_le (by omega)]
          rfl
        rw [e] at hk
        rw [hk] at e3
        exact kN hq _ _ (s12.trans s3) (s12.free nD) e3
end
section
open Lin
/-! ### what a gauge measures -/
theorem S_head (n : Nat) (f : Nat → Int) : S (n + 1) f = f 0 + S n fun i => f (i + 1) := by
  induction n with
  | zero =>
    show 0 + f 0 = f 0 + 0
    omega
  | succ n ih =>
    show S (n + 1) f + f (n + 1) = f 0 + (S n (fun i => f (i + 1)) + f (n + 1))
    rw [ih]
    omega
theorem dotL_S : ∀ {a b : List Int} {w : Nat}, a.length = w → b.length = w → dotL a b = S w fun k => vec a k * vec b k
  | [], _, w, h, _ => by
    cases h
    rfl
  | _ :: _, [], w, h1, h2 => by
    rw [← h2] at h1
    cases h1
  | x :: r, y :: t, w, h1, h2 => by
    cases h1
    rw [List.length_cons, S_head]
    have := dotL_S (a := r) (b := t) rfl (Nat.succ.inj h2)
    show x * y + dotL r t = x * y + _
    rw [this]
    rfl
def colV (G : GState) : Nat → Vec := fun j => vec (G.cols.getD j [])
inductive GRun (f : Int) (wd : Nat) (rows : List (List Int)) : List Int → GState → Prop
  | nil : GRun f wd rows [] (gStart wd)
  | skip {lot : List Int} {G : GState} {i : Nat} {ns : List Int} (R : GRun f wd rows lot G) (h : rows[i]? = some ns) (l : lackL (sharesL f G.cols ns) G.held = none) : GRun f wd rows (lot ++ [(i : Int)]) G
  | take {lot : List Int} {G G' : GState} {i q : Nat} {ns : List Int} (R : GRun f wd rows lot G) (h : rows[i]? = some ns) (l : lackL (sharesL f G.cols ns) G.held = some q) (t : TakeR f G ns q i G') : GRun f wd rows (lot ++ [(i : Int)]) G'
def bbit (a : Nat) : Nat → Nat
  | 0 => 1
  | n + 1 => a + 2 * bbit a n + 5
def bb (f : Int) (a n : Nat) : Nat := if f = 0 then bbit a n else 60
theorem bbit_mono {a m n : Nat} (h : m ≤ n) : bbit a m ≤ bbit a n := by
  induction n with
  | zero =>
    have : m = 0 := by omega
    rw [this]
    exact Nat.le_refl _
  | succ n ih =>
    by_cases e : m = n + 1
    · rw [e]
      exact Nat.le_refl _
    · have := ih (by omega)
      show _ ≤ a + 2 * bbit a n + 5
      omega
theorem bbit_pos {a n : Nat} : 0 < bbit a n := by
  cases n with
  | zero => exact Nat.one_pos
  | succ n =>
    show 0 < a + 2 * bbit a n + 5
    omega
/-- a told table whose gauges can be reckoned -/
structure TabOk (f : Int) (wd a : Nat) (rows : List (List Int)) : Prop where
  len : ∀ r ∈ rows, r.length = wd
  bits : ∀ r ∈ rows, Bits a r
  w12 : wd ≤ 12
  a0 : 0 < a
  a8 : a ≤ 8000
  fok : (f = 0 ∧ bbit a wd ≤ 8000) ∨ (Dom f ∧ 1 < f ∧ f < 2 ^ 60)
theorem TabOk.dom {f : Int} {wd a : Nat} {rows : List (List Int)} (T : TabOk f wd a rows) : Dom f := by
  rcases T.fok with ⟨rfl, _⟩ | h
  · exact dom_zero
  · exact h.1
theorem TabOk.f0 {f : Int} {wd a : Nat} {rows : List (List Int)} (T : TabOk f wd a rows) : 0 ≤ f ∧ f < 2 ^ 60 := by
  rcases T.fok with ⟨rfl, _⟩ | h
  · decide
  · omega
theorem TabOk.b8 {f : Int} {wd a n : Nat} {rows : List (List Int)} (T : TabOk f wd a rows) (h : n ≤ wd) : bb f a n ≤ 8000 := by
  unfold bb
  rcases T.fok with ⟨rfl, h2⟩ | h2
  · rw [if_pos rfl]
    exact Nat.le_trans (bbit_mono h) h2
  · rw [if_neg (by omega)]
    decide
theorem bb_pos {f : Int} {a n : Nat} : 0 < bb f a n := by
  unfold bb
  split
  · exact bbit_pos
  · decide
/-- what a gauge keeps while rows are taken -/
structure GI (f : Int) (wd a : Nat) (rows : List (List Int)) (lot : List Int) (G : GState) : Prop where
  sh : GShape f wd (bb f a (manyL G.held)) G
  nz : ¬ f ∣ G.s
  le : manyL G.held ≤ wd
  ex : ∃ r u : Nat → Vec, Adj f wd G.s (colV G) r ∧ (∀ j i, G.held[j]? = some (some i) → i ∈ lot ∧ ∃ ns, rows[i.toNat]? = some ns ∧ r j = vec ns) ∧ Indep f wd (manyL G.held) u ∧
    (∀ t, t < manyL G.held → ∃ j i, G.held[j]? = some (some i) ∧ u t = r j) ∧ (∀ j i, G.held[j]? = some (some i) → ∃ t, t < manyL G.held ∧ u t = r j) ∧
    ∀ i ∈ lot, ∃ ns, rows[i.toNat]? = some ns ∧ Span f wd (manyL G.held) u (vec ns)
theorem Adj.congr {p : Int} {w : Nat} {s : Int} {c c' r : Nat → Vec} (A : Adj p w s c r) (h : ∀ j, j < w → ∀ k, k < w → c' j k = c j k) : Adj p w s c' r := by
  have e : ∀ (x : Vec) (j : Nat), j < w → S w (fun k => x k * c' j k) = S w (fun k => x k * c j k) := fun x j hj => S_congr fun k hk => by rw [h j hj k hk]
  refine ⟨A.nz, fun i hi j hj => ?_, fun x k hk => ?_, fun z => ⟨(A.ex z).1, fun j hj k hk => ?_⟩⟩
  · rw [e _ j hj]
    exact A.at_ i hi j hj
  · have := A.all x k hk
    have e2 : S w (fun j => S w (fun l => x l * c' j l) * r j k) = S w (fun j => S w (fun l => x l * c j l) * r j k) := S_congr fun j hj => by rw [e x j hj]
    rw [e2]
    exact this
  · rw [h j hj k hk]
    exact (A.ex z).2 j hj k hk
theorem manyL_rep (n : Nat) : manyL (List.replicate n none) = 0 := by
  induction n with
  | zero => rfl
  | succ n ih =>
    rw [List.replicate_succ]
    exact ih
theorem manyL_set : ∀ {held : List (Option Int)} {q : Nat} {i : Int}, held[q]? = some none → manyL (held.set q (some i)) = manyL held + 1
  | [], _, _, h => by cases h
  | o :: r, 0, i, h => by
    cases h
    rfl
  | o :: r, q + 1, i, h => by
    have := manyL_set (held := r) (q := q) (i := i) h
    unfold manyL at this ⊢
    rw [List.set_cons_succ]
    cases o with
    | none => exact this
    | some x =>
      show (x :: _).length = (x :: _).length + 1
      rw [List.length_cons, List.length_cons, this]
theorem manyL_le {held : List (Option Int)} : manyL held ≤ held.length := List.length_filterMap_le _ _
theorem redf_dvd (f x : Int) : f ∣ redf f x - x := by
  unfold redf
  by_cases z : f = 0
  · rw [if_pos z, Int.sub_self]
    exact Int.dvd_zero f
  · rw [if_neg z]
    have := Int.emod_add_mul_ediv x f
    exact ⟨-(x / f), by rw [Int.mul_neg]; omega⟩
theorem redf_nz {f x : Int} (f0 : 0 ≤ f) (h : redf f x ≠ 0) : ¬ f ∣ redf f x := by
  intro hd
  unfold redf at h hd
  by_cases z : f = 0
  · rw [if_pos z] at h hd
    rw [z, Int.zero_dvd] at hd
    exact h hd
  · rw [if_neg z] at h hd
    have h1 := Int.emod_nonneg x z
    have h2 := Int.emod_lt_of_pos x (show 0 < f by omega)
    have := Int.le_of_dvd (by omega) hd
    omega
section
variable {f : Int} {wd a b : Nat} {rows : List (List Int)} {lot : List Int} {G G' : GState} {ns : List Int} {q : Nat}
theorem shares_at (sG : GShape f wd b G) (ln : ns.length = wd) {j : Nat} (hj : j < wd) : (sharesL f G.cols ns).getD j 0 = redf f (S wd fun k => vec ns k * colV G j k) := by
  have hl : j < G.cols.length := by rw [sG.cl]; exact hj
  unfold sharesL
  rw [List.getD_eq_getElem?_getD, List.getElem?_map, List.getElem?_eq_getElem hl]
  show redf f (dotL ns G.cols[j]) = _
  have e : colV G j = vec G.cols[j] := by
    unfold colV
    rw [List.getD_eq_getElem?_getD, List.getElem?_eq_getElem hl]
    rfl
  rw [e, dotL_S ln (sG.rl _ (List.getElem_mem _))]
theorem turn_at {s sh size : Int} {col pv r : List Int} (T : TurnR f s col pv sh size r) (l1 : col.length = wd) (l2 : pv.length = wd) :
    r.length = wd ∧ (f = 0 → ∀ k, k < wd → vec r k = Int.fdiv (size * vec col k - sh * vec pv k) s) ∧ (f ≠ 0 → ∀ k, k < wd → f ∣ s * vec r k - (size * vec col k - sh * vec pv k)) := by
  have lc : (cross size sh col pv).length = wd := by unfold cross; rw [List.length_zipWith]; omega
  have ce : ∀ k, k < wd → (cross size sh col pv)[k]? = some (size * vec col k - sh * vec pv k) := by
    intro k hk
    unfold cross vec
    rw [List.getElem?_zipWith]
    simp only [List.getD_eq_getElem?_getD]
    rw [List.getElem?_eq_getElem (show k < col.length by omega), List.getElem?_eq_getElem (show k < pv.length by omega)]
    rfl
  rcases T with ⟨z, rfl⟩ | ⟨z, i, hi, rfl⟩
  · refine ⟨by rw [List.length_map, lc], fun _ k hk => ?_, fun h => absurd z h⟩
    show (List.map (fun x => Int.fdiv x s) (cross size sh col pv)).getD k 0 = _
    rw [List.getD_eq_getElem?_getD, List.getElem?_map, ce k hk]
    rfl
  · refine ⟨by rw [List.length_map, lc], fun h => absurd h z, fun _ k hk => ?_⟩
    have e : vec ((cross size sh col pv).map fun x => x * i % f) k = (size * vec col k - sh * vec pv k) * i % f := by
      show (List.map (fun x => x * i % f) (cross size sh col pv)).getD k 0 = _
      rw [List.getD_eq_getElem?_getD, List.getElem?_map, ce k hk]
      rfl
    rw [e]
    generalize size * vec col k - sh * vec pv k = x
    have h1 := Int.emod_add_mul_ediv (x * i) f
    obtain ⟨y, hy⟩ := hi.2.2
    refine ⟨x * y - s * (x * i / f), ?_⟩
    have : s * i = f * y + 1 := by omega
    grind
/-- the columns and the rows when one is taken -/
theorem take_adj (T : TabOk f wd a rows) (sG : GShape f wd b G) {r : Nat → Vec} (A : Adj f wd G.s (colV G) r) (ln : ns.length = wd) {i : Int} (lk : lackL (sharesL f G.cols ns) G.held = some q) (tk : TakeR f G ns q i G') :
    Adj f wd G'.s (colV G') (upd1 r q (vec ns)) ∧ ¬ f ∣ G'.s ∧ G'.cols.length = wd ∧ (∀ c ∈ G'.cols, c.length = wd) ∧ q < wd := by
  obtain ⟨_, q1, q2, q3, q4⟩ := lackFrom_lt lk
  rw [Nat.zero_add] at q1 q2
  rw [Nat.sub_zero] at q3 q4
  have lsh : (sharesL f G.cols ns).length = wd := by unfold sharesL; rw [List.length_map, sG.cl]
  have qw : q < wd := by omega
  obtain ⟨t1, t2, t3, t4, t5⟩ := tk
  have es : G'.s = (sharesL f G.cols ns).getD q 0 := by rw [List.getD_eq_getElem?_getD, t1]; rfl
  have nq : ¬ f ∣ G'.s := by
    rw [es, shares_at sG ln qw]
    rw [shares_at sG ln qw] at q3
    exact redf_nz T.f0.1 q3
  have lc' : G'.cols.length = wd := by rw [t3, sG.cl]
  have getc : ∀ j, j < wd → ∃ c, G.cols[j]? = some c ∧ c.length = wd ∧ G.cols.getD j [] = c := by
    intro j hj
    have hl : j < G.cols.length := by rw [sG.cl]; exact hj
    refine ⟨_, List.getElem?_eq_getElem hl, sG.rl _ (List.getElem_mem _), ?_⟩
    rw [List.getD_eq_getElem?_getD, List.getElem?_eq_getElem hl]
    rfl
  obtain ⟨cq, hcq, lcq, ecq⟩ := getc q qw
  have colq : colV G' q = colV G q := by
    unfold colV
    rw [List.getD_eq_getElem?_getD, List.getD_eq_getElem?_getD, t4]
  have turned : ∀ j, j < wd → j ≠ q → ∃ r, G'.cols[j]? = some r ∧ r.length = wd ∧ colV G' j = vec r ∧ (f = 0 → ∀ k, k < wd → vec r k = Int.fdiv ((sharesL f G.cols ns).getD q 0 * colV G j k - (sharesL f G.cols ns).getD j 0 * colV G q k) G.s) ∧
      (f ≠ 0 → ∀ k, k < wd → f ∣ G.s * vec r k - ((sharesL f G.cols ns).getD q 0 * colV G j k - (sharesL f G.cols ns).getD j 0 * colV G q k)) := by
    intro j hj nj
    obtain ⟨r0, hr0, hT⟩ := t5 j (by rw [sG.cl]; exact hj) nj
    obtain ⟨cj, hcj, lcj, ecj⟩ := getc j hj
    rw [ecj, ecq] at hT
    obtain ⟨h1, h2, h3⟩ := turn_at hT lcj lcq
    refine ⟨r0, hr0, h1, by unfold colV; rw [List.getD_eq_getElem?_getD, hr0]; rfl, ?_, ?_⟩
    · unfold colV
      rw [ecj, ecq]
      exact h2
    · unfold colV
      rw [ecj, ecq]
      exact h3
  refine ⟨?_, nq, lc', fun c hc => ?_, qw⟩
  · rw [es]
    refine Adj.step T.dom A qw (sh := fun j => (sharesL f G.cols ns).getD j 0) (fun j hj => ?_) (by rw [← es]; exact nq) (fun k hk => by rw [colq]) (fun z j hj nj k hk => ?_) (fun z j hj nj k hk => ?_)
    · show f ∣ (sharesL f G.cols ns).getD j 0 - _
      rw [shares_at sG ln hj]
      exact redf_dvd _ _
    · obtain ⟨r0, _, _, e, _, h3⟩ := turned j hj nj
      rw [e]
      exact h3 z k hk
    · obtain ⟨r0, _, _, e, h2, _⟩ := turned j hj nj
      rw [e]
      exact h2 z k hk
  · obtain ⟨j, hj⟩ := List.mem_iff_getElem?.mp hc
    have jl := (List.getElem?_eq_some_iff.mp hj).1
    by_cases z : j = q
    · rw [z, t4] at hj
      exact sG.rl _ (List.mem_of_getElem? hj)
    · obtain ⟨r0, h0, h1, _⟩ := turned j (by omega) z
      rw [h0] at hj
      cases hj
      exact h1
end
end
section
open Lin
theorem fdiv_le {x s : Int} (h : s ≠ 0) : (x.fdiv s).natAbs ≤ x.natAbs := by
  by_cases z : 0 ≤ s
  · rw [Int.fdiv_eq_ediv_of_nonneg _ z]
    exact Int.natAbs_ediv_le_natAbs x s
  · have e : x.fdiv s = (-x).fdiv (-s) := by rw [Int.neg_fdiv_neg]
    rw [e, Int.fdiv_eq_ediv_of_nonneg _ (by omega)]
    have := Int.natAbs_ediv_le_natAbs (-x) (-s)
    omega
theorem mul_bits {x y : Int} {m n : Nat} (hx : x.natAbs < 2 ^ m) (hy : y.natAbs < 2 ^ n) : (x * y).natAbs < 2 ^ (m + n) := by
  rw [Int.natAbs_mul, Nat.pow_add]
  have h1 : x.natAbs * y.natAbs ≤ x.natAbs * 2 ^ n := Nat.mul_le_mul_left _ (Nat.le_of_lt hy)
  have h2 : x.natAbs * 2 ^ n < 2 ^ m * 2 ^ n := Nat.mul_lt_mul_of_pos_right hx (Nat.pow_pos (by decide))
  omega
theorem cross_bits {size sh : Int} {col pv : List Int} {d b : Nat} (h1 : size.natAbs < 2 ^ d) (h2 : sh.natAbs < 2 ^ d) (b1 : Bits b col) (b2 : Bits b pv) : Bits (d + b + 1) (cross size sh col pv) := by
  intro x hx
  unfold cross at hx
  obtain ⟨i, hi⟩ := List.mem_iff_getElem?.mp hx
  rw [List.getElem?_zipWith] at hi
  cases e1 : col[i]? with
  | none => rw [e1] at hi; cases hi
  | some n => cases e2 : pv[i]? with
    | none => rw [e1, e2] at hi; cases hi
    | some c =>
      rw [e1, e2] at hi
      cases hi
      have h3 := mul_bits h1 (b1 _ (List.mem_of_getElem? e1))
      have h4 := mul_bits h2 (b2 _ (List.mem_of_getElem? e2))
      rw [Nat.pow_succ]
      omega
section
variable {f : Int} {wd a b : Nat} {rows : List (List Int)} {lot : List Int} {G G' : GState} {ns : List Int} {q : Nat}
theorem bits_mono {m n : Nat} {xs : List Int} (h : Bits m xs) (l : m ≤ n) : Bits n xs := fun x hx => Nat.lt_of_lt_of_le (h x hx) (Nat.pow_le_pow_right (by decide) l)
theorem share_bits (T : TabOk f wd a rows) (sG : GShape f wd b G) (ln : ns.length = wd) (hb : Bits a ns) {j : Nat} (hj : j < wd) (z : f = 0) : ((sharesL f G.cols ns).getD j 0).natAbs < 2 ^ (a + b + 4) := by
  have hl : j < G.cols.length := by rw [sG.cl]; exact hj
  have e : (sharesL f G.cols ns).getD j 0 = dotL ns G.cols[j] := by
    rw [List.getD_eq_getElem?_getD]
    unfold sharesL
    rw [List.getElem?_map, List.getElem?_eq_getElem hl]
    show redf f _ = _
    unfold redf
    rw [if_pos z]
  rw [e]
  exact dot_bits hb (sG.cb _ (List.getElem_mem _)) sG.w12 ln
theorem share_lt (f1 : 1 < f) {j : Nat} : ((sharesL f G.cols ns).getD j 0).natAbs < f.natAbs := by
  rw [List.getD_eq_getElem?_getD]
  unfold sharesL
  rw [List.getElem?_map]
  cases G.cols[j]? with
  | none =>
    show (0 : Int).natAbs < _
    omega
  | some c =>
    show (redf f _).natAbs < _
    unfold redf
    rw [if_neg (by omega)]
    have h1 := Int.emod_nonneg (dotL ns c) (show f ≠ 0 by omega)
    have h2 := Int.emod_lt_of_pos (dotL ns c) (show 0 < f by omega)
    omega
theorem take_bits (T : TabOk f wd a rows) {n : Nat} (sG : GShape f wd (bb f a n) G) {r : Nat → Vec} (A : Adj f wd G.s (colV G) r) (ln : ns.length = wd) (hb : Bits a ns) {i : Int} (lk : lackL (sharesL f G.cols ns) G.held = some q) (tk : TakeR f G ns q i G') :
    GShape f wd (bb f a (n + 1)) G' := by
  obtain ⟨_, nz, lc, rl, qw⟩ := take_adj T sG A ln lk tk
  obtain ⟨t1, t2, t3, t4, t5⟩ := tk
  have es : G'.s = (sharesL f G.cols ns).getD q 0 := by rw [List.getD_eq_getElem?_getD, t1]; rfl
  have bs : ∀ j, j < wd → ((sharesL f G.cols ns).getD j 0).natAbs < 2 ^ (if f = 0 then a + bb f a n + 4 else 60) := by
    intro j hj
    rcases T.fok with ⟨z, _⟩ | ⟨_, f1, f2⟩
    · rw [if_pos z]
      exact share_bits T sG ln hb hj z
    · rw [if_neg (by omega)]
      have := share_lt (G := G) (ns := ns) (j := j) f1
      omega
  have mono : bb f a n ≤ bb f a (n + 1) := by
    unfold bb
    by_cases z : f = 0
    · rw [if_pos z, if_pos z]
      exact bbit_mono (Nat.le_succ n)
    · rw [if_neg z, if_neg z]
      exact Nat.le_refl _
  refine ⟨lc, rl, by rw [t2, List.length_set, sG.hl], fun c hc => ?_, ?_, sG.w12⟩
  · obtain ⟨j, hj⟩ := List.mem_iff_getElem?.mp hc
    have jl := (List.getElem?_eq_some_iff.mp hj).1
    by_cases z : j = q
    · rw [z, t4] at hj
      exact bits_mono (sG.cb _ (List.mem_of_getElem? hj)) mono
    · obtain ⟨r0, h0, hT⟩ := t5 j (by rw [sG.cl]; omega) z
      rw [h0] at hj
      cases hj
      have gj : ∀ j, j < wd → G.cols.getD j [] ∈ G.cols := fun j hj => by
        have hl : j < G.cols.length := by rw [sG.cl]; exact hj
        rw [List.getD_eq_getElem?_getD, List.getElem?_eq_getElem hl]
        exact List.getElem_mem _
      have cb := cross_bits (bs q qw) (bs j (by omega)) (sG.cb _ (gj j (by omega))) (sG.cb _ (gj q qw))
      rcases hT with ⟨z0, rfl⟩ | ⟨z0, iv, hi, rfl⟩
      · intro x hx
        obtain ⟨y, hy, rfl⟩ := List.mem_map.mp hx
        have sn : G.s ≠ 0 := fun e => A.nz (by rw [e]; exact Int.dvd_zero _)
        have h1 := cb y hy
        rw [if_pos z0] at h1
        have e : bb f a (n + 1) = a + bb f a n + 4 + bb f a n + 1 := by
          unfold bb
          rw [if_pos z0, if_pos z0]
          show a + 2 * bbit a n + 5 = _
          omega
        rw [e]
        exact Nat.lt_of_le_of_lt (fdiv_le sn) h1
      · intro x hx
        obtain ⟨y, hy, rfl⟩ := List.mem_map.mp hx
        have f1 := T.f0
        have h1 := Int.emod_nonneg (y * iv) z0
        have h2 := Int.emod_lt_of_pos (y * iv) (show 0 < f by omega)
        have e : bb f a (n + 1) = 60 := by
          unfold bb
          rw [if_neg z0]
        rw [e]
        omega
  · rw [es]
    have h1 := bs q qw
    refine Nat.lt_of_lt_of_le h1 (Nat.pow_le_pow_right (by decide) ?_)
    unfold bb
    by_cases z : f = 0
    · rw [if_pos z, if_pos z, if_pos z]
      show a + bbit a n + 4 ≤ a + 2 * bbit a n + 5
      omega
    · rw [if_neg z, if_neg z]
      exact Nat.le_refl _
theorem GI.fok (T : TabOk f wd a rows) (I : GI f wd a rows lot G) : FOk f G.s := by
  rcases T.fok with ⟨z, _⟩ | ⟨h1, h2, h3⟩
  · refine .inl ⟨z, fun e => I.nz ?_⟩
    rw [e]
    exact Int.dvd_zero _
  · exact .inr ⟨h1, h2, h3, I.nz⟩
theorem gi_start (T : TabOk f wd a rows) : GI f wd a rows [] (gStart wd) := by
  have m0 : manyL (gStart wd).held = 0 := manyL_rep wd
  have none : ∀ (j : Nat) (i : Int), (gStart wd).held[j]? ≠ some (some i) := by
    intro j i h
    have := List.mem_of_getElem? h
    have := List.eq_of_mem_replicate this
    cases this
  have cv : ∀ j, j < wd → ∀ k, k < wd → colV (gStart wd) j k = unitV j k := by
    intro j hj k hk
    unfold colV gStart vec unitV
    simp only [List.getD_eq_getElem?_getD, List.getElem?_map, List.getElem?_range hj, Option.map_some, Option.getD_some, List.getElem?_range hk]
  refine ⟨⟨?_, ?_, ?_, ?_, ?_, T.w12⟩, T.dom.one, ?_, unitV, fun _ _ => 0, Adj.congr (adj_start T.dom wd) cv, fun j i h => absurd h (none j i), ?_, ?_, fun j i h => absurd h (none j i), fun i h => nomatch h⟩
  · show ((List.range wd).map _).length = wd
    rw [List.length_map, List.length_range]
  · intro c hc
    obtain ⟨j, _, rfl⟩ := List.mem_map.mp hc
    rw [List.length_map, List.length_range]
  · show (List.replicate wd _).length = wd
    rw [List.length_replicate]
  · intro c hc
    obtain ⟨j, _, rfl⟩ := List.mem_map.mp hc
    intro x hx
    obtain ⟨k, _, rfl⟩ := List.mem_map.mp hx
    rw [m0]
    have : 2 ^ 1 ≤ 2 ^ bb f a 0 := Nat.pow_le_pow_right (by decide) bb_pos
    split <;> omega
  · rw [m0]
    have : 2 ^ 1 ≤ 2 ^ bb f a 0 := Nat.pow_le_pow_right (by decide) bb_pos
    show (1 : Int).natAbs < _
    omega
  · rw [m0]
    exact Nat.zero_le _
  · rw [m0]
    exact fun a _ i hi => absurd hi (Nat.not_lt_zero _)
  · rw [m0]
    exact fun t ht => absurd ht (Nat.not_lt_zero _)
/-- a row that lacks nothing is made of those that are held -/
theorem lack_none_span (T : TabOk f wd a rows) (I : GI f wd a rows lot G) (ln : ns.length = wd) (lk : lackL (sharesL f G.cols ns) G.held = none) {u r : Nat → Vec} (A : Adj f wd G.s (colV G) r) (hu : ∀ j i, G.held[j]? = some (some i) → ∃ t, t < manyL G.held ∧ u t = r j) :
    Span f wd (manyL G.held) u (vec ns) := by
  have D := T.dom
  have sp : Span f wd (manyL G.held) u fun k => S wd fun j => (sharesL f G.cols ns).getD j 0 * (if (G.held.getD j none).isSome then r j else fun _ => 0) k := by
    refine Span.sum D fun j hj => ?_
    cases e : G.held[j]? with
    | none =>
      have : G.held.getD j none = none := by rw [List.getD_eq_getElem?_getD, e]; rfl
      rw [this, if_neg (by decide)]
      exact Span.zero D fun _ _ => Int.dvd_zero _
    | some o =>
      have e2 : G.held.getD j none = o := by rw [List.getD_eq_getElem?_getD, e]; rfl
      rw [e2]
      cases o with
      | none =>
        rw [if_neg (by decide)]
        exact Span.zero D fun _ _ => Int.dvd_zero _
      | some i =>
        rw [if_pos (show (some i).isSome = true from rfl)]
        obtain ⟨t, ht, et⟩ := hu j i e
        rw [← et]
        exact Span.mem D ht
  refine Span.of_mul D I.nz (sp.cong D fun k hk => ?_)
  have h1 := A.all (vec ns) k hk
  have h2 : f ∣ S wd (fun j => S wd (fun l => vec ns l * colV G j l) * r j k) - S wd (fun j => (sharesL f G.cols ns).getD j 0 * (if (G.held.getD j none).isSome then r j else fun _ => 0) k) := by
    refine S_cong fun j hj => ?_
    rw [shares_at I.sh ln hj]
    have hd := redf_dvd f (S wd fun k => vec ns k * colV G j k)
    cases e : G.held.getD j none with
    | some i =>
      rw [if_pos (show (some i).isSome = true from rfl)]
      have e2 : S wd (fun l => vec ns l * colV G j l) * r j k - redf f (S wd fun k => vec ns k * colV G j k) * r j k = -((redf f (S wd fun k => vec ns k * colV G j k) - S wd fun k => vec ns k * colV G j k) * r j k) := by grind
      rw [e2]
      exact (Int.dvd_neg).mpr (Int.dvd_mul_of_dvd_left hd)
    | none =>
      rw [if_neg (by decide)]
      have hz : (sharesL f G.cols ns).getD j 0 = 0 := by
        apply Classical.byContradiction
        intro hn
        have lsh : j < (sharesL f G.cols ns).length := by unfold sharesL; rw [List.length_map, I.sh.cl]; exact hj
        have := lackFrom_none lk j _ (List.getElem?_eq_getElem lsh) (by rw [List.getD_eq_getElem?_getD, List.getElem?_eq_getElem lsh] at hn; exact hn)
        apply this
        have hl : j < G.held.length := by rw [I.sh.hl]; exact hj
        rw [List.getElem?_eq_getElem hl]
        rw [List.getD_eq_getElem?_getD, List.getElem?_eq_getElem hl] at e
        exact congrArg some e
      rw [shares_at I.sh ln hj] at hz
      rw [hz] at hd ⊢
      have e2 : S wd (fun l => vec ns l * colV G j l) * r j k - 0 * (fun _ => 0 : Vec) k = -((0 - S wd fun k => vec ns k * colV G j k) * r j k) := by
        show _ - 0 * (0 : Int) = _
        grind
      rw [e2]
      exact (Int.dvd_neg).mpr (Int.dvd_mul_of_dvd_left hd)
  have e3 : G.s * vec ns k - S wd (fun j => (sharesL f G.cols ns).getD j 0 * (if (G.held.getD j none).isSome then r j else fun _ => 0) k) =
      (S wd (fun j => S wd (fun l => vec ns l * colV G j l) * r j k) - S wd (fun j => (sharesL f G.cols ns).getD j 0 * (if (G.held.getD j none).isSome then r j else fun _ => 0) k)) - (S wd (fun j => S wd (fun l => vec ns l * colV G j l) * r j k) - G.s * vec ns k) := by omega
  rw [e3]
  exact Int.dvd_sub h2 h1
/-- a row that lacks something hangs together with none of those that are held -/
theorem lack_some_indep (T : TabOk f wd a rows) (I : GI f wd a rows lot G) (ln : ns.length = wd) (lk : lackL (sharesL f G.cols ns) G.held = some q) {u r : Nat → Vec} (A : Adj f wd G.s (colV G) r) (iu : Indep f wd (manyL G.held) u)
    (hu : ∀ t, t < manyL G.held → ∃ j i, G.held[j]? = some (some i) ∧ u t = r j) : Indep f wd (manyL G.held + 1) fun t => if t = manyL G.held then vec ns else u t := by
  have D := T.dom
  obtain ⟨_, q1, q2, q3, q4⟩ := lackFrom_lt lk
  rw [Nat.zero_add] at q1 q2
  rw [Nat.sub_zero] at q3 q4
  have qw : q < wd := by
    have : (sharesL f G.cols ns).length = wd := by unfold sharesL; rw [List.length_map, I.sh.cl]
    omega
  rw [shares_at I.sh ln qw] at q3
  have nq := redf_nz T.f0.1 q3
  have nq' : ¬ f ∣ S wd fun k => vec ns k * colV G q k := fun h => nq (by
    have := Int.dvd_add (redf_dvd f (S wd fun k => vec ns k * colV G q k)) h
    have e : redf f (S wd fun k => vec ns k * colV G q k) - (S wd fun k => vec ns k * colV G q k) + (S wd fun k => vec ns k * colV G q k) = redf f (S wd fun k => vec ns k * colV G q k) := by omega
    rw [e] at this
    exact this)
  generalize manyL G.held = n at *
  intro c hc i hi
  have split : ∀ k, S (n + 1) (fun i => c i * (if i = n then vec ns else u i) k) = S n (fun i => c i * u i k) + c n * vec ns k := by
    intro k
    show S n _ + c n * (if n = n then vec ns else u n) k = _
    rw [if_pos rfl]
    congr 1
    exact S_congr fun i hi => by rw [if_neg (by omega)]
  have cn : f ∣ c n := by
    have h1 : f ∣ S wd fun k => (S n (fun i => c i * u i k) + c n * vec ns k) * colV G q k := S_dvd fun k hk => Int.dvd_mul_of_dvd_left (by
      have := hc k hk
      rw [show (S (n + 1) fun i => c i * (fun t => if t = n then vec ns else u t) i k) = _ from split k] at this
      exact this)
    have e1 : S wd (fun k => (S n (fun i => c i * u i k) + c n * vec ns k) * colV G q k) = S n (fun i => c i * S wd fun k => u i k * colV G q k) + c n * S wd fun k => vec ns k * colV G q k := by
      have e2 : S n (fun i => c i * S wd fun k => u i k * colV G q k) = S wd fun k => S n (fun i => c i * u i k) * colV G q k := by
        rw [S_congr (g := fun i => S wd fun k => c i * (u i k * colV G q k)) fun i _ => (S_mul wd _ _).symm, S_swap]
        refine S_congr fun k _ => ?_
        rw [← S_mul']
        exact S_congr fun i _ => by grind
      rw [e2, ← S_mul, ← S_add]
      exact S_congr fun k _ => by grind
    rw [e1] at h1
    have h2 : f ∣ S n fun i => c i * S wd fun k => u i k * colV G q k := S_dvd fun t ht => by
      obtain ⟨j, i, hj, e⟩ := hu t ht
      have jw : j < wd := by
        have := (List.getElem?_eq_some_iff.mp hj).1
        rw [I.sh.hl] at this
        exact this
      have nj : j ≠ q := fun z => by
        rw [z, q4] at hj
        cases hj
      have := A.at_ j jw q qw
      rw [if_neg nj, Int.sub_zero] at this
      rw [e]
      exact Int.dvd_mul_of_dvd_right this
    have h3 := Int.dvd_sub h1 h2
    have e3 : S n (fun i => c i * S wd fun k => u i k * colV G q k) + c n * S wd (fun k => vec ns k * colV G q k) - S n (fun i => c i * S wd fun k => u i k * colV G q k) = c n * S wd fun k => vec ns k * colV G q k := by omega
    rw [e3] at h3
    exact (D.mul h3).resolve_right nq'
  by_cases z : i = n
  · rw [z]
    exact cn
  · refine iu c (fun k hk => ?_) i (by omega)
    have := hc k hk
    rw [show (S (n + 1) fun i => c i * (fun t => if t = n then vec ns else u t) i k) = _ from split k] at this
    have z2 := Int.dvd_sub this (Int.dvd_mul_of_dvd_left (c := vec ns k) cn)
    have e3 : S n (fun i => c i * u i k) + c n * vec ns k - c n * vec ns k = S n (fun i => c i * u i k) := by omega
    rw [e3] at z2
    exact z2
end
end
section
open Lin
/-- the rows of a lot -/
def LotIn (rows : List (List Int)) (lot : List Int) (x : Vec) : Prop := ∃ i ∈ lot, ∃ ns, rows[i.toNat]? = some ns ∧ x = vec ns
section
variable {f : Int} {wd a : Nat} {rows : List (List Int)} {lot : List Int} {G : GState} {ns : List Int}
theorem gi_run (T : TabOk f wd a rows) (R : GRun f wd rows lot G) : GI f wd a rows lot G := by
  induction R with
  | nil => exact gi_start T
  | @skip lot G i ns R h lk ih =>
    have ln := T.len _ (List.mem_of_getElem? h)
    obtain ⟨r, u, A, h1, h2, h3, h4, h5⟩ := ih.ex
    refine ⟨ih.sh, ih.nz, ih.le, r, u, A, fun j i hj => ?_, h2, h3, h4, fun i2 hi => ?_⟩
    · obtain ⟨m, e⟩ := h1 j i hj
      exact ⟨List.mem_append_left _ m, e⟩
    · rcases List.mem_append.mp hi with m | m
      · exact h5 i2 m
      · rw [List.mem_singleton.mp m]
        exact ⟨ns, by rw [Int.toNat_natCast]; exact h, lack_none_span T ih ln lk A h4⟩
  | @take lot G G' i q ns R h lk tk ih =>
    have ln := T.len _ (List.mem_of_getElem? h)
    have hb := T.bits _ (List.mem_of_getElem? h)
    obtain ⟨r, u, A, h1, h2, h3, h4, h5⟩ := ih.ex
    obtain ⟨A', nz, lc, rl, qw⟩ := take_adj T ih.sh A ln lk tk
    have sh' := take_bits T ih.sh A ln hb lk tk
    have ind := lack_some_indep T ih ln lk A h2 h3
    obtain ⟨_, q1, q2, q3, q4⟩ := lackFrom_lt lk
    rw [Nat.sub_zero] at q4
    rw [Nat.zero_add] at q2
    have eh : G'.held = G.held.set q (some (i : Int)) := tk.2.1
    have em : manyL G'.held = manyL G.held + 1 := by rw [eh, manyL_set q4]
    have hq : G'.held[q]? = some (some (i : Int)) := by rw [eh, List.getElem?_set_self q2]
    have hne : ∀ j, j ≠ q → G'.held[j]? = G.held[j]? := fun j nj => by rw [eh, List.getElem?_set_ne (Ne.symm nj)]
    refine ⟨by rw [em]; exact sh', nz, ?_, upd1 r q (vec ns), fun t => if t = manyL G.held then vec ns else u t, A', fun j i2 hj => ?_, by rw [em]; exact ind, fun t ht => ?_, fun j i2 hj => ?_, fun i2 hi => ?_⟩
    · have := manyL_le (held := G'.held)
      rw [eh, List.length_set, ih.sh.hl] at this
      rw [eh]
      exact this
    · by_cases z : j = q
      · rw [z, hq] at hj
        cases hj
        refine ⟨List.mem_append_right _ (List.mem_singleton.mpr rfl), ns, by rw [Int.toNat_natCast]; exact h, ?_⟩
        rw [z, upd1_at]
      · rw [hne j z] at hj
        obtain ⟨m, n2, e1, e2⟩ := h1 j i2 hj
        exact ⟨List.mem_append_left _ m, n2, e1, by rw [upd1_ne z]; exact e2⟩
    · rw [em] at ht
      by_cases z : t = manyL G.held
      · exact ⟨q, i, hq, (if_pos z).trans (upd1_at _ _ _).symm⟩
      · obtain ⟨j, i2, hj, e⟩ := h3 t (by omega)
        have nj : j ≠ q := fun e2 => by rw [e2, q4] at hj; cases hj
        exact ⟨j, i2, by rw [hne j nj]; exact hj, ((if_neg z).trans e).trans (upd1_ne nj).symm⟩
    · rw [em]
      by_cases z : j = q
      · exact ⟨manyL G.held, Nat.lt_succ_self _, (if_pos rfl).trans (by rw [z, upd1_at])⟩
      · rw [hne j z] at hj
        obtain ⟨t, ht, e⟩ := h4 j i2 hj
        exact ⟨t, by omega, ((if_neg (by omega)).trans e).trans (upd1_ne z).symm⟩
    · rw [em]
      have hu : ∀ x, Span f wd (manyL G.held) u x → Span f wd (manyL G.held + 1) (fun t => if t = manyL G.held then vec ns else u t) x := fun x hx => hx.trans T.dom fun i hi => by
        have := Span.mem (p := f) (n := manyL G.held + 1) (w := wd) (v := fun t => if t = manyL G.held then vec ns else u t) T.dom (Nat.lt_succ_of_lt hi)
        simpa [Nat.ne_of_lt hi] using this
      rcases List.mem_append.mp hi with m | m
      · obtain ⟨n2, e1, e2⟩ := h5 i2 m
        exact ⟨n2, e1, hu _ e2⟩
      · rw [List.mem_singleton.mp m]
        refine ⟨ns, by rw [Int.toNat_natCast]; exact h, ?_⟩
        have := Span.mem (p := f) (n := manyL G.held + 1) (w := wd) (v := fun t => if t = manyL G.held then vec ns else u t) T.dom (Nat.lt_succ_self _)
        simpa using this
theorem run_rank (T : TabOk f wd a rows) (R : GRun f wd rows lot G) : RankOf f wd (LotIn rows lot) (manyL G.held) := by
  obtain ⟨r, u, A, h1, h2, h3, h4, h5⟩ := (gi_run T R).ex
  refine ⟨u, h2, fun t ht => ?_, fun x ⟨i, hi, ns, e1, e2⟩ => ?_⟩
  · obtain ⟨j, i, hj, e⟩ := h3 t ht
    obtain ⟨m, ns, e1, e2⟩ := h1 j i hj
    rw [e, e2]
    exact .mem ⟨i, m, ns, e1, rfl⟩
  · obtain ⟨n2, e3, e4⟩ := h5 i hi
    rw [e1] at e3
    cases e3
    rw [e2]
    exact e4
theorem run_none (T : TabOk f wd a rows) (R : GRun f wd rows lot G) (ln : ns.length = wd) (lk : lackL (sharesL f G.cols ns) G.held = none) : RankOf f wd (fun x => LotIn rows lot x ∨ x = vec ns) (manyL G.held) := by
  have I := gi_run T R
  obtain ⟨r, u, A, h1, h2, h3, h4, h5⟩ := I.ex
  refine ⟨u, h2, fun t ht => ?_, fun x hx => ?_⟩
  · obtain ⟨j, i, hj, e⟩ := h3 t ht
    obtain ⟨m, n2, e1, e2⟩ := h1 j i hj
    rw [e, e2]
    exact .mem (.inl ⟨i, m, n2, e1, rfl⟩)
  · rcases hx with ⟨i, hi, n3, e1, e2⟩ | e
    · obtain ⟨n2, e3, e4⟩ := h5 i hi
      rw [e1] at e3
      cases e3
      rw [e2]
      exact e4
    · rw [e]
      exact lack_none_span T I ln lk A h4
theorem run_some {q : Nat} (T : TabOk f wd a rows) (R : GRun f wd rows lot G) (ln : ns.length = wd) (lk : lackL (sharesL f G.cols ns) G.held = some q) : RankOf f wd (fun x => LotIn rows lot x ∨ x = vec ns) (manyL G.held + 1) := by
  have I := gi_run T R
  obtain ⟨r, u, A, h1, h2, h3, h4, h5⟩ := I.ex
  have hu : ∀ x, Span f wd (manyL G.held) u x → Span f wd (manyL G.held + 1) (fun t => if t = manyL G.held then vec ns else u t) x := fun x hx => hx.trans T.dom fun i hi => by
    have := Span.mem (p := f) (n := manyL G.held + 1) (w := wd) (v := fun t => if t = manyL G.held then vec ns else u t) T.dom (Nat.lt_succ_of_lt hi)
    simpa [Nat.ne_of_lt hi] using this
  refine ⟨fun t => if t = manyL G.held then vec ns else u t, lack_some_indep T I ln lk A h2 h3, fun t ht => ?_, fun x hx => ?_⟩
  · by_cases z : t = manyL G.held
    · show Cl f wd _ (if t = manyL G.held then vec ns else u t)
      rw [if_pos z]
      exact .mem (.inr rfl)
    · show Cl f wd _ (if t = manyL G.held then vec ns else u t)
      rw [if_neg z]
      obtain ⟨j, i, hj, e⟩ := h3 t (by omega)
      obtain ⟨m, n2, e1, e2⟩ := h1 j i hj
      rw [e, e2]
      exact .mem (.inl ⟨i, m, n2, e1, rfl⟩)
  · rcases hx with ⟨i, hi, n3, e1, e2⟩ | e
    · obtain ⟨n2, e3, e4⟩ := h5 i hi
      rw [e1] at e3
      cases e3
      rw [e2]
      exact hu _ e4
    · rw [e]
      have := Span.mem (p := f) (n := manyL G.held + 1) (w := wd) (v := fun t => if t = manyL G.held then vec ns else u t) T.dom (Nat.lt_succ_self _)
      simpa using this
end
end
/-! ### lots: what is one, the gauge of one -/
abbrev sLotFault : Stmt := top 20
abbrev sCheckLot : Stmt := top 21
abbrev sGaugeOf : Stmt := top 25
abbrev sRank : Stmt := inClass (top 30) 6
abbrev sIsFree : Stmt := inClass (top 30) 7
abbrev sHull : Stmt := inClass (top 30) 8
/-- what is handed over as a lot: none where it is no list -/
inductive Lv (H : Hp) : V → Option (List V) → Prop
  | no {x : V} (h : Oth H x) : Lv H x none
  | yes {a : Addr} {xs : List V} (h : Sq H a xs) (k : ∀ y ∈ xs, Any H y) : Lv H (.ref a) (some xs)
theorem Lv.same {H H' : Hp} {x : V} {o : Option (List V)} (h : Lv H x o) (s : Same H H') : Lv H' x o := by
  cases h with
  | no h => exact .no (h.same s)
  | yes h k => exact .yes (h.same s) fun y m => (k y m).same s
def nxt : V → Int
  | .int i => i + 1
  | _ => 0
def lotF (m : Int) : Nat → Int → List V → Option Nat
  | _, _, [] => none
  | i, lo, x :: r => if inR x lo (m - 1) = true then lotF m (i + 1) (nxt x) r else some i
def lotFault (m : Int) : Option (List V) → Option Nat
  | none => some 0
  | some xs => lotF m 0 0 xs
theorem lotF_at {m lo : Int} {xs : List V} {i : Nat} {x : V} (h : xs[i]? = some x) : lotF m i lo (xs.drop i) = if inR x lo (m - 1) = true then lotF m (i + 1) (nxt x) (xs.drop (i + 1)) else some i := by
  have hi := (List.getElem?_eq_some_iff.mp h).1
  have e : xs.drop i = x :: xs.drop (i + 1) := by
    rw [List.drop_eq_getElem_cons hi]
    rw [List.getElem?_eq_getElem hi] at h
    cases h
    rfl
  rw [e]
  rfl
def spListL : Sp := fun vs H Q _ => ∃ x o, vs = [x] ∧ Lv H x o ∧ ∀ H', Same H H' → Q (.bl o.isSome) H'
def spLotFault : Sp := fun vs H Q _ => ∃ x o m, vs = [x, .int m] ∧ Lv H x o ∧ (∀ xs, o = some xs → xs.length ≤ 1000) ∧ ∀ H', Same H H' → Q (natV (lotFault m o)) H'
def spCheckLot (CB : Addr) : Sp := fun vs H Q E => ∃ x o m, vs = [x, .int m] ∧ Lv H x o ∧ (∀ xs, o = some xs → xs.length ≤ 1000) ∧ (lotFault m o = none → ∀ H', Same H H' → Q .non H') ∧
  (∀ k, lotFault m o = some k → ∀ d H', Same H H' → H d = none → H' d = some (.xd [("place", .int (k : Int))]) → E (.ref CB) (some d) H')
/-- what the walk of a list or a tuple asks, where other things may change -/
theorem seqvS {K : PySem.W.Frag} {σ : L2.St} {H : Hp} {i : Nat} {a : Addr} {xs : List V} {R : It → Hp → Prop} (hv : σ[i]? = some (some (.ref a))) (hS : Sq H a xs)
    (h : ∀ (J : It) (G : Hp → Prop), Walk J xs.length G (YAt xs) → (∀ H', (∀ u, H a = some u → H' a = some u) → G H') → R J H) : iOr (iList K (tVar i)) (iTup K (tVar i)) σ H R := by
  rcases hS with e | e
  · exact .inl ⟨_, hv, a, rfl, ⟨xs, SqL.of e⟩, h _ _ walk_list fun H' s => SqL.of (s _ e)⟩
  · exact .inr ⟨_, hv, a, rfl, ⟨xs, SqT.of e⟩, h _ _ walk_tup fun H' s => SqT.of (s _ e)⟩
section
variable {P : Program} {w : World} {K : PySem.W.Frag} {mg : Str → Option Value} {base : Heap}
theorem passNo {X : Cx} {P : Program} {w : World} : Passes (L2.CX P w) X (fun _ _ _ => False) := by
  intro pins σ H s e s' I h
  obtain ⟨a, B, H', cls, d, _, _, _, _, _, _, _, h⟩ := h
  exact h.elim
theorem ok_listL {f : Addr} {fd : FuncData} (F : Fun K "is_list" "is_list" sList f fd) (N : Nm mg) : FnOk P w K mg base CX0 1 f fd ["value"] spListL := by
  refine F.ok scLi (fun vs H Q E h => ?_) (fun cdv A outer s H vs Q E hr h => ?_)
  · obtain ⟨x, o, rfl, _⟩ := h
    rfl
  · obtain ⟨x, o, rfl, hx, k⟩ := h
    refine ⟨_, pss_one (ps_ret (pe_callB call_isiT (by rfl) N.isin (by decide +kernel) (pa_cons (pv 0) (pa_cons (pe_tup (pa_cons (pe_bltn (v := V.ty "list") (by rfl) N.list (by decide +kernel) rfl)
      (pa_cons (pe_bltn (v := V.ty "tuple") (by rfl) N.tuple (by decide +kernel) rfl) pa_nil))) pa_nil)))), ?_⟩
    refine ⟨_, rfl, by show 2 ≤ sizeLine; decide, fun t ht => ?_⟩
    have s1 := same_upd ht (o := .tup [.ty "list", .ty "tuple"])
    cases hx with
    | no h =>
      obtain ⟨ty, h1, h2, _⟩ := oth_ty (K := K) (h.same s1)
      exact ⟨_, t, _, _, _, false, rfl, upd_same, .cons (.ty _) (.cons (.ty _) .nil), h1, h2, k _ s1⟩
    | yes h _ =>
      obtain ⟨ty, h1, h2, _⟩ := sq_ty (K := K) (h.same s1)
      exact ⟨_, t, _, _, _, true, rfl, upd_same, .cons (.ty _) (.cons (.ty _) .nil), h1, h2, k _ s1⟩
theorem scLoF : FnScope ["lot", "many", "least", "place", "row"] ["lot", "many"] (defScope sLotFault) := ⟨rfl, rfl, rfl, by decide +kernel, rfl, by decide +kernel, by decide +kernel⟩
theorem ok_lotfault {f fL fI : Addr} {fd fdL fdI : FuncData} (F : Fun K "lot_fault" "lot_fault" sLotFault f fd) (N : Nm mg)
    (GL : FnOk P w K mg base CX0 1 fL fdL ["value"] spListL) (kL : PySem.W.keepIn K (.ref fL) = true) (bL : Binds K fdL ["value"] []) (gL : mg "is_list" = some (.ref fL))
    (GI : FnOk P w K mg base CX0 2 fI fdI ["value", "low", "high"] spIntA) (kI : PySem.W.keepIn K (.ref fI) = true) (bI : Binds K fdI ["value", "low", "high"] []) (gI : mg "is_integer" = some (.ref fI)) : FnOk P w K mg base CX0 3 f fd ["lot", "many"] spLotFault := by
  refine F.ok scLoF (fun vs H Q E h => ?_) (fun cdv A outer s H vs Q E hr h => ?_)
  · obtain ⟨x, o, m, rfl, _⟩ := h
    rfl
  · obtain ⟨x, o, m, rfl, hx, hl, k⟩ := h
    have nd := scLoF.nd
    have hr1 : Room 1 _ := hr.mono (by decide)
    refine ⟨_, pss_cons (ps_if (pt_not (pt_val (pe_call GL hr1 rfl gL kL bL .nil pass0 (pa_cons (pv 0) pa_nil)))) (pss_one (ps_ret pe_int)) pss_nil)
      (pss_cons (ps_set (i := 2) nd rfl (.inl rfl) pe_int)
      (pss_cons (ps_for PassesOwn.never rfl (pi_enumv (by rfl) N.enum (pa_cons (pv 0) pa_nil)) (pg_tup rfl (pgs_cons (pg_name (i := 3) nd rfl (.inl rfl)) (pgs_cons (pg_name (i := 4) nd rfl (.inl rfl)) pgs_nil)))
        (pss_cons (ps_if (pt_not (pt_val (pe_call GI hr rfl gI kI bI .nil pass0 (pa_cons (pv 4) (pa_cons (pv 2) (pa_cons (pe_op op_sub (pv 1) pe_int) pa_nil)))))) (pss_one (ps_ret (pv 3))) pss_nil)
          (pss_one (ps_set (i := 2) nd rfl (.inl rfl) (pe_op op_add (pv 4) pe_int)))))
      (pss_one (ps_ret pe_non)))), ?_⟩
    refine ⟨_, rfl, x, o, rfl, hx, fun H1 s1 => ⟨o.isSome, rfl, ?_⟩⟩
    cases hx with
    | no h => exact iteT (k _ s1)
    | @yes a xs hS hI =>
      refine iteF ?_
      have hS1 := hS.same s1
      refine enumv rfl hS1 fun J G wk hG => for_it wk (fun i σ H' => ∃ (lo : Int) (u v : Option V), σ = [some (.ref a), some (.int m), some (.int lo), u, v] ∧ Same H1 H' ∧ lotF m i lo (xs.drop i) = lotF m 0 0 xs) ⟨0, none, none, rfl, same_refl, rfl⟩ (fun i σ H' _ ⟨_, _, _, _, sH, _⟩ => hG _ sH) ?_ ?_
      · rintro i x0 σ H' H2 hi ⟨lo, u, v, rfl, sH, hk⟩ ⟨T0, x1, y1, rfl, nT, rfl, hx1, hy1⟩
        cases hx1
        have sT := sH.trans (same_upd nT (o := .tup [.int (i : Nat), y1]))
        rw [lotF_at hy1] at hk
        refine ⟨T0, [.int (i : Nat), y1], rfl, .inl (.inl upd_same), rfl, .int (i : Nat), [y1], rfl, y1, [], rfl, rfl, ?_⟩
        refine ⟨_, rfl, _, rfl, _, rfl, _, _, rfl, rfl, y1, lo, m - 1, rfl, (hI y1 (List.mem_of_getElem? hy1)).same (s1.trans sT), inR y1 lo (m - 1), rfl, ?_⟩
        cases hin : inR y1 lo (m - 1) with
        | false =>
          rw [hin, if_neg Bool.false_ne_true] at hk
          refine iteT ⟨_, rfl, ?_⟩
          have q := k _ (s1.trans sT)
          have e : lotFault m (some xs) = some i := hk.symm
          rw [e] at q
          exact q
        | true =>
          rw [hin, if_pos rfl] at hk
          refine iteF ?_
          obtain ⟨n, rfl⟩ : ∃ n, y1 = .int n := by
            cases y1 with
            | int n => exact ⟨n, rfl⟩
            | _ => cases hin
          exact ⟨_, rfl, _, _, rfl, rfl, n + 1, _, _, rfl, sT, hk⟩
      · rintro σ H' ⟨lo, u, v, rfl, sH, hk⟩
        rw [List.drop_length] at hk
        have q := k _ (s1.trans sH)
        have e : lotFault m (some xs) = none := hk.symm
        rw [e] at q
        exact q
theorem scCL : FnScope ["lot", "many", "fault"] ["lot", "many"] (defScope sCheckLot) := ⟨rfl, rfl, rfl, by decide +kernel, rfl, by decide +kernel, by decide +kernel⟩
theorem ok_checklot {f fF CB fB : Addr} {fd fdF fdB : FuncData} (F : Fun K "check_lot" "check_lot" sCheckLot f fd) (MB : Made K P mg "BadLot" "place" CB fB fdB)
    (GF : FnOk P w K mg base CX0 3 fF fdF ["lot", "many"] spLotFault) (kF : PySem.W.keepIn K (.ref fF) = true) (bF : Binds K fdF ["lot", "many"] []) (gF : mg "lot_fault" = some (.ref fF)) : FnOk P w K mg base (L2.CX P w) 4 f fd ["lot", "many"] (spCheckLot CB) := by
  refine F.okX scCL (fun vs H Q E h => ?_) (fun cdv A outer s H vs Q E hr h => ?_)
  · obtain ⟨x, o, m, rfl, _⟩ := h
    rfl
  · obtain ⟨x, o, m, rfl, hx, hl, kY, kE⟩ := h
    have nd := scCL.nd
    have hr1 : Room 1 _ := hr.mono (by decide)
    refine ⟨_, pss_cons (ps_set (i := 2) nd rfl (.inl rfl) (pe_call GF hr rfl gF kF bF .nil pass0 (pa_cons (pv 0) (pa_cons (pv 1) pa_nil))))
      (pss_one (ps_if (pt_cmpR op_notN (pv 2) pe_non (nomark _)) (pss_one (ps_raiseM MB hr1 rfl (takes_of rfl rfl rfl rfl) (by rfl) (pv 2))) pss_nil)), ?_⟩
    refine ⟨_, rfl, _, rfl, x, o, m, rfl, hx, hl, fun H1 s1 => ⟨_, rfl, rfl, _, rfl, ?_⟩⟩
    cases hq : lotFault m o with
    | none => exact iteF (kY hq _ s1)
    | some k => exact iteT ⟨_, rfl, raise_in MB.of fun d hd => kE k hq d _ (s1.trans (same_upd hd)) (s1.free hd) upd_same⟩
end
/-! ### the gauge of a lot; ranks -/
theorem lot_ints {m : Int} : ∀ {xs : List V} {i : Nat} {lo : Int}, 0 ≤ lo → lotF m i lo xs = none → ∃ lot : List Int, xs = lot.map V.int ∧ (∀ j ∈ lot, lo ≤ j ∧ j ≤ m - 1) ∧ lot.Pairwise (· < ·)
  | [], _, _, _, _ => ⟨[], rfl, fun _ h => (nomatch h), List.Pairwise.nil⟩
  | x :: r, i, lo, l0, h => by
    unfold lotF at h
    by_cases z : inR x lo (m - 1) = true
    · rw [if_pos z] at h
      obtain ⟨n, rfl⟩ : ∃ n, x = .int n := by
        cases x with
        | int n => exact ⟨n, rfl⟩
        | _ => cases z
      have z2 : (decide (lo ≤ n) && decide (n ≤ m - 1)) = true := z
      rw [Bool.and_eq_true] at z2
      have h1 := of_decide_eq_true z2.1
      have h2 := of_decide_eq_true z2.2
      obtain ⟨lot, e, b, pw⟩ := lot_ints (lo := n + 1) (by omega) h
      refine ⟨n :: lot, by rw [e]; rfl, fun j hj => ?_, .cons (fun j hj => ?_) pw⟩
      · rcases List.mem_cons.mp hj with rfl | m
        · exact ⟨h1, h2⟩
        · have := b j m
          omega
      · have := b j hj
        omega
    · rw [if_neg z] at h
      cases h
theorem lot_len {m : Int} {xs : List V} {lot : List Int} (h : lotF m 0 0 xs = none) (e : xs = lot.map V.int) : (lot.length : Int) ≤ m ∨ lot = [] := by
  have key : ∀ {xs : List V} {i : Nat} {lo : Int}, lotF m i lo xs = none → xs ≠ [] → lo + xs.length ≤ m := by
    intro xs
    induction xs with
    | nil => exact fun _ h => absurd rfl h
    | cons x r ih =>
      intro i lo h _
      unfold lotF at h
      by_cases z : inR x lo (m - 1) = true
      · rw [if_pos z] at h
        cases x with
        | int n =>
          have z2 : (decide (lo ≤ n) && decide (n ≤ m - 1)) = true := z
          rw [Bool.and_eq_true] at z2
          have h1 := of_decide_eq_true z2.1
          have h2 := of_decide_eq_true z2.2
          rw [List.length_cons]
          by_cases e : r = []
          · rw [e]
            show lo + ((0 + 1 : Nat) : Int) ≤ m
            omega
          · have := ih h e
            have e2 : nxt (.int n) = n + 1 := rfl
            rw [e2] at this
            omega
        | _ => cases z
      · rw [if_neg z] at h
        cases h
  by_cases z : xs = []
  · refine .inr ?_
    rw [z] at e
    cases lot with
    | nil => rfl
    | cons _ _ => cases e
  · have := key h z
    rw [e, List.length_map] at this
    exact .inl (by omega)
/-- what stands in a table, told -/
abbrev rowsT (f : Int) (nss : List (List Int)) : List (List Int) := tellN f nss
abbrev widT (nss : List (List Int)) : Nat := (nss.headD []).length
def spGaugeOf (C CG : Addr) : Sp := fun vs H Q _ => ∃ (p l : Addr) (f : Int) (a : Nat) (nss : List (List Int)) (lot : List Int), vs = [.ref p, .ref l] ∧ TabAt C H p f nss ∧ Sq H l (lot.map V.int) ∧ (∀ i ∈ lot, 0 ≤ i ∧ i < (nss.length : Int)) ∧ TabOk f (widT nss) a (rowsT f nss) ∧
  ∀ H' g c h G, Same H H' → H g = none → H c = none → H h = none → GaugeAt CG H' g c h f G → GRun f (widT nss) (rowsT f nss) lot G → Q (.ref g) H'
structure GFns (P : Program) (w : World) (K : PySem.W.Frag) (mg : Str → Option Value) (base : Heap) (CG : Addr) (fI fT fM fK : Addr) (fdI fdT fdM fdK : FuncData) : Prop where
  T : GTxt K mg CG
  mkC : Mk K CG fI
  gI : FnOk P w K mg base CX0 1 fI fdI ["self", "width", "field"] (spGInit CG)
  bI : Binds K fdI ["self", "width", "field"] []
  gT : FnOk P w K mg base CX0 3 fT fdT ["self", "row", "numbers"] (spGTake CG)
  mT : Meth K CG "take" fT
  bT : Binds K fdT ["self", "row", "numbers"] []
  gM : FnOk P w K mg base CX0 1 fM fdM ["self"] (spGMany CG)
  mM : Meth K CG "many" fM
  bM : Binds K fdM ["self"] []
  gK : FnOk P w K mg base CX0 2 fK fdK ["self", "numbers"] (spGMakers CG)
  mK : Meth K CG "makers" fK
  bK : Binds K fdK ["self", "numbers"] []
structure RFns (P : Program) (w : World) (K : PySem.W.Frag) (mg : Str → Option Value) (base : Heap) (C CN : Addr) (fR fF fW pF pW : Addr) (fdR fdF fdW : FuncData) : Prop where
  T : RTxt K mg C
  gR : FnOk P w K mg base (L2.CX P w) 3 fR fdR ["self", "row"] (spRowAt C CN)
  mR : Meth K C "row_at" fR
  bR : Binds K fdR ["self", "row"] []
  gF : FnOk P w K mg base CX0 1 fF fdF ["self"] (getSp C "_field")
  bF : Binds K fdF ["self"] []
  pF : PropOf K C "field" pF fF
  gW : FnOk P w K mg base CX0 1 fW fdW ["self"] (getSp C "_width")
  bW : Binds K fdW ["self"] []
  pW : PropOf K C "width" pW fW
theorem rows_at {f : Int} {nss : List (List Int)} {i : Nat} {ns : List Int} (h : nss[i]? = some ns) : (rowsT f nss)[i]? = some (ns.map (tell f)) := by
  show (nss.map _)[i]? = _
  rw [List.getElem?_map, h]
  rfl
section
variable {P : Program} {w : World} {K : PySem.W.Frag} {mg : Str → Option Value} {base : Heap} {C CN CG : Addr} {fI fT fM fK fR fF fW pF pW : Addr} {fdI fdT fdM fdK fdR fdF fdW : FuncData}
theorem scGO : FnScope ["table", "lot", "gauge", "row"] ["table", "lot"] (defScope sGaugeOf) := ⟨rfl, rfl, rfl, by decide +kernel, rfl, by decide +kernel, by decide +kernel⟩
theorem ok_gaugeof {f : Addr} {fd : FuncData} (F : Fun K "gauge_of" "gauge_of" sGaugeOf f fd) (GF : GFns P w K mg base CG fI fT fM fK fdI fdT fdM fdK) (RF : RFns P w K mg base C CN fR fF fW pF pW fdR fdF fdW) :
    FnOk P w K mg base CX0 4 f fd ["table", "lot"] (spGaugeOf C CG) := by
  refine F.ok scGO (fun vs H Q E h => ?_) (fun cdv A outer s H vs Q E hr h => ?_)
  · obtain ⟨p, l, fl, a, nss, lot, rfl, _⟩ := h
    rfl
  · obtain ⟨p, l, fl, a, nss, lot, rfl, hT, hL, hlot, ok, k⟩ := h
    have nd := scGO.nd
    have hr2 : Room 2 _ := hr.mono (by decide)
    refine ⟨_, pss_cons (ps_set (i := 2) nd rfl (.inl rfl) (pe_make GF.mkC GF.gI hr2 (by rfl) GF.T.mgC GF.bI .nil pass0 (pa_cons (pe_prop (pv 0) RF.T.cl RF.pW RF.gW hr2 RF.bW .nil pass0 rfl) (pa_cons (pe_prop (pv 0) RF.T.cl RF.pF RF.gF hr2 RF.bF .nil pass0 rfl) pa_nil))))
      (pss_cons (ps_for PassesOwn.never rfl (pi_seqv (pv 1)) (pg_name (i := 3) nd rfl (.inl rfl)) (pss_one (ps_expr (pe_meth (pv 2) GF.T.cl GF.mT GF.gT hr GF.bT .nil pass0 (pa_cons (pv 3) (pa_cons (pe_meth (pv 0) RF.T.cl RF.mR RF.gR hr RF.bR .nil passNo (pa_cons (pv 3) pa_nil)) pa_nil))))))
      (pss_one (ps_ret (pv 2)))), ?_⟩
    obtain ⟨dx, t, ts, hp, ht, hts⟩ := id hT
    refine ⟨_, rfl, p, dx, _, rfl, hp, p, dx, _, _, rfl, hp, rfl, _, rfl, p, dx, _, rfl, hp, p, dx, _, _, rfl, hp, rfl, fun g dg ng ndg ne => ?_⟩
    have sG := (same_upd ndg (o := .own g)).trans (same_upd (o := .ins CG dg []) (by rw [upd_ne (Ne.symm ne)]; exact ng))
    generalize hH1 : upd (upd H dg (.own g)) g (.ins CG dg []) = H1 at sG
    have g1 : H1 g = some (.ins CG dg []) := by rw [← hH1, upd_same]
    refine ⟨g, dg, fl, widT nss, rfl, g1, ok.w12, fun H2 c h b2 nc nh hG => ⟨rfl, ?_⟩⟩
    have keep : ∀ b u, H b = some u → H2 b = some u := fun b u e => b2 _ _ (ne_of_none e ng) (sG _ _ e)
    have nc0 : H c = none := sG.free nc
    have nh0 : H h = none := sG.free nh
    refine seqvS (K := K) rfl (hL.same keep) fun J G wk hG2 => for_it wk (fun i σ H' => ∃ (v : Option V) (Gs : GState), σ = [some (.ref p), some (.ref l), some (.ref g), v] ∧ Same H H' ∧ GaugeAt CG H' g c h fl Gs ∧ GRun fl (widT nss) (rowsT fl nss) (lot.take i) Gs)
      ⟨none, gStart (widT nss), rfl, keep, hG, .nil⟩ (fun i σ H' _ ⟨_, _, _, sH, _⟩ => ?_) ?_ ?_
    · refine hG2 _ fun u e => ?_
      rcases hL with h | h
      · rw [keep _ _ h] at e
        cases e
        exact sH _ _ h
      · rw [keep _ _ h] at e
        cases e
        exact sH _ _ h
    · rintro i x σ H' H'' hi ⟨v, Gs, rfl, sH, hGs, run⟩ ⟨rfl, hx⟩
      obtain ⟨j, rfl, hj⟩ := int_at hx
      obtain ⟨j0, j1⟩ := hlot j (List.mem_of_getElem? hj)
      obtain ⟨n, rfl⟩ : ∃ n : Nat, j = n := ⟨j.toNat, by omega⟩
      have hns : nss[n]? = some (nss[n]'(by omega)) := List.getElem?_eq_getElem _
      generalize nss[n]'(by omega) = ns at hns
      have hrow := rows_at (f := fl) hns
      have I := gi_run ok run
      have tk : lot.take (i + 1) = lot.take i ++ [(n : Int)] := by rw [List.take_succ, hj]; rfl
      obtain ⟨dxg, cs, hg', hc', hh', hcs', nch, hap⟩ := id hGs
      refine ⟨_, rfl, g, dxg, _, rfl, hg', rfl, _, rfl, _, rfl, p, dx, _, rfl, sH _ _ hp, rfl, _, rfl, p, .int (n : Int), fl, nss, rfl, hT.keep sH, .inl (.int _), fun i2 ns2 e1 e2 t' ht' => ?_, fun e1 => ?_⟩
      · obtain rfl : i2 = n := by
          have := V.int.inj e1
          omega
        rw [hns] at e2
        cases e2
        have mrow := List.mem_of_getElem? hrow
        refine ⟨g, c, h, t', fl, (i2 : Int), widT nss, a, _, Gs, ns.map (tell fl), rfl, hGs, I.sh, I.fok ok, ht', ok.len _ mrow, ok.bits _ mrow, ok.a0, bb_pos, ok.a8, ok.b8 I.le, ok.f0.1, ok.f0.2, fun e => ?_, fun e => ?_, fun e => ?_, fun lk H3 s3 => ?_, fun q lk H3 G3 b3 hG3 tk3 => ?_⟩
        · rw [e, hg'] at ht'
          cases ht'
        · rw [e, hc'] at ht'
          cases ht'
        · rw [e, hh'] at ht'
          cases ht'
        · refine ⟨_, Gs, rfl, sH.trans s3, hGs.keep s3, ?_⟩
          rw [tk]
          exact .skip run hrow lk
        · refine ⟨_, G3, rfl, fun b u e => b3 _ _ (ne_of_none e ng) (ne_of_none e nc0) (ne_of_none e nh0) (sH _ _ e), hG3, ?_⟩
          rw [tk]
          exact .take run hrow lk tk3
      · have e2 : inR (.int (n : Int)) 0 ((nss.length : Int) - 1) = true := by
          show (decide (0 ≤ (n : Int)) && decide ((n : Int) ≤ (nss.length : Int) - 1)) = true
          rw [decide_eq_true j0, decide_eq_true (by omega)]
          rfl
        rw [e2] at e1
        cases e1
    · rintro σ H' ⟨v, Gs, rfl, sH, hGs, run⟩
      rw [List.length_map, List.take_length] at run
      exact ⟨_, rfl, k H' g c h Gs sH ng nc0 nh0 hGs run⟩
end
/-! ### rank, is_free, hull -/
/-- what a question about a lot is told -/
def LotE (CB : Addr) (H : Hp) (o : Option (List V)) (m : Nat) (E : XK) : Prop := ∀ k, lotFault m o = some k → ∀ d H', Same H H' → H d = none → H' d = some (.xd [("place", .int (k : Int))]) → E (.ref CB) (some d) H'
def spRank (C CB : Addr) : Sp := fun vs H Q E => ∃ (p : Addr) (x : V) (o : Option (List V)) (f : Int) (a : Nat) (nss : List (List Int)), vs = [.ref p, x] ∧ TabAt C H p f nss ∧ Lv H x o ∧ (∀ xs, o = some xs → xs.length ≤ 1000) ∧ TabOk f (widT nss) a (rowsT f nss) ∧
  (∀ lot : List Int, lotFault nss.length o = none → o = some (lot.map V.int) → ∀ H' G, Same H H' → GRun f (widT nss) (rowsT f nss) lot G → Q (.int (manyL G.held : Int)) H') ∧ LotE CB H o nss.length E
def spIsFree (C CB : Addr) : Sp := fun vs H Q E => ∃ (p : Addr) (x : V) (o : Option (List V)) (f : Int) (a : Nat) (nss : List (List Int)), vs = [.ref p, x] ∧ TabAt C H p f nss ∧ Lv H x o ∧ (∀ xs, o = some xs → xs.length ≤ 1000) ∧ TabOk f (widT nss) a (rowsT f nss) ∧
  (∀ lot : List Int, lotFault nss.length o = none → o = some (lot.map V.int) → ∀ H' G, Same H H' → GRun f (widT nss) (rowsT f nss) lot G → Q (.bl (decide (manyL G.held = lot.length))) H') ∧ LotE CB H o nss.length E
def hullL (f : Int) (rows : List (List Int)) (G : GState) : List Nat := (List.range rows.length).filter fun i => (lackL (sharesL f G.cols (rows.getD i [])) G.held).isNone
def spHull (C CB : Addr) : Sp := fun vs H Q E => ∃ (p : Addr) (x : V) (o : Option (List V)) (f : Int) (a : Nat) (nss : List (List Int)), vs = [.ref p, x] ∧ TabAt C H p f nss ∧ Lv H x o ∧ (∀ xs, o = some xs → xs.length ≤ 1000) ∧ nss.length ≤ 60 ∧ TabOk f (widT nss) a (rowsT f nss) ∧
  (∀ lot : List Int, lotFault nss.length o = none → o = some (lot.map V.int) → ∀ H' G l, Same H H' → H l = none → GRun f (widT nss) (rowsT f nss) lot G → H' l = some (.lst ((hullL f (rowsT f nss) G).map fun i : Nat => V.int (i : Int))) → Q (.ref l) H') ∧ LotE CB H o nss.length E
/-- a lot without fault -/
theorem lv_ints {H : Hp} {x : V} {o : Option (List V)} {m : Nat} (h : Lv H x o) (z : lotFault m o = none) : ∃ (l : Addr) (lot : List Int), x = .ref l ∧ o = some (lot.map V.int) ∧ Sq H l (lot.map V.int) ∧ (∀ i ∈ lot, 0 ≤ i ∧ i < (m : Int)) ∧ lot.Pairwise (· < ·) := by
  cases h with
  | no _ => cases z
  | @yes l xs hS _ =>
    obtain ⟨lot, e, b, pw⟩ := lot_ints (Int.le_refl 0) z
    subst e
    refine ⟨l, lot, rfl, rfl, hS, fun i hi => ?_, pw⟩
    have := b i hi
    omega
section
variable {P : Program} {w : World} {K : PySem.W.Frag} {mg : Str → Option Value} {base : Heap} {C CN CG CB : Addr} {fI fT fM fK fR fF fW pF pW : Addr} {fdI fdT fdM fdK fdR fdF fdW : FuncData}
theorem scRk : FnScope ["self", "lot"] ["self", "lot"] (defScope sRank) := ⟨rfl, rfl, rfl, by decide +kernel, rfl, by decide +kernel, by decide +kernel⟩
theorem ok_rank {f fC fO : Addr} {fd fdC fdO : FuncData} (F : Fun K "rank" "Rows.rank" sRank f fd) (N : Nm mg) (GF : GFns P w K mg base CG fI fT fM fK fdI fdT fdM fdK) (RF : RFns P w K mg base C CN fR fF fW pF pW fdR fdF fdW)
    (GC : FnOk P w K mg base (L2.CX P w) 4 fC fdC ["lot", "many"] (spCheckLot CB)) (kC : PySem.W.keepIn K (.ref fC) = true) (bC : Binds K fdC ["lot", "many"] []) (gC : mg "check_lot" = some (.ref fC))
    (GO : FnOk P w K mg base CX0 4 fO fdO ["table", "lot"] (spGaugeOf C CG)) (kO : PySem.W.keepIn K (.ref fO) = true) (bO : Binds K fdO ["table", "lot"] []) (gO : mg "gauge_of" = some (.ref fO)) :
    FnOk P w K mg base (L2.CX P w) 5 f fd ["self", "lot"] (spRank C CB) := by
  refine F.okX scRk (fun vs H Q E h => ?_) (fun cdv A outer s H vs Q E hr h => ?_)
  · obtain ⟨p, x, o, fl, a, nss, rfl, _⟩ := h
    rfl
  · obtain ⟨p, x, o, fl, a, nss, rfl, hT, hx, hl, ok, kY, kE⟩ := h
    have nd := scRk.nd
    have hr1 : Room 1 _ := hr.mono (by decide)
    refine ⟨_, pss_cons (ps_expr (pe_call GC hr rfl gC kC bC .nil (passes_call (takes_of rfl rfl rfl rfl) fun _ _ _ _ h => h) (pa_cons (pv 1) (pa_cons (pe_callB lenT (by rfl) N.len PySem.boot_len (pa_cons (pe_fld (pv 0) rfl) pa_nil)) pa_nil))))
      (pss_one (ps_ret (pe_meth0 (pe_call GO hr rfl gO kO bO .nil pass0 (pa_cons (pv 0) (pa_cons (pv 1) pa_nil))) GF.T.cl GF.mM GF.gM hr1 GF.bM .nil pass0))), ?_⟩
    obtain ⟨dx, t, ts, hp, ht, hts⟩ := id hT
    have tl : ts.length = nss.length := Paired.length hts
    refine ⟨_, rfl, _, rfl, p, C, dx, _, _, rfl, hp, RF.T.cl, RF.T.nR, rfl, t, _, rfl, ht, ?_⟩
    rw [List.length_map, tl]
    refine ⟨x, o, (nss.length : Int), rfl, hx, hl, fun z H1 s1 => ?_, fun k hk d H1 s1 nd1 e1 => kE k hk d H1 s1 nd1 e1⟩
    obtain ⟨l, lot, rfl, rfl, hS, hlot, _⟩ := lv_ints hx z
    refine ⟨_, rfl, _, rfl, p, l, fl, a, nss, lot, rfl, hT.keep s1, hS.same s1, hlot, ok, fun H2 g c h G s2 ng nc nh hG run => ?_⟩
    obtain ⟨dxg, cs, hg, hc, hh, hcs, nch, hap⟩ := id hG
    refine ⟨g, dxg, _, rfl, hg, rfl, g, c, h, fl, G, rfl, hG, ?_, fun H3 s3 => kY lot z rfl H3 G ((s1.trans s2).trans s3) run⟩
    have I := gi_run ok run
    rw [I.sh.hl]
    exact ok.w12
theorem scIF : FnScope ["self", "lot"] ["self", "lot"] (defScope sIsFree) := ⟨rfl, rfl, rfl, by decide +kernel, rfl, by decide +kernel, by decide +kernel⟩
theorem ok_isfree {f fC fO : Addr} {fd fdC fdO : FuncData} (F : Fun K "is_free" "Rows.is_free" sIsFree f fd) (N : Nm mg) (GF : GFns P w K mg base CG fI fT fM fK fdI fdT fdM fdK) (RF : RFns P w K mg base C CN fR fF fW pF pW fdR fdF fdW)
    (GC : FnOk P w K mg base (L2.CX P w) 4 fC fdC ["lot", "many"] (spCheckLot CB)) (kC : PySem.W.keepIn K (.ref fC) = true) (bC : Binds K fdC ["lot", "many"] []) (gC : mg "check_lot" = some (.ref fC))
    (GO : FnOk P w K mg base CX0 4 fO fdO ["table", "lot"] (spGaugeOf C CG)) (kO : PySem.W.keepIn K (.ref fO) = true) (bO : Binds K fdO ["table", "lot"] []) (gO : mg "gauge_of" = some (.ref fO)) :
    FnOk P w K mg base (L2.CX P w) 5 f fd ["self", "lot"] (spIsFree C CB) := by
  refine F.okX scIF (fun vs H Q E h => ?_) (fun cdv A outer s H vs Q E hr h => ?_)
  · obtain ⟨p, x, o, fl, a, nss, rfl, _⟩ := h
    rfl
  · obtain ⟨p, x, o, fl, a, nss, rfl, hT, hx, hl, ok, kY, kE⟩ := h
    have nd := scIF.nd
    have hr1 : Room 1 _ := hr.mono (by decide)
    refine ⟨_, pss_cons (ps_expr (pe_call GC hr rfl gC kC bC .nil (passes_call (takes_of rfl rfl rfl rfl) fun _ _ _ _ h => h) (pa_cons (pv 1) (pa_cons (pe_callB lenT (by rfl) N.len PySem.boot_len (pa_cons (pe_fld (pv 0) rfl) pa_nil)) pa_nil))))
      (pss_one (ps_ret (pe_cmpR op_eq (pe_meth0 (pe_call GO hr rfl gO kO bO .nil pass0 (pa_cons (pv 0) (pa_cons (pv 1) pa_nil))) GF.T.cl GF.mM GF.gM hr1 GF.bM .nil pass0) (pe_callB call_len_seq (by rfl) N.len PySem.boot_len (pa_cons (pv 1) pa_nil)) (nomark _)))), ?_⟩
    obtain ⟨dx, t, ts, hp, ht, hts⟩ := id hT
    have tl : ts.length = nss.length := Paired.length hts
    refine ⟨_, rfl, _, rfl, p, C, dx, _, _, rfl, hp, RF.T.cl, RF.T.nR, rfl, t, _, rfl, ht, ?_⟩
    rw [List.length_map, tl]
    refine ⟨x, o, (nss.length : Int), rfl, hx, hl, fun z H1 s1 => ?_, fun k hk d H1 s1 nd1 e1 => kE k hk d H1 s1 nd1 e1⟩
    obtain ⟨l, lot, rfl, rfl, hS, hlot, _⟩ := lv_ints hx z
    refine ⟨_, rfl, _, rfl, p, l, fl, a, nss, lot, rfl, hT.keep s1, hS.same s1, hlot, ok, fun H2 g c h G s2 ng nc nh hG run => ?_⟩
    obtain ⟨dxg, cs, hg, hc, hh, hcs, nch, hap⟩ := id hG
    refine ⟨g, dxg, _, rfl, hg, rfl, g, c, h, fl, G, rfl, hG, ?_, fun H3 s3 => ?_⟩
    · have I := gi_run ok run
      rw [I.sh.hl]
      exact ok.w12
    · refine ⟨_, rfl, l, _, rfl, sq_or (((hS.same s1).same s2).same s3), rfl, ?_⟩
      have e : decide (V.int (manyL G.held : Int) = V.int ((lot.map V.int).length : Int)) = decide (manyL G.held = lot.length) := by
        rw [List.length_map]
        exact decide_eq_decide.mpr ⟨fun h => by have := V.int.inj h; omega, fun h => by rw [h]⟩
      rw [e]
      exact kY lot z rfl H3 G ((s1.trans s2).trans s3) run
theorem scHu : FnScope ["self", "lot", "gauge", "row", "numbers"] ["self", "lot"] (defScope sHull) := ⟨rfl, rfl, rfl, by decide +kernel, rfl, by decide +kernel, by decide +kernel⟩
theorem ok_hull {f fC fO : Addr} {fd fdC fdO : FuncData} (F : Fun K "hull" "Rows.hull" sHull f fd) (N : Nm mg) (GF : GFns P w K mg base CG fI fT fM fK fdI fdT fdM fdK) (RF : RFns P w K mg base C CN fR fF fW pF pW fdR fdF fdW)
    (GC : FnOk P w K mg base (L2.CX P w) 4 fC fdC ["lot", "many"] (spCheckLot CB)) (kC : PySem.W.keepIn K (.ref fC) = true) (bC : Binds K fdC ["lot", "many"] []) (gC : mg "check_lot" = some (.ref fC))
    (GO : FnOk P w K mg base CX0 4 fO fdO ["table", "lot"] (spGaugeOf C CG)) (kO : PySem.W.keepIn K (.ref fO) = true) (bO : Binds K fdO ["table", "lot"] []) (gO : mg "gauge_of" = some (.ref fO)) :
    FnOk P w K mg base (L2.CX P w) 5 f fd ["self", "lot"] (spHull C CB) := by
  refine F.okX scHu (fun vs H Q E h => ?_) (fun cdv A outer s H vs Q E hr h => ?_)
  · obtain ⟨p, x, o, fl, a, nss, rfl, _⟩ := h
    rfl
  · obtain ⟨p, x, o, fl, a, nss, rfl, hT, hx, hl, h60, ok, kY, kE⟩ := h
    have nd := scHu.nd
    have hr2 : Room 2 _ := hr.mono (by decide)
    refine ⟨_, pss_cons (ps_expr (pe_call GC hr rfl gC kC bC .nil (passes_call (takes_of rfl rfl rfl rfl) fun _ _ _ _ h => h) (pa_cons (pv 1) (pa_cons (pe_callB lenT (by rfl) N.len PySem.boot_len (pa_cons (pe_fld (pv 0) rfl) pa_nil)) pa_nil))))
      (pss_cons (ps_set (i := 2) nd rfl (.inr rfl) (pe_call GO hr rfl gO kO bO .nil pass0 (pa_cons (pv 0) (pa_cons (pv 1) pa_nil))))
      (pss_one (ps_ret (pe_lc (own := [("row", 3), ("numbers", 4)]) rfl nd (pi_enumT (by rfl) N.enum (pa_cons (pe_fld (pv 0) rfl) pa_nil)) (blkOk_by (by kernel_rfl))
        (fun _ _ _ _ _ => pg_tupK (n := 2) (K := K) rfl rfl (pgs_cons (pg_name (i := 3) nd rfl (Or.inl rfl)) (pgs_cons (pg_name (i := 4) nd rfl (Or.inl rfl)) pgs_nil)))
        (fun _ _ _ _ _ => pts_one (pt_cmpR op_notN (pe_meth (pv 2) GF.T.cl GF.mK GF.gK hr2 GF.bK .nil pass0 (pa_cons (pv 4) pa_nil)) pe_non (nomark _))) (fun _ _ _ _ _ => pv 3))))), ?_⟩
    obtain ⟨dx, t, ts, hp, ht, hts⟩ := id hT
    have tl : ts.length = nss.length := Paired.length hts
    refine ⟨_, rfl, _, rfl, p, C, dx, _, _, rfl, hp, RF.T.cl, RF.T.nR, rfl, t, _, rfl, ht, ?_⟩
    rw [List.length_map, tl]
    refine ⟨x, o, (nss.length : Int), rfl, hx, hl, fun z H1 s1 => ?_, fun k hk d H1 s1 nd1 e1 => kE k hk d H1 s1 nd1 e1⟩
    obtain ⟨l, lot, rfl, rfl, hS, hlot, _⟩ := lv_ints hx z
    refine ⟨_, rfl, _, rfl, p, l, fl, a, nss, lot, rfl, hT.keep s1, hS.same s1, hlot, ok, fun H2 g c h G s2 ng nc nh hG run => ?_⟩
    have s12 := s1.trans s2
    have I := gi_run ok run
    refine ⟨_, rfl, p, C, dx, _, _, rfl, s12 _ _ hp, RF.T.cl, RF.T.nR, rfl, t, _, rfl, SqT.of (s12 _ _ ht), fun D nD => flt_pair (n := (ts.map V.ref).length) walk_enumT
      (fun k => ((List.range k).filter fun i => (lackL (sharesL fl G.cols ((rowsT fl nss).getD i [])) G.held).isNone).map fun i : Nat => V.int (i : Int)) rfl (fun k _ => ?_) (fun H' s' => SqT.of (s' _ _ (s12 _ _ ht))) nD (by rw [List.length_map]; omega) (fun _ _ => rfl) ?_ ?_⟩
    · rw [List.length_map]
      have := List.length_filter_le (fun i => (lackL (sharesL fl G.cols ((rowsT fl nss).getD i [])) G.held).isNone) (List.range k)
      rw [List.length_range] at this
      exact this
    · intro k x y H3 hk hx1 hy1 s3 Nn R hN hR
      cases hx1
      obtain ⟨tr, rfl, htr⟩ := ref_at hy1
      obtain ⟨ns, hns, hrow⟩ := paired_get hts htr
      have s123 := s12.trans s3
      have hGk := hG.keep s3
      obtain ⟨dxg, cs, hg, hc, hh, hcs, nch, hap⟩ := id hGk
      have hrw := rows_at (f := fl) hns
      have eget : (rowsT fl nss).getD k [] = ns.map (tell fl) := by rw [List.getD_eq_getElem?_getD, hrw]; rfl
      have mrow := List.mem_of_getElem? hrw
      have estep : ((List.range (k + 1)).filter fun i => (lackL (sharesL fl G.cols ((rowsT fl nss).getD i [])) G.held).isNone) = ((List.range k).filter fun i => (lackL (sharesL fl G.cols ((rowsT fl nss).getD i [])) G.held).isNone) ++ (if (lackL (sharesL fl G.cols (ns.map (tell fl))) G.held).isNone then [k] else []) := by
        rw [List.range_succ, List.filter_append, ← eget]
        congr 1
        rw [List.filter_cons]
        split <;> rfl
      refine ⟨_, rfl, g, dxg, _, rfl, hg, rfl, _, rfl, g, c, h, tr, fl, widT nss, a, _, G, ns.map (tell fl), rfl, hGk, I.sh, s123 _ _ hrow, ok.len _ mrow, ok.bits _ mrow, ok.a0, bb_pos, by have := ok.a8; have := ok.b8 I.le; omega, ok.f0.1, fun q lk H4 s4 => ?_, fun lk H4 pd s4 nd4 e4 => ?_⟩
      · refine ⟨rfl, _, rfl, iteF (hN ?_ _ s4)⟩
        rw [estep, lk, if_neg (show ¬ (some q).isNone = true from Bool.false_ne_true), List.append_nil]
      · refine ⟨rfl, _, rfl, iteT ⟨_, rfl, hR _ ?_ _ s4⟩⟩
        rw [estep, lk, if_pos (by decide), List.map_append]
        rfl
    · intro H3 s3 e3
      refine kY lot z rfl H3 G D (s12.trans s3) (s12.free nD) run ?_
      rw [e3]
      unfold hullL
      have : (rowsT fl nss).length = (ts.map V.ref).length := by
        rw [List.length_map, tl]
        exact List.length_map _
      rw [this]
end
/-! ### plain relations -/
abbrev sDivisor : Stmt := top 28
abbrev sPlain : Stmt := top 29
def gcdL (ns : List Int) : Nat := ns.foldl (fun g n => Nat.gcd g n.natAbs) 0
def spDivisor : Sp := fun vs H Q _ => ∃ (l : Addr) (ns : List Int), vs = [.ref l] ∧ H l = some (.lst (ns.map V.int)) ∧ ∀ H', Same H H' → Q (.int (gcdL ns : Int)) H'
def intK (ps : List (Int × Int)) : List (Key × V) := ps.map fun p => (Sum.inl p.1, V.int p.2)
def look (ps : List (Int × Int)) (k : Int) : Int := ((ps.find? fun p => decide (p.1 = k)).map (·.2)).getD 0
theorem val_intK : ∀ (ps : List (Int × Int)) (k : Int), valV (intK ps) (Sum.inl k) = (ps.find? fun p => decide (p.1 = k)).map fun p => V.int p.2
  | [], _ => rfl
  | p :: r, k => by
    by_cases e : p.1 = k
    · rw [List.find?_cons_of_pos (by exact decide_eq_true e)]
      exact valV_pos (congrArg Sum.inl e)
    · rw [List.find?_cons_of_neg (by exact fun h => e (of_decide_eq_true h)), ← val_intK r k]
      exact valV_neg fun h => e (Sum.inl.inj h)
theorem look_mem {ps : List (Int × Int)} {k : Int} (h : k ∈ ps.map (·.1)) : valV (intK ps) (Sum.inl k) = some (V.int (look ps k)) ∧ (k, look ps k) ∈ ps := by
  rw [val_intK]
  unfold look
  cases e : ps.find? fun p => decide (p.1 = k) with
  | none =>
    obtain ⟨p, hp, rfl⟩ := List.mem_map.mp h
    have := List.find?_eq_none.mp e p hp
    exact absurd (decide_eq_true rfl) this
  | some p =>
    have h1 := List.find?_some e
    have h2 := List.mem_of_find?_eq_some e
    have h3 : p.1 = k := of_decide_eq_true h1
    refine ⟨rfl, ?_⟩
    show (k, p.2) ∈ ps
    rw [← h3]
    exact h2
theorem look_not {ps : List (Int × Int)} {k : Int} (h : k ∉ ps.map (·.1)) : valV (intK ps) (Sum.inl k) = none := by
  rw [val_intK]
  have : (ps.find? fun p => decide (p.1 = k)) = none := List.find?_eq_none.mpr fun p hp e => h (List.mem_map.mpr ⟨p, hp, of_decide_eq_true e⟩)
  rw [this]
  rfl
theorem intK_snoc {ps : List (Int × Int)} {k v : Int} (h : k ∉ ps.map (·.1)) : putK (intK ps) (Sum.inl k) (V.int v) = intK (ps ++ [(k, v)]) := by
  rw [putK_new _ (look_not h)]
  unfold intK
  rw [List.map_append]
  rfl
/-- what a plain relation has of the shares it is made of -/
structure Plain (f : Int) (ps rel : List (Int × Int)) : Prop where
  keys : (rel.map (·.1)).Perm (ps.map (·.1))
  asc : (rel.map (·.1)).Pairwise (· < ·)
  val : (f = 0 ∧ (∃ c : Int, c ≠ 0 ∧ ∀ p ∈ rel, ∃ u, (p.1, u) ∈ ps ∧ u = p.2 * c) ∧ gcdL (rel.map (·.2)) = 1 ∧ 0 < (rel.map (·.2)).headD 0) ∨
    (f ≠ 0 ∧ (∃ c : Int, ¬ f ∣ c ∧ ∀ p ∈ rel, ∃ u, (p.1, u) ∈ ps ∧ p.2 = u * c % f) ∧ (rel.map (·.2)).headD 0 = 1)
def spPlain : Sp := fun vs H Q _ => ∃ (d : Addr) (f : Int) (ps : List (Int × Int)), vs = [.ref d, .int f] ∧ H d = some (.dK (intK ps)) ∧ (ps.map (·.1)).Nodup ∧ ps ≠ [] ∧ ps.length ≤ 60 ∧ (∀ p ∈ ps, ¬ f ∣ p.2 ∧ p.2.natAbs < 2 ^ 8900) ∧
  (f = 0 ∨ (Lin.Dom f ∧ 1 < f ∧ f < 2 ^ 60)) ∧ ∀ H' d' rel, Same H H' → H d' = none → H' d' = some (.dK (intK rel)) → Plain f ps rel → Q (.ref d') H'
theorem gcdL_snoc (ns : List Int) (n : Int) : gcdL (ns ++ [n]) = Nat.gcd (gcdL ns) n.natAbs := by
  unfold gcdL
  rw [List.foldl_append]
  rfl
theorem gcd_dvdL {ns : List Int} : ∀ n ∈ ns, ((gcdL ns : Nat) : Int) ∣ n := by
  have key : ∀ (r : List Int) (g : Nat), (r.foldl (fun g n => Nat.gcd g n.natAbs) g ∣ g) ∧ ∀ n ∈ r, r.foldl (fun g n => Nat.gcd g n.natAbs) g ∣ n.natAbs := by
    intro r
    induction r with
    | nil => exact fun g => ⟨Nat.dvd_refl _, fun _ h => nomatch h⟩
    | cons n r ih =>
      intro g
      obtain ⟨h1, h2⟩ := ih (Nat.gcd g n.natAbs)
      refine ⟨Nat.dvd_trans h1 (Nat.gcd_dvd_left _ _), fun m hm => ?_⟩
      rcases List.mem_cons.mp hm with rfl | h
      · exact Nat.dvd_trans h1 (Nat.gcd_dvd_right _ _)
      · exact h2 m h
  intro n hn
  exact Int.ofNat_dvd_left.mpr ((key ns 0).2 n hn)
theorem gcd_great {ns : List Int} {d : Nat} (h : ∀ n ∈ ns, d ∣ n.natAbs) : d ∣ gcdL ns := by
  have key : ∀ (r : List Int) (g : Nat), d ∣ g → (∀ n ∈ r, d ∣ n.natAbs) → d ∣ r.foldl (fun g n => Nat.gcd g n.natAbs) g := by
    intro r
    induction r with
    | nil => exact fun _ h _ => h
    | cons n r ih => exact fun g hg hn => ih _ (Nat.dvd_gcd hg (hn n (.head _))) fun m hm => hn m (.tail _ hm)
  exact key ns 0 (Nat.dvd_zero _) h
/-- numbers over what divides them all: nothing divides them all -/
theorem gcd_div {ns : List Int} {c : Int} (hc : c.natAbs = gcdL ns) (z : c ≠ 0) : gcdL (ns.map fun n => n.fdiv c) = 1 := by
  have dv : ∀ n ∈ ns, c ∣ n := fun n hn => Int.natAbs_dvd.mp (by rw [hc]; exact gcd_dvdL n hn)
  have hg : gcdL (ns.map fun n => n.fdiv c) * c.natAbs ∣ gcdL ns := by
    refine gcd_great fun n hn => ?_
    obtain ⟨m, rfl⟩ := dv n hn
    have h1 := gcd_dvdL (ns := ns.map fun n => n.fdiv c) _ (List.mem_map.mpr ⟨c * m, hn, rfl⟩)
    rw [Int.mul_fdiv_cancel_left m z] at h1
    have h2 := Int.ofNat_dvd_left.mp h1
    rw [Int.natAbs_mul, Nat.mul_comm c.natAbs]
    exact Nat.mul_dvd_mul_right h2 _
  rw [← hc] at hg
  have cpos : 0 < c.natAbs := Int.natAbs_pos.mpr z
  have h3 : gcdL (ns.map fun n => n.fdiv c) * c.natAbs ∣ 1 * c.natAbs := by
    rw [Nat.one_mul]
    exact hg
  exact Nat.eq_one_of_dvd_one (Nat.dvd_of_mul_dvd_mul_right cpos h3)
section
variable {K : PySem.W.Frag} {a D : Addr} {i : Nat} {vs : List Nat} {tv : TE} {σ : L2.St} {H1 : Hp} {Qd : Hp → Prop}
/-- {k: g k for k in ks}, the ks all unlike -/
theorem dc_rows (ks : List Int) (nd : ks.Nodup) (g : Int → Int) (hS : H1 a = some (.lst (ks.map V.int))) (nD : H1 D = none) (sz : ks.length ≤ 1000) (hw : ∀ x, wipe ((wipe σ vs).set i (some x)) vs = wipe σ vs) (hg : ∀ x : V, ((wipe σ vs).set i (some x))[i]? = some (some x))
    (hs : ∀ k ∈ ks, ∀ H, Same H1 H → ∀ R : VK, (∀ H4, Same H H4 → R (.int (g k)) H4) → tv ((wipe σ vs).set i (some (.int k))) H R)
    (hd : ∀ H, Same H1 H → H D = some (.dK (intK (ks.map fun k => (k, g k)))) → Qd H) : DcW (Itl K a) (gName i) tYes (tVar i) tv vs σ H1 D Qd := by
  refine dc_walk (walk_list (xs := ks.map V.int)) (fun j H => Same H1 H ∧ H D = some (.dK (intK ((ks.take j).map fun k => (k, g k))))) ⟨same_upd nD, upd_same⟩ (fun _ H _ h => SqL.of (h.1 _ _ hS)) ?_ ?_
  · rintro j x H H' hj ⟨sH, e⟩ ⟨rfl, hx⟩
    obtain ⟨k, rfl, hk⟩ := int_at hx
    refine ⟨hw _, ?_⟩
    dsimp only [tYes]
    rw [if_pos rfl]
    refine ⟨_, hg _, hs k (List.mem_of_getElem? hk) _ sH _ fun H4 s4 => ⟨_, Sum.inl k, rfl, s4 _ _ e, ?_, ?_, ?_⟩⟩
    · unfold intK
      rw [List.length_map, List.length_map, List.length_take]
      exact Nat.lt_of_le_of_lt (by omega : _ ≤ 1000) (Nat.lt_of_lt_of_le (by omega : 1000 < 1001) (by decide))
    · intro b u e2
      rw [upd_ne (ne_of_none e2 nD)]
      exact s4 _ _ (sH _ _ e2)
    · rw [upd_same, intK_snoc]
      · rw [List.take_succ, hk, List.map_append]
        rfl
      · rw [List.map_map]
        intro hm
        obtain ⟨k', hk', e3⟩ := List.mem_map.mp hm
        have e4 : k' = k := e3
        rw [e4] at hk'
        obtain ⟨hi, rfl⟩ := List.getElem?_eq_some_iff.mp hk
        obtain ⟨m, hm1, hm2⟩ := List.mem_iff_getElem.mp hk'
        rw [List.length_take] at hm1
        rw [List.getElem_take] at hm2
        exact List.pairwise_iff_getElem.mp nd m j (by omega) hi (by omega) hm2
  · rintro H ⟨sH, e⟩
    rw [List.length_map, List.take_length] at e
    exact hd H sH e
end
theorem log_le {n k : Nat} (h : n < 2 ^ k) : n.log2 ≤ k := by
  by_cases z : n = 0
  · rw [z]
    exact Nat.zero_le _
  · exact Nat.le_of_lt ((Nat.log2_lt z).mpr h)
section
variable {P : Program} {w : World} {K : PySem.W.Frag} {mg : Str → Option Value} {base : Heap}
theorem scDv : FnScope ["numbers", "greatest", "number"] ["numbers"] (defScope sDivisor) := ⟨rfl, rfl, rfl, by decide +kernel, rfl, by decide +kernel, by decide +kernel⟩
theorem ok_divisor {f : Addr} {fd : FuncData} (F : Fun K "divisor" "divisor" sDivisor f fd) (gG : mg "gcd" = some (.builtin "math.gcd")) : FnOk P w K mg base CX0 1 f fd ["numbers"] spDivisor := by
  refine F.ok scDv (fun vs H Q E h => ?_) (fun cdv A outer s H vs Q E hr h => ?_)
  · obtain ⟨l, ns, rfl, _⟩ := h
    rfl
  · obtain ⟨l, ns, rfl, hl, k⟩ := h
    have nd := scDv.nd
    refine ⟨_, pss_cons (ps_set (i := 1) nd rfl (.inl rfl) pe_int) (pss_cons (ps_for PassesOwn.never rfl (pi_list (pv 0)) (pg_name (i := 2) nd rfl (.inl rfl)) (pss_one (ps_set (i := 1) nd rfl (.inl rfl) (pe_callBfun cr_gcd (by rfl) gG (pa_cons (pv 1) (pa_cons (pv 2) pa_nil)))))) (pss_one (ps_ret (pv 1)))), ?_⟩
    refine ⟨.ref l, rfl, l, rfl, ⟨_, SqL.of hl⟩, for_list (xs := ns.map V.int) (fun i σ G => ∃ c2, σ = [some (.ref l), some (.int (gcdL (ns.take i) : Int)), c2] ∧ Same H G) ⟨none, rfl, same_refl⟩ (fun _ _ _ _ ⟨_, _, s⟩ => SqL.of (s _ _ hl)) ?_ ?_⟩
    · rintro i x σ G hx ⟨c2, rfl, s⟩
      obtain ⟨n, rfl, hn⟩ := int_at hx
      refine ⟨_, rfl, _, rfl, _, _, rfl, some (.int n), ?_, s⟩
      rw [List.take_succ, hn, Option.toList, gcdL_snoc, Int.natAbs_natCast]
      rfl
    · rintro σ G ⟨c2, rfl, s⟩
      rw [List.length_map, List.take_length]
      exact ⟨_, rfl, k _ s⟩
abbrev nsPl : List Str := ["shares", "field", "rows", "first", "factor", "row", "size"]
theorem scPl : FnScope nsPl ["shares", "field"] (defScope sPlain) := ⟨rfl, rfl, rfl, by decide +kernel, rfl, by decide +kernel, by decide +kernel⟩
theorem ok_plain {f fI fD : Addr} {fd fdI fdD : FuncData} (F : Fun K "plain_relation" "plain_relation" sPlain f fd) (nSor : mg "sorted" = none)
    (GI : FnOk P w K mg base CX0 1 fI fdI ["number", "prime"] spInv) (kI : PySem.W.keepIn K (.ref fI) = true) (bI : Binds K fdI ["number", "prime"] []) (gI : mg "inverse" = some (.ref fI))
    (GD : FnOk P w K mg base CX0 1 fD fdD ["numbers"] spDivisor) (kD : PySem.W.keepIn K (.ref fD) = true) (bD : Binds K fdD ["numbers"] []) (gD : mg "divisor" = some (.ref fD)) :
    FnOk P w K mg base CX0 2 f fd ["shares", "field"] spPlain := by
  refine F.ok scPl (fun vs H Q E h => ?_) (fun cdv A outer s H vs Q E hr h => ?_)
  · obtain ⟨d, fl, ps, rfl, _⟩ := h
    rfl
  · obtain ⟨d, fl, ps, rfl, hd, ndk, ne, l60, hv, hf, k⟩ := h
    have nd := scPl.nd
    have un := hr.units
    refine ⟨_, pss_cons (ps_set (i := 2) nd rfl (.inl rfl) (pe_callB (call_sortedDI rfl) (by rfl) nSor (by decide +kernel) (pa_cons (pv 0) pa_nil)))
      (pss_cons (ps_set (i := 3) nd rfl (.inl rfl) (pe_dget (Nat.lt_of_le_of_lt (Nat.add_le_add_left (by decide : 1 ≤ 64) _) un) (pv 0) (pe_ix ixL (pv 2) pe_int (fun _ _ => rfl)) (fun _ _ => rfl)))
      (pss_cons (ps_if (pt_truth (pv 1) (fun _ => rfl))
        (pss_cons (ps_set (i := 4) nd rfl (.inr rfl) (pe_call GI hr rfl gI kI bI .nil pass0 (pa_cons (pv 3) (pa_cons (pv 1) pa_nil))))
        (pss_one (ps_ret (pe_dc (own := [("row", 5)]) (g := gName 5) (tt := tYes) rfl nd (pi_list (pv 2)) (blkOk_by (by kernel_rfl)) (fun _ _ _ _ _ => pg_name (i := 5) nd rfl (Or.inl rfl)) (fun _ _ _ _ _ => pts_nil) (fun _ _ _ _ _ => pv 5)
          (fun _ _ _ _ _ => pe_op op_mod (pe_op op_mulW (pe_dget (Nat.lt_of_le_of_lt (Nat.add_le_add_left (by decide : 1 ≤ 64) _) un) (pv 0) (pv 5) (fun _ _ => rfl)) (pv 4)) (pv 1)))))) pss_nil)
      (pss_cons (ps_set (i := 6) nd rfl (.inr rfl) (pe_call GD hr rfl gD kD bD .nil pass0 (pa_cons (pe_lc (own := [("row", 5)]) (g := gName 5) (tt := tYes) rfl nd (pi_list (pv 2)) (blkOk_by (by kernel_rfl)) (fun _ _ _ _ _ => pg_name (i := 5) nd rfl (Or.inl rfl)) (fun _ _ _ _ _ => pts_nil)
          (fun _ _ _ _ _ => pe_dget (Nat.lt_of_le_of_lt (Nat.add_le_add_left (by decide : 1 ≤ 64) _) un) (pv 0) (pv 5) (fun _ _ => rfl))) pa_nil)))
      (pss_cons (ps_if (pt_cmpR op_lt (pv 3) pe_int (nomark _)) (pss_one (ps_set (i := 6) nd rfl (.inr rfl) (pe_un un_neg (pv 6)))) pss_nil)
      (pss_one (ps_ret (pe_dc (own := [("row", 5)]) (g := gName 5) (tt := tYes) rfl nd (pi_list (pv 2)) (blkOk_by (by kernel_rfl)) (fun _ _ _ _ _ => pg_name (i := 5) nd rfl (Or.inl rfl)) (fun _ _ _ _ _ => pts_nil) (fun _ _ _ _ _ => pv 5)
          (fun _ _ _ _ _ => pe_op op_fdivNW (pe_dget (Nat.lt_of_le_of_lt (Nat.add_le_add_left (by decide : 1 ≤ 64) _) un) (pv 0) (pv 5) (fun _ _ => rfl)) (pv 6))))))))), ?_⟩
    have ek : (intK ps).map (·.1) = (ps.map (·.1)).map Sum.inl := by
      unfold intK
      rw [List.map_map, List.map_map]
      rfl
    refine ⟨_, rfl, d, intK ps, ps.map (·.1), rfl, .inl hd, ek, by rw [List.length_map]; omega, fun ks so pm le nso => ?_⟩
    have s1 := same_upd nso (o := .lst (ks.map V.int))
    have hso : upd H so (.lst (ks.map V.int)) so = some (.lst (ks.map V.int)) := upd_same
    generalize upd H so (.lst (ks.map V.int)) = H1 at s1 hso ⊢
    have hd1 := s1 _ _ hd
    have ndks : ks.Nodup := pm.nodup_iff.mpr ndk
    have kin : ∀ j ∈ ks, j ∈ ps.map (·.1) := fun j hj => pm.mem_iff.mp hj
    have lks : ks.length = ps.length := by rw [pm.length_eq, List.length_map]
    have asc : ks.Pairwise (· < ·) := (le.and ndks).imp fun {a b} h => by
      have := h.1
      have := h.2
      omega
    have lookv : ∀ j ∈ ks, ¬ fl ∣ look ps j ∧ (look ps j).natAbs < 2 ^ 8900 := fun j hj => hv _ (look_mem (kin j hj)).2
    obtain ⟨k0, kr, rfl⟩ : ∃ k0 kr, ks = k0 :: kr := by
      cases ks with
      | nil => exact absurd (List.length_eq_zero_iff.mp lks.symm) ne
      | cons a r => exact ⟨a, r, rfl⟩
    have h0 := kin k0 (.head _)
    have get : ∀ H' j, Same H1 H' → j ∈ k0 :: kr → DGet H' d (V.int j) (some (V.int (look ps j))) := fun H' j s' hj => .inl ⟨intK ps, Sum.inl j, .inl (s' _ _ hd1), rfl, (look_mem (kin j hj)).1.symm⟩
    refine ⟨_, rfl, _, rfl, so, 0, _, V.int k0, rfl, rfl, hso, at0, d, V.int (look ps k0), rfl, get _ _ same_refl (.head _), ?_⟩
    have keys : ∀ g : Int → Int, (((k0 :: kr).map fun j => (j, g j)).map (·.1)) = k0 :: kr := fun g => by
      rw [List.map_map]
      exact List.map_id _
    have vals : ∀ g : Int → Int, (((k0 :: kr).map fun j => (j, g j)).map (·.2)) = (k0 :: kr).map g := fun g => by
      rw [List.map_map]
      rfl
    refine ⟨_, rfl, fl != 0, rfl, ?_⟩
    by_cases z : fl = 0
    · subst z
      refine iteF ⟨.ref so, rfl, so, rfl, ⟨_, SqL.of hso⟩, fun D nD => map_listG (((k0 :: kr).map (look ps)).map V.int) (by rw [List.length_map, List.length_map, List.length_map]) hso nD (by rw [List.length_map]; omega) (fun _ => rfl) ?_ ?_⟩
      · intro j x y G hx hy sG R hR
        obtain ⟨i, rfl, hi⟩ := int_at hx
        have ey : y = V.int (look ps i) := by
          rw [List.getElem?_map, List.getElem?_map, hi] at hy
          exact (Option.some.inj hy).symm
        rw [ey] at hR
        exact ⟨_, rfl, _, rfl, d, _, rfl, get _ _ sG (List.mem_of_getElem? hi), hR _ same_refl⟩
      · intro H2 s2 e2
        refine ⟨D, (k0 :: kr).map (look ps), rfl, e2, fun H3 s3 => ?_⟩
        have s13 := s2.trans s3
        have gd : ∀ j ∈ k0 :: kr, ((gcdL ((k0 :: kr).map (look ps)) : Nat) : Int) ∣ look ps j := fun j hj => gcd_dvdL _ (List.mem_map.mpr ⟨j, hj, rfl⟩)
        have f0 : look ps k0 ≠ 0 := fun e => (lookv k0 (.head _)).1 (by rw [e]; exact Int.dvd_refl _)
        generalize hg : gcdL ((k0 :: kr).map (look ps)) = g at *
        have gpos : 0 < g := Nat.pos_of_ne_zero fun e => by
          have := gd k0 (.head _)
          rw [e] at this
          exact f0 (Int.zero_dvd.mp this)
        have gle : g ≤ (look ps k0).natAbs := Nat.le_of_dvd (Int.natAbs_pos.mpr f0) (Int.ofNat_dvd_left.mp (gd k0 (.head _)))
        have g89 : g < 2 ^ 8900 := Nat.lt_of_le_of_lt gle (lookv k0 (.head _)).2
        refine ⟨_, rfl, _, _, rfl, rfl, _, rfl, ?_⟩
        by_cases zz : look ps k0 < 0
        case' pos =>
          rw [decide_eq_true zz]
          refine iteT ⟨_, rfl, _, rfl, ?_⟩
          obtain ⟨c, ec, cg, c0⟩ : ∃ c : Int, c = -(g : Int) ∧ c.natAbs = g ∧ (0 < look ps k0 * c) := ⟨_, rfl, by omega, Int.mul_pos_of_neg_of_neg zz (by omega)⟩
        case' neg =>
          rw [decide_eq_false zz]
          refine iteF ?_
          obtain ⟨c, ec, cg, c0⟩ : ∃ c : Int, c = (g : Int) ∧ c.natAbs = g ∧ (0 < look ps k0 * c) := ⟨_, rfl, by omega, Int.mul_pos (by omega) (by omega)⟩
        all_goals
          try dsimp only
          rw [← ec]
          have cz : c ≠ 0 := by omega
          have cd : ∀ j ∈ k0 :: kr, c ∣ look ps j := fun j hj => Int.natAbs_dvd.mp (by rw [cg]; exact gd j hj)
          refine ⟨.ref so, rfl, so, rfl, ⟨_, SqL.of (s13 _ _ hso)⟩, fun D2 nD2 => dc_rows (k0 :: kr) ndks (fun j => (look ps j).fdiv c) (s13 _ _ hso) nD2 (by omega) (fun _ => rfl) (fun _ => rfl) ?_ ?_⟩
          · intro j hj H4 s4 R hR
            refine ⟨_, rfl, _, rfl, d, _, rfl, get _ _ (s13.trans s4) hj, _, rfl, look ps j, c, rfl, rfl, ⟨cz, ?_⟩, hR _ same_refl⟩
            have : c.natAbs.log2 < 8901 := (Nat.log2_lt (by omega)).mpr (by rw [cg]; exact Nat.lt_trans g89 (Nat.pow_lt_pow_right (by decide) (by decide)))
            omega
          · intro H4 s4 e4
            refine k H4 D2 _ ((s1.trans s13).trans s4) ((s1.trans s13).free nD2) e4 ⟨by rw [keys]; exact pm, by rw [keys]; exact asc, .inl ⟨rfl, ⟨c, cz, fun p hp => ?_⟩, ?_, ?_⟩⟩
            · obtain ⟨j, hj, rfl⟩ := List.mem_map.mp hp
              refine ⟨look ps j, (look_mem (kin j hj)).2, ?_⟩
              exact (Int.fdiv_mul_cancel (cd j hj)).symm
            · rw [vals]
              have := gcd_div (ns := (k0 :: kr).map (look ps)) (c := c) (by rw [cg, hg]) cz
              rw [List.map_map] at this
              exact this
            · rw [vals]
              show 0 < (look ps k0).fdiv c
              obtain ⟨m, hm⟩ := cd k0 (.head _)
              rw [hm, Int.mul_fdiv_cancel_left m cz]
              rw [hm] at c0
              have e5 : c * m * c = c * c * m := by rw [Int.mul_assoc, Int.mul_comm m c, ← Int.mul_assoc]
              rw [e5] at c0
              have cc : 0 < c * c := by
                rcases Int.lt_or_gt_of_ne cz with h | h
                · exact Int.mul_pos_of_neg_of_neg h h
                · exact Int.mul_pos h h
              apply Classical.byContradiction
              intro hm2
              have := Int.mul_le_mul_of_nonneg_left (show m ≤ 0 by omega) (Int.le_of_lt cc)
              rw [Int.mul_zero] at this
              omega
    · obtain ⟨Df, f1, f60⟩ := hf.resolve_left z
      have zb : (fl != 0) = true := by simpa using z
      rw [zb]
      refine iteT ⟨_, rfl, _, rfl, look ps k0, fl, rfl, Df, f1, f60, (lookv k0 (.head _)).1, fun r H2 ir s2 => ?_⟩
      obtain ⟨r0, r1, r2⟩ := ir
      refine ⟨.ref so, rfl, so, rfl, ⟨_, SqL.of (s2 _ _ hso)⟩, fun D nD => dc_rows (k0 :: kr) ndks (fun j => look ps j * r % fl) (s2 _ _ hso) nD (by omega) (fun _ => rfl) (fun _ => rfl) ?_ ?_⟩
      · intro j hj H4 s4 R hR
        refine ⟨_, rfl, _, rfl, d, _, rfl, get _ _ (s2.trans s4) hj, _, rfl, look ps j, r, rfl, rfl, ?_, _, rfl, _, fl, rfl, rfl, by omega, hR _ same_refl⟩
        have l1 := log_le (lookv j hj).2
        have l2 := log_le (k := 60) (n := r.natAbs) (by omega)
        show _ < _
        omega
      · intro H4 s4 e4
        refine k H4 D _ ((s1.trans s2).trans s4) ((s1.trans s2).free nD) e4 ⟨by rw [keys]; exact pm, by rw [keys]; exact asc, .inr ⟨z, ⟨r, fun hr => ?_, fun p hp => ?_⟩, ?_⟩⟩
        · have h1 : fl ∣ look ps k0 * r := Int.dvd_mul_of_dvd_right hr
          have h2 := Int.dvd_sub h1 r2
          have e : look ps k0 * r - (look ps k0 * r - 1) = 1 := by omega
          rw [e] at h2
          exact Df.one h2
        · obtain ⟨j, hj, rfl⟩ := List.mem_map.mp hp
          exact ⟨look ps j, (look_mem (kin j hj)).2, rfl⟩
        · rw [vals]
          show look ps k0 * r % fl = 1
          obtain ⟨m, hm⟩ := r2
          have e : look ps k0 * r = 1 + fl * m := by omega
          rw [e, Int.add_mul_emod_self_left]
          exact Int.emod_eq_of_lt (by decide) (by omega)
end
theorem redf_zero {f x : Int} (f0 : 0 ≤ f) (h : f ∣ redf f x) : redf f x = 0 := Classical.byContradiction fun z => redf_nz f0 z h
/-! ### ring -/
abbrev sRing : Stmt := inClass (top 30) 9
def psOf : List (Option Int) → List Int → List (Int × Int)
  | o :: os, s :: ss => (if s = 0 then [] else match o with | some r => [(r, s)] | none => []) ++ psOf os ss
  | _, _ => []
theorem psOf_cons (o : Option Int) (os : List (Option Int)) (s : Int) (ss : List Int) : psOf (o :: os) (s :: ss) = (if s = 0 then [] else match o with | some r => [(r, s)] | none => []) ++ psOf os ss := rfl
def heldL (held : List (Option Int)) : List Int := held.filterMap id
theorem psOf_sub : ∀ (held : List (Option Int)) (sh : List Int), ((psOf held sh).map (·.1)).Sublist (heldL held)
  | [], _ => List.Sublist.refl _
  | _ :: _, [] => List.nil_sublist _
  | o :: os, s :: ss => by
    have ih := psOf_sub os ss
    rw [psOf_cons, List.map_append]
    cases o with
    | none =>
      have e : (if s = 0 then [] else match (none : Option Int) with | some r => [(r, s)] | none => []) = ([] : List (Int × Int)) := by split <;> rfl
      rw [e]
      exact ih
    | some r =>
      show List.Sublist _ (r :: heldL os)
      by_cases z : s = 0
      · rw [if_pos z]
        exact ih.cons _
      · rw [if_neg z]
        exact ih.cons₂ _
theorem mkFrom_ps : ∀ (held : List (Option Int)) (sh : List Int) (acc : List (Int × Int)), (acc.map (·.1) ++ (psOf held sh).map (·.1)).Nodup → mkFrom (intK acc) held sh = intK (acc ++ psOf held sh)
  | [], _, acc, _ => by
    rw [show psOf [] _ = [] from rfl, List.append_nil]
    rfl
  | _ :: _, [], acc, _ => by
    rw [show psOf (_ :: _) [] = [] from rfl, List.append_nil]
    rfl
  | o :: os, s :: ss, acc, nd => by
    rw [mkFrom]
    unfold mkStep
    by_cases z : s = 0
    · rw [if_pos z, psOf_cons, if_pos z, List.nil_append]
      rw [psOf_cons, if_pos z, List.nil_append] at nd
      exact mkFrom_ps os ss acc nd
    · rw [if_neg z, psOf_cons, if_neg z]
      rw [psOf_cons, if_neg z] at nd
      cases o with
      | none => exact mkFrom_ps os ss acc nd
      | some r =>
        show mkFrom (putK (intK acc) (Sum.inl r) (V.int s)) os ss = _
        have nd2 : (acc.map (·.1) ++ (r :: (psOf os ss).map (·.1))).Nodup := nd
        have hr : r ∉ acc.map (·.1) := fun h => (List.nodup_append.mp nd2).2.2 r h r (.head _) rfl
        rw [intK_snoc hr, mkFrom_ps os ss (acc ++ [(r, s)]) (by rw [List.map_append, List.append_assoc]; exact nd2), List.append_assoc]
theorem mkD_ps {held : List (Option Int)} {sh : List Int} (nd : (heldL held).Nodup) : mkD held sh = intK (psOf held sh) := by
  have := mkFrom_ps held sh [] (by rw [List.map_nil, List.nil_append]; exact nd.sublist (psOf_sub held sh))
  rw [List.nil_append] at this
  exact this
theorem take_notin {α : Type} {xs : List α} {i : Nat} {x : α} (n : xs.Nodup) (h : xs[i]? = some x) : x ∉ xs.take i := by
  obtain ⟨hi, rfl⟩ := List.getElem?_eq_some_iff.mp h
  intro hm
  obtain ⟨k, hk, e⟩ := List.mem_iff_getElem.mp hm
  rw [List.length_take] at hk
  rw [List.getElem_take] at e
  exact List.pairwise_iff_getElem.mp n k i (by omega) hi (by omega) e
theorem heldL_set : ∀ {held : List (Option Int)} {q : Nat} (i : Int), held[q]? = some none → (heldL (held.set q (some i))).Perm (i :: heldL held)
  | [], _, _, h => by cases h
  | o :: os, 0, i, h => by
    cases Option.some.inj h
    exact List.Perm.refl _
  | o :: os, q + 1, i, h => by
    have ih := heldL_set (held := os) (q := q) i h
    rw [List.set_cons_succ]
    cases o with
    | none => exact ih
    | some r => exact (ih.cons r).trans (List.Perm.swap i r _)
theorem run_held {f : Int} {wd : Nat} {rows : List (List Int)} {lot : List Int} {G : GState} (R : GRun f wd rows lot G) (nd : lot.Nodup) : (heldL G.held).Nodup ∧ ∀ i ∈ heldL G.held, i ∈ lot := by
  induction R with
  | nil =>
    have e : heldL (gStart wd).held = [] := by
      show (List.replicate wd (none : Option Int)).filterMap id = []
      induction wd with
      | zero => rfl
      | succ n ih =>
        rw [List.replicate_succ]
        exact ih
    rw [e]
    exact ⟨List.nodup_nil, fun _ h => nomatch h⟩
  | @skip lot G i ns R h lk ih =>
    obtain ⟨h1, h2⟩ := ih (List.nodup_append.mp nd).1
    exact ⟨h1, fun j hj => List.mem_append_left _ (h2 j hj)⟩
  | @take lot G G' i q ns R h lk tk ih =>
    obtain ⟨h1, h2⟩ := ih (List.nodup_append.mp nd).1
    obtain ⟨_, _, _, _, q4⟩ := lackFrom_lt lk
    rw [Nat.sub_zero] at q4
    have eh : G'.held = G.held.set q (some (i : Int)) := tk.2.1
    have pm := heldL_set (i : Int) q4
    rw [← eh] at pm
    have ni : (i : Int) ∉ heldL G.held := fun hm => (List.nodup_append.mp nd).2.2 _ (h2 _ hm) _ (.head _) rfl
    refine ⟨pm.nodup_iff.mpr (List.nodup_cons.mpr ⟨ni, h1⟩), fun j hj => ?_⟩
    rcases List.mem_cons.mp (pm.mem_iff.mp hj) with rfl | m
    · exact List.mem_append_right _ (.head _)
    · exact List.mem_append_left _ (h2 j m)
theorem psOf_val : ∀ {held : List (Option Int)} {sh : List Int} {p : Int × Int}, p ∈ psOf held sh → p.2 ∈ sh ∧ p.2 ≠ 0
  | [], _, _, h => nomatch h
  | _ :: _, [], _, h => nomatch h
  | o :: os, s :: ss, p, h => by
    rw [psOf_cons] at h
    rcases List.mem_append.mp h with h | h
    · by_cases z : s = 0
      · rw [if_pos z] at h
        cases h
      · rw [if_neg z] at h
        cases o with
        | none => cases h
        | some r =>
          rw [List.mem_singleton.mp h]
          exact ⟨.head _, z⟩
    · obtain ⟨h1, h2⟩ := psOf_val h
      exact ⟨.tail _ h1, h2⟩
/-- what ring tells of a lot that is none free: the shares of the first row that is made of the rows ahead of it -/
structure RingAt (f : Int) (nss : List (List Int)) (lot : List Int) (n i : Nat) (G : GState) (ns : List Int) (rel : List (Int × Int)) : Prop where
  at_ : lot[n]? = some (i : Int)
  run : GRun f (widT nss) (rowsT f nss) (lot.take n) G
  full : manyL G.held = n
  row : (rowsT f nss)[i]? = some ns
  lack : lackL (sharesL f G.cols ns) G.held = none
  plain : Plain f (psOf G.held (sharesL f G.cols ns) ++ [((i : Int), -G.s)]) rel
  bnd : ∀ p ∈ psOf G.held (sharesL f G.cols ns) ++ [((i : Int), -G.s)], p.2.natAbs < 2 ^ 8900
def spRing (C CB : Addr) : Sp := fun vs H Q E => ∃ (p : Addr) (x : V) (o : Option (List V)) (f : Int) (a : Nat) (nss : List (List Int)), vs = [.ref p, x] ∧ TabAt C H p f nss ∧ Lv H x o ∧ (∀ xs, o = some xs → xs.length ≤ 1000) ∧ TabOk f (widT nss) a (rowsT f nss) ∧ a ≤ 800 ∧
  (∀ lot : List Int, lotFault nss.length o = none → o = some (lot.map V.int) → ∀ H' G, Same H H' → GRun f (widT nss) (rowsT f nss) lot G → manyL G.held = lot.length → Q .non H') ∧
  (∀ lot : List Int, lotFault nss.length o = none → o = some (lot.map V.int) → ∀ H' d n i G ns rel, Same H H' → H d = none → H' d = some (.dK (intK rel)) → RingAt f nss lot n i G ns rel → Q (.ref d) H') ∧ 
  (∀ k, lotFault nss.length o = some k → ∀ d H', Same H H' → H d = none → H' d = some (.xd [("place", .int (k : Int))]) → E (.ref CB) (some d) H')
section
variable {P : Program} {w : World} {K : PySem.W.Frag} {mg : Str → Option Value} {base : Heap} {C CG CB : Addr} {fI fT fM fK : Addr} {fdI fdT fdM fdK : FuncData}
abbrev nsRi : List Str := ["self", "lot", "gauge", "row", "shares"]
theorem scRi : FnScope nsRi ["self", "lot"] (defScope sRing) := ⟨rfl, rfl, rfl, by decide +kernel, rfl, by decide +kernel, by decide +kernel⟩
theorem ok_ring {f fC fP : Addr} {fd fdC fdP : FuncData} (F : Fun K "ring" "Rows.ring" sRing f fd) (N : Nm mg) (T : RTxt K mg C) (GF : GFns P w K mg base CG fI fT fM fK fdI fdT fdM fdK)
    (GC : FnOk P w K mg base (L2.CX P w) 4 fC fdC ["lot", "many"] (spCheckLot CB)) (kC : PySem.W.keepIn K (.ref fC) = true) (bC : Binds K fdC ["lot", "many"] []) (gC : mg "check_lot" = some (.ref fC))
    (GP : FnOk P w K mg base CX0 2 fP fdP ["shares", "field"] spPlain) (kP : PySem.W.keepIn K (.ref fP) = true) (bP : Binds K fdP ["shares", "field"] []) (gP : mg "plain_relation" = some (.ref fP)) :
    FnOk P w K mg base (L2.CX P w) 5 f fd ["self", "lot"] (spRing C CB) := by
  refine F.okX scRi (fun vs H Q E h => ?_) (fun cdv A outer s H vs Q E hr h => ?_)
  · obtain ⟨p, x, o, fl, a, nss, rfl, _⟩ := h
    rfl
  · obtain ⟨p, x, o, fl, a, nss, rfl, hT, hx, hl, ok, a800, kN, kY, kE⟩ := h
    have nd := scRi.nd
    have hr2 : Room 2 _ := hr.mono (by decide)
    have hr3 : Room 3 _ := hr.mono (by decide)
    have un := hr.units
    refine ⟨_, pss_cons (ps_expr (pe_call GC hr rfl gC kC bC .nil (passes_call (takes_of rfl rfl rfl rfl) fun _ _ _ _ h => h) (pa_cons (pv 1) (pa_cons (pe_callB lenT (by rfl) N.len PySem.boot_len (pa_cons (pe_fld (pv 0) rfl) pa_nil)) pa_nil))))
      (pss_cons (ps_set (i := 2) nd rfl (.inl rfl) (pe_make GF.mkC GF.gI hr2 (by rfl) GF.T.mgC GF.bI .nil pass0 (pa_cons (pe_fld (pv 0) rfl) (pa_cons (pe_fld (pv 0) rfl) pa_nil))))
      (pss_cons (ps_for (passes_of rfl) rfl (pi_seqv (pv 1)) (pg_name (i := 3) nd rfl (.inl rfl))
        (pss_one (ps_if (pt_not (pt_val (pe_meth (pv 2) GF.T.cl GF.mT GF.gT hr3 GF.bT .nil pass0 (pa_cons (pv 3) (pa_cons (pe_ix ixT (pe_fld (pv 0) rfl) (pv 3) (fun _ _ => rfl)) pa_nil)))))
          (pss_cons (ps_set (i := 4) nd rfl (.inl rfl) (pe_meth (pv 2) GF.T.cl GF.mK GF.gK hr2 GF.bK .nil pass0 (pa_cons (pe_ix ixT (pe_fld (pv 0) rfl) (pv 3) (fun _ _ => rfl)) pa_nil)))
          (pss_cons (ps_dput (Nat.lt_of_le_of_lt (Nat.add_le_add_left (by decide : 1 ≤ 64) _) un) (pv 4) (pv 3) (pe_un un_neg (pe_fld (pv 2) rfl)) rfl)
          (pss_one (ps_ret (pe_call GP hr2 rfl gP kP bP .nil pass0 (pa_cons (pv 4) (pa_cons (pe_fld (pv 0) rfl) pa_nil))))))) pss_nil)))
      (pss_one (ps_ret pe_non)))), ?_⟩
    obtain ⟨dx, t, ts, hp, ht, hts⟩ := id hT
    have tl : ts.length = nss.length := Paired.length hts
    refine ⟨_, rfl, _, rfl, p, C, dx, _, _, rfl, hp, T.cl, T.nR, rfl, t, _, rfl, ht, ?_⟩
    rw [List.length_map, tl]
    refine ⟨x, o, (nss.length : Int), rfl, hx, hl, fun z H1 s1 => ?_, fun k hk d H1 s1 nd1 e1 => kE k hk d H1 s1 nd1 e1⟩
    obtain ⟨l, lot, rfl, rfl, hS, hlot, pw⟩ := lv_ints hx z
    have hp1 := s1 _ _ hp
    have ndl : lot.Nodup := pw.imp fun {a b} h e => by omega
    refine ⟨_, rfl, p, C, dx, _, _, rfl, hp1, T.cl, T.nW, rfl, _, rfl, p, C, dx, _, _, rfl, hp1, T.cl, T.nF, rfl, fun g dg ng ndg ne => ?_⟩
    have sG := (same_upd ndg (o := .own g)).trans (same_upd (o := .ins CG dg []) (by rw [upd_ne (Ne.symm ne)]; exact ng))
    generalize hH1 : upd (upd H1 dg (.own g)) g (.ins CG dg []) = H1' at sG
    have g1 : H1' g = some (.ins CG dg []) := by rw [← hH1, upd_same]
    refine ⟨g, dg, fl, widT nss, rfl, g1, ok.w12, fun H2 c h b2 nc nh hG => ⟨rfl, ?_⟩⟩
    have keep : ∀ b u, H1 b = some u → H2 b = some u := fun b u e => b2 _ _ (ne_of_none e ng) (sG _ _ e)
    have nc0 : H1 c = none := sG.free nc
    have nh0 : H1 h = none := sG.free nh
    have hL := hS.same s1
    refine seqvS (K := K) rfl (hL.same keep) fun J G wk hG2 => for_it wk (fun i σ H' => ∃ (v : Option V) (Gs : GState), σ = [some (.ref p), some (.ref l), some (.ref g), v, none] ∧ Same H1 H' ∧ GaugeAt CG H' g c h fl Gs ∧ GRun fl (widT nss) (rowsT fl nss) (lot.take i) Gs ∧ manyL Gs.held = i)
      ⟨none, gStart (widT nss), rfl, keep, hG, .nil, manyL_rep _⟩ (fun i σ H' _ ⟨_, _, _, sH, _⟩ => ?_) ?_ ?_
    · refine hG2 _ fun u e => ?_
      rcases hL with h | h
      · rw [keep _ _ h] at e
        cases e
        exact sH _ _ h
      · rw [keep _ _ h] at e
        cases e
        exact sH _ _ h
    · rintro i x σ H' H'' hi ⟨v, Gs, rfl, sH, hGs, run, full⟩ ⟨rfl, hx⟩
      obtain ⟨j, rfl, hj⟩ := int_at hx
      obtain ⟨j0, j1⟩ := hlot j (List.mem_of_getElem? hj)
      obtain ⟨n, rfl⟩ : ∃ n : Nat, j = n := ⟨j.toNat, by omega⟩
      have hns : nss[n]? = some (nss[n]'(by omega)) := List.getElem?_eq_getElem _
      generalize nss[n]'(by omega) = ns at hns
      have hrow := rows_at (f := fl) hns
      have I := gi_run ok run
      have tk : lot.take (i + 1) = lot.take i ++ [(n : Int)] := by rw [List.take_succ, hj]; rfl
      obtain ⟨dxg, cs, hg', hc', hh', hcs', nch, hap⟩ := id hGs
      have sH0 := s1.trans sH
      obtain ⟨tr, htr⟩ : ∃ tr, ts[n]? = some tr := ⟨_, List.getElem?_eq_getElem (by omega)⟩
      obtain ⟨ns2, hns2, hrw⟩ := paired_get hts htr
      rw [hns] at hns2
      cases hns2
      have htt : (ts.map V.ref)[n]? = some (V.ref tr) := by rw [List.getElem?_map, htr]; rfl
      have mrow := List.mem_of_getElem? hrow
      have hrw' := sH0 _ _ hrw
      have ne1 : tr ≠ g := fun e => by rw [e, hg'] at hrw'; cases hrw'
      have ne2 : tr ≠ c := fun e => by rw [e, hc'] at hrw'; cases hrw'
      have ne3 : tr ≠ h := fun e => by rw [e, hh'] at hrw'; cases hrw'
      refine ⟨_, rfl, g, dxg, _, rfl, hg', rfl, _, rfl, _, rfl, p, C, dx, _, _, rfl, sH0 _ _ hp, T.cl, T.nR, rfl, _, rfl, t, (n : Int), _, _, rfl, rfl, sH0 _ _ ht, atI_nat htt,
        g, c, h, tr, fl, (n : Int), widT nss, a, _, Gs, ns.map (tell fl), rfl, hGs, I.sh, I.fok ok, hrw', ok.len _ mrow, ok.bits _ mrow, ok.a0, bb_pos, ok.a8, ok.b8 I.le, ok.f0.1, ok.f0.2, ne1, ne2, ne3, fun lk H3 s3 => ?_, fun q lk H3 G3 b3 hG3 tk3 => ?_⟩
      · refine ⟨_, rfl, iteT ?_⟩
        have sH3 := sH0.trans s3
        have hG3 := hGs.keep s3
        obtain ⟨dxg3, cs3, hg3, _⟩ := id hG3
        refine ⟨_, rfl, g, dxg3, _, rfl, hg3, rfl, _, rfl, p, C, dx, _, _, rfl, sH3 _ _ hp, T.cl, T.nR, rfl, _, rfl, t, (n : Int), _, _, rfl, rfl, sH3 _ _ ht, atI_nat htt,
          g, c, h, tr, fl, widT nss, a, _, Gs, ns.map (tell fl), rfl, hG3, I.sh, sH3 _ _ hrw, ok.len _ mrow, ok.bits _ mrow, ok.a0, bb_pos, by have := ok.a8; have := ok.b8 I.le; omega, ok.f0.1, fun q lk2 H4 s4 => ?_, fun lk2 H4 pd s4 nd4 e4 => ?_⟩
        · rw [lk] at lk2
          cases lk2
        · have hG4 := hG3.keep s4
          obtain ⟨dxg4, cs4, hg4, _⟩ := id hG4
          obtain ⟨hn1, hn2⟩ := run_held run ((List.take_sublist _ _).nodup ndl)
          rw [mkD_ps hn1] at e4
          have ni : (n : Int) ∉ (psOf Gs.held (sharesL fl Gs.cols (ns.map (tell fl)))).map (·.1) := fun hm => take_notin ndl hj (hn2 _ ((psOf_sub _ _).subset hm))
          have lsh : (sharesL fl Gs.cols (ns.map (tell fl))).length = widT nss := by unfold sharesL; rw [List.length_map, I.sh.cl]
          have lps : (psOf Gs.held (sharesL fl Gs.cols (ns.map (tell fl)))).length ≤ 12 := by
            have h1 := (psOf_sub Gs.held (sharesL fl Gs.cols (ns.map (tell fl)))).length_le
            have h2 : (heldL Gs.held).length ≤ Gs.held.length := List.length_filterMap_le _ _
            rw [List.length_map] at h1
            have := ok.w12
            have := I.sh.hl
            omega
          refine ⟨_, rfl, g, CG, dxg4, _, _, rfl, hg4, GF.T.cl, GF.T.nS, rfl, Gs.s, rfl, _, rfl, _, rfl, pd, _, rfl, .inl ⟨_, Sum.inl (n : Int), e4, rfl, ?_, rfl⟩, ?_⟩
          · unfold intK
            rw [List.length_map]
            exact Nat.lt_of_le_of_lt lps (Nat.lt_of_lt_of_le (by decide : 12 < 1001) (by decide))
          rw [intK_snoc ni]
          have sH4 := sH3.trans s4
          have npp : p ≠ pd := fun e => by
            have := sH3 _ _ hp
            rw [e, nd4] at this
            cases this
          have hv : ∀ q ∈ psOf Gs.held (sharesL fl Gs.cols (ns.map (tell fl))) ++ [((n : Int), -Gs.s)], ¬ fl ∣ q.2 ∧ q.2.natAbs < 2 ^ 8900 := fun q hq => by
            have hb8 := ok.b8 I.le
            rcases List.mem_append.mp hq with m | m
            · obtain ⟨m1, m2⟩ := psOf_val m
              obtain ⟨jj, hj1, hj2⟩ := List.mem_iff_getElem.mp m1
              have eg : (sharesL fl Gs.cols (ns.map (tell fl))).getD jj 0 = q.2 := by rw [List.getD_eq_getElem?_getD, List.getElem?_eq_getElem hj1]; exact hj2
              have hjw : jj < widT nss := by omega
              refine ⟨fun hd => m2 ?_, ?_⟩
              · have e := shares_at I.sh (ok.len _ mrow) hjw
                rw [eg] at e
                rw [e] at hd ⊢
                exact redf_zero ok.f0.1 hd
              · rcases ok.fok with ⟨z0, _⟩ | h3
                · have := share_bits ok I.sh (ok.len _ mrow) (ok.bits _ mrow) hjw z0
                  rw [eg] at this
                  exact Nat.lt_of_lt_of_le this (Nat.pow_le_pow_right (by decide) (by omega))
                · have := share_lt (G := Gs) (ns := ns.map (tell fl)) (j := jj) h3.2.1
                  rw [eg] at this
                  exact Nat.lt_trans this (Nat.lt_of_lt_of_le (by omega : fl.natAbs < 2 ^ 60) (Nat.pow_le_pow_right (by decide) (by decide)))
            · rw [List.mem_singleton.mp m]
              refine ⟨fun hd => I.nz ((Int.dvd_neg).mp hd), ?_⟩
              show (-Gs.s).natAbs < _
              rw [Int.natAbs_neg]
              exact Nat.lt_of_lt_of_le I.sh.sb (Nat.pow_le_pow_right (by decide) (by omega))
          refine ⟨_, rfl, _, rfl, p, C, dx, _, _, rfl, (by rw [upd_ne npp]; exact sH4 _ _ hp), T.cl, T.nF, rfl, pd, fl, _, rfl, upd_same, ?_, by simp, by rw [List.length_append]; show _ + 1 ≤ 60; omega, hv, ?_, fun H5 d' rel s5 nd5 e5 pl => ?_⟩
          · rw [List.map_append]
            exact List.nodup_append.mpr ⟨hn1.sublist (psOf_sub _ _), List.nodup_cons.mpr ⟨List.not_mem_nil, List.nodup_nil⟩, fun u hu v hv e => by
              rw [List.mem_singleton.mp hv] at e
              rw [e] at hu
              exact ni hu⟩
          · rcases ok.fok with ⟨z0, _⟩ | h
            · exact .inl z0
            · exact .inr h
          · have sX := (same_new (sH3.free nd4) sH4).trans s5
            exact kY lot z rfl H5 d' i n Gs _ rel sX ((same_new (sH3.free nd4) sH4).free nd5) e5 ⟨hj, run, full, hrow, lk, pl, fun q hq => (hv q hq).2⟩
      · refine ⟨_, rfl, iteF ⟨_, G3, rfl, fun b u e => b3 _ _ (ne_of_none e ng) (ne_of_none e nc0) (ne_of_none e nh0) (sH _ _ e), hG3, ?_, ?_⟩⟩
        · rw [tk]
          exact .take run hrow lk tk3
        · obtain ⟨_, _, _, _, q4⟩ := lackFrom_lt lk
          rw [Nat.sub_zero] at q4
          rw [tk3.2.1, manyL_set q4, full]
    · rintro σ H' ⟨v, Gs, rfl, sH, hGs, run, full⟩
      rw [List.length_map] at full
      rw [List.length_map, List.take_length] at run
      exact kN lot z rfl H' Gs (s1.trans sH) run full
end
/-! ### the law's drawn fields and rows -/
theorem Paired.keepMem {α β : Type} {F G : α → β → Prop} : ∀ {xs : List α} {ys : List β}, Paired F xs ys → (∀ x ∈ xs, ∀ y, F x y → G x y) → Paired G xs ys
  | _, _, .nil, _ => .nil
  | _, _, .cons r t, h => .cons (h _ (.head _) _ r) (Paired.keepMem t fun x m => h x (.tail _ m))
abbrev sLField : Stmt := top 42
abbrev sLRows : Stmt := top 43
def spLField : Sp := fun vs H Q _ => ∃ (p : Addr) (o : HO) (n : Nat), vs = [.ref p] ∧ H p = some o ∧ SrcL n o ∧ n ≤ 100000 ∧
  ∀ H' f o', But p H H' → H' p = some o' → SrcL (n + 1) o' → f ∈ fields → Q (.int f) H'
/-- rows at addresses: lists of ints -/
def LRows (H : Hp) (wd : Nat) (B : Nat) (rs : List Addr) (nss : List (List Int)) : Prop := Paired (fun r ns => H r = some (.lst (ns.map V.int)) ∧ ns.length = wd ∧ ∀ i ∈ ns, i.natAbs ≤ B) rs nss
def spLRows : Sp := fun vs H Q _ => ∃ (p : Addr) (o : HO) (n wd m : Nat), vs = [.ref p, .int (wd : Int), .int (m : Int)] ∧ H p = some o ∧ SrcL n o ∧ n ≤ 50000 ∧ wd ≤ 12 ∧ m ≤ 60 ∧
  ∀ H' q rs nss o', But p H H' → H' p = some o' → SrcL (n + 40 * m) o' → H' q = some (.lst (rs.map V.ref)) → LRows H' wd (2 * 3 ^ m) rs nss → rs.length = m → H q = none → q ≠ p → (∀ r ∈ rs, H r = none ∧ r ≠ p ∧ r ≠ q) → Q (.ref q) H'
section
variable {P : Program} {w : World} {K : PySem.W.Frag} {mg : Str → Option Value} {base : Heap}
theorem scLF : FnScope ["_law_source_here"] ["_law_source_here"] (defScope sLField) := ⟨rfl, rfl, rfl, by decide +kernel, rfl, by decide +kernel, by decide +kernel⟩
theorem ok_lfield {f fD : Addr} {fd fdD : FuncData} (F : Fun K "_law_field" "_law_field" sLField f fd) (GD : FnOk P w K mg base CX0 1 fD fdD ["_law_source_here", "_law_many"] spDraw) (kD : PySem.W.keepIn K (.ref fD) = true)
    (bD : Binds K fdD ["_law_source_here", "_law_many"] []) (gD : mg "_law_draw" = some (.ref fD)) : FnOk P w K mg base CX0 2 f fd ["_law_source_here"] spLField := by
  refine F.ok scLF (fun vs H Q E h => ?_) (fun cdv A outer s H vs Q E hr h => ?_)
  · obtain ⟨p, o, n, rfl, _⟩ := h
    rfl
  · obtain ⟨p, o, n, rfl, hp, ho, hn, k⟩ := h
    refine ⟨_, pss_one (ps_ret (pe_ix ixL (pe_lst (pa_cons pe_int (pa_cons pe_int (pa_cons pe_int (pa_cons pe_int (pa_cons pe_int (pa_cons pe_int (pa_cons pe_int (pa_cons pe_int (pa_cons pe_int (pa_cons pe_int pa_nil)))))))))))
      (pe_call GD hr rfl gD kD bD .nil pass0 (pa_cons (pv 0) (pa_cons pe_int pa_nil))) (fun _ _ => rfl))), ?_⟩
    refine ⟨Nat.le_of_ble_eq_true rfl, fun l hl => ?_⟩
    have nlp : l ≠ p := fun e => by
      rw [e, hp] at hl
      cases hl
    refine ⟨_, rfl, p, o, n, 10, rfl, by rw [upd_ne (Ne.symm nlp)]; exact hp, ho, hn, by decide, by decide, fun r o' r0 r1 ho' => ?_⟩
    have key : ∀ j : Nat, j < 10 → ∃ f ∈ fields, ([0, 0, 0, 2, 2, 3, 5, 7, 11, 13] : List Int)[j]? = some f := by decide
    obtain ⟨j, rfl⟩ : ∃ j : Nat, r = j := ⟨r.toNat, by omega⟩
    obtain ⟨f, hf, hj⟩ := key j (by omega)
    have l3 : upd (upd H l (.lst (([0, 0, 0, 2, 2, 3, 5, 7, 11, 13] : List Int).map V.int))) p o' l = some (.lst (([0, 0, 0, 2, 2, 3, 5, 7, 11, 13] : List Int).map V.int)) := by
      rw [upd_ne nlp, upd_same]
    refine ⟨l, j, _, V.int f, rfl, rfl, l3, atI_nat (by rw [List.getElem?_map, hj]; rfl), k _ f o' (fun b u nb e => ?_) upd_same ho' hf⟩
    rw [upd_ne nb, upd_ne (ne_of_none e hl)]
    exact e
theorem scLR : FnScope ["_law_source_here", "_law_width", "_law_many", "_law_found", "_law_k", "_law_way", "_law_row", "_law_times", "_law_place", "_law_number"] ["_law_source_here", "_law_width", "_law_many"] (defScope sLRows) := ⟨rfl, rfl, rfl, by decide +kernel, rfl, by decide +kernel, by decide +kernel⟩
abbrev nsLR : List Str := ["_law_source_here", "_law_width", "_law_many", "_law_found", "_law_k", "_law_way", "_law_row", "_law_times", "_law_place", "_law_number"]
theorem ok_lrows {f fD fP : Addr} {fd fdD fdP : FuncData} (F : Fun K "_law_rows" "_law_rows" sLRows f fd) (N : Nm mg) (GD : FnOk P w K mg base CX0 1 fD fdD ["_law_source_here", "_law_many"] spDraw) (kD : PySem.W.keepIn K (.ref fD) = true)
    (bD : Binds K fdD ["_law_source_here", "_law_many"] []) (gD : mg "_law_draw" = some (.ref fD)) (GP : FnOk P w K mg base CX0 2 fP fdP ["_law_source_here", "_law_things"] (spPick K)) (kP : PySem.W.keepIn K (.ref fP) = true)
    (bP : Binds K fdP ["_law_source_here", "_law_things"] []) (gP : mg "_law_pick" = some (.ref fP)) : FnOk P w K mg base CX0 3 f fd ["_law_source_here", "_law_width", "_law_many"] spLRows := by
  refine F.ok scLR (fun vs H Q E h => ?_) (fun cdv A outer s H vs Q E hr h => ?_)
  · obtain ⟨p, o, n, wd, m, rfl, _⟩ := h
    rfl
  · obtain ⟨p, o, n, wd, m, rfl, hp, ho, hn, hw, hm, k⟩ := h
    have nd := scLR.nd
    have hr1 : Room 1 _ := hr.mono (by decide)
    refine ⟨_, pss_cons (ps_set (i := 3) nd rfl (.inl rfl) (pe_lst pa_nil))
      (pss_cons (ps_for PassesOwn.never rfl (pi_range1 (by rfl) N.range (pa_cons (pv 2) pa_nil)) (pg_name (i := 4) nd rfl (.inl rfl))
        (pss_cons (ps_set (i := 5) nd rfl (.inl rfl) (pe_call GD hr1 rfl gD kD bD .nil pass0 (pa_cons (pv 0) (pa_cons pe_int pa_nil))))
        (pss_cons (ps_setLc (i := 6) (own := [("_law_place", 8)]) (g := gName 8) (tt := tYes) rfl nd rfl rfl (sw_true rfl rfl rfl (by decide +kernel)) (pi_range1 (by rfl) N.range (pa_cons (pv 1) pa_nil))
            (blkOk_by (own := [("_law_place", 8)]) (N := nsLR) (sc := defScope sLRows) (by decide +kernel)) (fun _ _ _ _ _ => pg_name (i := 8) nd rfl (Or.inl rfl)) (fun _ _ _ _ _ => pts_nil)
            (fun _ _ _ _ _ => pe_op op_sub (pe_call GD hr1 rfl gD kD bD .nil pass0 (pa_cons (pv 0) (pa_cons pe_int pa_nil))) pe_int))
        (pss_cons (ps_if (PW.pt (pw_and (pt_cmpR op_eq (pv 5) pe_int (nomark _)) (pw_and1 (pt_cmpR (op_neD hr.units) (pv 3) (pe_lst pa_nil) (nomark _)))))
            (pss_one (ps_set (i := 6) nd rfl (.inl rfl) (pe_callTy call_list_of (by rfl) N.list (by decide +kernel) (pa_cons (pe_call GP hr rfl gP kP bP .nil pass0 (pa_cons (pv 0) (pa_cons (pv 3) pa_nil))) pa_nil))))
            (pss_one (ps_if (PW.pt (pw_and (pt_cmpR op_eq (pv 5) pe_int (nomark _)) (pw_and1 (pt_cmpR (op_neD hr.units) (pv 3) (pe_lst pa_nil) (nomark _)))))
              (pss_cons (ps_set (i := 7) nd rfl (.inr rfl) (pe_op op_add pe_int (pe_call GD hr1 rfl gD kD bD .nil pass0 (pa_cons (pv 0) (pa_cons pe_int pa_nil)))))
                (pss_one (ps_setLc (i := 6) (own := [("_law_number", 9)]) (g := gName 9) (tt := tYes) rfl nd rfl rfl (sw_true rfl rfl rfl (by decide +kernel)) (pi_list (pe_call GP hr rfl gP kP bP .nil pass0 (pa_cons (pv 0) (pa_cons (pv 3) pa_nil))))
                  (blkOk_by (own := [("_law_number", 9)]) (N := nsLR) (sc := defScope sLRows) (by decide +kernel)) (fun _ _ _ _ _ => pg_name (i := 9) nd rfl (Or.inl rfl)) (fun _ _ _ _ _ => pts_nil)
                  (fun _ _ _ _ _ => pe_op op_mul (pv 7) (pv 9)))))
              (pss_one (ps_if (pt_cmpR op_eq (pv 5) pe_int (nomark _))
                (pss_one (ps_setLc (i := 6) (own := [("_law_place", 8)]) (g := gName 8) (tt := tYes) rfl nd rfl rfl (sw_true rfl rfl rfl (by decide +kernel)) (pi_range1 (by rfl) N.range (pa_cons (pv 1) pa_nil))
                  (blkOk_by (own := [("_law_place", 8)]) (N := nsLR) (sc := defScope sLRows) (by decide +kernel)) (fun _ _ _ _ _ => pg_name (i := 8) nd rfl (Or.inl rfl)) (fun _ _ _ _ _ => pts_nil)
                  (fun _ _ _ _ _ => pe_ix ixL (pe_lst (pa_cons pe_int (pa_cons pe_int (pa_cons pe_int pa_nil)))) (pe_call GD hr1 rfl gD kD bD .nil pass0 (pa_cons (pv 0) (pa_cons pe_int pa_nil))) (fun _ _ => rfl))))
                pss_nil)))))
        (pss_one (ps_expr (pe_bm PySem.F.plainAttrs_list PySem.F.slot_list_append PySem.F.type_list_append mt_append (pv 3) (pa_cons (pv 6) pa_nil))))))))
      (pss_one (ps_ret (pv 3)))), ?_⟩
    refine ⟨Nat.zero_le _, fun q hq => ?_⟩
    have nqp : q ≠ p := fun e => by
      rw [e, hp] at hq
      cases hq
    have s0 : Same H (upd H q (.lst [])) := same_upd hq
    refine ⟨_, rfl, (m : Int), rfl, by omega, by omega, for_range (lo := 0) (n := m) (fun i σ G => ∃ (c4 c5 c6 c7 c8 c9 : Option V) (o' : HO) (rs : List Addr) (nss : List (List Int)),
        σ = [some (.ref p), some (.int (wd : Int)), some (.int (m : Int)), some (.ref q), c4, c5, c6, c7, c8, c9] ∧ G p = some o' ∧ SrcL (n + 40 * i) o' ∧ But p H G ∧ G q = some (.lst (rs.map V.ref)) ∧
        LRows G wd (2 * 3 ^ i) rs nss ∧ rs.length = i ∧ ∀ r ∈ rs, H r = none ∧ r ≠ p ∧ r ≠ q)
      ⟨none, none, none, none, none, none, o, [], [], rfl, s0 _ _ hp, ho, But.same s0, upd_same, .nil, rfl, fun _ h => nomatch h⟩ ?_ ?_⟩
    · rintro i σ G hi ⟨c4, c5, c6, c7, c8, c9, o1, rs, nss, rfl, hG, ho1, bG, hGq, hrs, hlen, hfr⟩
      have p3 : 2 * 3 ^ i ≤ 2 * 3 ^ (i + 1) := by
        rw [Nat.pow_succ]
        omega
      have fin : ∀ (G' : Hp) (D' : Addr) (ns : List Int) (o2 : HO) (c4 c5 c7 c8 c9 : Option V), But p G G' → G' p = some o2 → SrcL (n + 40 * (i + 1)) o2 → G D' = none → G' D' = some (.lst (ns.map V.int)) → ns.length = wd → (∀ j ∈ ns, j.natAbs ≤ 2 * 3 ^ (i + 1)) →
          ∃ (c4' c5' c6' c7' c8' c9' : Option V) (o' : HO) (rs' : List Addr) (nss' : List (List Int)),
            ([some (.ref p), some (.int (wd : Int)), some (.int (m : Int)), some (.ref q), c4, c5, some (.ref D'), c7, c8, c9] : L2.St) = [some (.ref p), some (.int (wd : Int)), some (.int (m : Int)), some (.ref q), c4', c5', c6', c7', c8', c9'] ∧
            upd G' q (.lst (rs.map V.ref ++ [.ref D'])) p = some o' ∧ SrcL (n + 40 * (i + 1)) o' ∧ But p H (upd G' q (.lst (rs.map V.ref ++ [.ref D']))) ∧ upd G' q (.lst (rs.map V.ref ++ [.ref D'])) q = some (.lst (rs'.map V.ref)) ∧
            LRows (upd G' q (.lst (rs.map V.ref ++ [.ref D']))) wd (2 * 3 ^ (i + 1)) rs' nss' ∧ rs'.length = i + 1 ∧ ∀ r ∈ rs', H r = none ∧ r ≠ p ∧ r ≠ q := by
        intro G' D' ns o2 c4 c5 c7 c8 c9 b2 h2 s2 nD hD hl hb
        have nDp : D' ≠ p := fun e => by
          rw [e, hG] at nD
          cases nD
        have nDq : D' ≠ q := fun e => by
          rw [e, hGq] at nD
          cases nD
        have keep : ∀ r u, r ≠ p → r ≠ q → G r = some u → upd G' q (.lst (rs.map V.ref ++ [.ref D'])) r = some u := fun r u n1 n2 e => by
          rw [upd_ne n2]
          exact b2 _ _ n1 e
        refine ⟨c4, c5, _, c7, c8, c9, o2, rs ++ [D'], nss ++ [ns], rfl, by rw [upd_ne (Ne.symm nqp)]; exact h2, s2, fun b u nb e => ?_, by rw [upd_same, List.map_append]; rfl, ?_, by rw [List.length_append, hlen]; rfl, ?_⟩
        · exact keep b u nb (fun e2 => by
            rw [e2, hq] at e
            cases e) (bG _ _ nb e)
        · refine Paired.snoc (Paired.keepMem hrs fun r hr ms h => ⟨keep r _ (hfr r hr).2.1 (hfr r hr).2.2 h.1, h.2.1, fun j hj => Nat.le_trans (h.2.2 j hj) p3⟩) ⟨?_, hl, hb⟩
          rw [upd_ne nDq]
          exact hD
        · intro r hr
          rcases List.mem_append.mp hr with h | h
          · exact hfr r h
          · rw [List.mem_singleton.mp h]
            refine ⟨?_, nDp, nDq⟩
            cases e : H D' with
            | none => rfl
            | some u => rw [bG _ _ nDp e] at nD; cases nD
      refine ⟨_, rfl, p, o1, n + 40 * i, 8, rfl, hG, ho1, by omega, by decide, by decide, fun way o2 w0 w1 ho2 => ?_⟩
      generalize hG1 : upd G p o2 = G1
      have b1 : But p G G1 := by rw [← hG1]; exact But.upd
      have hG1p : G1 p = some o2 := by rw [← hG1, upd_same]
      have pos : 0 < 3 ^ (i + 1) := Nat.pow_pos (by decide)
      refine ⟨_, rfl, (wd : Int), rfl, by omega, by omega, fun D nD => comp_range (lo := 0) (n := wd) (fun j G' => But p G1 G' ∧ ∃ o3, G' p = some o3 ∧ SrcL (n + 40 * i + 1 + j) o3) (fun _ y => ∃ v, y = .int v ∧ v.natAbs ≤ 2)
        ⟨fun _ _ _ e => e, o2, hG1p, ho2⟩ ?_ (by omega) (fun _ => rfl) ?_ ?_⟩
      · rintro j G' u ⟨b2, o3, h3, s3⟩
        have nDp : D ≠ p := fun e => by
          rw [e, hG1p] at nD
          cases nD
        refine ⟨fun b x nb e => ?_, o3, by rw [upd_ne (Ne.symm nDp)]; exact h3, s3⟩
        rw [upd_ne (ne_of_none e nD)]
        exact b2 _ _ nb e
      · rintro j G' hj ⟨b2, o3, h3, s3⟩ R hR
        refine ⟨_, rfl, p, o3, _, 5, rfl, h3, s3, by omega, by decide, by decide, fun v o4 v0 v1 ho4 => ⟨_, _, rfl, rfl, hR _ _ ⟨_, rfl, by omega⟩ ⟨b2.trans But.upd, o4, upd_same, ho4⟩ ?_⟩⟩
        exact upd_ne fun e => by
          rw [e, hG1p] at nD
          cases nD
      · rintro G2 ys ⟨b2, o3, h3, s3⟩ hD gv
        obtain ⟨ns, rfl, hl, hb⟩ := gv.ints
        have bG2 := b1.trans b2
        have nGD : G D = none := by
          cases e : G D with
          | none => rfl
          | some u =>
            by_cases e2 : D = p
            · rw [e2, hG1p] at nD
              cases nD
            · rw [b1 _ _ e2 e] at nD
              cases nD
        have hG2q := bG2 _ _ nqp hGq
        have pos1 : 2 ≤ 2 * 3 ^ (i + 1) := by omega
        have hsz : (rs.map V.ref).length < sizeLine := by
          rw [List.length_map, hlen]
          exact Nat.lt_of_lt_of_le (by omega : _ < 61) (by decide)
        have ne : ∀ {G3 : Hp} {e : Addr}, But p G2 G3 → G3 e = some (.lst []) → Dp K G3 (.ref q) (ltabD nss) ∧ Dp K G3 (.ref e) (.list []) := fun b3 he => ⟨ldp_tab (b3 _ _ nqp hG2q) (Paired.keepMem hrs fun r hr ms h => b3 _ _ (hfr r hr).2.1 (bG2 _ _ (hfr r hr).2.1 h.1)), .lst (SqL.of he) .nil⟩
        refine ⟨_, rfl, rfl, _, rfl, ?_⟩
        by_cases way0 : way = 0
        · rw [decide_eq_true (congrArg V.int way0)]
          refine iteT ⟨_, rfl, Nat.zero_le _, fun e ne0 => ?_⟩
          have be : But p G2 (upd G2 e (.lst [])) := But.same (same_upd ne0)
          obtain ⟨d1, d2⟩ := ne be upd_same
          refine ⟨_, _, d1, d2, shaped_ltab _, rfl, _, rfl, ?_⟩
          rw [eqv_none]
          have nDp : D ≠ p := fun e => by
            rw [e, hG1p] at nD
            cases nD
          by_cases emp : rs = []
          · have en : nss = [] := by
              rw [emp] at hrs
              cases hrs
              rfl
            rw [en]
            refine iteF ⟨_, rfl, rfl, _, rfl, ?_⟩
            rw [decide_eq_false (fun h => by have := V.int.inj h; omega)]
            refine iteF ⟨_, rfl, rfl, _, rfl, ?_⟩
            rw [decide_eq_false (fun h => by have := V.int.inj h; omega)]
            have hq3 := be _ _ nqp hG2q
            refine iteF ⟨_, rfl, .inl ⟨rfl, _, SqL.of hq3⟩, _, rfl, q, _, _, rfl, rfl, hq3, hsz, ?_⟩
            exact fin _ D ns o3 _ _ _ _ _ (bG2.trans be) (same_upd ne0 _ _ h3) (s3.mono (by omega)) nGD (be _ _ nDp hD) hl fun j hj => Nat.le_trans (hb j hj) pos1
          · have en : nss.isEmpty = false := by
              cases nss with
              | nil => cases hrs; exact absurd rfl emp
              | cons _ _ => rfl
            rw [en]
            have hq3 := be _ _ nqp hG2q
            refine iteT ⟨_, rfl, _, rfl, p, q, o3, _, _, rfl, same_upd ne0 _ _ h3, s3, by omega, hq3, by simpa using emp, by rw [List.length_map]; omega, Ne.symm nqp, fun x o4 hx ho4 => ?_⟩
            obtain ⟨r, hr2, rfl⟩ := List.mem_map.mp hx
            obtain ⟨ms, _, hrow, hml, hmb⟩ := paired_mem hrs hr2
            have b4 : But p G2 (upd (upd G2 e (.lst [])) p o4) := be.trans But.upd
            have hrow4 := b4 _ _ (hfr r hr2).2.1 (bG2 _ _ (hfr r hr2).2.1 hrow)
            refine ⟨r, _, rfl, .inl (SqL.of hrow4), fun L nL => ?_⟩
            generalize hG5 : upd (upd (upd G2 e (.lst [])) p o4) L (.lst (ms.map V.int)) = G5
            have s5 : Same (upd (upd G2 e (.lst [])) p o4) G5 := by rw [← hG5]; exact same_upd nL
            have b5 := b4.trans (But.same s5)
            have hq5 := b5 _ _ nqp hG2q
            refine ⟨_, rfl, .inl ⟨rfl, _, SqL.of hq5⟩, _, rfl, q, _, _, rfl, rfl, hq5, hsz, ?_⟩
            refine fin _ L ms o4 _ _ _ _ _ (bG2.trans b5) (s5 _ _ upd_same) (ho4.mono (by omega)) ?_ (by rw [← hG5, upd_same]) hml fun j hj => Nat.le_trans (hmb j hj) p3
            exact (bG2.trans b4).free upd_same nL
        · rw [decide_eq_false (fun h => way0 (V.int.inj h))]
          have nDp : D ≠ p := fun e => by
            rw [e, hG1p] at nD
            cases nD
          refine iteF ⟨_, rfl, rfl, _, rfl, ?_⟩
          by_cases way1 : way = 1
          · rw [decide_eq_true (congrArg V.int way1)]
            refine iteT ⟨_, rfl, Nat.zero_le _, fun e ne0 => ?_⟩
            have be : But p G2 (upd G2 e (.lst [])) := But.same (same_upd ne0)
            obtain ⟨d1, d2⟩ := ne be upd_same
            refine ⟨_, _, d1, d2, shaped_ltab _, rfl, _, rfl, ?_⟩
            rw [eqv_none]
            by_cases emp : rs = []
            · have en : nss = [] := by
                rw [emp] at hrs
                cases hrs
                rfl
              rw [en]
              refine iteF ⟨_, rfl, rfl, _, rfl, ?_⟩
              rw [decide_eq_false (fun h => by have := V.int.inj h; omega)]
              have hq3 := be _ _ nqp hG2q
              refine iteF ⟨_, rfl, .inl ⟨rfl, _, SqL.of hq3⟩, _, rfl, q, _, _, rfl, rfl, hq3, hsz, ?_⟩
              exact fin _ D ns o3 _ _ _ _ _ (bG2.trans be) (same_upd ne0 _ _ h3) (s3.mono (by omega)) nGD (be _ _ nDp hD) hl fun j hj => Nat.le_trans (hb j hj) pos1
            · have en : nss.isEmpty = false := by
                cases nss with
                | nil => cases hrs; exact absurd rfl emp
                | cons _ _ => rfl
              rw [en]
              have hq3 := be _ _ nqp hG2q
              refine iteT ⟨_, rfl, p, o3, _, 3, rfl, same_upd ne0 _ _ h3, s3, by omega, by decide, by decide, fun v o4 v0 v1 ho4 => ⟨1, v, rfl, rfl, ?_⟩⟩
              have b4 : But p G2 (upd (upd G2 e (.lst [])) p o4) := be.trans But.upd
              have hq4 := b4 _ _ nqp hG2q
              refine ⟨_, rfl, _, rfl, p, q, o4, _, _, rfl, upd_same, ho4, by omega, hq4, by simpa using emp, by rw [List.length_map]; omega, Ne.symm nqp, fun x o5 hx ho5 => ?_⟩
              obtain ⟨r, hr2, rfl⟩ := List.mem_map.mp hx
              obtain ⟨ms, _, hrow, hml, hmb⟩ := paired_mem hrs hr2
              rw [upd_upd]
              have b5 : But p G2 (upd (upd G2 e (.lst [])) p o5) := be.trans But.upd
              have hrow5 := b5 _ _ (hfr r hr2).2.1 (bG2 _ _ (hfr r hr2).2.1 hrow)
              refine ⟨r, rfl, ⟨_, SqL.of hrow5⟩, fun L nL => map_listG ((ms.map fun j => (1 + v) * j).map V.int) (by rw [List.length_map, List.length_map, List.length_map]) hrow5 nL (by rw [List.length_map]; omega) (fun _ => rfl) ?_ ?_⟩
              · intro j x y G' hx hy sH R hR
                obtain ⟨z, rfl, hz⟩ := int_at hx
                rw [List.getElem?_map, List.getElem?_map, hz] at hy
                cases hy
                exact ⟨_, rfl, _, rfl, _, _, rfl, rfl, .inl ⟨by omega, by omega⟩, hR _ same_refl⟩
              · intro G6 s6 hL
                have b6 := b5.trans (But.same s6)
                have hq6 := b6 _ _ nqp hG2q
                refine ⟨_, rfl, .inl ⟨rfl, _, SqL.of hq6⟩, _, rfl, q, _, _, rfl, rfl, hq6, hsz, ?_⟩
                refine fin _ L (ms.map fun j => (1 + v) * j) o5 _ _ _ _ _ (bG2.trans b6) (s6 _ _ upd_same) (ho5.mono (by omega)) ((bG2.trans b5).free upd_same nL) hL (by rw [List.length_map]; exact hml) fun j hj => ?_
                obtain ⟨z, hz, rfl⟩ := List.mem_map.mp hj
                have h3 := hmb z hz
                have h4 : (1 + v).natAbs ≤ 3 := by omega
                rw [Int.natAbs_mul, Nat.pow_succ]
                have := Nat.mul_le_mul h4 h3
                omega
          · rw [decide_eq_false (fun h => way1 (V.int.inj h))]
            refine iteF ⟨_, rfl, rfl, _, rfl, ?_⟩
            by_cases way2 : way = 2
            · rw [decide_eq_true (congrArg V.int way2)]
              refine iteT ⟨_, rfl, (wd : Int), rfl, by omega, by omega, fun L nL => comp_rangeD (lo := 0) (n := wd) (fun j G' => But p G2 G' ∧ ∃ o4, G' p = some o4 ∧ SrcL (n + 40 * i + 1 + wd + j) o4) (fun _ y => ∃ v, y = .int v ∧ v.natAbs ≤ 2)
                ⟨fun _ _ _ e => e, o3, h3, s3⟩ ?_ (by omega) (fun _ => rfl) ?_ ?_⟩
              · rintro j G' u ⟨b4, o4, h4, s4⟩
                have nLp : L ≠ p := fun e => by
                  rw [e, h3] at nL
                  cases nL
                refine ⟨fun b x nb e => ?_, o4, by rw [upd_ne (Ne.symm nLp)]; exact h4, s4⟩
                rw [upd_ne (ne_of_none e nL)]
                exact b4 _ _ nb e
              · rintro j G' cur hj ⟨b4, o4, h4, s4⟩ hcur R hR
                have nLp : L ≠ p := fun e => by
                  rw [e, h3] at nL
                  cases nL
                refine ⟨Nat.le_of_ble_eq_true rfl, fun l hl0 => ?_⟩
                have nlp : l ≠ p := fun e => by
                  rw [e, h4] at hl0
                  cases hl0
                refine ⟨_, rfl, p, o4, _, 3, rfl, same_upd hl0 _ _ h4, s4, by omega, by decide, by decide, fun v o5 v0 v1 ho5 => ?_⟩
                have key : ∀ j : Nat, j < 3 → ∃ f : Int, ([0, 0, 1] : List Int)[j]? = some f ∧ f.natAbs ≤ 2 := by decide
                obtain ⟨jj, rfl⟩ : ∃ jj : Nat, v = jj := ⟨v.toNat, by omega⟩
                obtain ⟨f, hf, hf2⟩ := key jj (by omega)
                refine ⟨l, jj, _, V.int f, rfl, rfl, by rw [upd_ne nlp, upd_same]; rfl, atI_nat (xs := ([0, 0, 1] : List Int).map V.int) (by rw [List.getElem?_map, hf]; rfl), hR _ _ ⟨f, rfl, hf2⟩ ⟨(b4.trans (But.same (same_upd hl0))).trans But.upd, o5, upd_same, ho5⟩ ?_⟩
                rw [upd_ne nLp, upd_ne]
                exact ne_of_none hcur hl0
              · rintro G6 ys ⟨b4, o4, h4, s4⟩ hL gv2
                obtain ⟨ms, rfl, hml, hmb⟩ := gv2.ints
                have hq6 := b4 _ _ nqp hG2q
                refine ⟨_, rfl, .inl ⟨rfl, _, SqL.of hq6⟩, _, rfl, q, _, _, rfl, rfl, hq6, hsz, ?_⟩
                exact fin _ L ms o4 _ _ _ _ _ (bG2.trans b4) h4 (s4.mono (by omega)) (bG2.free h3 nL) hL hml fun j hj => Nat.le_trans (hmb j hj) pos1
            · rw [decide_eq_false (fun h => way2 (V.int.inj h))]
              refine iteF ⟨_, rfl, .inl ⟨rfl, _, SqL.of hG2q⟩, _, rfl, q, _, _, rfl, rfl, hG2q, hsz, ?_⟩
              exact fin _ D ns o3 _ _ _ _ _ bG2 h3 (s3.mono (by omega)) nGD hD hl fun j hj => Nat.le_trans (hb j hj) pos1
    · rintro σ G ⟨c4, c5, c6, c7, c8, c9, o1, rs, nss, rfl, hG, ho1, bG, hGq, hrs, hlen, hfr⟩
      exact ⟨_, rfl, k G q rs nss o1 bG hG ho1 hGq hrs hlen hq nqp hfr⟩
end
/-! ### the law's drawn table -/
abbrev sLTable : Stmt := top 44
def spLTable : Sp := fun vs H Q _ => ∃ (p : Addr) (o : HO) (n mw m : Nat), vs = [.ref p, .int (mw : Int), .int (m : Int)] ∧ H p = some o ∧ SrcL n o ∧ n ≤ 40000 ∧ 0 < mw ∧ mw ≤ 11 ∧ m ≤ 59 ∧
  ∀ H' T q rs nss o' wd k f, But p H H' → H' p = some o' → SrcL (n + 2500) o' → H' T = some (.lst [.ref q, .int f]) → H' q = some (.lst (rs.map V.ref)) → LRows H' wd (2 * 3 ^ k) rs nss → rs.length = k → k ≤ m → 1 ≤ wd → wd ≤ mw → f ∈ fields →
    H T = none → T ≠ p → H q = none → q ≠ p → q ≠ T → (∀ r ∈ rs, H r = none ∧ r ≠ p ∧ r ≠ q ∧ r ≠ T) → Q (.ref T) H'
section
variable {P : Program} {w : World} {K : PySem.W.Frag} {mg : Str → Option Value} {base : Heap}
abbrev nsLT : List Str := ["_law_source_here", "_law_most_width", "_law_most", "_law_width"]
theorem scLT : FnScope nsLT ["_law_source_here", "_law_most_width", "_law_most"] (defScope sLTable) := ⟨rfl, rfl, rfl, by decide +kernel, rfl, by decide +kernel, by decide +kernel⟩
theorem ok_ltable {f fD fF fR : Addr} {fd fdD fdF fdR : FuncData} (F : Fun K "_law_table" "_law_table" sLTable f fd)
    (GD : FnOk P w K mg base CX0 1 fD fdD ["_law_source_here", "_law_many"] spDraw) (kD : PySem.W.keepIn K (.ref fD) = true) (bD : Binds K fdD ["_law_source_here", "_law_many"] []) (gD : mg "_law_draw" = some (.ref fD))
    (GF : FnOk P w K mg base CX0 2 fF fdF ["_law_source_here"] spLField) (kF : PySem.W.keepIn K (.ref fF) = true) (bF : Binds K fdF ["_law_source_here"] []) (gF : mg "_law_field" = some (.ref fF))
    (GR : FnOk P w K mg base CX0 3 fR fdR ["_law_source_here", "_law_width", "_law_many"] spLRows) (kR : PySem.W.keepIn K (.ref fR) = true) (bR : Binds K fdR ["_law_source_here", "_law_width", "_law_many"] []) (gR : mg "_law_rows" = some (.ref fR)) :
    FnOk P w K mg base CX0 4 f fd ["_law_source_here", "_law_most_width", "_law_most"] spLTable := by
  refine F.ok scLT (fun vs H Q E h => ?_) (fun cdv A outer s H vs Q E hr h => ?_)
  · obtain ⟨p, o, n, mw, m, rfl, _⟩ := h
    rfl
  · obtain ⟨p, o, n, mw, m, rfl, hp, ho, hn, w0, w1, hm, k⟩ := h
    have nd := scLT.nd
    have hr1 : Room 1 _ := hr.mono (by decide)
    have hr2 : Room 2 _ := hr.mono (by decide)
    refine ⟨_, pss_cons (ps_set (i := 3) nd rfl (.inl rfl) (pe_op op_add pe_int (pe_call GD hr1 rfl gD kD bD .nil pass0 (pa_cons (pv 0) (pa_cons (pv 1) pa_nil)))))
      (pss_one (ps_ret (pe_lst (pa_cons (pe_call GR hr rfl gR kR bR .nil pass0 (pa_cons (pv 0) (pa_cons (pv 3) (pa_cons (pe_call GD hr1 rfl gD kD bD .nil pass0 (pa_cons (pv 0) (pa_cons (pe_op op_add (pv 2) pe_int) pa_nil))) pa_nil))))
        (pa_cons (pe_call GF hr2 rfl gF kF bF .nil pass0 (pa_cons (pv 0) pa_nil)) pa_nil))))), ?_⟩
    refine ⟨_, rfl, _, rfl, p, o, n, mw, rfl, hp, ho, by omega, by omega, by omega, fun d o2 d0 d1 ho2 => ⟨_, _, rfl, rfl, ?_⟩⟩
    obtain ⟨dn, rfl⟩ : ∃ dn : Nat, d = dn := ⟨d.toNat, by omega⟩
    have e1 : (1 : Int) + (dn : Int) = ((dn + 1 : Nat) : Int) := by omega
    generalize hH2 : upd H p o2 = H2
    have hp2 : H2 p = some o2 := by rw [← hH2, upd_same]
    have b2 : But p H H2 := by rw [← hH2]; exact But.upd
    refine ⟨_, rfl, _, rfl, _, rfl, _, rfl, _, _, rfl, rfl, p, o2, n + 1, ((m + 1 : Nat) : Int), rfl, hp2, ho2, by omega, by omega, by omega, fun c o3 c0 c1 ho3 => ?_⟩
    obtain ⟨cn, rfl⟩ : ∃ cn : Nat, c = cn := ⟨c.toNat, by omega⟩
    generalize hH3 : upd H2 p o3 = H3
    have hp3 : H3 p = some o3 := by rw [← hH3, upd_same]
    have b3 : But p H H3 := b2.trans (by rw [← hH3]; exact But.upd)
    refine ⟨p, o3, n + 2, dn + 1, cn, (by show [V.ref p, V.int (1 + (dn : Int)), V.int (cn : Int)] = _; rw [e1]), hp3, ho3, by omega, by omega, by omega, fun H4 q rs nss o4 b4 hp4 ho4 hq4 hrs hrl nq4 nqp hfr => ?_⟩
    refine ⟨_, rfl, p, o4, n + 2 + 40 * cn, rfl, hp4, ho4, by omega, fun H5 fl o5 b5 hp5 ho5 hf => ?_⟩
    refine ⟨Nat.le_of_ble_eq_true rfl, fun T nT => ?_⟩
    have b35 := b3.trans (b4.trans b5)
    have freeH : ∀ {a : Addr}, a ≠ p → H3 a = none → H a = none := fun {a} na h => by
      cases e : H a with
      | none => rfl
      | some x =>
        rw [b3 _ _ na e] at h
        cases h
    have nTp : T ≠ p := fun e => by
      rw [e, hp5] at nT
      cases nT
    have hq5 := b5 _ _ nqp hq4
    have nqT : q ≠ T := fun e => by
      rw [e, nT] at hq5
      cases hq5
    have nrT : ∀ r ∈ rs, r ≠ T := fun r m e => by
      obtain ⟨ns, _, h, _⟩ := paired_mem hrs m
      have h2 := b5 _ _ (hfr r m).2.1 h
      rw [e, nT] at h2
      cases h2
    refine k _ T q rs nss o5 (dn + 1) cn fl (b35.trans (But.same (same_upd nT))) (by rw [upd_ne (Ne.symm nTp)]; exact hp5) (ho5.mono (by omega)) upd_same (by rw [upd_ne nqT]; exact hq5) ?_ hrl (by omega) (by omega) (by omega) hf (b35.free hp5 nT) nTp (freeH nqp nq4) nqp nqT ?_
    · refine Paired.keepMem hrs fun r m ns h => ⟨?_, h.2⟩
      rw [upd_ne (nrT r m)]
      exact b5 _ _ (hfr r m).2.1 h.1
    · intro r m
      exact ⟨freeH (hfr r m).2.1 (hfr r m).1, (hfr r m).2.1, (hfr r m).2.2, nrT r m⟩
end
/-! ### the table of the package, as the law makes it -/
abbrev sLMade : Stmt := top 45
def spLMade (C : Addr) : Sp := fun vs H Q _ => ∃ (T q : Addr) (rs : List Addr) (nss : List (List Int)) (wd : Nat) (f : Int), vs = [.ref T] ∧ H T = some (.lst [.ref q, .int f]) ∧ H q = some (.lst (rs.map V.ref)) ∧ ColsAt H rs nss ∧ (∀ r ∈ nss, r.length = wd) ∧ wd ≤ 12 ∧ rs.length ≤ 60 ∧ f ∈ fields ∧
  ∀ H' p, Same H H' → H p = none → TabAt C H' p f nss → Q (.ref p) H'
theorem ColsAt.rows {H : Hp} {wd : Nat} : ∀ {rs : List Addr} {nss : List (List Int)}, ColsAt H rs nss → (∀ r ∈ nss, r.length = wd) → RowsAt H wd rs nss
  | _, _, .nil, _ => .nil
  | _, _, .cons h t, w => .cons ⟨.inl h, w _ (.head _)⟩ (ColsAt.rows t fun r hr => w r (.tail _ hr))
section
variable {P : Program} {w : World} {K : PySem.W.Frag} {mg : Str → Option Value} {base : Heap}
theorem scLM : FnScope ["_law_parts"] ["_law_parts"] (defScope sLMade) := ⟨rfl, rfl, rfl, by decide +kernel, rfl, by decide +kernel, by decide +kernel⟩
theorem ok_lmade {f C fI : Addr} {fd fdI : FuncData} (F : Fun K "_law_made" "_law_made" sLMade f fd) (T : RTxt K mg C) (M : Mk K C fI) (GI : FnOk P w K mg base CX0 4 fI fdI ["self", "rows", "field"] (spInit0 C)) (bI : Binds K fdI ["self", "rows", "field"] []) :
    FnOk P w K mg base CX0 6 f fd ["_law_parts"] (spLMade C) := by
  refine F.ok scLM (fun vs H Q E h => ?_) (fun cdv A outer s H vs Q E hr h => ?_)
  · obtain ⟨T, q, rs, nss, wd, fl, rfl, _⟩ := h
    rfl
  · obtain ⟨T0, q, rs, nss, wd, fl, rfl, hT, hq, hrs, hw, w12, r60, hf, k⟩ := h
    refine ⟨_, pss_one (ps_ret (pe_make M GI hr (by rfl) T.mgC bI .nil pass0 (pa_cons (pe_ix ixL (pv 0) pe_int (fun _ _ => rfl)) (pa_cons (pe_ix ixL (pv 0) pe_int (fun _ _ => rfl)) pa_nil)))), ?_⟩
    refine ⟨_, rfl, T0, 0, _, .ref q, rfl, rfl, hT, at0, _, rfl, T0, 1, _, .int fl, rfl, rfl, hT, at1, fun x dx nx ndx ne => ?_⟩
    have s1 := (same_upd ndx (o := .own x)).trans (same_upd (o := .ins C dx []) (by rw [upd_ne (Ne.symm ne)]; exact nx))
    have hx : upd (upd H dx (.own x)) x (.ins C dx []) x = some (.ins C dx []) := upd_same
    generalize upd (upd H dx (.own x)) x (.ins C dx []) = H1 at *
    refine ⟨x, q, dx, fl, wd, rs, nss, rfl, hx, fun e => ?_, s1 _ _ hq, (ColsAt.keep hrs fun a _ u e => s1 _ _ e).rows hw, fun r hr e => ?_, w12, r60, hf, fun H2 b2 ht => ⟨rfl, k H2 x (fun b u e => b2 _ _ (ne_of_none e nx) (s1 _ _ e)) nx ht⟩⟩
    · rw [← e, nx] at hq
      cases hq
    · obtain ⟨ns, _, h⟩ := paired_mem hrs hr
      rw [e, nx] at h
      cases h
end
/-! ### the draws, over trees -/
def rDraw : PFn := fun n xs Q _ => ∃ m, xs = [.src, .int m] ∧ n ≤ 100000 ∧ 0 < m ∧ m < 1000000 ∧ ∀ r, 0 ≤ r → r < m → Q (.int r) (n + 1)
def rPick : PFn := fun n xs Q _ => ∃ ys, xs = [.src, .lst ys] ∧ n ≤ 100000 ∧ ys ≠ [] ∧ ys.length < 1000 ∧ ∀ y ∈ ys, Q y (n + 1)
def rField : PFn := fun n xs Q _ => xs = [.src] ∧ n ≤ 90000 ∧ ∀ f ∈ fields, Q (.int f) (n + 1)
theorem REnv.but {M : Pm} {E : XK} {c : PCx} {A : Nat → Addr} {st : PSt} {σ : L2.St} {H H' : Hp} {p : Addr} {n : Nat} {o : HO} (I : REnv M E c A st σ H) (e : c.p = some p) (b : But p H H') (h1 : H' p = some o) (h : SrcP n o) : REnv M E c A (st.at n) σ H' ∧ Keeps c H H' := by
  have k : Keeps c H H' := fun d u e2 z _ => b d u (fun w => z (by rw [w]; exact e)) e2
  obtain ⟨o1, g1, g2⟩ := I.src.1 p e
  refine ⟨I.keep k ⟨fun q e2 => ?_, tabs_mv I.src.2 fun d u e2 nl _ => ?_⟩, k⟩
  · rw [e] at e2
    cases e2
    exact ⟨o, h1, h⟩
  · refine b d u (fun w => ?_) e2
    rw [w, g1] at e2
    cases e2
    obtain ⟨_, _, _, z, _⟩ := g2
    exact nl _ z
theorem REnv.draw {M : Pm} {E : XK} {c : PCx} {A : Nat → Addr} {st : PSt} {σ : L2.St} {H : Hp} {p : Addr} {n : Nat} {o : HO} (I : REnv M E c A st σ H) (e : c.p = some p) (h : SrcP n o) : REnv M E c A (st.at n) σ (upd H p o) ∧ Keeps c H (upd H p o) := I.but e But.upd upd_same h
section
variable {M : Pm} {E : XK}
theorem pr_draw : PureR M spDraw rDraw E := by
  intro c A st σ H vs xs Qp Q I rl ⟨m, e, hn, m0, m1, q⟩ k
  subst e
  obtain ⟨v, w, rfl, r, r'⟩ := Reps.two rl
  cases r'
  cases r with
  | @src a e =>
    obtain ⟨o, h1, h2⟩ := I.src.1 a e
    refine ⟨a, o, st.n, m, rfl, h1, h2, hn, m0, m1, fun r o' r0 r1 ho => ?_⟩
    obtain ⟨J, kk⟩ := I.draw e (o := o') ho
    exact k _ _ _ _ (q r r0 r1) J kk (.int r)
theorem pr_pick : PureR M (spPick M.K) rPick E := by
  intro c A st σ H vs xs Qp Q I rl ⟨ys, e, hn, y0, y1, q⟩ k
  subst e
  obtain ⟨v, w, rfl, r, r'⟩ := Reps.two rl
  cases r with
  | @src a e =>
    cases r' with
    | @lst b us _ e2 nb ru =>
      obtain ⟨o, h1, h2⟩ := I.src.1 a e
      have nab : a ≠ b := fun z => nb (by rw [← z]; exact .inl (I.sb a e))
      refine ⟨a, b, o, st.n, us, rfl, h1, h2, hn, e2, fun z => y0 (List.eq_nil_of_length_eq_zero (by rw [← ru.length, z]; rfl)), by rw [ru.length]; exact y1, nab, fun x o' hx ho => ?_⟩
      obtain ⟨J, kk⟩ := I.draw e (o := o') ho
      obtain ⟨j, hj⟩ := List.mem_iff_getElem?.mp hx
      obtain ⟨y, hy, ry⟩ := ru.getV hj
      exact k y _ x _ (q y (List.mem_of_getElem? hy)) J kk (ry.mv (I.mvK kk fun _ h => h))
theorem pr_field : PureR M spLField rField E := by
  intro c A st σ H vs xs Qp Q I rl ⟨e, hn, q⟩ k
  subst e
  obtain ⟨v, rfl, r⟩ := Reps.one rl
  cases r with
  | @src a e =>
    obtain ⟨o, h1, h2⟩ := I.src.1 a e
    refine ⟨a, o, st.n, rfl, h1, h2, by omega, fun H' f o' b e' ho hf => ?_⟩
    obtain ⟨J, kk⟩ := I.but e b e' ho
    exact k _ _ _ _ (q f hf) J kk (.int f)
end
/-! ### lots, over trees -/
def PV.any : PV → Bool
  | .non => true
  | .bl _ => true
  | .int _ => true
  | .str _ => true
  | .lst _ => true
  | .tup _ => true
  | .dct _ => true
  | _ => false
def PV.els : PV → Option (List PV)
  | .lst xs => some xs
  | .tup xs => some xs
  | _ => none
def PV.lotty (x : PV) : Prop := x.any = true ∧ ∀ xs, x.els = some xs → xs.length ≤ 1000 ∧ ∀ y ∈ xs, y.any = true
def pIn (x : PV) (lo hi : Int) : Bool := match x with
  | .int i => decide (lo ≤ i) && decide (i ≤ hi)
  | _ => false
def pNxt : PV → Int
  | .int i => i + 1
  | _ => 0
def pFl (m : Int) : Nat → Int → List PV → Option Nat
  | _, _, [] => none
  | i, lo, x :: r => if pIn x lo (m - 1) = true then pFl m (i + 1) (pNxt x) r else some i
def pFault (m : Int) (x : PV) : Option Nat := match x.els with
  | some xs => pFl m 0 0 xs
  | none => some 0
section
variable {M : Pm} {p : Option Addr} {O : Addr → Prop} {H H' : Hp}
theorem Rep.inR {v : V} {x : PV} {lo hi : Int} (r : Rep M p O H v x) : inR v lo hi = pIn x lo hi := by cases r <;> rfl
theorem Rep.nxt {v : V} {x : PV} (r : Rep M p O H v x) : nxt v = pNxt x := by cases r <;> rfl
theorem Rep.any {v : V} {x : PV} (r : Rep M p O H v x) (h : x.any = true) : Any H v := by
  cases r with
  | non => exact .inl .non
  | bl b => exact .inl (.bl b)
  | int i => exact .inl (.int i)
  | str s => exact .inl (.str s)
  | lst e n r => exact .inr ⟨_, _, rfl, .inl e⟩
  | tup e r => exact .inr ⟨_, _, rfl, .inr e⟩
  | dct e n r => exact .inl (.dct e)
  | _ => cases h
theorem RepL.anys : ∀ {vs : List V} {xs : List PV}, RepL M p O H vs xs → (∀ y ∈ xs, y.any = true) → ∀ v ∈ vs, Any H v
  | _, _, .nil, _, _, h => nomatch h
  | _, _, .cons r t, k, v, h => by
    rcases List.mem_cons.mp h with rfl | m
    · exact r.any (k _ (.head _))
    · exact RepL.anys t (fun y hy => k y (.tail _ hy)) v m
theorem RepL.lotF {m : Int} : ∀ {vs : List V} {xs : List PV} {i : Nat} {lo : Int}, RepL M p O H vs xs → lotF m i lo vs = pFl m i lo xs
  | _, _, _, _, .nil => rfl
  | _, _, i, lo, .cons r t => by
    rw [My.lotF, pFl, r.inR, r.nxt, RepL.lotF t]
theorem RepL.backInts : ∀ {ns : List Int} {xs : List PV}, RepL M p O H (ns.map V.int) xs → xs = ns.map PV.int
  | [], _, .nil => rfl
  | n :: ns, _, .cons r t => by
    rw [RepL.backInts t]
    cases r
    rfl
theorem Rep.lv {m : Int} {v : V} {x : PV} (r : Rep M p O H v x) (h : x.lotty) : ∃ o, Lv H v o ∧ (∀ xs, o = some xs → xs.length ≤ 1000) ∧ lotFault m o = pFault m x ∧ ∀ lot : List Int, o = some (lot.map V.int) → x.els = some (lot.map PV.int) := by
  obtain ⟨h1, h2⟩ := h
  cases r with
  | lst e n r => exact ⟨_, .yes (.inl e) (r.anys (h2 _ rfl).2), fun xs e => by cases e; rw [r.length]; exact (h2 _ rfl).1, r.lotF, fun lot e => by cases e; rw [r.backInts]; rfl⟩
  | tup e r => exact ⟨_, .yes (.inr e) (r.anys (h2 _ rfl).2), fun xs e => by cases e; rw [r.length]; exact (h2 _ rfl).1, r.lotF, fun lot e => by cases e; rw [r.backInts]; rfl⟩
  | non => exact ⟨_, .no .non, (fun _ e => by cases e), rfl, (fun _ e => by cases e)⟩
  | bl b => exact ⟨_, .no (.bl b), (fun _ e => by cases e), rfl, (fun _ e => by cases e)⟩
  | int i => exact ⟨_, .no (.int i), (fun _ e => by cases e), rfl, (fun _ e => by cases e)⟩
  | str s => exact ⟨_, .no (.str s), (fun _ e => by cases e), rfl, (fun _ e => by cases e)⟩
  | dct e n r => exact ⟨_, .no (.dct e), (fun _ e => by cases e), rfl, (fun _ e => by cases e)⟩
  | _ => cases h1
end
section
variable {M : Pm} {E : XK} {c : PCx} {A : Nat → Addr} {st : PSt} {σ : L2.St} {H H' : Hp}
theorem REnv.outS (I : REnv M E c A st σ H) (s : Same H H') : Out c H' ∧ SrcAt M c H' st.n :=
  ⟨fun b u e z => s _ _ (I.out b u e z), fun q e => by
    obtain ⟨o, h1, h2⟩ := I.src.1 q e
    exact ⟨o, s _ _ h1, h2⟩, I.src.2.ext s⟩
theorem REnv.lotE (I : REnv M E c A st σ H) {CB : Addr} {m : Nat} {o : Option (List V)} {x : PV} (e : lotFault m o = pFault m x) (h : ∀ k, pFault m x = some k → st.R ⟨CB, "place", .int (k : Nat)⟩ st.n) : LotE CB H o m E := by
  intro k hk d H' s nd e1
  obtain ⟨a, b⟩ := I.outS s
  refine I.er CB "place" (.int (k : Int)) st.n d _ H' (h k (by rw [← e]; exact hk)) a b e1 (I.no0 nd) (.int _)
end
/-- a question about a lot of a table: its answer by the gauge's run, or the fault -/
def rLot (CB : Addr) (t : Nat) (ans : Int → List (List Int) → List Int → (PV → Prop) → Prop) : PFn := fun n xs Q R => ∃ f nss x a, xs = [.tab f nss, x] ∧ x.lotty ∧ nss.length ≤ 60 ∧ TabOk f (widT nss) a (rowsT f nss) ∧ a ≤ t ∧
  (∀ lot : List Int, pFault nss.length x = none → x.els = some (lot.map PV.int) → ans f nss lot fun z => Q z n) ∧ ∀ k, pFault nss.length x = some k → R ⟨CB, "place", .int (k : Nat)⟩ n
def ansRank (f : Int) (nss : List (List Int)) (lot : List Int) (Q : PV → Prop) : Prop := ∀ G, GRun f (widT nss) (rowsT f nss) lot G → Q (.int (manyL G.held : Nat))
def ansFree (f : Int) (nss : List (List Int)) (lot : List Int) (Q : PV → Prop) : Prop := ∀ G, GRun f (widT nss) (rowsT f nss) lot G → Q (.bl (decide (manyL G.held = lot.length)))
def ansHull (f : Int) (nss : List (List Int)) (lot : List Int) (Q : PV → Prop) : Prop := ∀ G, GRun f (widT nss) (rowsT f nss) lot G → Q (.lst ((hullL f (rowsT f nss) G).map fun i : Nat => PV.int (i : Int)))
def relP (rel : List (Int × Int)) : List (Key × PV) := rel.map fun q => (Sum.inl q.1, .int q.2)
def ansRing (f : Int) (nss : List (List Int)) (lot : List Int) (Q : PV → Prop) : Prop := (∀ G, GRun f (widT nss) (rowsT f nss) lot G → manyL G.held = lot.length → Q .non) ∧ ∀ n i G ns rel, RingAt f nss lot n i G ns rel → Q (.dct (relP rel))
theorem RepK.ofRel {M : Pm} {p : Option Addr} {O : Addr → Prop} {H : Hp} : ∀ rel : List (Int × Int), RepK M p O H (intK rel) (relP rel)
  | [] => .nil
  | _ :: t => .cons (.int _) (RepK.ofRel t)
theorem RepL.ofNats {M : Pm} {p : Option Addr} {O : Addr → Prop} {H : Hp} : ∀ ns : List Nat, RepL M p O H (ns.map fun i : Nat => V.int (i : Int)) (ns.map fun i : Nat => PV.int (i : Int))
  | [] => .nil
  | _ :: t => .cons (.int _) (RepL.ofNats t)
section
variable {M : Pm} {E : XK} {CB : Addr}
theorem Keeps.sm {c : PCx} {H H' : Hp} (s : Same H H') : Keeps c H H' := .same s
theorem pr_rank : PureR M (spRank M.C CB) (rLot CB 8000 ansRank) E := by
  intro c A st σ H vs xs Qp Q I rl ⟨f, nss, x, a, e, hx, h60, ok, _, q, r⟩ k
  subst e
  obtain ⟨v, w, rfl, r1, r2⟩ := Reps.two rl
  cases r1 with
  | @tab p f nss tb =>
    obtain ⟨o, lv, ln, e1, e2⟩ := r2.lv (m := nss.length) hx
    refine ⟨p, w, o, f, a, nss, rfl, tb, lv, ln, ok, fun lot z eo H' G s run => k _ _ _ _ (q lot (by rw [← e1]; exact z) (e2 lot eo) G run) (I.same s) (.same s) (.int _), I.lotE e1 r⟩
theorem pr_isfree : PureR M (spIsFree M.C CB) (rLot CB 8000 ansFree) E := by
  intro c A st σ H vs xs Qp Q I rl ⟨f, nss, x, a, e, hx, h60, ok, _, q, r⟩ k
  subst e
  obtain ⟨v, w, rfl, r1, r2⟩ := Reps.two rl
  cases r1 with
  | @tab p f nss tb =>
    obtain ⟨o, lv, ln, e1, e2⟩ := r2.lv (m := nss.length) hx
    refine ⟨p, w, o, f, a, nss, rfl, tb, lv, ln, ok, fun lot z eo H' G s run => k _ _ _ _ (q lot (by rw [← e1]; exact z) (e2 lot eo) G run) (I.same s) (.same s) (.bl _), I.lotE e1 r⟩
theorem pr_hull : PureR M (spHull M.C CB) (rLot CB 8000 ansHull) E := by
  intro c A st σ H vs xs Qp Q I rl ⟨f, nss, x, a, e, hx, h60, ok, _, q, r⟩ k
  subst e
  obtain ⟨v, w, rfl, r1, r2⟩ := Reps.two rl
  cases r1 with
  | @tab p f nss tb =>
    obtain ⟨o, lv, ln, e1, e2⟩ := r2.lv (m := nss.length) hx
    refine ⟨p, w, o, f, a, nss, rfl, tb, lv, ln, h60, ok, fun lot z eo H' G l s nl run hl => k _ _ _ _ (q lot (by rw [← e1]; exact z) (e2 lot eo) G run) (I.same s) (.same s) (.lst hl (I.noA nl) (.ofNats _)), I.lotE e1 r⟩
theorem pr_ring : PureR M (spRing M.C CB) (rLot CB 800 ansRing) E := by
  intro c A st σ H vs xs Qp Q I rl ⟨f, nss, x, a, e, hx, h60, ok, a8, q, r⟩ k
  subst e
  obtain ⟨v, w, rfl, r1, r2⟩ := Reps.two rl
  cases r1 with
  | @tab p f nss tb =>
    obtain ⟨o, lv, ln, e1, e2⟩ := r2.lv (m := nss.length) hx
    refine ⟨p, w, o, f, a, nss, rfl, tb, lv, ln, ok, a8, fun lot z eo H' G s run full => k _ _ _ _ ((q lot (by rw [← e1]; exact z) (e2 lot eo)).1 G run full) (I.same s) (.same s) .non,
      fun lot z eo H' d n i G ns rel s nd hd ra => k _ _ _ _ ((q lot (by rw [← e1]; exact z) (e2 lot eo)).2 n i G ns rel ra) (I.same s) (.same s) (.dct hd (I.noA nd) (.ofRel _)), I.lotE e1 r⟩
/-- check_lot -/
def rCheckLot (CB : Addr) : PFn := fun n xs Q R => ∃ x m, xs = [x, .int m] ∧ x.lotty ∧ (pFault m x = none → Q .non n) ∧ ∀ k, pFault m x = some k → R ⟨CB, "place", .int (k : Nat)⟩ n
theorem pr_checklot : PureR M (spCheckLot CB) (rCheckLot CB) E := by
  intro c A st σ H vs xs Qp Q I rl ⟨x, m, e, hx, q, r⟩ k
  subst e
  obtain ⟨v, w, rfl, r1, r2⟩ := Reps.two rl
  cases r2
  obtain ⟨o, lv, ln, e1, e2⟩ := r1.lv (m := m) hx
  refine ⟨v, o, m, rfl, lv, ln, fun z H' s => k _ _ _ _ (q (by rw [← e1]; exact z)) (I.same s) (.same s) .non, fun j hj d H' s nd e => ?_⟩
  obtain ⟨a, b⟩ := I.outS s
  exact I.er CB "place" (.int (j : Int)) st.n d _ H' (r j (by rw [← e1]; exact hj)) a b e (I.no0 nd) (.int _)
/-- is_integer -/
def rIsInt : PFn := fun n xs Q _ => ∃ x lo hi, xs = [x, .int lo, .int hi] ∧ x.any = true ∧ Q (.bl (pIn x lo hi)) n
theorem pr_isint : PureR M spIntA rIsInt E := by
  intro c A st σ H vs xs Qp Q I rl ⟨x, lo, hi, e, hx, q⟩ k
  subst e
  match vs, rl with
  | [v, _, _], .cons r (.cons (.int _) (.cons (.int _) .nil)) =>
    exact ⟨v, lo, hi, rfl, r.any hx, by rw [r.inR]; exact k _ _ _ _ q I .refl (.bl _)⟩
end
/-! ### a value newly made, not kept; len of a table -/
def pNew (tn : PTN) : PTE := fun st Q => tn st fun o s => Q o.pv s
section
variable {X : Cx} {M : Pm} {E : XK} {e : Expr} {tn : PTN}
theorem pp_new (h : PN X M E e tn) : PP X M E e (pNew tn) :=
  imE h fun σ H Q ⟨c, A, st, Qp, I, q, k⟩ => ⟨c, A, st, _, I, q, fun o s1 D ho H1 q1 I1 k1 l1 nD r1 => by
    refine k o.pv s1 (.ref D) _ q1 (I1.new nD) (k1.trans (.new nD)) l1 ?_
    exact NewR.rep upd_same (I1.noA nD) (r1.mv ⟨fun _ _ _ _ h => h, fun b u e _ => .inl (same_upd3 nD b u e)⟩)⟩
structure LenF (P : Program) (w : World) (K : PySem.W.Frag) (mg : Str → Option Value) (base : Heap) (C : Addr) (R : Addr → Hp → Nat → Prop) : Prop where
  ex : ∃ (f : Addr) (fd : FuncData), FnOk P w K mg base CX0 1 f fd ["self"] (spLen R) ∧ PySem.W.findIn K (.ref C) "__len__" = some (some (.ref f)) ∧ PySem.W.isFn K (.ref f) = true ∧ Binds K fd ["self"] []
  r : ∀ H a fl nss, TabP C H a fl nss → R a H nss.length
theorem b_lenC {R : Addr → Hp → Nat → Prop} (L : LenF X.prog X.w X.K X.mg X.base M.C R) (hr : Room 2 X.A) (hx : Passes CX0 X E := by exact pass0) : CalB X M E "len" (fn0 lenTP) := by
  obtain ⟨f, fd, h1, h2, h3, h4⟩ := L.ex
  exact b_lenT (f := f) (fd := fd) (call_lenOwn (C := M.C) h1 hr h2 h3 h4 hx) L.r
end
/-! ### a method that may raise, called where it does not -/
def EN : XK := fun _ _ _ => False
theorem passEN {X : Cx} {P : Program} {w : World} : Passes (L2.CX P w) X EN := by
  intro pins σ H s e s' I h
  obtain ⟨a, B, H', cls, d, _, _, _, _, _, _, _, h⟩ := h
  exact h.elim
def pMethC (rp : PFn) (to : PTE) (ts : PTA) : PTE := fun st Q => to st fun x s1 => ∃ f nss, x = .tab f nss ∧ ts s1 fun xs s2 => rp s2.n (x :: xs) (fun z n => Q z (s2.at n)) fun _ _ => False
theorem REnv.toEN {M : Pm} {E : XK} {c : PCx} {A : Nat → Addr} {st : PSt} {σ : L2.St} {H : Hp} (I : REnv M E c A st σ H) : REnv M EN c A { st with R := fun _ _ => False } σ H :=
  ⟨I.len, I.inj, I.fr, I.out, I.src, I.sb, I.mt, I.sl, fun _ _ _ _ _ _ _ h => h.elim, I.h0⟩
section
variable {X : Cx} {M : Pm} {E : XK} {o e : Expr} {es : List Expr} {apos pos : Pos} {to : PTE} {ts : PTA} {rp : PFn} {CX : CXT} {k : Nat} {x : Str} {ps : List Str}
theorem pp_methC {pl : Sem Bool} (hK : X.K = M.K) (ho : PK X M E o to) (D : MetP X.prog X.w X.K X.mg X.base M CX k x ps rp) (hr : Room k X.A) (hx : Passes CX X EN) (ha : PPA X M E (e :: es) ts) (hn : x ∉ tabFs := by decide)
    (s1 : starEach (e :: es) X.env = (false, eval e X.env) :: starEach es X.env := by rfl) (s2 : (backTo pos (starEach es X.env)).any (·.1) = false := by rfl)
    (s3 : eval (.Call (.Attribute o x apos) (e :: es) [] pos) X.env = (do let ov ← eval o X.env; standAt apos.atName; let (f, first) ← holding [ov] (getMethod ov x pl); callWith pos f first (backTo pos (starEach (e :: es) X.env)) (backToKw pos (keywordEach [] X.env))) := by rfl) :
    PP X M E (.Call (.Attribute o x apos) (e :: es) [] pos) (pMethC rp to ts) := by
  obtain ⟨f, fd, sp, F, me, hb, hp⟩ := D.ex
  exact imE (pe_meth ho D.cl me F hr hb .nil hx ha s1 s2 s3) fun σ H Q ⟨c, A, st, Qp, I, q, k⟩ => ⟨c, A, st, _, I, q, fun y s1 v H1 ⟨fl, nss, e1, q1⟩ I1 k1 l1 r1 => by
    subst e1
    obtain ⟨a, rfl, tb⟩ := r1.tab
    obtain ⟨dx, t, tt, h1, h2, h3⟩ := id tb
    refine ⟨a, dx, _, rfl, h1, tab_look hn, c, A, s1, _, I1, q1, fun xs s2 vs H2 q2 I2 k2 l2 r2 => ?_⟩
    have rt : Rep M c.p (Av c A s2.sl) H2 (.ref a) (.tab fl nss) := .tab (tb.mv (I1.mvK k2 fun b => l2.av))
    show sp (.ref a :: (vs ++ [])) H2 Q EN
    rw [List.append_nil]
    exact hp EN c A { s2 with R := fun _ _ => False } σ H2 (.ref a :: vs) _ _ _ I2.toEN (.cons rt r2) q2 fun z n u H3 q3 I3 k3 r3 => k z _ u H3 q3 (I2.keep k3 I3.src) ((k1.trans k2).trans k3) (l2.trans l1) r3⟩
end
/-! ### what the law knows of its tables -/
structure Stc (f : Int) (nss : List (List Int)) (wd : Nat) : Prop where
  bits : ∀ r ∈ nss, r.length = wd ∧ Bits 100 r
  w5 : wd ≤ 5
  m6 : nss.length ≤ 12
  fld : f ∈ fields
theorem fld_dom {f : Int} (h : f ∈ fields) (z : f ≠ 0) : Lin.Dom f ∧ 1 < f ∧ f < 2 ^ 60 := by
  simp only [fields, List.mem_cons, List.not_mem_nil, or_false] at h
  rcases h with rfl | rfl | rfl | rfl | rfl | rfl | rfl
  · exact absurd rfl z
  · exact ⟨Lin.dom_prime (q := 2) (by decide) (by decide), by decide, by decide⟩
  · exact ⟨Lin.dom_prime (q := 3) (by decide) (by decide), by decide, by decide⟩
  · exact ⟨Lin.dom_prime (q := 5) (by decide) (by decide), by decide, by decide⟩
  · exact ⟨Lin.dom_prime (q := 7) (by decide) (by decide), by decide, by decide⟩
  · exact ⟨Lin.dom_prime (q := 11) (by decide) (by decide), by decide, by decide⟩
  · exact ⟨Lin.dom_prime (q := 13) (by decide) (by decide), by decide, by decide⟩
theorem fld_big {f : Int} (h : f ∈ fields) : 0 ≤ f ∧ f ≤ 13 := by
  simp only [fields, List.mem_cons, List.not_mem_nil, or_false] at h
  rcases h with rfl | rfl | rfl | rfl | rfl | rfl | rfl <;> decide
theorem Stc.wid {f : Int} {nss : List (List Int)} {wd : Nat} (S : Stc f nss wd) : widT nss ≤ 5 ∧ ∀ r ∈ nss, r.length = widT nss := by
  cases nss with
  | nil => exact ⟨Nat.zero_le _, fun _ h => nomatch h⟩
  | cons r t =>
    have e : widT (r :: t) = wd := (S.bits r (.head _)).1
    rw [e]
    exact ⟨S.w5, fun r h => (S.bits r h).1⟩
theorem Stc.tab {f : Int} {nss : List (List Int)} {wd : Nat} (S : Stc f nss wd) : TabOk f (widT nss) 100 (rowsT f nss) := by
  obtain ⟨w5, hw⟩ := S.wid
  refine ⟨fun r hr => ?_, fun r hr => ?_, by omega, by decide, by decide, ?_⟩
  · obtain ⟨ns, hn, rfl⟩ := List.mem_map.mp hr
    rw [List.length_map]
    exact hw ns hn
  · obtain ⟨ns, hn, rfl⟩ := List.mem_map.mp hr
    intro n hn2
    obtain ⟨i, hi, rfl⟩ := List.mem_map.mp hn2
    have hb := (S.bits ns hn).2 i hi
    by_cases z : f = 0
    · have e : tell f i = i := if_pos z
      rw [e]
      exact hb
    · have e : tell f i = i % f := if_neg z
      obtain ⟨f0, f13⟩ := fld_big S.fld
      have h1 := Int.emod_nonneg i z
      have h2 := Int.emod_lt_of_pos i (by omega : 0 < f)
      rw [e]
      exact Nat.lt_trans (by omega : (i % f).natAbs < 13) (by decide)
  · by_cases z : f = 0
    · refine .inl ⟨z, ?_⟩
      have key : ∀ w, w < 6 → bbit 100 w ≤ 8000 := by decide
      exact key _ (by omega)
    · exact .inr (fld_dom S.fld z)
theorem stc_mk {f : Int} {nss : List (List Int)} {wd : Nat} (hf : f ∈ fields) (h : ∀ r ∈ nss, r.length = wd ∧ ∀ i ∈ r, i.natAbs ≤ 10 ^ 29) (w5 : wd ≤ 5) (m6 : nss.length ≤ 12) : Stc f nss wd :=
  ⟨fun r hr => ⟨(h r hr).1, fun i hi => Nat.lt_of_le_of_lt ((h r hr).2 i hi) (by decide)⟩, w5, m6, hf⟩
/-! ### tables and sizes are checked -/
def blts : List Str := ["len", "sum", "any", "all", "min", "max", "abs", "sorted", "isinstance", "list", "tuple", "int", "set", "bool", "str", "dict", "range", "enumerate", "zip"]
abbrev sIsListP : Stmt := top 16
abbrev sChkT : Stmt := top 34
abbrev sChkS : Stmt := top 35
abbrev sBound : Stmt := top 36
def seqT (t : String) : Bool := t == "list" || t == "tuple"
def rIsList : PFn := fun n xs Q _ => ∃ x t, xs = [x] ∧ x.tyN = some t ∧ Q (.bl (seqT t)) n
def tabsP (ts : List (Int × List (List Int))) : PV := .lst (ts.map fun t => .tab t.1 t.2)
def rChkT : PFn := fun n xs Q _ => ∃ f nss, xs = [.lst [.tab f nss]] ∧ nss.length ≤ 60 ∧ Q .non n
def rChkS : PFn := fun n xs Q _ => ∃ f nss s, xs = [.lst [.tab f nss], .lst [.int s]] ∧ 0 ≤ s ∧ s ≤ 60 ∧ Q .non n
theorem pFl_ints {m : Int} : ∀ {xs : List PV} {i : Nat} {lo : Int}, pFl m i lo xs = none → ∃ lot : List Int, xs = lot.map PV.int ∧ (∀ j ∈ lot, lo ≤ j ∧ j < m) ∧ lot.Pairwise (· < ·)
  | [], _, _, _ => ⟨[], rfl, fun _ h => (nomatch h), List.Pairwise.nil⟩
  | x :: r, i, lo, h => by
    rw [pFl] at h
    by_cases z : pIn x lo (m - 1) = true
    · rw [if_pos z] at h
      cases x with
      | int j =>
        obtain ⟨lot, e, b, pw⟩ := pFl_ints h
        have z2 : (decide (lo ≤ j) && decide (j ≤ m - 1)) = true := z
        rw [Bool.and_eq_true, decide_eq_true_eq, decide_eq_true_eq] at z2
        have hb : ∀ y ∈ lot, j + 1 ≤ y ∧ y < m := b
        refine ⟨j :: lot, by rw [e]; rfl, fun y hy => ?_, List.pairwise_cons.mpr ⟨fun y hy => by have := hb y hy; omega, pw⟩⟩
        rcases List.mem_cons.mp hy with rfl | hy
        · omega
        · have := hb y hy
          omega
      | _ => cases z
    · rw [if_neg z] at h
      cases h
theorem pf_ints {m : Int} {x : PV} (h : pFault m x = none) : ∃ lot : List Int, (x = .lst (lot.map PV.int) ∨ x = .tup (lot.map PV.int)) ∧ (∀ j ∈ lot, 0 ≤ j ∧ j < m) ∧ lot.Pairwise (· < ·) := by
  unfold pFault at h
  cases x with
  | lst xs =>
    obtain ⟨lot, e, b⟩ := pFl_ints (xs := xs) h
    exact ⟨lot, .inl (by rw [e]), b⟩
  | tup xs =>
    obtain ⟨lot, e, b⟩ := pFl_ints (xs := xs) h
    exact ⟨lot, .inr (by rw [e]), b⟩
  | _ => cases h
section
variable {P : Program} {w : World} {K : PySem.W.Frag} {mg : Str → Option Value} {base : Heap} {C CB CT CS fBx fTx fSx : Addr} {dBx dTx dSx : FuncData} {T : List (Addr × Str)} {tk tk2 : Tok}
theorem scIsLP : FnScope ["value"] ["value"] (defScope sIsListP) := ⟨rfl, rfl, rfl, by decide +kernel, rfl, by decide +kernel, by decide +kernel⟩
theorem d_is_list (F : RawF K mg "is_list" "is_list" sIsListP ["value"]) (Nz : ∀ x ∈ blts, mg x = none) : DefP P w K mg base ⟨K, w, C, T⟩ CX0 1 "is_list" ["value"] rIsList := by
  refine RawF.pure F scIsLP (fun n xs Q R h => ?_) fun f cdv A outer s H E hr => ?_
  · obtain ⟨x, t, rfl, _⟩ := h
    rfl
  · refine ⟨_, (pps_one (pps_ret (pp_callB (b_isi rfl) (by rfl) (Nz "isinstance" (by decide)) (by decide +kernel) (pka_cons (pk_v (pv 0)) (pka_cons (pk_of (pp_tup (ppa_cons (pp_c (pe_bltn (v := V.ty "list") (by rfl) (Nz "list" (by decide)) (by decide +kernel) rfl) fun _ _ _ => .ty _) (ppa_cons (pp_c (pe_bltn (v := V.ty "tuple") (by rfl) (Nz "tuple" (by decide)) (by decide +kernel) rfl) fun _ _ _ => .ty _) ppa_nil)))) pka_nil))))), fun n xs Q R h => ?_⟩
    obtain ⟨x, t, rfl, ht, q⟩ := h
    walk_at "pd"
    exact ⟨⟨rfl, rfl⟩, t, ht, q⟩
theorem scChT : FnScope ["tables", "place", "table"] ["tables"] (defScope sChkT) := ⟨rfl, rfl, rfl, by decide +kernel, rfl, by decide +kernel, by decide +kernel⟩
theorem d_check_tables (F : RawF K mg "check_tables" "check_tables" sChkT ["tables"]) (Nz : ∀ x ∈ blts, mg x = none) (D_is_list : DefP P w K mg base ⟨K, w, C, T⟩ CX0 1 "is_list" ["value"] rIsList) (CF : ClsFacts K C)
    (L_len : LenF P w K mg base C (LenIs C)) (MD_BadTables : Made K P mg "BadTables" "place" CT fTx dTx) (kMOST_TABLES : mg "MOST_TABLES" = some (.int 12 tk)) (gRows : mg "Rows" = some (.ref C)) : DefP P w K mg base ⟨K, w, C, T⟩ (L2.CX P w) 4 "check_tables" ["tables"] rChkT := by
  refine RawF.pureX F scChT (fun n xs Q R h => ?_) fun f cdv A outer s H E hr => ?_
  · obtain ⟨f, nss, rfl, _⟩ := h
    rfl
  · have nd := scChT.nd
    have un := hr.units
    have rRows : ∀ (p : Option Addr) (O : Addr → Prop) (H : Hp), Rep ⟨K, w, C, T⟩ p O H (V.ref C) .cls := fun _ _ _ => .cls
    refine ⟨_, (pps_cons (pps_if (PW.pt (pw_orP (pt_notP (pt_v (pp_callD D_is_list (hr.mono (by decide)) (by rfl) pass0 (ppa_cons (pp_v (pv 0)) ppa_nil)))) (pw_or1P (pt_notP (pt_chainP op_le op_le (pp_c pe_int fun _ _ _ => .int _) (pp_callB (b_len rfl) (by rfl) (Nz "len" (by decide)) (by decide +kernel) (pka_cons (pk_v (pv 0)) pka_nil)) (pp_c (pe_glob (v := .int 12) (by rfl) kMOST_TABLES ⟨_, rfl⟩) fun _ _ _ => .int _)))))) (pps_one (pps_raise MD_BadTables (hr.mono (by decide)) rfl (takes_of rfl rfl rfl rfl) (by rfl) (pp_c pe_int fun _ _ _ => .int _))) pps_nil) (pps_one (pps_for (passes_of rfl) rfl (pis_or (pi_eLS (by rfl) (Nz "enumerate" (by decide)) (ppa_cons (pp_v (pv 0)) ppa_nil)) (pi_eTS rfl (by rfl) (Nz "enumerate" (by decide)) (ppa_cons (pp_v (pv 0)) ppa_nil))) (pg_tp (n := 2) rfl rfl (pgs_consP (pg_nm (pg_name (i := 1) nd rfl (.inl rfl))) (pgs_consP (pg_nm (pg_name (i := 2) nd rfl (.inl rfl))) pgs_nilP))) (pps_one (pps_if (PW.pt (pw_orP (pt_notP (pt_v (pp_callB (b_isiC rfl CF) (by rfl) (Nz "isinstance" (by decide)) (by decide +kernel) (pka_cons (pk_v (pv 2)) (pka_cons (pk_of (pp_c (pe_gref (by rfl) gRows) rRows)) pka_nil))))) (pw_or1P (pt_cmpC (c_ne rfl un) (pk_of (pp_callB (b_lenC L_len (hr.mono (by decide))) (by rfl) (Nz "len" (by decide)) PySem.boot_len (pka_cons (pk_v (pv 2)) pka_nil))) (pk_of (pp_callB (b_lenC L_len (hr.mono (by decide))) (by rfl) (Nz "len" (by decide)) PySem.boot_len (pka_cons (pk_of (pp_ix rfl (pk_v (pv 0)) (pk_of (pp_c pe_int fun _ _ _ => .int _)))) pka_nil))))))) (pps_one (pps_raise MD_BadTables (hr.mono (by decide)) rfl (takes_of rfl rfl rfl rfl) (by rfl) (pp_v (pv 1)))) pps_nil))))), fun n xs Q R h => ?_⟩
    obtain ⟨f, nss, rfl, h60, q⟩ := h
    walk_at "pd"
    refine ⟨_, "list", rfl, rfl, _, rfl, ?_⟩
    refine iteF ?_
    walk_at "pd"
    rw [if_pos (by decide), if_neg (by decide)]
    walk_at "pd"
    show goF _ _ [.tup [.int (0 + ((0 : Nat) : Int)), .tab f nss]] _ _
    unfold goF
    walk_at "pd"
    refine ⟨_, _, ⟨rfl, rfl⟩, _, _, rfl, rfl, ?_⟩
    show ∃ b, PV.bl true = PV.bl b ∧ _
    refine ⟨_, rfl, iteF ?_⟩
    show nss.length < 1000000 ∧ ∃ z, atI [PV.tab f nss] 0 = some z ∧ _
    refine ⟨by omega, _, rfl, ?_⟩
    show nss.length < 1000000 ∧ _
    refine ⟨by omega, ?_⟩
    walk_at "pd"
    unfold goF
    exact q
theorem scChS : FnScope ["tables", "sizes", "place", "size"] ["tables", "sizes"] (defScope sChkS) := ⟨rfl, rfl, rfl, by decide +kernel, rfl, by decide +kernel, by decide +kernel⟩
theorem d_check_sizes (F : RawF K mg "check_sizes" "check_sizes" sChkS ["tables", "sizes"]) (Nz : ∀ x ∈ blts, mg x = none) (D_is_list : DefP P w K mg base ⟨K, w, C, T⟩ CX0 1 "is_list" ["value"] rIsList) (D_is_integer : DefP P w K mg base ⟨K, w, C, T⟩ CX0 2 "is_integer" ["value", "low", "high"] rIsInt)
    (MD_BadSizes : Made K P mg "BadSizes" "place" CS fSx dSx) (kMOST_SIZE : mg "MOST_SIZE" = some (.int 60 tk)) : DefP P w K mg base ⟨K, w, C, T⟩ (L2.CX P w) 4 "check_sizes" ["tables", "sizes"] rChkS := by
  refine RawF.pureX F scChS (fun n xs Q R h => ?_) fun f cdv A outer s H E hr => ?_
  · obtain ⟨f, nss, s, rfl, _⟩ := h
    rfl
  · have nd := scChS.nd
    have un := hr.units
    refine ⟨_, (pps_cons (pps_if (PW.pt (pw_orP (pt_notP (pt_v (pp_callD D_is_list (hr.mono (by decide)) (by rfl) pass0 (ppa_cons (pp_v (pv 1)) ppa_nil)))) (pw_or1P (pt_cmpC (c_ne rfl un) (pk_of (pp_callB (b_len rfl) (by rfl) (Nz "len" (by decide)) (by decide +kernel) (pka_cons (pk_v (pv 1)) pka_nil))) (pk_of (pp_callB (b_len rfl) (by rfl) (Nz "len" (by decide)) (by decide +kernel) (pka_cons (pk_v (pv 0)) pka_nil))))))) (pps_one (pps_raise MD_BadSizes (hr.mono (by decide)) rfl (takes_of rfl rfl rfl rfl) (by rfl) (pp_c pe_int fun _ _ _ => .int _))) pps_nil) (pps_one (pps_for (passes_of rfl) rfl (pis_or (pi_eLS (by rfl) (Nz "enumerate" (by decide)) (ppa_cons (pp_v (pv 1)) ppa_nil)) (pi_eTS rfl (by rfl) (Nz "enumerate" (by decide)) (ppa_cons (pp_v (pv 1)) ppa_nil))) (pg_tp (n := 2) rfl rfl (pgs_consP (pg_nm (pg_name (i := 2) nd rfl (.inl rfl))) (pgs_consP (pg_nm (pg_name (i := 3) nd rfl (.inl rfl))) pgs_nilP))) (pps_one (pps_if (pt_notP (pt_v (pp_callD D_is_integer (hr.mono (by decide)) (by rfl) pass0 (ppa_cons (pp_v (pv 3)) (ppa_cons (pp_c pe_int fun _ _ _ => .int _) (ppa_cons (pp_c (pe_glob (v := .int 60) (by rfl) kMOST_SIZE ⟨_, rfl⟩) fun _ _ _ => .int _) ppa_nil)))))) (pps_one (pps_raise MD_BadSizes (hr.mono (by decide)) rfl (takes_of rfl rfl rfl rfl) (by rfl) (pp_v (pv 2)))) pps_nil))))), fun n xs Q R h => ?_⟩
    obtain ⟨f, nss, s, rfl, s0, s60, q⟩ := h
    walk_at "pd"
    refine ⟨_, "list", rfl, rfl, _, rfl, ?_⟩
    refine iteF ?_
    walk_at "pd"
    show goF _ _ [.tup [.int (0 + ((0 : Nat) : Int)), .int s]] _ _
    unfold goF
    walk_at "pd"
    refine ⟨_, _, ⟨rfl, rfl⟩, _, _, rfl, rfl, _, _, _, rfl, rfl, _, rfl, ?_⟩
    rw [show pIn (PV.int s) 0 60 = true from by simp only [pIn, decide_eq_true s0, decide_eq_true s60]; rfl]
    refine iteF ?_
    unfold goF
    exact q
def rBound (CB : Addr) : PFn := fun n xs Q R => ∃ f nss s x a, xs = [.lst [.tab f nss], .lst [.int s], x] ∧ 0 ≤ s ∧ s ≤ 60 ∧ x.lotty ∧ nss.length ≤ 60 ∧ TabOk f (widT nss) a (rowsT f nss) ∧ a ≤ 8000 ∧
  (∀ lot : List Int, pFault nss.length x = none → x.els = some (lot.map PV.int) → ∀ z, Q (.int z) n) ∧ ∀ k, pFault nss.length x = some k → R ⟨CB, "place", .int (k : Nat)⟩ n
theorem scBnd : FnScope ["tables", "sizes", "lot", "many", "held", "table", "size"] ["tables", "sizes", "lot"] (defScope sBound) := ⟨rfl, rfl, rfl, by decide +kernel, rfl, by decide +kernel, by decide +kernel⟩
theorem d_bound (F : RawF K mg "bound" "bound" sBound ["tables", "sizes", "lot"]) (Nz : ∀ x ∈ blts, mg x = none) (D_check_tables : DefP P w K mg base ⟨K, w, C, T⟩ (L2.CX P w) 4 "check_tables" ["tables"] rChkT) (D_check_sizes : DefP P w K mg base ⟨K, w, C, T⟩ (L2.CX P w) 4 "check_sizes" ["tables", "sizes"] rChkS)
    (D_check_lot : DefP P w K mg base ⟨K, w, C, T⟩ (L2.CX P w) 4 "check_lot" ["lot", "many"] (rCheckLot CB)) (M_rank : MetP P w K mg base ⟨K, w, C, T⟩ (L2.CX P w) 5 "rank" ["self", "lot"] (rLot CB 8000 ansRank)) (L_len : LenF P w K mg base C (LenIs C)) : DefP P w K mg base ⟨K, w, C, T⟩ (L2.CX P w) 7 "bound" ["tables", "sizes", "lot"] (rBound CB) := by
  refine RawF.pureX F scBnd (fun n xs Q R h => ?_) fun f cdv A outer s H E hr => ?_
  · obtain ⟨f, nss, s, x, a, rfl, _⟩ := h
    rfl
  · have nd := scBnd.nd
    have un := hr.units
    refine ⟨_, (pps_cons (pps_drop (pp_callD D_check_tables (hr.mono (by decide)) (by rfl) (passes_call (takes_of rfl rfl rfl rfl) fun _ _ _ _ h => h) (ppa_cons (pp_v (pv 0)) ppa_nil))) (pps_cons (pps_drop (pp_callD D_check_sizes (hr.mono (by decide)) (by rfl) (passes_call (takes_of rfl rfl rfl rfl) fun _ _ _ _ h => h) (ppa_cons (pp_v (pv 0)) (ppa_cons (pp_v (pv 1)) ppa_nil)))) (pps_cons (pps_set (i := 3) nd rfl (.inl rfl) (pp_callB (b_lenC L_len (hr.mono (by decide))) (by rfl) (Nz "len" (by decide)) PySem.boot_len (pka_cons (pk_of (pp_ix rfl (pk_v (pv 0)) (pk_of (pp_c pe_int fun _ _ _ => .int _)))) pka_nil))) (pps_cons (pps_drop (pp_callD D_check_lot (hr.mono (by decide)) (by rfl) (passes_call (takes_of rfl rfl rfl rfl) fun _ _ _ _ h => h) (ppa_cons (pp_v (pv 2)) (ppa_cons (pp_v (pv 3)) ppa_nil)))) (pps_cons (pps_setLc (i := 4) (own := [("table", 5), ("size", 6)]) rfl nd rfl rfl (sw_true rfl rfl rfl (by decide +kernel)) (pi_zLLK (by rfl) (Nz "zip" (by decide)) (pka_cons (pk_v (pv 0)) (pka_cons (pk_v (pv 1)) pka_nil))) (blkOk_by (own := [("table", 5), ("size", 6)]) (by kernel_rfl)) (fun _ _ _ _ _ => (pg_tp (n := 2) rfl rfl (pgs_consP (pg_nm (pg_name (i := 5) nd rfl (.inl rfl))) (pgs_consP (pg_nm (pg_name (i := 6) nd rfl (.inl rfl))) pgs_nilP)))) (fun _ _ _ _ _ => pts_nilP) (fun _ _ _ _ _ => (pp_callB (b_min rfl rfl) (by rfl) (Nz "min" (by decide)) (by decide +kernel) (pka_cons (pk_v (pv 6)) (pka_cons (pk_of (pp_methC rfl (pk_v (pv 5)) M_rank (hr.mono (by decide)) passEN (ppa_cons (pp_v (pv 2)) ppa_nil))) pka_nil)))) (by decide)) (pps_one (pps_ret (pp_add (pk_of (pp_sub (pk_v (pv 3)) (pk_of (pp_callB (b_len rfl) (by rfl) (Nz "len" (by decide)) (by decide +kernel) (pka_cons (pk_v (pv 2)) pka_nil))))) (pk_of (pp_callB (b_sum rfl rfl) (by rfl) (Nz "sum" (by decide)) (by decide +kernel) (pka_cons (pk_v (pv 4)) pka_nil))))))))))), fun n xs Q R h => ?_⟩
    obtain ⟨f, nss, s, x, a, rfl, s0, s60, hx, h60, ok, a8, q, r⟩ := h
    walk_at "pd"
    refine ⟨f, nss, rfl, h60, ⟨f, nss, s, rfl, s0, s60, _, rfl, ?_⟩⟩
    refine ⟨by omega, x, _, rfl, hx, fun z => ?_, r⟩
    refine ⟨_, _, ⟨rfl, rfl⟩, ?_⟩
    show goC _ [.tup [.tab f nss, .int s]] [] n _
    unfold goC turnC
    walk_at "pd"
    obtain ⟨lot, hlot, _⟩ := pf_ints z
    refine ⟨_, _, ⟨rfl, rfl⟩, _, _, rfl, rfl, f, nss, rfl, f, nss, x, a, rfl, hx, h60, ok, a8, fun lot2 _ e2 G run => ?_, fun k e => by rw [z] at e; cases e⟩
    refine .inl ⟨_, _, rfl, rfl, Nat.zero_lt_succ _, ?_⟩
    unfold goC
    have key := q lot2 z e2
    rcases hlot with rfl | rfl
    · exact ⟨[_], rfl, key _⟩
    · exact ⟨[_], rfl, key _⟩
end
/-! ### what the law takes for a lot -/
abbrev sBad : Stmt := top 48
def natP : Option Nat → PV
  | none => .non
  | some k => .int (k : Nat)
def rBad : PFn := fun n xs Q _ => ∃ x m, xs = [x, .int m] ∧ x.lotty ∧ Q (natP (pFault m x)) n
theorem enumP_at {xs : List PV} {j : Nat} {z : PV} (h : (enumP 0 xs)[j]? = some z) : ∃ y, xs[j]? = some y ∧ z = .tup [.int (j : Nat), y] := by
  unfold enumP at h
  rw [List.getElem?_zipWith] at h
  cases e : xs[j]? with
  | none =>
    rw [e] at h
    cases e2 : (List.range xs.length)[j]? <;> rw [e2] at h <;> cases h
  | some y =>
    have hj := (List.getElem?_eq_some_iff.mp e).1
    rw [e, List.getElem?_range hj] at h
    cases h
    exact ⟨y, rfl, by rw [Int.zero_add]⟩
theorem pFl_at {m lo : Int} {xs : List PV} {i : Nat} {x : PV} (h : xs[i]? = some x) : pFl m i lo (xs.drop i) = if pIn x lo (m - 1) = true then pFl m (i + 1) (pNxt x) (xs.drop (i + 1)) else some i := by
  have hi := (List.getElem?_eq_some_iff.mp h).1
  have e : xs.drop i = x :: xs.drop (i + 1) := by
    rw [List.drop_eq_getElem_cons hi]
    rw [List.getElem?_eq_getElem hi] at h
    cases h
    rfl
  rw [e]
  rfl
section
variable {P : Program} {w : World} {K : PySem.W.Frag} {mg : Str → Option Value} {base : Heap} {C CB : Addr} {T : List (Addr × Str)}
theorem scBad : FnScope ["_law_lot", "_law_many", "_law_k", "_law_row"] ["_law_lot", "_law_many"] (defScope sBad) := ⟨rfl, rfl, rfl, by decide +kernel, rfl, by decide +kernel, by decide +kernel⟩
theorem d_bad (F : RawF K mg "_law_bad" "_law_bad" sBad ["_law_lot", "_law_many"]) (Nz : ∀ x ∈ blts, mg x = none) : DefP P w K mg base ⟨K, w, C, T⟩ CX0 1 "_law_bad" ["_law_lot", "_law_many"] rBad := by
  refine RawF.pure F scBad (fun n xs Q R h => ?_) fun f cdv A outer s H E hr => ?_
  · obtain ⟨x, t, rfl, _⟩ := h
    rfl
  · have nd := scBad.nd
    have un := hr.units
    refine ⟨_, (pps_cons (pps_if (pt_notP (pt_v (pp_callB (b_isi rfl) (by rfl) (Nz "isinstance" (by decide)) (by decide +kernel) (pka_cons (pk_v (pv 0)) (pka_cons (pk_of (pp_tup (ppa_cons (pp_c (pe_bltn (v := V.ty "list") (by rfl) (Nz "list" (by decide)) (by decide +kernel) rfl) fun _ _ _ => .ty _) (ppa_cons (pp_c (pe_bltn (v := V.ty "tuple") (by rfl) (Nz "tuple" (by decide)) (by decide +kernel) rfl) fun _ _ _ => .ty _) ppa_nil)))) pka_nil))))) (pps_one (pps_ret (pp_c pe_int fun _ _ _ => .int _))) pps_nil) (pps_cons (pps_for PassesOwn.never rfl (pis_or (pi_eLS (by rfl) (Nz "enumerate" (by decide)) (ppa_cons (pp_v (pv 0)) ppa_nil)) (pi_eTS rfl (by rfl) (Nz "enumerate" (by decide)) (ppa_cons (pp_v (pv 0)) ppa_nil))) (pg_tp (n := 2) rfl rfl (pgs_consP (pg_nm (pg_name (i := 2) nd rfl (.inl rfl))) (pgs_consP (pg_nm (pg_name (i := 3) nd rfl (.inl rfl))) pgs_nilP))) (pps_one (pps_if (PW.pt (pw_orP (pt_notP (pt_v (pp_callB (b_isi rfl) (by rfl) (Nz "isinstance" (by decide)) (by decide +kernel) (pka_cons (pk_v (pv 3)) (pka_cons (pk_of (pp_c (pe_bltn (v := V.ty "int") (by rfl) (Nz "int" (by decide)) (by decide +kernel) rfl) fun _ _ _ => .ty _)) pka_nil))))) (pw_orP (pt_v (pp_callB (b_isi rfl) (by rfl) (Nz "isinstance" (by decide)) (by decide +kernel) (pka_cons (pk_v (pv 3)) (pka_cons (pk_of (pp_c (pe_bltn (v := V.ty "bool") (by rfl) (Nz "bool" (by decide)) (by decide +kernel) rfl) fun _ _ _ => .ty _)) pka_nil)))) (pw_orP (pt_notP (pt_chainP op_le op_lt (pp_c pe_int fun _ _ _ => .int _) (pp_v (pv 3)) (pp_v (pv 1)))) (pw_or1P (PW.pt (pw_andP (pt_cmpC (c_gt) (pk_v (pv 2)) (pk_of (pp_c pe_int fun _ _ _ => .int _))) (pw_and1P (pt_cmpC (c_le) (pk_v (pv 3)) (pk_of (pp_ix rfl (pk_v (pv 0)) (pk_of (pp_sub (pk_v (pv 2)) (pk_of (pp_c pe_int fun _ _ _ => .int _))))))))))))))) (pps_one (pps_ret (pp_v (pv 2)))) pps_nil))) (pps_one (pps_ret (pp_c pe_non fun _ _ _ => .non))))), fun n xs Q R h => ?_⟩
    obtain ⟨x, m, rfl, ⟨ha, hl⟩, q⟩ := h
    cases x with
    | non =>
      walk_at "pd"
      exact q
    | bl b =>
      walk_at "pd"
      exact q
    | int i =>
      walk_at "pd"
      exact q
    | str i =>
      walk_at "pd"
      exact q
    | dct i =>
      walk_at "pd"
      exact q
    | lst xs =>
      walk_at "pd"
      refine goF_inv (fun j s => ∃ lo u v, s = ⟨n, [.sh (.lst xs), .sh (.int m), u, v], R⟩ ∧ 0 ≤ lo ∧ (j = 0 → lo = 0) ∧ (0 < j → xs[j - 1]? = some (.int (lo - 1))) ∧ pFl m j lo (xs.drop j) = pFl m 0 0 xs) _ ⟨0, _, _, rfl, Int.le_refl 0, fun _ => rfl, fun h => absurd h (Nat.lt_irrefl 0), rfl⟩ ?_ ?_
      · rintro j z s N hz ⟨lo, u, v, rfl, l0, hlo0, hlo, hp⟩ k
        obtain ⟨y, hy, rfl⟩ := enumP_at hz
        have hd := pFl_at (m := m) (lo := lo) hy
        have bad : pIn y lo (m - 1) = false → Q (.int (j : Nat)) n := fun z => by
          have q2 := q
          rw [show pFault m (PV.lst xs) = pFl m 0 0 xs from rfl, ← hp, hd, z] at q2
          exact q2
        have hya := (hl xs rfl).2 y (List.mem_of_getElem? hy)
        clear hz
        walk_at "pd"
        refine ⟨_, _, ⟨rfl, rfl⟩, _, _, rfl, rfl, ?_⟩
        cases y with
        | int i =>
          have hb : ¬ (lo ≤ i ∧ i ≤ m - 1) → Q (.int (j : Nat)) n := fun h => bad (by
            show (decide (lo ≤ i) && decide (i ≤ m - 1)) = false
            rw [Bool.and_eq_false_iff]
            by_cases z : lo ≤ i
            · exact .inr (decide_eq_false fun z2 => h ⟨z, z2⟩)
            · exact .inl (decide_eq_false z))
          walk_at "pd"
          by_cases a1 : 0 ≤ i
          · rw [if_pos (decide_eq_true a1)]
            by_cases a2 : i < m
            · rw [decide_eq_true a2]
              refine iteF ?_
              have good : lo ≤ i → N ⟨n, [.sh (.lst xs), .sh (.int m), .sh (.int (j : Nat)), .sh (.int i)], R⟩ := fun h => by
                refine k _ ⟨i + 1, _, _, rfl, by omega, fun h => absurd h (by omega), fun _ => ?_, ?_⟩
                · rw [show j + 1 - 1 = j from by omega, hy, show i + 1 - 1 = i from by omega]
                · rw [← hp, hd, if_pos (show pIn (PV.int i) lo (m - 1) = true from by
                    show (decide (lo ≤ i) && decide (i ≤ m - 1)) = true
                    rw [decide_eq_true h, decide_eq_true (by omega : i ≤ m - 1)]
                    rfl)]
                  rfl
              by_cases j0 : 0 < j
              · rw [if_pos (decide_eq_true (by omega))]
                refine ⟨PV.int (lo - 1), ?_, ?_⟩
                · rw [show ((j : Int) - 1) = ((j - 1 : Nat) : Int) from by omega]
                  exact atI_nat (hlo j0)
                · walk_at "pd"
                  by_cases a3 : i ≤ lo - 1
                  · rw [decide_eq_true a3]
                    exact iteT (hb fun h => by omega)
                  · rw [decide_eq_false a3]
                    exact iteF (good (by omega))
              · rw [if_neg (by rw [decide_eq_false (by omega)]; exact Bool.false_ne_true)]
                exact good (by rw [hlo0 (by omega)]; exact a1)
            · rw [decide_eq_false a2]
              exact iteT (hb fun h => by omega)
          · rw [if_neg (by rw [decide_eq_false a1]; exact Bool.false_ne_true)]
            exact hb fun h => by omega
        | non =>
          walk_at "pd"
          exact bad rfl
        | bl b =>
          walk_at "pd"
          exact bad rfl
        | str b =>
          walk_at "pd"
          exact bad rfl
        | lst b =>
          walk_at "pd"
          exact bad rfl
        | tup b =>
          walk_at "pd"
          exact bad rfl
        | dct b =>
          walk_at "pd"
          exact bad rfl
        | _ => cases hya
      · rintro s ⟨lo, u, v, rfl, _, _, _, hp⟩
        have q2 := q
        rw [show pFault m (PV.lst xs) = pFl m 0 0 xs from rfl, ← hp, enumP_len, List.drop_length] at q2
        walk_at "pd"
        exact q2
    | tup xs =>
      walk_at "pd"
      refine goF_inv (fun j s => ∃ lo u v, s = ⟨n, [.sh (.tup xs), .sh (.int m), u, v], R⟩ ∧ 0 ≤ lo ∧ (j = 0 → lo = 0) ∧ (0 < j → xs[j - 1]? = some (.int (lo - 1))) ∧ pFl m j lo (xs.drop j) = pFl m 0 0 xs) _ ⟨0, _, _, rfl, Int.le_refl 0, fun _ => rfl, fun h => absurd h (Nat.lt_irrefl 0), rfl⟩ ?_ ?_
      · rintro j z s N hz ⟨lo, u, v, rfl, l0, hlo0, hlo, hp⟩ k
        obtain ⟨y, hy, rfl⟩ := enumP_at hz
        have hd := pFl_at (m := m) (lo := lo) hy
        have bad : pIn y lo (m - 1) = false → Q (.int (j : Nat)) n := fun z => by
          have q2 := q
          rw [show pFault m (PV.tup xs) = pFl m 0 0 xs from rfl, ← hp, hd, z] at q2
          exact q2
        have hya := (hl xs rfl).2 y (List.mem_of_getElem? hy)
        clear hz
        walk_at "pd"
        refine ⟨_, _, ⟨rfl, rfl⟩, _, _, rfl, rfl, ?_⟩
        cases y with
        | int i =>
          have hb : ¬ (lo ≤ i ∧ i ≤ m - 1) → Q (.int (j : Nat)) n := fun h => bad (by
            show (decide (lo ≤ i) && decide (i ≤ m - 1)) = false
            rw [Bool.and_eq_false_iff]
            by_cases z : lo ≤ i
            · exact .inr (decide_eq_false fun z2 => h ⟨z, z2⟩)
            · exact .inl (decide_eq_false z))
          walk_at "pd"
          by_cases a1 : 0 ≤ i
          · rw [if_pos (decide_eq_true a1)]
            by_cases a2 : i < m
            · rw [decide_eq_true a2]
              refine iteF ?_
              have good : lo ≤ i → N ⟨n, [.sh (.tup xs), .sh (.int m), .sh (.int (j : Nat)), .sh (.int i)], R⟩ := fun h => by
                refine k _ ⟨i + 1, _, _, rfl, by omega, fun h => absurd h (by omega), fun _ => ?_, ?_⟩
                · rw [show j + 1 - 1 = j from by omega, hy, show i + 1 - 1 = i from by omega]
                · rw [← hp, hd, if_pos (show pIn (PV.int i) lo (m - 1) = true from by
                    show (decide (lo ≤ i) && decide (i ≤ m - 1)) = true
                    rw [decide_eq_true h, decide_eq_true (by omega : i ≤ m - 1)]
                    rfl)]
                  rfl
              by_cases j0 : 0 < j
              · rw [if_pos (decide_eq_true (by omega))]
                refine ⟨PV.int (lo - 1), ?_, ?_⟩
                · rw [show ((j : Int) - 1) = ((j - 1 : Nat) : Int) from by omega]
                  exact atI_nat (hlo j0)
                · walk_at "pd"
                  by_cases a3 : i ≤ lo - 1
                  · rw [decide_eq_true a3]
                    exact iteT (hb fun h => by omega)
                  · rw [decide_eq_false a3]
                    exact iteF (good (by omega))
              · rw [if_neg (by rw [decide_eq_false (by omega)]; exact Bool.false_ne_true)]
                exact good (by rw [hlo0 (by omega)]; exact a1)
            · rw [decide_eq_false a2]
              exact iteT (hb fun h => by omega)
          · rw [if_neg (by rw [decide_eq_false a1]; exact Bool.false_ne_true)]
            exact hb fun h => by omega
        | non =>
          walk_at "pd"
          exact bad rfl
        | bl b =>
          walk_at "pd"
          exact bad rfl
        | str b =>
          walk_at "pd"
          exact bad rfl
        | lst b =>
          walk_at "pd"
          exact bad rfl
        | tup b =>
          walk_at "pd"
          exact bad rfl
        | dct b =>
          walk_at "pd"
          exact bad rfl
        | _ => cases hya
      · rintro s ⟨lo, u, v, rfl, _, _, _, hp⟩
        have q2 := q
        rw [show pFault m (PV.tup xs) = pFl m 0 0 xs from rfl, ← hp, enumP_len, List.drop_length] at q2
        walk_at "pd"
        exact q2
    | _ => cases ha
end
/-! ### subsets, tables drawn, over trees -/
abbrev sSubset : Stmt := top 41
abbrev sSomeLot : Stmt := top 46
def rSubset : PFn := fun n xs Q _ => ∃ ns : List Int, xs = [.src, .lst (ns.map PV.int)] ∧ n + ns.length ≤ 100000 ∧ ns.length < 1000 ∧ ∀ sub : List Int, sub.Sublist ns → Q (.lst (sub.map PV.int)) (n + ns.length)
def rSomeLot : PFn := fun n xs Q _ => ∃ m : Nat, xs = [.src, .int (m : Nat)] ∧ n ≤ 90000 ∧ m ≤ 60 ∧ ∀ sub : List Int, sub.length ≤ m → (∀ i ∈ sub, 0 ≤ i ∧ i < (m : Int)) → sub.Pairwise (· < ·) → Q (.lst (sub.map PV.int)) (n + m)
abbrev rowP (r : List Int) : PV := .lst (r.map PV.int)
def partsP (f : Int) (nss : List (List Int)) : PV := .lst [.lst (nss.map rowP), .int f]
def rTable : PFn := fun n xs Q _ => ∃ mw m : Nat, xs = [.src, .int (mw : Nat), .int (m : Nat)] ∧ n ≤ 40000 ∧ 0 < mw ∧ mw ≤ 11 ∧ m ≤ 59 ∧
  ∀ (f : Int) (nss : List (List Int)) (wd : Nat), f ∈ fields → nss.length ≤ m → (∀ r ∈ nss, r.length = wd ∧ ∀ i ∈ r, i.natAbs ≤ 2 * 3 ^ m) → 1 ≤ wd → wd ≤ mw → Q (partsP f nss) (n + 2500)
def rMade : PFn := fun n xs Q _ => ∃ (f : Int) (nss : List (List Int)) (wd : Nat), xs = [partsP f nss] ∧ (∀ r ∈ nss, r.length = wd) ∧ wd ≤ 12 ∧ nss.length ≤ 60 ∧ f ∈ fields ∧ Q (.tab f nss) n
section
variable {M : Pm} {p : Option Addr} {O : Addr → Prop} {H H' : Hp}
theorem RepL.rowsOf : ∀ {rs : List Addr} {nss : List (List Int)}, Paired (fun r ns => H r = some (.lst (ns.map V.int)) ∧ ¬ O r) rs nss → RepL M p O H (rs.map V.ref) (nss.map rowP)
  | _, _, .nil => .nil
  | _, _, .cons h t => .cons (.lst h.1 h.2 (.ofInts _)) (RepL.rowsOf t)
theorem RepL.cols : ∀ {vs : List V} {nss : List (List Int)}, RepL M p O H vs (nss.map rowP) → ∃ rs : List Addr, vs = rs.map V.ref ∧ ColsAt H rs nss
  | _, [], .nil => ⟨[], rfl, .nil⟩
  | _, _ :: _, .cons r t => by
    obtain ⟨rs, e, h⟩ := RepL.cols t
    cases r with
    | lst e1 n r =>
      rw [r.ints] at e1
      exact ⟨_ :: rs, by rw [e]; rfl, .cons e1 h⟩
end
section
variable {M : Pm} {E : XK}
theorem pr_table : PureR M spLTable rTable E := by
  intro c A st σ H vs xs Qp Q I rl ⟨mw, m, e, hn, w0, w11, m59, q⟩ k
  subst e
  match vs, rl with
  | [_, _, _], .cons (.src (a := a) e) (.cons (.int _) (.cons (.int _) .nil)) =>
    obtain ⟨o, h1, h2⟩ := I.src.1 a e
    refine ⟨a, o, st.n, mw, m, rfl, h1, h2, hn, w0, w11, m59, fun H' T q' rs nss o' wd kk f b e' ho hT hq hrs hl hk hw1 hw2 hf nT _ nq _ _ hr => ?_⟩
    obtain ⟨J, kp⟩ := I.but e b e' ho
    have ln : nss.length = kk := by
      have := Paired.length hrs
      omega
    refine k _ _ _ _ (q f nss wd hf (by omega) (fun r m1 => ?_) hw1 hw2) J kp (.lst hT (I.noA nT) (.cons (.lst hq (I.noA nq) (.rowsOf ?_)) (.cons (.int f) .nil)))
    · obtain ⟨i, hi⟩ := List.mem_iff_getElem?.mp m1
      obtain ⟨r2, m2, h3⟩ : ∃ r2, True ∧ (H' r2 = some (.lst (r.map V.int)) ∧ r.length = wd ∧ ∀ i ∈ r, i.natAbs ≤ 2 * 3 ^ kk) := by
        clear hl ln hq
        induction hrs generalizing i with
        | nil => cases hi
        | @cons a b as bs h t ih =>
          cases i with
          | zero =>
            cases hi
            exact ⟨_, trivial, h⟩
          | succ i => exact ih (fun r m => hr r (.tail _ m)) (List.mem_of_getElem? hi) i hi
      exact ⟨h3.2.1, fun i hi => Nat.le_trans (h3.2.2 i hi) (Nat.mul_le_mul_left 2 (Nat.pow_le_pow_right (by decide) hk))⟩
    · clear hq hl ln
      induction hrs with
      | nil => exact .nil
      | cons h t ih => exact .cons ⟨h.1, I.noA (hr _ (.head _)).1⟩ (ih fun r m => hr r (.tail _ m))
theorem pr_made : PureR M (spLMade M.C) rMade E := by
  intro c A st σ H vs xs Qp Q I rl ⟨f, nss, wd, e, hw, w12, l60, hf, q⟩ k
  subst e
  obtain ⟨v, rfl, r⟩ := Reps.one rl
  unfold partsP at r
  cases r with
  | lst e1 n1 r1 =>
    obtain ⟨v1, v2, rfl, r2, r3⟩ := Reps.two r1
    cases r3
    cases r2 with
    | lst e2 n2 r4 =>
      obtain ⟨rs, rfl, hc⟩ := r4.cols
      have ln : rs.length = nss.length := (Paired.length hc)
      refine ⟨_, _, rs, nss, wd, f, rfl, e1, e2, hc, hw, w12, by omega, hf, fun H' p s np tb => k _ _ _ _ q (I.same s) (.same s) (.tab tb)⟩
end
section
variable {P : Program} {w : World} {K : PySem.W.Frag} {mg : Str → Option Value} {base : Heap} {C CB : Addr} {T : List (Addr × Str)}
theorem scSub : FnScope ["_law_source_here", "_law_row", "_law_one"] ["_law_source_here", "_law_row"] (defScope sSubset) := ⟨rfl, rfl, rfl, by decide +kernel, rfl, by decide +kernel, by decide +kernel⟩
theorem d_subset (F : RawF K mg "_law_subset" "_law_subset" sSubset ["_law_source_here", "_law_row"]) (Nz : ∀ x ∈ blts, mg x = none) (D__law_draw : DefP P w K mg base ⟨K, w, C, T⟩ CX0 1 "_law_draw" ["_law_source_here", "_law_many"] rDraw) : DefP P w K mg base ⟨K, w, C, T⟩ CX0 2 "_law_subset" ["_law_source_here", "_law_row"] rSubset := by
  refine RawF.pure F scSub (fun n xs Q R h => ?_) fun f cdv A outer s H E hr => ?_
  · obtain ⟨ns, rfl, _⟩ := h
    rfl
  · have nd := scSub.nd
    have un := hr.units
    refine ⟨_, (pps_one (pps_ret (pp_lc (own := [("_law_one", 2)]) rfl nd (pi_vK rfl (pv 1)) (blkOk_by (own := [("_law_one", 2)]) (by kernel_rfl)) (fun _ _ _ _ _ => (pg_nm (pg_name (i := 2) nd rfl (.inl rfl)))) (fun _ _ _ _ _ => (pts_oneP (pt_cmpC (c_eq rfl un) (pk_of (pp_callD D__law_draw (hr.mono (by decide)) (by rfl) pass0 (ppa_cons (pp_v (pv 0)) (ppa_cons (pp_c pe_int fun _ _ _ => .int _) ppa_nil)))) (pk_of (pp_c pe_int fun _ _ _ => .int _))))) (fun _ _ _ _ _ => (pp_v (pv 2))) (by decide)))), fun n xs Q R h => ?_⟩
    obtain ⟨ns, rfl, hn, hl, q⟩ := h
    walk_at "pd"
    refine goC_inv (fun j acc n' => n' = n + j ∧ ∃ sub : List Int, acc = sub.map PV.int ∧ sub.Sublist (ns.take j)) _ _ ⟨rfl, [], rfl, List.Sublist.refl _⟩ ?_ ?_ ?_
    · rintro j z acc n' kk hz hlen ⟨rfl, sub, rfl, hs⟩ kN
      rw [List.getElem?_map] at hz
      cases e : ns[j]? with
      | none =>
        rw [e] at hz
        cases hz
      | some i =>
        rw [e] at hz
        cases hz
        have hj := (List.getElem?_eq_some_iff.mp e).1
        unfold turnC
        walk_at "pd"
        refine ⟨2, rfl, by omega, by decide, by decide, fun r r0 r1 => ?_⟩
        have tk : ns.take (j + 1) = ns.take j ++ [i] := by rw [List.take_succ, e]; rfl
        walk_at "pd"
        by_cases z : r = 1
        · rw [if_pos (decide_eq_true z)]
          refine kN (some (.int i)) (n + j + 1) ⟨Nat.add_assoc _ _ _, sub ++ [i], by rw [List.map_append]; rfl, ?_⟩
          rw [tk]
          exact hs.append (List.Sublist.refl _)
        · rw [if_neg (by rw [decide_eq_false z]; exact Bool.false_ne_true)]
          refine kN none (n + j + 1) ⟨Nat.add_assoc _ _ _, sub, rfl, ?_⟩
          rw [tk]
          exact hs.trans (List.sublist_append_left _ _)
    · rw [List.length_map, sizeLine_eq]
      omega
    · rintro acc n' ⟨rfl, sub, rfl, hs⟩
      rw [List.length_map] at hs ⊢
      rw [List.take_length] at hs
      exact q sub hs
theorem scSL : FnScope ["_law_source_here", "_law_many"] ["_law_source_here", "_law_many"] (defScope sSomeLot) := ⟨rfl, rfl, rfl, by decide +kernel, rfl, by decide +kernel, by decide +kernel⟩
theorem d_some_lot (F : RawF K mg "_law_some_lot" "_law_some_lot" sSomeLot ["_law_source_here", "_law_many"]) (Nz : ∀ x ∈ blts, mg x = none) (D__law_subset : DefP P w K mg base ⟨K, w, C, T⟩ CX0 2 "_law_subset" ["_law_source_here", "_law_row"] rSubset) : DefP P w K mg base ⟨K, w, C, T⟩ CX0 3 "_law_some_lot" ["_law_source_here", "_law_many"] rSomeLot := by
  refine RawF.pure F scSL (fun n xs Q R h => ?_) fun f cdv A outer s H E hr => ?_
  · obtain ⟨ns, rfl, _⟩ := h
    rfl
  · have nd := scSL.nd
    have un := hr.units
    refine ⟨_, (pps_one (pps_ret (pp_callD D__law_subset (hr.mono (by decide)) (by rfl) pass0 (ppa_cons (pp_v (pv 0)) (ppa_cons (pp_lrange1 rfl (by rfl) (Nz "list" (by decide)) (by rfl) (Nz "range" (by decide)) (pp_v (pv 1))) ppa_nil))))), fun n xs Q R h => ?_⟩
    obtain ⟨m, rfl, hn, hm, q⟩ := h
    walk_at "pd"
    have er : rngP 0 m = (((List.range m).map fun i : Nat => (i : Int)).map PV.int) := by
      unfold rngP
      rw [List.map_map]
      refine List.map_congr_left fun i _ => ?_
      show PV.int (0 + (i : Int)) = PV.int (i : Int)
      rw [Int.zero_add]
    refine ⟨by unfold RgOk; omega, _, by rw [er], by rw [List.length_map, List.length_range]; omega, by rw [List.length_map, List.length_range]; omega, fun sub hs => ?_⟩
    rw [List.length_map, List.length_range]
    have hsl := hs.length_le
    rw [List.length_map, List.length_range] at hsl
    refine q sub hsl (fun i hi => ?_) ?_
    · obtain ⟨j, hj, rfl⟩ := List.mem_map.mp (hs.subset hi)
      have := List.mem_range.mp hj
      omega
    · refine List.Pairwise.sublist hs (List.pairwise_map.mpr (List.pairwise_lt_range.imp fun h => ?_))
      omega
end
/-! ### a job is tried -/
abbrev sTried : Stmt := top 47
abbrev nsTd : List Str := ["_law_job", "_law_found", "e"]
theorem scTd : FnScope nsTd ["_law_job"] (defScope sTried) := ⟨rfl, rfl, rfl, by decide +kernel, rfl, by decide +kernel, by decide +kernel⟩
/-- the slots are as many as the names -/
theorem takes_len {X : Cx} {W : WX} (tk : Takes X W) : Takes X (fun cls d σ H => σ.length = X.N.length → W cls d σ H) := by
  rintro u s' ⟨a, B, sI, pins, σ, H, cls, d, rfl, I, nb, up, sky, na, os, ag, w⟩
  exact tk _ _ ⟨a, B, sI, pins, σ, H, cls, d, rfl, I, nb, up, sky, na, os, ag, w I.len⟩
section
variable {X : Cx}
theorem tried_gives {g CB fB : Addr} {fdB : FuncData} {cdg : Value} {q : Str} (MB : Made X.K X.prog X.mg "BadLot" "place" CB fB fdB) (xB : PySem.W.exmOne X.K (.ref CB) (.ref CB) = some true) :
    LamX.GivesTo X nsTd "_law_tried" (defScope sTried) g cdg (defBody sTried) "_law_job" q (TTgen [.str "none", .int 0] [(CB, "place", "place")] .zero) := by
  intro f c' s H Q tl act hc h
  have nd := scTd.nd
  refine ⟨_, pss_cons (ps_set (i := 1) nd rfl (.inl rfl) (pe_tup (pa_cons pe_str (pa_cons pe_int pa_nil))))
    (pss_cons (ps_try_as (X := (cxOf C8.CX0 X.prog X.w X.K X.mg X.base nsTd "_law_tried" (defScope sTried) g cdg X.A X.stack s H C8.E0).nox) (i := 2) (c := .ref CB)
      (tb := fun W D σ H' => ∃ Ech : XK, (∀ cls d σ' H2, Ech cls d H2 → σ'.length = 3 → W cls d σ' H2) ∧ σ[0]? = some (some (.ref f)) ∧ H' c' = some (LamX.CodeO c' q) ∧
        tl Ech H' (fun v H2 => [V.str "told", V.int 0].length ≤ sizeLine ∧ ∀ p, H2 p = none → D.nx (σ.set 1 (some (.ref p))) (upd H2 p (.tup [.str "told", .int 0]))))
      rfl rfl nd rfl rfl ⟨rfl, by decide, .inl MB.at_⟩ takes0 (fun W pn xe tk _ => ?body)
      (fun a oe cls d pn hz hf => pss_one (ps_set (i := 1) nd rfl (.inl rfl) (pe_tup (pa_cons pe_str (pa_cons (pe_xf MB.xf MB.of.nof hz hf (pv 2)) pa_nil))))))
    (pss_one (ps_ret (pv 1)))), ?_⟩
  case body =>
    refine ⟨fun pins s' σ H' D I want => ?_⟩
    obtain ⟨Ech, hW, h1, h2, h3⟩ := want
    have call := fun p1 p2 => act (fun cls d σ H => σ.length = 3 → W cls d σ H) pn xe Ech p1 p2 (takes_len tk) hW
    exact (pss_cons (ps_expr (call _ _)) (pss_one (ps_set (i := 1) nd rfl (.inl rfl) (pe_tup (pa_cons pe_str (pa_cons pe_int pa_nil)))))).run pins s' σ H' D I ⟨h1, h2, h3⟩
  refine ⟨Nat.le_of_ble_eq_true rfl, fun t0 n0 => ?_⟩
  have hc2 : upd H t0 (.tup [V.str "none", V.int 0]) c' = some (LamX.CodeO c' q) := same_upd n0 _ _ hc
  refine ⟨fun cls d H' => ∃ C f w dd v, (C, f, w) ∈ [(CB, ("place" : Str), ("place" : Str))] ∧ cls = .ref C ∧ d = some dd ∧ H' dd = some (.xd [(f, v)]) ∧ ∀ p, H' p = none → Q (.ref p) (upd H' p (.tup [.str w, v])), ?_, rfl, hc2, ?_⟩
  · rintro cls d σ' H2 ⟨C, fl, w, dd, v, hm, rfl, rfl, hd, hq⟩ hl
    rw [List.mem_singleton] at hm
    cases hm
    refine ⟨true, xB, fun _ a _ => ?_, fun z => nomatch z⟩
    match σ', hl with
    | [s0, s1, s2], _ =>
      exact ⟨_, rfl, rfl, rfl, dd, _, _, rfl, hd, rfl, Nat.le_of_ble_eq_true rfl, fun p np => ⟨_, rfl, hq p np⟩⟩
  · refine (congrArg (tl _ _) (funext fun v => funext fun H2 => propext ⟨fun h => ⟨Nat.le_of_ble_eq_true rfl, fun p np => ⟨_, rfl, h p np⟩⟩, fun h p np => ?_⟩)).mp (h t0 n0)
    obtain ⟨v', e, q⟩ := h.2 p np
    cases e
    exact q
end
/-! ### the law -/
abbrev sLaw : Stmt := top 49
abbrev nsLaw : List Str := ["_law_script", "_law_source_here", "_law_turn", "_law_parts", "_law_table_here", "_law_many", "_law_lot", "_law_at", "_law_odd", "_law_made_here", "_law_lots", "_law_one", "_law_bad_here", "_law_due", "_law_found"]
def spLaw (K : PySem.W.Frag) (pt : Addr) : Sp := fun vs H Q _ => ∃ (a : Addr) (ns : List Int), vs = [.ref a] ∧ SqL K H a (ns.map V.int) ∧ H pt = some (.tbl #[]) ∧ ∀ H', Q (.bl true) H'
theorem cutP_mem {xs : List PV} {a b : Option Int} {y : PV} (h : y ∈ cutP xs a b) : y ∈ xs := List.mem_of_mem_drop (List.mem_of_mem_take h)
theorem cutP_le {xs : List PV} {a b : Option Int} : (cutP xs a b).length ≤ xs.length := by
  unfold cutP
  rw [List.length_take, List.length_drop]
  omega
theorem lotty_lst {xs : List PV} (l : xs.length ≤ 1000) (h : ∀ y ∈ xs, y.any = true) : (PV.lst xs).lotty := ⟨rfl, fun ys e => by cases e; exact ⟨l, h⟩⟩
theorem lotty_tup {xs : List PV} (l : xs.length ≤ 1000) (h : ∀ y ∈ xs, y.any = true) : (PV.tup xs).lotty := ⟨rfl, fun ys e => by cases e; exact ⟨l, h⟩⟩
def dueP (o : Option Nat) : PV := match o with
  | none => .tup [.str "told", .int 0]
  | some k => .tup [.str "place", .int (k : Nat)]
theorem tr_lot {CB : Addr} {t a : Nat} {ans : Int → List (List Int) → List Int → (PV → Prop) → Prop} {st : PSt} {Q : PV → PSt → Prop} {f : Int} {nss : List (List Int)} {x : PV} (h4 : st.sl[4]? = some (.sh (.tab f nss))) (h11 : st.sl[11]? = some (.sh x)) (hx : x.lotty) (h60 : nss.length ≤ 60)
    (ok : TabOk f (widT nss) a (rowsT f nss)) (ha : a ≤ t) (an : ∀ lot Z, (∀ z, Z z) → ans f nss lot Z) (q : Q (dueP (pFault nss.length x)) st) : pTried [(CB, "place", "place")] .zero (pMeth (rLot CB t ans) (rdK 4) (pCons (rdV 11) pNil)) st Q := by
  unfold pTried pMeth rdK pCons rdV pNil
  have e4 : ∀ R, (st.inLam R).sl[4]? = some (.sh (.tab f nss)) := fun R => by
    show (st.sl.map PSl.hide)[4]? = _
    rw [List.getElem?_map, h4]
    rfl
  have e11 : ∀ R, (st.inLam R).sl[11]? = some (.sh x) := fun R => by
    show (st.sl.map PSl.hide)[11]? = _
    rw [List.getElem?_map, h11]
    rfl
  simp only [e4]
  refine ⟨f, nss, rfl, ?_⟩
  simp only [e11]
  refine ⟨f, nss, x, a, rfl, hx, h60, ok, ha, fun lot z _ => an _ _ fun _ => ?_, fun k hk => ⟨"place", .head _, ?_⟩⟩
  · rw [z] at q
    exact q
  · rw [hk] at q
    exact q
theorem tr_bound {CB : Addr} {a : Nat} {st : PSt} {Q : PV → PSt → Prop} {f : Int} {nss : List (List Int)} {x : PV} (h4 : st.sl[4]? = some (.sh (.tab f nss))) (h11 : st.sl[11]? = some (.sh x)) (hx : x.lotty) (h60 : nss.length ≤ 60)
    (ok : TabOk f (widT nss) a (rowsT f nss)) (ha : a ≤ 8000) (q : Q (dueP (pFault nss.length x)) st) : pTried [(CB, "place", "place")] .zero (pCall (rBound CB) (pCons (pLst (pCons (rdV 4) pNil)) (pCons (pLst (pCons (fun st Q => Q (PV.int 1) st) pNil)) (pCons (rdV 11) pNil)))) st Q := by
  have e4 : ∀ R, (st.inLam R).sl[4]? = some (.sh (.tab f nss)) := fun R => by
    show (st.sl.map PSl.hide)[4]? = _
    rw [List.getElem?_map, h4]
    rfl
  have e11 : ∀ R, (st.inLam R).sl[11]? = some (.sh x) := fun R => by
    show (st.sl.map PSl.hide)[11]? = _
    rw [List.getElem?_map, h11]
    rfl
  simp only [pTried, pCall, pCons, pLst, rdV, pNil, e4, e11]
  refine ⟨Nat.le_of_ble_eq_true rfl, Nat.le_of_ble_eq_true rfl, f, nss, 1, x, a, rfl, by decide, by decide, hx, h60, ok, ha, fun lot z _ _ => ?_, fun k hk => ⟨"place", .head _, ?_⟩⟩
  · rw [z] at q
    exact q
  · rw [hk] at q
    exact q
theorem neP_self {x : PV} {Q : PV → Prop} (ok : x.okD = true) (dp : x.dep ≤ 8) (q : Q (.bl false)) : neP x x Q := ⟨ok, ok, by omega, by omega, by rw [eqv_refl ok]; exact q⟩
theorem okD_due (o : Option Nat) : (dueP o).okD = true := by cases o <;> (unfold dueP; simp only [PV.okD, PV.okL]; decide +kernel)
theorem okD_five {d : PV} (h : d.okD = true) : (PV.lst [d, d, d, d, d]).okD = true := by simp only [PV.okD, PV.okL, h]; rfl
theorem dep_five {d : PV} (h : d.dep ≤ 2) : (PV.lst [d, d, d, d, d]).dep ≤ 8 := by simp only [PV.dep, PV.depL]; omega
theorem dep_due (o : Option Nat) : (dueP o).dep ≤ 2 := by cases o <;> (unfold dueP; simp only [PV.dep, PV.depL]; decide)
section
variable {P : Program} {w : World} {K : PySem.W.Frag} {mg : Str → Option Value} {base : Heap}
theorem scLa : FnScope nsLaw ["_law_script"] (defScope sLaw) := ⟨rfl, rfl, rfl, by decide +kernel, rfl, by decide +kernel, by decide +kernel⟩
theorem ok_law {f fS fT C CB fB cda pt : Addr} {fdS fdB : FuncData} {oc oT kV doc pm ct kVT dcT pmT cdT ctT : Value} {od an odT anT : Option Addr} {osl slT : Array (Option Value)}
    (here : K.lookup f = some ⟨oc, od, .func (PySem.W.fnOf "law" "law" (defArgs sLaw) (defBody sLaw) (defScope sLaw) .none kV doc pm an (.ref cda) ct), osl⟩) (code : PySem.W.codeIn K (.ref cda) "law" = true) (TB : LamX.TabB base mg cda pt)
    (lkT : K.lookup fT = some ⟨oT, odT, .func (PySem.W.fnOf "_law_tried" "_law_tried" (defArgs sTried) (defBody sTried) (defScope sTried) .none kVT dcT pmT anT cdT ctT), slT⟩) (cT : PySem.W.codeIn K cdT "_law_tried" = true) (kT : PySem.W.keepIn K (.ref fT) = true) (gT : mg "_law_tried" = some (.ref fT))
    (bT : Binds K (PySem.W.fnOf "_law_tried" "_law_tried" (defArgs sTried) (defBody sTried) (defScope sTried) .none kVT dcT pmT anT cdT ctT) ["_law_job"] [])
    (MB : Made K P mg "BadLot" "place" CB fB fdB) (xB : PySem.W.exmOne K (.ref CB) (.ref CB) = some true) (Nz : ∀ x ∈ blts, mg x = none)
    (GS : FnOk P w K mg base CX0 1 fS fdS ["_law_script"] (spSource K)) (kS : PySem.W.keepIn K (.ref fS) = true) (bS : Binds K fdS ["_law_script"] []) (gS : mg "_law_source" = some (.ref fS))
    (D__law_draw : DefP P w K mg base ⟨K, w, C, [(pt, "law.<locals>.<lambda>")]⟩ CX0 1 "_law_draw" ["_law_source_here", "_law_many"] rDraw)
    (D__law_pick : DefP P w K mg base ⟨K, w, C, [(pt, "law.<locals>.<lambda>")]⟩ CX0 2 "_law_pick" ["_law_source_here", "_law_things"] rPick)
    (D__law_table : DefP P w K mg base ⟨K, w, C, [(pt, "law.<locals>.<lambda>")]⟩ CX0 4 "_law_table" ["_law_source_here", "_law_most_width", "_law_most"] rTable)
    (D__law_made : DefP P w K mg base ⟨K, w, C, [(pt, "law.<locals>.<lambda>")]⟩ CX0 6 "_law_made" ["_law_parts"] rMade)
    (D__law_some_lot : DefP P w K mg base ⟨K, w, C, [(pt, "law.<locals>.<lambda>")]⟩ CX0 3 "_law_some_lot" ["_law_source_here", "_law_many"] rSomeLot)
    (D__law_bad : DefP P w K mg base ⟨K, w, C, [(pt, "law.<locals>.<lambda>")]⟩ CX0 1 "_law_bad" ["_law_lot", "_law_many"] rBad)
    (D_bound : DefP P w K mg base ⟨K, w, C, [(pt, "law.<locals>.<lambda>")]⟩ (L2.CX P w) 7 "bound" ["tables", "sizes", "lot"] (rBound CB))
    (M_rank : MetP P w K mg base ⟨K, w, C, [(pt, "law.<locals>.<lambda>")]⟩ (L2.CX P w) 5 "rank" ["self", "lot"] (rLot CB 8000 ansRank))
    (M_is_free : MetP P w K mg base ⟨K, w, C, [(pt, "law.<locals>.<lambda>")]⟩ (L2.CX P w) 5 "is_free" ["self", "lot"] (rLot CB 8000 ansFree))
    (M_hull : MetP P w K mg base ⟨K, w, C, [(pt, "law.<locals>.<lambda>")]⟩ (L2.CX P w) 5 "hull" ["self", "lot"] (rLot CB 8000 ansHull))
    (M_ring : MetP P w K mg base ⟨K, w, C, [(pt, "law.<locals>.<lambda>")]⟩ (L2.CX P w) 5 "ring" ["self", "lot"] (rLot CB 800 ansRing)) :
    FnOkG P w K mg base CX0 12 f (PySem.W.fnOf "law" "law" (defArgs sLaw) (defBody sLaw) (defScope sLaw) .none kV doc pm an (.ref cda) ct) ["_law_script"] (spLaw K pt) := by
  refine bodyG here code scLa (fun vs H Q E h => ?_) (fun A outer s H vs Q E gd hr h => ?_)
  · obtain ⟨a, ns, rfl, _⟩ := h
    rfl
  · obtain ⟨a, ns, rfl, hS, hPt, k⟩ := h
    have nd := scLa.nd
    have hr1 : Room 1 _ := hr.mono (by decide)
    have un := hr.units
    suffices red : ∃ t, PSs (cxOf CX0 P w K mg base nsLaw "law" (defScope sLaw) f (.ref cda) A outer s H E).nox (defBody sLaw) t ∧ t { nx := fun _ H' => Q .non H', rt := Q } (L2.start nsLaw [.ref a]) H by
      obtain ⟨t, h1, h2⟩ := red
      exact ⟨t, h1.nox, h2⟩
    have hgives := tried_gives (X := (cxOf CX0 P w K mg base nsLaw "law" (defScope sLaw) f (.ref cda) A outer s H E).nox) (g := fT) (cdg := cdT) (q := "law.<locals>.<lambda>") MB xB
    have hq : (cxOf CX0 P w K mg base nsLaw "law" (defScope sLaw) f (.ref cda) A outer s H E).nox.env.qual ++ "<lambda>" = "law.<locals>.<lambda>" := by kernel_rfl
    have rest : ∃ T, PPSs (cxOf CX0 P w K mg base nsLaw "law" (defScope sLaw) f (.ref cda) A outer s H E).nox ⟨K, w, C, [(pt, "law.<locals>.<lambda>")]⟩ E (defBody sLaw).tail T ∧ ∀ R, T { nx := fun _ => False, rt := fun z _ => z = .bl true } ⟨0, [.any, .sh .src, .emp, .emp, .emp, .emp, .emp, .emp, .emp, .emp, .emp, .emp, .emp, .emp, .emp], R⟩ := by
      refine ⟨_, (pps_cons (pps_for PassesOwn.never rfl (pi_r1S (by rfl) (Nz "range" (by decide)) (pka_cons (pk_of (pp_c pe_int fun _ _ _ => .int _)) pka_nil)) (pg_nm (pg_name (i := 2) nd rfl (.inl rfl))) (pps_cons (pps_set (i := 3) nd rfl (.inl rfl) (pp_callD D__law_table (hr.mono (by decide)) (by rfl) pass0 (ppa_cons (pp_v (pv 1)) (ppa_cons (pp_c pe_int fun _ _ _ => .int _) (ppa_cons (pp_c pe_int fun _ _ _ => .int _) ppa_nil))))) (pps_cons (pps_asg (pp_tup (ppa_cons (pp_callD D__law_made (hr.mono (by decide)) (by rfl) pass0 (ppa_cons (pp_v (pv 3)) ppa_nil)) (ppa_cons (pp_callB (b_len rfl) (by rfl) (Nz "len" (by decide)) (by decide +kernel) (pka_cons (pk_of (pp_ix rfl (pk_v (pv 3)) (pk_of (pp_c pe_int fun _ _ _ => .int _)))) pka_nil)) ppa_nil))) (pg_tp (n := 2) rfl rfl (pgs_consP (pg_nm (pg_name (i := 4) nd rfl (.inr rfl))) (pgs_consP (pg_nm (pg_name (i := 5) nd rfl (.inl rfl))) pgs_nilP)))) (pps_cons (pps_set (i := 6) nd rfl (.inl rfl) (pp_callD D__law_some_lot (hr.mono (by decide)) (by rfl) pass0 (ppa_cons (pp_v (pv 1)) (ppa_cons (pp_v (pv 5)) ppa_nil)))) (pps_cons (pps_set (i := 7) nd rfl (.inl rfl) (pp_callD D__law_draw (hr.mono (by decide)) (by rfl) pass0 (ppa_cons (pp_v (pv 1)) (ppa_cons (pp_add (pk_of (pp_callB (b_len rfl) (by rfl) (Nz "len" (by decide)) (by decide +kernel) (pka_cons (pk_v (pv 6)) pka_nil))) (pk_of (pp_c pe_int fun _ _ _ => .int _))) ppa_nil)))) (pps_cons (pps_set (i := 8) nd rfl (.inl rfl) (pp_callD D__law_pick (hr.mono (by decide)) (by rfl) pass0 (ppa_cons (pp_v (pv 1)) (ppa_cons (pp_lst (ppa_cons (pp_v (pv 5)) (ppa_cons (pp_neg (pp_c pe_int fun _ _ _ => .int _)) (ppa_cons (pp_c pe_non fun _ _ _ => .non) (ppa_cons (pp_c pe_bl fun _ _ _ => .bl _) (ppa_cons (pp_c pe_str fun _ _ _ => .str _) (ppa_cons (pp_tup (ppa_cons (pp_c pe_int fun _ _ _ => .int _) ppa_nil)) (ppa_cons (pp_c pe_int fun _ _ _ => .int _) (ppa_cons (pp_sub (pk_v (pv 5)) (pk_of (pp_c pe_int fun _ _ _ => .int _))) (ppa_cons (pp_lst ppa_nil) (ppa_cons (pp_pow (pk_of (pp_c pe_int fun _ _ _ => .int _)) (pk_of (pp_c pe_int fun _ _ _ => .int _))) ppa_nil))))))))))) ppa_nil)))) (pps_cons (pps_set (i := 9) nd rfl (.inl rfl) (pp_add (pk_of (pp_add (pk_of (pp_sl (pk_v (pv 6)) po_noneP (po_someP (pp_v (pv 7))))) (pk_of (pp_lst (ppa_cons (pp_v (pv 8)) ppa_nil))))) (pk_of (pp_sl (pk_v (pv 6)) (po_someP (pp_v (pv 7))) po_noneP)))) (pps_cons (pps_set (i := 10) nd rfl (.inl rfl) (pp_lst (ppa_cons (pp_v (pv 9)) (ppa_cons (pp_back (pk_v (pv 6)) (pp_neg (pp_c pe_int fun _ _ _ => .int _))) (ppa_cons (pp_add (pk_v (pv 6)) (pk_v (pv 6))) (ppa_cons (pp_v (pv 6)) (ppa_cons (pp_callT (t_tuple rfl) (by rfl) (Nz "tuple" (by decide)) (by decide +kernel) (pka_cons (pk_v (pv 9)) pka_nil)) (ppa_cons (pp_callD D__law_pick (hr.mono (by decide)) (by rfl) pass0 (ppa_cons (pp_v (pv 1)) (ppa_cons (pp_lst (ppa_cons (pp_c pe_non fun _ _ _ => .non) (ppa_cons (pp_c pe_int fun _ _ _ => .int _) (ppa_cons (pp_c pe_str fun _ _ _ => .str _) (ppa_cons (pp_new pn_dct0) ppa_nil))))) ppa_nil))) ppa_nil)))))))) (pps_one (pps_for PassesOwn.never rfl (pi_vS rfl (pv 10)) (pg_nm (pg_name (i := 11) nd rfl (.inr rfl))) (pps_cons (pps_set (i := 12) nd rfl (.inl rfl) (pp_callD D__law_bad (hr.mono (by decide)) (by rfl) pass0 (ppa_cons (pp_v (pv 11)) (ppa_cons (pp_v (pv 5)) ppa_nil)))) (pps_cons (pps_set (i := 13) nd rfl (.inl rfl) (pp_if (pt_cmpC (c_isN) (pk_v (pv 12)) (pk_of (pp_c pe_non fun _ _ _ => .non))) (pp_tup (ppa_cons (pp_c pe_str fun _ _ _ => .str _) (ppa_cons (pp_c pe_int fun _ _ _ => .int _) ppa_nil))) (pp_tup (ppa_cons (pp_c pe_str fun _ _ _ => .str _) (ppa_cons (pp_v (pv 12)) ppa_nil))))) (pps_cons (pps_own (i := 14) nd rfl (.inl rfl) (pn_lst (ppa_cons (pp_tried (LamX.pe_lamcall (T := [(pt, _)]) (k := 8) rfl gT kT lkT cT bT scTd rfl (.inl rfl) hgives TB rfl (.head _) (fun p hp _ => (congrArg Prod.snd (List.mem_singleton.mp hp)).trans hq.symm) (hr.mono (by decide)) (LamX.lamS_by (by kernel_rfl)) rfl (fun _ _ _ _ _ => rfl) (fun A2 o2 s2 H2 E2 f2 c2 hr4 => (pp_meth rfl (pk_v (pv 4)) M_rank (hr4.mono (by decide)) (passes_call (takes_of rfl rfl rfl rfl) fun _ _ _ _ h => h) (ppa_cons (pp_v (pv 11)) ppa_nil)))) (fun z => nomatch z)) ppa_nil))) (pps_cons (pps_app (pv 14) (pp_tried (LamX.pe_lamcall (T := [(pt, _)]) (k := 8) rfl gT kT lkT cT bT scTd rfl (.inl rfl) hgives TB rfl (.head _) (fun p hp _ => (congrArg Prod.snd (List.mem_singleton.mp hp)).trans hq.symm) (hr.mono (by decide)) (LamX.lamS_by (by kernel_rfl)) rfl (fun _ _ _ _ _ => rfl) (fun A2 o2 s2 H2 E2 f2 c2 hr4 => (pp_meth rfl (pk_v (pv 4)) M_is_free (hr4.mono (by decide)) (passes_call (takes_of rfl rfl rfl rfl) fun _ _ _ _ h => h) (ppa_cons (pp_v (pv 11)) ppa_nil)))) (fun z => nomatch z))) (pps_cons (pps_app (pv 14) (pp_tried (LamX.pe_lamcall (T := [(pt, _)]) (k := 8) rfl gT kT lkT cT bT scTd rfl (.inl rfl) hgives TB rfl (.head _) (fun p hp _ => (congrArg Prod.snd (List.mem_singleton.mp hp)).trans hq.symm) (hr.mono (by decide)) (LamX.lamS_by (by kernel_rfl)) rfl (fun _ _ _ _ _ => rfl) (fun A2 o2 s2 H2 E2 f2 c2 hr4 => (pp_meth rfl (pk_v (pv 4)) M_hull (hr4.mono (by decide)) (passes_call (takes_of rfl rfl rfl rfl) fun _ _ _ _ h => h) (ppa_cons (pp_v (pv 11)) ppa_nil)))) (fun z => nomatch z))) (pps_cons (pps_app (pv 14) (pp_tried (LamX.pe_lamcall (T := [(pt, _)]) (k := 8) rfl gT kT lkT cT bT scTd rfl (.inl rfl) hgives TB rfl (.head _) (fun p hp _ => (congrArg Prod.snd (List.mem_singleton.mp hp)).trans hq.symm) (hr.mono (by decide)) (LamX.lamS_by (by kernel_rfl)) rfl (fun _ _ _ _ _ => rfl) (fun A2 o2 s2 H2 E2 f2 c2 hr4 => (pp_meth rfl (pk_v (pv 4)) M_ring (hr4.mono (by decide)) (passes_call (takes_of rfl rfl rfl rfl) fun _ _ _ _ h => h) (ppa_cons (pp_v (pv 11)) ppa_nil)))) (fun z => nomatch z))) (pps_cons (pps_app (pv 14) (pp_tried (LamX.pe_lamcall (T := [(pt, _)]) (k := 8) rfl gT kT lkT cT bT scTd rfl (.inl rfl) hgives TB rfl (.head _) (fun p hp _ => (congrArg Prod.snd (List.mem_singleton.mp hp)).trans hq.symm) (hr.mono (by decide)) (LamX.lamS_by (by kernel_rfl)) rfl (fun _ _ _ _ _ => rfl) (fun A2 o2 s2 H2 E2 f2 c2 hr4 => (pp_callD D_bound (hr4.mono (by decide)) (by rfl) (passes_call (takes_of rfl rfl rfl rfl) fun _ _ _ _ h => h) (ppa_cons (pp_lst (ppa_cons (pp_v (pv 4)) ppa_nil)) (ppa_cons (pp_lst (ppa_cons (pp_c pe_int fun _ _ _ => .int _) ppa_nil)) (ppa_cons (pp_v (pv 11)) ppa_nil)))))) (fun z => nomatch z))) (pps_one (pps_if (pt_cmpC (c_ne rfl un) (pk_v (pv 14)) (pk_of (pp_new (pn_rep (pk_of (pp_lst (ppa_cons (pp_v (pv 13)) ppa_nil))) (pk_of (pp_c pe_int fun _ _ _ => .int _)))))) (pps_one (pps_ret (pp_c pe_bl fun _ _ _ => .bl _))) pps_nil))))))))))))))))))) (pps_one (pps_ret (pp_c pe_bl fun _ _ _ => .bl _)))), fun R => ?_⟩
      walk_at "pd"
      refine ⟨by decide, by decide, goF_inv (fun j st => ∃ n a2 a3 a4 a5 a6 a7 a8 a9 a10 a11 a12 a13 a14, st = ⟨n, [.any, .sh .src, a2, a3, a4, a5, a6, a7, a8, a9, a10, a11, a12, a13, a14], R⟩ ∧ n ≤ 2600 * j) _ ⟨_, _, _, _, _, _, _, _, _, _, _, _, _, _, rfl, Nat.zero_le _⟩ ?_ ?_⟩
      · rintro j z st N hz ⟨n, a2, a3, a4, a5, a6, a7, a8, a9, a10, a11, a12, a13, a14, rfl, hn⟩ kN
        have hj : j < 3 := (List.getElem?_eq_some_iff.mp hz).1
        clear hz
        walk_at "pd"
        refine ⟨3, 7, rfl, by omega, by decide, by decide, by decide, fun fl nss wd hf hl hw w1 w3 => ?_⟩
        walk_at "pd"
        refine ⟨fl, nss, wd, rfl, fun r m => (hw r m).1, by omega, by omega, hf, ?_⟩
        show ∃ z, atI [PV.lst (nss.map rowP), PV.int fl] 0 = some z ∧ _
        refine ⟨_, rfl, ?_⟩
        walk_at "pd"
        rw [List.length_map]
        refine ⟨_, _, ⟨rfl, rfl⟩, _, _, rfl, rfl, nss.length, rfl, by omega, by omega, fun lot hlen hb hp => ?_⟩
        walk_at "pd"
        rw [List.length_map]
        refine ⟨_, rfl, by omega, by omega, ?_, fun r r0 r1 => ?_⟩
        · omega
        walk_at "pd"
        refine ⟨?_, _, rfl, by omega, fun h => (nomatch h), Nat.le_of_ble_eq_true rfl, fun odd ho => ?_⟩
        · exact ⟨by decide, by decide +kernel⟩
        have oa : odd.any = true := List.all_eq_true.mp (by rfl : List.all _ PV.any = true) odd ho
        clear ho
        walk_at "pd"
        have hxa : ∀ y ∈ lot.map PV.int, y.any = true := fun y hy => by
          obtain ⟨i, _, rfl⟩ := List.mem_map.mp hy
          rfl
        have hxl : (lot.map PV.int).length ≤ 7 := by
          rw [List.length_map]
          omega
        have hxe : (lot.map PV.int).length = lot.length := List.length_map _
        have c1 := cutP_le (xs := lot.map PV.int) (a := none) (b := some r)
        have c2 := cutP_le (xs := lot.map PV.int) (a := some r) (b := none)
        have sz := sizeLine_eq
        refine ⟨by omega, by rw [List.length_append, List.length_singleton]; omega, by omega, ?_⟩
        have hma : ∀ y ∈ cutP (lot.map PV.int) none (some r) ++ [odd] ++ cutP (lot.map PV.int) (some r) none, y.any = true := fun y hy => by
          rcases List.mem_append.mp hy with hy | hy
          · rcases List.mem_append.mp hy with hy | hy
            · exact hxa y (cutP_mem hy)
            · rw [List.mem_singleton.mp hy]
              exact oa
          · exact hxa y (cutP_mem hy)
        have hml : (cutP (lot.map PV.int) none (some r) ++ [odd] ++ cutP (lot.map PV.int) (some r) none).length ≤ 1000 := by
          rw [List.length_append, List.length_append, List.length_singleton]
          omega
        generalize cutP (lot.map PV.int) none (some r) ++ [odd] ++ cutP (lot.map PV.int) (some r) none = made at hma hml ⊢
        unfold pNew nDct0
        walk_at "pd"
        refine ⟨_, rfl, by omega, fun h => (nomatch h), Nat.le_of_ble_eq_true rfl, fun odd2 ho2 => ?_⟩
        have hodd : odd2.lotty := by
          have := List.all_eq_true.mp (by rfl : List.all _ (fun y : PV => y.any && y.els.isNone) = true) odd2 ho2
          rw [Bool.and_eq_true] at this
          refine ⟨this.1, fun xs e => ?_⟩
          rw [e] at this
          cases this.2
        clear ho2
        walk_at "pd"
        have hin : ∀ x ∈ [PV.lst made, .lst (lot.map PV.int).reverse, .lst (lot.map PV.int ++ lot.map PV.int), .lst (lot.map PV.int), .tup made, odd2], x.lotty := by
          intro x hx
          simp only [List.mem_cons, List.not_mem_nil, or_false] at hx
          rcases hx with rfl | rfl | rfl | rfl | rfl | rfl
          · exact lotty_lst hml hma
          · exact lotty_lst (by rw [List.length_reverse]; omega) fun y hy => hxa y (List.mem_reverse.mp hy)
          · exact lotty_lst (by rw [List.length_append]; omega) fun y hy => (List.mem_append.mp hy).elim (hxa y) (hxa y)
          · exact lotty_lst (by omega) hxa
          · exact lotty_tup hml hma
          · exact hodd
        clear TB lkT cT kT gT bT MB GS D__law_draw D__law_pick D__law_table D__law_made D__law_some_lot D__law_bad D_bound M_rank M_is_free M_hull M_ring
        have S : Stc fl nss wd := stc_mk hf (fun r hr => ⟨(hw r hr).1, fun i hi => Nat.le_trans ((hw r hr).2 i hi) (by decide)⟩) (by omega) (by omega)
        have ok := S.tab
        have h60 : nss.length ≤ 60 := by omega
        refine goF_inv (fun j st => ∃ b11 b12 b13 b14, st = ⟨n + 2500 + nss.length + 1 + 1 + 1, [.any, .sh .src, .sh z, .sh (partsP fl nss), .sh (.tab fl nss), .sh (.int (nss.length : Nat)), .sh (.lst (lot.map PV.int)), .sh (.int r), .sh odd, .sh (.lst made), .sh (.lst [PV.lst made, .lst (lot.map PV.int).reverse, .lst (lot.map PV.int ++ lot.map PV.int), .lst (lot.map PV.int), .tup made, odd2]), b11, b12, b13, b14], R⟩) _ ⟨_, _, _, _, rfl⟩ ?_ ?_
        · rintro j2 x st N2 hx2 ⟨b11, b12, b13, b14, rfl⟩ kN2
          have hxl2 := hin x (List.mem_of_getElem? hx2)
          clear hx2
          generalize [PV.lst made, .lst (lot.map PV.int).reverse, .lst (lot.map PV.int ++ lot.map PV.int), .lst (lot.map PV.int), .tup made, odd2] = lots at kN2 ⊢
          walk_at "pd"
          refine ⟨x, _, rfl, hxl2, ?_⟩
          walk_at "pd"
          rcases e : pFault (nss.length : Int) x with _ | k2
          · refine iteT ?_
            clear here code xB Nz kS bS gS hgives hq hS hPt k un hr1 nd
            refine tr_lot rfl rfl hxl2 h60 ok (by decide) (fun lot Z h G run => h _) ?_
            rw [e]
            refine ⟨Nat.lt_succ_self 14, ⟨_, rfl⟩, ?_⟩
            refine tr_lot rfl rfl hxl2 h60 ok (by decide) (fun lot Z h G run => h _) ?_
            rw [e]
            walk_at "pd"
            refine ⟨by omega, tr_lot rfl rfl hxl2 h60 ok (by decide) (fun lot Z h G run => h _) ?_⟩
            rw [e]
            walk_at "pd"
            refine ⟨by omega, tr_lot rfl rfl hxl2 h60 ok (by decide) (fun lot Z h => ⟨fun G _ _ => h _, fun _ _ _ _ _ _ => h _⟩) ?_⟩
            rw [e]
            walk_at "pd"
            refine ⟨by omega, tr_bound rfl rfl hxl2 h60 ok (by decide) ?_⟩
            rw [e]
            walk_at "pd"
            refine ⟨by omega, by decide, by decide, Nat.le_of_ble_eq_true rfl, ?_⟩
            refine neP_self (x := .lst [dueP none, dueP none, dueP none, dueP none, dueP none]) (okD_five (okD_due _)) (dep_five (dep_due _)) ⟨_, rfl, ?_⟩
            exact kN2 _ ⟨_, _, _, _, rfl⟩
          · refine iteF ?_
            clear here code xB Nz kS bS gS hgives hq hS hPt k un hr1 nd
            walk_at "pd"
            refine tr_lot rfl rfl hxl2 h60 ok (by decide) (fun lot Z h G run => h _) ?_
            rw [e]
            refine ⟨Nat.lt_succ_self 14, ⟨_, rfl⟩, ?_⟩
            refine tr_lot rfl rfl hxl2 h60 ok (by decide) (fun lot Z h G run => h _) ?_
            rw [e]
            walk_at "pd"
            refine ⟨by omega, tr_lot rfl rfl hxl2 h60 ok (by decide) (fun lot Z h G run => h _) ?_⟩
            rw [e]
            walk_at "pd"
            refine ⟨by omega, tr_lot rfl rfl hxl2 h60 ok (by decide) (fun lot Z h => ⟨fun G _ _ => h _, fun _ _ _ _ _ _ => h _⟩) ?_⟩
            rw [e]
            walk_at "pd"
            refine ⟨by omega, tr_bound rfl rfl hxl2 h60 ok (by decide) ?_⟩
            rw [e]
            walk_at "pd"
            refine ⟨by omega, by decide, by decide, Nat.le_of_ble_eq_true rfl, ?_⟩
            refine neP_self (x := .lst [dueP (some k2), dueP (some k2), dueP (some k2), dueP (some k2), dueP (some k2)]) (okD_five (okD_due _)) (dep_five (dep_due _)) ⟨_, rfl, ?_⟩
            exact kN2 _ ⟨_, _, _, _, rfl⟩
        · rintro st ⟨b11, b12, b13, b14, rfl⟩
          exact kN _ ⟨_, _, _, _, _, _, _, _, _, _, _, _, _, _, rfl, by omega⟩
      · rintro st ⟨n, a2, a3, a4, a5, a6, a7, a8, a9, a10, a11, a12, a13, a14, rfl, hn⟩
        walk_at "pd"
    obtain ⟨T, hT, hR⟩ := rest
    refine ⟨_, pss_cons (ps_set (i := 1) nd rfl (.inl rfl) (pe_call GS hr1 rfl gS kS bS .nil pass0 (pa_cons (pv 0) pa_nil))) hT, ?_⟩
    refine ⟨_, rfl, a, ns, rfl, hS, fun H1 p o s1 np hp ho => ?_⟩
    have tabs : LamX.Tabs [(pt, "law.<locals>.<lambda>")] H1 := fun q hq2 => by
      rw [List.mem_singleton.mp hq2]
      exact ⟨#[], s1 _ _ hPt, by constructor, fun pos cv h => by cases h⟩
    have noO : ∀ (i : Nat) (o : POwn), ([.any, .sh .src, .emp, .emp, .emp, .emp, .emp, .emp, .emp, .emp, .emp, .emp, .emp, .emp, .emp] : List PSl)[i]? ≠ some (.own o) := fun i o e => by
      have := List.mem_of_getElem? e
      simp only [List.mem_cons, List.not_mem_nil, reduceCtorEq, or_false] at this
    refine ⟨⟨some p, fun _ => none, fun b => b = p⟩, fun _ => 0, ⟨0, [.any, .sh .src, .emp, .emp, .emp, .emp, .emp, .emp, .emp, .emp, .emp, .emp, .emp, .emp, .emp], fun _ _ => False⟩, _, ?_, hR _, ⟨fun _ _ _ _ h => h.elim, fun _ _ _ _ h => h.elim, fun _ _ _ _ h => h.elim, fun A' st' σ' z v H' hz I r => ?_⟩⟩
    · refine ⟨rfl, fun i j o o' e => absurd e (noO i o), fun i o e => absurd e (noO i o), fun b u e => (nomatch e), ⟨fun q e => ?_, tabs⟩, fun q e => ?_, fun b e => ?_, fun i sl v e1 e2 => ?_, fun _ _ _ _ _ _ _ h => h.elim, fun b u e => (nomatch e)⟩
      · cases e
        exact ⟨o, hp, ho⟩
      · cases e
        rfl
      · cases e
        exact ⟨o, hp, SrcP.mt ho, SrcP.nt ho⟩
      · match i, e1, e2 with
        | 0, e1, e2 =>
          cases e1
          trivial
        | 1, e1, e2 =>
          cases e1
          cases e2
          exact ⟨_, rfl, .src rfl⟩
        | i + 2, e1, e2 =>
          have h1 : sl = .emp := by
            have := List.mem_of_getElem? (show ([.emp, .emp, .emp, .emp, .emp, .emp, .emp, .emp, .emp, .emp, .emp, .emp, .emp] : List PSl)[i]? = some sl from e1)
            simpa only [List.mem_cons, List.not_mem_nil, or_self, or_false] using this
          have h2 : v = none := by
            have := List.mem_of_getElem? (show ([none, none, none, none, none, none, none, none, none, none, none, none, none] : List (Option V))[i]? = some v from e2)
            simpa only [List.mem_cons, List.not_mem_nil, or_self, or_false] using this
          rw [h1, h2]
          rfl
    · subst hz
      cases r
      exact k H'
end
theorem all_mk {P : Program} {w : World} {K : PySem.W.Frag} {h : Heap} {mg : Str → Option Value} {fa : Addr} {fS fD fP fSU fSO fTR fBD fLF fLR fLT fLM fWH fLI fFD fRW fFA fIN fTO fLX fCL fGO fCT fCS fBO fDV fPL fIV C CG fII fRA fLE fRK fIF fHU fRI fQI fQS fQL fQU fQT fQM fQK fGF pGF fGW pGW fLA cda pt CNx fNx CBx fBx CTx fTx CZx fZx aF : Addr} (X : K.In h) (G : h.Ns mainGlobals mg) (hfa : mg "law" = some (.ref fa))
    {odS anS : Option Addr} {slS : Array (Option Value)} {ocS kVS dcS pmS cdS ctS : Value}
    (aS : PySem.W.nsIn K mainGlobals "_law_source" = some (some (.ref fS)))
    (lS : K.lookup fS = some ⟨ocS, odS, .func (PySem.W.fnOf "_law_source" "_law_source" (defArgs sSource) (defBody sSource) (defScope sSource) .none kVS dcS pmS anS cdS ctS), slS⟩)
    (cS : PySem.W.codeIn K cdS "_law_source" = true)
    (kS : PySem.W.keepIn K (.ref fS) = true)
    {odD anD : Option Addr} {slD : Array (Option Value)} {ocD kVD dcD pmD cdD ctD : Value}
    (aD : PySem.W.nsIn K mainGlobals "_law_draw" = some (some (.ref fD)))
    (lD : K.lookup fD = some ⟨ocD, odD, .func (PySem.W.fnOf "_law_draw" "_law_draw" (defArgs sDraw) (defBody sDraw) (defScope sDraw) .none kVD dcD pmD anD cdD ctD), slD⟩)
    (cD : PySem.W.codeIn K cdD "_law_draw" = true)
    (kD : PySem.W.keepIn K (.ref fD) = true)
    {odP anP : Option Addr} {slP : Array (Option Value)} {ocP kVP dcP pmP cdP ctP : Value}
    (aP : PySem.W.nsIn K mainGlobals "_law_pick" = some (some (.ref fP)))
    (lP : K.lookup fP = some ⟨ocP, odP, .func (PySem.W.fnOf "_law_pick" "_law_pick" (defArgs sPick) (defBody sPick) (defScope sPick) .none kVP dcP pmP anP cdP ctP), slP⟩)
    (cP : PySem.W.codeIn K cdP "_law_pick" = true)
    (kP : PySem.W.keepIn K (.ref fP) = true)
    {odSU anSU : Option Addr} {slSU : Array (Option Value)} {ocSU kVSU dcSU pmSU cdSU ctSU : Value}
    (aSU : PySem.W.nsIn K mainGlobals "_law_subset" = some (some (.ref fSU)))
    (lSU : K.lookup fSU = some ⟨ocSU, odSU, .func (PySem.W.fnOf "_law_subset" "_law_subset" (defArgs sSubset) (defBody sSubset) (defScope sSubset) .none kVSU dcSU pmSU anSU cdSU ctSU), slSU⟩)
    (cSU : PySem.W.codeIn K cdSU "_law_subset" = true)
    (kSU : PySem.W.keepIn K (.ref fSU) = true)
    {odSO anSO : Option Addr} {slSO : Array (Option Value)} {ocSO kVSO dcSO pmSO cdSO ctSO : Value}
    (aSO : PySem.W.nsIn K mainGlobals "_law_some_lot" = some (some (.ref fSO)))
    (lSO : K.lookup fSO = some ⟨ocSO, odSO, .func (PySem.W.fnOf "_law_some_lot" "_law_some_lot" (defArgs sSomeLot) (defBody sSomeLot) (defScope sSomeLot) .none kVSO dcSO pmSO anSO cdSO ctSO), slSO⟩)
    (cSO : PySem.W.codeIn K cdSO "_law_some_lot" = true)
    (kSO : PySem.W.keepIn K (.ref fSO) = true)
    {odTR anTR : Option Addr} {slTR : Array (Option Value)} {ocTR kVTR dcTR pmTR cdTR ctTR : Value}
    (aTR : PySem.W.nsIn K mainGlobals "_law_tried" = some (some (.ref fTR)))
    (lTR : K.lookup fTR = some ⟨ocTR, odTR, .func (PySem.W.fnOf "_law_tried" "_law_tried" (defArgs sTried) (defBody sTried) (defScope sTried) .none kVTR dcTR pmTR anTR cdTR ctTR), slTR⟩)
    (cTR : PySem.W.codeIn K cdTR "_law_tried" = true)
    (kTR : PySem.W.keepIn K (.ref fTR) = true)
    {odBD anBD : Option Addr} {slBD : Array (Option Value)} {ocBD kVBD dcBD pmBD cdBD ctBD : Value}
    (aBD : PySem.W.nsIn K mainGlobals "_law_bad" = some (some (.ref fBD)))
    (lBD : K.lookup fBD = some ⟨ocBD, odBD, .func (PySem.W.fnOf "_law_bad" "_law_bad" (defArgs sBad) (defBody sBad) (defScope sBad) .none kVBD dcBD pmBD anBD cdBD ctBD), slBD⟩)
    (cBD : PySem.W.codeIn K cdBD "_law_bad" = true)
    (kBD : PySem.W.keepIn K (.ref fBD) = true)
    {odLF anLF : Option Addr} {slLF : Array (Option Value)} {ocLF kVLF dcLF pmLF cdLF ctLF : Value}
    (aLF : PySem.W.nsIn K mainGlobals "_law_field" = some (some (.ref fLF)))
    (lLF : K.lookup fLF = some ⟨ocLF, odLF, .func (PySem.W.fnOf "_law_field" "_law_field" (defArgs sLField) (defBody sLField) (defScope sLField) .none kVLF dcLF pmLF anLF cdLF ctLF), slLF⟩)
    (cLF : PySem.W.codeIn K cdLF "_law_field" = true)
    (kLF : PySem.W.keepIn K (.ref fLF) = true)
    {odLR anLR : Option Addr} {slLR : Array (Option Value)} {ocLR kVLR dcLR pmLR cdLR ctLR : Value}
    (aLR : PySem.W.nsIn K mainGlobals "_law_rows" = some (some (.ref fLR)))
    (lLR : K.lookup fLR = some ⟨ocLR, odLR, .func (PySem.W.fnOf "_law_rows" "_law_rows" (defArgs sLRows) (defBody sLRows) (defScope sLRows) .none kVLR dcLR pmLR anLR cdLR ctLR), slLR⟩)
    (cLR : PySem.W.codeIn K cdLR "_law_rows" = true)
    (kLR : PySem.W.keepIn K (.ref fLR) = true)
    {odLT anLT : Option Addr} {slLT : Array (Option Value)} {ocLT kVLT dcLT pmLT cdLT ctLT : Value}
    (aLT : PySem.W.nsIn K mainGlobals "_law_table" = some (some (.ref fLT)))
    (lLT : K.lookup fLT = some ⟨ocLT, odLT, .func (PySem.W.fnOf "_law_table" "_law_table" (defArgs sLTable) (defBody sLTable) (defScope sLTable) .none kVLT dcLT pmLT anLT cdLT ctLT), slLT⟩)
    (cLT : PySem.W.codeIn K cdLT "_law_table" = true)
    (kLT : PySem.W.keepIn K (.ref fLT) = true)
    {odLM anLM : Option Addr} {slLM : Array (Option Value)} {ocLM kVLM dcLM pmLM cdLM ctLM : Value}
    (aLM : PySem.W.nsIn K mainGlobals "_law_made" = some (some (.ref fLM)))
    (lLM : K.lookup fLM = some ⟨ocLM, odLM, .func (PySem.W.fnOf "_law_made" "_law_made" (defArgs sLMade) (defBody sLMade) (defScope sLMade) .none kVLM dcLM pmLM anLM cdLM ctLM), slLM⟩)
    (cLM : PySem.W.codeIn K cdLM "_law_made" = true)
    (kLM : PySem.W.keepIn K (.ref fLM) = true)
    {odWH anWH : Option Addr} {slWH : Array (Option Value)} {ocWH kVWH dcWH pmWH cdWH ctWH : Value}
    (aWH : PySem.W.nsIn K mainGlobals "is_whole" = some (some (.ref fWH)))
    (lWH : K.lookup fWH = some ⟨ocWH, odWH, .func (PySem.W.fnOf "is_whole" "is_whole" (defArgs sWhole) (defBody sWhole) (defScope sWhole) .none kVWH dcWH pmWH anWH cdWH ctWH), slWH⟩)
    (cWH : PySem.W.codeIn K cdWH "is_whole" = true)
    (kWH : PySem.W.keepIn K (.ref fWH) = true)
    {odLI anLI : Option Addr} {slLI : Array (Option Value)} {ocLI kVLI dcLI pmLI cdLI ctLI : Value}
    (aLI : PySem.W.nsIn K mainGlobals "is_list" = some (some (.ref fLI)))
    (lLI : K.lookup fLI = some ⟨ocLI, odLI, .func (PySem.W.fnOf "is_list" "is_list" (defArgs sList) (defBody sList) (defScope sList) .none kVLI dcLI pmLI anLI cdLI ctLI), slLI⟩)
    (cLI : PySem.W.codeIn K cdLI "is_list" = true)
    (kLI : PySem.W.keepIn K (.ref fLI) = true)
    {odFD anFD : Option Addr} {slFD : Array (Option Value)} {ocFD kVFD dcFD pmFD cdFD ctFD : Value}
    (aFD : PySem.W.nsIn K mainGlobals "is_field" = some (some (.ref fFD)))
    (lFD : K.lookup fFD = some ⟨ocFD, odFD, .func (PySem.W.fnOf "is_field" "is_field" (defArgs sField) (defBody sField) (defScope sField) .none kVFD dcFD pmFD anFD cdFD ctFD), slFD⟩)
    (cFD : PySem.W.codeIn K cdFD "is_field" = true)
    (kFD : PySem.W.keepIn K (.ref fFD) = true)
    {odRW anRW : Option Addr} {slRW : Array (Option Value)} {ocRW kVRW dcRW pmRW cdRW ctRW : Value}
    (aRW : PySem.W.nsIn K mainGlobals "is_row" = some (some (.ref fRW)))
    (lRW : K.lookup fRW = some ⟨ocRW, odRW, .func (PySem.W.fnOf "is_row" "is_row" (defArgs sRow) (defBody sRow) (defScope sRow) .none kVRW dcRW pmRW anRW cdRW ctRW), slRW⟩)
    (cRW : PySem.W.codeIn K cdRW "is_row" = true)
    (kRW : PySem.W.keepIn K (.ref fRW) = true)
    {odFA anFA : Option Addr} {slFA : Array (Option Value)} {ocFA kVFA dcFA pmFA cdFA ctFA : Value}
    (aFA : PySem.W.nsIn K mainGlobals "rows_fault" = some (some (.ref fFA)))
    (lFA : K.lookup fFA = some ⟨ocFA, odFA, .func (PySem.W.fnOf "rows_fault" "rows_fault" (defArgs sFault) (defBody sFault) (defScope sFault) .none kVFA dcFA pmFA anFA cdFA ctFA), slFA⟩)
    (cFA : PySem.W.codeIn K cdFA "rows_fault" = true)
    (kFA : PySem.W.keepIn K (.ref fFA) = true)
    {odIN anIN : Option Addr} {slIN : Array (Option Value)} {ocIN kVIN dcIN pmIN cdIN ctIN : Value}
    (aIN : PySem.W.nsIn K mainGlobals "is_integer" = some (some (.ref fIN)))
    (lIN : K.lookup fIN = some ⟨ocIN, odIN, .func (PySem.W.fnOf "is_integer" "is_integer" (defArgs sIsInt) (defBody sIsInt) (defScope sIsInt) .none kVIN dcIN pmIN anIN cdIN ctIN), slIN⟩)
    (cIN : PySem.W.codeIn K cdIN "is_integer" = true)
    (kIN : PySem.W.keepIn K (.ref fIN) = true)
    {odTO anTO : Option Addr} {slTO : Array (Option Value)} {ocTO kVTO dcTO pmTO cdTO ctTO : Value}
    (aTO : PySem.W.nsIn K mainGlobals "told" = some (some (.ref fTO)))
    (lTO : K.lookup fTO = some ⟨ocTO, odTO, .func (PySem.W.fnOf "told" "told" (defArgs sTold) (defBody sTold) (defScope sTold) .none kVTO dcTO pmTO anTO cdTO ctTO), slTO⟩)
    (cTO : PySem.W.codeIn K cdTO "told" = true)
    (kTO : PySem.W.keepIn K (.ref fTO) = true)
    {odLX anLX : Option Addr} {slLX : Array (Option Value)} {ocLX kVLX dcLX pmLX cdLX ctLX : Value}
    (aLX : PySem.W.nsIn K mainGlobals "lot_fault" = some (some (.ref fLX)))
    (lLX : K.lookup fLX = some ⟨ocLX, odLX, .func (PySem.W.fnOf "lot_fault" "lot_fault" (defArgs sLotFault) (defBody sLotFault) (defScope sLotFault) .none kVLX dcLX pmLX anLX cdLX ctLX), slLX⟩)
    (cLX : PySem.W.codeIn K cdLX "lot_fault" = true)
    (kLX : PySem.W.keepIn K (.ref fLX) = true)
    {odCL anCL : Option Addr} {slCL : Array (Option Value)} {ocCL kVCL dcCL pmCL cdCL ctCL : Value}
    (aCL : PySem.W.nsIn K mainGlobals "check_lot" = some (some (.ref fCL)))
    (lCL : K.lookup fCL = some ⟨ocCL, odCL, .func (PySem.W.fnOf "check_lot" "check_lot" (defArgs sCheckLot) (defBody sCheckLot) (defScope sCheckLot) .none kVCL dcCL pmCL anCL cdCL ctCL), slCL⟩)
    (cCL : PySem.W.codeIn K cdCL "check_lot" = true)
    (kCL : PySem.W.keepIn K (.ref fCL) = true)
    {odGO anGO : Option Addr} {slGO : Array (Option Value)} {ocGO kVGO dcGO pmGO cdGO ctGO : Value}
    (aGO : PySem.W.nsIn K mainGlobals "gauge_of" = some (some (.ref fGO)))
    (lGO : K.lookup fGO = some ⟨ocGO, odGO, .func (PySem.W.fnOf "gauge_of" "gauge_of" (defArgs sGaugeOf) (defBody sGaugeOf) (defScope sGaugeOf) .none kVGO dcGO pmGO anGO cdGO ctGO), slGO⟩)
    (cGO : PySem.W.codeIn K cdGO "gauge_of" = true)
    (kGO : PySem.W.keepIn K (.ref fGO) = true)
    {odCT anCT : Option Addr} {slCT : Array (Option Value)} {ocCT kVCT dcCT pmCT cdCT ctCT : Value}
    (aCT : PySem.W.nsIn K mainGlobals "check_tables" = some (some (.ref fCT)))
    (lCT : K.lookup fCT = some ⟨ocCT, odCT, .func (PySem.W.fnOf "check_tables" "check_tables" (defArgs sChkT) (defBody sChkT) (defScope sChkT) .none kVCT dcCT pmCT anCT cdCT ctCT), slCT⟩)
    (cCT : PySem.W.codeIn K cdCT "check_tables" = true)
    (kCT : PySem.W.keepIn K (.ref fCT) = true)
    {odCS anCS : Option Addr} {slCS : Array (Option Value)} {ocCS kVCS dcCS pmCS cdCS ctCS : Value}
    (aCS : PySem.W.nsIn K mainGlobals "check_sizes" = some (some (.ref fCS)))
    (lCS : K.lookup fCS = some ⟨ocCS, odCS, .func (PySem.W.fnOf "check_sizes" "check_sizes" (defArgs sChkS) (defBody sChkS) (defScope sChkS) .none kVCS dcCS pmCS anCS cdCS ctCS), slCS⟩)
    (cCS : PySem.W.codeIn K cdCS "check_sizes" = true)
    (kCS : PySem.W.keepIn K (.ref fCS) = true)
    {odBO anBO : Option Addr} {slBO : Array (Option Value)} {ocBO kVBO dcBO pmBO cdBO ctBO : Value}
    (aBO : PySem.W.nsIn K mainGlobals "bound" = some (some (.ref fBO)))
    (lBO : K.lookup fBO = some ⟨ocBO, odBO, .func (PySem.W.fnOf "bound" "bound" (defArgs sBound) (defBody sBound) (defScope sBound) .none kVBO dcBO pmBO anBO cdBO ctBO), slBO⟩)
    (cBO : PySem.W.codeIn K cdBO "bound" = true)
    (kBO : PySem.W.keepIn K (.ref fBO) = true)
    {tkMT : Tok}
    (aMT : PySem.W.nsIn K mainGlobals "MOST_TABLES" = some (some (.int 12 tkMT)))
    {tkMS : Tok}
    (aMS : PySem.W.nsIn K mainGlobals "MOST_SIZE" = some (some (.int 60 tkMS)))
    {odDV anDV : Option Addr} {slDV : Array (Option Value)} {ocDV kVDV dcDV pmDV cdDV ctDV : Value}
    (aDV : PySem.W.nsIn K mainGlobals "divisor" = some (some (.ref fDV)))
    (lDV : K.lookup fDV = some ⟨ocDV, odDV, .func (PySem.W.fnOf "divisor" "divisor" (defArgs sDivisor) (defBody sDivisor) (defScope sDivisor) .none kVDV dcDV pmDV anDV cdDV ctDV), slDV⟩)
    (cDV : PySem.W.codeIn K cdDV "divisor" = true)
    (kDV : PySem.W.keepIn K (.ref fDV) = true)
    {odPL anPL : Option Addr} {slPL : Array (Option Value)} {ocPL kVPL dcPL pmPL cdPL ctPL : Value}
    (aPL : PySem.W.nsIn K mainGlobals "plain_relation" = some (some (.ref fPL)))
    (lPL : K.lookup fPL = some ⟨ocPL, odPL, .func (PySem.W.fnOf "plain_relation" "plain_relation" (defArgs sPlain) (defBody sPlain) (defScope sPlain) .none kVPL dcPL pmPL anPL cdPL ctPL), slPL⟩)
    (cPL : PySem.W.codeIn K cdPL "plain_relation" = true)
    (kPL : PySem.W.keepIn K (.ref fPL) = true)
    {odIV anIV : Option Addr} {slIV : Array (Option Value)} {ocIV kVIV dcIV pmIV cdIV ctIV : Value}
    (aIV : PySem.W.nsIn K mainGlobals "inverse" = some (some (.ref fIV)))
    (lIV : K.lookup fIV = some ⟨ocIV, odIV, .func (PySem.W.fnOf "inverse" "inverse" (defArgs sInv) (defBody sInv) (defScope sInv) .none kVIV dcIV pmIV anIV cdIV ctIV), slIV⟩)
    (cIV : PySem.W.codeIn K cdIV "inverse" = true)
    (kIV : PySem.W.keepIn K (.ref fIV) = true)
    {tkMR : Tok}
    (aMR : PySem.W.nsIn K mainGlobals "MOST_ROWS" = some (some (.int 60 tkMR)))
    {tkMW : Tok}
    (aMW : PySem.W.nsIn K mainGlobals "MOST_WIDTH" = some (some (.int 12 tkMW)))
    (aC : PySem.W.nsIn K mainGlobals "Rows" = some (some (.ref C)))
    (pgC : PySem.W.plainGet K C Str.empty = true)
    (hdC : PySem.W.hasDictIn K C = true)
    (poC : PySem.W.plainOver K C = true)
    (saC : PySem.W.findIn K (.ref C) "__setattr__" = some (some (.builtin "object.__setattr__")))
    (mkC : PySem.W.makesIn K C = true)
    (kcC : PySem.W.keepIn K (.ref C) = true)
    (nC_field : PySem.W.findIn K (.ref C) "_field" = some none)
    (nC_rows : PySem.W.findIn K (.ref C) "_rows" = some none)
    (nC_width : PySem.W.findIn K (.ref C) "_width" = some none)
    (aCG : PySem.W.nsIn K mainGlobals "Gauge" = some (some (.ref CG)))
    (pgCG : PySem.W.plainGet K CG Str.empty = true)
    (hdCG : PySem.W.hasDictIn K CG = true)
    (poCG : PySem.W.plainOver K CG = true)
    (saCG : PySem.W.findIn K (.ref CG) "__setattr__" = some (some (.builtin "object.__setattr__")))
    (mkCG : PySem.W.makesIn K CG = true)
    (kcCG : PySem.W.keepIn K (.ref CG) = true)
    (nCGscale : PySem.W.findIn K (.ref CG) "scale" = some none)
    (nCG_prime : PySem.W.findIn K (.ref CG) "_prime" = some none)
    (nCG_columns : PySem.W.findIn K (.ref CG) "_columns" = some none)
    (nCG_held : PySem.W.findIn K (.ref CG) "_held" = some none)
    {odII anII : Option Addr} {slII : Array (Option Value)} {ocII kVII dcII pmII cdII ctII  : Value}
    {TII : Addr} {oTII : Value} {dTII : Option Addr} {uTII : Value} {nTII : Nat} {sTII : Array (Option Value)}
    (aII : PySem.W.findIn K (.ref C) "__init__" = some (some (.ref fII)))
    (iII : PySem.W.isFn K (.ref fII) = true)
    (lII : K.lookup fII = some ⟨ocII, odII, .func (PySem.W.fnOf "__init__" "Rows.__init__" (defArgs sInit) (defBody sInit) (defScope sInit) (.ref TII) kVII dcII pmII anII cdII ctII), slII⟩)
    (cII : PySem.W.codeIn K cdII "Rows.__init__" = true)
    (lTII : K.lookup TII = some ⟨oTII, dTII, .seq #[uTII] nTII, sTII⟩)
    (kII : PySem.W.keepIn K (.ref fII) = true)
    {odRA anRA : Option Addr} {slRA : Array (Option Value)} {ocRA kVRA dcRA pmRA cdRA ctRA : Value}
    (aRA : PySem.W.findIn K (.ref C) "row_at" = some (some (.ref fRA)))
    (iRA : PySem.W.isFn K (.ref fRA) = true)
    (lRA : K.lookup fRA = some ⟨ocRA, odRA, .func (PySem.W.fnOf "row_at" "Rows.row_at" (defArgs sRowAt) (defBody sRowAt) (defScope sRowAt) .none kVRA dcRA pmRA anRA cdRA ctRA), slRA⟩)
    (cRA : PySem.W.codeIn K cdRA "Rows.row_at" = true)
    (kRA : PySem.W.keepIn K (.ref fRA) = true)
    {odLE anLE : Option Addr} {slLE : Array (Option Value)} {ocLE kVLE dcLE pmLE cdLE ctLE : Value}
    (aLE : PySem.W.findIn K (.ref C) "__len__" = some (some (.ref fLE)))
    (iLE : PySem.W.isFn K (.ref fLE) = true)
    (lLE : K.lookup fLE = some ⟨ocLE, odLE, .func (PySem.W.fnOf "__len__" "Rows.__len__" (defArgs sLen) (defBody sLen) (defScope sLen) .none kVLE dcLE pmLE anLE cdLE ctLE), slLE⟩)
    (cLE : PySem.W.codeIn K cdLE "Rows.__len__" = true)
    (kLE : PySem.W.keepIn K (.ref fLE) = true)
    {odRK anRK : Option Addr} {slRK : Array (Option Value)} {ocRK kVRK dcRK pmRK cdRK ctRK : Value}
    (aRK : PySem.W.findIn K (.ref C) "rank" = some (some (.ref fRK)))
    (iRK : PySem.W.isFn K (.ref fRK) = true)
    (lRK : K.lookup fRK = some ⟨ocRK, odRK, .func (PySem.W.fnOf "rank" "Rows.rank" (defArgs sRank) (defBody sRank) (defScope sRank) .none kVRK dcRK pmRK anRK cdRK ctRK), slRK⟩)
    (cRK : PySem.W.codeIn K cdRK "Rows.rank" = true)
    (kRK : PySem.W.keepIn K (.ref fRK) = true)
    {odIF anIF : Option Addr} {slIF : Array (Option Value)} {ocIF kVIF dcIF pmIF cdIF ctIF : Value}
    (aIF : PySem.W.findIn K (.ref C) "is_free" = some (some (.ref fIF)))
    (iIF : PySem.W.isFn K (.ref fIF) = true)
    (lIF : K.lookup fIF = some ⟨ocIF, odIF, .func (PySem.W.fnOf "is_free" "Rows.is_free" (defArgs sIsFree) (defBody sIsFree) (defScope sIsFree) .none kVIF dcIF pmIF anIF cdIF ctIF), slIF⟩)
    (cIF : PySem.W.codeIn K cdIF "Rows.is_free" = true)
    (kIF : PySem.W.keepIn K (.ref fIF) = true)
    {odHU anHU : Option Addr} {slHU : Array (Option Value)} {ocHU kVHU dcHU pmHU cdHU ctHU : Value}
    (aHU : PySem.W.findIn K (.ref C) "hull" = some (some (.ref fHU)))
    (iHU : PySem.W.isFn K (.ref fHU) = true)
    (lHU : K.lookup fHU = some ⟨ocHU, odHU, .func (PySem.W.fnOf "hull" "Rows.hull" (defArgs sHull) (defBody sHull) (defScope sHull) .none kVHU dcHU pmHU anHU cdHU ctHU), slHU⟩)
    (cHU : PySem.W.codeIn K cdHU "Rows.hull" = true)
    (kHU : PySem.W.keepIn K (.ref fHU) = true)
    {odRI anRI : Option Addr} {slRI : Array (Option Value)} {ocRI kVRI dcRI pmRI cdRI ctRI : Value}
    (aRI : PySem.W.findIn K (.ref C) "ring" = some (some (.ref fRI)))
    (iRI : PySem.W.isFn K (.ref fRI) = true)
    (lRI : K.lookup fRI = some ⟨ocRI, odRI, .func (PySem.W.fnOf "ring" "Rows.ring" (defArgs sRing) (defBody sRing) (defScope sRing) .none kVRI dcRI pmRI anRI cdRI ctRI), slRI⟩)
    (cRI : PySem.W.codeIn K cdRI "Rows.ring" = true)
    (kRI : PySem.W.keepIn K (.ref fRI) = true)
    {odQI anQI : Option Addr} {slQI : Array (Option Value)} {ocQI kVQI dcQI pmQI cdQI ctQI : Value}
    (aQI : PySem.W.findIn K (.ref CG) "__init__" = some (some (.ref fQI)))
    (iQI : PySem.W.isFn K (.ref fQI) = true)
    (lQI : K.lookup fQI = some ⟨ocQI, odQI, .func (PySem.W.fnOf "__init__" "Gauge.__init__" (defArgs sGInit) (defBody sGInit) (defScope sGInit) .none kVQI dcQI pmQI anQI cdQI ctQI), slQI⟩)
    (cQI : PySem.W.codeIn K cdQI "Gauge.__init__" = true)
    (kQI : PySem.W.keepIn K (.ref fQI) = true)
    {odQS anQS : Option Addr} {slQS : Array (Option Value)} {ocQS kVQS dcQS pmQS cdQS ctQS : Value}
    (aQS : PySem.W.findIn K (.ref CG) "_shares" = some (some (.ref fQS)))
    (iQS : PySem.W.isFn K (.ref fQS) = true)
    (lQS : K.lookup fQS = some ⟨ocQS, odQS, .func (PySem.W.fnOf "_shares" "Gauge._shares" (defArgs sGShares) (defBody sGShares) (defScope sGShares) .none kVQS dcQS pmQS anQS cdQS ctQS), slQS⟩)
    (cQS : PySem.W.codeIn K cdQS "Gauge._shares" = true)
    (kQS : PySem.W.keepIn K (.ref fQS) = true)
    {odQL anQL : Option Addr} {slQL : Array (Option Value)} {ocQL kVQL dcQL pmQL cdQL ctQL : Value}
    (aQL : PySem.W.findIn K (.ref CG) "_lacking" = some (some (.ref fQL)))
    (iQL : PySem.W.isFn K (.ref fQL) = true)
    (lQL : K.lookup fQL = some ⟨ocQL, odQL, .func (PySem.W.fnOf "_lacking" "Gauge._lacking" (defArgs sGLacking) (defBody sGLacking) (defScope sGLacking) .none kVQL dcQL pmQL anQL cdQL ctQL), slQL⟩)
    (cQL : PySem.W.codeIn K cdQL "Gauge._lacking" = true)
    (kQL : PySem.W.keepIn K (.ref fQL) = true)
    {odQU anQU : Option Addr} {slQU : Array (Option Value)} {ocQU kVQU dcQU pmQU cdQU ctQU : Value}
    (aQU : PySem.W.findIn K (.ref CG) "_turned" = some (some (.ref fQU)))
    (iQU : PySem.W.isFn K (.ref fQU) = true)
    (lQU : K.lookup fQU = some ⟨ocQU, odQU, .func (PySem.W.fnOf "_turned" "Gauge._turned" (defArgs sGTurned) (defBody sGTurned) (defScope sGTurned) .none kVQU dcQU pmQU anQU cdQU ctQU), slQU⟩)
    (cQU : PySem.W.codeIn K cdQU "Gauge._turned" = true)
    (kQU : PySem.W.keepIn K (.ref fQU) = true)
    {odQT anQT : Option Addr} {slQT : Array (Option Value)} {ocQT kVQT dcQT pmQT cdQT ctQT : Value}
    (aQT : PySem.W.findIn K (.ref CG) "take" = some (some (.ref fQT)))
    (iQT : PySem.W.isFn K (.ref fQT) = true)
    (lQT : K.lookup fQT = some ⟨ocQT, odQT, .func (PySem.W.fnOf "take" "Gauge.take" (defArgs sGTake) (defBody sGTake) (defScope sGTake) .none kVQT dcQT pmQT anQT cdQT ctQT), slQT⟩)
    (cQT : PySem.W.codeIn K cdQT "Gauge.take" = true)
    (kQT : PySem.W.keepIn K (.ref fQT) = true)
    {odQM anQM : Option Addr} {slQM : Array (Option Value)} {ocQM kVQM dcQM pmQM cdQM ctQM : Value}
    (aQM : PySem.W.findIn K (.ref CG) "many" = some (some (.ref fQM)))
    (iQM : PySem.W.isFn K (.ref fQM) = true)
    (lQM : K.lookup fQM = some ⟨ocQM, odQM, .func (PySem.W.fnOf "many" "Gauge.many" (defArgs sGMany) (defBody sGMany) (defScope sGMany) .none kVQM dcQM pmQM anQM cdQM ctQM), slQM⟩)
    (cQM : PySem.W.codeIn K cdQM "Gauge.many" = true)
    (kQM : PySem.W.keepIn K (.ref fQM) = true)
    {odQK anQK : Option Addr} {slQK : Array (Option Value)} {ocQK kVQK dcQK pmQK cdQK ctQK : Value}
    (aQK : PySem.W.findIn K (.ref CG) "makers" = some (some (.ref fQK)))
    (iQK : PySem.W.isFn K (.ref fQK) = true)
    (lQK : K.lookup fQK = some ⟨ocQK, odQK, .func (PySem.W.fnOf "makers" "Gauge.makers" (defArgs sGMakers) (defBody sGMakers) (defScope sGMakers) .none kVQK dcQK pmQK anQK cdQK ctQK), slQK⟩)
    (cQK : PySem.W.codeIn K cdQK "Gauge.makers" = true)
    (kQK : PySem.W.keepIn K (.ref fQK) = true)
    {odGF anGF : Option Addr} {slGF : Array (Option Value)} {ocGF kVGF dcGF pmGF cdGF ctGF : Value} {restGF : List Value}
    (atGF : PySem.W.findIn K (.ref C) "field" = some (some (.ref pGF)))
    (gtGF : PySem.W.specialIn K (.ref pGF) "__get__" = some (some (.builtin "property.__get__")))
    (tkGF : PySem.W.takesIn K (.ref pGF) = some true)
    (rcGF : PySem.W.recIn K pGF "property" = some (.ref fGF :: restGF))
    (lGF : K.lookup fGF = some ⟨ocGF, odGF, .func (PySem.W.fnOf "field" "Rows.field" (defArgs sGetF) (defBody sGetF) (defScope sGetF) .none kVGF dcGF pmGF anGF cdGF ctGF), slGF⟩)
    (cGF : PySem.W.codeIn K cdGF "Rows.field" = true)
    (kGF : PySem.W.keepIn K (.ref fGF) = true)
    {odGW anGW : Option Addr} {slGW : Array (Option Value)} {ocGW kVGW dcGW pmGW cdGW ctGW : Value} {restGW : List Value}
    (atGW : PySem.W.findIn K (.ref C) "width" = some (some (.ref pGW)))
    (gtGW : PySem.W.specialIn K (.ref pGW) "__get__" = some (some (.builtin "property.__get__")))
    (tkGW : PySem.W.takesIn K (.ref pGW) = some true)
    (rcGW : PySem.W.recIn K pGW "property" = some (.ref fGW :: restGW))
    (lGW : K.lookup fGW = some ⟨ocGW, odGW, .func (PySem.W.fnOf "width" "Rows.width" (defArgs sGetW) (defBody sGetW) (defScope sGetW) .none kVGW dcGW pmGW anGW cdGW ctGW), slGW⟩)
    (cGW : PySem.W.codeIn K cdGW "Rows.width" = true)
    (kGW : PySem.W.keepIn K (.ref fGW) = true)
    {odLA anLA : Option Addr} {slLA : Array (Option Value)} {ocLA kVLA dcLA pmLA ctLA : Value}
    (aLA : PySem.W.nsIn K mainGlobals "law" = some (some (.ref fLA)))
    (lLA : K.lookup fLA = some ⟨ocLA, odLA, .func (PySem.W.fnOf "law" "law" (defArgs sLaw) (defBody sLaw) (defScope sLaw) .none kVLA dcLA pmLA anLA (.ref cda) ctLA), slLA⟩)
    (cLA : PySem.W.codeIn K (.ref cda) "law" = true)
    {cdd : Option Addr} {vs : Array Value} {ccs : Array (Option Value)} {file : Str} {tf tg tt : Tok} {flags text : Int} {inF : Bool}
    (lc : K.lookup cda = some ⟨.type "code", cdd, .fields vs, ccs⟩)
    (v11 : vs[11]? = some (.ref pt))
    (w11 : vs.getD 11 .none = .ref pt)
    (w18 : vs.getD 18 .none = .str file tf)
    (w7 : vs.getD 7 .none = .int flags tg)
    (w9 : vs.getD 9 .none = .bool inF)
    (w10 : vs.getD 10 .none = .int text tt)
    (ne : cda ≠ pt)
    (nK : K.lookup pt = none)
    (tab : h.get? pt = some { cls := .none, data := .fields #[] })
    {dNx : FuncData}
    (MNx : Made K P mg "NoRow" "row" CNx fNx dNx)
    {dBx : FuncData}
    (MBx : Made K P mg "BadLot" "place" CBx fBx dBx)
    {dTx : FuncData}
    (MTx : Made K P mg "BadTables" "place" CTx fTx dTx)
    {dZx : FuncData}
    (MZx : Made K P mg "BadSizes" "place" CZx fZx dZx)
    (sB : PySem.W.subIn K (.ref CBx) (.ref CBx) = some true)
    (haC : PySem.W.findIn K (.ref C) "__class__" = some (some (.builtin "object.__class__")))
    (hnC : PySem.W.specialIn K (.builtin "object.__class__") "__get__" = some (some (.builtin "getset_descriptor.__get__")))
    (tkC : PySem.W.takesIn K (.builtin "object.__class__") = some true)
    (hmC : PySem.W.mroIn K C (.type "object") = some true)
    (ktNoneType : PySem.W.kitOne K (.type "NoneType") (.ref C) = some false)
    (ktbool : PySem.W.kitOne K (.type "bool") (.ref C) = some false)
    (ktint : PySem.W.kitOne K (.type "int") (.ref C) = some false)
    (ktstr : PySem.W.kitOne K (.type "str") (.ref C) = some false)
    (ktlist : PySem.W.kitOne K (.type "list") (.ref C) = some false)
    (kttuple : PySem.W.kitOne K (.type "tuple") (.ref C) = some false)
    (ktdict : PySem.W.kitOne K (.type "dict") (.ref C) = some false)
    (aGC : PySem.W.nsIn K mainGlobals "gcd" = some (some (.builtin "math.gcd")))
    {odF : Option Addr} {itF : Array Value} {nF : Nat} {slF : Array (Option Value)}
    (aFI : PySem.W.nsIn K mainGlobals "FIELDS" = some (some (.ref aF)))
    (lFI : K.lookup aF = some ⟨.type "tuple", odF, .seq itF nF, slF⟩)
    (vFI : Vals (fields.map V.int) itF.toList)
    (zlen : PySem.W.nsIn K mainGlobals "len" = some none)
    (zsum : PySem.W.nsIn K mainGlobals "sum" = some none)
    (zany : PySem.W.nsIn K mainGlobals "any" = some none)
    (zall : PySem.W.nsIn K mainGlobals "all" = some none)
    (zmin : PySem.W.nsIn K mainGlobals "min" = some none)
    (zmax : PySem.W.nsIn K mainGlobals "max" = some none)
    (zabs : PySem.W.nsIn K mainGlobals "abs" = some none)
    (zsorted : PySem.W.nsIn K mainGlobals "sorted" = some none)
    (zisinstance : PySem.W.nsIn K mainGlobals "isinstance" = some none)
    (zlist : PySem.W.nsIn K mainGlobals "list" = some none)
    (ztuple : PySem.W.nsIn K mainGlobals "tuple" = some none)
    (zint : PySem.W.nsIn K mainGlobals "int" = some none)
    (zset : PySem.W.nsIn K mainGlobals "set" = some none)
    (zbool : PySem.W.nsIn K mainGlobals "bool" = some none)
    (zstr : PySem.W.nsIn K mainGlobals "str" = some none)
    (zdict : PySem.W.nsIn K mainGlobals "dict" = some none)
    (zrange : PySem.W.nsIn K mainGlobals "range" = some none)
    (zenumerate : PySem.W.nsIn K mainGlobals "enumerate" = some none)
    (zzip : PySem.W.nsIn K mainGlobals "zip" = some none) :
    ∃ (fd : FuncData) (cs : List (Addr × Addr)) (sp : Sp), ((∀ p ∈ cs, h.get? p.2 = some { cls := .none, data := .fields #[] }) ∧ (∀ p ∈ cs, K.lookup p.2 = none) ∧ ∀ p ∈ cs, PySem.W.CodeHd h p.1 p.2) ∧ (∀ (s : Shared) (u : Value), BindsTo s fd ⟨[u], []⟩ [("_law_script", u)]) ∧
      (∀ (H : Hp) (a : Addr) (ns : List Int), ns.length ≤ 63 → (∀ p ∈ cs, H p.2 = some (.tbl #[])) → SqL K H a (ns.map V.int) → sp [.ref a] H (fun v _ => v = .bl true) fun _ _ _ => False) ∧
      ∀ base : Heap, K.In base → base.Ns mainGlobals mg → (∀ p ∈ cs, LamX.TabB base mg p.1 p.2) → FnOkG P w K mg base CX0 12 fa fd ["_law_script"] sp := by
  have FS := fun_mk (st := sSource) lS cS kS
  have bS := FS.binds (ps := ["_law_script"]) fun _ _ _ _ _ _ us hl => match us, hl with | [_], _ => rfl
  have gS := PySem.W.mg_of X G aS
  have FD := fun_mk (st := sDraw) lD cD kD
  have bD := FD.binds (ps := ["_law_source_here", "_law_many"]) fun _ _ _ _ _ _ us hl => match us, hl with | [_, _], _ => rfl
  have gD := PySem.W.mg_of X G aD
  have FP := fun_mk (st := sPick) lP cP kP
  have bP := FP.binds (ps := ["_law_source_here", "_law_things"]) fun _ _ _ _ _ _ us hl => match us, hl with | [_, _], _ => rfl
  have gP := PySem.W.mg_of X G aP
  have FSU := fun_mk (st := sSubset) lSU cSU kSU
  have bSU := FSU.binds (ps := ["_law_source_here", "_law_row"]) fun _ _ _ _ _ _ us hl => match us, hl with | [_, _], _ => rfl
  have gSU := PySem.W.mg_of X G aSU
  have FSO := fun_mk (st := sSomeLot) lSO cSO kSO
  have bSO := FSO.binds (ps := ["_law_source_here", "_law_many"]) fun _ _ _ _ _ _ us hl => match us, hl with | [_, _], _ => rfl
  have gSO := PySem.W.mg_of X G aSO
  have FTR := fun_mk (st := sTried) lTR cTR kTR
  have bTR := FTR.binds (ps := ["_law_job"]) fun _ _ _ _ _ _ us hl => match us, hl with | [_], _ => rfl
  have gTR := PySem.W.mg_of X G aTR
  have FBD := fun_mk (st := sBad) lBD cBD kBD
  have bBD := FBD.binds (ps := ["_law_lot", "_law_many"]) fun _ _ _ _ _ _ us hl => match us, hl with | [_, _], _ => rfl
  have gBD := PySem.W.mg_of X G aBD
  have FLF := fun_mk (st := sLField) lLF cLF kLF
  have bLF := FLF.binds (ps := ["_law_source_here"]) fun _ _ _ _ _ _ us hl => match us, hl with | [_], _ => rfl
  have gLF := PySem.W.mg_of X G aLF
  have FLR := fun_mk (st := sLRows) lLR cLR kLR
  have bLR := FLR.binds (ps := ["_law_source_here", "_law_width", "_law_many"]) fun _ _ _ _ _ _ us hl => match us, hl with | [_, _, _], _ => rfl
  have gLR := PySem.W.mg_of X G aLR
  have FLT := fun_mk (st := sLTable) lLT cLT kLT
  have bLT := FLT.binds (ps := ["_law_source_here", "_law_most_width", "_law_most"]) fun _ _ _ _ _ _ us hl => match us, hl with | [_, _, _], _ => rfl
  have gLT := PySem.W.mg_of X G aLT
  have FLM := fun_mk (st := sLMade) lLM cLM kLM
  have bLM := FLM.binds (ps := ["_law_parts"]) fun _ _ _ _ _ _ us hl => match us, hl with | [_], _ => rfl
  have gLM := PySem.W.mg_of X G aLM
  have FWH := fun_mk (st := sWhole) lWH cWH kWH
  have bWH := FWH.binds (ps := ["value"]) fun _ _ _ _ _ _ us hl => match us, hl with | [_], _ => rfl
  have gWH := PySem.W.mg_of X G aWH
  have FLI := fun_mk (st := sList) lLI cLI kLI
  have bLI := FLI.binds (ps := ["value"]) fun _ _ _ _ _ _ us hl => match us, hl with | [_], _ => rfl
  have gLI := PySem.W.mg_of X G aLI
  have FFD := fun_mk (st := sField) lFD cFD kFD
  have bFD := FFD.binds (ps := ["value"]) fun _ _ _ _ _ _ us hl => match us, hl with | [_], _ => rfl
  have gFD := PySem.W.mg_of X G aFD
  have FRW := fun_mk (st := sRow) lRW cRW kRW
  have bRW := FRW.binds (ps := ["value"]) fun _ _ _ _ _ _ us hl => match us, hl with | [_], _ => rfl
  have gRW := PySem.W.mg_of X G aRW
  have FFA := fun_mk (st := sFault) lFA cFA kFA
  have bFA := FFA.binds (ps := ["rows"]) fun _ _ _ _ _ _ us hl => match us, hl with | [_], _ => rfl
  have gFA := PySem.W.mg_of X G aFA
  have FIN := fun_mk (st := sIsInt) lIN cIN kIN
  have bIN := FIN.binds (ps := ["value", "low", "high"]) fun _ _ _ _ _ _ us hl => match us, hl with | [_, _, _], _ => rfl
  have gIN := PySem.W.mg_of X G aIN
  have FTO := fun_mk (st := sTold) lTO cTO kTO
  have bTO := FTO.binds (ps := ["row", "field"]) fun _ _ _ _ _ _ us hl => match us, hl with | [_, _], _ => rfl
  have gTO := PySem.W.mg_of X G aTO
  have FLX := fun_mk (st := sLotFault) lLX cLX kLX
  have bLX := FLX.binds (ps := ["lot", "many"]) fun _ _ _ _ _ _ us hl => match us, hl with | [_, _], _ => rfl
  have gLX := PySem.W.mg_of X G aLX
  have FCL := fun_mk (st := sCheckLot) lCL cCL kCL
  have bCL := FCL.binds (ps := ["lot", "many"]) fun _ _ _ _ _ _ us hl => match us, hl with | [_, _], _ => rfl
  have gCL := PySem.W.mg_of X G aCL
  have FGO := fun_mk (st := sGaugeOf) lGO cGO kGO
  have bGO := FGO.binds (ps := ["table", "lot"]) fun _ _ _ _ _ _ us hl => match us, hl with | [_, _], _ => rfl
  have gGO := PySem.W.mg_of X G aGO
  have FCT := fun_mk (st := sChkT) lCT cCT kCT
  have bCT := FCT.binds (ps := ["tables"]) fun _ _ _ _ _ _ us hl => match us, hl with | [_], _ => rfl
  have gCT := PySem.W.mg_of X G aCT
  have FCS := fun_mk (st := sChkS) lCS cCS kCS
  have bCS := FCS.binds (ps := ["tables", "sizes"]) fun _ _ _ _ _ _ us hl => match us, hl with | [_, _], _ => rfl
  have gCS := PySem.W.mg_of X G aCS
  have FBO := fun_mk (st := sBound) lBO cBO kBO
  have bBO := FBO.binds (ps := ["tables", "sizes", "lot"]) fun _ _ _ _ _ _ us hl => match us, hl with | [_, _, _], _ => rfl
  have gBO := PySem.W.mg_of X G aBO
  have gMT := PySem.W.mg_of X G aMT
  have gMS := PySem.W.mg_of X G aMS
  have FDV := fun_mk (st := sDivisor) lDV cDV kDV
  have bDV := FDV.binds (ps := ["numbers"]) fun _ _ _ _ _ _ us hl => match us, hl with | [_], _ => rfl
  have gDV := PySem.W.mg_of X G aDV
  have FPL := fun_mk (st := sPlain) lPL cPL kPL
  have bPL := FPL.binds (ps := ["shares", "field"]) fun _ _ _ _ _ _ us hl => match us, hl with | [_, _], _ => rfl
  have gPL := PySem.W.mg_of X G aPL
  have FIV := fun_mk (st := sInv) lIV cIV kIV
  have bIV := FIV.binds (ps := ["number", "prime"]) fun _ _ _ _ _ _ us hl => match us, hl with | [_, _], _ => rfl
  have gIV := PySem.W.mg_of X G aIV
  have gMR := PySem.W.mg_of X G aMR
  have gMW := PySem.W.mg_of X G aMW
  have gC := PySem.W.mg_of X G aC
  have clC : Cls K C := ⟨pgC, hdC, poC, saC⟩
  have gCG := PySem.W.mg_of X G aCG
  have clCG : Cls K CG := ⟨pgCG, hdCG, poCG, saCG⟩
  have FII : FunD K "__init__" "Rows.__init__" sInit fII (PySem.W.fnOf "__init__" "Rows.__init__" (defArgs sInit) (defBody sInit) (defScope sInit) (.ref TII) kVII dcII pmII anII cdII ctII) := ⟨⟨ocII, odII, .ref TII, kVII, dcII, pmII, anII, cdII, ctII, slII, rfl, lII, cII⟩⟩
  have bII : Binds K (PySem.W.fnOf "__init__" "Rows.__init__" (defArgs sInit) (defBody sInit) (defScope sInit) (.ref TII) kVII dcII pmII anII cdII ctII) ["self", "rows", "field"] [] := bind_dflt lTII rfl fun us hl => match us, hl with | [_, _, _], _ => ⟨_, rfl, rfl⟩
  have mII : Meth K C "__init__" fII := ⟨aII, iII, kII⟩
  have FRA := fun_mk (st := sRowAt) lRA cRA kRA
  have bRA := FRA.binds (ps := ["self", "row"]) fun _ _ _ _ _ _ us hl => match us, hl with | [_, _], _ => rfl
  have mRA : Meth K C "row_at" fRA := ⟨aRA, iRA, kRA⟩
  have FLE := fun_mk (st := sLen) lLE cLE kLE
  have bLE := FLE.binds (ps := ["self"]) fun _ _ _ _ _ _ us hl => match us, hl with | [_], _ => rfl
  have mLE : Meth K C "__len__" fLE := ⟨aLE, iLE, kLE⟩
  have FRK := fun_mk (st := sRank) lRK cRK kRK
  have bRK := FRK.binds (ps := ["self", "lot"]) fun _ _ _ _ _ _ us hl => match us, hl with | [_, _], _ => rfl
  have mRK : Meth K C "rank" fRK := ⟨aRK, iRK, kRK⟩
  have FIF := fun_mk (st := sIsFree) lIF cIF kIF
  have bIF := FIF.binds (ps := ["self", "lot"]) fun _ _ _ _ _ _ us hl => match us, hl with | [_, _], _ => rfl
  have mIF : Meth K C "is_free" fIF := ⟨aIF, iIF, kIF⟩
  have FHU := fun_mk (st := sHull) lHU cHU kHU
  have bHU := FHU.binds (ps := ["self", "lot"]) fun _ _ _ _ _ _ us hl => match us, hl with | [_, _], _ => rfl
  have mHU : Meth K C "hull" fHU := ⟨aHU, iHU, kHU⟩
  have FRI := fun_mk (st := sRing) lRI cRI kRI
  have bRI := FRI.binds (ps := ["self", "lot"]) fun _ _ _ _ _ _ us hl => match us, hl with | [_, _], _ => rfl
  have mRI : Meth K C "ring" fRI := ⟨aRI, iRI, kRI⟩
  have FQI := fun_mk (st := sGInit) lQI cQI kQI
  have bQI := FQI.binds (ps := ["self", "width", "field"]) fun _ _ _ _ _ _ us hl => match us, hl with | [_, _, _], _ => rfl
  have mQI : Meth K CG "__init__" fQI := ⟨aQI, iQI, kQI⟩
  have FQS := fun_mk (st := sGShares) lQS cQS kQS
  have bQS := FQS.binds (ps := ["self", "numbers"]) fun _ _ _ _ _ _ us hl => match us, hl with | [_, _], _ => rfl
  have mQS : Meth K CG "_shares" fQS := ⟨aQS, iQS, kQS⟩
  have FQL := fun_mk (st := sGLacking) lQL cQL kQL
  have bQL := FQL.binds (ps := ["self", "shares"]) fun _ _ _ _ _ _ us hl => match us, hl with | [_, _], _ => rfl
  have mQL : Meth K CG "_lacking" fQL := ⟨aQL, iQL, kQL⟩
  have FQU := fun_mk (st := sGTurned) lQU cQU kQU
  have bQU := FQU.binds (ps := ["self", "column", "share", "pivot", "size"]) fun _ _ _ _ _ _ us hl => match us, hl with | [_, _, _, _, _], _ => rfl
  have mQU : Meth K CG "_turned" fQU := ⟨aQU, iQU, kQU⟩
  have FQT := fun_mk (st := sGTake) lQT cQT kQT
  have bQT := FQT.binds (ps := ["self", "row", "numbers"]) fun _ _ _ _ _ _ us hl => match us, hl with | [_, _, _], _ => rfl
  have mQT : Meth K CG "take" fQT := ⟨aQT, iQT, kQT⟩
  have FQM := fun_mk (st := sGMany) lQM cQM kQM
  have bQM := FQM.binds (ps := ["self"]) fun _ _ _ _ _ _ us hl => match us, hl with | [_], _ => rfl
  have mQM : Meth K CG "many" fQM := ⟨aQM, iQM, kQM⟩
  have FQK := fun_mk (st := sGMakers) lQK cQK kQK
  have bQK := FQK.binds (ps := ["self", "numbers"]) fun _ _ _ _ _ _ us hl => match us, hl with | [_, _], _ => rfl
  have mQK : Meth K CG "makers" fQK := ⟨aQK, iQK, kQK⟩
  have FGF := fun_mk (st := sGetF) lGF cGF kGF
  have bGF := FGF.binds (ps := ["self"]) fun _ _ _ _ _ _ us hl => match us, hl with | [_], _ => rfl
  have qGF : PropOf K C "field" pGF fGF := ⟨atGF, gtGF, tkGF, ⟨_, rcGF⟩⟩
  have FGW := fun_mk (st := sGetW) lGW cGW kGW
  have bGW := FGW.binds (ps := ["self"]) fun _ _ _ _ _ _ us hl => match us, hl with | [_], _ => rfl
  have qGW : PropOf K C "width" pGW fGW := ⟨atGW, gtGW, tkGW, ⟨_, rcGW⟩⟩
  have gLA := PySem.W.mg_of X G aLA
  have gGC := PySem.W.mg_of X G aGC
  have gFI := PySem.W.mg_of X G aFI
  have tFI : ∀ H, SqT K H aF (fields.map V.int) := fun H => .inr ⟨_, itF, nF, lFI, rfl, rfl, by show itF.toList.length ≤ sizeLine; rw [← vFI.length]; decide, vFI⟩
  have ylen := PySem.W.mg_none_of X G zlen
  have ysum := PySem.W.mg_none_of X G zsum
  have yany := PySem.W.mg_none_of X G zany
  have yall := PySem.W.mg_none_of X G zall
  have ymin := PySem.W.mg_none_of X G zmin
  have ymax := PySem.W.mg_none_of X G zmax
  have yabs := PySem.W.mg_none_of X G zabs
  have ysorted := PySem.W.mg_none_of X G zsorted
  have yisinstance := PySem.W.mg_none_of X G zisinstance
  have ylist := PySem.W.mg_none_of X G zlist
  have ytuple := PySem.W.mg_none_of X G ztuple
  have yint := PySem.W.mg_none_of X G zint
  have yset := PySem.W.mg_none_of X G zset
  have ybool := PySem.W.mg_none_of X G zbool
  have ystr := PySem.W.mg_none_of X G zstr
  have ydict := PySem.W.mg_none_of X G zdict
  have yrange := PySem.W.mg_none_of X G zrange
  have yenumerate := PySem.W.mg_none_of X G zenumerate
  have yzip := PySem.W.mg_none_of X G zzip
  have e := hfa.symm.trans gLA; cases e
  have N : Nm mg := ⟨yisinstance, yint, ybool, ylist, ytuple, ylen, yall, yenumerate, ystr, yrange⟩
  have NG : NmG mg := ⟨N, ysum, yzip⟩
  have T : RTxt K mg C := ⟨clC, nC_field, nC_rows, nC_width, gC⟩
  have TG : GTxt K mg CG := ⟨clCG, nCGscale, nCG_prime, nCG_columns, nCG_held, gCG⟩
  have M : Mk K C fII := ⟨mkC, aII, iII, kcC⟩
  have MG : Mk K CG fQI := ⟨mkCG, aQI, iQI, kcCG⟩
  have Nz : ∀ x ∈ blts, mg x = none := by
    intro x hx
    simp only [blts, List.mem_cons, List.not_mem_nil, or_false] at hx
    rcases hx with rfl | rfl | rfl | rfl | rfl | rfl | rfl | rfl | rfl | rfl | rfl | rfl | rfl | rfl | rfl | rfl | rfl | rfl | rfl <;> assumption
  have CF : ClsFacts K C := ⟨clC, haC, hnC, tkC, hmC, fun x t e => by
    cases x <;> cases e <;> assumption⟩
  have hd : PySem.W.CodeHd h cda pt := ⟨_, vs, file, tf, flags, tg, inF, text, tt, X _ _ lc, rfl, rfl, v11, w11, w18, w7, w9, w10, ne⟩
  refine ⟨PySem.W.fnOf "law" "law" (defArgs sLaw) (defBody sLaw) (defScope sLaw) .none kVLA dcLA pmLA anLA (.ref cda) ctLA, [(cda, pt)], spLaw K pt, ⟨fun p m => by rw [List.mem_singleton.mp m]; exact tab, fun p m => by rw [List.mem_singleton.mp m]; exact nK, fun p m => by rw [List.mem_singleton.mp m]; exact hd⟩, fun s v => .of_eq rfl, fun H a ns _ hT hS => ⟨a, ns, rfl, hS, hT (cda, pt) (.head _), fun _ => rfl⟩, fun base _ _ hTB => ?_⟩
  have TB := hTB (cda, pt) (.head _)
  have GS := ok_source (P := P) (w := w) (base := base) FS yint
  have GD := ok_draw (P := P) (w := w) (base := base) FD yint
  have GP := ok_pick (P := P) (w := w) (base := base) FP GD gD kD bD ylen
  have GLF := ok_lfield (P := P) (w := w) (base := base) FLF GD kD bD gD
  have GLR := ok_lrows (P := P) (w := w) (base := base) FLR N GD kD bD gD GP kP bP gP
  have GLT := ok_ltable (P := P) (w := w) (base := base) FLT GD kD bD gD GLF kLF bLF gLF GLR kLR bLR gLR
  have GFD := ok_field (P := P) (w := w) (base := base) FFD FWH bWH gWH N gFI tFI
  have GRW := ok_row (P := P) (w := w) (base := base) FRW FWH bWH gWH FLI bLI gLI N gMW
  have GFA := ok_fault (P := P) (w := w) (base := base) FFA GRW kRW bRW gRW FLI bLI gLI N gMR
  have GTO := ok_told (P := P) (w := w) (base := base) FTO N
  have GII := ok_init0 (P := P) (w := w) (base := base) FII T N GFD kFD bFD gFD GFA kFA bFA gFA GTO kTO bTO gTO
  have GLM := ok_lmade (P := P) (w := w) (base := base) FLM T M GII bII
  have GWH := ok_wholeA (P := P) (w := w) (base := base) FWH N
  have GIN := ok_intA (P := P) (w := w) (base := base) FIN GWH kWH bWH gWH
  have GIV := ok_inv (mg := mg) (P := P) (w := w) (base := base) FIV
  have GQI := ok_ginit (P := P) (w := w) (base := base) FQI NG TG
  have GQS := ok_gshares (P := P) (w := w) (base := base) FQS NG TG
  have GQL := ok_glack (P := P) (w := w) (base := base) FQL NG TG
  have GQU := ok_gturned (P := P) (w := w) (base := base) FQU NG TG GIV kIV bIV gIV
  have GQT := ok_gtake (P := P) (w := w) (base := base) FQT NG TG GQS mQS bQS GQL mQL bQL GQU mQU bQU
  have GQM := ok_gmany (P := P) (w := w) (base := base) FQM NG TG
  have GQK := ok_gmakers (P := P) (w := w) (base := base) FQK NG TG GQS mQS bQS GQL mQL bQL
  have GRA := ok_rowat (P := P) (w := w) (base := base) FRA N T MNx GIN kIN bIN gIN
  have GGF := ok_getF (P := P) (w := w) (base := base) FGF T
  have GGW := ok_getW (P := P) (w := w) (base := base) FGW T
  have GFN : GFns P w K mg base CG fQI fQT fQM fQK _ _ _ _ := ⟨TG, MG, GQI, bQI, GQT, mQT, bQT, GQM, mQM, bQM, GQK, mQK, bQK⟩
  have RFN : RFns P w K mg base C CNx fRA fGF fGW pGF pGW _ _ _ := ⟨T, GRA, mRA, bRA, GGF, bGF, qGF, GGW, bGW, qGW⟩
  have GGO := ok_gaugeof (P := P) (w := w) (base := base) FGO GFN RFN
  have GLI := ok_listL (P := P) (w := w) (base := base) FLI N
  have GLX := ok_lotfault (P := P) (w := w) (base := base) FLX N GLI kLI bLI gLI GIN kIN bIN gIN
  have GCL := ok_checklot (P := P) (w := w) (base := base) FCL MBx GLX kLX bLX gLX
  have GDV := ok_divisor (P := P) (w := w) (base := base) FDV gGC
  have GPL := ok_plain (P := P) (w := w) (base := base) FPL ysorted GIV kIV bIV gIV GDV kDV bDV gDV
  have GRI := ok_ring (P := P) (w := w) (base := base) FRI N T GFN GCL kCL bCL gCL GPL kPL bPL gPL
  have GLE := ok_len (P := P) (w := w) (base := base) FLE N T
  have GRK := ok_rank (P := P) (w := w) (base := base) FRK N GFN RFN GCL kCL bCL gCL GGO kGO bGO gGO
  have GIF := ok_isfree (P := P) (w := w) (base := base) FIF N GFN RFN GCL kCL bCL gCL GGO kGO bGO gGO
  have GHU := ok_hull (P := P) (w := w) (base := base) FHU N GFN RFN GCL kCL bCL gCL GGO kGO bGO gGO
  have L_len : LenF P w K mg base C (LenIs C) := ⟨⟨_, _, GLE, aLE, iLE, bLE⟩, fun H a fl nss h => ⟨fl, nss, h, rfl⟩⟩
  have DD := DefP.of (M := ⟨K, w, C, [(pt, "law.<locals>.<lambda>")]⟩) GD kD bD gD fun E => pr_draw
  have DP := DefP.of (M := ⟨K, w, C, [(pt, "law.<locals>.<lambda>")]⟩) GP kP bP gP fun E => pr_pick
  have DT := DefP.of (M := ⟨K, w, C, [(pt, "law.<locals>.<lambda>")]⟩) GLT kLT bLT gLT fun E => pr_table
  have DM := DefP.of (M := ⟨K, w, C, [(pt, "law.<locals>.<lambda>")]⟩) GLM kLM bLM gLM fun E => pr_made
  have DSU := d_subset (P := P) (w := w) (base := base) ⟨⟨_, _, FSU, bSU, gSU⟩⟩ Nz DD
  have DSO := d_some_lot (P := P) (w := w) (base := base) ⟨⟨_, _, FSO, bSO, gSO⟩⟩ Nz DSU
  have DBD := d_bad (P := P) (w := w) (base := base) (C := C) (T := [(pt, "law.<locals>.<lambda>")]) ⟨⟨_, _, FBD, bBD, gBD⟩⟩ Nz
  have DIL := d_is_list (P := P) (w := w) (base := base) (C := C) (T := [(pt, "law.<locals>.<lambda>")]) ⟨⟨_, _, FLI, bLI, gLI⟩⟩ Nz
  have DIN := DefP.of (M := ⟨K, w, C, [(pt, "law.<locals>.<lambda>")]⟩) GIN kIN bIN gIN fun E => pr_isint
  have DCL := DefP.of (M := ⟨K, w, C, [(pt, "law.<locals>.<lambda>")]⟩) GCL kCL bCL gCL fun E => pr_checklot
  have DCT := d_check_tables ⟨⟨_, _, FCT, bCT, gCT⟩⟩ Nz DIL CF L_len MTx gMT gC
  have DCS := d_check_sizes ⟨⟨_, _, FCS, bCS, gCS⟩⟩ Nz DIL DIN MZx gMS
  have KRK : MetP P w K mg base ⟨K, w, C, [(pt, "law.<locals>.<lambda>")]⟩ (L2.CX P w) 5 "rank" ["self", "lot"] (rLot CBx 8000 ansRank) := ⟨clC, _, _, _, GRK, mRK, bRK, fun E => pr_rank⟩
  have KIF : MetP P w K mg base ⟨K, w, C, [(pt, "law.<locals>.<lambda>")]⟩ (L2.CX P w) 5 "is_free" ["self", "lot"] (rLot CBx 8000 ansFree) := ⟨clC, _, _, _, GIF, mIF, bIF, fun E => pr_isfree⟩
  have KHU : MetP P w K mg base ⟨K, w, C, [(pt, "law.<locals>.<lambda>")]⟩ (L2.CX P w) 5 "hull" ["self", "lot"] (rLot CBx 8000 ansHull) := ⟨clC, _, _, _, GHU, mHU, bHU, fun E => pr_hull⟩
  have KRI : MetP P w K mg base ⟨K, w, C, [(pt, "law.<locals>.<lambda>")]⟩ (L2.CX P w) 5 "ring" ["self", "lot"] (rLot CBx 800 ansRing) := ⟨clC, _, _, _, GRI, mRI, bRI, fun E => pr_ring⟩
  have DBO := d_bound ⟨⟨_, _, FBO, bBO, gBO⟩⟩ Nz DCT DCS DCL KRK L_len
  exact ok_law lLA cLA TB lTR cTR kTR gTR bTR MBx (MBx.exm sB) Nz GS kS bS gS DD DP DT DM DSO DBD DBO KRK KIF KHU KRI
end My
open PySem PySem.W PyProof.Rows in
set_option maxRecDepth 100000 in
set_option maxHeartbeats 0 in
theorem PySem.Challenge.cw_freelots_k07_lots_refused_holds : PySem.Challenge.rw_freelots_k07_lots_refused.Holds := by
  w_on; o_law; k_head; (case hw => w_witness2)
  k_fill
  refine My.walkG (l := PySem.Challenge.rw_freelots_k07_lots_refused) (n := 63) (k := 12) (x := "_law_script") (CX := fun _ => L2.CX0) rfl (by decide) rfl ⟨rfl, by decide, by decide⟩ (fun w h Y => PySem.W.km_in_of Y) ?F (fun _ _ _ _ _ h => h)
  case F =>
    intro w mg fa h Y KX G hmg
    refine' My.all_mk KX G hmg ?aS ?lS ?cS ?kS ?aD ?lD ?cD ?kD ?aP ?lP ?cP ?kP ?aSU ?lSU ?cSU ?kSU ?aSO ?lSO ?cSO ?kSO ?aTR ?lTR ?cTR ?kTR ?aBD ?lBD ?cBD ?kBD ?aLF ?lLF ?cLF ?kLF ?aLR ?lLR ?cLR ?kLR ?aLT ?lLT ?cLT ?kLT ?aLM ?lLM ?cLM ?kLM ?aWH ?lWH ?cWH ?kWH ?aLI ?lLI ?cLI ?kLI ?aFD ?lFD ?cFD ?kFD ?aRW ?lRW ?cRW ?kRW ?aFA ?lFA ?cFA ?kFA ?aIN ?lIN ?cIN ?kIN ?aTO ?lTO ?cTO ?kTO ?aLX ?lLX ?cLX ?kLX ?aCL ?lCL ?cCL ?kCL ?aGO ?lGO ?cGO ?kGO ?aCT ?lCT ?cCT ?kCT ?aCS ?lCS ?cCS ?kCS ?aBO ?lBO ?cBO ?kBO ?aMT ?aMS ?aDV ?lDV ?cDV ?kDV ?aPL ?lPL ?cPL ?kPL ?aIV ?lIV ?cIV ?kIV ?aMR ?aMW ?aC ?pgC ?hdC ?poC ?saC ?mkC ?kcC ?nC_field ?nC_rows ?nC_width ?aCG ?pgCG ?hdCG ?poCG ?saCG ?mkCG ?kcCG ?nCGscale ?nCG_prime ?nCG_columns ?nCG_held ?aII ?iII ?lII ?cII ?lTII ?kII ?aRA ?iRA ?lRA ?cRA ?kRA ?aLE ?iLE ?lLE ?cLE ?kLE ?aRK ?iRK ?lRK ?cRK ?kRK ?aIF ?iIF ?lIF ?cIF ?kIF ?aHU ?iHU ?lHU ?cHU ?kHU ?aRI ?iRI ?lRI ?cRI ?kRI ?aQI ?iQI ?lQI ?cQI ?kQI ?aQS ?iQS ?lQS ?cQS ?kQS ?aQL ?iQL ?lQL ?cQL ?kQL ?aQU ?iQU ?lQU ?cQU ?kQU ?aQT ?iQT ?lQT ?cQT ?kQT ?aQM ?iQM ?lQM ?cQM ?kQM ?aQK ?iQK ?lQK ?cQK ?kQK ?atGF ?gtGF ?tkGF ?rcGF ?lGF ?cGF ?kGF ?atGW ?gtGW ?tkGW ?rcGW ?lGW ?cGW ?kGW ?aLA ?lLA ?cLA ?lc ?v11 ?w11 ?w18 ?w7 ?w9 ?w10 ?ne ?nK ?tab ?MNx ?MBx ?MTx ?MZx ?sB ?haC ?hnC ?tkC ?hmC ?ktNoneType ?ktbool ?ktint ?ktstr ?ktlist ?kttuple ?ktdict ?aGC ?aFI ?lFI ?vFI ?zlen ?zsum ?zany ?zall ?zmin ?zmax ?zabs ?zsorted ?zisinstance ?zlist ?ztuple ?zint ?zset ?zbool ?zstr ?zdict ?zrange ?zenumerate ?zzip
    (case aS => k_is)
    (case lS => k_is)
    (case cS => k_is)
    (case kS => k_is)
    (case aD => k_is)
    (case lD => k_is)
    (case cD => k_is)
    (case kD => k_is)
    (case aP => k_is)
    (case lP => k_is)
    (case cP => k_is)
    (case kP => k_is)
    (case aSU => k_is)
    (case lSU => k_is)
    (case cSU => k_is)
    (case kSU => k_is)
    (case aSO => k_is)
    (case lSO => k_is)
    (case cSO => k_is)
    (case kSO => k_is)
    (case aTR => k_is)
    (case lTR => k_is)
    (case cTR => k_is)
    (case kTR => k_is)
    (case aBD => k_is)
    (case lBD => k_is)
    (case cBD => k_is)
    (case kBD => k_is)
    (case aLF => k_is)
    (case lLF => k_is)
    (case cLF => k_is)
    (case kLF => k_is)
    (case aLR => k_is)
    (case lLR => k_is)
    (case cLR => k_is)
    (case kLR => k_is)
    (case aLT => k_is)
    (case lLT => k_is)
    (case cLT => k_is)
    (case kLT => k_is)
    (case aLM => k_is)
    (case lLM => k_is)
    (case cLM => k_is)
    (case kLM => k_is)
    (case aWH => k_is)
    (case lWH => k_is)
    (case cWH => k_is)
    (case kWH => k_is)
    (case aLI => k_is)
    (case lLI => k_is)
    (case cLI => k_is)
    (case kLI => k_is)
    (case aFD => k_is)
    (case lFD => k_is)
    (case cFD => k_is)
    (case kFD => k_is)
    (case aRW => k_is)
    (case lRW => k_is)
    (case cRW => k_is)
    (case kRW => k_is)
    (case aFA => k_is)
    (case lFA => k_is)
    (case cFA => k_is)
    (case kFA => k_is)
    (case aIN => k_is)
    (case lIN => k_is)
    (case cIN => k_is)
    (case kIN => k_is)
    (case aTO => k_is)
    (case lTO => k_is)
    (case cTO => k_is)
    (case kTO => k_is)
    (case aLX => k_is)
    (case lLX => k_is)
    (case cLX => k_is)
    (case kLX => k_is)
    (case aCL => k_is)
    (case lCL => k_is)
    (case cCL => k_is)
    (case kCL => k_is)
    (case aGO => k_is)
    (case lGO => k_is)
    (case cGO => k_is)
    (case kGO => k_is)
    (case aCT => k_is)
    (case lCT => k_is)
    (case cCT => k_is)
    (case kCT => k_is)
    (case aCS => k_is)
    (case lCS => k_is)
    (case cCS => k_is)
    (case kCS => k_is)
    (case aBO => k_is)
    (case lBO => k_is)
    (case cBO => k_is)
    (case kBO => k_is)
    (case aMT => k_is)
    (case aMS => k_is)
    (case aDV => k_is)
    (case lDV => k_is)
    (case cDV => k_is)
    (case kDV => k_is)
    (case aPL => k_is)
    (case lPL => k_is)
    (case cPL => k_is)
    (case kPL => k_is)
    (case aIV => k_is)
    (case lIV => k_is)
    (case cIV => k_is)
    (case kIV => k_is)
    (case aMR => k_is)
    (case aMW => k_is)
    (case aC => k_is)
    (case pgC => k_is)
    (case hdC => k_is)
    (case poC => k_is)
    (case saC => k_is)
    (case mkC => k_is)
    (case kcC => k_is)
    (case nC_field => k_is)
    (case nC_rows => k_is)
    (case nC_width => k_is)
    (case aCG => k_is)
    (case pgCG => k_is)
    (case hdCG => k_is)
    (case poCG => k_is)
    (case saCG => k_is)
    (case mkCG => k_is)
    (case kcCG => k_is)
    (case nCGscale => k_is)
    (case nCG_prime => k_is)
    (case nCG_columns => k_is)
    (case nCG_held => k_is)
    (case aII => k_is)
    (case iII => k_is)
    (case lII => k_is)
    (case cII => k_is)
    (case lTII => k_is)
    (case kII => k_is)
    (case aRA => k_is)
    (case iRA => k_is)
    (case lRA => k_is)
    (case cRA => k_is)
    (case kRA => k_is)
    (case aLE => k_is)
    (case iLE => k_is)
    (case lLE => k_is)
    (case cLE => k_is)
    (case kLE => k_is)
    (case aRK => k_is)
    (case iRK => k_is)
    (case lRK => k_is)
    (case cRK => k_is)
    (case kRK => k_is)
    (case aIF => k_is)
    (case iIF => k_is)
    (case lIF => k_is)
    (case cIF => k_is)
    (case kIF => k_is)
    (case aHU => k_is)
    (case iHU => k_is)
    (case lHU => k_is)
    (case cHU => k_is)
    (case kHU => k_is)
    (case aRI => k_is)
    (case iRI => k_is)
    (case lRI => k_is)
    (case cRI => k_is)
    (case kRI => k_is)
    (case aQI => k_is)
    (case iQI => k_is)
    (case lQI => k_is)
    (case cQI => k_is)
    (case kQI => k_is)
    (case aQS => k_is)
    (case iQS => k_is)
    (case lQS => k_is)
    (case cQS => k_is)
    (case kQS => k_is)
    (case aQL => k_is)
    (case iQL => k_is)
    (case lQL => k_is)
    (case cQL => k_is)
    (case kQL => k_is)
    (case aQU => k_is)
    (case iQU => k_is)
    (case lQU => k_is)
    (case cQU => k_is)
    (case kQU => k_is)
    (case aQT => k_is)
    (case iQT => k_is)
    (case lQT => k_is)
    (case cQT => k_is)
    (case kQT => k_is)
    (case aQM => k_is)
    (case iQM => k_is)
    (case lQM => k_is)
    (case cQM => k_is)
    (case kQM => k_is)
    (case aQK => k_is)
    (case iQK => k_is)
    (case lQK => k_is)
    (case cQK => k_is)
    (case kQK => k_is)
    (case atGF => k_is)
    (case gtGF => k_is)
    (case tkGF => k_is)
    (case rcGF => k_is)
    (case lGF => k_is)
    (case cGF => k_is)
    (case kGF => k_is)
    (case atGW => k_is)
    (case gtGW => k_is)
    (case tkGW => k_is)
    (case rcGW => k_is)
    (case lGW => k_is)
    (case cGW => k_is)
    (case kGW => k_is)
    (case aLA => k_is)
    (case lLA => k_is)
    (case cLA => k_is)
    (case lc => k_is)
    (case v11 => rfl)
    (case w11 => rfl)
    (case w18 => rfl)
    (case w7 => rfl)
    (case w9 => rfl)
    (case w10 => rfl)
    (case ne => decide)
    (case nK => kernel_rfl)
    (case tab => exact PySem.W.km_tabs_of Y _ (by decide))
    (case MNx => exact (My.made_mk (P := PySem.Challenge.rw_freelots_k07_lots_refused.prog) (x := "NoRow") (fld := "row") KX G (by k_is) (by k_is) (by k_is) (by k_is) (by k_is) (by k_is) (by k_is) (by k_is) (by k_is) (by k_is) (by k_is) (by k_is) (by k_is) (by k_is) (by k_is) (by k_is) (by k_is) (My.excF_mk (by k_is) (by k_is) (by k_is) (by k_is) (by k_is) (by k_is) (by k_is) (by k_is)) rfl rfl rfl (by decide +kernel) rfl ⟨rfl, rfl, rfl, by decide +kernel, rfl, rfl, rfl, rfl⟩ (by decide +kernel) (by decide +kernel) (by decide +kernel) rfl (by kernel_rfl) (fun us hl => match us, hl with | [_, _], _ => rfl) (fun _ _ => rfl)))
    (case MBx => exact (My.made_mk (P := PySem.Challenge.rw_freelots_k07_lots_refused.prog) (x := "BadLot") (fld := "place") KX G (by k_is) (by k_is) (by k_is) (by k_is) (by k_is) (by k_is) (by k_is) (by k_is) (by k_is) (by k_is) (by k_is) (by k_is) (by k_is) (by k_is) (by k_is) (by k_is) (by k_is) (My.excF_mk (by k_is) (by k_is) (by k_is) (by k_is) (by k_is) (by k_is) (by k_is) (by k_is)) rfl rfl rfl (by decide +kernel) rfl ⟨rfl, rfl, rfl, by decide +kernel, rfl, rfl, rfl, rfl⟩ (by decide +kernel) (by decide +kernel) (by decide +kernel) rfl (by kernel_rfl) (fun us hl => match us, hl with | [_, _], _ => rfl) (fun _ _ => rfl)))
    (case MTx => exact (My.made_mk (P := PySem.Challenge.rw_freelots_k07_lots_refused.prog) (x := "BadTables") (fld := "place") KX G (by k_is) (by k_is) (by k_is) (by k_is) (by k_is) (by k_is) (by k_is) (by k_is) (by k_is) (by k_is) (by k_is) (by k_is) (by k_is) (by k_is) (by k_is) (by k_is) (by k_is) (My.excF_mk (by k_is) (by k_is) (by k_is) (by k_is) (by k_is) (by k_is) (by k_is) (by k_is)) rfl rfl rfl (by decide +kernel) rfl ⟨rfl, rfl, rfl, by decide +kernel, rfl, rfl, rfl, rfl⟩ (by decide +kernel) (by decide +kernel) (by decide +kernel) rfl (by kernel_rfl) (fun us hl => match us, hl with | [_, _], _ => rfl) (fun _ _ => rfl)))
    (case MZx => exact (My.made_mk (P := PySem.Challenge.rw_freelots_k07_lots_refused.prog) (x := "BadSizes") (fld := "place") KX G (by k_is) (by k_is) (by k_is) (by k_is) (by k_is) (by k_is) (by k_is) (by k_is) (by k_is) (by k_is) (by k_is) (by k_is) (by k_is) (by k_is) (by k_is) (by k_is) (by k_is) (My.excF_mk (by k_is) (by k_is) (by k_is) (by k_is) (by k_is) (by k_is) (by k_is) (by k_is)) rfl rfl rfl (by decide +kernel) rfl ⟨rfl, rfl, rfl, by decide +kernel, rfl, rfl, rfl, rfl⟩ (by decide +kernel) (by decide +kernel) (by decide +kernel) rfl (by kernel_rfl) (fun us hl => match us, hl with | [_, _], _ => rfl) (fun _ _ => rfl)))
    (case sB => k_is)
    (case haC => k_is)
    (case hnC => k_is)
    (case tkC => k_is)
    (case hmC => k_is)
    (case ktNoneType => kernel_rfl)
    (case ktbool => kernel_rfl)
    (case ktint => kernel_rfl)
    (case ktstr => kernel_rfl)
    (case ktlist => kernel_rfl)
    (case kttuple => kernel_rfl)
    (case ktdict => kernel_rfl)
    (case aGC => k_is)
    (case aFI => k_is)
    (case lFI => k_is)
    (case vFI => exact .cons ⟨_, rfl⟩ (.cons ⟨_, rfl⟩ (.cons ⟨_, rfl⟩ (.cons ⟨_, rfl⟩ (.cons ⟨_, rfl⟩ (.cons ⟨_, rfl⟩ (.cons ⟨_, rfl⟩ .nil)))))))
    (case zlen => k_is)
    (case zsum => k_is)
    (case zany => k_is)
    (case zall => k_is)
    (case zmin => k_is)
    (case zmax => k_is)
    (case zabs => k_is)
    (case zsorted => k_is)
    (case zisinstance => k_is)
    (case zlist => k_is)
    (case ztuple => k_is)
    (case zint => k_is)
    (case zset => k_is)
    (case zbool => k_is)
    (case zstr => k_is)
    (case zdict => k_is)
    (case zrange => k_is)
    (case zenumerate => k_is)
    (case zzip => k_is)
