import PyProof.Rows.All
import Wide.All
import OpenK.AllK
import Wide.FinOn
import KE.KExcTry
import KE.KExcStr
import HandS.ExcInit
import KE.KExcIs
import HandS.ForMost
import HandS.ExcIs
import HandS.ExcOwn
import HandS.ExcValue
import HandS.IsInst
import HandS.More
import PyProof.NeKinds
import KE.IntTextLaws
import KE.GoesEnumKw
import HandS.OwnEq
import HandS.ClsMeth
import HandS.Defaults
import PyProof.StrLawsChain
import HandS.ExcField
import HandS.WordsExc
import HandS.TryMany
import HandS.CallSlots
import HandS.Walk
import HandS.FStr
import HandS.Wide
import HandS.StrMore
import PySem.Challenge.RW_freelots_k04_bad_row_texts
set_option Elab.async false
set_option linter.all false
set_option maxRecDepth 100000
set_option maxHeartbeats 4000000
/-! An own exception class over ValueError (at any depth) with `def __init__(self, f): super().__init__('words'); self.f = f`. -/
namespace My
open PySem PySem.W PySem.Calls
section
variable {prog : Program} {w : World} {A : Around} {E : Value → Shared → Prop} {R : Result → Shared → Prop} {K : Frag}
/-- the wrapper bound by super() is called -/
theorem mw_call {hp : Heap} {gs : Array GenState} {dr : Drawn} {tk : Nat} {os : OsState} {nm qn : Str} {C N : Addr} {bs bm bb : List Value} {hd : Bool} {sn : List Str} {sb : List Value}
    {ab : Bool} {col : Option Bool} {dd : Option Addr} {k0 k1 k2 k3 k5 : Option Value} {B ni ii : String} {u e t0 : Addr} {rest : List Value} {Q : Value → Shared → Prop}
    (FB : ExcBaseFacts B ni ii bb)
    (hC : hp.get? C = some (excClassObj nm qn C N bs bm hd sn sb ab col dd k0 k1 k2 k3 k5 ni)) (he : hp.get? e = some (excRec (.ref C) t0 none .none .none (.bool false)))
    (hu : hp.get? u = some (kxs_mw ii e)) (hz : rest.length ≤ sizeLine)
    (hq : ∀ h' t1, (∀ b o, b ≠ e → hp.get? b = some o → h'.get? b = some o) → h'.get? e = some (excRec (.ref C) t1 none .none .none (.bool false)) → Q .none ⟨h', gs, dr, tk, os⟩) :
    wpAny (model prog w) A (call (.ref u) rest) Q E ⟨hp, gs, dr, tk, os⟩ := by
  refine wpAny_call (codeAny_of_tree ?_)
  show wpAny _ A.in1 (callAny (.ref u) ⟨rest, []⟩) _ _ _
  simp only [callAny]
  refine wpAny_bind (wpAny_load hu ?_)
  have c1 : (Value.type "method-wrapper" == Value.type "method" || Value.type "method-wrapper" == Value.type "builtin_function_or_method"
    || Value.type "method-wrapper" == Value.type "method-wrapper") = true := by decide
  simp only [kxs_mw, c1, if_true]
  refine KFB.if_so (by decide) ?_
  refine wpAny_bind (check_bound_init FB.toExcCallFacts hC he rfl ?_)
  refine wpAny_bind (wpAny_pure (wpAny_pure ?_))
  refine ⟨plainId_quiet FB.init.plain _, codeAny_builtin FB.initEntry ?_⟩
  exact exc_init_tree he hz fun h' k e' _ => hq h' _ k e'
/-- the body of such an __init__ -/
def initBody (msg fld : Str) (j : Nat) (p0 p1 p2 p3 p4 p5 q0 q1 q2 q3 : Pos) : List Stmt :=
  [.Expr (.Call (.Attribute (.Call (.Name "super" p0) [] [] p1) "__init__" p2) [.Constant (.str msg) j p3] [] p4) p5,
   .Assign [.Attribute (.Name "self" q0) fld q1] (.Name fld q2) q3]
structure InitScope (sc : Scope) (fld : Str) : Prop where
  kind : sc.kind = .function
  co : sc.isCoroutine = false
  gen : sc.isGenerator = false
  nocell : ∀ x ∈ sc.names, x.2 ≠ .cell
  self : sc.names.lookup ("self" : Str) = some .local
  fld : sc.names.lookup fld = some .local
  sup : sc.names.lookup ("super" : Str) = some .globalImplicit
  cls : sc.names.lookup ("__class__" : Str) = some .free
theorem meth_eval {o : Expr} {name : Str} {p2 p4 p3 : Pos} {env : Env} {c : Const} {j : Nat} (hl : (p2.endLine == p4.line) = true) :
    eval (.Call (.Attribute o name p2) [.Constant c j p3] [] p4) env = (do
      let ov ← attributeBase o name env (eval o env)
      standAt p2.atName
      let (f, first) ← holding [ov] (getMethod ov name (do return (← importBound o env).getD true))
      callWith p4 f first (backTo p4 (starEach [.Constant c j p3] env)) []) := by
  show (do
    let ov ← attributeBase o name env (eval o env)
    standAt p2.atName
    methodCall o name p2 p4 env ov 1 (backTo p4 (starEach [.Constant c j p3] env)) []) = _
  congr 1
  funext ov
  congr 1
  funext _
  unfold methodCall methodCallPos
  have hf : methodCallForm 1 (backTo p4 (starEach [Expr.Constant c j p3] env)) [] = true := rfl
  rw [hf, hl]
  simp [calleeOf]
theorem init_run {s : Shared} {C D fI cda cc e t0 : Addr} {v : Value} {args : Args} {mg mb : Str → Option Value} {msg fld name qual file : Str} {j : Nat} {p0 p1 p2 p3 p4 p5 q0 q1 q2 q3 : Pos}
    {params : Arguments} {ar : Arg} {scope : Scope} {dV kV doc pm ct oc ccl cl : Value} {an od cdd cld : Option Addr} {osl ccs csl : Array (Option Value)} {vs : Array Value} {tf : Tok} {cdD cdC : ClassData} {B ni ii : String} {bb : List Value}
    {nmC qnC : Str} {NC : Addr} {bsC bmC : List Value} {hdC0 : Bool} {snC : List Str} {sbC : List Value} {abC : Bool} {colC : Option Bool} {ddC : Option Addr} {w0 w1 w2 w3 w5 : Option Value}
    (X : K.In s.heap) (hKe : ∀ o, K.lookup e = some o → False) (lim : s.heap.NoLimit) (hG : s.heap.Ns mainGlobals mg) (hsup : mg "super" = none) (hB : s.heap.Ns builtinsNs mb) (hsb : mb "super" = some (.type "super"))
    (FB : ExcBaseFacts B ni ii bb) (KF : KxsFacts B ii)
    (hCK : K.lookup C = some (excClassObj nmC qnC C NC bsC bmC hdC0 snC sbC abC colC ddC w0 w1 w2 w3 w5 ni)) (hclC : clsIn K C = some cdC) (hmC : PySem.HandSPX.refsVE cdC.mro = true) (hdC : cdC.hasDict = true)
    (saC : findIn K (.ref C) "__setattr__" = some (some (.builtin "object.__setattr__"))) (fC : findIn K (.ref C) fld = some none)
    (hD : clsIn K D = some cdD) (hsub : mroIn K C (.ref D) = some true) (hopq : nsIn K cStatics "thirdparty.any" = some none)
    (hin : ks_superIn K C D "__init__" = some (some (.builtin ii))) (hBC : subIn K (.ref C) (.type B) = some true)
    (S : InitScope scope fld) (hne : fld ≠ "self") (hdb : (fld == ("__debug__" : Str)) = false)
    (lk : K.lookup fI = some ⟨oc, od, .func (ksFn name qual params (initBody msg fld j p0 p1 p2 p3 p4 p5 q0 q1 q2 q3) scope dV kV doc pm an (.ref cda) ct cc), osl⟩)
    (hcd : codeIn K (.ref cda) qual = true) (hp : (params.posonlyargs ++ params.args).head? = some ar) (har : ar.arg = "self")
    (hcode : K.lookup cda = some ⟨ccl, cdd, .fields vs, ccs⟩) (hvs : vs[2]? = some (.str file tf)) (hfile : ((prog.main.file : Str) == file) = true)
    (htop : (prog.main.scope.names.lookup ("super" : Str)).isSome = false)
    (hcell : K.lookup cc = some ⟨cl, cld, .cell (some (.ref D)), csl⟩)
    (hl : (p2.endLine == p4.line) = true) (hroom : A.depth < recursionLimit) (hbind : BindsTo s (ksFn name qual params (initBody msg fld j p0 p1 p2 p3 p4 p5 q0 q1 q2 q3) scope dV kV doc pm an (.ref cda) ct cc) args [("self", .ref e), (fld, v)])
    (he : s.heap.get? e = some (excRec (.ref C) t0 none .none .none (.bool false)))
    (hq : ∀ h' tk dx t1, (∀ b o, b ≠ e → s.heap.get? b = some o → h'.get? b = some o) → s.heap.objs.size ≤ dx → dx ≠ e → h'.get? e = some (excRec (.ref C) t1 (some dx) .none .none (.bool false)) →
      h'.Ns1 dx (fun y => if y = fld then some v else none) → R (.ok (.ret .none)) ⟨h', s.gens, s.drawn, tk, s.os⟩) :
    codeAny (model prog w) A (.call (.ref fI) args) R s := by
  obtain ⟨hh, g, d, tk, os⟩ := s
  have hloc : ∀ y ∈ [(("self" : Str), Value.ref e), (fld, v)], scope.names.lookup y.1 = some .local := fun y hy => by
    rcases List.mem_cons.mp hy with rfl | hy
    · exact S.self
    · rcases List.mem_cons.mp hy with rfl | hy
      · exact S.fld
      · cases hy
  refine ks_codeAny_call_defAt (fd := ksFn name qual params (initBody msg fld j p0 p1 p2 p3 p4 p5 q0 q1 q2 q3) scope dV kV doc pm an (.ref cda) ct cc) (body := initBody msg fld j p0 p1 p2 p3 p4 p5 q0 q1 q2 q3)
    hroom (X _ _ lk) rfl lim (codeRec_of X hcd) rfl hbind S.nocell hloc (fun h1 hns k1 => ?_) S.co S.gen S.kind
  show PySem.wpAt _ _ _ (execs (initBody msg fld j p0 p1 p2 p3 p4 p5 q0 q1 q2 q3) (ksEnv qual scope hh.objs.size fI (.ref cda) cc)) _ _ _
  have X1 : K.In h1 := X.keeps k1
  have hm0 : (([(("self" : Str), Value.ref e), (fld, v)] : List (Str × Value)).reverse.lookup ("self" : Str)) = some (.ref e) := by
    have : (("self" : Str) == fld) = false := by simpa using (Ne.symm hne)
    simp [List.lookup, this]
  have hm1 : (([(("self" : Str), Value.ref e), (fld, v)] : List (Str × Value)).reverse.lookup fld) = some v := by
    simp [List.lookup]
  unfold initBody
  have hi : interactive (ksEnv qual scope hh.objs.size fI (.ref cda) cc) = false := by
    show (scope.kind == .module && _) = false
    rw [S.kind]
    rfl
  refine ks_wpAt_execs_cons (ks_wpAt_Expr_any ?_ hi)
  refine ks_wpAt_MethodCall ?_ (meth_eval hl)
  refine ks_wpAt_super_base (env := ksEnv qual scope hh.objs.size fI (.ref cda) cc) S.sup S.cls (by decide) rfl (X1 _ _ lk) rfl hp rfl (X1 _ _ hcode) rfl hvs hfile htop ?_
  have hsup0 : (envX qual scope hh.objs.size fI (.ref cda) [("__class__", cc)]).kindOf "super" = some .globalImplicit := S.sup
  refine ks_loadName_global S.kind hsup0 (loadGlobal_builtin (hG.keeps k1) hsup (hB.keeps k1) hsb ⟨rfl, ?_⟩)
  refine wpAny_loadName_free S.kind S.cls rfl ⟨_, X1 _ _ hcell, rfl⟩ ?_
  rw [har]
  refine wpAny_loadName_local S.kind S.self hns hm0 ?_
  obtain ⟨oD, hD1, hD2⟩ : ∃ oD, h1.get? D = some oD ∧ oD.data = .cls cdD := by
    unfold clsIn at hD
    split at hD
    · rename_i ho
      cases hD
      exact ⟨_, X1 _ _ ho, rfl⟩
    · cases hD
  refine ks_wpAny_isType_cls hD1 hD2 ⟨rfl, ?_⟩
  have he1 := k1 _ _ he
  have eC : e ≠ C := by
    intro z
    unfold clsIn at hclC
    split at hclC
    · rename_i ho
      have q := X1 _ _ ho
      rw [← z, he1] at q
      cases q
    · cases hclC
  refine ks_wpAny_call_super hD1 hD2 he1 rfl (fun c q => by cases q) (looks_mroIn X1 hsub) fun h2 hso k2 => ?_
  have X2 : K.In h2 := X1.keeps k2
  have he2 := k2 _ _ he1
  have hI : Looks (model prog w) h2 (isInstance (.ref e) (.type B)) true :=
    (show InstAt h2 e _ C none from ⟨he2, rfl, rfl, trivial⟩).type.andThen (looks_subIn X2 hBC)
  have hin' : alongIn K "__init__" ((cdC.mro.dropWhile (· != .ref D)).drop 1) = some (some (.builtin ii)) := by
    unfold ks_superIn at hin
    rw [hclC] at hin
    exact hin
  refine kxs_getMethod KF hso (looks_opaque X2 hopq) (l₀ := cdC.mro) ((looks_clsIn X2 hclC).andThen .now) rfl X2 hin' hI eC (by decide) ?_
  have k3 : ∀ b o, h2.get? b = some o → (h2.push (kxs_mw ii e)).get? b = some o := fun b o q => Heap.get?_push_of_some _ q
  have hu : (h2.push (kxs_mw ii e)).get? h2.objs.size = some (kxs_mw ii e) := Heap.get?_push_at rfl rfl
  refine kxs_callWith (i := ii) (x := e) (by rfl) (evalArgs_plain (spliced_cons ?_))
  refine Constant_str (pos := p3) (k := j) (spliced_nil ⟨hu, ?_⟩)
  have X3 : K.In (h2.push (kxs_mw ii e)) := X2.keeps k3
  refine mw_call FB (X3 _ _ hCK) (k3 _ _ he2) hu (by show 1 ≤ sizeLine; rw [sizeLine_eq]; omega) fun h4 t4 k4 e4 => ?_
  show PySem.wpAt _ _ _ _ _ _ _
  have X4 : K.In h4 := fun b o q => by
    by_cases hb : b = e
    · rw [hb] at q
      exact (hKe o q).elim
    · exact k4 b o hb (X3 b o q)
  have hns4 : h4.Ns hh.objs.size fun x => List.lookup x [(Str.ofString "self", Value.ref e), (fld, v)].reverse := by
    obtain ⟨oL, es, ep, hL, r⟩ := hns
    refine ⟨oL, es, ep, k4 _ _ (fun z => ?_) (k3 _ _ (k2 _ _ hL)), r⟩
    have y := Heap.lt_size he
    rw [← z] at y
    exact absurd y (Nat.lt_irrefl _)
  refine ks_wpAt_execs_cons (ks_wpAt_Assign_Attr (PySem.wpAt_of_wpAny ?_))
  refine wpAny_Name (env := ksEnv qual scope hh.objs.size fI (.ref cda) cc) (wpAny_loadName_local (m := fun x : Str => ([(("self" : Str), Value.ref e), (fld, v)] : List (Str × Value)).reverse.lookup x) S.kind S.fld hns4 hm1 ?_) hdb
  refine wpAny_Name (env := ksEnv qual scope hh.objs.size fI (.ref cda) cc) (wpAny_loadName_local (m := fun x : Str => ([(("self" : Str), Value.ref e), (fld, v)] : List (Str × Value)).reverse.lookup x) S.kind S.self hns4 hm0 ?_) (by decide)
  refine set_plain X4 (ox := excRec (.ref C) t4 none .none .none (.bool false)) (od := none) ⟨e4, rfl, rfl, trivial⟩ saC ?_
  refine PySem.HandSPX.exc_osa X4 e4 hclC hmC hdC fC fun h5 tk5 dx k5 l5 n5 e5 d5 => ?_
  refine PySem.wpAt_of_wpAny (wpAny_execs_nil ?_)
  refine hq h5 _ dx t4 (fun b o nb q => k5 b o nb (k4 b o nb (k3 _ _ (k2 _ _ (k1 _ _ q))))) ?_ n5 e5 d5
  obtain ⟨oL, es, ep, hL, _⟩ := hns4
  exact Nat.le_of_lt (Nat.lt_of_lt_of_le (Heap.lt_size hL) l5)
end
end My
namespace My
open PySem L2
/-- what the text's written part holds of such an __init__ (D: the class it stands in) -/
structure InitFn (K : PySem.W.Frag) (P : Program) (D : Addr) (fld : Str) (fI : Addr) (fd : FuncData) : Prop where
  ex : ∃ (msg name qual file : Str) (j : Nat) (p0 p1 p2 p3 p4 p5 q0 q1 q2 q3 : Pos) (params : Arguments) (ar : Arg) (scope : Scope) (dV kV doc pm ct oc ccl cl : Value) (an od cdd cld : Option Addr)
      (osl ccs csl : Array (Option Value)) (vs : Array Value) (tf : Tok) (cda cc : Addr),
    fd = PySem.W.ksFn name qual params (initBody msg fld j p0 p1 p2 p3 p4 p5 q0 q1 q2 q3) scope dV kV doc pm an (.ref cda) ct cc ∧
    K.lookup fI = some ⟨oc, od, .func fd, osl⟩ ∧ PySem.W.codeIn K (.ref cda) qual = true ∧ (params.posonlyargs ++ params.args).head? = some ar ∧ ar.arg = "self" ∧
    K.lookup cda = some ⟨ccl, cdd, .fields vs, ccs⟩ ∧ vs[2]? = some (.str file tf) ∧ ((P.main.file : Str) == file) = true ∧
    K.lookup cc = some ⟨cl, cld, .cell (some (.ref D)), csl⟩ ∧ (p2.endLine == p4.line) = true ∧ InitScope scope fld
  cd : ∃ cdD, PySem.W.clsIn K D = some cdD
  top : (P.main.scope.names.lookup ("super" : Str)).isSome = false
  opq : PySem.W.nsIn K cStatics "thirdparty.any" = some none
  ne : fld ≠ "self"
  db : (fld == ("__debug__" : Str)) = false
/-- the class C that is made, whose __init__ this is -/
structure InitOf (K : PySem.W.Frag) (C D : Addr) (fld : Str) : Prop where
  T : OexC K C
  sub : PySem.W.mroIn K C (.ref D) = some true
  sup : PySem.W.ks_superIn K C D "__init__" = some (some (.builtin "ValueError.__init__"))
  ve : PySem.W.subIn K (.ref C) (.type "ValueError") = some true
  nof : PySem.W.findIn K (.ref C) fld = some none
/-- what such an __init__ does -/
def spInit (K : PySem.W.Frag) (D : Addr) (fld : Str) : Sp := fun vs H Q _ => ∃ (a C : Addr) (y : V), vs = [.ref a, y] ∧ InitOf K C D fld ∧ H a = some (exo a C none) ∧
  ∀ dx, H dx = none → dx ≠ a → Q .non (upd (upd H dx (exd dx [(fld, y)])) a (exo a C (some dx)))
theorem exo_new_un {fs : List Addr} {H : Hp} {h h' : Heap} {a C dx : Addr} {f : Str} {y : V} (ha : H a = some (exo a C none)) (hdx : H dx = none)
    (k : ∀ b o, b ≠ a → h.get? b = some o → h'.get? b = some o) (l : h.objs.size ≤ dx) (ea : ∃ o, h'.get? a = some o) :
    Un fs [] H (upd (upd H dx (exd dx [(f, y)])) a (exo a C (some dx))) h h' := by
  have na : ∀ {b : Addr}, H b = none → b ≠ a := by
    intro b n z
    rw [z, ha] at n
    cases n
  have nd : ∀ {b : Addr} {o : Obj}, h.get? b = some o → b ≠ dx := by
    intro b o q z
    have y := Heap.lt_size q
    rw [z] at y
    exact absurd y (Nat.not_lt.mpr l)
  refine ⟨?_, ?_, ?_, ?_, ?_, ?_, ?_⟩
  · intro b o q n _ _
    exact k b o (na n) q
  · intro b o q n _ _
    exact ⟨o.slots, k b o (na n) q⟩
  · intro b o q n _
    rw [upd_ne (na n)]
    rw [upd_ne (nd q)]
    exact n
  · intro b o q _
    by_cases z : b = a
    · rw [z]
      exact ea
    · exact ⟨o, k b o z q⟩
  · intro b xs q
    rw [upd_ne (at_ne ha q exo_tup)]
    rw [upd_ne (ne_of_none q hdx)]
    exact q
  · intro b o u q
    rw [upd_ne (at_ne ha q exo_frz)]
    rw [upd_ne (ne_of_none q hdx)]
    exact q
  · intro b ps q
    refine ⟨#[], ?_⟩
    rw [upd_ne (at_ne ha q exo_tbl)]
    rw [upd_ne (ne_of_none q hdx)]
    rw [q]
    simp
theorem exo_new_ok {P : Program} {w : World} {H : Hp} {h h' : Heap} {a C dx t1 : Addr} {f : Str} {y : V} {u : Value} (hok : HOk P w H h) (ha : H a = some (exo a C none)) (hdx : H dx = none)
    (k : ∀ b o, b ≠ a → h.get? b = some o → h'.get? b = some o)
    (ea : h'.get? a = some ({ cls := .ref C, dict := some dx, data := .fields #[.ref t1, .none, .none, .none, .bool false, .none] } : Obj))
    (ry : RelV y u) (hn : h'.Ns1 dx (fun z => if z = f then some u else none)) :
    HOk P w (upd (upd H dx (exd dx [(f, y)])) a (exo a C (some dx))) h' := by
  intro b o q
  by_cases za : b = a
  · rw [za] at q ⊢
    rw [upd_same] at q
    cases q
    exact exo_ok ea
  rw [upd_ne za] at q
  by_cases zd : b = dx
  · rw [zd] at q ⊢
    rw [upd_same] at q
    cases q
    exact exd_ok hn (relO_put (fs := []) ry fun _ => True.intro)
  rw [upd_ne zd] at q
  refine (hok b o q).stay ?_ ?_ ?_
  · intro c v hc z
    refine k c v ?_ z
    rcases hc with hc | hc
    · rw [hc]
      exact za
    · exact at_ne ha hc exo_own
  · intro c hc
    rw [upd_ne (at_ne ha hc exo_own)]
    rw [upd_ne (ne_of_none hc hdx)]
    exact hc
  · intro c xs hc
    rw [upd_ne (at_ne ha hc exo_tup)]
    rw [upd_ne (ne_of_none hc hdx)]
    exact hc
theorem init_ok {P : Program} {w : World} {K : PySem.W.Frag} {mg : Str → Option Value} {base : Heap} {CX : CXT} {D fI : Addr} {fld : Str} {fd : FuncData} (F : InitFn K P D fld fI fd) (ms : mg "super" = none) :
    FnOk P w K mg base CX 0 fI fd ["self", fld] (spInit K D fld) := by
  refine ⟨fun vs H Q E h => ?_, fun A outer s H args us vs Q E hr e0 hb r hsp => ?_⟩
  · obtain ⟨a, C, y, rfl, _⟩ := h
    rfl
  obtain ⟨a, C, y, rfl, J, ha, hq⟩ := hsp
  obtain ⟨msg, name, qual, file, j, p0, p1, p2, p3, p4, p5, q0, q1, q2, q3, params, ar, scope, dV, kV, doc, pm, ct, oc, ccl, cl, an, od, cdd, cld, osl, ccs, csl, vs, tf, cda, cc, rfl, lk, hcd, hp, har, hcode, hvs, hfile, hcell, hl, S⟩ := F.ex
  obtain ⟨nm, q, N, bs, bm, sn, sub, ab, col, dd, k0, k1, k2, k3, k5, hC, hbm⟩ := J.T.cls
  obtain ⟨cdD, hD⟩ := F.cd
  obtain ⟨mb, hB, hsb⟩ := e0.mod.blt
  have kb : ∀ b o, base.get? b = some o → s.heap.get? b = some o := fun b o e => (e0.bs b o e).1
  obtain ⟨t1, he⟩ := exo_at e0.hok ha
  have hcl : PySem.W.clsIn K C = some { name := nm, bases := bs, mro := .ref C :: bm, ns := N, qualname := q, hasDict := true, slotNames := sn, subclasses := sub, abstract := ab, collection := col, hasDel := false } := by
    unfold PySem.W.clsIn
    rw [hC] <;> rfl
  cases r with
  | @cons _ u0 _ ur ra rr =>
    obtain rfl : u0 = Value.ref a := ra
    cases rr with
    | @cons _ u _ ur2 ry rn =>
      cases rn
      refine init_run (e0.mod.kin.keeps kb) (fun o z => ?_) (e0.mod.nolimit.keeps kb) (e0.mod.glob.keeps kb) ms (hB.keeps kb) ((hsb "super" (by decide)).trans (by decide +kernel))
        PySem.F.excBase_ValueError PySem.W.kxs_ValueError hC hcl hbm rfl J.T.sa J.nof hD J.sub F.opq J.sup J.ve S F.ne F.db lk hcd hp har hcode hvs hfile F.top hcell hl hr.depth hb he ?_
      · have y0 := (e0.bs a o (e0.mod.kin _ _ z)).2
        rw [ha] at y0
        cases y0
      · intro h' tk dx t2 k ld nd ea hn
        have hdx : H dx = none := e0.hok.fresh ld
        exact ⟨.non, _, rfl, e0.bare, exo_new_un ha hdx k ld ⟨_, ea⟩, exo_new_ok e0.hok ha hdx k ea ry hn, rfl, hq dx hdx nd⟩
end My
/-! An own exception class called with keyword arguments alone. -/
namespace My
open PySem PySem.W PySem.PX PySem.Calls PyProof.Rows
section
variable {prog : Program} {w : World} {M : Model} {A : Around} {E : Value → Shared → Prop} {R : Result → Shared → Prop}
variable {hp : Heap} {gs : Array GenState} {dr : Drawn} {tk : Nat} {os : OsState}
variable {nm qn : Str} {C N : Addr} {bs bm bb : List Value} {hd : Bool} {sn : List Str} {sb : List Value} {ab : Bool} {col : Option Bool} {dd : Option Addr}
variable {k0 k1 k2 k3 k5 : Option Value} {B ni ii : String} {kws : List (Str × Value)}
abbrev clsO (nm qn : Str) (C N : Addr) (bs bm : List Value) (hd : Bool) (sn : List Str) (sb : List Value) (ab : Bool) (col : Option Bool) (dd : Option Addr)
    (k0 k1 k2 k3 k5 : Option Value) (ni : String) : Obj := excClassObj nm qn C N bs bm hd sn sb ab col dd k0 k1 k2 k3 k5 ni
theorem kw_check_new (F : ExcBaseFacts B ni ii bb) (hT : ∀ X : String, bm.contains (.type X) = bb.contains (.type X))
    (hC : hp.get? C = some (clsO nm qn C N bs bm hd sn sb ab col dd k0 k1 k2 k3 k5 ni))
    {Q : Unit → Shared → Prop} (hq : Q () ⟨hp, gs, dr, tk, os⟩) :
    wpAny M A (checkBuiltinCall ni ⟨[.ref C], kws⟩) Q E ⟨hp, gs, dr, tk, os⟩ := by
  have inB : (Value.ref C :: bm).contains (.type B) = true := by
    rw [List.contains_cons, hT]
    simp only [F.hasB, Bool.or_true]
  have ns := F.noStar
  simp only [checkBuiltinCall, F.newKind, F.newSplit, F.newRow]
  repeat (first
    | refine wpAny_loadPart_at hC ?_
    | (refine wpAny_isSubtype_exc hC ?_
       rw [inB])
    | refine wpAny_staticBase_exc hC ?_
    | refine wpAny_madeBy_exc hC ?_
    | simp only [bne_self_eq_false, Bool.false_eq_true, if_false]
    | wp_step)
  all_goals exact hq
theorem kw_new (F : ExcBaseFacts B ni ii bb) (hT : ∀ X : String, bm.contains (.type X) = bb.contains (.type X))
    (hC : hp.get? C = some (clsO nm qn C N bs bm hd sn sb ab col dd k0 k1 k2 k3 k5 ni))
    (hR : R (.ok (.ret (.ref (hp.objs.size + 1)))) ⟨(hp.push (kdv_tup [])).push (excO C hp.objs.size), gs, dr, tk, os⟩) :
    codeAny (model prog w) A (.builtin ni ⟨[.ref C], kws⟩) R ⟨hp, gs, dr, tk, os⟩ := by
  have hends := F.ends
  have inB : (Value.ref C :: bm).contains (.type B) = true := by
    rw [List.contains_cons, hT]
    simp only [F.hasB, Bool.or_true]
  have noA : (Value.ref C :: bm).contains (.type "AttributeError") = false := by
    rw [List.contains_cons, hT, F.noAttr]
    rfl
  have noN : (Value.ref C :: bm).contains (.type "NameError") = false := by
    rw [List.contains_cons, hT, F.noName]
    rfl
  refine codeAny_builtinAt F.entry ?_
  unfold Builtin.«BaseException.__new__»
  refine PySem.wpAt_bind ?_
  show PySem.wpAt _ _ _ (stack >>= _) _ _ _
  refine PySem.wpAt_bind (PySem.wpAt_stack fun p below => ?_)
  refine PySem.wpAt_of_wpAny ?_
  wp_walk
  refine PySem.wpAt_of_wpAny ?_
  rw [F.owner]
  repeat (first
    | with_reducible refine wpAny_madeHere_exc F.canon hC ?_
    | with_reducible refine wpAny_loadPart_at hC ?_
    | (with_reducible refine wpAny_isSubtype_exc hC ?_
       first | rw [inB] | rw [noA] | rw [noN])
    | wp_step)
  show R _ _
  rw [Heap.size_push]
  exact hR
theorem kw_type_call {fI : Addr} {Q : Fin → Shared → Prop} (F : ExcBaseFacts B ni ii bb) (hT : ∀ X : String, bm.contains (.type X) = bb.contains (.type X))
    (hC : hp.get? C = some (clsO nm qn C N bs bm hd sn sb ab col dd k0 k1 k2 k3 k5 ni))
    (hi : Looks (model prog w) hp (typeLookup (.ref C) "__init__") (some (.ref fI)))
    (hb : ∀ z, Looks (model prog w) hp (bindSpecial (.ref fI) z) (.ref fI, [z]))
    (hq : codeAny (model prog w) A (.call (.ref fI) ⟨[.ref (hp.objs.size + 1)], kws⟩)
      (fun r s' => match r with
        | .ok (.ret v) => v = .none ∧ Q (.done (.ret (.ref (hp.objs.size + 1)))) s'
        | .ok _ => False
        | .error e => E e s')
      ⟨(hp.push (kdv_tup [])).push (excO C hp.objs.size), gs, dr, tk, os⟩) :
    wpAny (model prog w) A (Builtin.«type.__call__» ⟨[.ref C], kws⟩) Q E ⟨hp, gs, dr, tk, os⟩ := by
  repeat (first
    | with_reducible refine wpAny_loadPart_at hC ?_
    | with_reducible refine wpAny_madeBy_exc hC ?_
    | wp_step)
  refine codeAny_call_builtin_code (Code.quiet_builtin _ F.quiet) (kw_check_new F hT hC ?_)
  refine kw_new F hT hC ?_
  show wpAny _ _ _ _ _ _
  have kp : ∀ b o, hp.get? b = some o → ((hp.push (kdv_tup [])).push (excO C hp.objs.size)).get? b = some o :=
    fun b o e => Heap.get?_push_of_some _ (Heap.get?_push_of_some _ e)
  have hC1 := kp _ _ hC
  have hx : ((hp.push (kdv_tup [])).push (excO C hp.objs.size)).get? (hp.objs.size + 1) = some (excO C hp.objs.size) := by
    heap_get
  have inC : (Value.ref C :: bm).contains (.ref C) = true := by simp
  have hi1 := hi.keeps kp
  have hb1 := (hb (.ref (hp.objs.size + 1))).keeps kp
  unfold isInstance
  repeat (first
    | with_reducible refine wpAny_loadPart_at hx ?_
    | (with_reducible refine wpAny_isSubtype_exc hC1 ?_
       rw [inC])
    | wp_step)
  show wpAny _ _ (typeLookup (.ref C) _) _ _ _
  refine hi1.at ?_
  refine wpAny_holding (wpAny_bind (hb1.at ?_))
  refine wpAny_bind (wpAny_call (codeAny_mono hq fun r s' z => ?_))
  rcases r with e | (v | _ | _ | _)
  all_goals try exact z
  all_goals try exact z.elim
  obtain ⟨rfl, z⟩ := z
  first
    | exact wpAny_pure (wpAny_pure z)
    | (wp_walk
       exact z)
theorem kw_call {fI : Addr} (F : ExcBaseFacts B ni ii bb) (hT : ∀ X : String, bm.contains (.type X) = bb.contains (.type X))
    (hC : hp.get? C = some (clsO nm qn C N bs bm hd sn sb ab col dd k0 k1 k2 k3 k5 ni))
    (hi : Looks (model prog w) hp (typeLookup (.ref C) "__init__") (some (.ref fI)))
    (hb : ∀ z, Looks (model prog w) hp (bindSpecial (.ref fI) z) (.ref fI, [z]))
    (hq : codeAny (model prog w) (A.under (.builtin "type.__call__" ⟨[.ref C], kws⟩)) (.call (.ref fI) ⟨[.ref (hp.objs.size + 1)], kws⟩)
      (InitBack (hp.objs.size + 1) R) ⟨(hp.push (kdv_tup [])).push (excO C hp.objs.size), gs, dr, tk, os⟩) :
    codeAny (model prog w) A (.call (.ref C) ⟨[], kws⟩) R ⟨hp, gs, dr, tk, os⟩ := by
  have f1 := tc_lookup
  have f2 := tc_bind (.ref C)
  have hTy : (⟨hp, gs, dr, tk, os⟩ : Shared).TypeIs (.ref C) "type" := ⟨_, hC, rfl⟩
  refine codeAny_of_tree ?_
  show wpAny _ _ (callAny (.ref C) _) _ _ _
  repeat (any_goals (first
    | assumption
    | with_reducible refine wpAny_loadPart_at hC ?_
    | wp_step))
  refine ⟨rfl, ?_⟩
  refine codeAny_call_builtin_at (Code.quiet_builtin _ (by decide +kernel)) entry_typeCall ?_
  refine wpAny_check_type_call_sub hC (kw_type_call F hT hC hi hb ?_)
  refine codeAny_mono hq fun r s' z => ?_
  rcases r with e | (v | _ | _ | _) <;> exact z
end
section
variable {prog : Program} {w : World} {A : Around} {E : Value → Shared → Prop} {s : Shared} {K : Frag} {C L : Addr} {g0 : Heap}
variable {m : Str → Option Value} {news : List (Addr × Obj)} {B ni ii : String} {bb : List Value}
theorem kw_make {kws : List (Str × Value)} {fI : Addr} {Q : Value → Shared → Prop} (F : Fr g0 L s.heap m) (X0 : K.In g0) (N : News g0 L s.heap news)
    (FB : ExcBaseFacts B ni ii bb) (hi : findIn K (.ref C) "__init__" = some (some (.ref fI)))
    (q : excInitIn K C bb ni = true) (hf : isFn K (.ref fI) = true)
    (h : ∀ e t h', Fr g0 L h' m → News g0 L h' ((e, excObj C t none .none) :: (t, excTup []) :: news) → AllNe e news → AllNe t news → e ≠ t →
      codeAny (model prog w) (A.under (.builtin "type.__call__" ⟨[.ref C], kws⟩)) (.call (.ref fI) ⟨[.ref e], kws⟩)
        (InitBack e fun r s' => match r with
          | .ok (.ret v) => Q v s'
          | .ok _ => False
          | .error x => E x s') { s with heap := h' }) :
    wpAny (model prog w) A (call (.ref C) [] kws) Q E s := by
  have X := X0.keeps F.keep
  obtain ⟨nm, N', qn, bs, bm, hd, sn, sb, ab, col, dd, k0, k1, k2, k3, k5, hC, hT⟩ := excInit_of X q
  have hf' : (K.lookup fI).map (·.cls) = some (.type "function") := beq_iff_eq.mp hf
  obtain ⟨o, ho, hc⟩ := Option.map_eq_some_iff.mp hf'
  have hoI := X _ _ ho
  have hi' : Looks (model prog w) s.heap (typeLookup (.ref C) "__init__") (some (.ref fI)) := looks_findIn X hi
  obtain ⟨F2, N2, ne, nt⟩ := exc_two (o1 := excTup []) (o2 := excObj C s.heap.objs.size none .none) F N rfl rfl
  obtain ⟨hh, g, d, tk, os⟩ := s
  have hq := h _ _ _ F2 N2 ne nt (Nat.succ_ne_self _)
  refine wpAny_call (kw_call FB hT hC hi' (fun z => exc_bind hoI hc z) (codeAny_mono hq fun r s' z => ?_))
  rcases r with x | (v | _ | _ | _)
  all_goals try exact z
  all_goals exact z.elim
end
end My
namespace My
open PySem L2
/-- what isinstance and a field's reading ask of an exception class -/
structure ExcF (K : PySem.W.Frag) (C : Addr) : Prop where
  cls : (PySem.W.clsIn K C).isSome = true
  hga : PySem.W.findIn K (.ref C) "__getattribute__" = some (some (.builtin "BaseException.__getattribute__"))
  hgt : PySem.W.findIn K (.ref C) "__getattr__" = some none
  sub : PySem.W.subIn K (.ref C) (.type "BaseException") = some true
  ha : PySem.W.findIn K (.ref C) "__class__" = some (some (.builtin "object.__class__"))
  hn : PySem.W.specialIn K (.builtin "object.__class__") "__get__" = some (some (.builtin "getset_descriptor.__get__"))
  tk : PySem.W.takesIn K (.builtin "object.__class__") = some true
  hm : PySem.W.mroIn K C (.type "object") = some true
structure Made (K : PySem.W.Frag) (P : Program) (mg : Str → Option Value) (x fld : Str) (C fI : Addr) (fd : FuncData) : Prop where
  fn : InitFn K P C fld fI fd
  of : InitOf K C C fld
  bp : Binds K fd ["self", fld] []
  bk : ∀ (s : Shared) (u v : Value), BindsTo s fd ⟨[u], [(fld, v)]⟩ [("self", u), (fld, v)]
  at_ : mg x = some (.ref C)
  ini : PySem.W.findIn K (.ref C) "__init__" = some (some (.ref fI))
  ti : PySem.W.typeIn K (.ref fI) = some (.type "function")
  sup : mg "super" = none
  ex : ExcF K C
theorem upd_twice {H : Hp} {a d : Addr} {o1 o2 u : HO} (h : d ≠ a) : upd (upd (upd H a o1) d u) a o2 = upd (upd H d u) a o2 := by
  funext b
  by_cases e : b = a
  · rw [e, upd_same, upd_same]
  · rw [upd_ne e, upd_ne e]
    by_cases e2 : b = d
    · rw [e2, upd_same, upd_same]
    · rw [upd_ne e2, upd_ne e2, upd_ne e]
/-- C(e), C(f = e): a new exception, its field in its dict -/
def tExc (C : Addr) (fld : Str) (te : TE) : TE := fun σ H Q => te σ H fun y H1 =>
  ∀ a d, H1 a = none → H1 d = none → d ≠ a → Q (.ref a) (upd (upd H1 d (exd d [(fld, y)])) a (exo a C (some d)))
section
variable {X : Cx} {pins : List (Addr × Obj)} {σ : St} {H : Hp} {s : Shared} {x fld : Str} {C fI : Addr} {fd : FuncData} {Q : VK}
/-- the end of a make: __init__ has run -/
theorem made_back {a : Addr} {y : V} {s2 : Shared} {r : Result} {s' : Shared}
    (I2 : Inv X pins σ (upd H a (exo a C none)) s2) (hq : CR CX0 X.stack X.prog X.w (upd H a (exo a C none)) s2 (fun v H2 => v = .non ∧ Q (.ref a) H2) (fun _ _ _ => False) r s') :
    PySem.W.InitBack a (fun r s' => match r with
      | .ok (.ret v) => EP X pins σ Q v s'
      | .ok _ => False
      | .error e => X.xe e s') r s' := by
  cases r with
  | error er => exact hq.elim
  | ok fl =>
    cases fl with
    | ret u =>
      obtain ⟨v, H2, J, rv, ev, q⟩ := I2.after hq
      subst ev
      cases rv
      exact ⟨rfl, .ref a, H2, J, rfl, q⟩
    | next => exact hq.elim
    | brk => exact hq.elim
    | cont => exact hq.elim
theorem made_pos {y : V} {u : Value} (M : Made X.K X.prog X.mg x fld C fI fd) (hr : Room 1 X.A) (I : Inv X pins σ H s) (ry : RelV y u)
    (h : ∀ a d, H a = none → H d = none → d ≠ a → Q (.ref a) (upd (upd H d (exd d [(fld, y)])) a (exo a C (some d)))) :
    wpAny (model X.prog X.w) X.A (call (.ref C) [u]) (EP X pins σ Q) X.xe s := by
  obtain ⟨nm, q, N, bs, bm, sn, sub, ab, col, dd, k0, k1, k2, k3, k5, hC, hbm⟩ := M.of.T.cls
  obtain ⟨hp, g, dr, tk, os⟩ := s
  have hsz : hp.objs.size ≤ hp.objs.size + 1 := Nat.le_succ _
  have hn : H (hp.objs.size + 1) = none := I.hok.fresh hsz
  have kk : ∀ b o, hp.get? b = some o → ((hp.push (PySem.W.kdv_tup [u])).push (PySem.HandSPX.excO C hp.objs.size)).get? b = some o :=
    fun b o e => Heap.get?_push_of_some _ (Heap.get?_push_of_some _ e)
  have hget : ((hp.push (PySem.W.kdv_tup [u])).push (PySem.HandSPX.excO C hp.objs.size)).get? (hp.objs.size + 1) = some (PySem.HandSPX.excO C hp.objs.size) := by
    heap_get
  have I2 := I.laid (t' := tk) (a := hp.objs.size + 1) (o := exo (hp.objs.size + 1) C none) (h' := (hp.push (PySem.W.kdv_tup [u])).push (PySem.HandSPX.excO C hp.objs.size)) kk hsz (exo_ok hget)
  have G := init_ok (P := X.prog) (w := X.w) (mg := X.mg) (base := X.base) (CX := CX0) M.fn M.sup
  have hsp : spInit X.K C fld [.ref (hp.objs.size + 1), y] (upd H (hp.objs.size + 1) (exo (hp.objs.size + 1) C none)) (fun v H2 => v = .non ∧ Q (.ref (hp.objs.size + 1)) H2) (fun _ _ _ => False) := by
    refine ⟨_, C, y, rfl, M.of, upd_same, fun d hd nd => ⟨rfl, ?_⟩⟩
    rw [upd_twice nd]
    rw [upd_ne nd] at hd
    exact h _ d hn hd nd
  refine wpAny_call (PySem.HandSPX.call_own PySem.F.excBase_ValueError (fun Y => PySem.HandSPX.refsVE_contains Y bm hbm) (I.kIn _ _ hC) (PySem.W.looks_findIn I.kIn M.ini)
    (fun z => PySem.W.bind_fn I.kIn z M.ti) (by show 1 ≤ sizeLine; rw [sizeLine_eq]; omega) (codeAny_mono (G.run _ X.stack _ _ ⟨[.ref (hp.objs.size + 1), u], []⟩ [.ref (hp.objs.size + 1), u] [.ref (hp.objs.size + 1), y] _ (fun _ _ _ => False) (hr.make C [u] [])
      (I2.env0.make C [u] []) (M.bp _ [.ref (hp.objs.size + 1), u] I2.kIn rfl) (.cons rfl (.cons ry .nil)) hsp) fun r s' hq => made_back (y := y) I2 hq))
theorem made_kw {y : V} {u : Value} (M : Made X.K X.prog X.mg x fld C fI fd) (hr : Room 1 X.A) (I : Inv X pins σ H s) (ry : RelV y u)
    (h : ∀ a d, H a = none → H d = none → d ≠ a → Q (.ref a) (upd (upd H d (exd d [(fld, y)])) a (exo a C (some d)))) :
    wpAny (model X.prog X.w) X.A (call (.ref C) [] [(fld, u)]) (EP X pins σ Q) X.xe s := by
  obtain ⟨nm, q, N, bs, bm, sn, sub, ab, col, dd, k0, k1, k2, k3, k5, hC, hbm⟩ := M.of.T.cls
  obtain ⟨hp, g, dr, tk, os⟩ := s
  have hsz : hp.objs.size ≤ hp.objs.size + 1 := Nat.le_succ _
  have hn : H (hp.objs.size + 1) = none := I.hok.fresh hsz
  have kk : ∀ b o, hp.get? b = some o → ((hp.push (PySem.W.kdv_tup [])).push (PySem.PX.excO C hp.objs.size)).get? b = some o :=
    fun b o e => Heap.get?_push_of_some _ (Heap.get?_push_of_some _ e)
  have hget : ((hp.push (PySem.W.kdv_tup [])).push (PySem.PX.excO C hp.objs.size)).get? (hp.objs.size + 1) = some (PySem.PX.excO C hp.objs.size) := by
    heap_get
  have I2 := I.laid (t' := tk) (a := hp.objs.size + 1) (o := exo (hp.objs.size + 1) C none) (h' := (hp.push (PySem.W.kdv_tup [])).push (PySem.PX.excO C hp.objs.size)) kk hsz (exo_ok hget)
  have G := init_ok (P := X.prog) (w := X.w) (mg := X.mg) (base := X.base) (CX := CX0) M.fn M.sup
  have hsp : spInit X.K C fld [.ref (hp.objs.size + 1), y] (upd H (hp.objs.size + 1) (exo (hp.objs.size + 1) C none)) (fun v H2 => v = .non ∧ Q (.ref (hp.objs.size + 1)) H2) (fun _ _ _ => False) := by
    refine ⟨_, C, y, rfl, M.of, upd_same, fun d hd nd => ⟨rfl, ?_⟩⟩
    rw [upd_twice nd]
    rw [upd_ne nd] at hd
    exact h _ d hn hd nd
  refine wpAny_call (kw_call PySem.F.excBase_ValueError (fun Y => PySem.HandSPX.refsVE_contains Y bm hbm) (I.kIn _ _ hC) (PySem.W.looks_findIn I.kIn M.ini)
    (fun z => PySem.W.bind_fn I.kIn z M.ti) (codeAny_mono (G.run _ X.stack _ _ ⟨[.ref (hp.objs.size + 1)], [(fld, u)]⟩ [.ref (hp.objs.size + 1), u] [.ref (hp.objs.size + 1), y] _ (fun _ _ _ => False) (hr.make C [] [(fld, u)])
      (I2.env0.make C [] [(fld, u)]) (M.bk _ _ _) (.cons rfl (.cons ry .nil)) hsp) fun r s' hq => made_back (y := y) I2 hq))
end
section
variable {X : Cx} {x fld : Str} {C fI : Addr} {fd : FuncData} {e : Expr} {te : TE} {p pos kpos : Pos}
/-- C(e) -/
theorem pe_excV (M : Made X.K X.prog X.mg x fld C fI fd) (hr : Room 1 X.A) (hg : Gl X x) (he : PE X e te)
    (hdb : (x == ("__debug__" : Str)) = false := by decide) (hs : starEach [e] X.env = (false, eval e X.env) :: starEach [] X.env := by rfl) :
    PE X (.Call (.Name x p) [e] [] pos) (tExc C fld te) := by
  refine ⟨fun pins s σ H Q I h => ?_⟩
  refine wpAny_Call_Name_kw (ld_glob I hg M.at_ ?_ hdb)
  refine PySem.W.callWith_K (h₀ := X.base) I.ok.mod.kin M.of.T.kC ?_ hs (by rfl)
  rw [hs]
  show wpAny _ _ (spliced ((false, eval e X.env) :: backTo pos (starEach [] X.env))) _ _ s
  refine Calls.spliced_cons (thn (he.run pins s σ H _ I h) fun u s1 ⟨v, H1, I1, r1, q1⟩ => ?_)
  refine Calls.spliced_nil ⟨I1.kIn, ?_⟩
  exact made_pos M hr I1 r1 q1
/-- C(f = e) -/
theorem pe_excK (M : Made X.K X.prog X.mg x fld C fI fd) (hr : Room 1 X.A) (hg : Gl X x) (he : PE X e te)
    (hdb : (x == ("__debug__" : Str)) = false := by decide)
    (hall : (backToKw pos (keywordEach [⟨some fld, e, kpos⟩] X.env)).all (·.1.isSome) = true := by rfl) (hks : (backToKw pos (keywordEach [⟨some fld, e, kpos⟩] X.env)).filterMap (·.1) = [fld] := by rfl)
    (hpl : ((backTo pos (starEach [] X.env)).any (·.1) || (backToKw pos (keywordEach [⟨some fld, e, kpos⟩] X.env)).any (·.1.isNone)) = false := by rfl) :
    PE X (.Call (.Name x p) [] [⟨some fld, e, kpos⟩] pos) (tExc C fld te) := by
  refine ⟨fun pins s σ H Q I h => ?_⟩
  refine wpAny_Call_Name_kw (ld_glob I hg M.at_ ?_ hdb)
  refine PySem.W.callWith_KW0 (h₀ := X.base) I.ok.mod.kin M.of.T.kC hall ?_ hpl
  have hk : PK X [⟨some fld, e, kpos⟩] (tCons te tNil) := pk_cons he pk_nil
  refine thn (hk.run pos pins s σ H (fun vs H1 => match vs with
    | [y] => ∀ a d, H1 a = none → H1 d = none → d ≠ a → Q (.ref a) (upd (upd H1 d (exd d [(fld, y)])) a (exo a C (some d)))
    | _ => False) I h) fun ws s2 ⟨zs, H2, I2, rz, q2⟩ => ⟨I2.kIn, ?_⟩
  rw [hks]
  cases rz with
  | nil => exact q2.elim
  | @cons y u _ ur ry rn =>
    cases rn with
    | nil => exact made_kw M hr I2 ry q2
    | cons _ _ => exact q2.elim
end
/-! ### a field, isinstance -/
def tExoF (K : PySem.W.Frag) (f : Str) (te : TE) : TE := fun σ H Q => te σ H fun x H1 => ∃ (a C d : Addr) (fs : List (Str × V)) (v : V), x = .ref a ∧ ExcF K C ∧ PySem.W.hasDictIn K C = true ∧
  PySem.W.findIn K (.ref C) f = some none ∧ H1 a = some (exo a C (some d)) ∧ H1 d = some (exd d fs) ∧ fs.lookup f = some v ∧ Q v H1
section
variable {X : Cx} {e : Expr} {te : TE} {pos : Pos} {f : Str} {pins : List (Addr × Obj)} {σ : St} {H : Hp} {s : Shared}
theorem exo_inst {a C d : Addr} {fs : List (Str × V)} (I : Inv X pins σ H s) (ea : H a = some (exo a C (some d))) (ed : H d = some (exd d fs)) :
    ∃ (t1 : Addr) (od : Obj) (mA : Str → Option Value),
      PySem.W.InstAt s.heap a ({ cls := .ref C, dict := some d, data := .fields #[.ref t1, .none, .none, .none, .bool false, .none] } : Obj) C (some od) ∧
      (∀ n, PySem.W.lookIn n od = some (mA n)) ∧ ∀ n, RelO (fs.lookup n) (mA n) := by
  obtain ⟨t1, ho⟩ := exo_at I.hok ea
  obtain ⟨mA, hns, rel⟩ := exd_at I.hok ed
  obtain ⟨od, hod, hl⟩ := lookIn_ns hns
  exact ⟨t1, od, mA, ⟨ho, rfl, rfl, hod⟩, hl, rel⟩
theorem pe_exoF (he : PE X e te) (hb : attributeBase e f X.env (eval e X.env) = eval e X.env := by rfl) : PE X (.Attribute e f pos) (tExoF X.K f te) := by
  refine ⟨fun pins s σ H Q I h => ?_⟩
  refine attr_of hb (thn (he.run pins s σ H _ I h) fun u s1 hh => ?_)
  obtain ⟨x, H1, I1, rx, a, C, d, fs, v, rfl, T, hd, hno, ea, ed, l, q⟩ := hh
  obtain rfl : u = Value.ref a := rx
  obtain ⟨t1, od, mA, J, hl, rel⟩ := exo_inst I1 ea ed
  have r0 := rel f
  rw [l] at r0
  obtain ⟨u, hu, ru⟩ := RelO.some_of (v := v) (o := mA f) r0
  refine PySem.HandSPX.exc_get I1.kIn J T.hga T.hgt T.sub (PySem.W.findObj_own hd hno rfl ?_) (handed_of ru) ⟨v, H1, I1.tok _, ru, q⟩
  rw [hl, hu]
/-- isinstance(e, c) of an exception e that has a field -/
def rIsX (K : PySem.W.Frag) : List V → Hp → VK → Prop := fun xs H Q => ∃ (a C d : Addr) (fs : List (Str × V)) (c : V) (cv : Value) (b : Bool), xs = [.ref a, c] ∧ ClsV c cv ∧ ExcF K C ∧
  H a = some (exo a C (some d)) ∧ H d = some (exd d fs) ∧ PySem.W.kitOne K (.ref C) cv = some b ∧ Q (.bl b) H
theorem call_isX : CallR X (.builtin "isinstance") (rIsX X.K) := by
  intro pins s σ H xs us Q I r h
  obtain ⟨a, C, d, fs, c, cv, b, rfl, k, T, ea, ed, e, q⟩ := h
  obtain ⟨u1, u2, rfl, r1, r2⟩ := vals2 r
  obtain rfl : u1 = Value.ref a := r1
  have e2 := k.eq r2
  subst e2
  obtain ⟨t1, od, mA, J, _, _⟩ := exo_inst I ea ed
  exact PySem.W.kia_one (PySem.W.kitx_exc T.cls T.hga T.hgt T.sub T.ha T.hn T.tk T.hm) I.kIn J e (fun z => nomatch z) fun tk => ⟨.bl b, H, I.tok tk, rfl, q⟩
end
/-! ### an exception of a class without an __init__ of the program -/
section
variable {X : Cx} {x : Str} {C : Addr} {p pos : Pos} {bb : List Value} {B ni ii : String}
/-- X() -/
theorem pe_exc0 (F : ExcBaseFacts B ni ii bb) (q : PySem.W.excIn X.K C bb ni = true) (gC : X.mg x = some (.ref C)) (kC : PySem.W.keepIn X.K (.ref C) = true) (hg : Gl X x)
    (hdb : (x == ("__debug__" : Str)) = false := by decide) :
    PE X (.Call (.Name x p) [] [] pos) (fun _ H Q => ∀ a, H a = none → Q (.ref a) (upd H a (ExO (.ref C) a))) := by
  refine ⟨fun pins s σ H Q I h => ?_⟩
  refine wpAny_Call_Name_kw (ld_glob I hg gC ?_ hdb)
  refine PySem.W.callWith_KW0 (h₀ := X.base) (kws := []) I.ok.mod.kin kC (by rfl) ?_ (by rfl)
  refine wpAny_evalAll_nil ⟨I.kIn, ?_⟩
  show wpAny _ _ (call (.ref C) [] []) _ _ _
  obtain ⟨bm, N, nm, qn, bs, hdct, sn, sub, ab, col, dd, k0, k1, k2, k3, k5, mN, hC, hN, hni, T⟩ := exc_obj I.kIn q
  refine wpAny_call_exc_subT F T hC hN hni (fun h' a hm => ?_) (by show 0 ≤ sizeLine; exact Nat.zero_le _)
  have hn : H a = none := I.hok.gone hm.new
  obtain ⟨t, ht, _, _⟩ := hm.there
  refine ⟨.ref a, _, I.laidN (t' := s.toks) hm.keeps hm.new hn ?_, rfl, h a hn⟩
  exact exO_ok ht ⟨rfl, rfl⟩ rfl rfl rfl (show 4 < 6 by decide)
/-- isinstance(e, c) of an exception without fields -/
def rIsX0 (K : PySem.W.Frag) : List V → Hp → VK → Prop := fun xs H Q => ∃ (a C : Addr) (c : V) (cv : Value) (b : Bool), xs = [.ref a, c] ∧ ClsV c cv ∧ ExcF K C ∧
  H a = some (ExO (.ref C) a) ∧ PySem.W.kitOne K (.ref C) cv = some b ∧ Q (.bl b) H
theorem call_isX0 : CallR X (.builtin "isinstance") (rIsX0 X.K) := by
  intro pins s σ H xs us Q I r h
  obtain ⟨a, C, c, cv, b, rfl, k, T, ea, e, q⟩ := h
  obtain ⟨u1, u2, rfl, r1, r2⟩ := vals2 r
  obtain rfl : u1 = Value.ref a := r1
  have e2 := k.eq r2
  subst e2
  obtain ⟨⟨oe, vs, ho, hz, hd, _⟩, _, _⟩ := I.hok a _ ea
  have J : PySem.W.InstAt s.heap a oe C none := by
    refine ⟨ho, hz.1, ?_, ?_⟩
    · unfold PySem.W.notCls
      rw [hd] <;> rfl
    · rw [hz.2]
      exact True.intro
  exact PySem.W.kia_one (PySem.W.kitx_exc T.cls T.hga T.hgt T.sub T.ha T.hn T.tk T.hm) I.kIn J e (fun z => nomatch z) fun tk => ⟨.bl b, H, I.tok tk, rfl, q⟩
/-- isinstance(e, c) of both kinds -/
def rIsXA (K : PySem.W.Frag) : List V → Hp → VK → Prop := fun xs H Q => rIsX K xs H Q ∨ rIsX0 K xs H Q
theorem call_isXA : CallR X (.builtin "isinstance") (rIsXA X.K) := by
  intro pins s σ H xs us Q I r h
  rcases h with h | h
  · exact call_isX pins s σ H xs us Q I r h
  · exact call_isX0 pins s σ H xs us Q I r h
end
end My
/-! Readings of tracked lists and tuples that a simp can follow. -/
namespace My
open PySem L2
section
variable {X : Cx}
theorem IxR.imp {r r' : R2} (h : IxR X r) (k : ∀ x y H Q, r' x y H Q → r x y H Q) : IxR X r' := by
  intro value slice pins s σ H x y v u Q I rx ry q
  exact h value slice pins s σ H x y v u Q I rx ry (k _ _ _ _ q)
theorem OpR.imp {f : Value → Value → Sem Value} {r r' : R2} (h : OpR X f r) (k : ∀ x y H Q, r' x y H Q → r x y H Q) : OpR X f r' := by
  intro pins s σ H x y v u Q I rx ry q
  exact h pins s σ H x y v u Q I rx ry (k _ _ _ _ q)
theorem CallR.imp {f : Value} {r r' : List V → Hp → VK → Prop} (h : CallR X f r) (k : ∀ xs H Q, r' xs H Q → r xs H Q) : CallR X f r' := by
  intro pins s σ H xs us Q I rx q
  exact h pins s σ H xs us Q I rx (k _ _ _ q)
/-- xs[i], xs tracked -/
def fIxL : R2 := fun x y H Q => ∃ p i xs v, x = .ref p ∧ y = .int i ∧ H p = some (.lst xs) ∧ atI xs i = some v ∧ Q v H
theorem ixL : IxR X fIxL := by
  refine IxR.imp ix_list ?_
  rintro x y H Q ⟨p, i, xs, v, e1, e2, e3, e4, q⟩
  exact ⟨p, xs, i, v, e1, e2, SqL.of e3, e4, q⟩
def fIxT : R2 := fun x y H Q => ∃ p i xs v, x = .ref p ∧ y = .int i ∧ H p = some (.tup xs) ∧ atI xs i = some v ∧ Q v H
theorem ixT : IxR X fIxT := by
  refine IxR.imp ix_tup ?_
  rintro x y H Q ⟨p, i, xs, v, e1, e2, e3, e4, q⟩
  exact ⟨p, xs, i, v, e1, e2, SqT.of e3, e4, q⟩
/-- len(xs), xs a tracked list -/
def fLenL : List V → Hp → VK → Prop := fun xs H Q => ∃ p ys, xs = [.ref p] ∧ H p = some (.lst ys) ∧ Q (.int ys.length) H
theorem lenL : CallR X (.builtin "len") fLenL := by
  refine CallR.imp call_len_seq ?_
  rintro xs H Q ⟨p, ys, e1, e2, q⟩
  exact ⟨p, ys, e1, .inl (SqL.of e2), q⟩
def fLenT : List V → Hp → VK → Prop := fun xs H Q => ∃ p ys, xs = [.ref p] ∧ H p = some (.tup ys) ∧ Q (.int ys.length) H
theorem lenT : CallR X (.builtin "len") fLenT := by
  refine CallR.imp call_len_seq ?_
  rintro xs H Q ⟨p, ys, e1, e2, q⟩
  exact ⟨p, ys, e1, .inr (SqT.of e2), q⟩
/-- a ** n of any size -/
def CPowW (i j : Int) : Prop := 0 ≤ j ∧ (Builtin.Int.intBits i : Int) * j ≤ 2 ^ 27
theorem op_powW : OpR X (binaryOp .Pow) (rI CPowW fun i j => .int (i ^ j.toNat)) := by
  intro pins s σ H x y v u Q I rx ry q
  obtain ⟨i, j, rfl, rfl, ⟨c1, c2⟩, q⟩ := q
  obtain ⟨t, rfl⟩ := rx
  obtain ⟨t', rfl⟩ := ry
  exact PyProof.Rows.pow_int c1 c2 ⟨.int (i ^ j.toNat), H, I.tok _, ⟨_, rfl⟩, q⟩
/-- two lists of the very same values are not unequal -/
def SameV (x : V) : Prop := flatB x = true ∨ ∃ a, x = .ref a
theorem eq_sameV {A : Around} {s : Shared} {x : V} {u u' : Value} (h : SameV x) (r : RelV x u) (r' : RelV x u') : SeqAt.EqAt A s u u' true := by
  rcases h with f | ⟨a, rfl⟩
  · exact eqAt_same r r' f
  · obtain rfl : u = Value.ref a := r
    obtain rfl : u' = Value.ref a := r'
    exact SeqAt.EqAt.same _
theorem items_sameV {A : Around} {s : Shared} : ∀ {xs : List V} {us ws : List Value}, (∀ x ∈ xs, SameV x) → Vals xs us → Vals xs ws →
    ∀ j (h1 : j < us.length) (h2 : j < ws.length), SeqAt.EqAt A s us[j] ws[j] true
  | _, _, _, _, .nil, .nil, j, h1, _ => absurd h1 (Nat.not_lt_zero _)
  | _, _, _, hx, .cons r k, .cons r' k', 0, _, _ => eq_sameV (hx _ (.head _)) r r'
  | _, _, _, hx, .cons r k, .cons r' k', j + 1, h1, h2 => items_sameV (fun x m => hx x (.tail _ m)) k k' j (Nat.lt_of_succ_lt_succ h1) (Nat.lt_of_succ_lt_succ h2)
def rNeSame : R2 := fun x y H Q => ∃ a b xs, x = .ref a ∧ y = .ref b ∧ H a = some (.lst xs) ∧ H b = some (.lst xs) ∧ (∀ x ∈ xs, SameV x) ∧ Q (.bl false) H
theorem op_neSame (hu : X.A.units < cLine) : OpR X (compareOp .NotEq) rNeSame := by
  intro pins s σ H x y v u Q I rx ry h
  obtain ⟨a, b, xs, rfl, rfl, ha, hb, hx, q⟩ := h
  obtain rfl : v = Value.ref a := rx
  obtain rfl : u = Value.ref b := ry
  obtain ⟨us, r1, p1, _⟩ := I.list (SqL.of ha)
  obtain ⟨ws, r2, p2, _⟩ := I.list (SqL.of hb)
  have hsz : us.toArray.size = ws.toArray.size := by
    rw [List.size_toArray, List.size_toArray, ← r1.length, ← r2.length]
  refine SeqAt.RcNeAt.lists (e := fun _ => true) p1.isList p2.isList hsz hu (fun j h1 h2 => ?_) X.prog X.w _ _ ?_
  · have k := items_sameV (A := X.A.in1) (s := s) hx r1 r2 j (by simpa using h1) (by simpa using h2)
    simpa using k
  · rw [show ((List.range us.toArray.size).all fun _ => true) = true from List.all_eq_true.mpr fun _ _ => rfl]
    exact ⟨.bl false, H, I, rfl, q⟩
end
/-- the exception at a is of the class at C -/
def ExAt (K : PySem.W.Frag) (H : Hp) (a C : Addr) : Prop := ExcF K C ∧ ((∃ (d : Addr) (fs : List (Str × V)), H a = some (exo a C (some d)) ∧ H d = some (exd d fs)) ∨ H a = some (ExO (.ref C) a))
theorem ExAt.same {K : PySem.W.Frag} {H H' : Hp} {a C : Addr} (h : ExAt K H a C) (s : Same H H') : ExAt K H' a C := by
  obtain ⟨T, h⟩ := h
  refine ⟨T, ?_⟩
  rcases h with ⟨d, fs, h1, h2⟩ | h1
  · exact .inl ⟨d, fs, s _ _ h1, s _ _ h2⟩
  · exact .inr (s _ _ h1)
section
variable {X : Cx}
/-- isinstance(e, D), e at a of the class at C, D one of some classes whose answers are known -/
def rIsP (K : PySem.W.Frag) (a C : Addr) (ok : V → Bool → Prop) : List V → Hp → VK → Prop := fun xs H Q => ∃ c b, xs = [.ref a, c] ∧ ok c b ∧ ExAt K H a C ∧ Q (.bl b) H
theorem call_isP {a C : Addr} {ok : V → Bool → Prop} (h : ∀ c b, ok c b → ∃ cv, ClsV c cv ∧ PySem.W.kitOne X.K (.ref C) cv = some b) : CallR X (.builtin "isinstance") (rIsP X.K a C ok) := by
  refine CallR.imp call_isXA ?_
  rintro xs H Q ⟨c, b, rfl, hc, ⟨T, e⟩, q⟩
  obtain ⟨cv, k, e2⟩ := h c b hc
  rcases e with ⟨d, fs, h1, h2⟩ | h1
  · exact .inl ⟨a, C, d, fs, c, cv, b, rfl, k, T, h1, h2, e2, q⟩
  · exact .inr ⟨a, C, c, cv, b, rfl, k, T, h1, e2, q⟩
end
theorem pe_gref {X : Cx} {x : Str} {C : Addr} {pos : Pos} (hg : Gl X x) (hm : X.mg x = some (.ref C)) (hd : (x == ("__debug__" : Str)) = false := by decide) : PE X (.Name x pos) (tC (.ref C)) :=
  pe_glob (v := .ref C) hg hm rfl hd
section
variable {X : Cx}
def rIsQ (K : PySem.W.Frag) (ok : Addr → V → Bool → Prop) : List V → Hp → VK → Prop := fun xs H Q => ∃ a C c b, xs = [.ref a, c] ∧ ok C c b ∧ ExAt K H a C ∧ Q (.bl b) H
theorem call_isQ {ok : Addr → V → Bool → Prop} (h : ∀ C c b, ok C c b → ∃ cv, ClsV c cv ∧ PySem.W.kitOne X.K (.ref C) cv = some b) : CallR X (.builtin "isinstance") (rIsQ X.K ok) := by
  refine CallR.imp call_isXA ?_
  rintro xs H Q ⟨a, C, c, b, rfl, hc, ⟨T, e⟩, q⟩
  obtain ⟨cv, k, e2⟩ := h C c b hc
  rcases e with ⟨d, fs, h1, h2⟩ | h1
  · exact .inl ⟨a, C, d, fs, c, cv, b, rfl, k, T, h1, h2, e2, q⟩
  · exact .inr ⟨a, C, c, cv, b, rfl, k, T, h1, e2, q⟩
end
theorem same_upd2 {H : Hp} {a d : Addr} {o u : HO} (na : H a = none) (nd : H d = none) : Same H (upd (upd H d u) a o) := by
  intro b x e
  rw [upd_ne (ne_of_none e na)]
  rw [upd_ne (ne_of_none e nd)]
  exact e
theorem same_refl {H : Hp} : Same H H := fun _ _ e => e
theorem kinds_eq {cs : List Addr} (nd : cs.Nodup) {i : Nat} {C : Addr} (hi : cs[i]? = some C) :
    cs.map (fun D => V.bl (decide (C = D))) = (List.range cs.length).map (fun j : Nat => V.bl (decide (V.int (0 + (i : Int)) = V.int (0 + (j : Int))))) := by
  apply List.ext_getElem?
  intro n
  rw [List.getElem?_map, List.getElem?_map]
  by_cases hn : n < cs.length
  · rw [List.getElem?_eq_getElem hn, List.getElem?_eq_getElem (by simpa using hn)]
    obtain ⟨hi', rfl⟩ := List.getElem?_eq_some_iff.mp hi
    have e : decide (cs[i] = cs[n]) = decide (V.int (0 + (i : Int)) = V.int (0 + (n : Int))) := by
      refine decide_eq_decide.mpr ⟨fun h => ?_, fun h => ?_⟩
      · have pw := List.pairwise_iff_getElem.mp nd
        have : i = n := by
          rcases Nat.lt_trichotomy i n with l | l | l
          · exact absurd h (pw i n hi' hn l)
          · exact l
          · exact absurd h.symm (pw n i hn hi' l)
        rw [this]
      · have h2 := V.int.inj h
        have : i = n := by omega
        subst this
        rfl
    simp [e]
  · rw [List.getElem?_eq_none (by omega), List.getElem?_eq_none (by simpa using Nat.le_of_not_lt hn)]
    rfl
theorem paired_get {α β : Type} {R : α → β → Prop} : ∀ {xs : List α} {ys : List β}, Paired R xs ys → ∀ {i : Nat} {x : α}, xs[i]? = some x → ∃ y, ys[i]? = some y ∧ R x y
  | _, _, .nil, i, x, h => by simp at h
  | _, _, .cons r k, 0, x, h => by
    cases h
    exact ⟨_, rfl, r⟩
  | _, _, .cons r k, i + 1, x, h => paired_get k (i := i) h
/-! ### the facts of the written part, gathered -/
section
variable {P : Program} {K : PySem.W.Frag} {h : Heap} {mg : Str → Option Value}
theorem excF_mk {C : Addr} {cd : ClassData} (a : PySem.W.clsIn K C = some cd)
    (hga : PySem.W.findIn K (.ref C) "__getattribute__" = some (some (.builtin "BaseException.__getattribute__")))
    (hgt : PySem.W.findIn K (.ref C) "__getattr__" = some none)
    (sub : PySem.W.subIn K (.ref C) (.type "BaseException") = some true)
    (ha : PySem.W.findIn K (.ref C) "__class__" = some (some (.builtin "object.__class__")))
    (hn : PySem.W.specialIn K (.builtin "object.__class__") "__get__" = some (some (.builtin "getset_descriptor.__get__")))
    (tk : PySem.W.takesIn K (.builtin "object.__class__") = some true)
    (hm : PySem.W.mroIn K C (.type "object") = some true) : ExcF K C :=
  ⟨by rw [a]; rfl, hga, hgt, sub, ha, hn, tk, hm⟩
theorem made_mk {x fld : Str} (X : K.In h) (G : h.Ns mainGlobals mg)
    {C fI cda cc N : Addr} {msg name qual file : Str} {j : Nat} {p0 p1 p2 p3 p4 p5 q0 q1 q2 q3 : Pos} {params : Arguments} {ar : Arg} {scope : Scope} {dV kV doc pm ct oc ccl cl : Value} {an od cdd cld : Option Addr}
    {osl ccs csl : Array (Option Value)} {vs : Array Value} {tf : Tok} {cd : ClassData} {nm qn : Str} {bs bm : List Value} {sn : List Str} {sb : List Value} {ab : Bool} {col : Option Bool} {dd : Option Addr} {k0 k1 k2 k3 k5 : Option Value}
    (a1 : PySem.W.nsIn K mainGlobals x = some (some (.ref C)))
    (a2 : PySem.W.findIn K (.ref C) "__init__" = some (some (.ref fI)))
    (a3 : K.lookup fI = some ⟨oc, od, .func (PySem.W.ksFn name qual params (initBody msg fld j p0 p1 p2 p3 p4 p5 q0 q1 q2 q3) scope dV kV doc pm an (.ref cda) ct cc), osl⟩)
    (a4 : PySem.W.codeIn K (.ref cda) qual = true)
    (a7 : K.lookup cda = some ⟨ccl, cdd, .fields vs, ccs⟩)
    (a10 : K.lookup cc = some ⟨cl, cld, .cell (some (.ref C)), csl⟩)
    (a13 : PySem.W.clsIn K C = some cd)
    (b1 : K.lookup C = some (excClassObj nm qn C N bs bm true sn sb ab col dd k0 k1 k2 k3 k5 "ValueError.__new__"))
    (b3 : PySem.W.findIn K (.ref C) "__setattr__" = some (some (.builtin "object.__setattr__")))
    (b5 : PySem.W.typeIn K (.ref C) = some (.type "type"))
    (b6 : PySem.W.keepIn K (.ref C) = true)
    (c1 : PySem.W.mroIn K C (.ref C) = some true)
    (c3 : PySem.W.subIn K (.ref C) (.type "ValueError") = some true)
    (c4 : PySem.W.findIn K (.ref C) fld = some none)
    (ti : PySem.W.typeIn K (.ref fI) = some (.type "function"))
    (zs : PySem.W.nsIn K mainGlobals "super" = some none)
    (zo : PySem.W.nsIn K cStatics "thirdparty.any" = some none)
    (ex : ExcF K C)
    (a5 : (params.posonlyargs ++ params.args).head? = some ar) (a6 : ar.arg = "self")
    (a8 : vs[2]? = some (.str file tf)) (a9 : ((P.main.file : Str) == file) = true)
    (a11 : (p2.endLine == p4.line) = true) (a12 : InitScope scope fld)
    (a14 : (P.main.scope.names.lookup ("super" : Str)).isSome = false)
    (a16 : fld ≠ "self") (a17 : (fld == ("__debug__" : Str)) = false)
    (b2 : PySem.HandSPX.refsVE bm = true)
    (c2 : PySem.W.ks_superIn K C C "__init__" = some (some (.builtin "ValueError.__init__")))
    (e1 : ∀ us : List Value, us.length = 2 → bindArgs (PySem.W.ksFn name qual params (initBody msg fld j p0 p1 p2 p3 p4 p5 q0 q1 q2 q3) scope dV kV doc pm an (.ref cda) ct cc) ⟨us, []⟩ = pure ((["self", fld] : List Str).zip us))
    (e2 : ∀ u v : Value, bindArgs (PySem.W.ksFn name qual params (initBody msg fld j p0 p1 p2 p3 p4 p5 q0 q1 q2 q3) scope dV kV doc pm an (.ref cda) ct cc) ⟨[u], [(fld, v)]⟩ = pure ([("self", u), (fld, v)] : List (Str × Value))) :
    Made K P mg x fld C fI (PySem.W.ksFn name qual params (initBody msg fld j p0 p1 p2 p3 p4 p5 q0 q1 q2 q3) scope dV kV doc pm an (.ref cda) ct cc) where
  fn := ⟨⟨msg, name, qual, file, j, p0, p1, p2, p3, p4, p5, q0, q1, q2, q3, params, ar, scope, dV, kV, doc, pm, ct, oc, ccl, cl, an, od, cdd, cld, osl, ccs, csl, vs, tf, cda, cc, rfl, a3, a4, a5, a6, a7, a8, a9, a10, a11, a12⟩, ⟨cd, a13⟩, a14, zo, a16, a17⟩
  of := ⟨⟨⟨nm, qn, N, bs, bm, sn, sb, ab, col, dd, k0, k1, k2, k3, k5, b1, b2⟩, b3, ex.sub, b5, b6⟩, c1, c2, c3, c4⟩
  bp := .all e1
  bk := fun s u v => BindsTo.of_eq (e2 u v)
  at_ := PySem.W.mg_of X G a1
  ini := a2
  ti := ti
  sup := PySem.W.mg_none_of X G zs
  ex := ex
/-- what isinstance answers for instances of the class at C -/
structure Kit (K : PySem.W.Frag) (cs : List Addr) (L C : Addr) : Prop where
  one : ∀ D ∈ cs, PySem.W.kitOne K (.ref C) (.ref D) = some (decide (C = D))
  root : PySem.W.kitOne K (.ref C) (.ref L) = some true
  ve : PySem.W.kitOne K (.ref C) (.type "ValueError") = some true
def IsCls (K : PySem.W.Frag) (D : Addr) : Prop := (PySem.W.clsIn K D).isSome = true ∧ PySem.W.typeIn K (.ref D) = some (.type "type")
theorem kitOne_ne {C D : Addr} {cd : ClassData} (hc : PySem.W.clsIn K C = some cd) (hm : cd.mro.isEmpty = false) (hD : IsCls K D) (ne : C ≠ D) :
    PySem.W.kitOne K (.ref C) (.ref D) = some (cd.mro.contains (.ref D)) := by
  unfold PySem.W.kitOne
  have e1 : (Value.ref C == Value.ref D) = false := by simpa using ne
  rw [e1, if_neg Bool.false_ne_true]
  have e2 : ((PySem.W.clsIn K D).isSome && PySem.W.typeIn K (.ref D) == some (.type "type")) = true := by
    rw [hD.1, hD.2]
    decide
  show (if ((PySem.W.clsIn K D).isSome && PySem.W.typeIn K (.ref D) == some (.type "type")) = true then PySem.W.mroIn K C (.ref D) else none) = _
  rw [if_pos e2]
  unfold PySem.W.mroIn
  rw [hc, Option.bind_some, hm, if_neg Bool.false_ne_true]
theorem kitOne_same {C : Addr} : PySem.W.kitOne K (.ref C) (.ref C) = some true := by
  unfold PySem.W.kitOne
  rw [beq_self_eq_true, if_pos rfl]
theorem kit_mk {cs : List Addr} {C L : Addr} {cd : ClassData} (hc : PySem.W.clsIn K C = some cd) (hm : cd.mro = .ref C :: .ref L :: PySem.PX.veTail)
    (hD : ∀ D ∈ cs, IsCls K D) (hL : IsCls K L) (nL : ∀ D ∈ cs, L ≠ D) (nC : C ≠ L)
    (ve : PySem.W.kitOne K (.ref C) (.type "ValueError") = some true) : Kit K cs L C := by
  refine ⟨fun D h => ?_, ?_, ve⟩
  · by_cases e : C = D
    · rw [e, kitOne_same]
      simp
    · rw [kitOne_ne hc (by rw [hm]; rfl) (hD D h) e, hm]
      have n1 : D ≠ C := fun z => e z.symm
      have n2 : D ≠ L := fun z => nL D h z.symm
      simp [List.contains_cons, PySem.PX.veTail, e, n1, n2]
  · rw [kitOne_ne hc (by rw [hm]; rfl) hL nC, hm]
    simp [List.contains_cons]
theorem kit_mkL {cs : List Addr} {L : Addr} {cd : ClassData} (hc : PySem.W.clsIn K L = some cd) (hm : cd.mro = .ref L :: PySem.PX.veTail)
    (hD : ∀ D ∈ cs, IsCls K D) (nL : ∀ D ∈ cs, L ≠ D)
    (ve : PySem.W.kitOne K (.ref L) (.type "ValueError") = some true) : Kit K cs L L := by
  refine ⟨fun D h => ?_, kitOne_same, ve⟩
  have e := nL D h
  have n1 : D ≠ L := fun z => e z.symm
  rw [kitOne_ne hc (by rw [hm]; rfl) (hD D h) e, hm]
  simp [List.contains_cons, PySem.PX.veTail, e, n1]
end
theorem kit_ve {K : PySem.W.Frag} {C : Addr} (h : PySem.W.subIn K (.ref C) (.type "ValueError") = some true) : PySem.W.kitOne K (.ref C) (.type "ValueError") = some true := by
  have e : PySem.W.kitMeta "ValueError" = true := by decide +kernel
  show (if (Value.ref C == Value.type "ValueError") = true then some true else (if PySem.W.kitMeta "ValueError" = true then PySem.W.subIn K (.ref C) (.type "ValueError") else none)) = some true
  rw [if_neg (by simp), if_pos e]
  exact h
end My
/-! Comprehensions by an invariant; what a list holds, item by item. -/
namespace My
open PySem L2 PySem.Calls PyProof.Rows
def Gives (F : Nat → V → Prop) (n : Nat) (ys : List V) : Prop := ys.length = n ∧ ∀ j y, ys[j]? = some y → F j y
theorem Gives.snoc {F : Nat → V → Prop} {n : Nat} {ys : List V} {y : V} (h : Gives F n ys) (hy : F n y) : Gives F (n + 1) (ys ++ [y]) := by
  obtain ⟨h1, h2⟩ := h
  refine ⟨by rw [List.length_append, h1]; rfl, fun j z hz => ?_⟩
  by_cases hj : j < ys.length
  · rw [List.getElem?_append_left hj] at hz
    exact h2 j z hz
  · have hj2 : j < (ys ++ [y]).length := (List.getElem?_eq_some_iff.mp hz).1
    rw [List.length_append, List.length_singleton] at hj2
    have e : j = ys.length := by omega
    rw [e, List.getElem?_append_right (Nat.le_refl _), Nat.sub_self] at hz
    cases hz
    rw [e, h1]
    exact hy
/-- each item is told by its place -/
theorem Gives.map {F : Nat → V → Prop} {n : Nat} {ys : List V} {f : Nat → V} (h : Gives F n ys) (hf : ∀ j y, j < n → F j y → y = f j) : ys = (List.range n).map f := by
  obtain ⟨h1, h2⟩ := h
  apply List.ext_getElem?
  intro j
  rw [List.getElem?_map]
  by_cases hj : j < ys.length
  · rw [List.getElem?_eq_getElem hj, List.getElem?_eq_getElem (by simpa [← h1] using hj)]
    have := hf j _ (by omega) (h2 j _ (List.getElem?_eq_getElem hj))
    simp [this]
  · rw [List.getElem?_eq_none (by omega), List.getElem?_eq_none (by simp; omega)]
    rfl
section
variable {K : PySem.W.Frag} {a D : Addr} {xs : List V} {i : Nat} {vs : List Nat} {te : TE} {σ : L2.St} {H1 : Hp} {Qd : Hp → Prop} {F : Nat → V → Prop}
theorem comp_list (I : Nat → Hp → Prop) (F : Nat → V → Prop) (h0 : I 0 H1) (hI : ∀ j H o, I j H → I j (upd H D o)) (hS : ∀ j H, I j H → SqL K H a xs) (sz : xs.length ≤ 1000)
    (hw : ∀ x, wipe ((wipe σ vs).set i (some x)) vs = wipe σ vs)
    (hs : ∀ j x H, xs[j]? = some x → I j H → ∀ R : VK, (∀ y H4, F j y → I (j + 1) H4 → H4 D = H D → R y H4) → te ((wipe σ vs).set i (some x)) H R)
    (hd : ∀ H ys, I xs.length H → H D = some (.lst ys) → Gives F xs.length ys → Qd H) :
    ∃ W : Nat → Nat → Hp → Prop, (∃ m, W 0 m (upd H1 D (.lst []))) ∧ ∀ i0 m H, W i0 m H →
      ((Itl K a).stop i0 H ∧ Qd H) ∨ ((Itl K a).go i0 H ∧ ∃ Nx : Hp → Prop, (∀ H', Nx H' → ∃ m', m' < m ∧ W (i0 + 1) m' H') ∧ ∀ x H', (Itl K a).yld i0 H x H' → gName i x (wipe σ vs) H' fun σ2 H2 => wipe σ2 vs = wipe σ vs ∧ tYes σ2 H2 fun b H3 =>
        if b = true then te σ2 H3 fun y H4 => ∃ acc, H4 D = some (.lst acc) ∧ acc.length < sizeLine ∧ Nx (upd H4 D (.lst (acc ++ [y]))) else Nx H3) := by
  refine lc_list (fun j H => I j H ∧ ∃ ys, H D = some (.lst ys) ∧ Gives F j ys) ⟨hI 0 _ _ h0, [], upd_same, rfl, fun j y h => by cases h⟩ (fun j H _ h => hS j H h.1) ?_ ?_
  · rintro j x H hx ⟨hj, ys, e, g⟩
    refine ⟨hw x, ?_⟩
    dsimp only [tYes]
    rw [if_pos rfl]
    refine hs j x H hx hj _ fun y H4 hy hj4 e4 => ⟨ys, e4.trans e, ?_, hI _ _ _ hj4, _, upd_same, g.snoc hy⟩
    rw [g.1]
    have := (List.getElem?_eq_some_iff.mp hx).1
    exact Nat.lt_of_lt_of_le (by omega : j < 1001) (by decide)
  · rintro H ⟨hj, ys, e, g⟩
    exact hd H ys hj e g
theorem comp_tup (I : Nat → Hp → Prop) (F : Nat → V → Prop) (h0 : I 0 H1) (hI : ∀ j H o, I j H → I j (upd H D o)) (hS : ∀ j H, I j H → SqT K H a xs) (sz : xs.length ≤ 1000)
    (hw : ∀ x, wipe ((wipe σ vs).set i (some x)) vs = wipe σ vs)
    (hs : ∀ j x H, xs[j]? = some x → I j H → ∀ R : VK, (∀ y H4, F j y → I (j + 1) H4 → H4 D = H D → R y H4) → te ((wipe σ vs).set i (some x)) H R)
    (hd : ∀ H ys, I xs.length H → H D = some (.lst ys) → Gives F xs.length ys → Qd H) :
    ∃ W : Nat → Nat → Hp → Prop, (∃ m, W 0 m (upd H1 D (.lst []))) ∧ ∀ i0 m H, W i0 m H →
      ((Itt K a).stop i0 H ∧ Qd H) ∨ ((Itt K a).go i0 H ∧ ∃ Nx : Hp → Prop, (∀ H', Nx H' → ∃ m', m' < m ∧ W (i0 + 1) m' H') ∧ ∀ x H', (Itt K a).yld i0 H x H' → gName i x (wipe σ vs) H' fun σ2 H2 => wipe σ2 vs = wipe σ vs ∧ tYes σ2 H2 fun b H3 =>
        if b = true then te σ2 H3 fun y H4 => ∃ acc, H4 D = some (.lst acc) ∧ acc.length < sizeLine ∧ Nx (upd H4 D (.lst (acc ++ [y]))) else Nx H3) := by
  refine lc_tup (fun j H => I j H ∧ ∃ ys, H D = some (.lst ys) ∧ Gives F j ys) ⟨hI 0 _ _ h0, [], upd_same, rfl, fun j y h => by cases h⟩ (fun j H _ h => hS j H h.1) ?_ ?_
  · rintro j x H hx ⟨hj, ys, e, g⟩
    refine ⟨hw x, ?_⟩
    dsimp only [tYes]
    rw [if_pos rfl]
    refine hs j x H hx hj _ fun y H4 hy hj4 e4 => ⟨ys, e4.trans e, ?_, hI _ _ _ hj4, _, upd_same, g.snoc hy⟩
    rw [g.1]
    have := (List.getElem?_eq_some_iff.mp hx).1
    exact Nat.lt_of_lt_of_le (by omega : j < 1001) (by decide)
  · rintro H ⟨hj, ys, e, g⟩
    exact hd H ys hj e g
theorem comp_range {lo : Int} {n : Nat} (I : Nat → Hp → Prop) (F : Nat → V → Prop) (h0 : I 0 H1) (hI : ∀ j H o, I j H → I j (upd H D o)) (sz : n ≤ 1000)
    (hw : ∀ x, wipe ((wipe σ vs).set i (some x)) vs = wipe σ vs)
    (hs : ∀ j H, j < n → I j H → ∀ R : VK, (∀ y H4, F j y → I (j + 1) H4 → H4 D = H D → R y H4) → te ((wipe σ vs).set i (some (.int (lo + j)))) H R)
    (hd : ∀ H ys, I n H → H D = some (.lst ys) → Gives F n ys → Qd H) :
    ∃ W : Nat → Nat → Hp → Prop, (∃ m, W 0 m (upd H1 D (.lst []))) ∧ ∀ i0 m H, W i0 m H →
      ((Itr lo n).stop i0 H ∧ Qd H) ∨ ((Itr lo n).go i0 H ∧ ∃ Nx : Hp → Prop, (∀ H', Nx H' → ∃ m', m' < m ∧ W (i0 + 1) m' H') ∧ ∀ x H', (Itr lo n).yld i0 H x H' → gName i x (wipe σ vs) H' fun σ2 H2 => wipe σ2 vs = wipe σ vs ∧ tYes σ2 H2 fun b H3 =>
        if b = true then te σ2 H3 fun y H4 => ∃ acc, H4 D = some (.lst acc) ∧ acc.length < sizeLine ∧ Nx (upd H4 D (.lst (acc ++ [y]))) else Nx H3) := by
  refine lc_range (fun j H => I j H ∧ ∃ ys, H D = some (.lst ys) ∧ Gives F j ys) ⟨hI 0 _ _ h0, [], upd_same, rfl, fun j y h => by cases h⟩ ?_ ?_
  · rintro j H hx ⟨hj, ys, e, g⟩
    refine ⟨hw _, ?_⟩
    dsimp only [tYes]
    rw [if_pos rfl]
    refine hs j H hx hj _ fun y H4 hy hj4 e4 => ⟨ys, e4.trans e, ?_, hI _ _ _ hj4, _, upd_same, g.snoc hy⟩
    rw [g.1]
    exact Nat.lt_of_lt_of_le (by omega : j < 1001) (by decide)
  · rintro H ⟨hj, ys, e, g⟩
    exact hd H ys hj e g
end
/-- for i, x in enumerate(xs) -/
theorem for_enum {K : PySem.W.Frag} {a : Addr} {xs : List V} {g : TG} {tb : TS} {D : Ends} {σ : L2.St} {H : Hp} (Pv : Nat → L2.St → Hp → Prop) (h0 : Pv 0 σ H)
    (hl : ∀ i σ H, i ≤ xs.length → Pv i σ H → SqL K H a xs)
    (hs : ∀ i x T σ H, xs[i]? = some x → Pv i σ H → H T = none → g (.ref T) σ (upd H T (.tup [.int (i : Nat), x])) fun σ2 H2 => tb { D with nx := Pv (i + 1), ct := Pv (i + 1), bk := D.nx } σ2 H2)
    (hd : ∀ σ H, Pv xs.length σ H → D.nx σ H) :
    ∃ W : Nat → Nat → L2.St → Hp → Prop, (∃ m, W 0 m σ H) ∧ ∀ i m σ H, W i m σ H →
      ((Ite K a).stop i H ∧ D.nx σ H) ∨ ((Ite K a).go i H ∧ ∃ N : L2.St → Hp → Prop, (∀ σ' H', N σ' H' → ∃ m', m' < m ∧ W (i + 1) m' σ' H') ∧
        ∀ x H', (Ite K a).yld i H x H' → g x σ H' fun σ2 H2 => tb { D with nx := N, ct := N, bk := D.nx } σ2 H2) := by
  refine ⟨fun i m σ H => m + i = xs.length ∧ Pv i σ H, ⟨xs.length, rfl, h0⟩, ?_⟩
  rintro i m σ H ⟨e, p⟩
  have q := hl i σ H (by omega) p
  by_cases hlt : i < xs.length
  · refine .inr ⟨⟨xs, xs[i], q, List.getElem?_eq_getElem hlt⟩, Pv (i + 1), fun σ' H' p' => ⟨m - 1, by omega, by omega, p'⟩, ?_⟩
    rintro x H' ⟨T, y, rfl, nT, rfl, fv⟩
    exact hs i y T σ H (fv xs q) p nT
  · have ei : i = xs.length := by omega
    subst ei
    exact .inl ⟨⟨xs, q, Nat.le_refl _⟩, hd σ H p⟩
/-- an int as a test -/
theorem pt_truthI {X : Cx} {a : Expr} {ta : TE} (ha : PE X a ta) (he : ∀ whole, isTrue a X.env whole = (do let v ← whole; standAt a.pos; holding [v] (truthy v))) :
    PT X a (fun σ H Q => ta σ H fun x H' => ∃ i, x = .int i ∧ Q (i != 0) H') := by
  refine ⟨fun pins s σ H Q I h => ?_⟩
  refine isTrue_plain (thn (ha.run pins s σ H _ I h) fun v s1 ⟨x, H1, I1, r1, q1⟩ => ?_) (he _)
  obtain ⟨i, rfl, q⟩ := q1
  exact tru_ok pins s1 σ H1 (.int i) v Q I1 r1 ⟨_, rfl, q⟩
section
variable {K : PySem.W.Frag} {a D : Addr} {xs : List V} {i : Nat} {vs : List Nat} {te : TE} {σ : L2.St} {H1 : Hp} {Qd : Hp → Prop}
theorem comp_listI (I : Nat → List V → Hp → Prop) (h0 : I 0 [] (upd H1 D (.lst []))) (hS : ∀ j ys H, I j ys H → SqL K H a xs) (sz : xs.length ≤ 1000)
    (hw : ∀ x, wipe ((wipe σ vs).set i (some x)) vs = wipe σ vs)
    (hs : ∀ j x ys H, xs[j]? = some x → I j ys H → H D = some (.lst ys) → ∀ R : VK, (∀ y H4, H4 D = some (.lst ys) → I (j + 1) (ys ++ [y]) (upd H4 D (.lst (ys ++ [y]))) → R y H4) → te ((wipe σ vs).set i (some x)) H R)
    (hd : ∀ H ys, I xs.length ys H → H D = some (.lst ys) → ys.length = xs.length → Qd H) :
    ∃ W : Nat → Nat → Hp → Prop, (∃ m, W 0 m (upd H1 D (.lst []))) ∧ ∀ i0 m H, W i0 m H →
      ((Itl K a).stop i0 H ∧ Qd H) ∨ ((Itl K a).go i0 H ∧ ∃ Nx : Hp → Prop, (∀ H', Nx H' → ∃ m', m' < m ∧ W (i0 + 1) m' H') ∧ ∀ x H', (Itl K a).yld i0 H x H' → gName i x (wipe σ vs) H' fun σ2 H2 => wipe σ2 vs = wipe σ vs ∧ tYes σ2 H2 fun b H3 =>
        if b = true then te σ2 H3 fun y H4 => ∃ acc, H4 D = some (.lst acc) ∧ acc.length < sizeLine ∧ Nx (upd H4 D (.lst (acc ++ [y]))) else Nx H3) := by
  refine lc_list (fun j H => ∃ ys, I j ys H ∧ H D = some (.lst ys) ∧ ys.length = j) ⟨[], h0, upd_same, rfl⟩ (fun j H _ ⟨ys, h, _⟩ => hS j ys H h) ?_ ?_
  · rintro j x H hx ⟨ys, hj, e, g⟩
    refine ⟨hw x, ?_⟩
    dsimp only [tYes]
    rw [if_pos rfl]
    refine hs j x ys H hx hj e _ fun y H4 e4 hj4 => ⟨ys, e4, ?_, ys ++ [y], hj4, upd_same, by rw [List.length_append, g]; rfl⟩
    rw [g]
    have := (List.getElem?_eq_some_iff.mp hx).1
    exact Nat.lt_of_lt_of_le (by omega : j < 1001) (by decide)
  · rintro H ⟨ys, hj, e, g⟩
    exact hd H ys hj e g
end
end My
/-! The signs of whole numbers' texts. -/
namespace My
open PySem L2 PySem.Calls PyProof.Rows
open TL NumText
def tx (i : Int) : Str := Str.ofString (toString i)
theorem tl_pos (n : Nat) : tl (tx (n : Int)) = numL n := tl_num n
theorem toString_negSucc (n : Nat) : toString (Int.negSucc n) = "-" ++ toString (((n + 1 : Nat)) : Int) := rfl
theorem tl_neg (n : Nat) : tl (tx (Int.negSucc n)) = 45 :: numL (n + 1) := by
  unfold tx
  rw [tl_ofString, toString_negSucc, String.toList_append, List.map_append, ← tl_ofString (toString (((n + 1 : Nat)) : Int)), tl_num]
  rfl
/-- sizes that are carried -/
def Sz (i : Int) : Prop := i.natAbs < 10 ^ 60
theorem Sz.log {i : Int} (h : Sz i) : i.natAbs.log2 < 1920 := by
  unfold Sz at h
  by_cases z : i.natAbs = 0
  · rw [z]
    decide
  · have h1 := Nat.log2_lt z (k := 200)
    have h2 : i.natAbs < 2 ^ 200 := Nat.lt_trans h (by decide)
    have := h1.mpr h2
    omega
theorem tx_len {i : Int} (h : Sz i) : (tx i).length ≤ 61 := by
  unfold Sz at h
  rw [len_tl]
  cases i with
  | ofNat n =>
    show (tl (tx (n : Int))).length ≤ 61
    rw [tl_pos]
    have := numL_len (n := n) (k := 60) (by decide) h
    omega
  | negSucc n =>
    rw [tl_neg, List.length_cons]
    have := numL_len (n := n + 1) (k := 60) (by decide) h
    omega
theorem tx_free {i : Int} {c : Nat} (h1 : c < 48 ∨ 57 < c) (h2 : c ≠ 45) : c ∉ tl (tx i) := by
  cases i with
  | ofNat n =>
    show c ∉ tl (tx (n : Int))
    rw [tl_pos]
    exact numL_free h1
  | negSucc n =>
    rw [tl_neg]
    intro hm
    rcases List.mem_cons.mp hm with e | e
    · exact h2 e
    · exact numL_free h1 e
theorem tx_ne {i : Int} : tl (tx i) ≠ [] := by
  cases i with
  | ofNat n =>
    show tl (tx (n : Int)) ≠ []
    rw [tl_pos]
    exact numL_ne n
  | negSucc n =>
    rw [tl_neg]
    simp
theorem tx_int {i : Int} (h : Sz i) : intText? (tx i) = some i := by
  have hl := tx_len h
  cases i with
  | ofNat n =>
    have e : tl (tx (Int.ofNat n)) = numL n := tl_pos n
    exact int_num (by rw [len_tl, e] at hl; omega)
  | negSucc n =>
    have := intText_neg (x := tx (Int.negSucc n)) (tl_neg n) (numL_digits _) (numL_ne _) (by omega)
    rw [this, numL_val]
    congr 1
theorem tx_inj {i j : Int} (hi : Sz i) (hj : Sz j) (h : tx i = tx j) : i = j := by
  have := tx_int hi
  rw [h, tx_int hj] at this
  exact (Option.some.inj this).symm
theorem not_mem_of {c : Nat} {x : Str} (h : c ∉ tl x) {y : Str} (hy : c ∈ tl y) : x ≠ y := fun e => h (e ▸ hy)
/-- what begins with a sign -/
theorem starts_one (x : Str) (c : Nat) : Txt.startswith x ⟨#[c]⟩ = decide ((tl x)[0]? = some c) := by
  have h := StrLaws.subAt_one x c 0
  unfold Txt.startswith
  by_cases e : (tl x)[0]? = some c
  · obtain ⟨h1, h2⟩ := h.mpr e
    rw [h2, decide_eq_true h1, decide_eq_true e]
    rfl
  · rw [decide_eq_false e]
    by_cases g : 0 + (⟨#[c]⟩ : Str).length ≤ x.length
    · by_cases g2 : Builtin.Str.subAt x ⟨#[c]⟩ 0 = true
      · exact absurd (h.mp ⟨g, g2⟩) e
      · rw [Bool.eq_false_iff.mpr g2, Bool.and_false]
    · rw [decide_eq_false g]
      rfl
theorem numL_head (n : Nat) : (n = 0 ∧ numL n = [48]) ∨ ∃ c r, numL n = c :: r ∧ 49 ≤ c ∧ c ≤ 57 := by
  induction n using Nat.strongRecOn with
  | _ n ih =>
    by_cases h : n < 10
    · rw [numL_lt h]
      by_cases z : n = 0
      · subst z
        exact .inl ⟨rfl, rfl⟩
      · exact .inr ⟨48 + n, [], rfl, by omega, by omega⟩
    · rw [numL_step (by omega)]
      rcases ih (n / 10) (by omega) with ⟨z, _⟩ | ⟨c, r, e, h1, h2⟩
      · omega
      · exact .inr ⟨c, r ++ [48 + n % 10], by rw [e]; rfl, h1, h2⟩
theorem starts_minus (i : Int) : Txt.startswith (tx i) "-" = decide (i < 0) := by
  rw [show (("-" : String) : Str) = ⟨#[45]⟩ from rfl, starts_one]
  cases i with
  | ofNat n =>
    have e : tl (tx (Int.ofNat n)) = numL n := tl_pos n
    rw [e]
    have a : ¬ (numL n)[0]? = some 45 := by
      rcases numL_head n with ⟨_, h⟩ | ⟨c, r, h, h1, h2⟩
      · rw [h]
        simp
      · rw [h]
        simp
        omega
    rw [decide_eq_false a, decide_eq_false (show ¬ (Int.ofNat n < 0) from Int.not_lt.mpr (Int.natCast_nonneg n))]
  | negSucc n =>
    rw [tl_neg, decide_eq_true (by rfl), decide_eq_true (by omega)]
theorem cut_minus (n : Nat) : cutS (tx (Int.negSucc n)) (some 1) none = tx ((n + 1 : Nat) : Int) := by
  apply ext_tl
  rw [tl_pos]
  unfold cutS
  show ((tl (tx (Int.negSucc n))).drop _).take _ = _
  rw [len_tl, tl_neg]
  have h1 : HT.sIx (45 :: numL (n + 1)).length 0 (some 1) = 1 := by
    have : 1 ≤ (45 :: numL (n + 1)).length := by simp
    simp only [HT.sIx]
    first | omega | (simp; omega) | simp
  have h2 : HT.sIx (45 :: numL (n + 1)).length (45 :: numL (n + 1)).length none = (45 :: numL (n + 1)).length := by
    simp [HT.sIx]
  rw [h1, h2]
  simp
theorem num_ascii (n : Nat) : Txt.isascii (tx (n : Int)) = true := by
  unfold Txt.isascii
  rw [← Array.all_toList, List.all_eq_true]
  intro c hc
  have h := numL_digits n c (by rw [← tl_pos]; exact hc)
  exact decide_eq_true (by omega)
theorem isDigit_dec : ∀ c : Nat, c < 58 → 48 ≤ c → Unicode.isDigit c = true := by decide +kernel
theorem num_isdigit (n : Nat) : Txt.isdigit (tx (n : Int)) = true := by
  unfold Txt.isdigit
  rw [Bool.and_eq_true]
  constructor
  · apply decide_eq_true
    rw [len_tl, tl_pos]
    exact List.length_pos_iff.mpr (numL_ne n)
  · rw [← Array.all_toList, List.all_eq_true]
    intro c hc
    have h := numL_digits n c (by rw [← tl_pos]; exact hc)
    exact isDigit_dec c (by omega) (by omega)
theorem starts_zero (n : Nat) : Txt.startswith (tx (n : Int)) "0" = decide (n = 0) := by
  rw [show (("0" : String) : Str) = ⟨#[48]⟩ from rfl, starts_one, tl_pos]
  rcases numL_head n with ⟨e, h⟩ | ⟨c, r, h, h1, h2⟩
  · rw [h, e]
    rfl
  · rw [h]
    have e : n ≠ 0 := fun z => by
      rw [z, numL_lt (by decide)] at h
      cases h
      omega
    rw [decide_eq_false e, decide_eq_false]
    simp
    omega
theorem tx_zero : tx 0 = "0" := by decide +kernel
theorem num_len2 {n : Nat} (h : n < 100) : (tx (n : Int)).length ≤ 2 := by
  rw [len_tl, tl_pos]
  exact numL_len (by decide) (by omega)
end My
namespace My
open PySem L2 PySem.Calls PyProof.Rows
open TL NumText
theorem tx_digit (i : Int) : ∃ c ∈ tl (tx i), 48 ≤ c := by
  have h : ∀ n : Nat, ∃ c ∈ numL n, 48 ≤ c := fun n => by
    obtain ⟨c, r, e⟩ := List.exists_cons_of_ne_nil (numL_ne n)
    have : c ∈ numL n := by rw [e]; exact .head _
    exact ⟨c, this, (numL_digits n c this).1⟩
  cases i with
  | ofNat n =>
    rw [show tl (tx (Int.ofNat n)) = numL n from tl_pos n]
    exact h n
  | negSucc n =>
    rw [tl_neg]
    obtain ⟨c, m, l⟩ := h (n + 1)
    exact ⟨c, .tail _ m, l⟩
theorem mem_joinL {S : List Nat} {c : Nat} : ∀ {ps : List (List Nat)} {p : List Nat}, p ∈ ps → c ∈ p → c ∈ joinL S ps
  | [], _, h, _ => nomatch h
  | [q], p, h, m => by
    rw [List.mem_singleton.mp h] at m
    exact m
  | q :: r :: t, p, h, m => by
    show c ∈ q ++ (S ++ joinL S (r :: t))
    rcases List.mem_cons.mp h with e | e
    · rw [← e]
      exact List.mem_append_left _ m
    · exact List.mem_append_right _ (List.mem_append_right _ (mem_joinL e m))
theorem join_not_dash {ns : List Int} (h : ns ≠ []) : Txt.join (" " : Str) (ns.map tx) ≠ ("-" : Str) := by
  intro e
  obtain ⟨n, r, rfl⟩ := List.exists_cons_of_ne_nil h
  obtain ⟨c, m, l⟩ := tx_digit n
  have m2 : c ∈ tl (Txt.join (" " : Str) ((n :: r).map tx)) := by
    rw [join_eq, tl_join]
    exact mem_joinL (List.mem_map_of_mem (List.mem_map_of_mem (.head _))) m
  rw [e] at m2
  have : c = 45 := List.mem_singleton.mp m2
  omega
theorem split_txs {ns : List Int} (h : ns ≠ []) : Txt.split (Txt.join (" " : Str) (ns.map tx)) (" " : Str) = ns.map tx := by
  refine split_join (s := 32) (S := []) (by decide +kernel) (by decide +kernel) (by simpa using h) ?_
  intro p hp
  obtain ⟨n, _, rfl⟩ := List.mem_map.mp hp
  exact tx_free (.inl (by decide)) (by decide)
end My
namespace My
open PySem L2 PySem.Calls PyProof.Rows
open TL NumText
theorem joinL_mem {S : List Nat} {c : Nat} : ∀ {ps : List (List Nat)}, c ∈ joinL S ps → c ∈ S ∨ ∃ p ∈ ps, c ∈ p
  | [], h => nomatch h
  | [q], h => .inr ⟨q, .head _, h⟩
  | q :: r :: t, h => by
    have h' : c ∈ q ++ (S ++ joinL S (r :: t)) := h
    rcases List.mem_append.mp h' with m | m
    · exact .inr ⟨q, .head _, m⟩
    · rcases List.mem_append.mp m with m | m
      · exact .inl m
      · rcases joinL_mem m with e | ⟨p, hp, m⟩
        · exact .inl e
        · exact .inr ⟨p, .tail _ hp, m⟩
theorem join_free {y : Str} {ps : List Str} {c : Nat} (h1 : c ∉ tl y) (h2 : ∀ p ∈ ps, c ∉ tl p) : c ∉ tl (Txt.join y ps) := by
  rw [join_eq, tl_join]
  intro h
  rcases joinL_mem h with m | ⟨p, hp, m⟩
  · exact h1 m
  · obtain ⟨q, hq, rfl⟩ := List.mem_map.mp hp
    exact h2 q hq m
theorem cut_front (x y : Str) : cutS (x ++ y) (some (x.length : Int)) none = y := by
  apply ext_tl
  unfold cutS
  show ((tl (x ++ y)).drop _).take _ = _
  have e : (tl (x ++ y)).length = (x ++ y).length := (len_tl _).symm
  have e2 : (x ++ y).length = x.length + y.length := by rw [len_tl, tl_append, List.length_append, ← len_tl, ← len_tl]
  have h1 : HT.sIx (x ++ y).length 0 (some (x.length : Int)) = x.length := by
    rw [e2]
    simp only [HT.sIx]
    first | omega | (simp; omega) | simp
  have h2 : HT.sIx (x ++ y).length (x ++ y).length none = (x ++ y).length := by simp [HT.sIx]
  rw [h1, h2, tl_append, len_tl x, List.drop_left, List.take_of_length_le]
  rw [e2, len_tl x, len_tl y]
  omega
end My
/-! Comprehensions that only make new things: the list of g of each item. -/
namespace My
open PySem L2 PySem.Calls PyProof.Rows
theorem same_upd3 {H : Hp} {p : Addr} {o : HO} (h : H p = none) : Same H (upd H p o) := by
  intro b x e
  rw [upd_ne (ne_of_none e h)]
  exact e
section
variable {K : PySem.W.Frag} {a D : Addr} {xs : List V} {i : Nat} {vs : List Nat} {te : TE} {σ : L2.St} {H1 : Hp} {Qd : Hp → Prop}
theorem map_listS (gs : List V) (hl : gs.length = xs.length) (hS : ∀ H, Same H1 H → SqL K H a xs) (nD : H1 D = none) (sz : xs.length ≤ 1000)
    (hw : ∀ x, wipe ((wipe σ vs).set i (some x)) vs = wipe σ vs)
    (hs : ∀ (j : Nat) (x y : V) (H : Hp), xs[j]? = some x → gs[j]? = some y → Same H1 H → ∀ R : VK, (∀ H4, Same H H4 → R y H4) → te ((wipe σ vs).set i (some x)) H R)
    (hd : ∀ H, Same H1 H → H D = some (.lst gs) → Qd H) :
    ∃ W : Nat → Nat → Hp → Prop, (∃ m, W 0 m (upd H1 D (.lst []))) ∧ ∀ i0 m H, W i0 m H →
      ((Itl K a).stop i0 H ∧ Qd H) ∨ ((Itl K a).go i0 H ∧ ∃ Nx : Hp → Prop, (∀ H', Nx H' → ∃ m', m' < m ∧ W (i0 + 1) m' H') ∧ ∀ x H', (Itl K a).yld i0 H x H' → gName i x (wipe σ vs) H' fun σ2 H2 => wipe σ2 vs = wipe σ vs ∧ tYes σ2 H2 fun b H3 =>
        if b = true then te σ2 H3 fun y H4 => ∃ acc, H4 D = some (.lst acc) ∧ acc.length < sizeLine ∧ Nx (upd H4 D (.lst (acc ++ [y]))) else Nx H3) := by
  refine lc_list (fun j H => Same H1 H ∧ H D = some (.lst (gs.take j))) ⟨same_upd3 nD, upd_same⟩ (fun j H _ h => hS H h.1) ?_ ?_
  · rintro j x H hx ⟨hj, e⟩
    refine ⟨hw x, ?_⟩
    dsimp only [tYes]
    rw [if_pos rfl]
    have hlt := (List.getElem?_eq_some_iff.mp hx).1
    have hy : gs[j]? = some gs[j] := List.getElem?_eq_getElem (by omega)
    refine hs j x _ H hx hy hj _ fun H4 s4 => ⟨_, s4 _ _ e, ?_, ?_, ?_⟩
    · rw [List.length_take]
      exact Nat.lt_of_lt_of_le (by omega : _ < 1001) (by decide)
    · intro b u e2
      rw [upd_ne (ne_of_none e2 nD)]
      exact s4 _ _ (hj _ _ e2)
    · rw [upd_same, List.take_succ, hy]
      rfl
  · rintro H ⟨hj, e⟩
    rw [← hl, List.take_length] at e
    exact hd H hj e
theorem map_listG (gs : List V) (hl : gs.length = xs.length) (hS : H1 a = some (.lst xs)) (nD : H1 D = none) (sz : xs.length ≤ 1000)
    (hw : ∀ x, wipe ((wipe σ vs).set i (some x)) vs = wipe σ vs)
    (hs : ∀ (j : Nat) (x y : V) (H : Hp), xs[j]? = some x → gs[j]? = some y → Same H1 H → ∀ R : VK, (∀ H4, Same H H4 → R y H4) → te ((wipe σ vs).set i (some x)) H R)
    (hd : ∀ H, Same H1 H → H D = some (.lst gs) → Qd H) :
    ∃ W : Nat → Nat → Hp → Prop, (∃ m, W 0 m (upd H1 D (.lst []))) ∧ ∀ i0 m H, W i0 m H →
      ((Itl K a).stop i0 H ∧ Qd H) ∨ ((Itl K a).go i0 H ∧ ∃ Nx : Hp → Prop, (∀ H', Nx H' → ∃ m', m' < m ∧ W (i0 + 1) m' H') ∧ ∀ x H', (Itl K a).yld i0 H x H' → gName i x (wipe σ vs) H' fun σ2 H2 => wipe σ2 vs = wipe σ vs ∧ tYes σ2 H2 fun b H3 =>
        if b = true then te σ2 H3 fun y H4 => ∃ acc, H4 D = some (.lst acc) ∧ acc.length < sizeLine ∧ Nx (upd H4 D (.lst (acc ++ [y]))) else Nx H3) :=
  map_listS gs hl (fun H s => SqL.of (s _ _ hS)) nD sz hw hs hd
theorem map_list (g : V → V) (hS : H1 a = some (.lst xs)) (nD : H1 D = none) (sz : xs.length ≤ 1000)
    (hw : ∀ x, wipe ((wipe σ vs).set i (some x)) vs = wipe σ vs)
    (hs : ∀ (j : Nat) (x : V) (H : Hp), xs[j]? = some x → Same H1 H → ∀ R : VK, (∀ H4, Same H H4 → R (g x) H4) → te ((wipe σ vs).set i (some x)) H R)
    (hd : ∀ H, Same H1 H → H D = some (.lst (xs.map g)) → Qd H) :
    ∃ W : Nat → Nat → Hp → Prop, (∃ m, W 0 m (upd H1 D (.lst []))) ∧ ∀ i0 m H, W i0 m H →
      ((Itl K a).stop i0 H ∧ Qd H) ∨ ((Itl K a).go i0 H ∧ ∃ Nx : Hp → Prop, (∀ H', Nx H' → ∃ m', m' < m ∧ W (i0 + 1) m' H') ∧ ∀ x H', (Itl K a).yld i0 H x H' → gName i x (wipe σ vs) H' fun σ2 H2 => wipe σ2 vs = wipe σ vs ∧ tYes σ2 H2 fun b H3 =>
        if b = true then te σ2 H3 fun y H4 => ∃ acc, H4 D = some (.lst acc) ∧ acc.length < sizeLine ∧ Nx (upd H4 D (.lst (acc ++ [y]))) else Nx H3) := by
  refine map_listG (xs.map g) (List.length_map ..) hS nD sz hw (fun j x y H hx hy sH R hR => ?_) hd
  rw [List.getElem?_map, hx] at hy
  cases hy
  exact hs j x H hx sH R hR
theorem map_tupS (gs : List V) (hl : gs.length = xs.length) (hS : ∀ H, Same H1 H → SqT K H a xs) (nD : H1 D = none) (sz : xs.length ≤ 1000)
    (hw : ∀ x, wipe ((wipe σ vs).set i (some x)) vs = wipe σ vs)
    (hs : ∀ (j : Nat) (x y : V) (H : Hp), xs[j]? = some x → gs[j]? = some y → Same H1 H → ∀ R : VK, (∀ H4, Same H H4 → R y H4) → te ((wipe σ vs).set i (some x)) H R)
    (hd : ∀ H, Same H1 H → H D = some (.lst gs) → Qd H) :
    ∃ W : Nat → Nat → Hp → Prop, (∃ m, W 0 m (upd H1 D (.lst []))) ∧ ∀ i0 m H, W i0 m H →
      ((Itt K a).stop i0 H ∧ Qd H) ∨ ((Itt K a).go i0 H ∧ ∃ Nx : Hp → Prop, (∀ H', Nx H' → ∃ m', m' < m ∧ W (i0 + 1) m' H') ∧ ∀ x H', (Itt K a).yld i0 H x H' → gName i x (wipe σ vs) H' fun σ2 H2 => wipe σ2 vs = wipe σ vs ∧ tYes σ2 H2 fun b H3 =>
        if b = true then te σ2 H3 fun y H4 => ∃ acc, H4 D = some (.lst acc) ∧ acc.length < sizeLine ∧ Nx (upd H4 D (.lst (acc ++ [y]))) else Nx H3) := by
  refine lc_tup (fun j H => Same H1 H ∧ H D = some (.lst (gs.take j))) ⟨same_upd3 nD, upd_same⟩ (fun j H _ h => hS H h.1) ?_ ?_
  · rintro j x H hx ⟨hj, e⟩
    refine ⟨hw x, ?_⟩
    dsimp only [tYes]
    rw [if_pos rfl]
    have hlt := (List.getElem?_eq_some_iff.mp hx).1
    have hy : gs[j]? = some gs[j] := List.getElem?_eq_getElem (by omega)
    refine hs j x _ H hx hy hj _ fun H4 s4 => ⟨_, s4 _ _ e, ?_, ?_, ?_⟩
    · rw [List.length_take]
      exact Nat.lt_of_lt_of_le (by omega : _ < 1001) (by decide)
    · intro b u e2
      rw [upd_ne (ne_of_none e2 nD)]
      exact s4 _ _ (hj _ _ e2)
    · rw [upd_same, List.take_succ, hy]
      rfl
  · rintro H ⟨hj, e⟩
    rw [← hl, List.take_length] at e
    exact hd H hj e
theorem map_tupG (gs : List V) (hl : gs.length = xs.length) (hS : H1 a = some (.tup xs)) (nD : H1 D = none) (sz : xs.length ≤ 1000)
    (hw : ∀ x, wipe ((wipe σ vs).set i (some x)) vs = wipe σ vs)
    (hs : ∀ (j : Nat) (x y : V) (H : Hp), xs[j]? = some x → gs[j]? = some y → Same H1 H → ∀ R : VK, (∀ H4, Same H H4 → R y H4) → te ((wipe σ vs).set i (some x)) H R)
    (hd : ∀ H, Same H1 H → H D = some (.lst gs) → Qd H) :
    ∃ W : Nat → Nat → Hp → Prop, (∃ m, W 0 m (upd H1 D (.lst []))) ∧ ∀ i0 m H, W i0 m H →
      ((Itt K a).stop i0 H ∧ Qd H) ∨ ((Itt K a).go i0 H ∧ ∃ Nx : Hp → Prop, (∀ H', Nx H' → ∃ m', m' < m ∧ W (i0 + 1) m' H') ∧ ∀ x H', (Itt K a).yld i0 H x H' → gName i x (wipe σ vs) H' fun σ2 H2 => wipe σ2 vs = wipe σ vs ∧ tYes σ2 H2 fun b H3 =>
        if b = true then te σ2 H3 fun y H4 => ∃ acc, H4 D = some (.lst acc) ∧ acc.length < sizeLine ∧ Nx (upd H4 D (.lst (acc ++ [y]))) else Nx H3) :=
  map_tupS gs hl (fun H s => SqT.of (s _ _ hS)) nD sz hw hs hd
theorem map_tup (g : V → V) (hS : H1 a = some (.tup xs)) (nD : H1 D = none) (sz : xs.length ≤ 1000)
    (hw : ∀ x, wipe ((wipe σ vs).set i (some x)) vs = wipe σ vs)
    (hs : ∀ (j : Nat) (x : V) (H : Hp), xs[j]? = some x → Same H1 H → ∀ R : VK, (∀ H4, Same H H4 → R (g x) H4) → te ((wipe σ vs).set i (some x)) H R)
    (hd : ∀ H, Same H1 H → H D = some (.lst (xs.map g)) → Qd H) :
    ∃ W : Nat → Nat → Hp → Prop, (∃ m, W 0 m (upd H1 D (.lst []))) ∧ ∀ i0 m H, W i0 m H →
      ((Itt K a).stop i0 H ∧ Qd H) ∨ ((Itt K a).go i0 H ∧ ∃ Nx : Hp → Prop, (∀ H', Nx H' → ∃ m', m' < m ∧ W (i0 + 1) m' H') ∧ ∀ x H', (Itt K a).yld i0 H x H' → gName i x (wipe σ vs) H' fun σ2 H2 => wipe σ2 vs = wipe σ vs ∧ tYes σ2 H2 fun b H3 =>
        if b = true then te σ2 H3 fun y H4 => ∃ acc, H4 D = some (.lst acc) ∧ acc.length < sizeLine ∧ Nx (upd H4 D (.lst (acc ++ [y]))) else Nx H3) := by
  refine map_tupG (xs.map g) (List.length_map ..) hS nD sz hw (fun j x y H hx hy sH R hR => ?_) hd
  rw [List.getElem?_map, hx] at hy
  cases hy
  exact hs j x H hx sH R hR
theorem map_range {lo : Int} {n : Nat} (gs : List V) (hl : gs.length = n) (nD : H1 D = none) (sz : n ≤ 1000)
    (hw : ∀ x, wipe ((wipe σ vs).set i (some x)) vs = wipe σ vs)
    (hs : ∀ (j : Nat) (y : V) (H : Hp), j < n → gs[j]? = some y → Same H1 H → ∀ R : VK, (∀ H4, Same H H4 → R y H4) → te ((wipe σ vs).set i (some (.int (lo + j)))) H R)
    (hd : ∀ H, Same H1 H → H D = some (.lst gs) → Qd H) :
    ∃ W : Nat → Nat → Hp → Prop, (∃ m, W 0 m (upd H1 D (.lst []))) ∧ ∀ i0 m H, W i0 m H →
      ((Itr lo n).stop i0 H ∧ Qd H) ∨ ((Itr lo n).go i0 H ∧ ∃ Nx : Hp → Prop, (∀ H', Nx H' → ∃ m', m' < m ∧ W (i0 + 1) m' H') ∧ ∀ x H', (Itr lo n).yld i0 H x H' → gName i x (wipe σ vs) H' fun σ2 H2 => wipe σ2 vs = wipe σ vs ∧ tYes σ2 H2 fun b H3 =>
        if b = true then te σ2 H3 fun y H4 => ∃ acc, H4 D = some (.lst acc) ∧ acc.length < sizeLine ∧ Nx (upd H4 D (.lst (acc ++ [y]))) else Nx H3) := by
  refine lc_range (fun j H => Same H1 H ∧ H D = some (.lst (gs.take j))) ⟨same_upd3 nD, upd_same⟩ ?_ ?_
  · rintro j H hx ⟨hj, e⟩
    refine ⟨hw _, ?_⟩
    dsimp only [tYes]
    rw [if_pos rfl]
    have hy : gs[j]? = some gs[j] := List.getElem?_eq_getElem (by omega)
    refine hs j _ H hx hy hj _ fun H4 s4 => ⟨_, s4 _ _ e, ?_, ?_, ?_⟩
    · rw [List.length_take]
      exact Nat.lt_of_lt_of_le (by omega : _ < 1001) (by decide)
    · intro b u e2
      rw [upd_ne (ne_of_none e2 nD)]
      exact s4 _ _ (hj _ _ e2)
    · rw [upd_same, List.take_succ, hy]
      rfl
  · rintro H ⟨hj, e⟩
    rw [← hl, List.take_length] at e
    exact hd H hj e
variable {F : Nat → V → Prop}
theorem comp_rangeD {lo : Int} {n : Nat} (I : Nat → Hp → Prop) (F : Nat → V → Prop) (h0 : I 0 H1) (hI : ∀ j H o, I j H → I j (upd H D o)) (sz : n ≤ 1000)
    (hw : ∀ x, wipe ((wipe σ vs).set i (some x)) vs = wipe σ vs)
    (hs : ∀ j H ys, j < n → I j H → H D = some (.lst ys) → ∀ R : VK, (∀ y H4, F j y → I (j + 1) H4 → H4 D = H D → R y H4) → te ((wipe σ vs).set i (some (.int (lo + j)))) H R)
    (hd : ∀ H ys, I n H → H D = some (.lst ys) → Gives F n ys → Qd H) :
    ∃ W : Nat → Nat → Hp → Prop, (∃ m, W 0 m (upd H1 D (.lst []))) ∧ ∀ i0 m H, W i0 m H →
      ((Itr lo n).stop i0 H ∧ Qd H) ∨ ((Itr lo n).go i0 H ∧ ∃ Nx : Hp → Prop, (∀ H', Nx H' → ∃ m', m' < m ∧ W (i0 + 1) m' H') ∧ ∀ x H', (Itr lo n).yld i0 H x H' → gName i x (wipe σ vs) H' fun σ2 H2 => wipe σ2 vs = wipe σ vs ∧ tYes σ2 H2 fun b H3 =>
        if b = true then te σ2 H3 fun y H4 => ∃ acc, H4 D = some (.lst acc) ∧ acc.length < sizeLine ∧ Nx (upd H4 D (.lst (acc ++ [y]))) else Nx H3) := by
  refine lc_range (fun j H => I j H ∧ ∃ ys, H D = some (.lst ys) ∧ Gives F j ys) ⟨hI 0 _ _ h0, [], upd_same, rfl, fun j y h => by cases h⟩ ?_ ?_
  · rintro j H hx ⟨hj, ys, e, g⟩
    refine ⟨hw _, ?_⟩
    dsimp only [tYes]
    rw [if_pos rfl]
    refine hs j H ys hx hj e _ fun y H4 hy hj4 e4 => ⟨ys, e4.trans e, ?_, hI _ _ _ hj4, _, upd_same, g.snoc hy⟩
    rw [g.1]
    exact Nat.lt_of_lt_of_le (by omega : j < 1001) (by decide)
  · rintro H ⟨hj, ys, e, g⟩
    exact hd H ys hj e g
theorem comp_listD (I : Nat → Hp → Prop) (F : Nat → V → Prop) (h0 : I 0 H1) (hI : ∀ j H o, I j H → I j (upd H D o)) (hS : ∀ j H, I j H → SqL K H a xs) (sz : xs.length ≤ 1000)
    (hw : ∀ x, wipe ((wipe σ vs).set i (some x)) vs = wipe σ vs)
    (hs : ∀ (j : Nat) (x : V) (H : Hp) (ys : List V), xs[j]? = some x → I j H → H D = some (.lst ys) → ∀ R : VK, (∀ y H4, F j y → I (j + 1) H4 → H4 D = H D → R y H4) → te ((wipe σ vs).set i (some x)) H R)
    (hd : ∀ H ys, I xs.length H → H D = some (.lst ys) → Gives F xs.length ys → Qd H) :
    ∃ W : Nat → Nat → Hp → Prop, (∃ m, W 0 m (upd H1 D (.lst []))) ∧ ∀ i0 m H, W i0 m H →
      ((Itl K a).stop i0 H ∧ Qd H) ∨ ((Itl K a).go i0 H ∧ ∃ Nx : Hp → Prop, (∀ H', Nx H' → ∃ m', m' < m ∧ W (i0 + 1) m' H') ∧ ∀ x H', (Itl K a).yld i0 H x H' → gName i x (wipe σ vs) H' fun σ2 H2 => wipe σ2 vs = wipe σ vs ∧ tYes σ2 H2 fun b H3 =>
        if b = true then te σ2 H3 fun y H4 => ∃ acc, H4 D = some (.lst acc) ∧ acc.length < sizeLine ∧ Nx (upd H4 D (.lst (acc ++ [y]))) else Nx H3) := by
  refine lc_list (fun j H => I j H ∧ ∃ ys, H D = some (.lst ys) ∧ Gives F j ys) ⟨hI 0 _ _ h0, [], upd_same, rfl, fun j y h => by cases h⟩ (fun j H _ h => hS j H h.1) ?_ ?_
  · rintro j x H hx ⟨hj, ys, e, g⟩
    refine ⟨hw x, ?_⟩
    dsimp only [tYes]
    rw [if_pos rfl]
    refine hs j x H ys hx hj e _ fun y H4 hy hj4 e4 => ⟨ys, e4.trans e, ?_, hI _ _ _ hj4, _, upd_same, g.snoc hy⟩
    rw [g.1]
    have := (List.getElem?_eq_some_iff.mp hx).1
    exact Nat.lt_of_lt_of_le (by omega : j < 1001) (by decide)
  · rintro H ⟨hj, ys, e, g⟩
    exact hd H ys hj e g
end
end My
/-! for i, x in enumerate(xs, start=k) -/
namespace My
open PySem L2 PySem.Calls PyProof.Rows
section
variable {M : Model} {A : Around} {E : Value → Shared → Prop} {s : Shared} {env : Env}
theorem callWith_type_kwB {pos : Pos} {T : String} {first : List Value} {args : List (Bool × Sem Value)} {keywords : List (Option Str × Sem Value)} {Q : Value → Shared → Prop}
    (hplain : args.any (·.1) = false) (hkw : keywords.any (·.1.isNone) = false)
    (h : wpAny M A (evalArgs (.type T) true args keywords) (fun a s₁ => wpAny M A (call (.type T) (first ++ a.pos) a.kw) Q E s₁) E s) :
    wpAny M A (callWith pos (.type T) first args keywords) Q E s := by
  unfold callWith
  refine wpAny_bind (wpAny_holding (wpAny_mono h (fun a s₁ h₁ => wpAny_bind (wpAny_standAt ?_)) fun _ _ x => x))
  simp only [hplain, hkw, Bool.or_false]
  refine wpAny_bind (wpAny_pure ?_)
  exact wpAny_bind (wpAny_mono h₁ (fun r s₂ hr => wpAny_bind (wpAny_holding (wpAny_point (wpAny_pure hr)))) fun _ _ x => x)
theorem callWith_type_kw {pos : Pos} {T : String} {e : Expr} {rest : List Expr} {kws : List Keyword} {Q : Value → Shared → Prop}
    (h : wpAny M A (spliced (backTo pos (starEach (e :: rest) env))) (fun vs s₁ => wpAny M A (evalAll ((backToKw pos (keywordEach kws env)).map (·.2)))
      (fun kvs s₂ => wpAny M A (call (.type T) vs (((backToKw pos (keywordEach kws env)).filterMap (·.1)).zip kvs)) Q E s₂) E s₁) E s)
    (he : backTo pos (starEach (e :: rest) env) = (false, eval e env) :: backTo pos (starEach rest env) := by rfl)
    (hplain : (backTo pos (starEach (e :: rest) env)).any (·.1) = false := by rfl)
    (hall : (backToKw pos (keywordEach kws env)).all (·.1.isSome) = true := by rfl)
    (hkw : (backToKw pos (keywordEach kws env)).any (·.1.isNone) = false := by rfl) :
    wpAny M A (callWith pos (.type T) [] (backTo pos (starEach (e :: rest) env)) (backToKw pos (keywordEach kws env))) Q E s := by
  refine callWith_type_kwB hplain hkw ?_
  rw [he] at h ⊢
  exact evalArgs_kwB hall h
end
/-- what a walk counted from k gives: a fresh pair of the count and the item of the list at a -/
def Ctd (K : PySem.W.Frag) (a : Addr) (k : Int) : It where
  go j G := ∃ (ys : List V) (y : V), SqL K G a ys ∧ ys[j]? = some y
  yld j G z G' := ∃ T y, z = .ref T ∧ G T = none ∧ G' = upd G T (.tup [.int (k + (j : Nat)), y]) ∧ ∀ ys, SqL K G a ys → ys[j]? = some y
  stop j G := ∃ ys : List V, SqL K G a ys ∧ ys.length ≤ j
/-- the counter's state before turn j -/
def CtdSt (a cnt li : Addr) (k : Int) (j : Nat) (g : Heap) : Prop := (∃ z, IsEnum g cnt li (k + ((j : Nat) : Int)) z) ∧ g.IsListIter li a j ∧ cnt ≠ li
theorem CtdSt.apart {a cnt li : Addr} {k : Int} {j : Nat} {g : Heap} {ws : Array Value} (c : CtdSt a cnt li k j g) (l : g.IsList a ws) : a ≠ li ∧ a ≠ cnt := by
  obtain ⟨⟨z, c1⟩, ⟨o1, q1, k1, _⟩, _⟩ := c
  obtain ⟨o2, q2, k2, _⟩ := l
  refine ⟨fun e => ?_, fun e => ?_⟩
  · subst e
    have e2 : o1 = o2 := Option.some.inj (q1.symm.trans q2)
    rw [e2, k2] at k1
    exact absurd k1 (by decide)
  · subst e
    have e2 := Option.some.inj (c1.symm.trans q2)
    rw [← e2] at k2
    exact absurd (show Value.type "enumerate" = Value.type "list" from k2) (by decide)
section
variable {P : Program} {w : World} {A : Around} {E : Value → Shared → Prop} {s : Shared}
/-- the counter is at its end -/
theorem ctd_end {a cnt li : Addr} {j : Nat} {c : Int} {z : Value} {ws : Array Value} {Q : Option Value → Shared → Prop} (cold : A.handled = none) (c1 : IsEnum s.heap cnt li c z) (c2 : s.heap.IsListIter li a j) (l : s.heap.IsList a ws)
    (o : ws[j]? = none) (q : ∀ g, Heap.ExtBut li s.heap g → Q none { s with heap := g }) : wpAny (model P w) A (pyNext (.ref cnt)) Q E s := by
  have ty : s.TypeIs (.ref cnt) "enumerate" := ⟨_, c1, rfl⟩
  have body : wpAny (model P w) A.in1 (Builtin.«enumerate.__next__» ⟨[.ref cnt], []⟩) (fun fin s' => False)
      (fun x s' => ∃ g, Heap.ExtBut li s.heap g ∧ s' = { s with heap := g } ∧ ∃ y, x = .ref y ∧ ∃ ob, g.get? y = some ob ∧ ob.cls = .type "StopIteration") s := by
    show wpAny _ _ (field (.ref cnt) 2 >>= _) _ _ _
    refine wpAny_bind (wpAny_field c1 rfl (x := .ref li) rfl (wpAny_bind ?_))
    exact wpAny_nextOf_list_end cold c2 l o fun g y eb ob => ⟨g, eb, rfl, y, rfl, ob⟩
  unfold pyNext
  refine wpAny_bind (wpAny_attempt (wpAny_callSpecial?_slot (name := Str.ofString "__next__") ty F.slot_enumerate_next ?_))
  refine wpAny_call_entry F.slot_enumerate_next ty F.entry_enumerate_next (wpAny_mono body (fun _ _ f => f.elim) fun x s' h => ?_) (F.args_enumerate_next_1 _)
  obtain ⟨g, eb, rfl, y, rfl, ob, e1, e2⟩ := h
  exact wpAny_bind (wpAny_isInstance (T := "StopIteration") (b := true) ⟨ob, e1, e2⟩ isSubtype_stop (wpAny_pure (q g eb)))
end
section
variable {P : Program} {w : World} {K : PySem.W.Frag} {elts : List Expr} {kk : Nat} {tpos : Pos}
/-- one turn: the next pair, handed out -/
theorem ctd_item {X : Cx} {pins : List (Addr × Obj)} {σ : L2.St} {G : Hp} {E : Value → Shared → Prop} {a cnt li : Addr} {k : Int} {j : Nat} {s : Shared} {ys : List V} {y : V}
    (cold : X.A.handled = none) (I : Inv X pins σ G s) (fr : ∀ b ∈ [cnt, li], FpOk X pins G b) (c : CtdSt a cnt li k j s.heap) (l : SqL X.K G a ys) (hy : ys[j]? = some y) :
    wpAny (model X.prog X.w) X.A (pyNext (.ref cnt)) (fun r s1 => ∃ u, r = some u ∧
      wpAny (model X.prog X.w) X.A (letOwnedTupleGo (.Tuple elts kk tpos) (.ref cnt) u) (fun _ s2 => ∃ x G', Inv X pins σ G' s2 ∧ RelV x u ∧ (Ctd X.K a k).yld j G x G' ∧ CtdSt a cnt li k (j + 1) s2.heap ∧ ∀ b ∈ [cnt, li], G' b = none) E s1) E s := by
  obtain ⟨ws, rel, at_, _⟩ := I.list l
  obtain ⟨v, hv, rv⟩ := rel.get hy
  obtain ⟨nli, ncnt⟩ := c.apart at_.isList
  obtain ⟨⟨z, c1⟩, c2, ne⟩ := c
  have l1 : cnt < s.heap.objs.size := Heap.lt_size c1
  have l2 : li < s.heap.objs.size := by
    obtain ⟨o, q, _⟩ := c2
    exact Heap.lt_size q
  have small : j < ws.toArray.size := by simpa using (List.getElem?_eq_some_iff.mp hv).1
  have nfp : cnt ∉ [li, a] := by
    intro m
    rcases List.mem_cons.mp m with e | m
    · exact ne e
    · exact ncnt (List.mem_singleton.mp m).symm
  have cold1 : X.A.in1.handled = none := cold
  refine wpAny_pyNext_enum_itemC (Draws.list cold1 li a nli ws.toArray) c1 ⟨c2, at_.isList⟩ small ne nfp fun v2 g tk hv2 out c2' tup sz keep => ?_
  have e : v2 = v := by
    have : ws.toArray[j]? = some v := by simpa using hv
    exact Option.some.inj (hv2.symm.trans this)
  subst e
  refine ⟨_, rfl, wpAny_letOwnedTupleGo_enum (s := { s with heap := g, toks := tk + 1 }) out fun g2 c1' same => ?_⟩
  have tup2 := (same.2 _ (Nat.ne_of_gt l1)).trans tup
  have made : ObjOk X.prog X.w (upd G s.heap.objs.size (.tup [.int (k + (j : Nat)), y])) g2 s.heap.objs.size (.tup [.int (k + (j : Nat)), y]) :=
    ⟨by show 2 ≤ sizeLine; decide, _, .cons ⟨tk, rfl⟩ (.cons rv .nil), ⟨_, tup2, rfl, _, rfl⟩⟩
  have rest : ∀ b o, b ∉ [cnt, li] → s.heap.get? b = some o → g2.get? b = some o := by
    intro b o nb q
    have n1 : b ≠ cnt := fun e => nb (by rw [e]; exact .head _)
    have n2 : b ≠ li := fun e => nb (by rw [e]; exact .tail _ (.head _))
    exact (same.2 b n1).trans (keep b o n1 n2 q)
  refine ⟨.ref s.heap.objs.size, _, I.turnedNew (ch := [cnt, li]) rest fr (Nat.le_refl _) made, rfl, ⟨_, y, rfl, I.hok.fresh (Nat.le_refl _), rfl, fun zs hz => by rw [I.list_inj hz l]; exact hy⟩, ⟨⟨v2, ?_⟩, c2'.1.at fun o q => (same.2 li (Ne.symm ne)).trans q, ne⟩, ?_⟩
  · rw [show k + ((j + 1 : Nat) : Int) = k + ((j : Nat) : Int) + 1 by omega]
    exact c1'
  · intro b hb
    have lb : b < s.heap.objs.size := by
      rcases List.mem_cons.mp hb with e | e
      · rw [e]
        exact l1
      · rw [List.mem_singleton.mp e]
        exact l2
    rw [upd_ne (Nat.ne_of_lt lb)]
    exact (fr b hb).1
theorem ctd_turn (a cnt li : Addr) (k : Int) : Turn P w K (.Tuple elts kk tpos) (Ctd K a k) [cnt, li] cnt (CtdSt a cnt li k) := by
  refine { mem := .head _, obj := ?_, keep := ?_, item := ?_, done := ?_, self := ?_ }
  · intro j g c b m
    obtain ⟨⟨z, c1⟩, ⟨o, q, _, d⟩, _⟩ := c
    rcases List.mem_cons.mp m with rfl | m
    · exact ⟨_, c1, fun v q => nomatch q⟩
    · rw [List.mem_singleton.mp m]
      exact ⟨o, q, fun v q => by rw [d] at q; cases q⟩
  · intro j g g' c kp
    obtain ⟨⟨z, c1⟩, c2, ne⟩ := c
    exact ⟨⟨z, kp _ (.head _) _ c1⟩, c2.at fun o q => kp _ (.tail _ (.head _)) o q, ne⟩
  · rintro X rfl rfl rfl calm j pins s σ G E I fr c ⟨ys, y, l, hy⟩
    exact ctd_item (I.ok.hd calm) I fr c l hy
  · rintro X rfl rfl rfl calm j pins s σ G E I fr c ⟨ys, l, hn⟩
    obtain ⟨ws, rel, at_, _⟩ := I.list l
    obtain ⟨f0, f1, f2, f3, f4, f5⟩ := fr li (.tail _ (.head _))
    have len := rel.length
    obtain ⟨⟨z, c1⟩, c2, ne⟩ := c
    exact ctd_end (I.ok.hd calm) c1 c2 at_.isList (by simp; omega) fun g eb => ⟨rfl, I.turned (t' := s.toks) (fun b o nb q => eb b o nb q) f0 f1 f3 f4 f5⟩
  · intro B j s Q E c q
    obtain ⟨⟨z, c1⟩, _⟩ := c
    exact wpAny_pyIter_enum c1 q
/-- enumerate(xs, start=n) -/
def iCtd (K : PySem.W.Frag) (ta : TA) (tk : TA) : TI := fun σ H R => ta σ H fun vs H1 => tk σ H1 fun ks H2 => ∃ a xs k, vs = [.ref a] ∧ ks = [.int k] ∧ -(2 ^ 63) ≤ k ∧ k < 2 ^ 63 ∧ SqL K H2 a xs ∧ R (Ctd K a k) H2
theorem pi_ctd {X : Cx} {e : Expr} {ta tk : TA} {p pos kpos : Pos} {ke : Expr} (hg : Gl X "enumerate") (hm : X.mg "enumerate" = none) (ha : PA X [e] ta) (hk : PK X [⟨some "start", ke, kpos⟩] tk)
    (he : backTo pos (starEach [e] X.env) = (false, eval e X.env) :: backTo pos (starEach [] X.env) := by rfl) :
    PI X (.Tuple elts kk tpos) (.Call (.Name "enumerate" p) [e] [⟨some "start", ke, kpos⟩] pos) (iCtd X.K ta tk) := by
  refine ⟨fun pins s σ H R I h => wpAny_Call_Name_kw (ld_blt I hg hm boot_enumerate (callWith_type_kw (thn (ha.run pos pins s σ H _ I h) fun us s1 ⟨vs, H1, I1, r1, q1⟩ => thn (hk.run pos pins s1 σ H1 _ I1 q1) fun ws s2 ⟨ks, H2, I2, r2, q2⟩ => ?_) he (by rw [he]; rfl)))⟩
  obtain ⟨a, xs, k, rfl, rfl, k0, k1, l, q⟩ := q2
  obtain ⟨v1, rfl, rv1⟩ : ∃ v1, us = [v1] ∧ RelV (.ref a) v1 := by
    cases r1 with
    | cons r rr => cases rr; exact ⟨_, rfl, r⟩
  obtain ⟨v2, rfl, t, rfl⟩ : ∃ v2, ws = [v2] ∧ RelV (.int k) v2 := by
    cases r2 with
    | cons r rr => cases rr; exact ⟨_, rfl, r⟩
  obtain rfl : v1 = Value.ref a := rv1
  obtain ⟨its, rv, at_, _⟩ := I2.list l
  refine enum_begins_start (begins_list a its.toArray) at_.isList k0 k1 fun g c1 it_ sz kp => wpAny_pyIter_enum c1 ?_
  have I3 : Inv X pins σ H2 { s2 with heap := g } := I2.kept (t' := s2.toks) kp
  refine ⟨s2.heap.objs.size + 1, [s2.heap.objs.size + 1, s2.heap.objs.size], CtdSt a (s2.heap.objs.size + 1) s2.heap.objs.size k, _, H2, rfl, I3, ctd_turn a _ _ k, ⟨⟨.none, ?_⟩, ⟨_, it_, rfl, rfl⟩, Nat.succ_ne_self _⟩, fun b hb => ?_, q⟩
  · rw [show k + ((0 : Nat) : Int) = k by omega]
    exact c1
  · have lb : s2.heap.objs.size ≤ b := by
      rcases List.mem_cons.mp hb with e | e
      · rw [e]
        exact Nat.le_add_right _ _
      · rw [List.mem_singleton.mp e]
        exact Nat.le_refl _
    exact I2.fpOk lb (I2.hok.fresh lb)
/-- for i, x in enumerate(xs, start=k) -/
theorem for_ctd {a : Addr} {xs : List V} {g : TG} {tb : TS} {D : Ends} {σ : L2.St} {H : Hp} {c : Int} (Pv : Nat → L2.St → Hp → Prop) (h0 : Pv 0 σ H)
    (hl : ∀ i σ H, i ≤ xs.length → Pv i σ H → SqL K H a xs)
    (hs : ∀ i x T σ H, xs[i]? = some x → Pv i σ H → H T = none → g (.ref T) σ (upd H T (.tup [.int (c + (i : Nat)), x])) fun σ2 H2 => tb { D with nx := Pv (i + 1), ct := Pv (i + 1), bk := D.nx } σ2 H2)
    (hd : ∀ σ H, Pv xs.length σ H → D.nx σ H) :
    ∃ W : Nat → Nat → L2.St → Hp → Prop, (∃ m, W 0 m σ H) ∧ ∀ i m σ H, W i m σ H →
      ((Ctd K a c).stop i H ∧ D.nx σ H) ∨ ((Ctd K a c).go i H ∧ ∃ N : L2.St → Hp → Prop, (∀ σ' H', N σ' H' → ∃ m', m' < m ∧ W (i + 1) m' σ' H') ∧
        ∀ x H', (Ctd K a c).yld i H x H' → g x σ H' fun σ2 H2 => tb { D with nx := N, ct := N, bk := D.nx } σ2 H2) := by
  refine ⟨fun i m σ H => m + i = xs.length ∧ Pv i σ H, ⟨xs.length, rfl, h0⟩, ?_⟩
  rintro i m σ H ⟨e, p⟩
  have q := hl i σ H (by omega) p
  by_cases hlt : i < xs.length
  · refine .inr ⟨⟨xs, xs[i], q, List.getElem?_eq_getElem hlt⟩, Pv (i + 1), fun σ' H' p' => ⟨m - 1, by omega, by omega, p'⟩, ?_⟩
    rintro x H' ⟨T, y, rfl, nT, rfl, fv⟩
    exact hs i y T σ H (fv xs q) p nT
  · have ei : i = xs.length := by omega
    subst ei
    exact .inl ⟨⟨xs, q, Nat.le_refl _⟩, hd σ H p⟩
end
end My
/-! cls(e, ..) by a local name; == by an own __eq__ with either answer; tuples of tuples of ints compared. -/
namespace My
open PySem L2 PySem.Calls PyProof.Rows
section
variable {X : Cx} {CX : CXT} {k i : Nat} {f C : Addr} {fd : FuncData} {ps : List Str} {sp : Sp} {dvs : List V} {ds : List Value} {E : XK} {x : Str} {p pos : Pos} {e : Expr} {es : List Expr} {t : TA}
/-- the name in slot i holds the class at C, which is made -/
def tMakeAt (i : Nat) (C : Addr) (sp : Sp) (dvs : List V) (E : XK) (t : TA) : TE := fun σ H Q => σ[i]? = some (some (.ref C)) ∧ tMake C sp dvs E t σ H Q
theorem pe_makeAt (M : Mk X.K C f) (F : FnOk X.prog X.w X.K X.mg X.base CX k f fd ps sp) (hr : Room (k + 1) X.A) (hb : Binds X.K fd ps ds) (hd : Vals dvs ds) (hx : Passes CX X E)
    (hN : X.N[i]? = some x) (hv : Vis X.env.scope x) (ha : PA X (e :: es) t) (n1 : (x == ("__debug__" : Str)) = false := by decide) (n2 : (x == ("__classdict__" : Str)) = false := by decide)
    (s1 : starEach (e :: es) X.env = (false, eval e X.env) :: starEach es X.env := by rfl) (s2 : (backTo pos (starEach es X.env)).any (·.1) = false := by rfl) :
    PE X (.Call (.Name x p) (e :: es) [] pos) (tMakeAt i C sp dvs E t) := by
  refine ⟨fun pins s σ H Q I ⟨at_, h⟩ => ?_⟩
  have name := (pe_var (pos := p) (i := i) hN hv n1 n2).run pins s σ H (fun v H1 => v = .ref C ∧ H1 = H) I ⟨.ref C, at_, rfl, rfl⟩
  refine wpAny_Call_Name_kw (thn name fun u t1 ⟨v, H1, I1, r1, e1, e2⟩ => ?_)
  subst e1 e2
  obtain rfl : u = Value.ref C := r1
  refine PySem.W.callWith_K (h₀ := X.base) I1.ok.mod.kin M.kp (thn (ha.run pos pins t1 σ _ _ I1 h) fun us t2 ⟨vs, H2, I2, r, q⟩ => ⟨I2.kIn, ?_⟩) s1 s2
  exact run_make M F hr hb hd hx I2 r q
/-- the answer r that an own __eq__ gives -/
def rEqOwn (C : Addr) (R : Addr → Addr → Hp → Bool → Prop) : R2 := fun x y H Q => ∃ a b dx dy fs gs r, x = .ref a ∧ y = .ref b ∧ H a = some (.ins C dx fs) ∧ H b = some (.ins C dy gs) ∧ R a b H r ∧ ∀ H', Same H H' → Q (.bl r) H'
def spEqB (R : Addr → Addr → Hp → Bool → Prop) : Sp := fun vs H Q _ => ∃ a b r, vs = [.ref a, .ref b] ∧ R a b H r ∧ ∀ H', Same H H' → Q (.bl r) H'
theorem op_eqOwn {R : Addr → Addr → Hp → Bool → Prop} (F : FnOk X.prog X.w X.K X.mg X.base CX k f fd ps (spEqB R)) (hr : Room k X.A) (hs : PySem.W.findIn X.K (.ref C) "__eq__" = some (some (.ref f))) (hf : PySem.W.isFn X.K (.ref f) = true)
    (hb : Binds X.K fd ps []) (hx : Passes CX X E) : OpR X (compareOp .Eq) (rEqOwn C R) := by
  intro pins s σ H x y v u Q I rx ry hq
  obtain ⟨a, b, dx, dy, fs, gs, r, rfl, rfl, ha, hb', hR, q⟩ := hq
  obtain rfl : v = Value.ref a := rx
  obtain rfl : u = Value.ref b := ry
  obtain ⟨_, ja, _⟩ := ins_get I.hok ha
  obtain ⟨_, jb, _⟩ := ins_get I.hok hb'
  obtain ⟨_, ka, _⟩ := ja.look
  obtain ⟨_, kb, _⟩ := jb.look
  obtain ⟨m, fr⟩ := I.fr
  show wpAny (model X.prog X.w) X.A (richCompare .Eq (.ref a) (.ref b)) (EP X pins σ Q) X.xe s
  refine PySem.W.cmp_K (op := .Eq) (tb := .ref C) hr.units0 fr I.ok.mod.kin ka kb.type (by simp [PySem.W.notFirst]) hs hf ?_
  have run : wpAny (model X.prog X.w) X.A (call (.ref f) [.ref a, .ref b]) (EP X pins σ fun z H' => z = .bl r ∧ Q z H') X.xe s :=
    run_fn (us := [.ref a, .ref b]) (vs := [.ref a, .ref b]) (dvs := []) (ds := []) F hr hb .nil hx I (.cons rfl (.cons rfl .nil)) ⟨a, b, r, rfl, hR, fun H' sm => ⟨rfl, q H' sm⟩⟩
  refine thn run fun w1 s1 ⟨z, H1, I1, r1, e1, q1⟩ => ?_
  subst e1
  obtain rfl : w1 = Value.bool r := r1
  exact ⟨.bl r, H1, I1, rfl, q1⟩
end
/-- rows as data -/
def rowD (ns : List Int) : PyData := .tuple (ns.map PyData.int)
def tabD (nss : List (List Int)) : PyData := .tuple (nss.map rowD)
section
variable {K : PySem.W.Frag} {H : Hp}
theorem dp_ints : ∀ ns : List Int, DpAll K H (ns.map V.int) (ns.map PyData.int)
  | [] => .nil
  | n :: r => .cons (.int n) (dp_ints r)
theorem dp_rows : ∀ {ts : List Addr} {nss : List (List Int)}, Paired (fun t ns => H t = some (.tup (ns.map V.int))) ts nss → DpAll K H (ts.map V.ref) (nss.map rowD)
  | _, _, .nil => .nil
  | _, _, .cons h t => .cons (.tup (SqT.of h) (dp_ints _)) (dp_rows t)
theorem dp_tab {p : Addr} {ts : List Addr} {nss : List (List Int)} (h : H p = some (.tup (ts.map V.ref))) (t : Paired (fun t ns => H t = some (.tup (ns.map V.int))) ts nss) : Dp K H (.ref p) (tabD nss) := .tup (SqT.of h) (dp_rows t)
end
theorem lay_ints : ∀ ns : List Int, PyData.canLayAll0 (ns.map PyData.int) = true
  | [] => rfl
  | n :: r => by
    rw [List.map_cons, PyData.canLayAll0, lay_ints r]
    rfl
theorem lay_rows : ∀ nss : List (List Int), PyData.canLayAll0 (nss.map rowD) = true
  | [] => rfl
  | ns :: r => by
    rw [List.map_cons, PyData.canLayAll0, lay_rows r, Bool.and_true]
    exact lay_ints ns
theorem eqv_ints : ∀ ms ns : List Int, PyData.eqvAll (ms.map PyData.int) (ns.map PyData.int) = decide (ms = ns)
  | [], [] => rfl
  | [], n :: r => rfl
  | m :: r, [] => rfl
  | m :: r, n :: t => by
    rw [List.map_cons, List.map_cons, PyData.eqvAll, eqv_ints r t, PyData.eqv]
    by_cases e : m = n <;> simp [e]
theorem eqv_rows : ∀ ms ns : List (List Int), PyData.eqvAll (ms.map rowD) (ns.map rowD) = decide (ms = ns)
  | [], [] => rfl
  | [], n :: r => rfl
  | m :: r, [] => rfl
  | m :: r, n :: t => by
    rw [List.map_cons, List.map_cons, PyData.eqvAll, eqv_rows r t, rowD, rowD, PyData.eqv, eqv_ints]
    simp
theorem depth_ints : ∀ ns : List Int, PyData.depthAll (ns.map PyData.int) ≤ 1
  | [] => by decide
  | n :: r => by
    have := depth_ints r
    rw [List.map_cons, PyData.depthAll]
    refine Nat.max_le.mpr ⟨?_, this⟩
    rw [PyData.depth]
    omega
theorem depth_rows : ∀ nss : List (List Int), PyData.depthAll (nss.map rowD) ≤ 5
  | [] => by decide
  | ns :: r => by
    have h1 := depth_rows r
    have h2 := depth_ints ns
    rw [List.map_cons, PyData.depthAll]
    refine Nat.max_le.mpr ⟨?_, h1⟩
    rw [rowD, PyData.depth]
    omega
theorem shaped_tab (nss : List (List Int)) : SeqAt.shaped (tabD nss) = true := by
  unfold SeqAt.shaped
  rw [Bool.and_eq_true]
  refine ⟨lay_rows nss, decide_eq_true ?_⟩
  have := depth_rows nss
  rw [tabD, PyData.depth]
  omega
theorem eqv_tab (ms ns : List (List Int)) : PyData.eqv (tabD ms) (tabD ns) = decide (ms = ns) := by
  rw [tabD, tabD, PyData.eqv, eqv_rows]
end My
namespace My
open PySem L2 PySem.Calls PyProof.Rows
/-! a list of lists of ints, and whether it is empty -/
def lrowD (ns : List Int) : PyData := .list (ns.map PyData.int)
def ltabD (nss : List (List Int)) : PyData := .list (nss.map lrowD)
theorem ldp_rows {K : PySem.W.Frag} {H : Hp} : ∀ {ts : List Addr} {nss : List (List Int)}, Paired (fun t ns => H t = some (.lst (ns.map V.int))) ts nss → DpAll K H (ts.map V.ref) (nss.map lrowD)
  | _, _, .nil => .nil
  | _, _, .cons h t => .cons (.lst (SqL.of h) (dp_ints _)) (ldp_rows t)
theorem ldp_tab {K : PySem.W.Frag} {H : Hp} {p : Addr} {ts : List Addr} {nss : List (List Int)} (h : H p = some (.lst (ts.map V.ref))) (t : Paired (fun t ns => H t = some (.lst (ns.map V.int))) ts nss) : Dp K H (.ref p) (ltabD nss) := .lst (SqL.of h) (ldp_rows t)
theorem llay_rows : ∀ nss : List (List Int), PyData.canLayAll0 (nss.map lrowD) = true
  | [] => rfl
  | ns :: r => by
    rw [List.map_cons, PyData.canLayAll0, llay_rows r, Bool.and_true]
    exact lay_ints ns
theorem ldepth_rows : ∀ nss : List (List Int), PyData.depthAll (nss.map lrowD) ≤ 5
  | [] => by decide
  | ns :: r => by
    have h1 := ldepth_rows r
    have h2 := depth_ints ns
    rw [List.map_cons, PyData.depthAll]
    refine Nat.max_le.mpr ⟨?_, h1⟩
    rw [lrowD, PyData.depth]
    omega
theorem shaped_ltab (nss : List (List Int)) : SeqAt.shaped (ltabD nss) = true := by
  unfold SeqAt.shaped
  rw [Bool.and_eq_true]
  refine ⟨llay_rows nss, decide_eq_true ?_⟩
  have := ldepth_rows nss
  rw [ltabD, PyData.depth]
  omega
theorem eqv_none (nss : List (List Int)) : PyData.eqv (ltabD nss) (.list []) = nss.isEmpty := by
  cases nss <;> rfl
/-- a list of ints, each as told -/
theorem Gives.ints {B : Int → Prop} {n : Nat} {ys : List V} (h : Gives (fun _ y => ∃ i, y = .int i ∧ B i) n ys) : ∃ ns : List Int, ys = ns.map V.int ∧ ns.length = n ∧ ∀ i ∈ ns, B i := by
  obtain ⟨h1, h2⟩ := h
  have all : ∀ y ∈ ys, ∃ i, y = V.int i ∧ B i := by
    intro y hy
    obtain ⟨j, hj, rfl⟩ := List.mem_iff_getElem.mp hy
    exact h2 j _ (List.getElem?_eq_getElem hj)
  clear h2
  induction ys generalizing n with
  | nil => exact ⟨[], rfl, h1, fun _ h => nomatch h⟩
  | cons y r ih =>
    obtain ⟨i, rfl, b⟩ := all y (.head _)
    obtain ⟨ns, e1, e2, e3⟩ := ih (n := r.length) rfl fun z m => all z (.tail _ m)
    refine ⟨i :: ns, by rw [e1]; rfl, by rw [List.length_cons, e2, ← h1, List.length_cons], fun j m => ?_⟩
    rcases List.mem_cons.mp m with rfl | m
    · exact b
    · exact e3 j m
end My
namespace My
open PySem L2 PySem.Calls PyProof.Rows
theorem pi_listK {X : Cx} {K : PySem.W.Frag} {tg e : Expr} {te : TE} (h : X.K = K) (he : PE X e te) : PI X tg e (iList K te) := h ▸ pi_list he
theorem pi_tupK {X : Cx} {K : PySem.W.Frag} {tg e : Expr} {te : TE} (h : X.K = K) (he : PE X e te) : PI X tg e (iTup K te) := h ▸ pi_tup he
end My
namespace My
open PySem L2 PySem.Calls PyProof.Rows
def rJoin (K : PySem.W.Frag) : V → List V → Hp → VK → Prop := fun x xs H Q => ∃ a p, ∃ ys : List Str, x = .str a ∧ xs = [.ref p] ∧ (SqL K H p (ys.map V.str) ∨ SqT K H p (ys.map V.str)) ∧ (ys.map (·.length)).sum + ys.length * a.length ≤ 16777216 ∧ Q (.str (Txt.join a ys)) H
theorem pe_joinK {X : Cx} {K : PySem.W.Frag} {o e : Expr} {to te : TE} {apos pos : Pos} (h : X.K = K) (ho : PE X o to) (he : PE X e te) (hs : starEach [e] X.env = [(false, eval e X.env)] := by rfl)
    (h1 : attributeBase o "join" X.env (eval o X.env) = eval o X.env := by rfl) (h2 : (apos.endLine == pos.line) = true := by rfl) :
    PE X (.Call (.Attribute o "join" apos) [e] [] pos) (tM1 (rJoin K) to te) := by
  subst h
  exact pe_join ho he hs h1 h2
end My
/-! A def with defaults, all of whose arguments are written. -/
namespace My
open PySem L2 PySem.Calls PyProof.Rows
theorem bind_dflt {K : PySem.W.Frag} {fd : FuncData} {ps : List Str} {T : Addr} {oT : Obj} {its : Array Value} {n : Nat} (lT : K.lookup T = some oT) (hT : oT.data = .seq its n)
    (h : ∀ us : List Value, us.length = ps.length → ∃ k, bindArgs fd ⟨us, []⟩ = seqItems? (.ref T) >>= k ∧ k (some its) = pure (ps.zip us)) : Binds K fd ps [] := by
  intro s us X hl
  rw [List.append_nil] at hl ⊢
  obtain ⟨k, e1, e2⟩ := h us hl
  refine BindsTo.of_looks fun M => ?_
  rw [e1]
  exact looks_items X lT hT (.of_pure e2)
end My
/-! Which texts are whole numbers as they are written, which lines are rows. -/
namespace My
open PySem L2 PySem.Calls PyProof.Rows
open TL NumText
theorem canon_pos : ∀ (n : Nat) (c : Nat) (r : List Nat), r.length = n → AllDigits (c :: r) → 49 ≤ c → numL (digitsVal (c :: r)) = c :: r
  | 0, c, r, hl, hd, hc => by
    have e : r = [] := List.length_eq_zero_iff.mp hl
    subst e
    have h := hd.head
    have ev : digitsVal [c] = c - 48 := by simp [digitsVal]
    rw [ev, numL_lt (by omega)]
    congr 1
    omega
  | n + 1, c, r, hl, hd, hc => by
    have hne : r ≠ [] := fun e => by
      rw [e] at hl
      cases hl
    obtain ⟨q, d, rfl⟩ : ∃ q d, r = q ++ [d] := ⟨r.dropLast, r.getLast hne, (List.dropLast_concat_getLast hne).symm⟩
    have lq : q.length = n := by
      rw [List.length_append, List.length_singleton] at hl
      omega
    have hd2 : AllDigits (c :: q) := fun x hx => hd x (by
      rw [← List.cons_append]
      exact List.mem_append_left _ hx)
    have hdd : 48 ≤ d ∧ d ≤ 57 := hd d (by
      rw [← List.cons_append]
      exact List.mem_append_right _ (.head _))
    have ih := canon_pos n c q lq hd2 hc
    have hp : 0 < digitsVal (c :: q) := digitsVal_pos hc
    rw [← List.cons_append, digitsVal_snoc, numL_step (by omega)]
    have e1 : (digitsVal (c :: q) * 10 + (d - 48)) / 10 = digitsVal (c :: q) := by omega
    have e2 : (digitsVal (c :: q) * 10 + (d - 48)) % 10 = d - 48 := by omega
    rw [e1, e2, ih]
    congr 1
    congr 1
    omega
/-- the signs of a number from 0 on, as it is written -/
def Can (cs : List Nat) : Prop := AllDigits cs ∧ cs ≠ [] ∧ (cs[0]? = some 48 → cs = [48])
theorem can_num (n : Nat) : Can (numL n) := by
  refine ⟨numL_digits n, numL_ne n, fun h => ?_⟩
  rcases numL_head n with ⟨_, e⟩ | ⟨c, r, e, h1, h2⟩
  · exact e
  · rw [e] at h
    cases h
    omega
theorem num_can {cs : List Nat} (h : Can cs) : numL (digitsVal cs) = cs := by
  obtain ⟨h1, h2, h3⟩ := h
  cases cs with
  | nil => exact absurd rfl h2
  | cons c r =>
    by_cases e : c = 48
    · subst e
      have := h3 rfl
      rw [this]
      decide +kernel
    · have := h1.head
      exact canon_pos r.length c r rfl h1 (by omega)
theorem val_lt : ∀ (cs : List Nat), AllDigits cs → digitsVal cs < 10 ^ cs.length := by
  have key : ∀ (cs : List Nat) (a : Nat), AllDigits cs → cs.foldl (fun acc c => acc * 10 + (c - 48)) a < (a + 1) * 10 ^ cs.length := by
    intro cs
    induction cs with
    | nil =>
      intro a _
      simp
    | cons c r ih =>
      intro a h
      have hc := h.head
      have := ih (a * 10 + (c - 48)) h.tail
      rw [List.foldl_cons, List.length_cons, Nat.pow_succ]
      refine Nat.lt_of_lt_of_le this ?_
      have e : (a + 1) * (10 ^ r.length * 10) = ((a + 1) * 10) * 10 ^ r.length := by
        rw [Nat.mul_comm (10 ^ r.length) 10, Nat.mul_assoc]
      rw [e]
      exact Nat.mul_le_mul_right _ (by omega)
  intro cs h
  have := key cs 0 h
  rw [Nat.zero_add, Nat.one_mul] at this
  exact this
theorem ascii_digit : ∀ c : Nat, c < 128 → Unicode.isDigit c = true → 48 ≤ c ∧ c ≤ 57 := by decide +kernel
/-- ascii and digits: just the ten signs, and there is one -/
theorem digits_iff (x : Str) : (Txt.isascii x = true ∧ Txt.isdigit x = true) ↔ (AllDigits (tl x) ∧ tl x ≠ []) := by
  constructor
  · rintro ⟨h1, h2⟩
    unfold Txt.isascii at h1
    unfold Txt.isdigit at h2
    rw [← Array.all_toList, List.all_eq_true] at h1
    rw [Bool.and_eq_true, ← Array.all_toList, List.all_eq_true] at h2
    refine ⟨fun c hc => ascii_digit c (of_decide_eq_true (h1 c hc)) (h2.2 c hc), fun e => ?_⟩
    have := of_decide_eq_true h2.1
    rw [len_tl, e] at this
    exact absurd this (by decide)
  · rintro ⟨h1, h2⟩
    unfold Txt.isascii Txt.isdigit
    rw [← Array.all_toList, List.all_eq_true, Bool.and_eq_true, ← Array.all_toList, List.all_eq_true]
    refine ⟨fun c hc => ?_, ?_, fun c hc => ?_⟩
    · have := h1 c hc
      exact decide_eq_true (by omega)
    · apply decide_eq_true
      rw [len_tl]
      exact List.length_pos_iff.mpr h2
    · have := h1 c hc
      exact isDigit_dec c (by omega) (by omega)
/-- the word is the text of a whole number -/
def IsNum (w : Str) : Prop := ∃ i, w = tx i
theorem isnum_iff (w : Str) : IsNum w ↔ (Can (tl w) ∨ ∃ r, tl w = 45 :: r ∧ Can r ∧ r ≠ [48]) := by
  constructor
  · rintro ⟨i, rfl⟩
    cases i with
    | ofNat n =>
      refine .inl ?_
      rw [show tl (tx (Int.ofNat n)) = numL n from tl_pos n]
      exact can_num n
    | negSucc n =>
      refine .inr ⟨_, tl_neg n, can_num _, fun e => ?_⟩
      have := numL_val (n + 1)
      rw [e] at this
      have h48 : digitsVal [48] = 0 := by decide
      omega
  · rintro (h | ⟨r, e, h, h0⟩)
    · exact ⟨(digitsVal (tl w) : Nat), ext_tl (by rw [tl_pos]; exact (num_can h).symm)⟩
    · have hp : digitsVal r ≠ 0 := fun z => by
        have := num_can h
        rw [z, numL_lt (by decide)] at this
        exact h0 this.symm
      refine ⟨Int.negSucc (digitsVal r - 1), ext_tl ?_⟩
      rw [tl_neg, e, show digitsVal r - 1 + 1 = digitsVal r by omega, num_can h]
theorem num_sz {w : Str} {i : Int} (h : w = tx i) (hl : w.length ≤ 59) : Sz i := by
  show i.natAbs < 10 ^ 60
  rw [h, len_tl] at hl
  cases i with
  | ofNat n =>
    rw [show tl (tx (Int.ofNat n)) = numL n from tl_pos n] at hl
    have h1 := val_lt _ (numL_digits n)
    rw [numL_val] at h1
    have h2 := Nat.pow_le_pow_right (by decide : 0 < 10) hl
    show n < 10 ^ 60
    have : (10 : Nat) ^ 59 ≤ 10 ^ 60 := by decide
    omega
  | negSucc n =>
    rw [tl_neg, List.length_cons] at hl
    have h1 := val_lt _ (numL_digits (n + 1))
    rw [numL_val] at h1
    have h2 := Nat.pow_le_pow_right (by decide : 0 < 10) (by omega : (numL (n + 1)).length ≤ 59)
    show n + 1 < 10 ^ 60
    have : (10 : Nat) ^ 59 ≤ 10 ^ 60 := by decide
    omega
/-- .. and a field has it -/
def NumF (f : Int) (w : Str) : Prop := ∃ i, w = tx i ∧ (f ≠ 0 → 0 ≤ i ∧ i < f)
theorem len_cut1 (w : Str) : tl (cutS w (some 1) none) = (tl w).drop 1 := by
  unfold cutS
  show ((tl w).drop _).take _ = _
  have e1 : HT.sIx w.length 0 (some 1) = min 1 w.length := by
    simp only [HT.sIx]
    first | omega | (simp; omega) | simp
  have e2 : HT.sIx w.length w.length none = w.length := by simp [HT.sIx]
  rw [e1, e2, len_tl w]
  cases h : tl w with
  | nil => rfl
  | cons c r =>
    simp
theorem starts_zero' (w : Str) : Txt.startswith w "0" = decide ((tl w)[0]? = some 48) := by
  rw [show (("0" : String) : Str) = ⟨#[48]⟩ from rfl, starts_one]
theorem starts_minus' (w : Str) : Txt.startswith w "-" = decide ((tl w)[0]? = some 45) := by
  rw [show (("-" : String) : Str) = ⟨#[45]⟩ from rfl, starts_one]
theorem zero_tl (w : Str) : w = ("0" : Str) ↔ tl w = [48] := by
  constructor
  · rintro rfl
    rfl
  · intro h
    exact ext_tl h
end My
/-! raise C(e) and except C as e, C with its own __init__ that keeps e as a field. -/
namespace My
open PySem L2
theorem raise_in {K : PySem.W.Frag} {C : Addr} {fld : Str} (J : InitOf K C C fld) {H1 : Hp} {v : V} {Q : XK} (h : ∀ d, H1 d = none → Q (.ref C) (some d) (upd H1 d (.xd [(fld, v)]))) :
    [v].length ≤ 1000 ∧ ∀ a, H1 a = none → spInit K C fld (.ref a :: ([v] ++ [])) (upd H1 a (exo a C none))
      (fun w H2 => w = .non ∧ ∃ (d : Addr) (fs : List (Str × V)), H2 a = some (exo a C (some d)) ∧ H2 d = some (exd d fs) ∧ H1 d = none ∧ Q (.ref C) (some d) (upd (del H2 a) d (.xd fs))) (fun _ _ _ => False) := by
  refine ⟨Nat.le_of_ble_eq_true rfl, fun a ha => ⟨a, C, v, rfl, J, upd_same, fun dx hdx nd => ⟨rfl, dx, [(fld, v)], upd_same, ?_, ?_, ?_⟩⟩⟩
  · rw [upd_ne nd, upd_same]
  · rw [upd_ne nd] at hdx
    exact hdx
  · rw [upd_ne nd] at hdx
    have e : upd (del (upd (upd (upd H1 a (exo a C none)) dx (exd dx [(fld, v)])) a (exo a C (some dx))) a) dx (.xd [(fld, v)]) = upd H1 dx (.xd [(fld, v)]) := by
      funext b
      by_cases e1 : b = dx
      · rw [e1, upd_same, upd_same]
      · rw [upd_ne e1, upd_ne e1]
        by_cases e2 : b = a
        · rw [e2, del_same, ha]
        · rw [del_ne e2, upd_ne e2, upd_ne e1, upd_ne e2]
    rw [e]
    exact h dx hdx
section
variable {X : Cx} {x fld : Str} {C fI : Addr} {fd : FuncData} {e : Expr} {te : TE} {p pos pos2 : Pos} {W : WX}
/-- raise C(e) -/
theorem ps_raiseM (M : Made X.K X.prog X.mg x fld C fI fd) (hr : Room 1 X.A) (hc : X.calm = true) (tk : Takes X W) (hg : Gl X x) (he : PE X e te)
    (hdb : (x == ("__debug__" : Str)) = false := by decide) (hs : starEach (e :: []) X.env = (false, eval e X.env) :: starEach [] X.env := by rfl) (hpl : (backTo pos (starEach [] X.env)).any (·.1) = false := by rfl) :
    PS X (.Raise (some (.Call (.Name x p) [e] [] pos)) none pos2) (fun _ σ H => tMkO C (spInit X.K C fld) [] (tCons te tNil) σ H fun cls d H' => W cls d σ H') :=
  ps_raise hc tk (pmk_oex M.of.T M.ini M.ti (init_ok (CX := CX0) M.fn M.sup) hr M.bp .nil pass0 hg M.at_ (pa_cons he pa_nil hs) hdb hs hpl)
end
theorem Made.xf {K : PySem.W.Frag} {P : Program} {mg : Str → Option Value} {x fld : Str} {C fI : Addr} {fd : FuncData} (M : Made K P mg x fld C fI fd) : XfC K C := by
  obtain ⟨nm, q, N, bs, bm, sn, sub, ab, col, dd, k0, k1, k2, k3, k5, hC, hbm⟩ := M.of.T.cls
  refine ⟨M.ex.hga, M.ex.hgt, M.ex.sub, ?_⟩
  unfold PySem.W.hasDictIn PySem.W.clsIn
  rw [hC]
  rfl
theorem Made.exm {K : PySem.W.Frag} {P : Program} {mg : Str → Option Value} {x fld : Str} {C fI : Addr} {fd : FuncData} (M : Made K P mg x fld C fI fd) {cls : Value} {b : Bool} (h : PySem.W.subIn K cls (.ref C) = some b) : PySem.W.exmOne K cls (.ref C) = some b := by
  -- exm_self
  unfold PySem.W.exmOne PySem.W.kitCls
  have e2 : ((PySem.W.clsIn K C).isSome && PySem.W.typeIn K (.ref C) == some (.type "type")) = true := by
    rw [M.ex.cls, M.of.T.tyC]
    decide
  rw [if_pos (by rw [M.ex.sub]; decide)]
  show (if ((PySem.W.clsIn K C).isSome && PySem.W.typeIn K (.ref C) == some (.type "type")) = true then PySem.W.subIn K cls (.ref C) else none) = some b
  rw [if_pos e2, h]
end My
/-! A class method called in a try's body. -/
namespace My
open PySem L2
section
variable {X : Cx} {CX : CXT} {k : Nat} {g C p : Addr} {fd : FuncData} {ps : List Str} {sp : Sp} {E : St → XK} {m : Str} {mc : Value} {apos pos : Pos} {e o : Expr} {es : List Expr} {to : TE} {t : TA}
def tCMethS (C : Addr) (sp : Sp) (E : St → XK) (to : TE) (t : TA) : TE := fun σ H Q => to σ H fun x H1 => x = .ref C ∧ t σ H1 fun vs H2 => sp (.ref C :: vs) H2 Q (E σ)
theorem pe_cmethS {pl : Sem Bool} (ho : PE X o to) (R : ClX.CRead X.K C mc) (M : ClX.CMet X.K C mc m p g) (G : FnOk X.prog X.w X.K X.mg X.base CX k g fd ps sp) (room : Room k X.A) (bd : Binds X.K fd ps []) (out : ∀ σ, PassesAt CX X σ (E σ)) (hargs : PA X (e :: es) t)
    (h1 : starEach (e :: es) X.env = (false, eval e X.env) :: starEach es X.env := by rfl) (h2 : (backTo pos (starEach es X.env)).any (·.1) = false := by rfl)
    (tree : eval (.Call (.Attribute o m apos) (e :: es) [] pos) X.env = (do
      let it ← eval o X.env
      standAt apos.atName
      let (q, before) ← holding [it] (getMethod it m pl)
      callWith pos q before (backTo pos (starEach (e :: es) X.env)) (backToKw pos (keywordEach [] X.env))) := by rfl) :
    PE X (.Call (.Attribute o m apos) (e :: es) [] pos) (tCMethS C sp E to t) := by
  refine ⟨fun pn s σ H Q inv want => ?_⟩
  refine PySem.W.methodCall_KW (pl := pl) (thn (ho.run pn s σ H _ inv want) fun u sa ⟨x, Ha, ia, rx, ex, rest⟩ => ?_) tree
  subst ex
  obtain rfl : u = Value.ref C := rx
  refine ClX.getmethcm_ok ia R M fun sb ib => ?_
  refine ClX.callwith_cm ib (ClX.base_none ia (Nat.le_refl _)) M.fi (thn (hargs.run pos _ sb σ Ha _ ib rest) fun us sc ⟨vs, Hb, ic, rv, rest2⟩ => ⟨⟨ClX.pin_at ic, ic.kIn⟩, ?_⟩) h1 h2
  have many : (Value.ref C :: us).length = ps.length := by
    rw [← G.len _ _ _ _ rest2, ← Paired.length (show Vals (V.ref C :: vs) (Value.ref C :: us) from .cons rfl rv)]
  have bound := bd sc (.ref C :: us) ic.kIn (by rw [List.append_nil]; exact many)
  rw [List.append_nil] at bound
  have z : wpAny (model X.prog X.w) X.A (call (.ref sa.heap.objs.size) us) (EP X ((sa.heap.objs.size, PySem.W.methodObj (.ref g) (.ref C)) :: pn) σ Q) X.xe sc := by
    refine wpAny_call (PySem.W.method_call (ClX.pin_at ic) (codeAny_mono (G.run X.A X.stack sc Hb ⟨.ref C :: us, []⟩ (.ref C :: us) (.ref C :: vs) Q (E σ) room ic.env0 bound (.cons rfl rv) rest2) fun r sd back => ?_))
    cases r with
    | error err => exact out σ _ Hb sc err sd ic back
    | ok fl =>
      cases fl with
      | ret u => exact ic.after back
      | next => exact back.elim
      | brk => exact back.elim
      | cont => exact back.elim
  exact thn z fun _ _ y => ClX.unpinE y
end
end My
/-! Comprehensions with a test that only make new things. -/
namespace My
open PySem L2
section
variable {J : It} {n : Nat} {G : Hp → Prop} {Y : Nat → Hp → V → Hp → Prop} {D : Addr} {i : Nat} {vs : List Nat} {tt : TT} {te : TE} {σ : L2.St} {H1 : Hp} {Qd : Hp → Prop}
theorem filt_it (w : Walk J n G Y) (gs : List (Option V)) (hl : gs.length = n) (hG : ∀ H, Same H1 H → G H) (nD : H1 D = none) (sz : n ≤ 10000) (hE : ∀ j H x H', Y j H x H' → H' = H)
    (hw : ∀ x, wipe ((wipe σ vs).set i (some x)) vs = wipe σ vs)
    (hs : ∀ (j : Nat) (x : V) (o : Option V) (H : Hp), Y j H x H → gs[j]? = some o → Same H1 H → ∀ (N : Hp → Prop) (R : VK), (o = none → ∀ H4, Same H H4 → N H4) → (∀ y, o = some y → ∀ H4, Same H H4 → R y H4) →
      tt ((wipe σ vs).set i (some x)) H fun b H3 => if b = true then te ((wipe σ vs).set i (some x)) H3 R else N H3)
    (hd : ∀ H, Same H1 H → H D = some (.lst (gs.filterMap id)) → Qd H) :
    ∃ W : Nat → Nat → Hp → Prop, (∃ m, W 0 m (upd H1 D (.lst []))) ∧ ∀ i0 m H, W i0 m H →
      (J.stop i0 H ∧ Qd H) ∨ (J.go i0 H ∧ ∃ Nx : Hp → Prop, (∀ H', Nx H' → ∃ m', m' < m ∧ W (i0 + 1) m' H') ∧ ∀ x H', J.yld i0 H x H' → gName i x (wipe σ vs) H' fun σ2 H2 => wipe σ2 vs = wipe σ vs ∧ tt σ2 H2 fun b H3 =>
        if b = true then te σ2 H3 fun y H4 => ∃ acc, H4 D = some (.lst acc) ∧ acc.length < sizeLine ∧ Nx (upd H4 D (.lst (acc ++ [y]))) else Nx H3) := by
  refine lc_it w (fun j H => Same H1 H ∧ H D = some (.lst ((gs.take j).filterMap id))) ⟨same_upd3 nD, upd_same⟩ (fun j H _ h => hG H h.1) ?_ ?_
  · rintro j x H H' hj ⟨sH, e⟩ y
    obtain rfl := hE j H x H' y
    refine ⟨hw x, ?_⟩
    have ho : gs[j]? = some gs[j] := List.getElem?_eq_getElem (by omega)
    refine hs j x _ H' y ho sH _ _ (fun hn H4 s4 => ⟨sH.trans s4, ?_⟩) fun z hz H4 s4 => ⟨_, s4 _ _ e, ?_, ?_, ?_⟩
    · rw [List.take_succ, ho, hn]
      rw [s4 _ _ e]
      simp
    · have h1 := List.length_filterMap_le id (gs.take j)
      rw [List.length_take] at h1
      exact Nat.lt_of_le_of_lt (by omega : _ ≤ 10000) (by decide)
    · intro b u e2
      rw [upd_ne (ne_of_none e2 nD)]
      exact s4 _ _ (sH _ _ e2)
    · rw [upd_same, List.take_succ, ho, hz]
      simp
  · rintro H ⟨sH, e⟩
    rw [← hl, List.take_length] at e
    exact hd H sH e
end
theorem all_none {α β : Type} (f : α → Option β) : ∀ xs : List α, (∀ x ∈ xs, f x = none) → (xs.map f).filterMap id = []
  | [], _ => rfl
  | x :: r, h => by
    rw [List.map_cons, List.filterMap_cons, h x (.head _)]
    exact all_none f r fun y m => h y (.tail _ m)
theorem not_none {α β : Type} (f : α → Option β) : ∀ xs : List α, (¬ ∀ x ∈ xs, f x = none) → (xs.map f).filterMap id ≠ []
  | [], h => absurd (fun _ m => nomatch m) h
  | x :: r, h => by
    rw [List.map_cons, List.filterMap_cons]
    cases e : f x with
    | some y => simp
    | none =>
      refine not_none f r fun h2 => h fun y m => ?_
      rcases List.mem_cons.mp m with rfl | m
      · exact e
      · exact h2 y m
end My
namespace My
open PySem L2
def top (i : Nat) : Stmt := PySem.Challenge.pw_freelots_k04_bad_row_texts.main.body.getD i (.Pass ⟨0, 0, 0, 0⟩)
/-! ### a reading of ints and names, told as plain words -/
theorem at0 {a : V} {r : List V} : atI (a :: r) 0 = some a := atI_nat (j := 0) rfl
theorem at1 {a b : V} {r : List V} : atI (a :: b :: r) 1 = some b := atI_nat (j := 1) rfl
theorem at2 {a b c : V} {r : List V} : atI (a :: b :: c :: r) 2 = some c := atI_nat (j := 2) rfl
theorem set0 : ixN 3 0 = some 0 := rfl
theorem set1 : ixN 3 1 = some 1 := rfl
theorem set2 : ixN 3 2 = some 2 := rfl
theorem upd_upd {H : Hp} {a : Addr} {o u : HO} : upd (upd H a o) a u = upd H a u := by
  funext b
  by_cases e : b = a
  · rw [e, upd_same, upd_same]
  · rw [upd_ne e, upd_ne e, upd_ne e]
theorem scal_int (i j : Int) : scal (V.int i) (V.int j) = true := rfl
local macro_rules | `(tactic| walk_at "rd") => `(tactic| (simp (config := { failIfUnchanged := true }) only [gName, gSub, rSetL, fIxL, fIxT, fLenL, fLenT, CPowW, CDivN, tRet, L2.start, List.map_cons, List.map_nil, List.length_cons, List.length_nil, List.replicate_succ, List.replicate_zero, List.cons_append, List.nil_append, Nat.reduceAdd, Nat.reduceSub, HO.lst.injEq, HO.tup.injEq, at0, at1, at2, set0, set1, set2, upd_same, upd_upd, tSeq, tIfS, tAnd, tTest, tOp, tVar, tC, rI, rI0, tAsg, tNext, tCB, tCons, tNil, rEq, CMul, CPow,
  List.set, List.getElem?_cons_zero, List.getElem?_cons_succ, Option.some.injEq, V.int.injEq, V.bl.injEq, V.ref.injEq, reduceCtorEq, List.cons.injEq, and_true, true_and, and_false, false_and, exists_false, or_false, false_or,
  decide_eq_true_eq, Bool.false_eq_true, if_false, if_true, exists_eq_left', exists_eq_left, exists_and_left, exists_eq_right, exists_eq, exists_eq', exists_const, scal_int, Int.reduceLT, Int.reduceLE, Int.reduceNeg, Int.reducePow, Nat.reducePow, Nat.reduceLT, Int.reduceToNat, or_true, true_or, decide_true, decide_false]))
/-! ### the law's own draws -/
abbrev sSource : Stmt := top 26
abbrev sDraw : Stmt := top 27
abbrev sPick : Stmt := top 28
theorem same_upd {H : Hp} {p : Addr} {o : HO} (h : H p = none) : Same H (upd H p o) := by
  intro b x e
  rw [upd_ne (ne_of_none e h)]
  exact e
/-- what the source's list holds behind at most n draws -/
def SrcL (n : Nat) (o : HO) : Prop := ∃ (g sd c : Int), o = .lst [.int g, .int sd, .int c] ∧ 0 ≤ sd ∧ sd < 2147483647 ∧ 0 ≤ c ∧ c ≤ (n : Int)
theorem SrcL.mono {m n : Nat} {o : HO} (h : SrcL m o) (l : m ≤ n) : SrcL n o := by
  obtain ⟨g, sd, c, e, h1, h2, h3, h4⟩ := h
  exact ⟨g, sd, c, e, h1, h2, h3, by omega⟩
def spSource (K : PySem.W.Frag) : Sp := fun vs H Q _ => ∃ (a : Addr) (ns : List Int), vs = [.ref a] ∧ SqL K H a (ns.map V.int) ∧
  ∀ (H' : Hp) (p : Addr) (o : HO), Same H H' → H p = none → H' p = some o → SrcL 0 o → Q (.ref p) H'
def spDraw : Sp := fun vs H Q _ => ∃ (p : Addr) (o : HO) (n : Nat) (m : Int), vs = [.ref p, .int m] ∧ H p = some o ∧ SrcL n o ∧ n ≤ 100000 ∧ 0 < m ∧ m < 1000000 ∧
  ∀ (r : Int) (o' : HO), 0 ≤ r → r < m → SrcL (n + 1) o' → Q (.int r) (upd H p o')
def spPick (K : PySem.W.Frag) : Sp := fun vs H Q _ => ∃ (p l : Addr) (o : HO) (n : Nat) (xs : List V), vs = [.ref p, .ref l] ∧ H p = some o ∧ SrcL n o ∧ n ≤ 100000 ∧ H l = some (.lst xs) ∧ xs ≠ [] ∧ xs.length < 1000 ∧ p ≠ l ∧
  ∀ (x : V) (o' : HO), x ∈ xs → SrcL (n + 1) o' → Q x (upd H p o')
section
variable {P : Program} {w : World} {K : PySem.W.Frag} {mg : Str → Option Value} {base : Heap}
theorem scSo : FnScope ["_law_script", "_law_great", "_law_seed", "_law_cell"] ["_law_script"] (defScope sSource) := ⟨rfl, rfl, rfl, by decide +kernel, rfl, by decide +kernel, by decide +kernel⟩
theorem ok_source {f : Addr} {fd : FuncData} (F : Fun K "_law_source" "_law_source" sSource f fd) (mI : mg "int" = none) : FnOk P w K mg base CX0 1 f fd ["_law_script"] (spSource K) := by
  refine F.ok scSo (fun vs H Q E h => ?_) (fun cdv A outer s H vs Q E hr h => ?_)
  · obtain ⟨a, ns, rfl, _⟩ := h
    rfl
  · obtain ⟨a, ns, rfl, hS, k⟩ := h
    have nd := scSo.nd
    refine ⟨_, pss_cons (ps_asg (pe_tup (pa_cons pe_int (pa_cons pe_int pa_nil))) (pg_tup (by rfl) (pgs_cons (pg_name (i := 1) nd rfl (.inl rfl)) (pgs_cons (pg_name (i := 2) nd rfl (.inl rfl)) pgs_nil))))
      (pss_cons (ps_for PassesOwn.never rfl (pi_list (pv 0)) (pg_name (i := 3) nd rfl (.inl rfl))
        (pss_cons (ps_if (PW.pt (pw_and (pt_cmpR op_eq (pv 1) pe_int (nomark _)) (pw_and1 (pt_cmpR op_ge (pv 3) (pe_op op_pow pe_int pe_int) (nomark _)))))
            (pss_one (ps_set (i := 1) nd rfl (.inl rfl) (pv 3))) pss_nil)
          (pss_one (ps_set (i := 2) nd rfl (.inl rfl)
            (pe_op op_mod (pe_callTy call_int1 (by rfl) mI (by decide +kernel) (pa_cons (pe_op op_add (pe_op op_add (pe_op op_mul (pv 2) pe_int) (pv 3)) pe_int) pa_nil)) pe_int)))))
      (pss_one (ps_ret (pe_lst (pa_cons (pv 1) (pa_cons (pv 2) (pa_cons pe_int pa_nil))))))), ?_⟩
    refine ⟨by show 2 ≤ sizeLine; decide, fun t ht => ?_⟩
    have s1 : Same H (upd H t (.tup [.int 0, .int 17])) := same_upd ht
    refine ⟨t, [.int 0, .int 17], rfl, .inl (.inl upd_same), rfl, .int 0, [.int 17], rfl, .int 17, [], rfl, rfl, ?_⟩
    refine ⟨.ref a, rfl, a, rfl, ⟨_, s1.seq hS⟩, for_list (K := K) (a := a) (xs := ns.map V.int) (fun i σ H' => ∃ (g sd : Int) (v : Option V), σ = [some (.ref a), some (.int g), some (.int sd), v] ∧ 0 ≤ sd ∧ sd < 2147483647 ∧ H' = upd H t (.tup [.int 0, .int 17]))
      ⟨0, 17, none, rfl, by decide, by decide, rfl⟩ (fun i σ H' _ ⟨_, _, _, _, _, _, e⟩ => by rw [e]; exact s1.seq hS) ?_ ?_⟩
    · rintro i y σ H' hi ⟨g, sd, v, rfl, h0, h1, rfl⟩
      obtain ⟨u, rfl⟩ : ∃ u, y = V.int u := by
        rw [List.getElem?_map] at hi
        cases e : ns[i]? with
        | none =>
          rw [e] at hi
          cases hi
        | some u =>
          rw [e] at hi
          exact ⟨u, (Option.some.inj hi).symm⟩
      walk_at "rd"
      have m0 : 0 ≤ (sd * 31 + u + 7) % 2147483647 := Int.emod_nonneg _ (by decide)
      have m1 : (sd * 31 + u + 7) % 2147483647 < 2147483647 := Int.emod_lt_of_pos _ (by decide)
      refine ite2 (fun _ => ⟨by decide, ite2 (fun _ => ?_) (fun _ => ?_)⟩) (fun _ => ?_)
      all_goals exact ⟨_, _, _, ⟨rfl, rfl, rfl⟩, m0, m1⟩
    · rintro σ H' ⟨g, sd, v, rfl, h0, h1, rfl⟩
      refine ⟨_, rfl, _, rfl, by show 3 ≤ sizeLine; decide, fun p hp => ?_⟩
      have np : H p = none := by
        by_cases e : p = t
        · rw [e]
          exact ht
        · rw [upd_ne e] at hp
          exact hp
      exact k _ p _ (s1.trans (same_upd hp)) np upd_same ⟨g, sd, 0, rfl, h0, h1, by decide, by decide⟩
theorem scDr : FnScope ["_law_source_here", "_law_many", "_law_digit", "_law_mixed"] ["_law_source_here", "_law_many"] (defScope sDraw) := ⟨rfl, rfl, rfl, by decide +kernel, rfl, by decide +kernel, by decide +kernel⟩
theorem ok_draw {f : Addr} {fd : FuncData} (F : Fun K "_law_draw" "_law_draw" sDraw f fd) (mI : mg "int" = none) : FnOk P w K mg base CX0 1 f fd ["_law_source_here", "_law_many"] spDraw := by
  refine F.ok scDr (fun vs H Q E h => ?_) (fun cdv A outer s H vs Q E hr h => ?_)
  · obtain ⟨p, o, n, m, rfl, _⟩ := h
    rfl
  · obtain ⟨p, o, n, m, rfl, hp, ⟨g, sd, c, rfl, h0, h1, c0, c1⟩, hn, m0, m1, k⟩ := h
    have nd := scDr.nd
    refine ⟨_, pss_cons (ps_asg (pe_op op_add (pe_ix ixL (pv 0) pe_int (fun _ _ => rfl)) pe_int) (pg_sub (pv 0) pe_int set_list))
      (pss_cons (ps_if (pt_cmpR op_gt (pe_ix ixL (pv 0) pe_int (fun _ _ => rfl)) pe_int (nomark _))
          (pss_cons (ps_set (i := 2) nd rfl (.inl rfl) (pe_op op_mod (pe_callTy call_int1 (by rfl) mI (by decide +kernel) (pa_cons (pe_ix ixL (pv 0) pe_int (fun _ _ => rfl)) pa_nil)) (pv 1)))
            (pss_cons (ps_asg (pe_op op_fdivN (pe_ix ixL (pv 0) pe_int (fun _ _ => rfl)) (pv 1)) (pg_sub (pv 0) pe_int set_list))
              (pss_one (ps_ret (pv 2))))) pss_nil)
        (pss_cons (ps_set (i := 3) nd rfl (.inl rfl) (pe_op op_mod (pe_op op_pow (pe_op op_add (pe_ix ixL (pv 0) pe_int (fun _ _ => rfl)) (pe_op op_mul pe_int (pe_ix ixL (pv 0) pe_int (fun _ _ => rfl)))) pe_int) pe_int))
          (pss_one (ps_ret (pe_op op_mod (pe_op op_mod (pe_op op_pow (pe_op op_add (pe_op op_add (pe_op op_mul (pv 3) pe_int)
            (pe_op op_mul (pe_op op_mul pe_int (pe_ix ixL (pv 0) pe_int (fun _ _ => rfl))) (pe_ix ixL (pv 0) pe_int (fun _ _ => rfl)))) pe_int) pe_int) pe_int) (pv 1)))))), ?_⟩
    walk_at "rd"
    simp only [hp]
    walk_at "rd"
    have hn' : (n : Int) ≤ 100000 := by omega
    refine ite2 (fun _ => ⟨m0, ⟨by omega, by omega⟩, ?_⟩) (fun _ => ⟨by omega, .inr (by omega), ?_, m0, ?_⟩)
    · exact k _ _ (Int.emod_nonneg _ (by omega)) (Int.emod_lt_of_pos _ m0) ⟨_, sd, c + 1, rfl, h0, h1, by omega, by omega⟩
    · have r0 : 0 ≤ (sd + 7919 * (c + 1)) ^ 5 % 2147483629 := Int.emod_nonneg _ (by decide)
      have r1 : (sd + 7919 * (c + 1)) ^ 5 % 2147483629 < 2147483629 := Int.emod_lt_of_pos _ (by decide)
      have q0 : 0 ≤ 16807 * (c + 1) * (c + 1) := Int.mul_nonneg (by omega) (by omega)
      have q1 : 16807 * (c + 1) * (c + 1) ≤ 1680716807 * 100001 := Int.mul_le_mul (by omega) (by omega) (by omega) (by decide)
      omega
    · exact k _ _ (Int.emod_nonneg _ (by omega)) (Int.emod_lt_of_pos _ m0) ⟨_, sd, c + 1, rfl, h0, h1, by omega, by omega⟩
theorem scPi : FnScope ["_law_source_here", "_law_things"] ["_law_source_here", "_law_things"] (defScope sPick) := ⟨rfl, rfl, rfl, by decide +kernel, rfl, by decide +kernel, by decide +kernel⟩
theorem ok_pick {f fD : Addr} {fd fdD : FuncData} (F : Fun K "_law_pick" "_law_pick" sPick f fd) (GD : FnOk P w K mg base CX0 1 fD fdD ["_law_source_here", "_law_many"] spDraw) (mD : mg "_law_draw" = some (.ref fD))
    (kD : PySem.W.keepIn K (.ref fD) = true) (bD : Binds K fdD ["_law_source_here", "_law_many"] []) (mL : mg "len" = none) :
    FnOk P w K mg base CX0 2 f fd ["_law_source_here", "_law_things"] (spPick K) := by
  refine F.ok scPi (fun vs H Q E h => ?_) (fun cdv A outer s H vs Q E hr h => ?_)
  · obtain ⟨p, l, o, n, xs, rfl, _⟩ := h
    rfl
  · obtain ⟨p, l, o, n, xs, rfl, hp, ho, hn, hl, hx, hz, npl, k⟩ := h
    refine ⟨_, pss_one (ps_ret (pe_ix ixL (pv 1) (pe_call GD hr rfl mD kD bD .nil pass0 (pa_cons (pv 0) (pa_cons (pe_callB lenL (by rfl) mL PySem.boot_len (pa_cons (pv 1) pa_nil)) pa_nil))) (fun _ _ => rfl))), ?_⟩
    have hpos : 0 < xs.length := List.length_pos_iff.mpr hx
    refine ⟨_, rfl, _, rfl, _, rfl, l, xs, rfl, hl, p, o, n, _, rfl, hp, ho, hn, by omega, by omega, fun r o' r0 r1 ho' => ?_⟩
    obtain ⟨j, rfl⟩ : ∃ j : Nat, r = j := ⟨r.toNat, by omega⟩
    have hj : j < xs.length := by omega
    refine ⟨l, j, xs, xs[j], rfl, rfl, by rw [upd_ne (Ne.symm npl)]; exact hl, atI_nat (List.getElem?_eq_getElem hj), ?_⟩
    exact k _ _ (List.getElem_mem hj) ho'
end
/-! ### checks, of ints in lists and tuples -/
abbrev sWhole : Stmt := top 10
abbrev sList : Stmt := top 11
abbrev sField : Stmt := top 12
abbrev sRow : Stmt := top 13
abbrev sFault : Stmt := top 14
abbrev sTold : Stmt := top 23
/-- at a: a list or a tuple of xs -/
def Sq (H : Hp) (a : Addr) (xs : List V) : Prop := H a = some (.lst xs) ∨ H a = some (.tup xs)
theorem Sq.same {H H' : Hp} {a : Addr} {xs : List V} (h : Sq H a xs) (s : Same H H') : Sq H' a xs := by
  rcases h with h | h
  · exact .inl (s _ _ h)
  · exact .inr (s _ _ h)
theorem same_new {H H' : Hp} {D : Addr} {o : HO} (n : H D = none) (s : Same H H') : Same H (upd H' D o) := by
  intro b x e
  rw [upd_ne (ne_of_none e n)]
  exact s _ _ e
/-- the names that checks use -/
structure Nm (mg : Str → Option Value) : Prop where
  isin : mg "isinstance" = none
  int : mg "int" = none
  bool : mg "bool" = none
  list : mg "list" = none
  tuple : mg "tuple" = none
  len : mg "len" = none
  all : mg "all" = none
  enum : mg "enumerate" = none
  str : mg "str" = none
  range : mg "range" = none
def spWhole : Sp := fun vs H Q _ => ∃ i, vs = [.int i] ∧ Q (.bl true) H
def spList : Sp := fun vs H Q _ => ∃ a xs, vs = [.ref a] ∧ Sq H a xs ∧ ∀ H', Same H H' → Q (.bl true) H'
def fields : List Int := [0, 2, 3, 5, 7, 11, 13]
def spField : Sp := fun vs H Q _ => ∃ i, vs = [.int i] ∧ i ∈ fields ∧ Q (.bl true) H
def spRow : Sp := fun vs H Q _ => ∃ (a : Addr) (ns : List Int), vs = [.ref a] ∧ Sq H a (ns.map V.int) ∧ ns.length ≤ 12 ∧ ∀ H', Same H H' → Q (.bl true) H'
section
variable {P : Program} {w : World} {K : PySem.W.Frag} {mg : Str → Option Value} {base : Heap}
theorem scWh : FnScope ["value"] ["value"] (defScope sWhole) := ⟨rfl, rfl, rfl, by decide +kernel, rfl, by decide +kernel, by decide +kernel⟩
theorem ok_whole {f : Addr} {fd : FuncData} (F : Fun K "is_whole" "is_whole" sWhole f fd) (N : Nm mg) : FnOk P w K mg base CX0 1 f fd ["value"] spWhole := by
  refine F.ok scWh (fun vs H Q E h => ?_) (fun cdv A outer s H vs Q E hr h => ?_)
  · obtain ⟨i, rfl, _⟩ := h
    rfl
  · obtain ⟨i, rfl, k⟩ := h
    refine ⟨_, pss_one (ps_ret (pe_and (pe_callB call_isi (by rfl) N.isin (by decide +kernel) (pa_cons (pv 0) (pa_cons (pe_bltn (v := V.ty "int") (by rfl) N.int (by decide +kernel) rfl) pa_nil)))
      (pe_one (pe_not (pe_callB call_isi (by rfl) N.isin (by decide +kernel) (pa_cons (pv 0) (pa_cons (pe_bltn (v := V.ty "bool") (by rfl) N.bool (by decide +kernel) rfl) pa_nil))))))), ?_⟩
    refine ⟨_, rfl, _, _, _, _, true, rfl, .ty _, .base (.int i), by kernel_rfl, true, rfl, iteT ?_⟩
    exact ⟨_, rfl, _, _, _, _, false, rfl, .ty _, .base (.int i), by kernel_rfl, false, rfl, k⟩
theorem scLi : FnScope ["value"] ["value"] (defScope sList) := ⟨rfl, rfl, rfl, by decide +kernel, rfl, by decide +kernel, by decide +kernel⟩
theorem ok_list {f : Addr} {fd : FuncData} (F : Fun K "is_list" "is_list" sList f fd) (N : Nm mg) : FnOk P w K mg base CX0 1 f fd ["value"] spList := by
  refine F.ok scLi (fun vs H Q E h => ?_) (fun cdv A outer s H vs Q E hr h => ?_)
  · obtain ⟨a, xs, rfl, _⟩ := h
    rfl
  · obtain ⟨a, xs, rfl, hS, k⟩ := h
    refine ⟨_, pss_one (ps_ret (pe_callB call_isiT (by rfl) N.isin (by decide +kernel) (pa_cons (pv 0) (pa_cons (pe_tup (pa_cons (pe_bltn (v := V.ty "list") (by rfl) N.list (by decide +kernel) rfl)
      (pa_cons (pe_bltn (v := V.ty "tuple") (by rfl) N.tuple (by decide +kernel) rfl) pa_nil))) pa_nil)))), ?_⟩
    refine ⟨_, rfl, by show 2 ≤ sizeLine; decide, fun t ht => ?_⟩
    have hS2 := hS.same (same_upd ht (o := .tup [.ty "list", .ty "tuple"]))
    rcases hS2 with h | h
    · exact ⟨_, t, _, _, _, true, rfl, upd_same, .cons (.ty _) (.cons (.ty _) .nil), .base (.lst h), by kernel_rfl, k _ (same_upd ht)⟩
    · exact ⟨_, t, _, _, _, true, rfl, upd_same, .cons (.ty _) (.cons (.ty _) .nil), .base (.tup h), by kernel_rfl, k _ (same_upd ht)⟩
theorem scFd : FnScope ["value"] ["value"] (defScope sField) := ⟨rfl, rfl, rfl, by decide +kernel, rfl, by decide +kernel, by decide +kernel⟩
theorem ok_field {f fW aF : Addr} {fd fdW : FuncData} (F : Fun K "is_field" "is_field" sField f fd) (FW : Fun K "is_whole" "is_whole" sWhole fW fdW) (bW : Binds K fdW ["value"] []) (gW : mg "is_whole" = some (.ref fW)) (N : Nm mg)
    (gF : mg "FIELDS" = some (.ref aF)) (tF : ∀ H, SqT K H aF (fields.map V.int)) : FnOk P w K mg base CX0 2 f fd ["value"] spField := by
  have GW := ok_whole (P := P) (w := w) (base := base) FW N
  refine F.ok scFd (fun vs H Q E h => ?_) (fun cdv A outer s H vs Q E hr h => ?_)
  · obtain ⟨i, rfl, _⟩ := h
    rfl
  · obtain ⟨i, rfl, hi, k⟩ := h
    refine ⟨_, pss_one (ps_ret (pe_and (pe_call GW hr rfl gW FW.kp bW .nil pass0 (pa_cons (pv 0) pa_nil)) (pe_one (pe_cmpR op_in_seq (pv 0) (pe_gref (by rfl) gF) (by rfl))))), ?_⟩
    refine ⟨_, rfl, i, rfl, true, rfl, iteT ⟨_, rfl, aF, _, rfl, .inr (tF H), rfl, rfl, ?_⟩⟩
    have e : inV (.int i) (fields.map V.int) = true := by
      simp only [fields, List.mem_cons, List.not_mem_nil, or_false] at hi
      rcases hi with rfl | rfl | rfl | rfl | rfl | rfl | rfl <;> rfl
    rw [if_neg Bool.false_ne_true, e]
    exact k
theorem scRw : FnScope ["value", "number"] ["value"] (defScope sRow) := ⟨rfl, rfl, rfl, by decide +kernel, rfl, by decide +kernel, by decide +kernel⟩
theorem all_yes {n : Nat} : ((List.range n).map fun _ => V.bl true) = ((List.range n).map fun _ => true).map V.bl := by
  rw [List.map_map]
  rfl
theorem all_yes2 {n : Nat} : ((List.range n).map fun _ => true).all id = true := by
  rw [List.all_eq_true]
  intro b hb
  obtain ⟨_, _, rfl⟩ := List.mem_map.mp hb
  rfl
theorem int_at {ns : List Int} {j : Nat} {x : V} (h : (ns.map V.int)[j]? = some x) : ∃ i, x = .int i ∧ ns[j]? = some i := by
  rw [List.getElem?_map] at h
  cases e : ns[j]? with
  | none =>
    rw [e] at h
    cases h
  | some i =>
    rw [e] at h
    cases h
    exact ⟨i, rfl, rfl⟩
theorem ok_row {f fW fL : Addr} {fd fdW fdL : FuncData} {tk : Tok} (F : Fun K "is_row" "is_row" sRow f fd) (FW : Fun K "is_whole" "is_whole" sWhole fW fdW) (bW : Binds K fdW ["value"] []) (gW : mg "is_whole" = some (.ref fW))
    (FL : Fun K "is_list" "is_list" sList fL fdL) (bL : Binds K fdL ["value"] []) (gL : mg "is_list" = some (.ref fL)) (N : Nm mg) (gM : mg "MOST_WIDTH" = some (.int 12 tk)) : FnOk P w K mg base CX0 2 f fd ["value"] spRow := by
  have GW := ok_whole (P := P) (w := w) (base := base) FW N
  have GL := ok_list (P := P) (w := w) (base := base) FL N
  refine F.ok scRw (fun vs H Q E h => ?_) (fun cdv A outer s H vs Q E hr h => ?_)
  · obtain ⟨a, ns, rfl, _⟩ := h
    rfl
  · obtain ⟨a, ns, rfl, hS, hl, k⟩ := h
    have nd := scRw.nd
    have hd12 : decide (((ns.map V.int).length : Int) ≤ 12) = true := by
      rw [List.length_map]
      exact decide_eq_true (by omega)
    rcases hS with hS | hS
    · refine ⟨_, pss_one (ps_ret (pe_and (pe_call GL hr rfl gL FL.kp bL .nil pass0 (pa_cons (pv 0) pa_nil)) (pe_and (pe_cmpR op_le (pe_callB lenL (by rfl) N.len PySem.boot_len (pa_cons (pv 0) pa_nil)) (pe_glob (v := .int 12) (by rfl) gM ⟨_, rfl⟩) (nomark _))
        (pe_one (pe_callB (cr_all rfl) (by rfl) N.all (by decide +kernel) (pa_cons (pe_lc (own := [("number", 1)]) (g := gName 1) (tt := tYes) rfl nd (pi_list (pv 0)) (blkOk_by (own := [("number", 1)]) (N := ["value", "number"]) (sc := defScope sRow) (by decide +kernel))
          (fun _ _ _ _ _ => pg_name (i := 1) nd rfl (Or.inl rfl)) (fun _ _ _ _ _ => pts_nil) (fun _ _ _ _ _ => pe_call GW hr rfl gW FW.kp bW .nil pass0 (pa_cons (pv 1) pa_nil))) pa_nil)))))), ?_⟩
      refine ⟨_, rfl, a, _, rfl, .inl hS, fun H1 s1 => ⟨true, rfl, iteT ⟨_, rfl, a, _, rfl, s1 _ _ hS, _, _, rfl, rfl, _, rfl, ?_⟩⟩⟩
      rw [if_pos hd12]
      refine ⟨_, rfl, a, rfl, ⟨_, SqL.of (s1 _ _ hS)⟩, fun D nD => comp_list (fun _ H' => Same H1 H') (fun _ y => y = .bl true) same_refl (fun _ _ _ h => same_new nD h) (fun _ _ h => SqL.of (h _ _ (s1 _ _ hS)))
        (by rw [List.length_map]; omega) (fun _ => rfl) ?_ ?_⟩
      · intro j x H' hx hH R hR
        obtain ⟨i, rfl, _⟩ := int_at hx
        exact ⟨_, rfl, i, rfl, hR _ _ rfl hH rfl⟩
      · intro H' ys hH e g
        rw [g.map (f := fun _ => .bl true) (fun _ _ _ h => h), all_yes] at e
        refine ⟨D, _, rfl, SqL.of e, ?_⟩
        rw [all_yes2]
        exact k _ (s1.trans hH)
    · refine ⟨_, pss_one (ps_ret (pe_and (pe_call GL hr rfl gL FL.kp bL .nil pass0 (pa_cons (pv 0) pa_nil)) (pe_and (pe_cmpR op_le (pe_callB lenT (by rfl) N.len PySem.boot_len (pa_cons (pv 0) pa_nil)) (pe_glob (v := .int 12) (by rfl) gM ⟨_, rfl⟩) (nomark _))
        (pe_one (pe_callB (cr_all rfl) (by rfl) N.all (by decide +kernel) (pa_cons (pe_lc (own := [("number", 1)]) (g := gName 1) (tt := tYes) rfl nd (pi_tup (pv 0)) (blkOk_by (own := [("number", 1)]) (N := ["value", "number"]) (sc := defScope sRow) (by decide +kernel))
          (fun _ _ _ _ _ => pg_name (i := 1) nd rfl (Or.inl rfl)) (fun _ _ _ _ _ => pts_nil) (fun _ _ _ _ _ => pe_call GW hr rfl gW FW.kp bW .nil pass0 (pa_cons (pv 1) pa_nil))) pa_nil)))))), ?_⟩
      refine ⟨_, rfl, a, _, rfl, .inr hS, fun H1 s1 => ⟨true, rfl, iteT ⟨_, rfl, a, _, rfl, s1 _ _ hS, _, _, rfl, rfl, _, rfl, ?_⟩⟩⟩
      rw [if_pos hd12]
      refine ⟨_, rfl, a, rfl, ⟨_, SqT.of (s1 _ _ hS)⟩, fun D nD => comp_tup (fun _ H' => Same H1 H') (fun _ y => y = .bl true) same_refl (fun _ _ _ h => same_new nD h) (fun _ _ h => SqT.of (h _ _ (s1 _ _ hS)))
        (by rw [List.length_map]; omega) (fun _ => rfl) ?_ ?_⟩
      · intro j x H' hx hH R hR
        obtain ⟨i, rfl, _⟩ := int_at hx
        exact ⟨_, rfl, i, rfl, hR _ _ rfl hH rfl⟩
      · intro H' ys hH e g
        rw [g.map (f := fun _ => .bl true) (fun _ _ _ h => h), all_yes] at e
        refine ⟨D, _, rfl, SqL.of e, ?_⟩
        rw [all_yes2]
        exact k _ (s1.trans hH)
/-- rows: at each of some addresses a list or a tuple of ints, all of the same length -/
def RowsAt (H : Hp) (wd : Nat) (rs : List Addr) (nss : List (List Int)) : Prop := Paired (fun r ns => Sq H r (ns.map V.int) ∧ ns.length = wd) rs nss
theorem RowsAt.same {H H' : Hp} {wd : Nat} : ∀ {rs : List Addr} {nss : List (List Int)}, RowsAt H wd rs nss → Same H H' → RowsAt H' wd rs nss
  | _, _, .nil, _ => .nil
  | _, _, .cons h t, s => .cons ⟨h.1.same s, h.2⟩ (RowsAt.same t s)
theorem ref_at {rs : List Addr} {j : Nat} {x : V} (h : (rs.map V.ref)[j]? = some x) : ∃ r, x = .ref r ∧ rs[j]? = some r := by
  rw [List.getElem?_map] at h
  cases e : rs[j]? with
  | none =>
    rw [e] at h
    cases h
  | some i =>
    rw [e] at h
    cases h
    exact ⟨i, rfl, rfl⟩
theorem sq_or {K : PySem.W.Frag} {H : Hp} {a : Addr} {xs : List V} (h : Sq H a xs) : SqL K H a xs ∨ SqT K H a xs := by
  rcases h with h | h
  · exact .inl (SqL.of h)
  · exact .inr (SqT.of h)
def spFault : Sp := fun vs H Q _ => ∃ (a : Addr) (wd : Nat) (rs : List Addr) (nss : List (List Int)), vs = [.ref a] ∧ H a = some (.lst (rs.map V.ref)) ∧ RowsAt H wd rs nss ∧ wd ≤ 12 ∧ rs.length ≤ 60 ∧ ∀ H', Same H H' → Q .non H'
theorem scFa : FnScope ["rows", "index", "row"] ["rows"] (defScope sFault) := ⟨rfl, rfl, rfl, by decide +kernel, rfl, by decide +kernel, by decide +kernel⟩
theorem ok_fault {f fR fL : Addr} {fd fdR fdL : FuncData} {tk : Tok} (F : Fun K "rows_fault" "rows_fault" sFault f fd) (GR : FnOk P w K mg base CX0 2 fR fdR ["value"] spRow) (kR : PySem.W.keepIn K (.ref fR) = true) (bR : Binds K fdR ["value"] []) (gR : mg "is_row" = some (.ref fR))
    (FL : Fun K "is_list" "is_list" sList fL fdL) (bL : Binds K fdL ["value"] []) (gL : mg "is_list" = some (.ref fL)) (N : Nm mg) (gM : mg "MOST_ROWS" = some (.int 60 tk)) : FnOk P w K mg base CX0 3 f fd ["rows"] spFault := by
  have GL := ok_list (P := P) (w := w) (base := base) FL N
  refine F.ok scFa (fun vs H Q E h => ?_) (fun cdv A outer s H vs Q E hr h => ?_)
  · obtain ⟨a, wd, rs, nss, rfl, _⟩ := h
    rfl
  · obtain ⟨a, wd, rs, nss, rfl, hA, hR, hw, hn, k⟩ := h
    have nd := scFa.nd
    have hr1 : Room 1 _ := hr.mono (by decide)
    refine ⟨_, pss_cons (ps_if (pt_not (pt_val (pe_call GL hr1 rfl gL FL.kp bL .nil pass0 (pa_cons (pv 0) pa_nil)))) (pss_one (ps_ret pe_int)) pss_nil)
      (pss_cons (ps_for PassesOwn.never rfl (pi_enum (by rfl) N.enum (pa_cons (pv 0) pa_nil)) (pg_tup rfl (pgs_cons (pg_name (i := 1) nd rfl (.inl rfl)) (pgs_cons (pg_name (i := 2) nd rfl (.inl rfl)) pgs_nil)))
        (pss_one (ps_if (PW.pt (pw_or (pt_not (pt_val (pe_call GR hr rfl gR kR bR .nil pass0 (pa_cons (pv 2) pa_nil)))) (pw_or1 (pt_cmpR op_ne (pe_callB call_len_seq (by rfl) N.len PySem.boot_len (pa_cons (pv 2) pa_nil))
          (pe_callB call_len_seq (by rfl) N.len PySem.boot_len (pa_cons (pe_ix ixL (pv 0) pe_int (fun _ _ => rfl)) pa_nil)) (nomark _))))) (pss_one (ps_ret (pv 1))) pss_nil)))
      (pss_one (ps_ret (pe_ifExp (pt_cmpR op_gt (pe_callB lenL (by rfl) N.len PySem.boot_len (pa_cons (pv 0) pa_nil)) (pe_glob (v := .int 60) (by rfl) gM ⟨_, rfl⟩) (nomark _)) (pe_glob (v := .int 60) (by rfl) gM ⟨_, rfl⟩) pe_non)))), ?_⟩
    refine ⟨_, rfl, a, _, rfl, .inl hA, fun H1 s1 => ⟨true, rfl, iteF ?_⟩⟩
    refine ⟨_, rfl, a, _, rfl, SqL.of (s1 _ _ hA), for_enum (fun i σ H' => ∃ u v, σ = [some (.ref a), u, v] ∧ Same H1 H') ⟨none, none, rfl, same_refl⟩ (fun i σ H' _ ⟨_, _, _, sH⟩ => SqL.of (sH _ _ (s1 _ _ hA))) ?_ ?_⟩
    · rintro i x T σ H' hx ⟨u, v, rfl, sH⟩ nT
      obtain ⟨r, rfl, hr0⟩ := ref_at hx
      obtain ⟨ns, hns, hrow, hlen⟩ := paired_get hR hr0
      obtain ⟨r0, h00⟩ : ∃ r0, rs[0]? = some r0 := ⟨rs[0]'(by have := (List.getElem?_eq_some_iff.mp hr0).1; omega), List.getElem?_eq_getElem _⟩
      obtain ⟨n0, hn0, hrow0, hlen0⟩ := paired_get hR h00
      have sT := (s1.trans sH).trans (same_upd nT (o := .tup [.int (i : Nat), .ref r]))
      refine ⟨T, [.int (i : Nat), .ref r], rfl, .inl (.inl upd_same), rfl, .int (i : Nat), [.ref r], rfl, .ref r, [], rfl, rfl, ?_⟩
      refine ⟨_, rfl, r, ns, rfl, hrow.same sT, by omega, fun H2 s2 => ⟨true, rfl, iteF ?_⟩⟩
      have s3 := sT.trans s2
      refine ⟨_, rfl, r, _, rfl, sq_or (hrow.same s3), _, rfl, a, 0, _, .ref r0, rfl, rfl, s3 _ _ hA, atI_nat (j := 0) (by rw [List.getElem?_map, h00]; rfl), r0, _, rfl, sq_or (hrow0.same s3), rfl, _, rfl, ?_⟩
      have e : decide (V.int ((ns.map V.int).length : Int) = V.int ((n0.map V.int).length : Int)) = true := by
        rw [List.length_map, List.length_map, hlen, hlen0]
        exact decide_eq_true rfl
      rw [e]
      refine iteF ?_
      exact ⟨_, _, rfl, (sH.trans (same_upd nT)).trans s2⟩
    · rintro σ H' ⟨u, v, rfl, sH⟩
      refine ⟨_, rfl, a, _, rfl, sH _ _ (s1 _ _ hA), _, _, rfl, rfl, _, rfl, ?_⟩
      have e : decide ((60 : Int) < ((rs.map V.ref).length : Int)) = false := by
        rw [List.length_map]
        exact decide_eq_false (by omega)
      rw [e]
      exact iteF (k _ (s1.trans sH))
end
/-! ### the table -/
abbrev sInit : Stmt := inClass (top 24) 0
def tell (f n : Int) : Int := if f = 0 then n else n % f
/-- a def with defaults -/
structure FunD (K : PySem.W.Frag) (x qual : Str) (st : Stmt) (f : Addr) (fd : FuncData) : Prop where
  ex : ∃ (oc : Value) (od : Option Addr) (dV kV doc pm : Value) (an : Option Addr) (cdv ct : Value) (osl : Array (Option Value)),
    fd = PySem.W.fnOf x qual (defArgs st) (defBody st) (defScope st) dV kV doc pm an cdv ct ∧ K.lookup f = some ⟨oc, od, .func fd, osl⟩ ∧ PySem.W.codeIn K cdv qual = true
section
variable {P : Program} {w : World} {K : PySem.W.Frag} {mg : Str → Option Value} {base : Heap}
theorem FunD.ok {x qual : Str} {st : Stmt} {f : Addr} {fd : FuncData} {N ps : List Str} {k : Nat} {sp : Sp} (F : FunD K x qual st f fd) (S : FnScope N ps (defScope st)) (len : ∀ vs H Q E, sp vs H Q E → vs.length = ps.length)
    (hb : ∀ (cdv : Value) (A : Around) (outer : List Env) (s : Shared) (H : Hp) (vs : List V) (Q : VK) (E : XK), Room k (A.deeper (PyProof.Rows.envOfC qual (defScope st) s.heap.objs.size f cdv)) → sp vs H Q E →
      ∃ t, PSs (cxOf CX0 P w K mg base N qual (defScope st) f cdv A outer s H E).nox (defBody st) t ∧ t { nx := fun _ H' => Q .non H', rt := Q } (L2.start N vs) H) : FnOk P w K mg base CX0 (k + 1) f fd ps sp := by
  obtain ⟨oc, od, dV, kV, doc, pm, an, cdv, ct, osl, rfl, lk, hcd⟩ := F.ex
  refine fn_of lk hcd S len fun A outer s H vs Q E hr hsp => ?_
  obtain ⟨t, h, q⟩ := hb cdv A outer s H vs Q E hr hsp
  exact ⟨t, h.nox, q⟩
def spTold : Sp := fun vs H Q _ => ∃ (a : Addr) (f : Int) (ns : List Int), vs = [.ref a, .int f] ∧ Sq H a (ns.map V.int) ∧ ns.length ≤ 12 ∧ 0 ≤ f ∧
  ∀ H' t, Same H H' → H t = none → H' t = some (.tup ((ns.map (tell f)).map V.int)) → Q (.ref t) H'
theorem scTo : FnScope ["row", "field", "number"] ["row", "field"] (defScope sTold) := ⟨rfl, rfl, rfl, by decide +kernel, rfl, by decide +kernel, by decide +kernel⟩
theorem told_items {ns : List Int} {f : Int} {n : Nat} {ys : List V} (hn : n = ns.length) (g : Gives (fun j y => ∀ i, ns[j]? = some i → y = V.int (tell f i)) n ys) : ys = (ns.map (tell f)).map V.int := by
  subst hn
  obtain ⟨h1, h2⟩ := g
  apply List.ext_getElem?
  intro j
  rw [List.getElem?_map, List.getElem?_map]
  by_cases hj : j < ns.length
  · rw [List.getElem?_eq_getElem hj, List.getElem?_eq_getElem (by omega)]
    have := h2 j _ (List.getElem?_eq_getElem (by omega)) _ (List.getElem?_eq_getElem hj)
    simp [this]
  · rw [List.getElem?_eq_none (by omega), List.getElem?_eq_none (by omega)]
    rfl
theorem ok_told {f : Addr} {fd : FuncData} (F : Fun K "told" "told" sTold f fd) (N : Nm mg) : FnOk P w K mg base CX0 1 f fd ["row", "field"] spTold := by
  refine F.ok scTo (fun vs H Q E h => ?_) (fun cdv A outer s H vs Q E hr h => ?_)
  · obtain ⟨a, f, ns, rfl, _⟩ := h
    rfl
  · obtain ⟨a, fl, ns, rfl, hS, hl, hf, k⟩ := h
    have nd := scTo.nd
    have turn : ∀ (H1 : Hp) (D : Addr) (j : Nat) (x : V) (H' : Hp), (ns.map V.int)[j]? = some x → Same H H' → ∀ R : VK, (∀ y H4, (∀ i, ns[j]? = some i → y = V.int (tell fl i)) → Same H H4 → H4 D = H' D → R y H4) →
        ∃ k, k = (fl != 0) ∧ if k = true then (∃ i j2, x = .int i ∧ V.int fl = .int j2 ∧ 0 < j2 ∧ R (.int (i % j2)) H') else ((∃ i, [x] = [V.int i] ∧ R (.int i) H') ∨ ∃ b, [x] = [V.bl b] ∧ R (.int (if b = true then 1 else 0)) H') := by
      intro H1 D j x H' hx hH R hR
      obtain ⟨i, rfl, hi⟩ := int_at hx
      refine ⟨_, rfl, ?_⟩
      by_cases z : fl = 0
      · have e : (fl != 0) = false := by simp [z]
        rw [e]
        refine iteF (.inl ⟨i, rfl, hR _ _ (fun i2 h2 => ?_) hH rfl⟩)
        rw [hi] at h2
        cases h2
        unfold tell
        rw [if_pos z]
      · have e : (fl != 0) = true := by simp [z]
        rw [e]
        refine iteT ⟨i, fl, rfl, rfl, by omega, hR _ _ (fun i2 h2 => ?_) hH rfl⟩
        rw [hi] at h2
        cases h2
        unfold tell
        rw [if_neg z]
    have fin : ∀ (H' : Hp) (D : Addr) (ys : List V), Same H H' → H' D = some (.lst ys) → Gives (fun j y => ∀ i, ns[j]? = some i → y = V.int (tell fl i)) (ns.map V.int).length ys →
        ∃ p zs, [V.ref D] = [V.ref p] ∧ ((SqL K H' p zs ∧ ∀ l, H' l = none → Q (.ref l) (upd H' l (.tup zs))) ∨ (SqT K H' p zs ∧ Q (.ref p) H')) := by
      intro H' D ys hH e g
      rw [told_items (List.length_map ..) g] at e
      refine ⟨D, _, rfl, .inl ⟨SqL.of e, fun l hl0 => k _ _ (hH.trans (same_upd hl0)) (hH.free hl0) upd_same⟩⟩
    rcases hS with hS | hS
    · refine ⟨_, pss_one (ps_ret (pe_callTy call_tuple_of (by rfl) N.tuple (by decide +kernel) (pa_cons (pe_lc (own := [("number", 2)]) (g := gName 2) (tt := tYes) rfl nd (pi_list (pv 0))
        (blkOk_by (own := [("number", 2)]) (N := ["row", "field", "number"]) (sc := defScope sTold) (by decide +kernel)) (fun _ _ _ _ _ => pg_name (i := 2) nd rfl (Or.inl rfl)) (fun _ _ _ _ _ => pts_nil)
        (fun _ _ _ _ _ => pe_ifExp (pt_truthI (pv 1) (by intro _; rfl)) (pe_op op_mod (pv 2) (pv 1)) (pe_callTy call_int1 (by rfl) N.int (by decide +kernel) (pa_cons (pv 2) pa_nil)))) pa_nil))), ?_⟩
      refine ⟨_, rfl, a, rfl, ⟨_, SqL.of hS⟩, fun D nD => comp_list (fun _ H' => Same H H') (fun j y => ∀ i, ns[j]? = some i → y = V.int (tell fl i)) same_refl (fun _ _ _ h => same_new nD h) (fun _ _ h => SqL.of (h _ _ hS)) (by rw [List.length_map]; omega) (fun _ => rfl) ?_ (fun H' ys hH e g => fin H' D ys hH e g)⟩
      intro j x H' hx hH R hR
      obtain ⟨kk, ek, hk⟩ := turn H D j x H' hx hH R hR
      refine ⟨_, rfl, fl, rfl, ?_⟩
      rw [← ek]
      cases kk with
      | true =>
        obtain ⟨i, j2, e1, e2, e3, e4⟩ := (if_pos rfl).mp hk
        refine iteT ⟨_, rfl, _, rfl, i, j2, e1, e2, e3, e4⟩
      | false =>
        have hk2 := (if_neg Bool.false_ne_true).mp hk
        refine iteF ⟨_, rfl, hk2⟩
    · refine ⟨_, pss_one (ps_ret (pe_callTy call_tuple_of (by rfl) N.tuple (by decide +kernel) (pa_cons (pe_lc (own := [("number", 2)]) (g := gName 2) (tt := tYes) rfl nd (pi_tup (pv 0))
        (blkOk_by (own := [("number", 2)]) (N := ["row", "field", "number"]) (sc := defScope sTold) (by decide +kernel)) (fun _ _ _ _ _ => pg_name (i := 2) nd rfl (Or.inl rfl)) (fun _ _ _ _ _ => pts_nil)
        (fun _ _ _ _ _ => pe_ifExp (pt_truthI (pv 1) (by intro _; rfl)) (pe_op op_mod (pv 2) (pv 1)) (pe_callTy call_int1 (by rfl) N.int (by decide +kernel) (pa_cons (pv 2) pa_nil)))) pa_nil))), ?_⟩
      refine ⟨_, rfl, a, rfl, ⟨_, SqT.of hS⟩, fun D nD => comp_tup (fun _ H' => Same H H') (fun j y => ∀ i, ns[j]? = some i → y = V.int (tell fl i)) same_refl (fun _ _ _ h => same_new nD h) (fun _ _ h => SqT.of (h _ _ hS)) (by rw [List.length_map]; omega) (fun _ => rfl) ?_ (fun H' ys hH e g => fin H' D ys hH e g)⟩
      intro j x H' hx hH R hR
      obtain ⟨kk, ek, hk⟩ := turn H D j x H' hx hH R hR
      refine ⟨_, rfl, fl, rfl, ?_⟩
      rw [← ek]
      cases kk with
      | true =>
        obtain ⟨i, j2, e1, e2, e3, e4⟩ := (if_pos rfl).mp hk
        refine iteT ⟨_, rfl, _, rfl, i, j2, e1, e2, e3, e4⟩
      | false =>
        have hk2 := (if_neg Bool.false_ne_true).mp hk
        refine iteF ⟨_, rfl, hk2⟩
/-- all but what stands at p is as before -/
def But (p : Addr) (H H' : Hp) : Prop := ∀ b u, b ≠ p → H b = some u → H' b = some u
theorem But.trans {p : Addr} {H H1 H2 : Hp} (h : But p H H1) (h2 : But p H1 H2) : But p H H2 := fun b u n e => h2 b u n (h b u n e)
theorem But.same {p : Addr} {H H1 : Hp} (h : Same H H1) : But p H H1 := fun b u _ e => h b u e
theorem But.upd {p : Addr} {H : Hp} {o : HO} : But p H (upd H p o) := fun b u n e => by rw [upd_ne n]; exact e
theorem But.free {p L : Addr} {A B : Hp} {u : HO} (h : But p A B) (hp : B p = some u) (n : B L = none) : A L = none := by
  cases e : A L with
  | none => rfl
  | some x =>
    by_cases e2 : L = p
    · rw [e2, hp] at n
      cases n
    · rw [h _ _ e2 e] at n
      cases n
theorem But.new {p D : Addr} {A B : Hp} {o : HO} (h : But p A B) (n : A D = none) : But p A (L2.upd B D o) := fun b u nb e => by
  rw [upd_ne (ne_of_none e n)]
  exact h b u nb e
structure RTxt (K : PySem.W.Frag) (mg : Str → Option Value) (C : Addr) : Prop where
  cl : Cls K C
  nF : NoAttr K C "_field"
  nR : NoAttr K C "_rows"
  nW : NoAttr K C "_width"
  mgC : mg "Rows" = some (.ref C)
def rf (f : Int) (t : Addr) (wd : Nat) : List (Str × V) := [("_field", .int f), ("_rows", .ref t), ("_width", .int (wd : Int))]
/-- the tuples of a table's rows, told -/
def ToldAt (H : Hp) (f : Int) (ts : List Addr) (nss : List (List Int)) : Prop := Paired (fun t ns => H t = some (.tup ((ns.map (tell f)).map V.int))) ts nss
theorem ToldAt.keep {H H' : Hp} {f : Int} : ∀ {ts : List Addr} {nss : List (List Int)}, ToldAt H f ts nss → (∀ t ∈ ts, ∀ u, H t = some u → H' t = some u) → ToldAt H' f ts nss
  | _, _, .nil, _ => .nil
  | _, _, .cons h t, s => .cons (s _ (.head _) _ h) (ToldAt.keep t fun x m => s x (.tail _ m))
/-- the table at p -/
def TabAt (C : Addr) (H : Hp) (p : Addr) (f : Int) (nss : List (List Int)) : Prop := ∃ dx t ts, H p = some (.ins C dx (rf f t (nss.headD []).length)) ∧ H t = some (.tup (ts.map V.ref)) ∧ ToldAt H f ts nss
theorem RowsAt.keep {H H' : Hp} {wd : Nat} : ∀ {rs : List Addr} {nss : List (List Int)}, RowsAt H wd rs nss → (∀ r ∈ rs, ∀ u, H r = some u → H' r = some u) → RowsAt H' wd rs nss
  | _, _, .nil, _ => .nil
  | _, _, .cons h t, s => .cons ⟨h.1.elim (fun e => .inl (s _ (.head _) _ e)) (fun e => .inr (s _ (.head _) _ e)), h.2⟩ (RowsAt.keep t fun x m => s x (.tail _ m))
theorem paired_memR {α β : Type} {R : α → β → Prop} : ∀ {xs : List α} {ys : List β}, Paired R xs ys → ∀ {y : β}, y ∈ ys → ∃ x, x ∈ xs ∧ R x y
  | _, _, .nil, _, h => nomatch h
  | _, _, .cons r _, _, .head _ => ⟨_, .head _, r⟩
  | _, _, .cons _ t, _, .tail _ m => by
    obtain ⟨x, h1, h2⟩ := paired_memR t m
    exact ⟨x, .tail _ h1, h2⟩
theorem paired_mem {α β : Type} {R : α → β → Prop} : ∀ {xs : List α} {ys : List β}, Paired R xs ys → ∀ {x : α}, x ∈ xs → ∃ y, y ∈ ys ∧ R x y
  | _, _, .nil, _, h => nomatch h
  | _, _, .cons r _, _, .head _ => ⟨_, .head _, r⟩
  | _, _, .cons _ t, _, .tail _ m => by
    obtain ⟨y, h1, h2⟩ := paired_mem t m
    exact ⟨y, .tail _ h1, h2⟩
theorem TabAt.keep {C : Addr} {H H' : Hp} {p : Addr} {f : Int} {nss : List (List Int)} (h : TabAt C H p f nss) (s : Same H H') : TabAt C H' p f nss := by
  obtain ⟨dx, t, ts, h1, h2, h3⟩ := h
  exact ⟨dx, t, ts, s _ _ h1, s _ _ h2, h3.keep fun t _ u e => s _ _ e⟩
def spInit0 (C : Addr) : Sp := fun vs H Q _ => ∃ (p a dx : Addr) (f : Int) (wd : Nat) (rs : List Addr) (nss : List (List Int)), vs = [.ref p, .ref a, .int f] ∧ H p = some (.ins C dx []) ∧ p ≠ a ∧ H a = some (.lst (rs.map V.ref)) ∧
  RowsAt H wd rs nss ∧ (∀ r ∈ rs, r ≠ p) ∧ wd ≤ 12 ∧ rs.length ≤ 60 ∧ f ∈ fields ∧ ∀ H', But p H H' → TabAt C H' p f nss → Q .non H'
theorem fields_ge {f : Int} (h : f ∈ fields) : 0 ≤ f ∧ f ≤ 13 := by
  simp only [fields, List.mem_cons, List.not_mem_nil, or_false] at h
  omega
theorem scIn : FnScope ["self", "rows", "field", "fault", "row"] ["self", "rows", "field"] (defScope sInit) := ⟨rfl, rfl, rfl, by decide +kernel, rfl, by decide +kernel, by decide +kernel⟩
theorem ok_init0 {f fF fA fT C : Addr} {fd fdF fdA fdT : FuncData} (F : FunD K "__init__" "Rows.__init__" sInit f fd) (T : RTxt K mg C) (N : Nm mg)
    (GF : FnOk P w K mg base CX0 2 fF fdF ["value"] spField) (kF : PySem.W.keepIn K (.ref fF) = true) (bF : Binds K fdF ["value"] []) (gF : mg "is_field" = some (.ref fF))
    (GA : FnOk P w K mg base CX0 3 fA fdA ["rows"] spFault) (kA : PySem.W.keepIn K (.ref fA) = true) (bA : Binds K fdA ["rows"] []) (gA : mg "rows_fault" = some (.ref fA))
    (GT : FnOk P w K mg base CX0 1 fT fdT ["row", "field"] spTold) (kT : PySem.W.keepIn K (.ref fT) = true) (bT : Binds K fdT ["row", "field"] []) (gT : mg "told" = some (.ref fT)) :
    FnOk P w K mg base CX0 4 f fd ["self", "rows", "field"] (spInit0 C) := by
  refine F.ok scIn (fun vs H Q E h => ?_) (fun cdv A outer s H vs Q E hr h => ?_)
  · obtain ⟨p, a, dx, f, wd, rs, nss, rfl, _⟩ := h
    rfl
  · obtain ⟨p, a, dx, fl, wd, rs, nss, rfl, hp, npa, hA, hR, hrp, hw, hn, hf, k⟩ := h
    have nd := scIn.nd
    have hr1 : Room 1 _ := hr.mono (by decide)
    have hr2 : Room 2 _ := hr.mono (by decide)
    have hg := fields_ge hf
    refine ⟨_, pss_cons (ps_if (pt_not (pt_val (pe_call GF hr2 rfl gF kF bF .nil pass0 (pa_cons (pv 2) pa_nil)))) pss_never pss_nil)
      (pss_cons (ps_set (i := 3) nd rfl (.inl rfl) (pe_call GA hr rfl gA kA bA .nil pass0 (pa_cons (pv 1) pa_nil)))
      (pss_cons (ps_if (pt_cmpR op_notN (pv 3) pe_non (nomark _)) pss_never pss_nil)
      (pss_cons (ps_fld (pv 0) (pe_callTy call_int1 (by rfl) N.int (by decide +kernel) (pa_cons (pv 2) pa_nil)) rfl)
      (pss_cons (ps_fld (pv 0) (pe_callTy call_tuple_of (by rfl) N.tuple (by decide +kernel) (pa_cons (pe_lc (own := [("row", 4)]) (g := gName 4) (tt := tYes) rfl nd (pi_list (pv 1))
        (blkOk_by (own := [("row", 4)]) (N := ["self", "rows", "field", "fault", "row"]) (sc := defScope sInit) (by decide +kernel)) (fun _ _ _ _ _ => pg_name (i := 4) nd rfl (Or.inl rfl)) (fun _ _ _ _ _ => pts_nil)
        (fun _ _ _ _ _ => pe_call GT hr1 rfl gT kT bT .nil pass0 (pa_cons (pv 4) (pa_cons (pv 2) pa_nil)))) pa_nil)) rfl)
      (pss_one (ps_fld (pv 0) (pe_ifExp (pt_cmpR op_gt (pe_callB lenL (by rfl) N.len PySem.boot_len (pa_cons (pv 1) pa_nil)) pe_int (nomark _))
        (pe_callB call_len_seq (by rfl) N.len PySem.boot_len (pa_cons (pe_ix ixL (pv 1) pe_int (fun _ _ => rfl)) pa_nil)) pe_int) rfl)))))), ?_⟩
    refine ⟨_, rfl, fl, rfl, hf, true, rfl, iteF ?_⟩
    refine ⟨_, rfl, a, wd, rs, nss, rfl, hA, hR, hw, hn, fun H1 s1 => ?_⟩
    refine ⟨_, rfl, rfl, _, rfl, iteF ?_⟩
    have hp1 := s1 _ _ hp
    refine ⟨_, rfl, .inl ⟨fl, rfl, ?_⟩⟩
    refine ⟨_, rfl, p, C, dx, [], rfl, hp1, T.cl, T.nF, by decide, ?_⟩
    have e1 : putF "_field" (V.int fl) [] = [(("_field" : Str), V.int fl)] := rfl
    rw [e1]
    generalize hH2 : upd H1 p (.ins C dx [(("_field" : Str), V.int fl)]) = H2
    have p2 : H2 p = some (.ins C dx [(("_field" : Str), V.int fl)]) := by rw [← hH2, upd_same]
    have b2 : But p H1 H2 := by rw [← hH2]; exact But.upd
    have hA2 : H2 a = some (.lst (rs.map V.ref)) := b2 _ _ (Ne.symm npa) (s1 _ _ hA)
    have hR2 : RowsAt H2 wd rs nss := RowsAt.keep hR (fun r hr0 u e => b2 _ _ (hrp r hr0) (s1 _ _ e))
    refine ⟨_, rfl, a, rfl, ⟨_, SqL.of hA2⟩, fun D nD => comp_listI (fun j ys H' => Same H2 H' ∧ ∃ ts : List Addr, ys = ts.map V.ref ∧ ToldAt H' fl ts (nss.take j) ∧ ∀ t ∈ ts, t ≠ D)
      ⟨same_upd nD, [], rfl, .nil, fun _ h => nomatch h⟩ (fun _ _ _ h => SqL.of (h.1 _ _ hA2)) (by rw [List.length_map]; omega) (fun _ => rfl) ?_ ?_⟩
    · rintro j x ys H' hx ⟨sH, ts, rfl, hts, htD⟩ hD R hR'
      obtain ⟨r, rfl, hr0⟩ := ref_at hx
      obtain ⟨ns, hns, hrow, hlen⟩ := paired_get hR2 hr0
      refine ⟨_, rfl, _, rfl, r, fl, ns, rfl, hrow.same sH, by omega, hg.1, fun H3 t s3 nt ht => ?_⟩
      have ntD : t ≠ D := fun e => by
        rw [e, hD] at nt
        cases nt
      refine hR' _ _ (s3 _ _ hD) ⟨same_new nD (sH.trans s3), ts ++ [t], by rw [List.map_append]; rfl, ?_, ?_⟩
      · rw [List.take_succ, hns]
        refine Paired.snoc (ToldAt.keep hts fun x hx u e => ?_) (by rw [upd_ne ntD]; exact ht)
        rw [upd_ne (htD x hx)]
        exact s3 _ _ e
      · intro x hx
        rcases List.mem_append.mp hx with h | h
        · exact htD x h
        · rw [List.mem_singleton.mp h]
          exact ntD
    · rintro H3 ys ⟨sH, ts, rfl, hts, htD⟩ hD hlen
      have ll : rs.length = nss.length := Paired.length hR2
      have ht2 : (List.map V.ref rs).length = nss.length := by rw [List.length_map, ll]
      rw [ht2, List.take_length] at hts
      refine ⟨D, _, rfl, .inl ⟨SqL.of hD, fun l nl => ?_⟩⟩
      have p3 : upd H3 l (.tup (ts.map V.ref)) p = some (.ins C dx [(("_field" : Str), V.int fl)]) := by
        rw [upd_ne (ne_of_none (sH _ _ p2) nl)]
        exact sH _ _ p2
      refine ⟨_, rfl, p, C, dx, _, rfl, p3, T.cl, T.nR, Nat.le_of_ble_eq_true rfl, ?_⟩
      have e2 : putF "_rows" (V.ref l) [(("_field" : Str), V.int fl)] = [(("_field" : Str), V.int fl), (("_rows" : Str), V.ref l)] := rfl
      rw [e2]
      have lp : l ≠ p := fun e => by
        rw [e, sH _ _ p2] at nl
        cases nl
      generalize hH4 : upd (upd H3 l (.tup (ts.map V.ref))) p (.ins C dx [(("_field" : Str), V.int fl), (("_rows" : Str), V.ref l)]) = H4
      have p4 : H4 p = some (.ins C dx [(("_field" : Str), V.int fl), (("_rows" : Str), V.ref l)]) := by rw [← hH4, upd_same]
      have l4 : H4 l = some (.tup (ts.map V.ref)) := by rw [← hH4, upd_ne lp, upd_same]
      have b4 : But p H3 H4 := by
        rw [← hH4]
        exact (But.same (same_upd nl)).trans But.upd
      have bb : But p H H4 := (((But.same s1).trans b2).trans (But.same sH)).trans b4
      have tp : ∀ t ∈ ts, t ≠ p := by
        intro t m e
        obtain ⟨ns, _, h⟩ := paired_mem hts m
        rw [e, sH _ _ p2] at h
        cases h
      have hts4 : ToldAt H4 fl ts nss := ToldAt.keep hts fun t m u e => b4 _ _ (tp t m) e
      have hA4 : H4 a = some (.lst (rs.map V.ref)) := bb _ _ (Ne.symm npa) hA
      have fin : ∀ i : Nat, i = (nss.headD []).length → Q .non (upd H4 p (.ins C dx (putF "_width" (V.int (i : Int)) [(("_field" : Str), V.int fl), (("_rows" : Str), V.ref l)]))) := by
        rintro i rfl
        refine k _ (bb.trans But.upd) ⟨dx, l, ts, upd_same, by rw [upd_ne lp]; exact l4, ToldAt.keep hts4 fun t m u e => ?_⟩
        rw [upd_ne (tp t m)]
        exact e
      refine ⟨_, rfl, a, _, rfl, hA4, _, _, rfl, rfl, _, rfl, ?_⟩
      have hR4 : RowsAt H4 wd rs nss := RowsAt.keep hR (fun r hr0 u e => bb _ _ (hrp r hr0) e)
      by_cases e : rs.length = 0
      · have e3 : decide ((0 : Int) < ((rs.map V.ref).length : Int)) = false := by
          rw [List.length_map, e]
          rfl
        rw [e3]
        have e4 : nss = [] := List.length_eq_zero_iff.mp (by omega)
        exact iteF ⟨_, rfl, p, C, dx, _, rfl, p4, T.cl, T.nW, Nat.le_of_ble_eq_true rfl, fin 0 (by rw [e4]; rfl)⟩
      · have e3 : decide ((0 : Int) < ((rs.map V.ref).length : Int)) = true := by
          rw [List.length_map]
          exact decide_eq_true (by omega)
        rw [e3]
        obtain ⟨r0, h00⟩ : ∃ r0, rs[0]? = some r0 := ⟨rs[0]'(by omega), List.getElem?_eq_getElem _⟩
        obtain ⟨n0, hn0, hrow0, hlen0⟩ := paired_get hR4 h00
        refine iteT ⟨_, rfl, a, 0, _, .ref r0, rfl, rfl, hA4, atI_nat (j := 0) (by rw [List.getElem?_map, h00]; rfl), r0, _, rfl, sq_or hrow0, _, rfl, p, C, dx, _, rfl, p4, T.cl, T.nW, Nat.le_of_ble_eq_true rfl, fin _ ?_⟩
        cases nss with
        | nil => cases hn0
        | cons x y =>
          cases hn0
          rw [List.length_map]
          rfl
end
/-! ### tables' texts -/
abbrev sWRow : Stmt := top 17
abbrev sWRows : Stmt := top 18
def rowText (ns : List Int) : Str := if ns.length = 0 then ("-" : Str) else Txt.join (" " : Str) (ns.map tx)
def tabText (f : Int) (nss : List (List Int)) : Str := Txt.join ("\n" : Str) ((("field " : Str) ++ tx f) :: nss.map rowText)
theorem len_join (y : Str) : ∀ ps : List Str, (Txt.join y ps).length ≤ (ps.map (·.length)).sum + ps.length * y.length := by
  intro ps
  rw [TL.join_eq, TL.len_tl, TL.tl_join]
  induction ps with
  | nil => exact Nat.zero_le _
  | cons p r ih =>
    cases r with
    | nil =>
      show (TL.tl p).length ≤ _
      rw [← TL.len_tl]
      simp
    | cons q r =>
      show (TL.tl p ++ (TL.tl y ++ TL.joinL (TL.tl y) ((q :: r).map TL.tl))).length ≤ _
      rw [List.length_append, List.length_append, ← TL.len_tl, ← TL.len_tl]
      show _ ≤ (p.length + ((q :: r).map (·.length)).sum) + ((q :: r).length + 1) * y.length
      rw [Nat.add_mul]
      omega
theorem sum_le {c : Nat} : ∀ ps : List Str, (∀ p ∈ ps, p.length ≤ c) → (ps.map (·.length)).sum ≤ ps.length * c
  | [], _ => Nat.zero_le _
  | p :: r, h => by
    have h1 := h p (.head _)
    have h2 := sum_le r fun q m => h q (.tail _ m)
    rw [List.map_cons, List.sum_cons, List.length_cons, Nat.add_mul]
    omega
theorem txs_sum {ns : List Int} (h : ∀ n ∈ ns, Sz n) : ((ns.map tx).map (·.length)).sum ≤ ns.length * 61 := by
  have := sum_le (c := 61) (ns.map tx) fun p m => by
    obtain ⟨n, hn, rfl⟩ := List.mem_map.mp m
    exact tx_len (h n hn)
  rw [List.length_map] at this
  exact this
theorem rowText_len {ns : List Int} (hl : ns.length ≤ 12) (h : ∀ n ∈ ns, Sz n) : (rowText ns).length ≤ 1000 := by
  unfold rowText
  split
  · decide
  · have h1 := len_join (" " : Str) (ns.map tx)
    have h2 := txs_sum h
    have h3 : (" " : Str).length = 1 := by decide
    rw [List.length_map, h3] at h1
    omega
def spWRow : Sp := fun vs H Q _ => ∃ (a : Addr) (ns : List Int), vs = [.ref a] ∧ H a = some (.tup (ns.map V.int)) ∧ ns.length ≤ 12 ∧ (∀ n ∈ ns, Sz n) ∧ ∀ H', Same H H' → Q (.str (rowText ns)) H'
def TupsAt (H : Hp) (ts : List Addr) (nss : List (List Int)) : Prop := Paired (fun t ns => H t = some (.tup (ns.map V.int))) ts nss
def spIsNum : Sp := fun vs H Q _ => ∃ (i f : Int), vs = [.str (tx i), .int f] ∧ Sz i ∧ f ∈ fields ∧ (f ≠ 0 → 0 ≤ i ∧ i < f) ∧ Q (.bl true) H
abbrev sIsNum : Stmt := top 19
abbrev sRRow : Stmt := top 20
abbrev sRRows : Stmt := top 21
/-- a row as a table of this field tells it -/
def InF (f : Int) (ns : List Int) : Prop := ns.length ≤ 12 ∧ ∀ n ∈ ns, Sz n ∧ (f ≠ 0 → 0 ≤ n ∧ n < f)
def spRRow : Sp := fun vs H Q _ => ∃ (ns : List Int) (f : Int), vs = [.str (rowText ns), .int f] ∧ f ∈ fields ∧ InF f ns ∧ ∀ H' l, Same H H' → H l = none → H' l = some (.lst (ns.map V.int)) → Q (.ref l) H'
def spRRows : Sp := fun vs H Q _ => ∃ (f : Int) (wd : Nat) (nss : List (List Int)), vs = [.str (tabText f nss)] ∧ f ∈ fields ∧ nss.length ≤ 60 ∧ (∀ ns ∈ nss, InF f ns ∧ ns.length = wd) ∧
  ∀ H' p R ts, Same H H' → H' p = some (.tup [.ref R, .int f]) → H' R = some (.lst (ts.map V.ref)) → RowsAt H' wd ts nss → H p = none → H R = none → (∀ t ∈ ts, H t = none) → Q (.ref p) H'
theorem Paired.keepMem {α β : Type} {F G : α → β → Prop} : ∀ {xs : List α} {ys : List β}, Paired F xs ys → (∀ x ∈ xs, ∀ y, F x y → G x y) → Paired G xs ys
  | _, _, .nil, _ => .nil
  | _, _, .cons r t, h => .cons (h _ (.head _) _ r) (Paired.keepMem t fun x m => h x (.tail _ m))
theorem rowText_free {ns : List Int} : 10 ∉ TL.tl (rowText ns) := by
  unfold rowText
  split
  · decide +kernel
  · refine join_free (by decide +kernel) fun p hp => ?_
    obtain ⟨n, _, rfl⟩ := List.mem_map.mp hp
    exact tx_free (.inl (by decide)) (by decide)
theorem split_tab {f : Int} {nss : List (List Int)} : Txt.split (tabText f nss) ("\n" : Str) = (("field " : Str) ++ tx f) :: nss.map rowText := by
  refine TL.split_join (s := 10) (S := []) (by decide +kernel) (by decide +kernel) (by simp) ?_
  intro p hp
  rcases List.mem_cons.mp hp with rfl | hp
  · rw [TL.tl_append]
    intro h
    rcases List.mem_append.mp h with h | h
    · exact absurd h (by decide +kernel)
    · exact tx_free (.inl (by decide)) (by decide) h
  · obtain ⟨ns, _, rfl⟩ := List.mem_map.mp hp
    exact rowText_free
def spWRows : Sp := fun vs H Q _ => ∃ (a : Addr) (f : Int) (ts : List Addr) (nss : List (List Int)), vs = [.ref a, .int f] ∧ H a = some (.tup (ts.map V.ref)) ∧ TupsAt H ts nss ∧ ts.length ≤ 60 ∧ f ∈ fields ∧
  (∀ ns ∈ nss, ns.length ≤ 12 ∧ ∀ n ∈ ns, Sz n) ∧ ∀ H', Same H H' → Q (.str (tabText f nss)) H'
section
variable {P : Program} {w : World} {K : PySem.W.Frag} {mg : Str → Option Value} {base : Heap}
theorem scWR : FnScope ["row", "number"] ["row"] (defScope sWRow) := ⟨rfl, rfl, rfl, by decide +kernel, rfl, by decide +kernel, by decide +kernel⟩
theorem ok_wrow {f : Addr} {fd : FuncData} {tk : Tok} (F : Fun K "write_row" "write_row" sWRow f fd) (N : Nm mg) (gE : mg "EMPTY_ROW" = some (.str "-" tk)) : FnOk P w K mg base CX0 1 f fd ["row"] spWRow := by
  refine F.ok scWR (fun vs H Q E h => ?_) (fun cdv A outer s H vs Q E hr h => ?_)
  · obtain ⟨a, ns, rfl, _⟩ := h
    rfl
  · obtain ⟨a, ns, rfl, hA, hl, hz, k⟩ := h
    have nd := scWR.nd
    refine ⟨_, pss_one (ps_ret (pe_ifExp (pt_cmpR op_gt (pe_callB lenT (by rfl) N.len PySem.boot_len (pa_cons (pv 0) pa_nil)) pe_int (nomark _))
      (pe_join pe_str (pe_lc (own := [("number", 1)]) (g := gName 1) (tt := tYes) rfl nd (pi_tup (pv 0))
        (blkOk_by (own := [("number", 1)]) (N := ["row", "number"]) (sc := defScope sWRow) (by decide +kernel)) (fun _ _ _ _ _ => pg_name (i := 1) nd rfl (Or.inl rfl)) (fun _ _ _ _ _ => pts_nil)
        (fun _ _ _ _ _ => pe_callTy call_str_int (by rfl) N.str (by decide +kernel) (pa_cons (pv 1) pa_nil))))
      (pe_glob (v := .str "-") (by rfl) gE ⟨_, rfl⟩))), ?_⟩
    refine ⟨_, rfl, a, _, rfl, hA, _, _, rfl, rfl, _, rfl, ?_⟩
    by_cases e : ns.length = 0
    · have e3 : decide ((0 : Int) < ((ns.map V.int).length : Int)) = false := by
        rw [List.length_map, e]
        rfl
      have e4 : rowText ns = ("-" : Str) := if_pos e
      rw [e3]
      refine iteF ?_
      have q := k H same_refl
      rw [e4] at q
      exact q
    · have e3 : decide ((0 : Int) < ((ns.map V.int).length : Int)) = true := by
        rw [List.length_map]
        exact decide_eq_true (by omega)
      have e4 : rowText ns = Txt.join (" " : Str) (ns.map tx) := if_neg e
      rw [e3]
      refine iteT ?_
      refine ⟨⟨_, rfl⟩, _, rfl, a, rfl, ⟨_, SqT.of hA⟩, fun D nD => map_tup (fun x => match x with | .int i => .str (tx i) | y => y) hA nD (by rw [List.length_map]; omega) (fun _ => rfl) ?_ ?_⟩
      · intro j x H' hx sH R hR
        obtain ⟨i, rfl, hi⟩ := int_at hx
        exact ⟨_, rfl, i, rfl, (hz i (List.mem_of_getElem? hi)).log, hR _ same_refl⟩
      · intro H' sH hD
        refine ⟨_, D, ns.map tx, rfl, rfl, .inl (SqL.of ?_), ?_, ?_⟩
        · rw [hD, List.map_map, List.map_map]
          rfl
        · have h2 := txs_sum hz
          have h3 : (" " : Str).length = 1 := by decide
          rw [List.length_map, h3]
          omega
        · have q := k H' sH
          rw [e4] at q
          exact q
theorem scWS : FnScope ["rows", "field", "row"] ["rows", "field"] (defScope sWRows) := ⟨rfl, rfl, rfl, by decide +kernel, rfl, by decide +kernel, by decide +kernel⟩
theorem tabs_sum {f : Int} {nss : List (List Int)} (hf : f ∈ fields) (hl : nss.length ≤ 60) (h : ∀ ns ∈ nss, ns.length ≤ 12 ∧ ∀ n ∈ ns, Sz n) :
    (((("field " : Str) ++ tx f) :: nss.map rowText).map (·.length)).sum + ((("field " : Str) ++ tx f) :: nss.map rowText).length * ("\n" : Str).length ≤ 100000 := by
  have h1 := sum_le (c := 1000) (nss.map rowText) fun p m => by
    obtain ⟨ns, hn, rfl⟩ := List.mem_map.mp m
    exact rowText_len (h ns hn).1 (h ns hn).2
  have h3 : ("\n" : Str).length = 1 := by decide
  have h4 : (tx f).length ≤ 61 := tx_len (by
    have := fields_ge hf
    show f.natAbs < 10 ^ 60
    omega)
  have h5 : (("field " : Str) ++ tx f).length = 6 + (tx f).length := by
    rw [TL.len_tl, TL.tl_append, List.length_append, ← TL.len_tl, ← TL.len_tl]
    rfl
  rw [List.map_cons, List.sum_cons, List.length_cons, h3, h5]
  rw [List.length_map] at h1 ⊢
  omega
theorem ok_wrows {f fW : Addr} {fd fdW : FuncData} (F : Fun K "write_rows" "write_rows" sWRows f fd) (N : Nm mg)
    (GW : FnOk P w K mg base CX0 1 fW fdW ["row"] spWRow) (kW : PySem.W.keepIn K (.ref fW) = true) (bW : Binds K fdW ["row"] []) (gW : mg "write_row" = some (.ref fW)) : FnOk P w K mg base CX0 2 f fd ["rows", "field"] spWRows := by
  refine F.ok scWS (fun vs H Q E h => ?_) (fun cdv A outer s H vs Q E hr h => ?_)
  · obtain ⟨a, fl, ts, nss, rfl, _⟩ := h
    rfl
  · obtain ⟨a, fl, ts, nss, rfl, hA, hT, hl, hf, hz, k⟩ := h
    have nd := scWS.nd
    refine ⟨_, pss_one (ps_ret (pe_join pe_str (pe_op op_cat (pe_lst (pa_cons (pe_joined (.cons pe_str (.cons (pe_fmt (pv 1)) .nil))) pa_nil))
      (pe_lc (own := [("row", 2)]) (g := gName 2) (tt := tYes) rfl nd (pi_tup (pv 0))
        (blkOk_by (own := [("row", 2)]) (N := ["rows", "field", "row"]) (sc := defScope sWRows) (by decide +kernel)) (fun _ _ _ _ _ => pg_name (i := 2) nd rfl (Or.inl rfl)) (fun _ _ _ _ _ => pts_nil)
        (fun _ _ _ _ _ => pe_call GW hr rfl gW kW bW .nil pass0 (pa_cons (pv 2) pa_nil)))))), ?_⟩
    have hsz : fl.natAbs.log2 < 1920 := (show Sz fl by
      have := fields_ge hf
      show fl.natAbs < 10 ^ 60
      omega).log
    have hs := tabs_sum hf (by rw [← Paired.length hT]; exact hl) hz
    have el : Str.empty ++ Str.ofString "field " ++ Str.ofString (toString fl) = ("field " : Str) ++ tx fl := by
      apply TL.ext_tl
      rw [TL.tl_append, TL.tl_append, TL.tl_append]
      rfl
    refine ⟨⟨_, rfl⟩, _, rfl, Nat.le_of_ble_eq_true rfl, _, rfl, .inr ⟨_, rfl, hsz, _, rfl, ?_, ?_⟩⟩
    · rw [el]
      have := hs
      rw [List.map_cons, List.sum_cons] at this
      exact Nat.le_trans (by omega : _ ≤ 100000) (by decide)
    rw [el]
    refine ⟨Nat.le_of_ble_eq_true rfl, fun q hq => ?_⟩
    have hA1 : upd H q (.lst [.str (("field " : Str) ++ tx fl)]) a = some (.tup (ts.map V.ref)) := same_upd hq _ _ hA
    refine ⟨_, rfl, a, rfl, ⟨_, SqT.of hA1⟩, fun D nD => map_tupG (nss.map fun ns => V.str (rowText ns)) (by rw [List.length_map, List.length_map, Paired.length hT]) hA1 nD (by rw [List.length_map]; omega) (fun _ => rfl) ?_ ?_⟩
    · intro j x y H' hx hy sH R hR
      obtain ⟨t, rfl, ht⟩ := ref_at hx
      obtain ⟨ns, hns, hrow⟩ := paired_get hT ht
      rw [List.getElem?_map, hns] at hy
      cases hy
      have hz1 := hz ns (List.mem_of_getElem? hns)
      exact ⟨_, rfl, t, ns, rfl, sH _ _ (same_upd hq _ _ hrow), hz1.1, hz1.2, hR⟩
    · intro H' sH hD
      refine ⟨q, D, _, _, rfl, rfl, sH _ _ upd_same, hD, ?_, fun p np => ⟨_, p, (("field " : Str) ++ tx fl) :: nss.map rowText, rfl, rfl, .inl (SqL.of ?_), Nat.le_trans hs (by decide), k _ ((same_upd hq).trans (sH.trans (same_upd np)))⟩⟩
      · rw [List.length_map, List.length_singleton, ← Paired.length hT]
        exact Nat.le_trans (by omega : _ ≤ 61) (by decide)
      · rw [upd_same, List.map_cons, List.map_map]
        rfl
theorem scIN : FnScope ["word", "field", "digits"] ["word", "field"] (defScope sIsNum) := ⟨rfl, rfl, rfl, by decide +kernel, rfl, by decide +kernel, by decide +kernel⟩
theorem ok_isnum {f : Addr} {fd : FuncData} (F : Fun K "is_number" "is_number" sIsNum f fd) (N : Nm mg) : FnOk P w K mg base CX0 1 f fd ["word", "field"] spIsNum := by
  refine F.ok scIN (fun vs H Q E h => ?_) (fun cdv A outer s H vs Q E hr h => ?_)
  · obtain ⟨i, fl, rfl, _⟩ := h
    rfl
  · obtain ⟨i, fl, rfl, hz, hf, hi, k⟩ := h
    have nd := scIN.nd
    refine ⟨_, pss_cons (ps_set (i := 2) nd rfl (.inl rfl) (pe_ifExp (PW.pt (pw_and (pt_cmpR op_eq (pv 1) pe_int (nomark _)) (pw_and1 (pt_val (pe_m1 PySem.F.slot_str_startswith PySem.F.type_str_startswith mt_startswith (pv 0) pe_str)))))
        (pe_slice sl_str (pv 0) (po_some pe_int) po_none) (pv 0)))
      (pss_cons (ps_if (PW.pt (pw_or (pt_not (pt_val (pe_m0 PySem.F.slot_str_isascii PySem.F.type_str_isascii mt_isascii (pv 2)))) (pw_or1 (pt_not (pt_val (pe_m0 PySem.F.slot_str_isdigit PySem.F.type_str_isdigit mt_isdigit (pv 2))))))) (pss_one (ps_ret pe_bl)) pss_nil)
      (pss_cons (ps_if (pt_val (pe_m1 PySem.F.slot_str_startswith PySem.F.type_str_startswith mt_startswith (pv 2) pe_str)) (pss_one (ps_ret (pe_cmpR op_eq (pv 0) pe_str (nomark _)))) pss_nil)
      (pss_one (ps_ret (pe_or (pe_cmpR op_eq (pv 1) pe_int (nomark _)) (pe_one (pe_and (pe_cmpR op_le (pe_callB call_len_str (by rfl) N.len PySem.boot_len (pa_cons (pv 2) pa_nil)) pe_int (nomark _))
        (pe_one (pe_cmpR op_lt (pe_callTy call_int_str (by rfl) N.int (by decide +kernel) (pa_cons (pv 2) pa_nil)) (pv 1) (nomark _)))))))))), ?_⟩
    have h6 : fl = 0 ∨ 0 < fl := by
      have := fields_ge hf
      omega
    have e0 : ∀ n : Nat, i.natAbs = n → (i = (n : Int) ∨ i = -(n : Int)) := fun n h => by omega
    by_cases z : fl = 0
    · have e1 : decide (V.int fl = V.int 0) = true := by rw [z]; rfl
      by_cases m : i < 0
      · obtain ⟨q, rfl⟩ : ∃ q, i = Int.negSucc q := ⟨i.natAbs - 1, by omega⟩
        have e2 : Txt.startswith (tx (Int.negSucc q)) ("-" : Str) = true := by
          rw [starts_minus]
          exact decide_eq_true m
        refine ⟨_, rfl, rfl, _, rfl, ?_⟩
        rw [e1]
        refine iteT ⟨_, rfl, ⟨_, rfl⟩, _, _, rfl, rfl, _, rfl, ?_⟩
        rw [e2]
        refine iteT ⟨_, rfl, _, rfl, ?_⟩
        refine ⟨_, rfl, Nat.le_trans (tx_len hz) (by decide), ?_⟩
        rw [cut_minus]
        refine ⟨_, rfl, ⟨_, rfl⟩, _, rfl, rfl, trivial, _, rfl, ?_⟩
        rw [num_ascii]
        refine iteF ⟨_, rfl, ⟨_, rfl⟩, _, rfl, rfl, trivial, _, rfl, ?_⟩
        rw [num_isdigit]
        refine iteF ⟨_, rfl, ⟨_, rfl⟩, _, _, rfl, rfl, _, rfl, ?_⟩
        rw [starts_zero, decide_eq_false (Nat.succ_ne_zero q)]
        refine iteF ⟨_, rfl, rfl, _, rfl, ?_⟩
        rw [e1]
        exact iteT k
      · obtain ⟨n, rfl⟩ : ∃ n : Nat, i = n := ⟨i.natAbs, by omega⟩
        have e2 : Txt.startswith (tx (n : Int)) ("-" : Str) = false := by
          rw [starts_minus]
          exact decide_eq_false m
        refine ⟨_, rfl, rfl, _, rfl, ?_⟩
        rw [e1]
        refine iteT ⟨_, rfl, ⟨_, rfl⟩, _, _, rfl, rfl, _, rfl, ?_⟩
        rw [e2]
        refine iteF ⟨_, rfl, ?_⟩
        refine ⟨_, rfl, ⟨_, rfl⟩, _, rfl, rfl, trivial, _, rfl, ?_⟩
        rw [num_ascii]
        refine iteF ⟨_, rfl, ⟨_, rfl⟩, _, rfl, rfl, trivial, _, rfl, ?_⟩
        rw [num_isdigit]
        refine iteF ⟨_, rfl, ⟨_, rfl⟩, _, _, rfl, rfl, _, rfl, ?_⟩
        rw [starts_zero]
        by_cases n0 : n = 0
        · rw [decide_eq_true n0]
          refine iteT ⟨_, rfl, rfl, ?_⟩
          have e3 : decide (V.str (tx (n : Int)) = V.str "0") = true := by
            rw [n0]
            exact decide_eq_true (congrArg V.str tx_zero)
          rw [e3]
          exact k
        · rw [decide_eq_false n0]
          refine iteF ⟨_, rfl, rfl, _, rfl, ?_⟩
          rw [e1]
          exact iteT k
    · have e1 : decide (V.int fl = V.int 0) = false := decide_eq_false fun e => z (V.int.inj e)
      obtain ⟨i0, i1⟩ := hi z
      have hg := fields_ge hf
      obtain ⟨n, rfl⟩ : ∃ n : Nat, i = n := ⟨i.natAbs, by omega⟩
      refine ⟨_, rfl, rfl, _, rfl, ?_⟩
      rw [e1]
      refine iteF ⟨_, rfl, ?_⟩
      refine ⟨_, rfl, ⟨_, rfl⟩, _, rfl, rfl, trivial, _, rfl, ?_⟩
      rw [num_ascii]
      refine iteF ⟨_, rfl, ⟨_, rfl⟩, _, rfl, rfl, trivial, _, rfl, ?_⟩
      rw [num_isdigit]
      refine iteF ⟨_, rfl, ⟨_, rfl⟩, _, _, rfl, rfl, _, rfl, ?_⟩
      rw [starts_zero]
      by_cases n0 : n = 0
      · rw [decide_eq_true n0]
        refine iteT ⟨_, rfl, rfl, ?_⟩
        have e3 : decide (V.str (tx (n : Int)) = V.str "0") = true := by
          rw [n0]
          exact decide_eq_true (congrArg V.str tx_zero)
        rw [e3]
        exact k
      · rw [decide_eq_false n0]
        refine iteF ⟨_, rfl, rfl, _, rfl, ?_⟩
        rw [e1]
        have hl2 := num_len2 (n := n) (by omega)
        refine iteF ⟨_, rfl, _, rfl, Nat.le_trans hl2 (by decide), _, _, rfl, rfl, _, rfl, ?_⟩
        rw [decide_eq_true (show ((tx (n : Int)).length : Int) ≤ 2 by omega)]
        refine iteT ⟨_, rfl, _, _, rfl, tx_int hz, by omega, _, rfl, _, _, rfl, rfl, ?_⟩
        show Q (.bl (decide ((n : Int) < fl))) H
        rw [decide_eq_true i1]
        exact k
theorem scRR : FnScope ["line", "field", "words", "word"] ["line", "field"] (defScope sRRow) := ⟨rfl, rfl, rfl, by decide +kernel, rfl, by decide +kernel, by decide +kernel⟩
theorem ok_rrow {f fN : Addr} {fd fdN : FuncData} {tk tk2 : Tok} (F : Fun K "read_row" "read_row" sRRow f fd) (N : Nm mg) (gE : mg "EMPTY_ROW" = some (.str "-" tk)) (gM : mg "MOST_WIDTH" = some (.int 12 tk2))
    (GN : FnOk P w K mg base CX0 1 fN fdN ["word", "field"] spIsNum) (kN : PySem.W.keepIn K (.ref fN) = true) (bN : Binds K fdN ["word", "field"] []) (gN : mg "is_number" = some (.ref fN)) : FnOk P w K mg base CX0 2 f fd ["line", "field"] spRRow := by
  refine F.ok scRR (fun vs H Q E h => ?_) (fun cdv A outer s H vs Q E hr h => ?_)
  · obtain ⟨ns, fl, rfl, _⟩ := h
    rfl
  · obtain ⟨ns, fl, rfl, hf, ⟨hl, hz⟩, k⟩ := h
    have nd := scRR.nd
    refine ⟨_, pss_cons (ps_if (pt_cmpR op_eq (pv 0) (pe_glob (v := .str "-") (by rfl) gE ⟨_, rfl⟩) (nomark _)) (pss_one (ps_ret (pe_lst pa_nil))) pss_nil)
      (pss_cons (ps_set (i := 2) nd rfl (.inl rfl) (pe_split (pv 0) pe_str))
      (pss_cons (ps_if (PW.pt (pw_or (pt_cmpR op_gt (pe_callB lenL (by rfl) N.len PySem.boot_len (pa_cons (pv 2) pa_nil)) (pe_glob (v := .int 12) (by rfl) gM ⟨_, rfl⟩) (nomark _))
        (pw_or1 (pt_not (pt_val (pe_callB (cr_all rfl) (by rfl) N.all (by decide +kernel) (pa_cons (pe_lc (own := [("word", 3)]) (g := gName 3) (tt := tYes) rfl nd (pi_list (pv 2))
          (blkOk_by (own := [("word", 3)]) (N := ["line", "field", "words", "word"]) (sc := defScope sRRow) (by decide +kernel)) (fun _ _ _ _ _ => pg_name (i := 3) nd rfl (Or.inl rfl)) (fun _ _ _ _ _ => pts_nil)
          (fun _ _ _ _ _ => pe_call GN hr rfl gN kN bN .nil pass0 (pa_cons (pv 3) (pa_cons (pv 1) pa_nil)))) pa_nil))))))) (pss_one (ps_ret pe_non)) pss_nil)
      (pss_one (ps_ret (pe_lc (own := [("word", 3)]) (g := gName 3) (tt := tYes) rfl nd (pi_list (pv 2))
          (blkOk_by (own := [("word", 3)]) (N := ["line", "field", "words", "word"]) (sc := defScope sRRow) (by decide +kernel)) (fun _ _ _ _ _ => pg_name (i := 3) nd rfl (Or.inl rfl)) (fun _ _ _ _ _ => pts_nil)
          (fun _ _ _ _ _ => pe_callTy call_int_str (by rfl) N.int (by decide +kernel) (pa_cons (pv 3) pa_nil))))))), ?_⟩
    by_cases e : ns = []
    · have e1 : decide (V.str (rowText ns) = V.str ("-" : Str)) = true := by
        rw [e]
        rfl
      refine ⟨_, rfl, rfl, _, rfl, ?_⟩
      rw [e1]
      refine iteT ⟨Nat.zero_le _, fun l hl => k _ l (same_upd hl) hl ?_⟩
      rw [upd_same, e]
      rfl
    · have e2 : rowText ns = Txt.join (" " : Str) (ns.map tx) := if_neg fun h => e (List.length_eq_zero_iff.mp h)
      have e1 : decide (V.str (rowText ns) = V.str ("-" : Str)) = false := by
        rw [e2]
        exact decide_eq_false fun h => join_not_dash e (V.str.inj h)
      have hlen := rowText_len hl fun n m => (hz n m).1
      refine ⟨_, rfl, rfl, _, rfl, ?_⟩
      rw [e1]
      refine iteF ⟨_, rfl, ⟨_, rfl⟩, _, _, rfl, rfl, rfl, Nat.le_trans (Nat.add_le_add_right hlen 2) (by decide), fun l nl => ?_⟩
      rw [e2, split_txs e]
      generalize hH1 : upd H l (.lst ((ns.map tx).map V.str)) = H1
      have s1 : Same H H1 := by rw [← hH1]; exact same_upd nl
      have l1 : H1 l = some (.lst ((ns.map tx).map V.str)) := by rw [← hH1, upd_same]
      refine ⟨_, rfl, l, _, rfl, l1, _, _, rfl, rfl, _, rfl, ?_⟩
      rw [decide_eq_false (show ¬ ((12 : Int) < (((ns.map tx).map V.str).length : Int)) by rw [List.length_map, List.length_map]; omega)]
      refine iteF ⟨_, rfl, l, rfl, ⟨_, SqL.of l1⟩, fun D nD => map_list (fun _ => .bl true) l1 nD (by rw [List.length_map, List.length_map]; omega) (fun _ => rfl) ?_ ?_⟩
      · intro j x H' hx sH R hR
        rw [List.map_map, List.getElem?_map] at hx
        obtain ⟨n, hn, rfl⟩ := Option.map_eq_some_iff.mp hx
        have hm := hz n (List.mem_of_getElem? hn)
        exact ⟨_, rfl, _, rfl, n, fl, rfl, hm.1, hf, hm.2, hR _ same_refl⟩
      · intro H2 s2 hD
        refine ⟨D, ns.map fun _ => true, rfl, SqL.of ?_, ?_⟩
        · rw [hD, List.map_map, List.map_map, List.map_map]
          rfl
        have e3 : (ns.map fun _ => true).all id = true := by
          rw [List.all_eq_true]
          intro b hb
          obtain ⟨_, _, rfl⟩ := List.mem_map.mp hb
          rfl
        refine ⟨_, rfl, ?_⟩
        rw [e3]
        have l2 := s2 _ _ l1
        refine iteF ⟨_, rfl, l, rfl, ⟨_, SqL.of l2⟩, fun D2 nD2 => map_listG (ns.map V.int) (by rw [List.length_map, List.length_map, List.length_map]) l2 nD2 (by rw [List.length_map, List.length_map]; omega) (fun _ => rfl) ?_ ?_⟩
        · intro j x y H' hx hy sH R hR
          rw [List.map_map, List.getElem?_map] at hx
          obtain ⟨n, hn, rfl⟩ := Option.map_eq_some_iff.mp hx
          rw [List.getElem?_map, hn] at hy
          cases hy
          have hm := hz n (List.mem_of_getElem? hn)
          exact ⟨_, rfl, _, n, rfl, tx_int hm.1, Nat.le_trans (tx_len hm.1) (by decide), hR _ same_refl⟩
        · intro H3 s3 hD3
          exact k H3 D2 ((s1.trans s2).trans s3) ((s1.trans s2).free nD2) hD3
theorem fields_sz {f : Int} (h : f ∈ fields) : Sz f := by
  have := fields_ge h
  show f.natAbs < 10 ^ 60
  omega
theorem scRS : FnScope ["text", "lines", "field", "rows", "number", "line", "row"] ["text"] (defScope sRRows) := ⟨rfl, rfl, rfl, by decide +kernel, rfl, by decide +kernel, by decide +kernel⟩
theorem ok_rrows {f fR aF : Addr} {fd fdR : FuncData} {tk : Tok} (F : Fun K "read_rows" "read_rows" sRRows f fd) (N : Nm mg) (gM : mg "MOST_ROWS" = some (.int 60 tk)) (gF : mg "FIELDS" = some (.ref aF)) (tF : ∀ H, SqT K H aF (fields.map V.int))
    (GR : FnOk P w K mg base CX0 2 fR fdR ["line", "field"] spRRow) (kR : PySem.W.keepIn K (.ref fR) = true) (bR : Binds K fdR ["line", "field"] []) (gR : mg "read_row" = some (.ref fR)) : FnOk P w K mg base CX0 3 f fd ["text"] spRRows := by
  refine F.ok scRS (fun vs H Q E h => ?_) (fun cdv A outer s H vs Q E hr h => ?_)
  · obtain ⟨fl, wd, nss, rfl, _⟩ := h
    rfl
  · obtain ⟨fl, wd, nss, rfl, hf, hl, hz, k⟩ := h
    have nd := scRS.nd
    refine ⟨_, pss_cons (ps_set (i := 1) nd rfl (.inl rfl) (pe_split (pv 0) pe_str))
      (pss_cons (ps_if (pt_cmpR op_notIn_seq (pe_ix ixL (pv 1) pe_int (fun _ _ => rfl)) (pe_lc (own := [("field", 2)]) (g := gName 2) (tt := tYes) rfl nd (pi_tup (pe_glob (v := .ref aF) (by rfl) gF rfl))
          (blkOk_by (own := [("field", 2)]) (N := ["text", "lines", "field", "rows", "number", "line", "row"]) (sc := defScope sRRows) (by decide +kernel)) (fun _ _ _ _ _ => pg_name (i := 2) nd rfl (Or.inl rfl)) (fun _ _ _ _ _ => pts_nil)
          (fun _ _ _ _ _ => pe_joined (.cons pe_str (.cons (pe_fmt (pv 2)) .nil)))) (by rfl)) pss_never pss_nil)
      (pss_cons (ps_set (i := 2) nd rfl (.inl rfl) (pe_callTy call_int_str (by rfl) N.int (by decide +kernel) (pa_cons (pe_slice sl_str (pe_ix ixL (pv 1) pe_int (fun _ _ => rfl)) (po_some (pe_callB call_len_str (by rfl) N.len PySem.boot_len (pa_cons pe_str pa_nil))) po_none) pa_nil)))
      (pss_cons (ps_set (i := 3) nd rfl (.inl rfl) (pe_lst pa_nil))
      (pss_cons (ps_for PassesOwn.never rfl (pi_ctd (by rfl) N.enum (pa_cons (pe_slice sl_list (pv 1) (po_some pe_int) po_none) pa_nil) (pk_cons pe_int pk_nil)) (pg_tup rfl (pgs_cons (pg_name (i := 4) nd rfl (.inl rfl)) (pgs_cons (pg_name (i := 5) nd rfl (.inl rfl)) pgs_nil)))
        (pss_cons (ps_set (i := 6) nd rfl (.inl rfl) (pe_call GR hr rfl gR kR bR .nil pass0 (pa_cons (pv 5) (pa_cons (pv 2) pa_nil))))
        (pss_cons (ps_if (PW.pt (pw_or (pt_cmpR op_isN (pv 6) pe_non (nomark _)) (pw_or1 (pt_cmpR op_eq (pe_callB lenL (by rfl) N.len PySem.boot_len (pa_cons (pv 3) pa_nil)) (pe_glob (v := .int 60) (by rfl) gM ⟨_, rfl⟩) (nomark _))))) pss_never pss_nil)
        (pss_cons (ps_if (PW.pt (pw_and (pt_cmpR op_gt (pe_callB lenL (by rfl) N.len PySem.boot_len (pa_cons (pv 3) pa_nil)) pe_int (nomark _)) (pw_and1 (pt_cmpR op_ne (pe_callB lenL (by rfl) N.len PySem.boot_len (pa_cons (pv 6) pa_nil))
            (pe_callB lenL (by rfl) N.len PySem.boot_len (pa_cons (pe_ix ixL (pv 3) pe_int (fun _ _ => rfl)) pa_nil)) (nomark _))))) pss_never pss_nil)
        (pss_one (ps_expr (pe_bm PySem.F.plainAttrs_list PySem.F.slot_list_append PySem.F.type_list_append mt_append (pv 3) (pa_cons (pv 6) pa_nil)))))))) 
      (pss_one (ps_ret (pe_tup (pa_cons (pv 3) (pa_cons (pv 2) pa_nil))))))))), ?_⟩
    have hzc : ∀ ns ∈ nss, ns.length ≤ 12 ∧ ∀ n ∈ ns, Sz n := fun ns m => ⟨(hz ns m).1.1, fun n m2 => ((hz ns m).1.2 n m2).1⟩
    have hlen : (tabText fl nss).length ≤ 100000 := Nat.le_trans (len_join _ _) (tabs_sum hf hl hzc)
    refine ⟨_, rfl, ⟨_, rfl⟩, _, _, rfl, rfl, rfl, Nat.le_trans (Nat.add_le_add_right hlen 2) (by decide), fun l nl => ?_⟩
    rw [split_tab]
    generalize hH1 : upd H l (.lst (((("field " : Str) ++ tx fl) :: nss.map rowText).map V.str)) = H1
    have s1 : Same H H1 := by rw [← hH1]; exact same_upd nl
    have l1 : H1 l = some (.lst (((("field " : Str) ++ tx fl) :: nss.map rowText).map V.str)) := by rw [← hH1, upd_same]
    have a0 : atI (((("field " : Str) ++ tx fl) :: nss.map rowText).map V.str) 0 = some (.str (("field " : Str) ++ tx fl)) := at0
    refine ⟨_, rfl, l, 0, _, _, rfl, rfl, l1, a0, aF, rfl, ⟨_, tF H1⟩, fun D nD => map_tupS (a := aF) (xs := fields.map V.int) (te := fun σ H Q => tJs [tC (V.str (Str.ofString "field ")), tFmt (tVar 2)] Str.empty σ H fun out H1 => Q (V.str out) H1) (fields.map fun j => V.str (("field " : Str) ++ tx j)) (by rw [List.length_map, List.length_map]) (by exact fun H _ => tF H) nD (by decide) (fun _ => rfl) ?_ ?_⟩
    · intro j x y H' hx hy sH R hR
      rw [List.getElem?_map] at hx hy
      obtain ⟨i, hi, rfl⟩ := Option.map_eq_some_iff.mp hx
      rw [hi] at hy
      cases hy
      have si := fields_sz (List.mem_of_getElem? hi)
      have el : Str.empty ++ Str.ofString "field " ++ Str.ofString (toString i) = ("field " : Str) ++ tx i := by
        apply TL.ext_tl
        rw [TL.tl_append, TL.tl_append, TL.tl_append]
        rfl
      refine ⟨_, rfl, Nat.le_of_ble_eq_true rfl, _, rfl, .inr ⟨_, rfl, si.log, _, rfl, ?_, ?_⟩⟩
      · rw [el]
        have h5 : (("field " : Str) ++ tx i).length = 6 + (tx i).length := by
          rw [TL.len_tl, TL.tl_append, List.length_append, ← TL.len_tl, ← TL.len_tl]
          rfl
        have := tx_len si
        rw [h5]
        exact Nat.le_trans (by omega : _ ≤ 100000) (by decide)
      · rw [el]
        exact hR _ same_refl
    · intro H2 s2 hD
      refine ⟨D, _, rfl, .inl (SqL.of hD), rfl, by rw [List.all_map]; rfl, ?_⟩
      have hin : inV (.str (("field " : Str) ++ tx fl)) (fields.map fun j => V.str (("field " : Str) ++ tx j)) = true :=
        List.any_eq_true.mpr ⟨_, List.mem_map_of_mem hf, by
          show (("field " : Str) ++ tx fl == ("field " : Str) ++ tx fl) = true
          simp⟩
      refine ⟨_, rfl, ?_⟩
      rw [if_pos rfl, hin]
      have l2 := s2 _ _ l1
      have h5 : (("field " : Str) ++ tx fl).length = 6 + (tx fl).length := by
        rw [TL.len_tl, TL.tl_append, List.length_append, ← TL.len_tl, ← TL.len_tl]
        rfl
      have h6 := tx_len (fields_sz hf)
      have hc : cutS (("field " : Str) ++ tx fl) (some ((("field " : Str).length : Nat) : Int)) none = tx fl := cut_front _ _
      refine iteF ⟨_, rfl, l, 0, _, _, rfl, rfl, l2, a0, _, rfl, Nat.le_of_ble_eq_true rfl, _, rfl, _, rfl, Nat.le_trans (by omega : _ ≤ 100000) (by decide), ?_⟩
      rw [hc]
      refine ⟨_, fl, rfl, tx_int (fields_sz hf), by omega, ?_⟩
      refine ⟨Nat.zero_le _, fun R nR => ?_⟩
      generalize hH3 : upd H2 R (.lst (([] : List V))) = H3
      have s3 : Same H2 H3 := by rw [← hH3]; exact same_upd nR
      have R3 : H3 R = some (.lst []) := by rw [← hH3, upd_same]
      have l3 := s3 _ _ l2
      have hcv : cutV (((("field " : Str) ++ tx fl) :: nss.map rowText).map V.str) (some 1) none = (nss.map rowText).map V.str := by
        rw [List.map_cons]
        generalize (nss.map rowText).map V.str = ys
        simp [cutV, HT.sIx]
      have nRH : H R = none := (s1.trans s2).free nR
      refine ⟨_, rfl, _, rfl, l, _, rfl, SqL.of l3, fun S nS => ?_⟩
      rw [hcv]
      generalize hH4 : upd H3 S (.lst ((nss.map rowText).map V.str)) = H4
      have s4 : Same H3 H4 := by rw [← hH4]; exact same_upd nS
      have S4 : H4 S = some (.lst ((nss.map rowText).map V.str)) := by rw [← hH4, upd_same]
      have R4 := s4 _ _ R3
      have nSR : S ≠ R := fun e => by
        rw [e, R3] at nS
        cases nS
      have sH4 : Same H H4 := ((s1.trans s2).trans s3).trans s4
      refine ⟨S, _, 2, rfl, rfl, by decide, by decide, SqL.of S4, for_ctd (fun i σ G => ∃ (u v x : Option V) (ts : List Addr), σ = [some (.str (tabText fl nss)), some (.ref l), some (.int fl), some (.ref R), u, v, x] ∧ But R H4 G ∧ G R = some (.lst (ts.map V.ref)) ∧
          Paired (fun t ns => G t = some (.lst (ns.map V.int)) ∧ ns.length = wd) ts (nss.take i) ∧ ∀ t ∈ ts, t ≠ R ∧ H t = none)
        ⟨none, none, none, [], rfl, fun b u _ e => e, R4, .nil, fun _ h => nomatch h⟩ (fun i σ G _ ⟨_, _, _, _, _, b, _⟩ => SqL.of (b _ _ nSR S4)) ?_ ?_⟩
      · rintro i x T σ G hx ⟨u, v, x2, ts, rfl, bG, GR0, hts, htR⟩ nT
        rw [List.map_map, List.getElem?_map] at hx
        obtain ⟨ns, hns, rfl⟩ := Option.map_eq_some_iff.mp hx
        have hm := hz ns (List.mem_of_getElem? hns)
        have sT : Same G (upd G T (.tup [.int (2 + (i : Nat)), .str (rowText ns)])) := same_upd nT
        refine ⟨T, [.int (2 + (i : Nat)), .str (rowText ns)], rfl, .inl (.inl upd_same), rfl, .int (2 + (i : Nat)), [.str (rowText ns)], rfl, .str (rowText ns), [], rfl, rfl, ?_⟩
        refine ⟨_, rfl, _, rfl, ns, fl, rfl, hf, hm.1, fun G2 t s5 nt ht => ?_⟩
        have sG : Same G G2 := sT.trans s5
        have GR2 := sG _ _ GR0
        have hi : i < nss.length := (List.getElem?_eq_some_iff.mp hns).1
        have tlen : ts.length = i := by
          have := Paired.length hts
          rw [List.length_take] at this
          omega
        have sHG : Same H G := fun b u e => bG b u (fun e2 => by
          rw [e2, nRH] at e
          cases e) (sH4 b u e)
        have ntR : t ≠ R := fun e => by
          have h := sT _ _ GR0
          rw [← e] at h
          exact absurd (h.symm.trans nt) (by simp)
        have nG2 : G2 t = some (.lst (ns.map V.int)) := ht
        refine ⟨_, rfl, rfl, _, rfl, iteF ?_⟩
        refine ⟨_, rfl, R, _, rfl, GR2, rfl, _, rfl, ?_⟩
        rw [decide_eq_false (show ¬ V.int (((ts.map V.ref).length : Nat) : Int) = V.int 60 by
          intro e
          have := V.int.inj e
          rw [List.length_map, tlen] at this
          omega)]
        refine iteF ?_
        generalize hG3 : upd G2 R (.lst (ts.map V.ref ++ [.ref t])) = G3
        have R6 : G3 R = some (.lst ((ts ++ [t]).map V.ref)) := by
          rw [← hG3, upd_same, List.map_append]
          rfl
        have b6 : But R G2 G3 := by rw [← hG3]; exact But.upd
        have last : But R H4 G3 ∧ G3 R = some (.lst ((ts ++ [t]).map V.ref)) ∧ Paired (fun t ns => G3 t = some (.lst (ns.map V.int)) ∧ ns.length = wd) (ts ++ [t]) (nss.take (i + 1)) ∧ ∀ x ∈ ts ++ [t], x ≠ R ∧ H x = none := by
          refine ⟨(bG.trans (But.same sG)).trans b6, R6, ?_, ?_⟩
          · rw [List.take_succ, hns]
            refine Paired.snoc (Paired.keepMem hts fun x m ns h => ⟨b6 _ _ (htR x m).1 (sG _ _ h.1), h.2⟩) ⟨b6 _ _ ntR nG2, hm.2⟩
          · intro x m
            rcases List.mem_append.mp m with m | m
            · exact htR x m
            · rw [List.mem_singleton.mp m]
              exact ⟨ntR, (sHG.trans sT).free nt⟩
        have hsz : (ts.map V.ref).length < sizeLine := by
          rw [List.length_map, tlen]
          exact Nat.lt_of_lt_of_le (by omega : _ < 61) (by decide)
        have fin : ∀ c, c = false → c = false := fun _ h => h
        by_cases i0 : i = 0
        · refine ⟨_, rfl, R, _, rfl, GR2, _, _, rfl, rfl, _, rfl, ?_⟩
          rw [decide_eq_false (by rw [List.length_map, tlen]; omega)]
          refine iteF ⟨_, rfl, .inl ⟨rfl, _, SqL.of GR2⟩, _, rfl, R, _, _, rfl, rfl, GR2, hsz, ?_⟩
          rw [hG3]
          exact ⟨_, _, _, ts ++ [t], rfl, last⟩
        · refine ⟨_, rfl, R, _, rfl, GR2, _, _, rfl, rfl, _, rfl, ?_⟩
          rw [decide_eq_true (by rw [List.length_map, tlen]; omega)]
          obtain ⟨t0, h00⟩ : ∃ t0, ts[0]? = some t0 := ⟨ts[0]'(by omega), List.getElem?_eq_getElem _⟩
          obtain ⟨n0, hn0, hrow0, hlen0⟩ := paired_get hts h00
          refine iteT ⟨_, rfl, t, _, rfl, nG2, _, rfl, R, 0, _, .ref t0, rfl, rfl, GR2, atI_nat (j := 0) (by rw [List.getElem?_map, h00]; rfl), t0, _, rfl, sG _ _ hrow0, rfl, _, rfl, ?_⟩
          rw [decide_eq_true (show V.int (((ns.map V.int).length : Nat) : Int) = V.int (((n0.map V.int).length : Nat) : Int) by rw [List.length_map, List.length_map, hm.2, hlen0])]
          refine iteF ⟨_, rfl, .inl ⟨rfl, _, SqL.of GR2⟩, _, rfl, R, _, _, rfl, rfl, GR2, hsz, ?_⟩
          rw [hG3]
          exact ⟨_, _, _, ts ++ [t], rfl, last⟩
      · rintro σ G ⟨u, v, x2, ts, rfl, bG, GR0, hts, htR⟩
        have sHG : Same H G := fun b u e => bG b u (fun e2 => by
          rw [e2, nRH] at e
          cases e) (sH4 b u e)
        rw [List.length_map, List.length_map, List.take_length] at hts
        refine ⟨_, rfl, _, rfl, Nat.le_of_ble_eq_true rfl, fun p np => ?_⟩
        have sp := same_upd np (o := .tup [.ref R, .int fl])
        exact k _ p R ts (sHG.trans sp) upd_same (sp _ _ GR0) (Paired.keepMem hts fun x m ns h => ⟨.inl (sp _ _ h.1), h.2⟩) (sHG.free np) nRH fun t m => (htR t m).2
end
/-! ### words and lines, whatever they are -/
theorem PE.imp' {X : Cx} {e : Expr} {t t' : TE} (h : PE X e t) (k : ∀ σ H Q, t' σ H Q → t σ H Q) : PE X e t' := ⟨fun pins s σ H Q I q => h.run pins s σ H Q I (k σ H Q q)⟩
theorem PS.imp' {X : Cx} {e : Stmt} {t t' : TS} (h : PS X e t) (k : ∀ D σ H, t' D σ H → t D σ H) : PS X e t' := ⟨fun pins s σ H D I q => h.run pins s σ H D I (k D σ H q)⟩
theorem PSs.imp' {X : Cx} {e : List Stmt} {t t' : TS} (h : PSs X e t) (k : ∀ D σ H, t' D σ H → t D σ H) : PSs X e t' := ⟨fun pins s σ H D I q => h.run pins s σ H D I (k D σ H q)⟩
def spIsNumG : Sp := fun vs H Q _ => ∃ (w : Str) (f : Int), vs = [.str w, .int f] ∧ w.length ≤ 59 ∧ f ∈ fields ∧ (NumF f w → Q (.bl true) H) ∧ (¬ NumF f w → Q (.bl false) H)
/-- d: the figures of the word x -/
structure FigOf (fl : Int) (x d : Str) : Prop where
  len : d.length ≤ 59
  no : ¬ (NumText.AllDigits (TL.tl d) ∧ TL.tl d ≠ []) → ¬ NumF fl x
  zero : NumText.AllDigits (TL.tl d) → (TL.tl d)[0]? = some 48 → (NumF fl x ↔ x = ("0" : Str))
  yes : NumText.AllDigits (TL.tl d) → TL.tl d ≠ [] → ¬ (TL.tl d)[0]? = some 48 → (NumF fl x ↔ (fl = 0 ∨ (d.length ≤ 2 ∧ (NumText.digitsVal (TL.tl d) : Int) < fl)))
theorem can_of {cs : List Nat} (h : NumText.AllDigits cs) (h2 : cs ≠ []) (h3 : ¬ cs[0]? = some 48) : Can cs := ⟨h, h2, fun e => absurd e h3⟩
theorem tl_can {w : Str} (h : Can (TL.tl w)) : w = tx ((NumText.digitsVal (TL.tl w) : Nat) : Int) := TL.ext_tl (by rw [tl_pos]; exact (num_can h).symm)
theorem fig_plain {fl : Int} {x : Str} (hf : fl ∈ fields) (hl : x.length ≤ 59) (hm : fl ≠ 0 ∨ ¬ (TL.tl x)[0]? = some 45) : FigOf fl x x := by
  have hg := fields_ge hf
  have head : ∀ r, TL.tl x = 45 :: r → ¬ NumF fl x := by
    rintro r e ⟨i, h, hi⟩
    rcases hm with hm | hm
    · have := hi hm
      obtain ⟨n, rfl⟩ : ∃ n : Nat, i = n := ⟨i.natAbs, by omega⟩
      rw [h, tl_pos] at e
      have : 45 ∈ TL.numL n := by rw [e]; exact .head _
      exact TL.numL_free (.inl (by decide)) this
    · rw [e] at hm
      exact hm rfl
  have can : NumF fl x → Can (TL.tl x) := by
    intro h
    obtain ⟨i, e, hi⟩ := id h
    rcases (isnum_iff x).mp ⟨i, e⟩ with c | ⟨r, e2, _⟩
    · exact c
    · exact absurd h (head r e2)
  refine ⟨hl, fun h hn => h ⟨(can hn).1, (can hn).2.1⟩, fun h1 h2 => ⟨fun hn => (zero_tl x).mpr ((can hn).2.2 h2), ?_⟩, fun h1 h2 h3 => ⟨fun hn => ?_, fun h => ?_⟩⟩
  · rintro rfl
    exact ⟨0, tx_zero.symm, fun h => by omega⟩
  · obtain ⟨i, e, hi⟩ := id hn
    by_cases z : fl = 0
    · exact .inl z
    · have hi2 := hi z
      obtain ⟨n, rfl⟩ : ∃ n : Nat, i = n := ⟨i.natAbs, by omega⟩
      refine .inr ⟨?_, ?_⟩
      · rw [e]
        exact num_len2 (by omega)
      · rw [e, tl_pos, TL.numL_val]
        exact hi2.2
  · refine ⟨_, tl_can (can_of h1 h2 h3), fun z => ⟨Int.natCast_nonneg _, ?_⟩⟩
    rcases h with h | h
    · exact absurd h z
    · exact h.2
theorem fig_cut {x : Str} (hl : x.length ≤ 59) (hm : (TL.tl x)[0]? = some 45) : FigOf 0 x (cutS x (some 1) none) := by
  have hl2 := cutS_length x (some 1) none
  obtain ⟨r, e⟩ : ∃ r, TL.tl x = 45 :: r := by
    cases h : TL.tl x with
    | nil =>
      rw [h] at hm
      cases hm
    | cons c r =>
      rw [h] at hm
      cases hm
      exact ⟨r, rfl⟩
  have er : TL.tl (cutS x (some 1) none) = r := by
    rw [len_cut1, e]
    rfl
  have nf : NumF 0 x ↔ (Can r ∧ r ≠ [48]) := by
    constructor
    · rintro ⟨i, h, _⟩
      rcases (isnum_iff x).mp ⟨i, h⟩ with c | ⟨r', e2, c, n⟩
      · have := c.1 45 (by rw [e]; exact .head _)
        omega
      · rw [e] at e2
        cases e2
        exact ⟨c, n⟩
    · rintro ⟨c, n⟩
      obtain ⟨i, h⟩ := (isnum_iff x).mpr (.inr ⟨r, e, c, n⟩)
      exact ⟨i, h, fun z => absurd rfl z⟩
  refine ⟨by omega, fun h hn => ?_, fun h1 h2 => ?_, fun h1 h2 h3 => ?_⟩
  · rw [er] at h
    exact h ⟨(nf.mp hn).1.1, (nf.mp hn).1.2.1⟩
  · rw [er] at h1 h2
    refine ⟨fun hn => absurd ((nf.mp hn).1.2.2 h2) (nf.mp hn).2, fun h0 => ?_⟩
    have := (zero_tl x).mp h0
    rw [e] at this
    cases this
  · rw [er] at h1 h2 h3
    refine ⟨fun _ => .inl rfl, fun _ => nf.mpr ⟨can_of h1 h2 h3, fun z => h3 (by rw [z]; rfl)⟩⟩
section
variable {P : Program} {w : World} {K : PySem.W.Frag} {mg : Str → Option Value} {base : Heap}
theorem ok_isnumG {f : Addr} {fd : FuncData} (F : Fun K "is_number" "is_number" sIsNum f fd) (N : Nm mg) : FnOk P w K mg base CX0 1 f fd ["word", "field"] spIsNumG := by
  refine F.ok scIN (fun vs H Q E h => ?_) (fun cdv A outer s H vs Q E hr h => ?_)
  · obtain ⟨i, fl, rfl, _⟩ := h
    rfl
  · obtain ⟨x, fl, rfl, hl, hf, kT, kF⟩ := h
    have nd := scIN.nd
    refine ⟨_, pss_cons (ps_set (i := 2) nd rfl (.inl rfl) (PE.imp' (t' := fun σ H' Q => σ = [some (.str x), some (.int fl), none] ∧ ∀ d, FigOf fl x d → Q (.str d) H')
        (pe_ifExp (PW.pt (pw_and (pt_cmpR op_eq (pv 1) pe_int (nomark _)) (pw_and1 (pt_val (pe_m1 PySem.F.slot_str_startswith PySem.F.type_str_startswith mt_startswith (pv 0) pe_str)))))
        (pe_slice sl_str (pv 0) (po_some pe_int) po_none) (pv 0)) ?dig))
      (pss_cons (ps_if (PW.pt (pw_or (pt_not (pt_val (pe_m0 PySem.F.slot_str_isascii PySem.F.type_str_isascii mt_isascii (pv 2)))) (pw_or1 (pt_not (pt_val (pe_m0 PySem.F.slot_str_isdigit PySem.F.type_str_isdigit mt_isdigit (pv 2))))))) (pss_one (ps_ret pe_bl)) pss_nil)
      (pss_cons (ps_if (pt_val (pe_m1 PySem.F.slot_str_startswith PySem.F.type_str_startswith mt_startswith (pv 2) pe_str)) (pss_one (ps_ret (pe_cmpR op_eq (pv 0) pe_str (nomark _)))) pss_nil)
      (pss_one (ps_ret (pe_or (pe_cmpR op_eq (pv 1) pe_int (nomark _)) (pe_one (pe_and (pe_cmpR op_le (pe_callB call_len_str (by rfl) N.len PySem.boot_len (pa_cons (pv 2) pa_nil)) pe_int (nomark _))
        (pe_one (pe_cmpR op_lt (pe_callTy call_int_str (by rfl) N.int (by decide +kernel) (pa_cons (pv 2) pa_nil)) (pv 1) (nomark _)))))))))), ?_⟩
    case dig =>
      rintro σ H' Q' ⟨rfl, q⟩
      refine ⟨_, rfl, rfl, _, rfl, ?_⟩
      by_cases z : fl = 0
      · rw [decide_eq_true (show V.int fl = V.int 0 by rw [z])]
        refine iteT ⟨_, rfl, ⟨_, rfl⟩, _, _, rfl, rfl, _, rfl, ?_⟩
        rw [starts_minus']
        by_cases m : (TL.tl x)[0]? = some 45
        · rw [decide_eq_true m]
          refine iteT ⟨_, rfl, _, rfl, _, rfl, Nat.le_trans hl (by decide), q _ ?_⟩
          rw [z]
          exact fig_cut hl m
        · rw [decide_eq_false m]
          exact iteF ⟨_, rfl, q _ (fig_plain hf hl (.inr m))⟩
      · rw [decide_eq_false (show ¬ V.int fl = V.int 0 from fun e => z (V.int.inj e))]
        exact iteF ⟨_, rfl, q _ (fig_plain hf hl (.inl z))⟩
    refine ⟨rfl, fun d hd => ?_⟩
    refine ⟨_, rfl, ⟨_, rfl⟩, _, rfl, rfl, trivial, _, rfl, ?_⟩
    have hdi := digits_iff d
    by_cases ha : Txt.isascii d = true
    · rw [ha]
      refine iteF ⟨_, rfl, ⟨_, rfl⟩, _, rfl, rfl, trivial, _, rfl, ?_⟩
      by_cases hb : Txt.isdigit d = true
      · rw [hb]
        obtain ⟨h1, h2⟩ := hdi.mp ⟨ha, hb⟩
        refine iteF ⟨_, rfl, ⟨_, rfl⟩, _, _, rfl, rfl, _, rfl, ?_⟩
        rw [starts_zero']
        by_cases h3 : (TL.tl d)[0]? = some 48
        · rw [decide_eq_true h3]
          refine iteT ⟨_, rfl, rfl, ?_⟩
          by_cases hx : x = ("0" : Str)
          · rw [decide_eq_true (congrArg V.str hx)]
            exact kT ((hd.zero h1 h3).mpr hx)
          · rw [decide_eq_false fun e => hx (V.str.inj e)]
            exact kF fun hn => hx ((hd.zero h1 h3).mp hn)
        · rw [decide_eq_false h3]
          have hy := hd.yes h1 h2 h3
          refine iteF ⟨_, rfl, rfl, _, rfl, ?_⟩
          by_cases z : fl = 0
          · rw [decide_eq_true (show V.int fl = V.int 0 by rw [z])]
            exact iteT (kT (hy.mpr (.inl z)))
          · rw [decide_eq_false (show ¬ V.int fl = V.int 0 from fun e => z (V.int.inj e))]
            have hl59 := hd.len
            refine iteF ⟨_, rfl, _, rfl, Nat.le_trans hd.len (by decide), _, _, rfl, rfl, _, rfl, ?_⟩
            by_cases l2 : d.length ≤ 2
            · rw [decide_eq_true (show ((d.length : Nat) : Int) ≤ 2 by omega)]
              have hv := PySem.intText_digits h1 h2 (by omega : d.length ≤ 4300)
              refine iteT ⟨_, rfl, _, _, rfl, hv, by omega, _, rfl, _, _, rfl, rfl, ?_⟩
              show Q (.bl (decide (((NumText.digitsVal (TL.tl d) : Nat) : Int) < fl))) H
              by_cases lt : ((NumText.digitsVal (TL.tl d) : Nat) : Int) < fl
              · rw [decide_eq_true lt]
                exact kT (hy.mpr (.inr ⟨l2, lt⟩))
              · rw [decide_eq_false lt]
                refine kF fun hn => ?_
                rcases hy.mp hn with h | h
                · exact z h
                · exact lt h.2
            · rw [decide_eq_false (show ¬ ((d.length : Nat) : Int) ≤ 2 by omega)]
              refine iteF (kF fun hn => ?_)
              rcases hy.mp hn with h | h
              · exact z h
              · exact l2 h.1
      · rw [Bool.eq_false_iff.mpr hb]
        exact iteT (kF (hd.no fun h => hb (hdi.mpr h).2))
    · rw [Bool.eq_false_iff.mpr ha]
      exact iteT (kF (hd.no fun h => ha (hdi.mpr h).1))
end
/-! ### lines -/
theorem spl_ne (S : List Nat) : ∀ (l acc : List Nat), TL.spl S 0 acc l ≠ []
  | [], acc => by
    rw [TL.spl_nil]
    simp
  | c :: r, acc => by
    by_cases h : TL.pre S (c :: r) = true
    · rw [TL.spl_hit h]
      simp
    · rw [TL.spl_miss (Bool.eq_false_iff.mpr h)]
      exact spl_ne S r _
theorem split_ne {x y : Str} (hy : TL.tl y ≠ []) (hk : y.cps.all (· < 256) = true) : Txt.split x y ≠ [] := by
  intro e
  have h := TL.split_spl x y hy (TL.kind_ok hk)
  rw [e] at h
  exact spl_ne _ _ _ h.symm
theorem join_back (x y : Str) : Txt.join y (Txt.split x y) = x := by
  rw [TL.join_eq]
  exact PySem.StrLaws.join_split x y
/-- what a field has -/
def InN (f n : Int) : Prop := Sz n ∧ (f ≠ 0 → 0 ≤ n ∧ n < f)
def IsRow (f : Int) (l : Str) (ns : List Int) : Prop := l = rowText ns ∧ ns.length ≤ 12 ∧ ∀ n ∈ ns, InN f n
def LineOk (l : Str) : Prop := l.length ≤ 5000 ∧ ∀ w ∈ Txt.split l (" " : Str), w.length ≤ 59
theorem isrow_dash {f : Int} {ns : List Int} (h : IsRow f ("-" : Str) ns) : ns = [] := by
  obtain ⟨h1, _⟩ := h
  by_cases e : ns = []
  · exact e
  · have e2 : rowText ns = Txt.join (" " : Str) (ns.map tx) := if_neg fun h => e (List.length_eq_zero_iff.mp h)
    rw [e2] at h1
    exact absurd h1.symm (join_not_dash e)
theorem isrow_nil {f : Int} : IsRow f ("-" : Str) [] := ⟨rfl, by decide, fun _ h => nomatch h⟩
theorem isrow_words {f : Int} {l : Str} {ns : List Int} (hd : l ≠ ("-" : Str)) (h : IsRow f l ns) : Txt.split l (" " : Str) = ns.map tx := by
  obtain ⟨rfl, _⟩ := h
  have e : ns ≠ [] := by
    rintro rfl
    exact hd rfl
  have e2 : rowText ns = Txt.join (" " : Str) (ns.map tx) := if_neg fun h => e (List.length_eq_zero_iff.mp h)
  rw [e2, split_txs e]
theorem words_nums {f : Int} : ∀ ws : List Str, (∀ w ∈ ws, w.length ≤ 59 ∧ NumF f w) → ∃ ns : List Int, ws = ns.map tx ∧ ∀ n ∈ ns, InN f n
  | [], _ => ⟨[], rfl, fun _ h => nomatch h⟩
  | w :: r, h => by
    obtain ⟨hl, i, e, hi⟩ := h w (.head _)
    obtain ⟨ns, e2, h2⟩ := words_nums r fun x m => h x (.tail _ m)
    refine ⟨i :: ns, by rw [e2, e]; rfl, fun n m => ?_⟩
    rcases List.mem_cons.mp m with rfl | m
    · exact ⟨num_sz e hl, hi⟩
    · exact h2 n m
theorem isrow_of {f : Int} {l : Str} (hl : LineOk l) (hn : (Txt.split l (" " : Str)).length ≤ 12) (h : ∀ w ∈ Txt.split l (" " : Str), NumF f w) : ∃ ns, IsRow f l ns ∧ Txt.split l (" " : Str) = ns.map tx := by
  obtain ⟨ns, e, h2⟩ := words_nums (f := f) (Txt.split l (" " : Str)) fun w m => ⟨hl.2 w m, h w m⟩
  have hne : ns ≠ [] := by
    rintro rfl
    exact split_ne (x := l) (y := (" " : Str)) (by decide +kernel) (by decide +kernel) e
  refine ⟨ns, ⟨?_, ?_, h2⟩, e⟩
  · have e2 : rowText ns = Txt.join (" " : Str) (ns.map tx) := if_neg fun h => hne (List.length_eq_zero_iff.mp h)
    rw [e2, ← e, join_back]
  · rw [e, List.length_map] at hn
    exact hn
theorem isrow_nums {f : Int} {l : Str} {ns : List Int} (hd : l ≠ ("-" : Str)) (h : IsRow f l ns) : (Txt.split l (" " : Str)).length ≤ 12 ∧ ∀ w ∈ Txt.split l (" " : Str), NumF f w := by
  have e := isrow_words hd h
  rw [e]
  refine ⟨by rw [List.length_map]; exact h.2.1, fun w m => ?_⟩
  obtain ⟨n, hn, rfl⟩ := List.mem_map.mp m
  exact ⟨n, rfl, (h.2.2 n hn).2⟩
theorem map_tx_inj : ∀ {ms ns : List Int}, (∀ m ∈ ms, Sz m) → (∀ n ∈ ns, Sz n) → ms.map tx = ns.map tx → ms = ns
  | [], [], _, _, _ => rfl
  | [], _ :: _, _, _, h => nomatch h
  | _ :: _, [], _, _, h => nomatch h
  | m :: r, n :: t, hm, hn, h => by
    rw [List.map_cons, List.map_cons] at h
    have h1 := List.cons.inj h
    rw [tx_inj (hm m (.head _)) (hn n (.head _)) h1.1, map_tx_inj (fun x k => hm x (.tail _ k)) (fun x k => hn x (.tail _ k)) h1.2]
theorem isrow_one {f g : Int} {l : Str} {ms ns : List Int} (h1 : IsRow f l ms) (h2 : IsRow g l ns) : ms = ns := by
  by_cases hd : l = ("-" : Str)
  · subst hd
    rw [isrow_dash h1, isrow_dash h2]
  · have e := (isrow_words hd h1).symm.trans (isrow_words hd h2)
    exact map_tx_inj (fun m k => (h1.2.2 m k).1) (fun n k => (h2.2.2 n k).1) e
open Classical in
noncomputable def wid (f : Int) (l : Str) : Int := if h : ∃ ns, IsRow f l ns then (h.choose.length : Int) else -1
theorem wid_row {f : Int} {l : Str} {ns : List Int} (h : IsRow f l ns) : wid f l = (ns.length : Int) := by
  have e : ∃ ns, IsRow f l ns := ⟨ns, h⟩
  unfold wid
  rw [dif_pos e, isrow_one e.choose_spec h]
theorem wid_no {f : Int} {l : Str} (h : ∀ ns, ¬ IsRow f l ns) : wid f l = -1 := by
  unfold wid
  rw [dif_neg fun ⟨ns, e⟩ => h ns e]
theorem wid_cases (f : Int) (l : Str) : (∃ ns, IsRow f l ns ∧ wid f l = (ns.length : Int)) ∨ ((∀ ns, ¬ IsRow f l ns) ∧ wid f l = -1) := by
  by_cases e : ∃ ns, IsRow f l ns
  · obtain ⟨ns, h⟩ := e
    exact .inl ⟨ns, h, wid_row h⟩
  · have h : ∀ ns, ¬ IsRow f l ns := fun ns q => e ⟨ns, q⟩
    exact .inr ⟨h, wid_no h⟩
def spRRowG : Sp := fun vs H Q _ => ∃ (l : Str) (f : Int), vs = [.str l, .int f] ∧ f ∈ fields ∧ LineOk l ∧ (∀ ns, IsRow f l ns → ∀ H' a, Same H H' → H a = none → H' a = some (.lst (ns.map V.int)) → Q (.ref a) H') ∧
  ((∀ ns, ¬ IsRow f l ns) → ∀ H', Same H H' → Q .non H')
theorem all_bools {α : Type} (p : α → Prop) [DecidablePred p] (xs : List α) : (xs.map fun x => decide (p x)).all id = decide (∀ x ∈ xs, p x) := by
  by_cases h : ∀ x ∈ xs, p x
  · rw [decide_eq_true h, List.all_eq_true]
    intro b hb
    obtain ⟨x, hx, rfl⟩ := List.mem_map.mp hb
    exact decide_eq_true (h x hx)
  · rw [decide_eq_false h]
    apply Bool.eq_false_iff.mpr
    intro e
    rw [List.all_eq_true] at e
    refine h fun x hx => ?_
    have := e _ (List.mem_map_of_mem hx)
    exact of_decide_eq_true this
section
variable {P : Program} {w : World} {K : PySem.W.Frag} {mg : Str → Option Value} {base : Heap}
open Classical in
theorem ok_rrowG {f fN : Addr} {fd fdN : FuncData} {tk tk2 : Tok} (F : Fun K "read_row" "read_row" sRRow f fd) (N : Nm mg) (gE : mg "EMPTY_ROW" = some (.str "-" tk)) (gM : mg "MOST_WIDTH" = some (.int 12 tk2))
    (GN : FnOk P w K mg base CX0 1 fN fdN ["word", "field"] spIsNumG) (kN : PySem.W.keepIn K (.ref fN) = true) (bN : Binds K fdN ["word", "field"] []) (gN : mg "is_number" = some (.ref fN)) : FnOk P w K mg base CX0 2 f fd ["line", "field"] spRRowG := by
  refine F.ok scRR (fun vs H Q E h => ?_) (fun cdv A outer s H vs Q E hr h => ?_)
  · obtain ⟨ns, fl, rfl, _⟩ := h
    rfl
  · obtain ⟨l, fl, rfl, hf, hl, kY, kN0⟩ := h
    have nd := scRR.nd
    refine ⟨_, pss_cons (ps_if (pt_cmpR op_eq (pv 0) (pe_glob (v := .str "-") (by rfl) gE ⟨_, rfl⟩) (nomark _)) (pss_one (ps_ret (pe_lst pa_nil))) pss_nil)
      (pss_cons (ps_set (i := 2) nd rfl (.inl rfl) (pe_split (pv 0) pe_str))
      (pss_cons (ps_if (PW.pt (pw_or (pt_cmpR op_gt (pe_callB lenL (by rfl) N.len PySem.boot_len (pa_cons (pv 2) pa_nil)) (pe_glob (v := .int 12) (by rfl) gM ⟨_, rfl⟩) (nomark _))
        (pw_or1 (pt_not (pt_val (pe_callB (cr_all rfl) (by rfl) N.all (by decide +kernel) (pa_cons (pe_lc (own := [("word", 3)]) (g := gName 3) (tt := tYes) rfl nd (pi_list (pv 2))
          (blkOk_by (own := [("word", 3)]) (N := ["line", "field", "words", "word"]) (sc := defScope sRRow) (by decide +kernel)) (fun _ _ _ _ _ => pg_name (i := 3) nd rfl (Or.inl rfl)) (fun _ _ _ _ _ => pts_nil)
          (fun _ _ _ _ _ => pe_call GN hr rfl gN kN bN .nil pass0 (pa_cons (pv 3) (pa_cons (pv 1) pa_nil)))) pa_nil))))))) (pss_one (ps_ret pe_non)) pss_nil)
      (pss_one (ps_ret (pe_lc (own := [("word", 3)]) (g := gName 3) (tt := tYes) rfl nd (pi_list (pv 2))
          (blkOk_by (own := [("word", 3)]) (N := ["line", "field", "words", "word"]) (sc := defScope sRRow) (by decide +kernel)) (fun _ _ _ _ _ => pg_name (i := 3) nd rfl (Or.inl rfl)) (fun _ _ _ _ _ => pts_nil)
          (fun _ _ _ _ _ => pe_callTy call_int_str (by rfl) N.int (by decide +kernel) (pa_cons (pv 3) pa_nil))))))), ?_⟩
    by_cases e : l = ("-" : Str)
    · refine ⟨_, rfl, rfl, _, rfl, ?_⟩
      rw [decide_eq_true (congrArg V.str e)]
      refine iteT ⟨Nat.zero_le _, fun p hp => kY [] (by rw [e]; exact isrow_nil) _ p (same_upd hp) hp upd_same⟩
    · refine ⟨_, rfl, rfl, _, rfl, ?_⟩
      rw [decide_eq_false fun q => e (V.str.inj q)]
      refine iteF ⟨_, rfl, ⟨_, rfl⟩, _, _, rfl, rfl, rfl, Nat.le_trans (Nat.add_le_add_right hl.1 2) (by decide), fun p np => ?_⟩
      have hwl := hl.2
      have of := isrow_of (f := fl) hl
      have nums := fun ns => isrow_nums (f := fl) (ns := ns) e
      have wds := fun ns => isrow_words (f := fl) (ns := ns) e
      generalize hws : Txt.split l (" " : Str) = ws at hwl of nums wds ⊢
      generalize hH1 : upd H p (.lst (ws.map V.str)) = H1
      have s1 : Same H H1 := by rw [← hH1]; exact same_upd np
      have l1 : H1 p = some (.lst (ws.map V.str)) := by rw [← hH1, upd_same]
      refine ⟨_, rfl, p, _, rfl, l1, _, _, rfl, rfl, _, rfl, ?_⟩
      by_cases h12 : ws.length ≤ 12
      · rw [decide_eq_false (show ¬ ((12 : Int) < ((ws.map V.str).length : Int)) by rw [List.length_map]; omega)]
        refine iteF ⟨_, rfl, p, rfl, ⟨_, SqL.of l1⟩, fun D nD => map_listG (ws.map fun w => V.bl (decide (NumF fl w))) (by rw [List.length_map, List.length_map]) l1 nD (by rw [List.length_map]; omega) (fun _ => rfl) ?_ ?_⟩
        · intro j x y H' hx hy sH R hR
          rw [List.getElem?_map] at hx hy
          obtain ⟨w, hw, rfl⟩ := Option.map_eq_some_iff.mp hx
          rw [hw] at hy
          cases hy
          refine ⟨_, rfl, _, rfl, w, fl, rfl, hwl w (List.mem_of_getElem? hw), hf, fun h => ?_, fun h => ?_⟩
          · have q : R (V.bl (decide (NumF fl w))) H' := hR H' same_refl
            rw [decide_eq_true h] at q
            exact q
          · have q : R (V.bl (decide (NumF fl w))) H' := hR H' same_refl
            rw [decide_eq_false h] at q
            exact q
        · intro H2 s2 hD
          refine ⟨D, ws.map fun w => decide (NumF fl w), rfl, SqL.of ?_, ?_⟩
          · rw [hD, List.map_map]
            rfl
          have l2 := s2 _ _ l1
          refine ⟨_, rfl, ?_⟩
          rw [all_bools]
          by_cases ha : ∀ w ∈ ws, NumF fl w
          · obtain ⟨ns, hns, ews⟩ := of h12 ha
            rw [decide_eq_true ha]
            refine iteF ⟨_, rfl, p, rfl, ⟨_, SqL.of l2⟩, fun D2 nD2 => map_listG (ns.map V.int) (by rw [List.length_map, List.length_map, ews, List.length_map]) l2 nD2 (by rw [List.length_map]; omega) (fun _ => rfl) ?_ ?_⟩
            · intro j x y H' hx hy sH R hR
              rw [ews, List.map_map, List.getElem?_map] at hx
              obtain ⟨n, hn, rfl⟩ := Option.map_eq_some_iff.mp hx
              rw [List.getElem?_map, hn] at hy
              cases hy
              have hm := hns.2.2 n (List.mem_of_getElem? hn)
              exact ⟨_, rfl, _, n, rfl, tx_int hm.1, Nat.le_trans (tx_len hm.1) (by decide), hR _ same_refl⟩
            · intro H3 s3 hD3
              exact kY ns hns H3 D2 ((s1.trans s2).trans s3) ((s1.trans s2).free nD2) hD3
          · rw [decide_eq_false ha]
            exact iteT (kN0 (fun ns h => ha (nums ns h).2) _ (s1.trans s2))
      · rw [decide_eq_true (show ((12 : Int) < ((ws.map V.str).length : Int)) by rw [List.length_map]; omega)]
        exact iteT (kN0 (fun ns h => h12 (nums ns h).1) _ s1)
end
/-! ### read_rows, whatever the text is -/
def TextOk (t : Str) : Prop := t.length ≤ 100000 ∧ ∀ l ∈ Txt.split t ("\n" : Str), LineOk l
noncomputable def badAt (f w0 : Int) : Nat → List Str → Option Nat
  | _, [] => none
  | i, l :: r => if wid f l < 0 ∨ 59 < i ∨ wid f l ≠ w0 then some i else badAt f w0 (i + 1) r
/-- o: the number of the first line that cannot stand -/
inductive DueT (t : Str) : Option Int → Prop
  | head (h : ∀ f ∈ fields, ∀ r, Txt.split t ("\n" : Str) ≠ (("field " : Str) ++ tx f) :: r) : DueT t (some 1)
  | rest (f : Int) (r : List Str) (hf : f ∈ fields) (h : Txt.split t ("\n" : Str) = (("field " : Str) ++ tx f) :: r) : DueT t ((badAt f (wid f (r.headD "")) 0 r).map fun (k : Nat) => (k : Int) + 2)
theorem dueT_is (t : Str) : ∃ o, DueT t o := by
  by_cases h : ∃ f ∈ fields, ∃ r, Txt.split t ("\n" : Str) = (("field " : Str) ++ tx f) :: r
  · obtain ⟨f, hf, r, e⟩ := h
    exact ⟨_, .rest f r hf e⟩
  · exact ⟨_, .head fun f hf r e => h ⟨f, hf, r, e⟩⟩
theorem field_inj {f g : Int} (hf : f ∈ fields) (hg : g ∈ fields) (h : ("field " : Str) ++ tx f = ("field " : Str) ++ tx g) : f = g := by
  have h2 : TL.tl (("field " : Str) ++ tx f) = TL.tl (("field " : Str) ++ tx g) := by rw [h]
  rw [TL.tl_append, TL.tl_append] at h2
  exact tx_inj (fields_sz hf) (fields_sz hg) (TL.ext_tl (List.append_cancel_left h2))
theorem dueT_one {t : Str} {o u : Option Int} (h1 : DueT t o) (h2 : DueT t u) : o = u := by
  cases h1 with
  | head h =>
    cases h2 with
    | head _ => rfl
    | rest f r hf e => exact absurd e (h f hf r)
  | rest f r hf e =>
    cases h2 with
    | head h => exact absurd e (h f hf r)
    | rest g q hg e2 =>
      rw [e] at e2
      obtain ⟨a, rfl⟩ := List.cons.inj e2
      rw [field_inj hf hg a]
theorem badAt_drop {f w0 : Int} {rest : List Str} {i : Nat} {l : Str} (h : rest[i]? = some l) (hb : badAt f w0 i (rest.drop i) = badAt f w0 0 rest) (hg : ¬ (wid f l < 0 ∨ 59 < i ∨ wid f l ≠ w0)) :
    badAt f w0 (i + 1) (rest.drop (i + 1)) = badAt f w0 0 rest := by
  obtain ⟨hi, e⟩ := List.getElem?_eq_some_iff.mp h
  rw [List.drop_eq_getElem_cons hi, e, badAt, if_neg hg] at hb
  exact hb
theorem badAt_hit {f w0 : Int} {rest : List Str} {i : Nat} {l : Str} (h : rest[i]? = some l) (hb : badAt f w0 i (rest.drop i) = badAt f w0 0 rest) (hg : wid f l < 0 ∨ 59 < i ∨ wid f l ≠ w0) :
    badAt f w0 0 rest = some i := by
  obtain ⟨hi, e⟩ := List.getElem?_eq_some_iff.mp h
  rw [List.drop_eq_getElem_cons hi, e, badAt, if_pos hg] at hb
  exact hb.symm
def spRRowsG (CB : Addr) : Sp := fun vs H Q E => ∃ (t : Str) (o : Option Int), vs = [.str t] ∧ TextOk t ∧ DueT t o ∧
  (o = none → ∀ (f : Int) (wd : Nat) (nss : List (List Int)), t = tabText f nss → f ∈ fields → nss.length ≤ 60 → (∀ ns ∈ nss, InF f ns ∧ ns.length = wd) →
    ∀ H' p R ts, Same H H' → H' p = some (.tup [.ref R, .int f]) → H' R = some (.lst (ts.map V.ref)) → RowsAt H' wd ts nss → H p = none → H R = none → (∀ t ∈ ts, H t = none) → Q (.ref p) H') ∧
  (∀ k, o = some k → ∀ H' d, Same H H' → H d = none → H' d = some (.xd [("line", .int k)]) → E (.ref CB) (some d) H')
section
variable {P : Program} {w : World} {K : PySem.W.Frag} {mg : Str → Option Value} {base : Heap}
open Classical in
theorem ok_rrowsG {f fR aF CB fB : Addr} {fd fdR fdB : FuncData} {tk : Tok} (F : Fun K "read_rows" "read_rows" sRRows f fd) (N : Nm mg) (gM : mg "MOST_ROWS" = some (.int 60 tk)) (gF : mg "FIELDS" = some (.ref aF)) (tF : ∀ H, SqT K H aF (fields.map V.int))
    (MB : Made K P mg "BadText" "line" CB fB fdB)
    (GR : FnOk P w K mg base CX0 2 fR fdR ["line", "field"] spRRowG) (kR : PySem.W.keepIn K (.ref fR) = true) (bR : Binds K fdR ["line", "field"] []) (gR : mg "read_row" = some (.ref fR)) : FnOk P w K mg base (L2.CX P w) 3 f fd ["text"] (spRRowsG CB) := by
  refine F.okX scRS (fun vs H Q E h => ?_) (fun cdv A outer s H vs Q E hr h => ?_)
  · obtain ⟨t, o, rfl, _⟩ := h
    rfl
  · obtain ⟨txt, o, rfl, ⟨htl, hlo⟩, hdue, kY, kE⟩ := h
    have nd := scRS.nd
    have hr1 : Room 1 _ := hr.mono (by decide)
    refine ⟨_, pss_cons (ps_set (i := 1) nd rfl (.inl rfl) (pe_split (pv 0) pe_str))
      (pss_cons (ps_if (pt_cmpR op_notIn_seq (pe_ix ixL (pv 1) pe_int (fun _ _ => rfl)) (pe_lc (own := [("field", 2)]) (g := gName 2) (tt := tYes) rfl nd (pi_tup (pe_glob (v := .ref aF) (by rfl) gF rfl))
          (blkOk_by (own := [("field", 2)]) (N := ["text", "lines", "field", "rows", "number", "line", "row"]) (sc := defScope sRRows) (by decide +kernel)) (fun _ _ _ _ _ => pg_name (i := 2) nd rfl (Or.inl rfl)) (fun _ _ _ _ _ => pts_nil)
          (fun _ _ _ _ _ => pe_joined (.cons pe_str (.cons (pe_fmt (pv 2)) .nil)))) (by rfl)) (pss_one (ps_raiseM MB hr1 rfl (takes_of rfl rfl rfl rfl) (by rfl) pe_int)) pss_nil)
      (pss_cons (ps_set (i := 2) nd rfl (.inl rfl) (pe_callTy call_int_str (by rfl) N.int (by decide +kernel) (pa_cons (pe_slice sl_str (pe_ix ixL (pv 1) pe_int (fun _ _ => rfl)) (po_some (pe_callB call_len_str (by rfl) N.len PySem.boot_len (pa_cons pe_str pa_nil))) po_none) pa_nil)))
      (pss_cons (ps_set (i := 3) nd rfl (.inl rfl) (pe_lst pa_nil))
      (pss_cons (ps_for (passes_of rfl) rfl (pi_ctd (by rfl) N.enum (pa_cons (pe_slice sl_list (pv 1) (po_some pe_int) po_none) pa_nil) (pk_cons pe_int pk_nil)) (pg_tup rfl (pgs_cons (pg_name (i := 4) nd rfl (.inl rfl)) (pgs_cons (pg_name (i := 5) nd rfl (.inl rfl)) pgs_nil)))
        (pss_cons (ps_set (i := 6) nd rfl (.inl rfl) (pe_call GR hr rfl gR kR bR .nil pass0 (pa_cons (pv 5) (pa_cons (pv 2) pa_nil))))
        (pss_cons (ps_if (PW.pt (pw_or (pt_cmpR op_isN (pv 6) pe_non (nomark _)) (pw_or1 (pt_cmpR op_eq (pe_callB lenL (by rfl) N.len PySem.boot_len (pa_cons (pv 3) pa_nil)) (pe_glob (v := .int 60) (by rfl) gM ⟨_, rfl⟩) (nomark _)))))
            (pss_one (ps_raiseM MB hr1 rfl (takes_of rfl rfl rfl rfl) (by rfl) (pv 4))) pss_nil)
        (pss_cons (ps_if (PW.pt (pw_and (pt_cmpR op_gt (pe_callB lenL (by rfl) N.len PySem.boot_len (pa_cons (pv 3) pa_nil)) pe_int (nomark _)) (pw_and1 (pt_cmpR op_ne (pe_callB lenL (by rfl) N.len PySem.boot_len (pa_cons (pv 6) pa_nil))
            (pe_callB lenL (by rfl) N.len PySem.boot_len (pa_cons (pe_ix ixL (pv 3) pe_int (fun _ _ => rfl)) pa_nil)) (nomark _)))))
            (pss_one (ps_raiseM MB hr1 rfl (takes_of rfl rfl rfl rfl) (by rfl) (pv 4))) pss_nil)
        (pss_one (ps_expr (pe_bm PySem.F.plainAttrs_list PySem.F.slot_list_append PySem.F.type_list_append mt_append (pv 3) (pa_cons (pv 6) pa_nil))))))))
      (pss_one (ps_ret (pe_tup (pa_cons (pv 3) (pa_cons (pv 2) pa_nil))))))))), ?_⟩
    refine ⟨_, rfl, ⟨_, rfl⟩, _, _, rfl, rfl, rfl, Nat.le_trans (Nat.add_le_add_right htl 2) (by decide), fun l nl => ?_⟩
    have hjb := join_back txt ("\n" : Str)
    have hne := split_ne (x := txt) (y := ("\n" : Str)) (by decide +kernel) (by decide +kernel)
    have dH : ∀ {q : Option Int}, DueT txt q → q = o := fun h => dueT_one h hdue
    have dh := fun h => dH (.head h)
    have dr := fun f r hf h => dH (.rest f r hf h)
    generalize Txt.split txt ("\n" : Str) = ls at hlo hjb hne dh dr ⊢
    obtain ⟨l0, rest, rfl⟩ := List.exists_cons_of_ne_nil hne
    generalize hH1 : upd H l (.lst ((l0 :: rest).map V.str)) = H1
    have s1 : Same H H1 := by rw [← hH1]; exact same_upd nl
    have l1 : H1 l = some (.lst ((l0 :: rest).map V.str)) := by rw [← hH1, upd_same]
    have a0 : atI ((l0 :: rest).map V.str) 0 = some (.str l0) := at0
    refine ⟨_, rfl, l, 0, _, _, rfl, rfl, l1, a0, aF, rfl, ⟨_, tF H1⟩, fun D nD => map_tupS (a := aF) (xs := fields.map V.int) (te := fun σ H Q => tJs [tC (V.str (Str.ofString "field ")), tFmt (tVar 2)] Str.empty σ H fun out H1 => Q (V.str out) H1) (fields.map fun j => V.str (("field " : Str) ++ tx j)) (by rw [List.length_map, List.length_map]) (by exact fun H _ => tF H) nD (by decide) (fun _ => rfl) ?_ ?_⟩
    · intro j x y H' hx hy sH R hR
      rw [List.getElem?_map] at hx hy
      obtain ⟨i, hi, rfl⟩ := Option.map_eq_some_iff.mp hx
      rw [hi] at hy
      cases hy
      have si := fields_sz (List.mem_of_getElem? hi)
      have el : Str.empty ++ Str.ofString "field " ++ Str.ofString (toString i) = ("field " : Str) ++ tx i := by
        apply TL.ext_tl
        rw [TL.tl_append, TL.tl_append, TL.tl_append]
        rfl
      refine ⟨_, rfl, Nat.le_of_ble_eq_true rfl, _, rfl, .inr ⟨_, rfl, si.log, _, rfl, ?_, ?_⟩⟩
      · rw [el]
        have h5 : (("field " : Str) ++ tx i).length = 6 + (tx i).length := by
          rw [TL.len_tl, TL.tl_append, List.length_append, ← TL.len_tl, ← TL.len_tl]
          rfl
        have := tx_len si
        rw [h5]
        exact Nat.le_trans (by omega : _ ≤ 100000) (by decide)
      · rw [el]
        exact hR _ same_refl
    · intro H2 s2 hD
      refine ⟨D, _, rfl, .inl (SqL.of hD), rfl, by rw [List.all_map]; rfl, ?_⟩
      refine ⟨_, rfl, ?_⟩
      rw [if_pos rfl]
      by_cases hh : ∃ f ∈ fields, l0 = ("field " : Str) ++ tx f
      rotate_left
      · -- no field
        have hin : inV (.str l0) (fields.map fun j => V.str (("field " : Str) ++ tx j)) = false := by
          apply Bool.eq_false_iff.mpr
          intro e
          obtain ⟨y, hy, e2⟩ := List.any_eq_true.mp e
          obtain ⟨j, hj, rfl⟩ := List.mem_map.mp hy
          refine hh ⟨j, hj, ?_⟩
          have e3 : (("field " : Str) ++ tx j == l0) = true := e2
          first
            | exact (beq_iff_eq.mp e3).symm
            | exact beq_iff_eq.mp e3
        rw [hin]
        refine iteT (raise_in MB.of fun d hd => ?_)
        have eo : o = some 1 := (dh fun f hf r e => hh ⟨f, hf, (List.cons.inj e).1⟩).symm
        exact kE 1 eo _ d ((s1.trans s2).trans (same_upd hd)) ((s1.trans s2).free hd) upd_same
      obtain ⟨fl, hf, rfl⟩ := hh
      have hdr := dr fl rest hf rfl
      have hin : inV (.str (("field " : Str) ++ tx fl)) (fields.map fun j => V.str (("field " : Str) ++ tx j)) = true :=
        List.any_eq_true.mpr ⟨_, List.mem_map_of_mem hf, by
          show (("field " : Str) ++ tx fl == ("field " : Str) ++ tx fl) = true
          simp⟩
      rw [hin]
      have l2 := s2 _ _ l1
      have h5 : (("field " : Str) ++ tx fl).length = 6 + (tx fl).length := by
        rw [TL.len_tl, TL.tl_append, List.length_append, ← TL.len_tl, ← TL.len_tl]
        rfl
      have h6 := tx_len (fields_sz hf)
      have hc : cutS (("field " : Str) ++ tx fl) (some ((("field " : Str).length : Nat) : Int)) none = tx fl := cut_front _ _
      refine iteF ⟨_, rfl, l, 0, _, _, rfl, rfl, l2, a0, _, rfl, Nat.le_of_ble_eq_true rfl, _, rfl, _, rfl, Nat.le_trans (by omega : _ ≤ 100000) (by decide), ?_⟩
      rw [hc]
      refine ⟨_, fl, rfl, tx_int (fields_sz hf), by omega, ?_⟩
      refine ⟨Nat.zero_le _, fun R nR => ?_⟩
      generalize hH3 : upd H2 R (.lst (([] : List V))) = H3
      have s3 : Same H2 H3 := by rw [← hH3]; exact same_upd nR
      have R3 : H3 R = some (.lst []) := by rw [← hH3, upd_same]
      have l3 := s3 _ _ l2
      have hcv : cutV (((("field " : Str) ++ tx fl) :: rest).map V.str) (some 1) none = rest.map V.str := by
        rw [List.map_cons]
        generalize rest.map V.str = ys
        simp [cutV, HT.sIx]
      have nRH : H R = none := (s1.trans s2).free nR
      refine ⟨_, rfl, _, rfl, l, _, rfl, SqL.of l3, fun S nS => ?_⟩
      rw [hcv]
      generalize hH4 : upd H3 S (.lst (rest.map V.str)) = H4
      have s4 : Same H3 H4 := by rw [← hH4]; exact same_upd nS
      have S4 : H4 S = some (.lst (rest.map V.str)) := by rw [← hH4, upd_same]
      have R4 := s4 _ _ R3
      have nSR : S ≠ R := fun e => by
        rw [e, R3] at nS
        cases nS
      have sH4 : Same H H4 := ((s1.trans s2).trans s3).trans s4
      generalize hw0 : wid fl (rest.headD "") = w0 at hdr
      have first0 : ∀ {x : Str}, rest[0]? = some x → wid fl x = w0 := by
        intro x hx
        cases rest with
        | nil => cases hx
        | cons a b =>
          cases hx
          exact hw0
      refine ⟨S, _, 2, rfl, rfl, by decide, by decide, SqL.of S4, for_ctd (fun i σ G => ∃ (u v x : Option V) (ts : List Addr) (nss : List (List Int)), σ = [some (.str txt), some (.ref l), some (.int fl), some (.ref R), u, v, x] ∧ But R H4 G ∧ G R = some (.lst (ts.map V.ref)) ∧
          Paired (fun t ns => G t = some (.lst (ns.map V.int)) ∧ (ns.length : Int) = w0) ts nss ∧ Paired (fun x ns => IsRow fl x ns) (rest.take i) nss ∧ i ≤ 60 ∧ badAt fl w0 i (rest.drop i) = badAt fl w0 0 rest ∧ ∀ t ∈ ts, t ≠ R ∧ H t = none)
        ⟨none, none, none, [], [], rfl, fun b u _ e => e, R4, .nil, .nil, by decide, rfl, fun _ h => nomatch h⟩ (fun i σ G _ ⟨_, _, _, _, _, _, b, _⟩ => SqL.of (b _ _ nSR S4)) ?_ ?_⟩
      · rintro i x T σ G hx ⟨u, v, x2, ts, nss, rfl, bG, GR0, hts, hrs, hi60, hbad, htR⟩ nT
        rw [List.getElem?_map] at hx
        obtain ⟨ln, hln, rfl⟩ := Option.map_eq_some_iff.mp hx
        have hil := (List.getElem?_eq_some_iff.mp hln).1
        have nlen : nss.length = i := by
          have := Paired.length hrs
          rw [List.length_take] at this
          omega
        have tlen : ts.length = i := (Paired.length hts).trans nlen
        have sT : Same G (upd G T (.tup [.int (2 + (i : Nat)), .str ln])) := same_upd nT
        refine ⟨T, [.int (2 + (i : Nat)), .str ln], rfl, .inl (.inl upd_same), rfl, .int (2 + (i : Nat)), [.str ln], rfl, .str ln, [], rfl, rfl, ?_⟩
        have sHG : Same H G := fun b u e => bG b u (fun e2 => by
          rw [e2, nRH] at e
          cases e) (sH4 b u e)
        have err : ∀ (G2 : Hp) (d : Addr), Same G G2 → G2 d = none → (wid fl ln < 0 ∨ 59 < i ∨ wid fl ln ≠ w0) → E (.ref CB) (some d) (upd G2 d (.xd [("line", .int (2 + (i : Nat)))])) := by
          intro G2 d sG nd2 hb
          have hh := badAt_hit hln hbad hb
          rw [hh] at hdr
          refine kE (2 + (i : Nat)) ?_ _ d ((sHG.trans sG).trans (same_upd nd2)) ((sHG.trans sG).free nd2) upd_same
          rw [← hdr]
          show some ((i : Int) + 2) = some (2 + (i : Int))
          congr 1
          omega
        refine ⟨_, rfl, _, rfl, ln, fl, rfl, hf, hlo ln (.tail _ (List.mem_of_getElem? hln)), fun ns hns G2 t s5 nt ht => ?_, fun hno G2 s5 => ?_⟩
        rotate_left
        · refine ⟨_, rfl, rfl, _, rfl, iteT (iteT ⟨_, rfl, raise_in MB.of fun d hd => err _ d (sT.trans s5) hd (.inl ?_)⟩)⟩
          rw [wid_no hno]
          decide
        have hwid := wid_row hns
        have sG : Same G G2 := sT.trans s5
        have GR2 := sG _ _ GR0
        have ntR : t ≠ R := fun e => by
          have h := sT _ _ GR0
          rw [← e] at h
          exact absurd (h.symm.trans nt) (by simp)
        have nG2 : G2 t = some (.lst (ns.map V.int)) := ht
        refine ⟨_, rfl, rfl, _, rfl, iteF ?_⟩
        refine ⟨_, rfl, R, _, rfl, GR2, rfl, _, rfl, ?_⟩
        by_cases h60 : i = 60
        · rw [decide_eq_true (show V.int (((ts.map V.ref).length : Nat) : Int) = V.int 60 by rw [List.length_map, tlen, h60]; rfl)]
          exact iteT ⟨_, rfl, raise_in MB.of fun d hd => err _ d sG hd (.inr (.inl (by omega)))⟩
        rw [decide_eq_false (show ¬ V.int (((ts.map V.ref).length : Nat) : Int) = V.int 60 by
          intro e
          have := V.int.inj e
          rw [List.length_map, tlen] at this
          omega)]
        refine iteF ?_
        generalize hG3 : upd G2 R (.lst (ts.map V.ref ++ [.ref t])) = G3
        have R6 : G3 R = some (.lst ((ts ++ [t]).map V.ref)) := by
          rw [← hG3, upd_same, List.map_append]
          rfl
        have b6 : But R G2 G3 := by rw [← hG3]; exact But.upd
        have last : wid fl ln = w0 → But R H4 G3 ∧ G3 R = some (.lst ((ts ++ [t]).map V.ref)) ∧ Paired (fun t ns => G3 t = some (.lst (ns.map V.int)) ∧ (ns.length : Int) = w0) (ts ++ [t]) (nss ++ [ns]) ∧ Paired (fun x ns => IsRow fl x ns) (rest.take (i + 1)) (nss ++ [ns]) ∧ i + 1 ≤ 60 ∧
            badAt fl w0 (i + 1) (rest.drop (i + 1)) = badAt fl w0 0 rest ∧ ∀ x ∈ ts ++ [t], x ≠ R ∧ H x = none := by
          intro hw
          refine ⟨(bG.trans (But.same sG)).trans b6, R6, ?_, ?_, by omega, badAt_drop hln hbad ?_, ?_⟩
          · exact Paired.snoc (Paired.keepMem hts fun x m ns h => ⟨b6 _ _ (htR x m).1 (sG _ _ h.1), h.2⟩) ⟨b6 _ _ ntR nG2, by rw [← hwid]; exact hw⟩
          · rw [List.take_succ, hln]
            exact Paired.snoc hrs hns
          · rw [hwid, ← hw, hwid]
            omega
          · intro x m
            rcases List.mem_append.mp m with m | m
            · exact htR x m
            · rw [List.mem_singleton.mp m]
              exact ⟨ntR, (sHG.trans sT).free nt⟩
        have hsz : (ts.map V.ref).length < sizeLine := by
          rw [List.length_map, tlen]
          exact Nat.lt_of_lt_of_le (by omega : _ < 61) (by decide)
        by_cases i0 : i = 0
        · subst i0
          refine ⟨_, rfl, R, _, rfl, GR2, _, _, rfl, rfl, _, rfl, ?_⟩
          rw [decide_eq_false (by rw [List.length_map, tlen]; omega)]
          refine iteF ⟨_, rfl, .inl ⟨rfl, _, SqL.of GR2⟩, _, rfl, R, _, _, rfl, rfl, GR2, hsz, ?_⟩
          rw [hG3]
          exact ⟨_, _, _, ts ++ [t], nss ++ [ns], rfl, last (first0 hln)⟩
        · refine ⟨_, rfl, R, _, rfl, GR2, _, _, rfl, rfl, _, rfl, ?_⟩
          rw [decide_eq_true (by rw [List.length_map, tlen]; omega)]
          obtain ⟨t0, h00⟩ : ∃ t0, ts[0]? = some t0 := ⟨ts[0]'(by omega), List.getElem?_eq_getElem _⟩
          obtain ⟨n0, hn0, hrow0, hlen0⟩ := paired_get hts h00
          refine iteT ⟨_, rfl, t, _, rfl, nG2, _, rfl, R, 0, _, .ref t0, rfl, rfl, GR2, atI_nat (j := 0) (by rw [List.getElem?_map, h00]; rfl), t0, _, rfl, sG _ _ hrow0, rfl, _, rfl, ?_⟩
          by_cases hw : wid fl ln = w0
          · rw [decide_eq_true (show V.int (((ns.map V.int).length : Nat) : Int) = V.int (((n0.map V.int).length : Nat) : Int) by rw [List.length_map, List.length_map, hlen0, ← hw, hwid])]
            refine iteF ⟨_, rfl, .inl ⟨rfl, _, SqL.of GR2⟩, _, rfl, R, _, _, rfl, rfl, GR2, hsz, ?_⟩
            rw [hG3]
            exact ⟨_, _, _, ts ++ [t], nss ++ [ns], rfl, last hw⟩
          · rw [decide_eq_false (show ¬ V.int (((ns.map V.int).length : Nat) : Int) = V.int (((n0.map V.int).length : Nat) : Int) by
              intro e
              have := V.int.inj e
              rw [List.length_map, List.length_map, hlen0] at this
              exact hw (hwid.trans this))]
            exact iteT ⟨_, rfl, raise_in MB.of fun d hd => err _ d sG hd (.inr (.inr hw))⟩
      · rintro σ G ⟨u, v, x2, ts, nss, rfl, bG, GR0, hts, hrs, hi60, hbad, htR⟩
        have sHG : Same H G := fun b u e => bG b u (fun e2 => by
          rw [e2, nRH] at e
          cases e) (sH4 b u e)
        rw [List.length_map] at hbad hi60
        rw [List.length_map, List.take_length] at hrs
        rw [List.drop_length] at hbad
        have hnone : badAt fl w0 0 rest = none := hbad.symm
        rw [hnone] at hdr
        have et : ∀ {xs : List Str} {mss : List (List Int)}, Paired (fun x ns => IsRow fl x ns) xs mss → xs = mss.map rowText := by
          intro xs mss h
          induction h with
          | nil => rfl
          | cons h _ ih => rw [List.map_cons, ← h.1, ← ih]
        have htab : txt = tabText fl nss := by
          rw [← hjb, et hrs]
          rfl
        refine ⟨_, rfl, _, rfl, Nat.le_of_ble_eq_true rfl, fun p np => ?_⟩
        have sp := same_upd np (o := .tup [.ref R, .int fl])
        have hl60 : nss.length ≤ 60 := by
          rw [← Paired.length hrs]
          exact hi60
        have hin2 : ∀ ns ∈ nss, InF fl ns ∧ ns.length = w0.toNat := by
          intro ns m
          obtain ⟨x, _, h1⟩ := paired_memR hrs m
          obtain ⟨y, _, h2⟩ := paired_memR hts m
          refine ⟨⟨h1.2.1, fun n k => h1.2.2 n k⟩, ?_⟩
          have := h2.2
          omega
        exact kY hdr.symm fl w0.toNat nss htab hf hl60 hin2 _ p R ts (sHG.trans sp) upd_same (sp _ _ GR0) (Paired.keepMem hts fun x m ns h => ⟨.inl (sp _ _ h.1), by have := h.2; omega⟩) (sHG.free np) nRH fun t m => (htR t m).2
end
/-! ### == of tables, their text, a table parsed -/
abbrev sEq : Stmt := inClass (top 24) 4
abbrev sText : Stmt := inClass (top 24) 10
abbrev sParse : Stmt := inClass (top 24) 11
def tellN (f : Int) (nss : List (List Int)) : List (List Int) := nss.map fun ns => ns.map (tell f)
theorem ToldAt.tups {H : Hp} {f : Int} : ∀ {ts : List Addr} {nss : List (List Int)}, ToldAt H f ts nss → TupsAt H ts (tellN f nss)
  | _, _, .nil => .nil
  | _, _, .cons h t => .cons h (ToldAt.tups t)
structure RIs (K : PySem.W.Frag) (C : Addr) : Prop where
  cl : Cls K C
  ha : PySem.W.findIn K (.ref C) "__class__" = some (some (.builtin "object.__class__"))
  hn : PySem.W.specialIn K (.builtin "object.__class__") "__get__" = some (some (.builtin "getset_descriptor.__get__"))
  tk : PySem.W.takesIn K (.builtin "object.__class__") = some true
  hm : PySem.W.mroIn K C (.type "object") = some true
theorem RIs.ty {K : PySem.W.Frag} {C a dx : Addr} {H : Hp} {fs : List (Str × V)} (R : RIs K C) (h : H a = some (.ins C dx fs)) : TyX K H (.ref a) (.ref C) := .base (.ins h R.cl R.ha R.hn R.tk R.hm)
def REq (C : Addr) (a b : Addr) (H : Hp) (r : Bool) : Prop := ∃ f nss g mss, TabAt C H a f nss ∧ TabAt C H b g mss ∧ r = (decide (f = g) && decide (tellN f nss = tellN g mss))
theorem tell_sz {f n : Int} (hf : f ∈ fields) (h : Sz n) : Sz (tell f n) := by
  have := fields_ge hf
  unfold tell
  split
  · exact h
  · have h1 := Int.emod_nonneg n (b := f) (by assumption)
    have h2 := Int.emod_lt_of_pos n (b := f) (by omega)
    show (n % f).natAbs < 10 ^ 60
    omega
theorem tell_in {f n : Int} (hf : f ∈ fields) (h : f ≠ 0) : 0 ≤ tell f n ∧ tell f n < f := by
  have := fields_ge hf
  unfold tell
  rw [if_neg h]
  exact ⟨Int.emod_nonneg n h, Int.emod_lt_of_pos n (by omega)⟩
theorem tell_tell {f n : Int} : tell f (tell f n) = tell f n := by
  unfold tell
  split
  · rfl
  · exact Int.emod_emod_of_dvd n (Int.dvd_refl f)
theorem tellN_tellN {f : Int} {nss : List (List Int)} : tellN f (tellN f nss) = tellN f nss := by
  unfold tellN
  rw [List.map_map]
  refine List.map_congr_left fun ns _ => ?_
  rw [Function.comp, List.map_map]
  exact List.map_congr_left fun n _ => tell_tell
/-- what a table's rows are made of -/
def Good (f : Int) (nss : List (List Int)) : Prop := f ∈ fields ∧ nss.length ≤ 60 ∧ ∃ wd, wd ≤ 12 ∧ ∀ ns ∈ nss, ns.length = wd ∧ ∀ n ∈ ns, Sz n
def spText (C : Addr) : Sp := fun vs H Q _ => ∃ p f nss, vs = [.ref p] ∧ TabAt C H p f nss ∧ Good f nss ∧ ∀ H', Same H H' → Q (.str (tabText f (tellN f nss))) H'
/-- C.parse(text) -/
def spParse (C : Addr) : Sp := fun vs H Q _ => ∃ f nss, vs = [.ref C, .str (tabText f (tellN f nss))] ∧ Good f nss ∧ ∀ H' p, Same H H' → H p = none → TabAt C H' p f (tellN f nss) → Q (.ref p) H'
section
variable {P : Program} {w : World} {K : PySem.W.Frag} {mg : Str → Option Value} {base : Heap}
theorem scEq : FnScope ["self", "other"] ["self", "other"] (defScope sEq) := ⟨rfl, rfl, rfl, by decide +kernel, rfl, by decide +kernel, by decide +kernel⟩
theorem ok_eq {f C : Addr} {fd : FuncData} (F : Fun K "__eq__" "Rows.__eq__" sEq f fd) (N : Nm mg) (T : RTxt K mg C) (R : RIs K C) : FnOk P w K mg base CX0 1 f fd ["self", "other"] (spEqB (REq C)) := by
  refine F.ok scEq (fun vs H Q E h => ?_) (fun cdv A outer s H vs Q E hr h => ?_)
  · obtain ⟨a, b, r, rfl, _⟩ := h
    rfl
  · obtain ⟨a, b, r, rfl, ⟨fl, nss, g, mss, ⟨dx, t, ts, hA, hT, hts⟩, ⟨dy, u, us, hB, hU, hus⟩, rfl⟩, k⟩ := h
    refine ⟨_, pss_one (ps_ret (pe_and (pe_callB call_isi (by rfl) N.isin (by decide +kernel) (pa_cons (pv 1) (pa_cons (pe_glob (v := V.ref C) (by rfl) T.mgC rfl) pa_nil)))
      (pe_and (pe_cmpR op_eq (pe_fld (pv 0) rfl) (pe_fld (pv 1) rfl) (nomark _)) (pe_one (pe_cmpR (op_eqD hr.units) (pe_fld (pv 0) rfl) (pe_fld (pv 1) rfl) (nomark _)))))), ?_⟩
    refine ⟨_, rfl, _, _, _, _, true, rfl, .own C, R.ty hB, kitOne_same, true, rfl, iteT ?_⟩
    refine ⟨_, rfl, a, C, dx, _, _, rfl, hA, T.cl, T.nF, rfl, _, rfl, b, C, dy, _, _, rfl, hB, T.cl, T.nF, rfl, rfl, _, rfl, ?_⟩
    by_cases e : fl = g
    · rw [decide_eq_true (congrArg V.int e)]
      refine iteT ⟨_, rfl, a, C, dx, _, _, rfl, hA, T.cl, T.nR, rfl, _, rfl, b, C, dy, _, _, rfl, hB, T.cl, T.nR, rfl, tabD (tellN fl nss), tabD (tellN g mss), dp_tab hT hts.tups, dp_tab hU hus.tups, shaped_tab _, shaped_tab _, ?_⟩
      rw [eqv_tab]
      have q := k H same_refl
      rw [decide_eq_true e, Bool.true_and] at q
      exact q
    · rw [decide_eq_false fun h => e (V.int.inj h)]
      have q := k H same_refl
      rw [decide_eq_false e, Bool.false_and] at q
      exact iteF q
theorem scTx : FnScope ["self"] ["self"] (defScope sText) := ⟨rfl, rfl, rfl, by decide +kernel, rfl, by decide +kernel, by decide +kernel⟩
theorem ok_text {f fW C : Addr} {fd fdW : FuncData} (F : Fun K "text" "Rows.text" sText f fd) (T : RTxt K mg C)
    (GW : FnOk P w K mg base CX0 2 fW fdW ["rows", "field"] spWRows) (kW : PySem.W.keepIn K (.ref fW) = true) (bW : Binds K fdW ["rows", "field"] []) (gW : mg "write_rows" = some (.ref fW)) : FnOk P w K mg base CX0 3 f fd ["self"] (spText C) := by
  refine F.ok scTx (fun vs H Q E h => ?_) (fun cdv A outer s H vs Q E hr h => ?_)
  · obtain ⟨p, fl, nss, rfl, _⟩ := h
    rfl
  · obtain ⟨p, fl, nss, rfl, ⟨dx, t, ts, hA, hT, hts⟩, ⟨hf, hl, wd, hw, hz⟩, k⟩ := h
    refine ⟨_, pss_one (ps_ret (pe_call GW hr rfl gW kW bW .nil pass0 (pa_cons (pe_fld (pv 0) rfl) (pa_cons (pe_fld (pv 0) rfl) pa_nil)))), ?_⟩
    have tt := hts.tups
    refine ⟨_, rfl, p, C, dx, _, _, rfl, hA, T.cl, T.nR, rfl, _, rfl, p, C, dx, _, _, rfl, hA, T.cl, T.nF, rfl, t, fl, ts, tellN fl nss, rfl, hT, tt, ?_, hf, ?_, k⟩
    · have e := Paired.length hts
      omega
    · intro ns m
      obtain ⟨ms, hm, rfl⟩ := List.mem_map.mp m
      have := hz ms hm
      refine ⟨by rw [List.length_map]; omega, fun n h => ?_⟩
      obtain ⟨j, hj, rfl⟩ := List.mem_map.mp h
      exact tell_sz hf (this.2 j hj)
theorem scPa : FnScope ["cls", "text", "rows", "field"] ["cls", "text"] (defScope sParse) := ⟨rfl, rfl, rfl, by decide +kernel, rfl, by decide +kernel, by decide +kernel⟩
theorem ok_parse {f fR fI C : Addr} {fd fdR fdI : FuncData} (F : Fun K "parse" "Rows.parse" sParse f fd) (M : Mk K C fI)
    (GR : FnOk P w K mg base CX0 3 fR fdR ["text"] spRRows) (kR : PySem.W.keepIn K (.ref fR) = true) (bR : Binds K fdR ["text"] []) (gR : mg "read_rows" = some (.ref fR))
    (GI : FnOk P w K mg base CX0 4 fI fdI ["self", "rows", "field"] (spInit0 C)) (bI : Binds K fdI ["self", "rows", "field"] []) : FnOk P w K mg base CX0 6 f fd ["cls", "text"] (spParse C) := by
  refine F.ok scPa (fun vs H Q E h => ?_) (fun cdv A outer s H vs Q E hr h => ?_)
  · obtain ⟨fl, nss, rfl, _⟩ := h
    rfl
  · obtain ⟨fl, nss, rfl, ⟨hf, hl, wd, hw, hz⟩, k⟩ := h
    have nd := scPa.nd
    have hr3 : Room 3 _ := hr.mono (by decide)
    refine ⟨_, pss_cons (ps_asg (pe_call GR hr3 rfl gR kR bR .nil pass0 (pa_cons (pv 1) pa_nil)) (pg_tup rfl (pgs_cons (pg_name (i := 2) nd rfl (.inl rfl)) (pgs_cons (pg_name (i := 3) nd rfl (.inl rfl)) pgs_nil))))
      (pss_one (ps_ret (pe_makeAt (i := 0) M GI hr bI .nil pass0 rfl (.inl rfl) (pa_cons (pv 2) (pa_cons (pv 3) pa_nil))))), ?_⟩
    have hz2 : ∀ ns ∈ tellN fl nss, InF fl ns ∧ ns.length = wd := by
      intro ns m
      obtain ⟨ms, hm, rfl⟩ := List.mem_map.mp m
      have h := hz ms hm
      refine ⟨⟨by rw [List.length_map]; omega, fun n h2 => ?_⟩, by rw [List.length_map]; exact h.1⟩
      obtain ⟨j, hj, rfl⟩ := List.mem_map.mp h2
      exact ⟨tell_sz hf (h.2 j hj), tell_in hf⟩
    have hl2 : (tellN fl nss).length ≤ 60 := by
      unfold tellN
      rw [List.length_map]
      exact hl
    refine ⟨_, rfl, fl, wd, tellN fl nss, rfl, hf, hl2, hz2, fun H1 p R ts s1 hp hR hts np nR nts => ?_⟩
    refine ⟨p, _, rfl, SqT.of hp, rfl, .ref R, [.int fl], rfl, .int fl, [], rfl, rfl, ?_⟩
    refine ⟨rfl, _, rfl, _, rfl, fun x dx hx hdx ne => ?_⟩
    have s2 : Same H1 (upd (upd H1 dx (.own x)) x (.ins C dx [])) := same_new hx (same_upd hdx)
    have nmem : ∀ r ∈ ts, r ≠ x := fun r m e => by
      obtain ⟨ns, _, h, _⟩ := paired_mem hts m
      rw [e] at h
      rcases h with h | h <;> (rw [hx] at h; cases h)
    have ll : ts.length ≤ 60 := by
      have := Paired.length hts
      omega
    refine ⟨x, R, dx, fl, wd, ts, tellN fl nss, rfl, upd_same, fun e => ?_, s2 _ _ hR, hts.same s2, nmem, hw, ll, hf, fun H' b2 tab => ⟨rfl, k H' x (fun c u e => ?_) (s1.free hx) tab⟩⟩
    · rw [← e, hx] at hR
      cases hR
    · refine b2 c u (fun e2 => ?_) (s2 _ _ (s1 _ _ e))
      rw [e2, s1.free hx] at e
      cases e
end
/-! ### parse, whatever the text is -/
theorem inf_tell {f : Int} {nss : List (List Int)} (h : ∀ ns ∈ nss, InF f ns) : tellN f nss = nss := by
  unfold tellN
  have e : nss.map (fun ns => ns.map (tell f)) = nss.map id := List.map_congr_left fun ns m => by
    have e2 : ns.map (tell f) = ns.map id := List.map_congr_left fun n k => by
      unfold tell
      by_cases z : f = 0
      · rw [if_pos z]
        rfl
      · rw [if_neg z]
        have := ((h ns m).2 n k).2 z
        exact Int.emod_eq_of_lt this.1 this.2
    rw [e2, List.map_id]
    rfl
  rw [e, List.map_id]
def spParseX (C CB : Addr) : Sp := fun vs H Q E => ∃ (t : Str) (o : Option Int), vs = [.ref C, .str t] ∧ TextOk t ∧ DueT t o ∧
  (o = none → ∀ (f : Int) (nss : List (List Int)), t = tabText f (tellN f nss) → Good f nss → ∀ H' p, Same H H' → H p = none → TabAt C H' p f nss → Q (.ref p) H') ∧
  (∀ k, o = some k → ∀ H' d, Same H H' → H d = none → H' d = some (.xd [("line", .int k)]) → E (.ref CB) (some d) H')
section
variable {P : Program} {w : World} {K : PySem.W.Frag} {mg : Str → Option Value} {base : Heap}
theorem ok_parseX {f fR fI C CB : Addr} {fd fdR fdI : FuncData} (F : Fun K "parse" "Rows.parse" sParse f fd) (M : Mk K C fI)
    (GR : FnOk P w K mg base (L2.CX P w) 3 fR fdR ["text"] (spRRowsG CB)) (kR : PySem.W.keepIn K (.ref fR) = true) (bR : Binds K fdR ["text"] []) (gR : mg "read_rows" = some (.ref fR))
    (GI : FnOk P w K mg base CX0 4 fI fdI ["self", "rows", "field"] (spInit0 C)) (bI : Binds K fdI ["self", "rows", "field"] []) : FnOk P w K mg base (L2.CX P w) 6 f fd ["cls", "text"] (spParseX C CB) := by
  refine F.okX scPa (fun vs H Q E h => ?_) (fun cdv A outer s H vs Q E hr h => ?_)
  · obtain ⟨t, o, rfl, _⟩ := h
    rfl
  · obtain ⟨t, o, rfl, hto, hdue, kY, kE⟩ := h
    have nd := scPa.nd
    have hr3 : Room 3 _ := hr.mono (by decide)
    refine ⟨_, pss_cons (ps_asg (pe_call GR hr3 rfl gR kR bR .nil (passes_call (takes_of rfl rfl rfl rfl) fun _ _ _ _ h => h) (pa_cons (pv 1) pa_nil)) (pg_tup rfl (pgs_cons (pg_name (i := 2) nd rfl (.inl rfl)) (pgs_cons (pg_name (i := 3) nd rfl (.inl rfl)) pgs_nil))))
      (pss_one (ps_ret (pe_makeAt (i := 0) M GI hr bI .nil pass0 rfl (.inl rfl) (pa_cons (pv 2) (pa_cons (pv 3) pa_nil))))), ?_⟩
    refine ⟨_, rfl, t, o, rfl, hto, hdue, fun ho fl wd nss ht hf hl hz H1 p R ts s1 hp hR hts np nR nts => ?_, fun k ho H' d s1 nd hd => kE k ho H' d s1 nd hd⟩
    refine ⟨p, _, rfl, SqT.of hp, rfl, .ref R, [.int fl], rfl, .int fl, [], rfl, rfl, ?_⟩
    refine ⟨rfl, _, rfl, _, rfl, fun x dx hx hdx ne => ?_⟩
    have s2 : Same H1 (upd (upd H1 dx (.own x)) x (.ins C dx [])) := same_new hx (same_upd hdx)
    have nmem : ∀ r ∈ ts, r ≠ x := fun r m e => by
      obtain ⟨ns, _, h, _⟩ := paired_mem hts m
      rw [e] at h
      rcases h with h | h <;> (rw [hx] at h; cases h)
    have ll : ts.length ≤ 60 := by
      have := Paired.length hts
      omega
    obtain ⟨wd2, hw2, hts2, hz2⟩ : ∃ wd2, wd2 ≤ 12 ∧ RowsAt H1 wd2 ts nss ∧ ∀ ns ∈ nss, ns.length = wd2 := by
      cases nss with
      | nil =>
        cases hts
        exact ⟨0, by decide, .nil, fun _ h => nomatch h⟩
      | cons a b =>
        have h1 := hz a (.head _)
        exact ⟨wd, by have := h1.1.1; omega, hts, fun ns m => (hz ns m).2⟩
    have good : Good fl nss := ⟨hf, hl, wd2, hw2, fun ns m => ⟨hz2 ns m, fun n k => ((hz ns m).1.2 n k).1⟩⟩
    refine ⟨x, R, dx, fl, wd2, ts, nss, rfl, upd_same, fun e => ?_, s2 _ _ hR, hts2.same s2, nmem, hw2, ll, hf, fun H' b2 tab => ⟨rfl, kY ho fl nss ?_ good H' x (fun c u e => ?_) (s1.free hx) tab⟩⟩
    · rw [← e, hx] at hR
      cases hR
    · rw [inf_tell fun ns m => (hz ns m).1]
      exact ht
    · refine b2 c u (fun e2 => ?_) (s2 _ _ (s1 _ _ e))
      rw [e2, s1.free hx] at e
      cases e
end
/-! ### the law tries a text -/
abbrev sTried : Stmt := top 32
def triedV (t : Str) : Option Int → List V
  | none => [.str "told", .str t]
  | some k => [.str "line", .int k]
def spTriedT : Sp := fun vs H Q _ => ∃ (t : Str) (o : Option Int), vs = [.str t] ∧ TextOk t ∧ DueT t o ∧ ∀ H' p, Same H H' → H p = none → H' p = some (.tup (triedV t o)) → Q (.ref p) H'
section
variable {P : Program} {w : World} {K : PySem.W.Frag} {mg : Str → Option Value} {base : Heap}
theorem scTd : FnScope ["_law_text", "_law_found", "e"] ["_law_text"] (defScope sTried) := ⟨rfl, rfl, rfl, by decide +kernel, rfl, by decide +kernel, by decide +kernel⟩
theorem ok_tried {f fA fT fB C CB pA : Addr} {mc : Value} {fd fdA fdT fdB : FuncData} (F : Fun K "_law_tried" "_law_tried" sTried f fd) (T : RTxt K mg C) (CR : ClX.CRead K C mc) (CM : ClX.CMet K C mc "parse" pA fA) (MB : Made K P mg "BadText" "line" CB fB fdB)
    (xB : PySem.W.exmOne K (.ref CB) (.ref CB) = some true)
    (GA : FnOk P w K mg base (L2.CX P w) 6 fA fdA ["cls", "text"] (spParseX C CB)) (bA : Binds K fdA ["cls", "text"] [])
    (GT : FnOk P w K mg base CX0 3 fT fdT ["self"] (spText C)) (bT : Binds K fdT ["self"] []) (mT : Meth K C "text" fT) : FnOk P w K mg base CX0 7 f fd ["_law_text"] spTriedT := by
  refine F.ok scTd (fun vs H Q E h => ?_) (fun cdv A outer s H vs Q E hr h => ?_)
  · obtain ⟨t, o, rfl, _⟩ := h
    rfl
  · obtain ⟨t, o, rfl, hto, hdue, k⟩ := h
    have nd := scTd.nd
    have hr3 : Room 3 _ := hr.mono (by decide)
    refine ⟨_, pss_cons (ps_set (i := 1) nd rfl (.inl rfl) (pe_tup (pa_cons pe_str (pa_cons pe_int pa_nil))))
      (pss_cons (ps_try_as (i := 2) rfl rfl nd rfl rfl ⟨rfl, by decide, .inl MB.at_⟩ takes0
        (fun W pn xe tk _ => pss_one (ps_set (i := 1) nd rfl (.inl rfl) (pe_tup (pa_cons pe_str (pa_cons (pe_meth0 (pe_cmethS (pe_glob (v := V.ref C) (by rfl) T.mgC rfl) CR CM GA hr bA (fun σ => passAt tk σ) (pa_cons (pv 0) pa_nil)) T.cl mT GT hr3 bT .nil pass0) pa_nil)))))
        (fun a oe cls d pn hz hf => pss_one (ps_set (i := 1) nd rfl (.inl rfl) (pe_tup (pa_cons pe_str (pa_cons (pe_xf MB.xf MB.of.nof hz hf (pv 2)) pa_nil))))))
      (pss_one (ps_ret (pv 1)))), ?_⟩
    refine ⟨Nat.le_of_ble_eq_true rfl, fun t0 n0 => ?_⟩
    have s0 := same_upd n0 (o := .tup [.str "none", .int 0])
    refine ⟨rfl, _, rfl, t, o, rfl, hto, hdue, fun ho fl nss ht good H1 p s1 np tab => ?_, fun kk ho H1 d s1 ndd hd => ?_⟩
    · obtain ⟨dx, tt, ts, a1, a2, a3⟩ := id tab
      refine ⟨p, dx, _, rfl, a1, rfl, p, fl, nss, rfl, tab, good, fun H2 s2 => ?_⟩
      rw [← ht]
      refine ⟨Nat.le_of_ble_eq_true rfl, fun q nq => ⟨_, rfl, k _ q (((s0.trans s1).trans s2).trans (same_upd nq)) (((s0.trans s1).trans s2).free nq) ?_⟩⟩
      rw [upd_same, ho]
      rfl
    · refine ⟨true, xB, fun _ a na => ?_, fun z => nomatch z⟩
      refine ⟨_, rfl, rfl, rfl, d, _, _, rfl, hd, rfl, Nat.le_of_ble_eq_true rfl, fun q nq => ⟨_, rfl, k _ q ((s0.trans s1).trans (same_upd nq)) ((s0.trans s1).free nq) ?_⟩⟩
      rw [upd_same, ho]
      rfl
end
/-! ### the law's own reading of words and lines -/
abbrev sLNum : Stmt := top 33
abbrev sLWid : Stmt := top 34
theorem dp_strs {K : PySem.W.Frag} {H : Hp} : ∀ ss : List Str, DpAll K H (ss.map V.str) (ss.map PyData.str)
  | [] => .nil
  | s :: r => .cons (.str s) (dp_strs r)
theorem lay_strs : ∀ ss : List Str, (∀ s ∈ ss, PyData.strOk s = true) → PyData.canLayAll0 (ss.map PyData.str) = true
  | [], _ => rfl
  | s :: r, h => by
    rw [List.map_cons, PyData.canLayAll0, lay_strs r fun x m => h x (.tail _ m), Bool.and_true, PyData.canLay0]
    exact h s (.head _)
theorem strok_iff (x : Str) : PyData.strOk x = true ↔ ∀ c ∈ TL.tl x, c < 0x110000 := by
  unfold PyData.strOk
  rw [← Array.all_toList, List.all_eq_true]
  exact ⟨fun h c m => of_decide_eq_true (h c m), fun h c m => decide_eq_true (h c m)⟩
theorem strok_sub {x y : Str} (h : PyData.strOk x = true) (hs : ∀ c ∈ TL.tl y, c ∈ TL.tl x) : PyData.strOk y = true := (strok_iff y).mpr fun c m => (strok_iff x).mp h c (hs c m)
theorem strok_part {x y p : Str} (h : PyData.strOk x = true) (hp : p ∈ Txt.split x y) : PyData.strOk p = true := by
  refine strok_sub h fun c m => ?_
  have e := join_back x y
  rw [TL.join_eq] at e
  rw [← e, TL.tl_join]
  exact mem_joinL (List.mem_map_of_mem hp) m
theorem depth_strs : ∀ ss : List Str, PyData.depthAll (ss.map PyData.str) ≤ 1
  | [] => by decide
  | s :: r => by
    have := depth_strs r
    rw [List.map_cons, PyData.depthAll]
    refine Nat.max_le.mpr ⟨?_, this⟩
    rw [PyData.depth]
    omega
theorem shaped_strs (ss : List Str) (h : ∀ s ∈ ss, PyData.strOk s = true) : SeqAt.shaped (.list (ss.map PyData.str)) = true := by
  unfold SeqAt.shaped
  rw [Bool.and_eq_true]
  refine ⟨lay_strs ss h, decide_eq_true ?_⟩
  have := depth_strs ss
  rw [PyData.depth]
  omega
theorem eqv_strs0 (ss : List Str) : PyData.eqv (.list (ss.map PyData.str)) (.list []) = ss.isEmpty := by
  cases ss <;> rfl
theorem cut_one (w : Str) : TL.tl (cutS w none (some 1)) = (TL.tl w).take 1 := by
  unfold cutS
  show ((TL.tl w).drop _).take _ = _
  have e1 : HT.sIx w.length 0 none = 0 := by simp [HT.sIx]
  have e2 : HT.sIx w.length w.length (some 1) = min 1 w.length := by
    simp only [HT.sIx]
    first | omega | (simp; omega) | simp
  rw [e1, e2, TL.len_tl w]
  cases h : TL.tl w with
  | nil => rfl
  | cons c r => simp
theorem cut_one_is (w : Str) (c : Nat) : cutS w none (some 1) = (⟨#[c]⟩ : Str) ↔ (TL.tl w)[0]? = some c := by
  constructor
  · intro h
    have := cut_one w
    rw [h] at this
    cases e : TL.tl w with
    | nil =>
      rw [e] at this
      cases this
    | cons a r =>
      rw [e] at this
      have h2 : [c] = [a] := this
      cases h2
      rfl
  · intro h
    apply TL.ext_tl
    rw [cut_one]
    cases e : TL.tl w with
    | nil =>
      rw [e] at h
      cases h
    | cons a r =>
      rw [e] at h
      cases h
      rfl
def isFig (c : Nat) : Bool := decide (c ∈ TL.tl ("0123456789" : Str))
theorem fig_iff (c : Nat) : isFig c = true ↔ (48 ≤ c ∧ c ≤ 57) := by
  have e : TL.tl ("0123456789" : Str) = [48, 49, 50, 51, 52, 53, 54, 55, 56, 57] := by decide +kernel
  unfold isFig
  rw [e]
  simp
  omega
def spLNum : Sp := fun vs H Q _ => ∃ (w : Str), vs = [.str w] ∧ w.length ≤ 59 ∧ PyData.strOk w = true ∧ (IsNum w → ∀ H', Same H H' → Q (.bl true) H') ∧ (¬ IsNum w → ∀ H', Same H H' → Q (.bl false) H')
/-- d: the figures of x, by the law -/
structure LFig (x d : Str) : Prop where
  sub : ∀ c ∈ TL.tl d, c ∈ TL.tl x
  len : d.length ≤ 59
  no : ¬ (NumText.AllDigits (TL.tl d) ∧ TL.tl d ≠ []) → ¬ IsNum x
  yes : NumText.AllDigits (TL.tl d) → TL.tl d ≠ [] → (IsNum x ↔ (x = ("0" : Str) ∨ ¬ (TL.tl d)[0]? = some 48))
theorem lfig_plain {x : Str} (hl : x.length ≤ 59) (hm : ¬ (TL.tl x)[0]? = some 45) : LFig x x := by
  have can : IsNum x ↔ Can (TL.tl x) := by
    constructor
    · intro h
      rcases (isnum_iff x).mp h with c | ⟨r, e, _⟩
      · exact c
      · rw [e] at hm
        exact absurd rfl hm
    · exact fun h => (isnum_iff x).mpr (.inl h)
  refine ⟨fun _ m => m, hl, fun h hn => h ⟨(can.mp hn).1, (can.mp hn).2.1⟩, fun h1 h2 => ⟨fun hn => ?_, fun h => ?_⟩⟩
  · by_cases e : (TL.tl x)[0]? = some 48
    · exact .inl ((zero_tl x).mpr ((can.mp hn).2.2 e))
    · exact .inr e
  · rcases h with h | h
    · exact can.mpr (by rw [(zero_tl x).mp h]; exact ⟨fun c m => by rw [List.mem_singleton.mp m]; omega, by simp, fun _ => rfl⟩)
    · exact can.mpr (can_of h1 h2 h)
theorem lfig_cut {x : Str} (hl : x.length ≤ 59) (hm : (TL.tl x)[0]? = some 45) : LFig x (cutS x (some 1) none) := by
  have hl2 := cutS_length x (some 1) none
  obtain ⟨r, e⟩ : ∃ r, TL.tl x = 45 :: r := by
    cases h : TL.tl x with
    | nil =>
      rw [h] at hm
      cases hm
    | cons c r =>
      rw [h] at hm
      cases hm
      exact ⟨r, rfl⟩
  have er : TL.tl (cutS x (some 1) none) = r := by
    rw [len_cut1, e]
    rfl
  have nf : IsNum x ↔ (Can r ∧ r ≠ [48]) := by
    constructor
    · intro h
      rcases (isnum_iff x).mp h with c | ⟨r', e2, c, n⟩
      · have := c.1 45 (by rw [e]; exact .head _)
        omega
      · rw [e] at e2
        cases e2
        exact ⟨c, n⟩
    · rintro ⟨c, n⟩
      exact (isnum_iff x).mpr (.inr ⟨r, e, c, n⟩)
  refine ⟨fun c m => by rw [er] at m; rw [e]; exact .tail _ m, by omega, fun h hn => ?_, fun h1 h2 => ⟨fun hn => ?_, fun h => ?_⟩⟩
  · rw [er] at h
    exact h ⟨(nf.mp hn).1.1, (nf.mp hn).1.2.1⟩
  · rw [er]
    exact .inr fun z => (nf.mp hn).2 ((nf.mp hn).1.2.2 z)
  · rw [er] at h1 h2 h
    rcases h with h | h
    · have := (zero_tl x).mp h
      rw [e] at this
      cases this
    · exact nf.mpr ⟨can_of h1 h2 h, fun z => h (by rw [z]; rfl)⟩
section
variable {P : Program} {w : World} {K : PySem.W.Frag} {mg : Str → Option Value} {base : Heap}
theorem scLN : FnScope ["_law_word", "_law_figures", "_law_sign"] ["_law_word"] (defScope sLNum) := ⟨rfl, rfl, rfl, by decide +kernel, rfl, by decide +kernel, by decide +kernel⟩
theorem ok_lnum {f : Addr} {fd : FuncData} (F : Fun K "_law_is_number" "_law_is_number" sLNum f fd) (N : Nm mg) : FnOk P w K mg base CX0 1 f fd ["_law_word"] spLNum := by
  refine F.ok scLN (fun vs H Q E h => ?_) (fun cdv A outer s H vs Q E hr h => ?_)
  · obtain ⟨x, rfl, _⟩ := h
    rfl
  · obtain ⟨x, rfl, hl, hok, kT, kF⟩ := h
    have nd := scLN.nd
    refine ⟨_, pss_cons (ps_set (i := 1) nd rfl (.inl rfl) (PE.imp' (t' := fun σ H' Q => σ = [some (.str x), none, none] ∧ ∀ d, LFig x d → Q (.str d) H')
        (pe_ifExp (pt_cmpR op_eq (pe_slice sl_str (pv 0) po_none (po_some pe_int)) pe_str (nomark _)) (pe_slice sl_str (pv 0) (po_some pe_int) po_none) (pv 0)) ?dig))
      (pss_cons (ps_if (PW.pt (pw_or (pt_cmpR op_eq (pv 1) pe_str (nomark _)) (pw_or1 (pt_cmpR (op_neD hr.units) (pe_lc (own := [("_law_sign", 2)]) (g := gName 2) rfl nd (pi_str (pv 1))
          (blkOk_by (own := [("_law_sign", 2)]) (N := ["_law_word", "_law_figures", "_law_sign"]) (sc := defScope sLNum) (by decide +kernel)) (fun _ _ _ _ _ => pg_name (i := 2) nd rfl (Or.inl rfl)) (fun _ _ _ _ _ => pts_one (pt_cmpR op_notIn_sign (pv 2) pe_str (by rfl)))
          (fun _ _ _ _ _ => pv 2)) (pe_lst pa_nil) (nomark _))))) (pss_one (ps_ret pe_bl)) pss_nil)
      (pss_one (ps_ret (pe_or (pe_cmpR op_eq (pv 0) pe_str (nomark _)) (pe_one (pe_cmpR op_ne (pe_ix ix_str (pv 1) pe_int (fun _ _ => rfl)) pe_str (nomark _))))))), ?_⟩
    case dig =>
      rintro σ H' Q' ⟨rfl, q⟩
      refine ⟨_, rfl, _, rfl, _, rfl, Nat.le_trans hl (by decide), rfl, _, rfl, ?_⟩
      by_cases m : (TL.tl x)[0]? = some 45
      · rw [decide_eq_true (show V.str (cutS x none (some 1)) = V.str ("-" : Str) from congrArg V.str ((cut_one_is x 45).mpr m))]
        exact iteT ⟨_, rfl, _, rfl, _, rfl, Nat.le_trans hl (by decide), q _ (lfig_cut hl m)⟩
      · rw [decide_eq_false (show ¬ V.str (cutS x none (some 1)) = V.str ("-" : Str) from fun e => m ((cut_one_is x 45).mp (V.str.inj e)))]
        exact iteF ⟨_, rfl, q _ (lfig_plain hl m)⟩
    refine ⟨rfl, fun d hd => ?_⟩
    refine ⟨_, rfl, rfl, _, rfl, ?_⟩
    by_cases e0 : d = ("" : Str)
    · rw [decide_eq_true (congrArg V.str e0)]
      refine iteT (iteT (kF (hd.no fun h => h.2 ?_) _ same_refl))
      rw [e0]
      rfl
    · rw [decide_eq_false fun e => e0 (V.str.inj e)]
      have hne : TL.tl d ≠ [] := fun e => e0 (TL.ext_tl e)
      have sz : d.cps.size ≤ 59 := hd.len
      refine iteF ⟨_, rfl, d, rfl, fun D nD => filt_it walk_str ((TL.tl d).map fun c => if isFig c then none else some (.str ⟨#[c]⟩)) (by rw [List.length_map]; simp [TL.tl]) (fun _ _ => trivial) nD (by omega) (fun _ _ _ _ h => h.1) (fun _ => rfl) ?_ ?_⟩
      · rintro j y o H2 ⟨_, c, hc, rfl⟩ ho sH N R hN hR
        have hc2 : (TL.tl d)[j]? = some c := by
          rw [← hc]
          simp [TL.tl]
        rw [List.getElem?_map, hc2] at ho
        refine ⟨_, rfl, c, _, rfl, rfl, _, rfl, ?_⟩
        have ef : decide (c ∈ ("0123456789" : Str).cps.toList) = isFig c := rfl
        rw [ef]
        by_cases hf : isFig c = true
        · rw [hf]
          have : o = none := by
            have h2 : (if isFig c = true then none else some (V.str ⟨#[c]⟩)) = o := Option.some.inj ho
            rw [if_pos hf] at h2
            exact h2.symm
          exact iteF (hN this _ same_refl)
        · rw [Bool.eq_false_iff.mpr hf]
          have : o = some (.str ⟨#[c]⟩) := by
            have h2 : (if isFig c = true then none else some (V.str ⟨#[c]⟩)) = o := Option.some.inj ho
            rw [if_neg hf] at h2
            exact h2.symm
          exact iteT ⟨_, rfl, hR _ this _ same_refl⟩
      · intro H2 s2 hD
        refine ⟨Nat.zero_le _, fun Z nZ => ?_⟩
        have sZ := s2.trans (same_upd nZ (o := .lst []))
        have hD2 := (same_upd nZ (o := .lst [])) _ _ hD
        have hgs : ∃ ss : List Str, (((TL.tl d).map fun c => if isFig c then none else some (V.str ⟨#[c]⟩)).filterMap id) = ss.map V.str ∧ (ss = [] ↔ NumText.AllDigits (TL.tl d)) ∧ ∀ s ∈ ss, PyData.strOk s = true := by
          refine ⟨((TL.tl d).map fun c => if isFig c then none else some (⟨#[c]⟩ : Str)).filterMap id, ?_, ?_, ?_⟩
          · rw [List.filterMap_map, List.filterMap_map, List.map_filterMap]
            congr 1
            funext c
            by_cases hf : isFig c = true
            · simp [hf]
            · simp [hf]
          · constructor
            · intro h c hc
              refine (fig_iff c).mp ?_
              by_cases hf : isFig c = true
              · exact hf
              · have : (⟨#[c]⟩ : Str) ∈ ((TL.tl d).map fun c => if isFig c then none else some (⟨#[c]⟩ : Str)).filterMap id := by
                  rw [List.mem_filterMap]
                  refine ⟨some ⟨#[c]⟩, List.mem_map.mpr ⟨c, hc, ?_⟩, rfl⟩
                  rw [if_neg hf]
                rw [h] at this
                cases this
            · intro h
              refine all_none _ _ fun c hc => ?_
              rw [if_pos ((fig_iff c).mpr (h c hc))]
          · intro s hs
            obtain ⟨o, ho, e⟩ := List.mem_filterMap.mp hs
            obtain ⟨c, hc, e2⟩ := List.mem_map.mp ho
            have e3 : o = some s := e
            rw [e3] at e2
            by_cases hf : isFig c = true
            · rw [if_pos hf] at e2
              cases e2
            · rw [if_neg hf] at e2
              cases e2
              refine (strok_iff _).mpr fun a ha => ?_
              rw [List.mem_singleton.mp ha]
              exact (strok_iff x).mp hok c (hd.sub c hc)
        obtain ⟨ss, e1, e2, e3⟩ := hgs
        rw [e1] at hD2
        refine ⟨_, _, .lst (SqL.of hD2) (dp_strs ss), .lst (SqL.of upd_same) .nil, shaped_strs ss e3, rfl, _, rfl, ?_⟩
        rw [eqv_strs0]
        by_cases hs : ss = []
        · rw [hs]
          have had := e2.mp hs
          have hy := hd.yes had hne
          obtain ⟨c, r, ec⟩ := List.exists_cons_of_ne_nil hne
          refine iteF ⟨_, rfl, rfl, _, rfl, ?_⟩
          by_cases hx : x = ("0" : Str)
          · rw [decide_eq_true (congrArg V.str hx)]
            exact iteT (kT (hy.mpr (.inl hx)) _ sZ)
          · rw [decide_eq_false fun e => hx (V.str.inj e)]
            refine iteF ⟨_, rfl, ?_⟩
            have h0 : (TL.tl d)[0]? = some c := by
              rw [ec]
              rfl
            refine ⟨d, 0, c, rfl, rfl, Nat.le_trans hd.len (by decide), atI_nat (j := 0) h0, rfl, ?_⟩
            by_cases c48 : c = 48
            · have e4 : (V.str (⟨#[c]⟩ : Str) = V.str ("0" : Str)) := by
                rw [c48]
                rfl
              rw [decide_eq_true e4]
              refine kF (fun hn => ?_) _ sZ
              rcases hy.mp hn with h | h
              · exact hx h
              · exact h (by rw [h0, c48])
            · have e4 : ¬ (V.str (⟨#[c]⟩ : Str) = V.str ("0" : Str)) := by
                intro e
                have h2 := congrArg TL.tl (V.str.inj e)
                have h3 : [c] = [48] := h2
                exact c48 (List.cons.inj h3).1
              rw [decide_eq_false e4]
              refine kT (hy.mpr (.inr fun e => ?_)) _ sZ
              rw [h0] at e
              exact c48 (Option.some.inj e)
        · rw [List.isEmpty_eq_false_iff.mpr hs]
          exact iteT (kF (hd.no fun h => hs (e2.mpr h.1)) _ sZ)
end
def spLWid : Sp := fun vs H Q _ => ∃ (l : Str) (f : Int), vs = [.str l, .int f] ∧ LineOk l ∧ PyData.strOk l = true ∧ f ∈ fields ∧ ∀ H', Same H H' → Q (.int (wid f l)) H'
theorem wid_neg {f : Int} {l : Str} (hd : l ≠ ("-" : Str)) (h : ¬ ((Txt.split l (" " : Str)).length ≤ 12 ∧ ∀ w ∈ Txt.split l (" " : Str), NumF f w)) : wid f l = -1 := wid_no fun ns q => h (isrow_nums hd q)
theorem wid_pos {f : Int} {l : Str} (hl : LineOk l) (h1 : (Txt.split l (" " : Str)).length ≤ 12) (h2 : ∀ w ∈ Txt.split l (" " : Str), NumF f w) : wid f l = ((Txt.split l (" " : Str)).length : Int) := by
  obtain ⟨ns, h, e⟩ := isrow_of hl h1 h2
  rw [wid_row h, e, List.length_map]
section
variable {P : Program} {w : World} {K : PySem.W.Frag} {mg : Str → Option Value} {base : Heap}
abbrev nsLW : List Str := ["_law_line", "_law_field_here", "_law_words", "_law_word"]
theorem scLW : FnScope nsLW ["_law_line", "_law_field_here"] (defScope sLWid) := ⟨rfl, rfl, rfl, by decide +kernel, rfl, by decide +kernel, by decide +kernel⟩
open Classical in
theorem ok_lwid {f fN : Addr} {fd fdN : FuncData} (F : Fun K "_law_width" "_law_width" sLWid f fd) (N : Nm mg)
    (GN : FnOk P w K mg base CX0 1 fN fdN ["_law_word"] spLNum) (kN : PySem.W.keepIn K (.ref fN) = true) (bN : Binds K fdN ["_law_word"] []) (gN : mg "_law_is_number" = some (.ref fN)) : FnOk P w K mg base CX0 2 f fd ["_law_line", "_law_field_here"] spLWid := by
  refine F.ok scLW (fun vs H Q E h => ?_) (fun cdv A outer s H vs Q E hr h => ?_)
  · obtain ⟨l, fl, rfl, _⟩ := h
    rfl
  · obtain ⟨l, fl, rfl, hl, hok, hf, k⟩ := h
    have nd := scLW.nd
    refine ⟨_, pss_cons (ps_if (pt_cmpR op_eq (pv 0) pe_str (nomark _)) (pss_one (ps_ret pe_int)) pss_nil)
      (pss_cons (ps_set (i := 2) nd rfl (.inl rfl) (pe_split (pv 0) pe_str))
      (pss_cons (ps_if (PW.pt (pw_or (pt_cmpR op_gt (pe_callB lenL (by rfl) N.len PySem.boot_len (pa_cons (pv 2) pa_nil)) pe_int (nomark _))
        (pw_or1 (pt_not (pt_val (pe_callB (cr_all rfl) (by rfl) N.all (by decide +kernel) (pa_cons (pe_lc (own := [("_law_word", 3)]) (g := gName 3) (tt := tYes) rfl nd (pi_list (pv 2))
          (blkOk_by (own := [("_law_word", 3)]) (N := nsLW) (sc := defScope sLWid) (by decide +kernel)) (fun _ _ _ _ _ => pg_name (i := 3) nd rfl (Or.inl rfl)) (fun _ _ _ _ _ => pts_nil)
          (fun _ _ _ _ _ => pe_call GN hr rfl gN kN bN .nil pass0 (pa_cons (pv 3) pa_nil))) pa_nil))))))) (pss_one (ps_ret (pe_un un_neg pe_int))) pss_nil)
      (pss_cons (ps_if (PW.pt (pw_and (pt_cmpR op_gt (pv 1) pe_int (nomark _))
        (pw_and1 (pt_not (pt_val (pe_callB (cr_all rfl) (by rfl) N.all (by decide +kernel) (pa_cons (pe_lc (own := [("_law_word", 3)]) (g := gName 3) (tt := tYes) rfl nd (pi_list (pv 2))
          (blkOk_by (own := [("_law_word", 3)]) (N := nsLW) (sc := defScope sLWid) (by decide +kernel)) (fun _ _ _ _ _ => pg_name (i := 3) nd rfl (Or.inl rfl)) (fun _ _ _ _ _ => pts_nil)
          (fun _ _ _ _ _ => pe_chain op_le op_lt pe_int (pe_callTy call_int_str (by rfl) N.int (by decide +kernel) (pa_cons (pv 3) pa_nil)) (pv 1))) pa_nil))))))) (pss_one (ps_ret (pe_un un_neg pe_int))) pss_nil)
      (pss_one (ps_ret (pe_callB lenL (by rfl) N.len PySem.boot_len (pa_cons (pv 2) pa_nil))))))), ?_⟩
    by_cases e : l = ("-" : Str)
    · refine ⟨_, rfl, rfl, _, rfl, ?_⟩
      rw [decide_eq_true (congrArg V.str e)]
      have q := k H same_refl
      rw [e, wid_row isrow_nil] at q
      exact iteT q
    · refine ⟨_, rfl, rfl, _, rfl, ?_⟩
      rw [decide_eq_false fun q => e (V.str.inj q)]
      refine iteF ⟨_, rfl, ⟨_, rfl⟩, _, _, rfl, rfl, rfl, Nat.le_trans (Nat.add_le_add_right hl.1 2) (by decide), fun p np => ?_⟩
      have hwl := hl.2
      have hwo : ∀ w ∈ Txt.split l (" " : Str), PyData.strOk w = true := fun w m => strok_part hok m
      have hneg := wid_neg (f := fl) e
      have hpos := wid_pos (f := fl) hl
      generalize hws : Txt.split l (" " : Str) = ws at hwl hwo hneg hpos ⊢
      generalize hH1 : upd H p (.lst (ws.map V.str)) = H1
      have s1 : Same H H1 := by rw [← hH1]; exact same_upd np
      have l1 : H1 p = some (.lst (ws.map V.str)) := by rw [← hH1, upd_same]
      have no : ∀ H', Same H H' → ¬ (ws.length ≤ 12 ∧ ∀ w ∈ ws, NumF fl w) → Q (.int (-1)) H' := by
        intro H' sH h
        have q := k H' sH
        rw [hneg h] at q
        exact q
      refine ⟨_, rfl, p, _, rfl, l1, _, _, rfl, rfl, _, rfl, ?_⟩
      by_cases h12 : ws.length ≤ 12
      · rw [decide_eq_false (show ¬ ((12 : Int) < ((ws.map V.str).length : Int)) by rw [List.length_map]; omega)]
        refine iteF ⟨_, rfl, p, rfl, ⟨_, SqL.of l1⟩, fun D nD => map_listG (ws.map fun w => V.bl (decide (IsNum w))) (by rw [List.length_map, List.length_map]) l1 nD (by rw [List.length_map]; omega) (fun _ => rfl) ?_ ?_⟩
        · intro j x y H' hx hy sH R hR
          rw [List.getElem?_map] at hx hy
          obtain ⟨w, hw, rfl⟩ := Option.map_eq_some_iff.mp hx
          rw [hw] at hy
          cases hy
          have hm := List.mem_of_getElem? hw
          refine ⟨_, rfl, w, rfl, hwl w hm, hwo w hm, fun h H4 s4 => ?_, fun h H4 s4 => ?_⟩
          · have q : R (V.bl (decide (IsNum w))) H4 := hR H4 s4
            rw [decide_eq_true h] at q
            exact q
          · have q : R (V.bl (decide (IsNum w))) H4 := hR H4 s4
            rw [decide_eq_false h] at q
            exact q
        · intro H2 s2 hD
          refine ⟨D, ws.map fun w => decide (IsNum w), rfl, SqL.of ?_, ?_⟩
          · rw [hD, List.map_map]
            rfl
          have l2 := s2 _ _ l1
          refine ⟨_, rfl, ?_⟩
          rw [all_bools]
          by_cases ha : ∀ w ∈ ws, IsNum w
          · rw [decide_eq_true ha]
            refine iteF ⟨_, rfl, fl, 0, rfl, rfl, _, rfl, ?_⟩
            obtain ⟨is, eis, his⟩ := words_nums (f := 0) ws fun w m => ⟨hwl w m, by obtain ⟨i, e⟩ := ha w m; exact ⟨i, e, fun z => absurd rfl z⟩⟩
            have hin : (∀ w ∈ ws, NumF fl w) ↔ (fl ≠ 0 → ∀ i ∈ is, 0 ≤ i ∧ i < fl) := by
              rw [eis]
              constructor
              · intro h z i hi
                obtain ⟨j, e, hj⟩ := h (tx i) (List.mem_map_of_mem hi)
                have sj : Sz j := by
                  refine num_sz e ?_
                  exact hwl _ (by rw [eis]; exact List.mem_map_of_mem hi)
                rw [tx_inj (his i hi).1 sj e]
                exact hj z
              · intro h w hw
                obtain ⟨i, hi, rfl⟩ := List.mem_map.mp hw
                exact ⟨i, rfl, fun z => h z i hi⟩
            have fin : ∀ H', Same H H' → (∀ w ∈ ws, NumF fl w) → Q (.int (((ws.map V.str).length : Nat) : Int)) H' := by
              intro H' sH h
              have q := k H' sH
              rw [hpos h12 h] at q
              rw [List.length_map]
              exact q
            by_cases z : 0 < fl
            · rw [decide_eq_true z]
              refine iteT ⟨_, rfl, p, rfl, ⟨_, SqL.of l2⟩, fun D2 nD2 => map_listG (is.map fun i => V.bl (decide (0 ≤ i ∧ i < fl))) (by rw [List.length_map, List.length_map, eis, List.length_map]) l2 nD2 (by rw [List.length_map]; omega) (fun _ => rfl) ?_ ?_⟩
              · intro j x y H' hx hy sH R hR
                rw [eis, List.map_map, List.getElem?_map] at hx
                obtain ⟨i, hi, rfl⟩ := Option.map_eq_some_iff.mp hx
                rw [List.getElem?_map, hi] at hy
                cases hy
                have hm := his i (List.mem_of_getElem? hi)
                have q : R (V.bl (decide (0 ≤ i ∧ i < fl))) H' := hR H' same_refl
                refine ⟨_, rfl, _, i, rfl, tx_int hm.1, Nat.le_trans (tx_len hm.1) (by decide), 0, i, rfl, rfl, _, rfl, ?_⟩
                by_cases i0 : 0 ≤ i
                · rw [decide_eq_true i0]
                  refine iteT ⟨_, rfl, i, fl, rfl, rfl, ?_⟩
                  have e2 : decide (i < fl) = decide (0 ≤ i ∧ i < fl) := by
                    by_cases i1 : i < fl
                    · rw [decide_eq_true i1, decide_eq_true ⟨i0, i1⟩]
                    · rw [decide_eq_false i1, decide_eq_false fun h => i1 h.2]
                  rw [← e2] at q
                  exact q
                · rw [decide_eq_false i0]
                  rw [decide_eq_false fun h => i0 h.1] at q
                  exact iteF q
              · intro H3 s3 hD3
                refine ⟨D2, is.map fun i => decide (0 ≤ i ∧ i < fl), rfl, SqL.of ?_, ?_⟩
                · rw [hD3, List.map_map]
                  rfl
                have l3 := s3 _ _ l2
                refine ⟨_, rfl, ?_⟩
                rw [all_bools]
                by_cases hr2 : ∀ i ∈ is, 0 ≤ i ∧ i < fl
                · rw [decide_eq_true hr2]
                  exact iteF ⟨_, rfl, p, _, rfl, l3, fin _ ((s1.trans s2).trans s3) (hin.mpr fun _ => hr2)⟩
                · rw [decide_eq_false hr2]
                  exact iteT ⟨_, rfl, no _ ((s1.trans s2).trans s3) fun h => hr2 (hin.mp h.2 (by omega))⟩
            · rw [decide_eq_false z]
              have z0 : fl = 0 := by
                have := fields_ge hf
                omega
              exact iteF (iteF ⟨_, rfl, p, _, rfl, l2, fin _ (s1.trans s2) (hin.mpr fun h => absurd z0 h)⟩)
          · rw [decide_eq_false ha]
            exact iteT ⟨_, rfl, no _ (s1.trans s2) fun h => ha fun w m => by obtain ⟨i, e, _⟩ := h.2 w m; exact ⟨i, e⟩⟩
      · rw [decide_eq_true (show ((12 : Int) < ((ws.map V.str).length : Int)) by rw [List.length_map]; omega)]
        exact iteT (iteT ⟨_, rfl, no _ s1 fun h => h12 h.1⟩)
end
abbrev sLDue : Stmt := top 35
def optV : Option Int → V
  | none => .non
  | some k => .int k
theorem shaped_intsL (ns : List Int) : SeqAt.shaped (.list (ns.map PyData.int)) = true := by
  unfold SeqAt.shaped
  rw [Bool.and_eq_true]
  refine ⟨lay_ints ns, decide_eq_true ?_⟩
  have := depth_ints ns
  rw [PyData.depth]
  omega
theorem eqv_ints0 (ns : List Int) : PyData.eqv (.list (ns.map PyData.int)) (.list []) = ns.isEmpty := by
  cases ns <;> rfl
theorem one_field {fl : Int} (hf : fl ∈ fields) : (fields.map fun j => if ("field " : Str) ++ tx fl = ("field " : Str) ++ tx j then some (V.int j) else none).filterMap id = [V.int fl] := by
  have e : (fields.map fun j => if ("field " : Str) ++ tx fl = ("field " : Str) ++ tx j then some (V.int j) else none) = fields.map fun j => if fl = j then some (V.int j) else none := by
    refine List.map_congr_left fun j hj => ?_
    by_cases h : fl = j
    · rw [if_pos h, if_pos (by rw [h])]
    · rw [if_neg h, if_neg fun q => h (field_inj hf hj q)]
  rw [e]
  simp only [fields, List.mem_cons, List.not_mem_nil, or_false] at hf
  rcases hf with rfl | rfl | rfl | rfl | rfl | rfl | rfl <;> rfl
def spLDue : Sp := fun vs H Q _ => ∃ (t : Str) (o : Option Int), vs = [.str t] ∧ TextOk t ∧ PyData.strOk t = true ∧ DueT t o ∧ ∀ H', Same H H' → Q (optV o) H'
section
variable {P : Program} {w : World} {K : PySem.W.Frag} {mg : Str → Option Value} {base : Heap}
abbrev nsLD : List Str := ["_law_text", "_law_lines", "_law_fields", "_law_at", "_law_line", "_law_width_here", "_law_field_here"]
theorem scLD : FnScope nsLD ["_law_text"] (defScope sLDue) := ⟨rfl, rfl, rfl, by decide +kernel, rfl, by decide +kernel, by decide +kernel⟩
theorem ok_ldue {f fW : Addr} {fd fdW : FuncData} (F : Fun K "_law_due" "_law_due" sLDue f fd) (N : Nm mg)
    (GW : FnOk P w K mg base CX0 2 fW fdW ["_law_line", "_law_field_here"] spLWid) (kW : PySem.W.keepIn K (.ref fW) = true) (bW : Binds K fdW ["_law_line", "_law_field_here"] []) (gW : mg "_law_width" = some (.ref fW)) : FnOk P w K mg base CX0 3 f fd ["_law_text"] spLDue := by
  refine F.ok scLD (fun vs H Q E h => ?_) (fun cdv A outer s H vs Q E hr h => ?_)
  · obtain ⟨t, o, rfl, _⟩ := h
    rfl
  · obtain ⟨txt, o, rfl, ⟨htl, hlo⟩, hok, hdue, k⟩ := h
    have nd := scLD.nd
    refine ⟨_, pss_cons (ps_set (i := 1) nd rfl (.inr rfl) (pe_split (pv 0) pe_str))
      (pss_cons (ps_setLc (i := 2) (own := [("_law_field_here", 6)]) (g := gName 6) rfl nd rfl rfl (sw_true rfl rfl rfl (by decide +kernel)) (pi_list (pe_lst (pa_cons pe_int (pa_cons pe_int (pa_cons pe_int (pa_cons pe_int (pa_cons pe_int (pa_cons pe_int (pa_cons pe_int pa_nil)))))))))
          (blkOk_by (own := [("_law_field_here", 6)]) (N := nsLD) (sc := defScope sLDue) (by decide +kernel)) (fun _ _ _ _ _ => pg_name (i := 6) nd rfl (Or.inl rfl))
          (fun _ _ _ _ _ => pts_one (pt_cmpR op_eq (pe_ix ixL (pv 1) pe_int (fun _ _ => rfl)) (pe_op op_add_str pe_str (pe_callTy call_str_int (by rfl) N.str (by decide +kernel) (pa_cons (pv 6) pa_nil))) (nomark _)))
          (fun _ _ _ _ _ => pv 6))
      (pss_cons (ps_if (pt_cmpR (op_eqD hr.units) (pv 2) (pe_lst pa_nil) (nomark _)) (pss_one (ps_ret pe_int)) pss_nil)
      (pss_cons (ps_for PassesOwn.never rfl (pi_enum (by rfl) N.enum (pa_cons (pe_slice sl_list (pv 1) (po_some pe_int) po_none) pa_nil)) (pg_tup rfl (pgs_cons (pg_name (i := 3) nd rfl (.inl rfl)) (pgs_cons (pg_name (i := 4) nd rfl (.inl rfl)) pgs_nil)))
        (pss_cons (ps_set (i := 5) nd rfl (.inl rfl) (pe_call GW hr rfl gW kW bW .nil pass0 (pa_cons (pv 4) (pa_cons (pe_ix ixL (pv 2) pe_int (fun _ _ => rfl)) pa_nil))))
        (pss_one (ps_if (PW.pt (pw_or (pt_cmpR op_lt (pv 5) pe_int (nomark _)) (pw_or (pt_cmpR op_gt (pv 3) pe_int (nomark _)) (pw_or1 (pt_cmpR op_ne (pv 5)
            (pe_call GW hr rfl gW kW bW .nil pass0 (pa_cons (pe_ix ixL (pv 1) pe_int (fun _ _ => rfl)) (pa_cons (pe_ix ixL (pv 2) pe_int (fun _ _ => rfl)) pa_nil))) (nomark _)))))) (pss_one (ps_ret (pe_op op_add (pv 3) pe_int))) pss_nil))))
      (pss_one (ps_ret pe_non))))), ?_⟩
    refine ⟨_, rfl, ⟨_, rfl⟩, _, _, rfl, rfl, rfl, Nat.le_trans (Nat.add_le_add_right htl 2) (by decide), fun l nl => ?_⟩
    have hjb := join_back txt ("\n" : Str)
    have hne := split_ne (x := txt) (y := ("\n" : Str)) (by decide +kernel) (by decide +kernel)
    have hlk : ∀ l ∈ Txt.split txt ("\n" : Str), PyData.strOk l = true := fun l m => strok_part hok m
    have dH : ∀ {q : Option Int}, DueT txt q → q = o := fun h => dueT_one h hdue
    have dh := fun h => dH (.head h)
    have dr := fun f r hf h => dH (.rest f r hf h)
    generalize Txt.split txt ("\n" : Str) = ls at hlo hjb hne hlk dh dr ⊢
    obtain ⟨l0, rest, rfl⟩ := List.exists_cons_of_ne_nil hne
    generalize hH1 : upd H l (.lst ((l0 :: rest).map V.str)) = H1
    have s1 : Same H H1 := by rw [← hH1]; exact same_upd nl
    have l1 : H1 l = some (.lst ((l0 :: rest).map V.str)) := by rw [← hH1, upd_same]
    have a0 : atI ((l0 :: rest).map V.str) 0 = some (.str l0) := at0
    refine ⟨Nat.le_of_ble_eq_true rfl, fun Z nZ => ?_⟩
    have sZ := same_upd nZ (o := .lst (fields.map V.int))
    have lZ := sZ _ _ l1
    have zZ : upd H1 Z (.lst (fields.map V.int)) Z = some (.lst (fields.map V.int)) := upd_same
    refine ⟨Z, rfl, ⟨_, SqL.of zZ⟩, fun D nD => filt_it walk_list (fields.map fun j => if l0 = ("field " : Str) ++ tx j then some (V.int j) else none) (by rw [List.length_map, List.length_map]) (fun H' s => SqL.of (s _ _ zZ)) nD (by decide) (fun _ _ _ _ h => h.1) (fun _ => rfl) ?_ ?_⟩
    · rintro j y op H2 ⟨_, hy⟩ ho sH N2 R hN hR
      rw [List.getElem?_map] at hy ho
      obtain ⟨i, hi, rfl⟩ := Option.map_eq_some_iff.mp hy
      rw [hi] at ho
      have ho2 : (if l0 = ("field " : Str) ++ tx i then some (V.int i) else none) = op := Option.some.inj ho
      have si := fields_sz (List.mem_of_getElem? hi)
      have h6 := tx_len si
      refine ⟨_, rfl, l, 0, _, _, rfl, rfl, sH _ _ lZ, a0, _, rfl, i, rfl, si.log, _, _, rfl, rfl, ?_, rfl, _, rfl, ?_⟩
      · have : ("field " : Str).length = 6 := rfl
        show ("field " : Str).length + (tx i).length ≤ _
        exact Nat.le_trans (by omega : _ ≤ 100000) (by decide)
      show (if decide (V.str l0 = V.str (("field " : Str) ++ tx i)) = true then _ else _)
      by_cases e : l0 = ("field " : Str) ++ tx i
      · rw [if_pos e] at ho2
        rw [decide_eq_true (congrArg V.str e)]
        exact iteT ⟨_, rfl, hR _ ho2.symm _ same_refl⟩
      · rw [if_neg e] at ho2
        rw [decide_eq_false fun q => e (V.str.inj q)]
        exact iteF (hN ho2.symm _ same_refl)
    · intro H2 s2 hD
      have sH2 : Same H H2 := (s1.trans sZ).trans s2
      have l2 := s2 _ _ lZ
      by_cases hh : ∃ f ∈ fields, l0 = ("field " : Str) ++ tx f
      · obtain ⟨fl, hf, rfl⟩ := hh
        have hdr := dr fl rest hf rfl
        rw [one_field hf] at hD
        refine ⟨_, rfl, Nat.zero_le _, fun Y nY => ?_⟩
        have sY := same_upd nY (o := .lst ([] : List V))
        have dY := sY _ _ hD
        refine ⟨.list ([fl].map PyData.int), .list [], .lst (SqL.of dY) (dp_ints [fl]), .lst (SqL.of upd_same) .nil, shaped_intsL [fl], rfl, _, rfl, ?_⟩
        rw [eqv_ints0]
        refine iteF ?_
        have hcv : cutV (((("field " : Str) ++ tx fl) :: rest).map V.str) (some 1) none = rest.map V.str := by
          rw [List.map_cons]
          generalize rest.map V.str = ys
          simp [cutV, HT.sIx]
        have lY := sY _ _ l2
        refine ⟨_, rfl, _, rfl, l, _, rfl, SqL.of lY, fun S nS => ?_⟩
        rw [hcv]
        have sS := same_upd nS (o := .lst (rest.map V.str))
        generalize hH4 : upd (upd H2 Y (.lst ([] : List V))) S (.lst (rest.map V.str)) = H4 at sS ⊢
        have S4 : H4 S = some (.lst (rest.map V.str)) := by rw [← hH4, upd_same]
        have l4 := sS _ _ lY
        have d4 := sS _ _ dY
        have sH4 : Same H H4 := (sH2.trans sY).trans sS
        generalize hw0 : wid fl (rest.headD "") = w0 at hdr
        refine ⟨S, _, rfl, SqL.of S4, for_enum (fun i σ G => ∃ (u v x : Option V), σ = [some (.str txt), some (.ref l), some (.ref D), u, v, x, none] ∧ Same H4 G ∧ badAt fl w0 i (rest.drop i) = badAt fl w0 0 rest) ⟨none, none, none, rfl, same_refl, rfl⟩
          (fun i σ G _ ⟨_, _, _, _, s, _⟩ => SqL.of (s _ _ S4)) ?_ ?_⟩
        · rintro i x T σ G hx ⟨u, v, x2, rfl, sG, hbad⟩ nT
          rw [List.getElem?_map] at hx
          obtain ⟨ln, hln, rfl⟩ := Option.map_eq_some_iff.mp hx
          obtain ⟨r0, h00, hw⟩ : ∃ r0, rest[0]? = some r0 ∧ wid fl r0 = w0 := by
            cases rest with
            | nil => cases hln
            | cons a b => exact ⟨a, rfl, hw0⟩
          have sT := sG.trans (same_upd nT (o := .tup [.int (i : Nat), .str ln]))
          refine ⟨T, [.int (i : Nat), .str ln], rfl, .inl (.inl upd_same), rfl, .int (i : Nat), [.str ln], rfl, .str ln, [], rfl, rfl, ?_⟩
          have lm := List.mem_of_getElem? hln
          refine ⟨_, rfl, _, rfl, D, 0, _, _, rfl, rfl, sT _ _ d4, at0, ln, fl, rfl, hlo ln (.tail _ lm), hlk ln (.tail _ lm), hf, fun G2 s5 => ?_⟩
          have sG2 := sT.trans s5
          refine ⟨_, rfl, _, _, rfl, rfl, _, rfl, ?_⟩
          have stop : (wid fl ln < 0 ∨ 59 < i ∨ wid fl ln ≠ w0) → ∀ G3, Same G2 G3 → Q (.int ((i : Int) + 2)) G3 := by
            intro hb G3 s6
            rw [badAt_hit hln hbad hb] at hdr
            have q := k G3 ((sH4.trans sG2).trans s6)
            rw [← hdr] at q
            exact q
          by_cases w1 : wid fl ln < 0
          · rw [decide_eq_true w1]
            exact iteT (iteT ⟨_, rfl, _, _, rfl, rfl, stop (.inl w1) _ same_refl⟩)
          rw [decide_eq_false w1]
          refine iteF ⟨_, rfl, _, _, rfl, rfl, _, rfl, ?_⟩
          by_cases w2 : 59 < i
          · rw [decide_eq_true (show (59 : Int) < (i : Nat) by omega)]
            exact iteT (iteT ⟨_, rfl, _, _, rfl, rfl, stop (.inr (.inl w2)) _ same_refl⟩)
          rw [decide_eq_false (show ¬ (59 : Int) < (i : Nat) by omega)]
          have r0m := List.mem_of_getElem? h00
          refine iteF ⟨_, rfl, _, rfl, l, 1, _, .str r0, rfl, rfl, sG2 _ _ l4, ?_, _, rfl, D, 0, _, _, rfl, rfl, sG2 _ _ d4, at0, r0, fl, rfl, hlo r0 (.tail _ r0m), hlk r0 (.tail _ r0m), hf, fun G3 s6 => ?_⟩
          · exact atI_nat (j := 1) (by rw [List.getElem?_map]; show (rest[0]?).map V.str = _; rw [h00]; rfl)
          rw [hw]
          refine ⟨rfl, _, rfl, ?_⟩
          by_cases w3 : wid fl ln = w0
          · rw [decide_eq_true (congrArg V.int w3)]
            refine iteF ⟨_, _, _, rfl, sG2.trans s6, badAt_drop hln hbad fun h => ?_⟩
            rcases h with h | h | h
            · exact w1 h
            · exact w2 h
            · exact h w3
          · rw [decide_eq_false fun q => w3 (V.int.inj q)]
            exact iteT ⟨_, rfl, _, _, rfl, rfl, stop (.inr (.inr w3)) _ s6⟩
        · rintro σ G ⟨u, v, x2, rfl, sG, hbad⟩
          rw [List.length_map, List.drop_length] at hbad
          have hnone : badAt fl w0 0 rest = none := hbad.symm
          rw [hnone] at hdr
          have q := k G (sH4.trans sG)
          rw [← hdr] at q
          exact q
      · have e0 : (fields.map fun j => if l0 = ("field " : Str) ++ tx j then some (V.int j) else none).filterMap id = [] := all_none _ _ fun j hj => if_neg fun e => hh ⟨j, hj, e⟩
        rw [e0] at hD
        refine ⟨_, rfl, Nat.zero_le _, fun Y nY => ?_⟩
        have sY := same_upd nY (o := .lst ([] : List V))
        have dY := sY _ _ hD
        refine ⟨.list (([] : List Int).map PyData.int), .list [], .lst (SqL.of dY) (dp_ints []), .lst (SqL.of upd_same) .nil, shaped_intsL [], rfl, _, rfl, ?_⟩
        rw [eqv_ints0]
        have q := k _ (sH2.trans sY)
        have eo : o = some 1 := (dh fun f hf r e => hh ⟨f, hf, (List.cons.inj e).1⟩).symm
        rw [eo] at q
        exact iteT q
end
/-! ### lines that are bent -/
abbrev sLBent : Stmt := top 36
theorem cutV_take {xs : List V} {n : Nat} : cutV xs none (some (n : Int)) = xs.take n := by
  unfold cutV
  rw [HT.sIx_nat, HT.sIx_none, List.drop_zero, Nat.sub_zero]
  by_cases h : n ≤ xs.length
  · rw [Nat.min_eq_left h]
  · rw [Nat.min_eq_right (by omega), List.take_of_length_le (Nat.le_refl _), List.take_of_length_le (by omega)]
theorem cutV_drop {xs : List V} {n : Nat} : cutV xs (some (n : Int)) none = xs.drop n := by
  unfold cutV
  rw [HT.sIx_nat, HT.sIx_none]
  by_cases h : n ≤ xs.length
  · rw [Nat.min_eq_left h, List.take_of_length_le]
    rw [List.length_drop]
    exact Nat.le_refl _
  · rw [Nat.min_eq_right (by omega), Nat.sub_self, List.take_zero, List.drop_eq_nil_of_le (by omega)]
theorem spl_free {s : Nat} : ∀ (l acc : List Nat), s ∉ acc → ∀ p ∈ TL.spl [s] 0 acc l, s ∉ p
  | [], acc, h, p, m => by
    rw [TL.spl_nil] at m
    rw [List.mem_singleton.mp m]
    exact h
  | c :: r, acc, h, p, m => by
    by_cases e : TL.pre [s] (c :: r) = true
    · rw [TL.spl_hit e] at m
      rcases List.mem_cons.mp m with rfl | m
      · exact h
      · exact spl_free r [] (by simp) p m
    · have e2 := Bool.eq_false_iff.mpr e
      rw [TL.spl_miss e2] at m
      refine spl_free r (acc ++ [c]) (fun q => ?_) p m
      rcases List.mem_append.mp q with q | q
      · exact h q
      · have : s = c := List.mem_singleton.mp q
        subst this
        exact e (TL.pre_self [s] r)
theorem split_free {x y : Str} {s : Nat} (ey : TL.tl y = [s]) (hk : y.cps.all (· < 256) = true) {p : Str} (hp : p ∈ Txt.split x y) : s ∉ TL.tl p := by
  have h := TL.split_spl x y (by rw [ey]; simp) (TL.kind_ok hk)
  rw [ey] at h
  refine spl_free (TL.tl x) [] (by simp) _ ?_
  rw [← h]
  exact List.mem_map_of_mem hp
theorem joinL_len (s : Nat) : ∀ ps : List (List Nat), ps ≠ [] → (TL.joinL [s] ps).length + 1 = (ps.map (·.length)).sum + ps.length
  | [], h => absurd rfl h
  | [p], _ => by
    show p.length + 1 = _
    simp
  | p :: q :: r, _ => by
    have ih := joinL_len s (q :: r) (by simp)
    show (p ++ ([s] ++ TL.joinL [s] (q :: r))).length + 1 = _
    rw [List.length_append, List.length_append, List.map_cons, List.sum_cons, List.length_cons (a := p)]
    simp only [List.length_singleton]
    omega
def msr (ps : List Str) : Nat := (ps.map (·.length)).sum + ps.length
theorem msr_join {y : Str} {s : Nat} (ey : TL.tl y = [s]) {ps : List Str} (h : ps ≠ []) : (Txt.join y ps).length + 1 = msr ps := by
  rw [TL.len_tl, TL.join_eq, TL.tl_join, ey]
  have := joinL_len s (ps.map TL.tl) (by simpa using h)
  rw [this, List.map_map, List.length_map]
  have e : ps.map ((·.length) ∘ TL.tl) = ps.map (·.length) := List.map_congr_left fun x _ => (TL.len_tl x).symm
  rw [e]
  rfl
theorem msr_app (a b : List Str) : msr (a ++ b) = msr a + msr b := by
  unfold msr
  rw [List.map_append, List.sum_append, List.length_append]
  omega
theorem msr_split {x y : Str} {s : Nat} (ey : TL.tl y = [s]) (hk : y.cps.all (· < 256) = true) : msr (Txt.split x y) = x.length + 1 := by
  have h := split_ne (x := x) (y := y) (by rw [ey]; simp) hk
  rw [← msr_join ey h, join_back]
theorem msr_bend (ws : List Str) (w : Str) (i j : Nat) (hij : i ≤ j) : msr (ws.take i ++ [w] ++ ws.drop j) ≤ msr ws + w.length + 1 := by
  have h1 : msr ws = msr (ws.take i) + msr (ws.drop i) := by
    rw [← msr_app, List.take_append_drop]
  have h2 : msr (ws.drop j) ≤ msr (ws.drop i) := by
    have e : ws.drop i = (ws.drop i).take (j - i) ++ ws.drop j := by
      have := (List.take_append_drop (j - i) (ws.drop i)).symm
      rw [List.drop_drop] at this
      rw [show i + (j - i) = j by omega] at this
      exact this
    rw [e, msr_app]
    omega
  have h3 : msr [w] = w.length + 1 := by
    unfold msr
    simp
  rw [msr_app, msr_app, h3]
  omega
/-- a line as the law has it -/
structure Lk (B : Nat) (l : Str) : Prop where
  nl : 10 ∉ TL.tl l
  len : l.length ≤ B
  ws : ∀ w ∈ Txt.split l (" " : Str), w.length ≤ 59
  ok : PyData.strOk l = true
theorem Lk.mono {A B : Nat} {l : Str} (h : Lk A l) (le : A ≤ B) : Lk B l := ⟨h.nl, Nat.le_trans h.len le, h.ws, h.ok⟩
theorem word_le {x y w : Str} {s : Nat} (ey : TL.tl y = [s]) (hk : y.cps.all (· < 256) = true) (h : w ∈ Txt.split x y) : w.length ≤ x.length := by
  have h1 := msr_split (x := x) ey hk
  have h2 : ∀ ps : List Str, w ∈ ps → w.length + 1 ≤ msr ps := by
    intro ps
    induction ps with
    | nil => exact fun h => nomatch h
    | cons p r ih =>
      intro m
      unfold msr at ih ⊢
      rw [List.map_cons, List.sum_cons, List.length_cons]
      rcases List.mem_cons.mp m with rfl | m
      · omega
      · have := ih m
        omega
  have := h2 _ h
  omega
/-- a text that may stand among lines -/
def okPiece (b : Bool) (x : Str) : Bool := (TL.tl x).all (fun c => c != 10 && (b || c != 32) && decide (c < 0x110000)) && decide (x.length ≤ 59)
theorem okPiece_lk {x : Str} (h : okPiece true x = true) : Lk 60 x := by
  unfold okPiece at h
  rw [Bool.and_eq_true, List.all_eq_true] at h
  have hl := of_decide_eq_true h.2
  refine ⟨fun m => ?_, by omega, fun w m => Nat.le_trans (word_le (s := 32) (by decide +kernel) (by decide +kernel) m) hl, (strok_iff x).mpr fun c m => ?_⟩
  · have := h.1 10 m
    simp at this
  · have := h.1 c m
    simp at this
    exact this.2
structure Wk (x : Str) : Prop where
  nl : 10 ∉ TL.tl x
  sp : 32 ∉ TL.tl x
  len : x.length ≤ 59
  ok : PyData.strOk x = true
theorem okPiece_wk {x : Str} (h : okPiece false x = true) : Wk x := by
  unfold okPiece at h
  rw [Bool.and_eq_true, List.all_eq_true] at h
  have hl := of_decide_eq_true h.2
  refine ⟨fun m => ?_, fun m => ?_, hl, (strok_iff x).mpr fun c m => ?_⟩
  · have := h.1 10 m
    simp at this
  · have := h.1 32 m
    simp at this
  · have := h.1 c m
    simp at this
    exact this.2
theorem Lk.word {B : Nat} {l w : Str} (h : Lk B l) (m : w ∈ Txt.split l (" " : Str)) : Wk w := by
  refine ⟨fun k => ?_, split_free (by decide +kernel) (by decide +kernel) m, h.ws w m, strok_part h.ok m⟩
  have e := join_back l (" " : Str)
  rw [TL.join_eq] at e
  refine h.nl ?_
  rw [← e, TL.tl_join]
  exact mem_joinL (List.mem_map_of_mem m) k
theorem join_ok {ws : List Str} (h : ∀ w ∈ ws, Wk w) : 10 ∉ TL.tl (Txt.join (" " : Str) ws) ∧ PyData.strOk (Txt.join (" " : Str) ws) = true := by
  refine ⟨join_free (by decide +kernel) fun p m => (h p m).nl, (strok_iff _).mpr fun c m => ?_⟩
  rw [TL.join_eq, TL.tl_join] at m
  rcases joinL_mem m with m | ⟨p, hp, m⟩
  · have : c = 32 := by
      have e : TL.tl (" " : Str) = [32] := by decide +kernel
      rw [e] at m
      exact List.mem_singleton.mp m
    omega
  · obtain ⟨q, hq, rfl⟩ := List.mem_map.mp hp
    exact (strok_iff q).mp (h q hq).ok c m
theorem Lk.bend {B : Nat} {l w : Str} (h : Lk B l) (hw : Wk w) (hw2 : w.length ≤ 10) (i j : Nat) (hij : i ≤ j) : Lk (B + 60) (Txt.join (" " : Str) ((Txt.split l (" " : Str)).take i ++ [w] ++ (Txt.split l (" " : Str)).drop j)) := by
  have m1 := msr_bend (Txt.split l (" " : Str)) w i j hij
  rw [msr_split (s := 32) (by decide +kernel) (by decide +kernel)] at m1
  have hws : ∀ x ∈ (Txt.split l (" " : Str)).take i ++ [w] ++ (Txt.split l (" " : Str)).drop j, Wk x := by
    intro x m
    rcases List.mem_append.mp m with m | m
    · rcases List.mem_append.mp m with m | m
      · exact h.word (List.mem_of_mem_take m)
      · rw [List.mem_singleton.mp m]
        exact hw
    · exact h.word (List.mem_of_mem_drop m)
  generalize hg : (Txt.split l (" " : Str)).take i ++ [w] ++ (Txt.split l (" " : Str)).drop j = ws at m1 hws ⊢
  have hne : ws ≠ [] := by
    rw [← hg]
    simp
  have m2 := msr_join (y := (" " : Str)) (s := 32) (by decide +kernel) hne
  have hl := h.len
  have o := join_ok hws
  refine ⟨o.1, by omega, fun x m => ?_, o.2⟩
  rw [TL.split_join (s := 32) (S := []) (by decide +kernel) (by decide +kernel) hne fun p hp => (hws p hp).sp] at m
  exact (hws x m).len
theorem Lk.line {B : Nat} {l : Str} (h : Lk B l) (hB : B ≤ 5000) : LineOk l := ⟨Nat.le_trans h.len hB, h.ws⟩
/-- lines put together -/
theorem lines_text {B : Nat} {ls : List Str} (h : ∀ l ∈ ls, Lk B l) (hB : B ≤ 5000) (hn : ls.length ≤ 19) : TextOk (Txt.join ("\n" : Str) ls) ∧ PyData.strOk (Txt.join ("\n" : Str) ls) = true := by
  have key : ∀ ls : List Str, ls ≠ [] → (∀ l ∈ ls, Lk B l) → ls.length ≤ 19 → TextOk (Txt.join ("\n" : Str) ls) ∧ PyData.strOk (Txt.join ("\n" : Str) ls) = true := by
    intro ls hne h hn
    refine ⟨⟨?_, fun l m => ?_⟩, (strok_iff _).mpr fun c m => ?_⟩
    · have h1 := len_join ("\n" : Str) ls
      have h2 := sum_le (c := B) ls fun p m => (h p m).len
      have h3 : ("\n" : Str).length = 1 := by decide
      rw [h3] at h1
      have h4 : ls.length * B ≤ 19 * 5000 := Nat.mul_le_mul hn hB
      omega
    · rw [TL.split_join (s := 10) (S := []) (by decide +kernel) (by decide +kernel) hne fun p hp => (h p hp).nl] at m
      exact (h l m).line hB
    · rw [TL.join_eq, TL.tl_join] at m
      rcases joinL_mem m with m | ⟨p, hp, m⟩
      · have : c = 10 := by
          have e : TL.tl ("\n" : Str) = [10] := by decide +kernel
          rw [e] at m
          exact List.mem_singleton.mp m
        omega
      · obtain ⟨q, hq, rfl⟩ := List.mem_map.mp hp
        exact (strok_iff q).mp (h q hq).ok c m
  by_cases e : ls = []
  · subst e
    have e2 : Txt.join ("\n" : Str) ([] : List Str) = Txt.join ("\n" : Str) [("" : Str)] := by decide +kernel
    rw [e2]
    refine key [""] (by simp) (fun l m => ?_) (by decide)
    rw [List.mem_singleton.mp m]
    by_cases hB60 : 60 ≤ B
    · exact (okPiece_lk (by decide +kernel)).mono hB60
    · refine ⟨by decide +kernel, Nat.zero_le _, fun w m => ?_, by decide +kernel⟩
      have := word_le (s := 32) (by decide +kernel) (by decide +kernel) m
      exact Nat.le_trans this (by decide)
  · exact key ls e h hn
section
variable {X : Cx}
theorem op_rep12 : OpR X (binaryOp .Mult) (fun x y H Q => x = .str ("1 " : Str) ∧ y = .int 12 ∧ Q (.str ("1 1 1 1 1 1 1 1 1 1 1 1 " : Str)) H) := by
  intro pins s σ H x y v u Q I rx ry ⟨e1, e2, q⟩
  subst e1 e2
  obtain ⟨t, rfl⟩ := rx
  obtain ⟨t', rfl⟩ := ry
  refine PySem.P.mul_str (by decide) (fun _ _ => by decide +kernel) (fun _ _ => by decide +kernel) ?_
  rw [if_neg (by decide), if_neg (by decide +kernel)]
  have e : (⟨(List.replicate (12 : Int).toNat (("1 " : Str)).cps).foldl (· ++ ·) #[]⟩ : Str) = ("1 1 1 1 1 1 1 1 1 1 1 1 " : Str) := by decide +kernel
  rw [e]
  exact ⟨by decide +kernel, ⟨.str ("1 1 1 1 1 1 1 1 1 1 1 1 " : Str), H, I.tok _, ⟨_, rfl⟩, q⟩⟩
end
/-! ### the law's drawn fields and rows -/
abbrev sLField : Stmt := top 29
abbrev sLRows : Stmt := top 30
def spLField : Sp := fun vs H Q _ => ∃ (p : Addr) (o : HO) (n : Nat), vs = [.ref p] ∧ H p = some o ∧ SrcL n o ∧ n ≤ 100000 ∧
  ∀ H' f o', But p H H' → H' p = some o' → SrcL (n + 1) o' → f ∈ fields → Q (.int f) H'
/-- rows at addresses: lists of ints -/
def LRows (H : Hp) (wd : Nat) (B : Nat) (rs : List Addr) (nss : List (List Int)) : Prop := Paired (fun r ns => H r = some (.lst (ns.map V.int)) ∧ ns.length = wd ∧ ∀ i ∈ ns, i.natAbs ≤ B) rs nss
def spLRows : Sp := fun vs H Q _ => ∃ (p : Addr) (o : HO) (n wd m : Nat), vs = [.ref p, .int (wd : Int), .int (m : Int)] ∧ H p = some o ∧ SrcL n o ∧ n ≤ 50000 ∧ wd ≤ 12 ∧ m ≤ 60 ∧
  ∀ H' q rs nss o', But p H H' → H' p = some o' → SrcL (n + 40 * m) o' → H' q = some (.lst (rs.map V.ref)) → LRows H' wd (2 * 3 ^ m) rs nss → rs.length = m → H q = none → q ≠ p → (∀ r ∈ rs, H r = none ∧ r ≠ p ∧ r ≠ q) → Q (.ref q) H'
section
variable {P : Program} {w : World} {K : PySem.W.Frag} {mg : Str → Option Value} {base : Heap}
theorem scLF : FnScope ["_law_source_here"] ["_law_source_here"] (defScope sLField) := ⟨rfl, rfl, rfl, by decide +kernel, rfl, by decide +kernel, by decide +kernel⟩
theorem ok_lfield {f fD : Addr} {fd fdD : FuncData} (F : Fun K "_law_field" "_law_field" sLField f fd) (GD : FnOk P w K mg base CX0 1 fD fdD ["_law_source_here", "_law_many"] spDraw) (kD : PySem.W.keepIn K (.ref fD) = true)
    (bD : Binds K fdD ["_law_source_here", "_law_many"] []) (gD : mg "_law_draw" = some (.ref fD)) : FnOk P w K mg base CX0 2 f fd ["_law_source_here"] spLField := by
  refine F.ok scLF (fun vs H Q E h => ?_) (fun cdv A outer s H vs Q E hr h => ?_)
  · obtain ⟨p, o, n, rfl, _⟩ := h
    rfl
  · obtain ⟨p, o, n, rfl, hp, ho, hn, k⟩ := h
    refine ⟨_, pss_one (ps_ret (pe_ix ixL (pe_lst (pa_cons pe_int (pa_cons pe_int (pa_cons pe_int (pa_cons pe_int (pa_cons pe_int (pa_cons pe_int (pa_cons pe_int (pa_cons pe_int (pa_cons pe_int (pa_cons pe_int pa_nil)))))))))))
      (pe_call GD hr rfl gD kD bD .nil pass0 (pa_cons (pv 0) (pa_cons pe_int pa_nil))) (fun _ _ => rfl))), ?_⟩
    refine ⟨Nat.le_of_ble_eq_true rfl, fun l hl => ?_⟩
    have nlp : l ≠ p := fun e => by
      rw [e, hp] at hl
      cases hl
    refine ⟨_, rfl, p, o, n, 10, rfl, by rw [upd_ne (Ne.symm nlp)]; exact hp, ho, hn, by decide, by decide, fun r o' r0 r1 ho' => ?_⟩
    have key : ∀ j : Nat, j < 10 → ∃ f ∈ fields, ([0, 0, 0, 2, 2, 3, 5, 7, 11, 13] : List Int)[j]? = some f := by decide
    obtain ⟨j, rfl⟩ : ∃ j : Nat, r = j := ⟨r.toNat, by omega⟩
    obtain ⟨f, hf, hj⟩ := key j (by omega)
    have l3 : upd (upd H l (.lst (([0, 0, 0, 2, 2, 3, 5, 7, 11, 13] : List Int).map V.int))) p o' l = some (.lst (([0, 0, 0, 2, 2, 3, 5, 7, 11, 13] : List Int).map V.int)) := by
      rw [upd_ne nlp, upd_same]
    refine ⟨l, j, _, V.int f, rfl, rfl, l3, atI_nat (by rw [List.getElem?_map, hj]; rfl), k _ f o' (fun b u nb e => ?_) upd_same ho' hf⟩
    rw [upd_ne nb, upd_ne (ne_of_none e hl)]
    exact e
theorem scLR : FnScope ["_law_source_here", "_law_width_here", "_law_many", "_law_found", "_law_k", "_law_way", "_law_row", "_law_times", "_law_place", "_law_number"] ["_law_source_here", "_law_width_here", "_law_many"] (defScope sLRows) := ⟨rfl, rfl, rfl, by decide +kernel, rfl, by decide +kernel, by decide +kernel⟩
abbrev nsLR : List Str := ["_law_source_here", "_law_width_here", "_law_many", "_law_found", "_law_k", "_law_way", "_law_row", "_law_times", "_law_place", "_law_number"]
theorem ok_lrows {f fD fP : Addr} {fd fdD fdP : FuncData} (F : Fun K "_law_rows" "_law_rows" sLRows f fd) (N : Nm mg) (GD : FnOk P w K mg base CX0 1 fD fdD ["_law_source_here", "_law_many"] spDraw) (kD : PySem.W.keepIn K (.ref fD) = true)
    (bD : Binds K fdD ["_law_source_here", "_law_many"] []) (gD : mg "_law_draw" = some (.ref fD)) (GP : FnOk P w K mg base CX0 2 fP fdP ["_law_source_here", "_law_things"] (spPick K)) (kP : PySem.W.keepIn K (.ref fP) = true)
    (bP : Binds K fdP ["_law_source_here", "_law_things"] []) (gP : mg "_law_pick" = some (.ref fP)) : FnOk P w K mg base CX0 3 f fd ["_law_source_here", "_law_width_here", "_law_many"] spLRows := by
  refine F.ok scLR (fun vs H Q E h => ?_) (fun cdv A outer s H vs Q E hr h => ?_)
  · obtain ⟨p, o, n, wd, m, rfl, _⟩ := h
    rfl
  · obtain ⟨p, o, n, wd, m, rfl, hp, ho, hn, hw, hm, k⟩ := h
    have nd := scLR.nd
    have hr1 : Room 1 _ := hr.mono (by decide)
    refine ⟨_, pss_cons (ps_set (i := 3) nd rfl (.inl rfl) (pe_lst pa_nil))
      (pss_cons (ps_for PassesOwn.never rfl (pi_range1 (by rfl) N.range (pa_cons (pv 2) pa_nil)) (pg_name (i := 4) nd rfl (.inl rfl))
        (pss_cons (ps_set (i := 5) nd rfl (.inl rfl) (pe_call GD hr1 rfl gD kD bD .nil pass0 (pa_cons (pv 0) (pa_cons pe_int pa_nil))))
        (pss_cons (ps_setLc (i := 6) (own := [("_law_place", 8)]) (g := gName 8) (tt := tYes) rfl nd rfl rfl (sw_true rfl rfl rfl (by decide +kernel)) (pi_range1 (by rfl) N.range (pa_cons (pv 1) pa_nil))
            (blkOk_by (own := [("_law_place", 8)]) (N := nsLR) (sc := defScope sLRows) (by decide +kernel)) (fun _ _ _ _ _ => pg_name (i := 8) nd rfl (Or.inl rfl)) (fun _ _ _ _ _ => pts_nil)
            (fun _ _ _ _ _ => pe_op op_sub (pe_call GD hr1 rfl gD kD bD .nil pass0 (pa_cons (pv 0) (pa_cons pe_int pa_nil))) pe_int))
        (pss_cons (ps_if (PW.pt (pw_and (pt_cmpR op_eq (pv 5) pe_int (nomark _)) (pw_and1 (pt_cmpR (op_neD hr.units) (pv 3) (pe_lst pa_nil) (nomark _)))))
            (pss_one (ps_set (i := 6) nd rfl (.inl rfl) (pe_callTy call_list_of (by rfl) N.list (by decide +kernel) (pa_cons (pe_call GP hr rfl gP kP bP .nil pass0 (pa_cons (pv 0) (pa_cons (pv 3) pa_nil))) pa_nil))))
            (pss_one (ps_if (PW.pt (pw_and (pt_cmpR op_eq (pv 5) pe_int (nomark _)) (pw_and1 (pt_cmpR (op_neD hr.units) (pv 3) (pe_lst pa_nil) (nomark _)))))
              (pss_cons (ps_set (i := 7) nd rfl (.inr rfl) (pe_op op_add pe_int (pe_call GD hr1 rfl gD kD bD .nil pass0 (pa_cons (pv 0) (pa_cons pe_int pa_nil)))))
                (pss_one (ps_setLc (i := 6) (own := [("_law_number", 9)]) (g := gName 9) (tt := tYes) rfl nd rfl rfl (sw_true rfl rfl rfl (by decide +kernel)) (pi_list (pe_call GP hr rfl gP kP bP .nil pass0 (pa_cons (pv 0) (pa_cons (pv 3) pa_nil))))
                  (blkOk_by (own := [("_law_number", 9)]) (N := nsLR) (sc := defScope sLRows) (by decide +kernel)) (fun _ _ _ _ _ => pg_name (i := 9) nd rfl (Or.inl rfl)) (fun _ _ _ _ _ => pts_nil)
                  (fun _ _ _ _ _ => pe_op op_mul (pv 7) (pv 9)))))
              (pss_one (ps_if (pt_cmpR op_eq (pv 5) pe_int (nomark _))
                (pss_one (ps_setLc (i := 6) (own := [("_law_place", 8)]) (g := gName 8) (tt := tYes) rfl nd rfl rfl (sw_true rfl rfl rfl (by decide +kernel)) (pi_range1 (by rfl) N.range (pa_cons (pv 1) pa_nil))
                  (blkOk_by (own := [("_law_place", 8)]) (N := nsLR) (sc := defScope sLRows) (by decide +kernel)) (fun _ _ _ _ _ => pg_name (i := 8) nd rfl (Or.inl rfl)) (fun _ _ _ _ _ => pts_nil)
                  (fun _ _ _ _ _ => pe_ix ixL (pe_lst (pa_cons pe_int (pa_cons pe_int (pa_cons pe_int pa_nil)))) (pe_call GD hr1 rfl gD kD bD .nil pass0 (pa_cons (pv 0) (pa_cons pe_int pa_nil))) (fun _ _ => rfl))))
                pss_nil)))))
        (pss_one (ps_expr (pe_bm PySem.F.plainAttrs_list PySem.F.slot_list_append PySem.F.type_list_append mt_append (pv 3) (pa_cons (pv 6) pa_nil))))))))
      (pss_one (ps_ret (pv 3)))), ?_⟩
    refine ⟨Nat.zero_le _, fun q hq => ?_⟩
    have nqp : q ≠ p := fun e => by
      rw [e, hp] at hq
      cases hq
    have s0 : Same H (upd H q (.lst [])) := same_upd hq
    refine ⟨_, rfl, (m : Int), rfl, by omega, by omega, for_range (lo := 0) (n := m) (fun i σ G => ∃ (c4 c5 c6 c7 c8 c9 : Option V) (o' : HO) (rs : List Addr) (nss : List (List Int)),
        σ = [some (.ref p), some (.int (wd : Int)), some (.int (m : Int)), some (.ref q), c4, c5, c6, c7, c8, c9] ∧ G p = some o' ∧ SrcL (n + 40 * i) o' ∧ But p H G ∧ G q = some (.lst (rs.map V.ref)) ∧
        LRows G wd (2 * 3 ^ i) rs nss ∧ rs.length = i ∧ ∀ r ∈ rs, H r = none ∧ r ≠ p ∧ r ≠ q)
      ⟨none, none, none, none, none, none, o, [], [], rfl, s0 _ _ hp, ho, But.same s0, upd_same, .nil, rfl, fun _ h => nomatch h⟩ ?_ ?_⟩
    · rintro i σ G hi ⟨c4, c5, c6, c7, c8, c9, o1, rs, nss, rfl, hG, ho1, bG, hGq, hrs, hlen, hfr⟩
      have p3 : 2 * 3 ^ i ≤ 2 * 3 ^ (i + 1) := by
        rw [Nat.pow_succ]
        omega
      have fin : ∀ (G' : Hp) (D' : Addr) (ns : List Int) (o2 : HO) (c4 c5 c7 c8 c9 : Option V), But p G G' → G' p = some o2 → SrcL (n + 40 * (i + 1)) o2 → G D' = none → G' D' = some (.lst (ns.map V.int)) → ns.length = wd → (∀ j ∈ ns, j.natAbs ≤ 2 * 3 ^ (i + 1)) →
          ∃ (c4' c5' c6' c7' c8' c9' : Option V) (o' : HO) (rs' : List Addr) (nss' : List (List Int)),
            ([some (.ref p), some (.int (wd : Int)), some (.int (m : Int)), some (.ref q), c4, c5, some (.ref D'), c7, c8, c9] : L2.St) = [some (.ref p), some (.int (wd : Int)), some (.int (m : Int)), some (.ref q), c4', c5', c6', c7', c8', c9'] ∧
            upd G' q (.lst (rs.map V.ref ++ [.ref D'])) p = some o' ∧ SrcL (n + 40 * (i + 1)) o' ∧ But p H (upd G' q (.lst (rs.map V.ref ++ [.ref D']))) ∧ upd G' q (.lst (rs.map V.ref ++ [.ref D'])) q = some (.lst (rs'.map V.ref)) ∧
            LRows (upd G' q (.lst (rs.map V.ref ++ [.ref D']))) wd (2 * 3 ^ (i + 1)) rs' nss' ∧ rs'.length = i + 1 ∧ ∀ r ∈ rs', H r = none ∧ r ≠ p ∧ r ≠ q := by
        intro G' D' ns o2 c4 c5 c7 c8 c9 b2 h2 s2 nD hD hl hb
        have nDp : D' ≠ p := fun e => by
          rw [e, hG] at nD
          cases nD
        have nDq : D' ≠ q := fun e => by
          rw [e, hGq] at nD
          cases nD
        have keep : ∀ r u, r ≠ p → r ≠ q → G r = some u → upd G' q (.lst (rs.map V.ref ++ [.ref D'])) r = some u := fun r u n1 n2 e => by
          rw [upd_ne n2]
          exact b2 _ _ n1 e
        refine ⟨c4, c5, _, c7, c8, c9, o2, rs ++ [D'], nss ++ [ns], rfl, by rw [upd_ne (Ne.symm nqp)]; exact h2, s2, fun b u nb e => ?_, by rw [upd_same, List.map_append]; rfl, ?_, by rw [List.length_append, hlen]; rfl, ?_⟩
        · exact keep b u nb (fun e2 => by
            rw [e2, hq] at e
            cases e) (bG _ _ nb e)
        · refine Paired.snoc (Paired.keepMem hrs fun r hr ms h => ⟨keep r _ (hfr r hr).2.1 (hfr r hr).2.2 h.1, h.2.1, fun j hj => Nat.le_trans (h.2.2 j hj) p3⟩) ⟨?_, hl, hb⟩
          rw [upd_ne nDq]
          exact hD
        · intro r hr
          rcases List.mem_append.mp hr with h | h
          · exact hfr r h
          · rw [List.mem_singleton.mp h]
            refine ⟨?_, nDp, nDq⟩
            cases e : H D' with
            | none => rfl
            | some u => rw [bG _ _ nDp e] at nD; cases nD
      refine ⟨_, rfl, p, o1, n + 40 * i, 8, rfl, hG, ho1, by omega, by decide, by decide, fun way o2 w0 w1 ho2 => ?_⟩
      generalize hG1 : upd G p o2 = G1
      have b1 : But p G G1 := by rw [← hG1]; exact But.upd
      have hG1p : G1 p = some o2 := by rw [← hG1, upd_same]
      have pos : 0 < 3 ^ (i + 1) := Nat.pow_pos (by decide)
      refine ⟨_, rfl, (wd : Int), rfl, by omega, by omega, fun D nD => comp_range (lo := 0) (n := wd) (fun j G' => But p G1 G' ∧ ∃ o3, G' p = some o3 ∧ SrcL (n + 40 * i + 1 + j) o3) (fun _ y => ∃ v, y = .int v ∧ v.natAbs ≤ 2)
        ⟨fun _ _ _ e => e, o2, hG1p, ho2⟩ ?_ (by omega) (fun _ => rfl) ?_ ?_⟩
      · rintro j G' u ⟨b2, o3, h3, s3⟩
        have nDp : D ≠ p := fun e => by
          rw [e, hG1p] at nD
          cases nD
        refine ⟨fun b x nb e => ?_, o3, by rw [upd_ne (Ne.symm nDp)]; exact h3, s3⟩
        rw [upd_ne (ne_of_none e nD)]
        exact b2 _ _ nb e
      · rintro j G' hj ⟨b2, o3, h3, s3⟩ R hR
        refine ⟨_, rfl, p, o3, _, 5, rfl, h3, s3, by omega, by decide, by decide, fun v o4 v0 v1 ho4 => ⟨_, _, rfl, rfl, hR _ _ ⟨_, rfl, by omega⟩ ⟨b2.trans But.upd, o4, upd_same, ho4⟩ ?_⟩⟩
        exact upd_ne fun e => by
          rw [e, hG1p] at nD
          cases nD
      · rintro G2 ys ⟨b2, o3, h3, s3⟩ hD gv
        obtain ⟨ns, rfl, hl, hb⟩ := gv.ints
        have bG2 := b1.trans b2
        have nGD : G D = none := by
          cases e : G D with
          | none => rfl
          | some u =>
            by_cases e2 : D = p
            · rw [e2, hG1p] at nD
              cases nD
            · rw [b1 _ _ e2 e] at nD
              cases nD
        have hG2q := bG2 _ _ nqp hGq
        have pos1 : 2 ≤ 2 * 3 ^ (i + 1) := by omega
        have hsz : (rs.map V.ref).length < sizeLine := by
          rw [List.length_map, hlen]
          exact Nat.lt_of_lt_of_le (by omega : _ < 61) (by decide)
        have ne : ∀ {G3 : Hp} {e : Addr}, But p G2 G3 → G3 e = some (.lst []) → Dp K G3 (.ref q) (ltabD nss) ∧ Dp K G3 (.ref e) (.list []) := fun b3 he => ⟨ldp_tab (b3 _ _ nqp hG2q) (Paired.keepMem hrs fun r hr ms h => b3 _ _ (hfr r hr).2.1 (bG2 _ _ (hfr r hr).2.1 h.1)), .lst (SqL.of he) .nil⟩
        refine ⟨_, rfl, rfl, _, rfl, ?_⟩
        by_cases way0 : way = 0
        · rw [decide_eq_true (congrArg V.int way0)]
          refine iteT ⟨_, rfl, Nat.zero_le _, fun e ne0 => ?_⟩
          have be : But p G2 (upd G2 e (.lst [])) := But.same (same_upd ne0)
          obtain ⟨d1, d2⟩ := ne be upd_same
          refine ⟨_, _, d1, d2, shaped_ltab _, rfl, _, rfl, ?_⟩
          rw [eqv_none]
          have nDp : D ≠ p := fun e => by
            rw [e, hG1p] at nD
            cases nD
          by_cases emp : rs = []
          · have en : nss = [] := by
              rw [emp] at hrs
              cases hrs
              rfl
            rw [en]
            refine iteF ⟨_, rfl, rfl, _, rfl, ?_⟩
            rw [decide_eq_false (fun h => by have := V.int.inj h; omega)]
            refine iteF ⟨_, rfl, rfl, _, rfl, ?_⟩
            rw [decide_eq_false (fun h => by have := V.int.inj h; omega)]
            have hq3 := be _ _ nqp hG2q
            refine iteF ⟨_, rfl, .inl ⟨rfl, _, SqL.of hq3⟩, _, rfl, q, _, _, rfl, rfl, hq3, hsz, ?_⟩
            exact fin _ D ns o3 _ _ _ _ _ (bG2.trans be) (same_upd ne0 _ _ h3) (s3.mono (by omega)) nGD (be _ _ nDp hD) hl fun j hj => Nat.le_trans (hb j hj) pos1
          · have en : nss.isEmpty = false := by
              cases nss with
              | nil => cases hrs; exact absurd rfl emp
              | cons _ _ => rfl
            rw [en]
            have hq3 := be _ _ nqp hG2q
            refine iteT ⟨_, rfl, _, rfl, p, q, o3, _, _, rfl, same_upd ne0 _ _ h3, s3, by omega, hq3, by simpa using emp, by rw [List.length_map]; omega, Ne.symm nqp, fun x o4 hx ho4 => ?_⟩
            obtain ⟨r, hr2, rfl⟩ := List.mem_map.mp hx
            obtain ⟨ms, _, hrow, hml, hmb⟩ := paired_mem hrs hr2
            have b4 : But p G2 (upd (upd G2 e (.lst [])) p o4) := be.trans But.upd
            have hrow4 := b4 _ _ (hfr r hr2).2.1 (bG2 _ _ (hfr r hr2).2.1 hrow)
            refine ⟨r, _, rfl, .inl (SqL.of hrow4), fun L nL => ?_⟩
            generalize hG5 : upd (upd (upd G2 e (.lst [])) p o4) L (.lst (ms.map V.int)) = G5
            have s5 : Same (upd (upd G2 e (.lst [])) p o4) G5 := by rw [← hG5]; exact same_upd nL
            have b5 := b4.trans (But.same s5)
            have hq5 := b5 _ _ nqp hG2q
            refine ⟨_, rfl, .inl ⟨rfl, _, SqL.of hq5⟩, _, rfl, q, _, _, rfl, rfl, hq5, hsz, ?_⟩
            refine fin _ L ms o4 _ _ _ _ _ (bG2.trans b5) (s5 _ _ upd_same) (ho4.mono (by omega)) ?_ (by rw [← hG5, upd_same]) hml fun j hj => Nat.le_trans (hmb j hj) p3
            exact (bG2.trans b4).free upd_same nL
        · rw [decide_eq_false (fun h => way0 (V.int.inj h))]
          have nDp : D ≠ p := fun e => by
            rw [e, hG1p] at nD
            cases nD
          refine iteF ⟨_, rfl, rfl, _, rfl, ?_⟩
          by_cases way1 : way = 1
          · rw [decide_eq_true (congrArg V.int way1)]
            refine iteT ⟨_, rfl, Nat.zero_le _, fun e ne0 => ?_⟩
            have be : But p G2 (upd G2 e (.lst [])) := But.same (same_upd ne0)
            obtain ⟨d1, d2⟩ := ne be upd_same
            refine ⟨_, _, d1, d2, shaped_ltab _, rfl, _, rfl, ?_⟩
            rw [eqv_none]
            by_cases emp : rs = []
            · have en : nss = [] := by
                rw [emp] at hrs
                cases hrs
                rfl
              rw [en]
              refine iteF ⟨_, rfl, rfl, _, rfl, ?_⟩
              rw [decide_eq_false (fun h => by have := V.int.inj h; omega)]
              have hq3 := be _ _ nqp hG2q
              refine iteF ⟨_, rfl, .inl ⟨rfl, _, SqL.of hq3⟩, _, rfl, q, _, _, rfl, rfl, hq3, hsz, ?_⟩
              exact fin _ D ns o3 _ _ _ _ _ (bG2.trans be) (same_upd ne0 _ _ h3) (s3.mono (by omega)) nGD (be _ _ nDp hD) hl fun j hj => Nat.le_trans (hb j hj) pos1
            · have en : nss.isEmpty = false := by
                cases nss with
                | nil => cases hrs; exact absurd rfl emp
                | cons _ _ => rfl
              rw [en]
              have hq3 := be _ _ nqp hG2q
              refine iteT ⟨_, rfl, p, o3, _, 3, rfl, same_upd ne0 _ _ h3, s3, by omega, by decide, by decide, fun v o4 v0 v1 ho4 => ⟨1, v, rfl, rfl, ?_⟩⟩
              have b4 : But p G2 (upd (upd G2 e (.lst [])) p o4) := be.trans But.upd
              have hq4 := b4 _ _ nqp hG2q
              refine ⟨_, rfl, _, rfl, p, q, o4, _, _, rfl, upd_same, ho4, by omega, hq4, by simpa using emp, by rw [List.length_map]; omega, Ne.symm nqp, fun x o5 hx ho5 => ?_⟩
              obtain ⟨r, hr2, rfl⟩ := List.mem_map.mp hx
              obtain ⟨ms, _, hrow, hml, hmb⟩ := paired_mem hrs hr2
              rw [upd_upd]
              have b5 : But p G2 (upd (upd G2 e (.lst [])) p o5) := be.trans But.upd
              have hrow5 := b5 _ _ (hfr r hr2).2.1 (bG2 _ _ (hfr r hr2).2.1 hrow)
              refine ⟨r, rfl, ⟨_, SqL.of hrow5⟩, fun L nL => map_listG ((ms.map fun j => (1 + v) * j).map V.int) (by rw [List.length_map, List.length_map, List.length_map]) hrow5 nL (by rw [List.length_map]; omega) (fun _ => rfl) ?_ ?_⟩
              · intro j x y G' hx hy sH R hR
                obtain ⟨z, rfl, hz⟩ := int_at hx
                rw [List.getElem?_map, List.getElem?_map, hz] at hy
                cases hy
                exact ⟨_, rfl, _, rfl, _, _, rfl, rfl, .inl ⟨by omega, by omega⟩, hR _ same_refl⟩
              · intro G6 s6 hL
                have b6 := b5.trans (But.same s6)
                have hq6 := b6 _ _ nqp hG2q
                refine ⟨_, rfl, .inl ⟨rfl, _, SqL.of hq6⟩, _, rfl, q, _, _, rfl, rfl, hq6, hsz, ?_⟩
                refine fin _ L (ms.map fun j => (1 + v) * j) o5 _ _ _ _ _ (bG2.trans b6) (s6 _ _ upd_same) (ho5.mono (by omega)) ((bG2.trans b5).free upd_same nL) hL (by rw [List.length_map]; exact hml) fun j hj => ?_
                obtain ⟨z, hz, rfl⟩ := List.mem_map.mp hj
                have h3 := hmb z hz
                have h4 : (1 + v).natAbs ≤ 3 := by omega
                rw [Int.natAbs_mul, Nat.pow_succ]
                have := Nat.mul_le_mul h4 h3
                omega
          · rw [decide_eq_false (fun h => way1 (V.int.inj h))]
            refine iteF ⟨_, rfl, rfl, _, rfl, ?_⟩
            by_cases way2 : way = 2
            · rw [decide_eq_true (congrArg V.int way2)]
              refine iteT ⟨_, rfl, (wd : Int), rfl, by omega, by omega, fun L nL => comp_rangeD (lo := 0) (n := wd) (fun j G' => But p G2 G' ∧ ∃ o4, G' p = some o4 ∧ SrcL (n + 40 * i + 1 + wd + j) o4) (fun _ y => ∃ v, y = .int v ∧ v.natAbs ≤ 2)
                ⟨fun _ _ _ e => e, o3, h3, s3⟩ ?_ (by omega) (fun _ => rfl) ?_ ?_⟩
              · rintro j G' u ⟨b4, o4, h4, s4⟩
                have nLp : L ≠ p := fun e => by
                  rw [e, h3] at nL
                  cases nL
                refine ⟨fun b x nb e => ?_, o4, by rw [upd_ne (Ne.symm nLp)]; exact h4, s4⟩
                rw [upd_ne (ne_of_none e nL)]
                exact b4 _ _ nb e
              · rintro j G' cur hj ⟨b4, o4, h4, s4⟩ hcur R hR
                have nLp : L ≠ p := fun e => by
                  rw [e, h3] at nL
                  cases nL
                refine ⟨Nat.le_of_ble_eq_true rfl, fun l hl0 => ?_⟩
                have nlp : l ≠ p := fun e => by
                  rw [e, h4] at hl0
                  cases hl0
                refine ⟨_, rfl, p, o4, _, 3, rfl, same_upd hl0 _ _ h4, s4, by omega, by decide, by decide, fun v o5 v0 v1 ho5 => ?_⟩
                have key : ∀ j : Nat, j < 3 → ∃ f : Int, ([0, 0, 1] : List Int)[j]? = some f ∧ f.natAbs ≤ 2 := by decide
                obtain ⟨jj, rfl⟩ : ∃ jj : Nat, v = jj := ⟨v.toNat, by omega⟩
                obtain ⟨f, hf, hf2⟩ := key jj (by omega)
                refine ⟨l, jj, _, V.int f, rfl, rfl, by rw [upd_ne nlp, upd_same]; rfl, atI_nat (xs := ([0, 0, 1] : List Int).map V.int) (by rw [List.getElem?_map, hf]; rfl), hR _ _ ⟨f, rfl, hf2⟩ ⟨(b4.trans (But.same (same_upd hl0))).trans But.upd, o5, upd_same, ho5⟩ ?_⟩
                rw [upd_ne nLp, upd_ne]
                exact ne_of_none hcur hl0
              · rintro G6 ys ⟨b4, o4, h4, s4⟩ hL gv2
                obtain ⟨ms, rfl, hml, hmb⟩ := gv2.ints
                have hq6 := b4 _ _ nqp hG2q
                refine ⟨_, rfl, .inl ⟨rfl, _, SqL.of hq6⟩, _, rfl, q, _, _, rfl, rfl, hq6, hsz, ?_⟩
                exact fin _ L ms o4 _ _ _ _ _ (bG2.trans b4) h4 (s4.mono (by omega)) (bG2.free h3 nL) hL hml fun j hj => Nat.le_trans (hmb j hj) pos1
            · rw [decide_eq_false (fun h => way2 (V.int.inj h))]
              refine iteF ⟨_, rfl, .inl ⟨rfl, _, SqL.of hG2q⟩, _, rfl, q, _, _, rfl, rfl, hG2q, hsz, ?_⟩
              exact fin _ D ns o3 _ _ _ _ _ bG2 h3 (s3.mono (by omega)) nGD hD hl fun j hj => Nat.le_trans (hb j hj) pos1
    · rintro σ G ⟨c4, c5, c6, c7, c8, c9, o1, rs, nss, rfl, hG, ho1, bG, hGq, hrs, hlen, hfr⟩
      exact ⟨_, rfl, k G q rs nss o1 bG hG ho1 hGq hrs hlen hq nqp hfr⟩
end
/-! ### the law's drawn table -/
abbrev sLTable : Stmt := top 31
def spLTable : Sp := fun vs H Q _ => ∃ (p : Addr) (o : HO) (n mw m : Nat), vs = [.ref p, .int (mw : Int), .int (m : Int)] ∧ H p = some o ∧ SrcL n o ∧ n ≤ 40000 ∧ 0 < mw ∧ mw ≤ 11 ∧ m ≤ 59 ∧
  ∀ H' T q rs nss o' wd k f, But p H H' → H' p = some o' → SrcL (n + 2500) o' → H' T = some (.lst [.ref q, .int f]) → H' q = some (.lst (rs.map V.ref)) → LRows H' wd (2 * 3 ^ k) rs nss → rs.length = k → k ≤ m → 1 ≤ wd → wd ≤ mw → f ∈ fields →
    H T = none → T ≠ p → H q = none → q ≠ p → q ≠ T → (∀ r ∈ rs, H r = none ∧ r ≠ p ∧ r ≠ q ∧ r ≠ T) → Q (.ref T) H'
section
variable {P : Program} {w : World} {K : PySem.W.Frag} {mg : Str → Option Value} {base : Heap}
abbrev nsLT : List Str := ["_law_source_here", "_law_most_width", "_law_most", "_law_width_here"]
theorem scLT : FnScope nsLT ["_law_source_here", "_law_most_width", "_law_most"] (defScope sLTable) := ⟨rfl, rfl, rfl, by decide +kernel, rfl, by decide +kernel, by decide +kernel⟩
theorem ok_ltable {f fD fF fR : Addr} {fd fdD fdF fdR : FuncData} (F : Fun K "_law_table" "_law_table" sLTable f fd)
    (GD : FnOk P w K mg base CX0 1 fD fdD ["_law_source_here", "_law_many"] spDraw) (kD : PySem.W.keepIn K (.ref fD) = true) (bD : Binds K fdD ["_law_source_here", "_law_many"] []) (gD : mg "_law_draw" = some (.ref fD))
    (GF : FnOk P w K mg base CX0 2 fF fdF ["_law_source_here"] spLField) (kF : PySem.W.keepIn K (.ref fF) = true) (bF : Binds K fdF ["_law_source_here"] []) (gF : mg "_law_field" = some (.ref fF))
    (GR : FnOk P w K mg base CX0 3 fR fdR ["_law_source_here", "_law_width_here", "_law_many"] spLRows) (kR : PySem.W.keepIn K (.ref fR) = true) (bR : Binds K fdR ["_law_source_here", "_law_width_here", "_law_many"] []) (gR : mg "_law_rows" = some (.ref fR)) :
    FnOk P w K mg base CX0 4 f fd ["_law_source_here", "_law_most_width", "_law_most"] spLTable := by
  refine F.ok scLT (fun vs H Q E h => ?_) (fun cdv A outer s H vs Q E hr h => ?_)
  · obtain ⟨p, o, n, mw, m, rfl, _⟩ := h
    rfl
  · obtain ⟨p, o, n, mw, m, rfl, hp, ho, hn, w0, w1, hm, k⟩ := h
    have nd := scLT.nd
    have hr1 : Room 1 _ := hr.mono (by decide)
    have hr2 : Room 2 _ := hr.mono (by decide)
    refine ⟨_, pss_cons (ps_set (i := 3) nd rfl (.inl rfl) (pe_op op_add pe_int (pe_call GD hr1 rfl gD kD bD .nil pass0 (pa_cons (pv 0) (pa_cons (pv 1) pa_nil)))))
      (pss_one (ps_ret (pe_lst (pa_cons (pe_call GR hr rfl gR kR bR .nil pass0 (pa_cons (pv 0) (pa_cons (pv 3) (pa_cons (pe_call GD hr1 rfl gD kD bD .nil pass0 (pa_cons (pv 0) (pa_cons (pe_op op_add (pv 2) pe_int) pa_nil))) pa_nil))))
        (pa_cons (pe_call GF hr2 rfl gF kF bF .nil pass0 (pa_cons (pv 0) pa_nil)) pa_nil))))), ?_⟩
    refine ⟨_, rfl, _, rfl, p, o, n, mw, rfl, hp, ho, by omega, by omega, by omega, fun d o2 d0 d1 ho2 => ⟨_, _, rfl, rfl, ?_⟩⟩
    obtain ⟨dn, rfl⟩ : ∃ dn : Nat, d = dn := ⟨d.toNat, by omega⟩
    have e1 : (1 : Int) + (dn : Int) = ((dn + 1 : Nat) : Int) := by omega
    generalize hH2 : upd H p o2 = H2
    have hp2 : H2 p = some o2 := by rw [← hH2, upd_same]
    have b2 : But p H H2 := by rw [← hH2]; exact But.upd
    refine ⟨_, rfl, _, rfl, _, rfl, _, rfl, _, _, rfl, rfl, p, o2, n + 1, ((m + 1 : Nat) : Int), rfl, hp2, ho2, by omega, by omega, by omega, fun c o3 c0 c1 ho3 => ?_⟩
    obtain ⟨cn, rfl⟩ : ∃ cn : Nat, c = cn := ⟨c.toNat, by omega⟩
    generalize hH3 : upd H2 p o3 = H3
    have hp3 : H3 p = some o3 := by rw [← hH3, upd_same]
    have b3 : But p H H3 := b2.trans (by rw [← hH3]; exact But.upd)
    refine ⟨p, o3, n + 2, dn + 1, cn, (by show [V.ref p, V.int (1 + (dn : Int)), V.int (cn : Int)] = _; rw [e1]), hp3, ho3, by omega, by omega, by omega, fun H4 q rs nss o4 b4 hp4 ho4 hq4 hrs hrl nq4 nqp hfr => ?_⟩
    refine ⟨_, rfl, p, o4, n + 2 + 40 * cn, rfl, hp4, ho4, by omega, fun H5 fl o5 b5 hp5 ho5 hf => ?_⟩
    refine ⟨Nat.le_of_ble_eq_true rfl, fun T nT => ?_⟩
    have b35 := b3.trans (b4.trans b5)
    have freeH : ∀ {a : Addr}, a ≠ p → H3 a = none → H a = none := fun {a} na h => by
      cases e : H a with
      | none => rfl
      | some x =>
        rw [b3 _ _ na e] at h
        cases h
    have nTp : T ≠ p := fun e => by
      rw [e, hp5] at nT
      cases nT
    have hq5 := b5 _ _ nqp hq4
    have nqT : q ≠ T := fun e => by
      rw [e, nT] at hq5
      cases hq5
    have nrT : ∀ r ∈ rs, r ≠ T := fun r m e => by
      obtain ⟨ns, _, h, _⟩ := paired_mem hrs m
      have h2 := b5 _ _ (hfr r m).2.1 h
      rw [e, nT] at h2
      cases h2
    refine k _ T q rs nss o5 (dn + 1) cn fl (b35.trans (But.same (same_upd nT))) (by rw [upd_ne (Ne.symm nTp)]; exact hp5) (ho5.mono (by omega)) upd_same (by rw [upd_ne nqT]; exact hq5) ?_ hrl (by omega) (by omega) (by omega) hf (b35.free hp5 nT) nTp (freeH nqp nq4) nqp nqT ?_
    · refine Paired.keepMem hrs fun r m ns h => ⟨?_, h.2⟩
      rw [upd_ne (nrT r m)]
      exact b5 _ _ (hfr r m).2.1 h.1
    · intro r m
      exact ⟨freeH (hfr r m).2.1 (hfr r m).1, (hfr r m).2.1, (hfr r m).2.2, nrT r m⟩
end
/-! ### the law bends lines -/
def oddA : List Str := ["", "-", "0", "1 2", "field 0", "field 2", "field 4", "field", "field  2", "-0", "00", "+1", "1 ", " 1"]
def oddB : List Str := ["1  2", "1_0", "a", ("1 1 1 1 1 1 1 1 1 1 1 1 " : Str) ++ ("1" : Str), "- 1", "--1", "1.0", "13", "-1", "field -2"]
def oddW : List Str := ["", "0", "1", "-1", "-", "x", "01", "9", "2"]
theorem odd_lk : ∀ s ∈ oddA ++ oddB, Lk 60 s := by
  have h : (oddA ++ oddB).all (okPiece true) = true := by decide +kernel
  rw [List.all_eq_true] at h
  exact fun s m => okPiece_lk (h s m)
theorem odd_wk : ∀ s ∈ oddW, Wk s ∧ s.length ≤ 10 := by
  have h : oddW.all (fun s => okPiece false s && decide (s.length ≤ 10)) = true := by decide +kernel
  rw [List.all_eq_true] at h
  intro s m
  have := h s m
  rw [Bool.and_eq_true] at this
  exact ⟨okPiece_wk this.1, of_decide_eq_true this.2⟩
def spLBent : Sp := fun vs H Q _ => ∃ (p L : Addr) (o : HO) (n B : Nat) (ls : List Str), vs = [.ref p, .ref L] ∧ H p = some o ∧ SrcL n o ∧ n ≤ 90000 ∧ H L = some (.lst (ls.map V.str)) ∧ L ≠ p ∧ ls ≠ [] ∧ ls.length ≤ 100 ∧ B ≤ 4000 ∧ 0 < B ∧ (∀ l ∈ ls, Lk B l) ∧
  ∀ (H' : Hp) (q : Addr) (ls' : List Str) (o' : HO), But p H H' → H' p = some o' → SrcL (n + 10) o' → H' q = some (.lst (ls'.map V.str)) → H q = none → q ≠ p → ls'.length ≤ ls.length + 1 → (∀ l ∈ ls', Lk (B + 60) l) → Q (.ref q) H'
theorem str_at {ss : List Str} {j : Nat} {x : V} (h : (ss.map V.str)[j]? = some x) : ∃ s, x = .str s ∧ ss[j]? = some s := by
  rw [List.getElem?_map] at h
  obtain ⟨s, hs, rfl⟩ := Option.map_eq_some_iff.mp h
  exact ⟨s, rfl, hs⟩
section
variable {P : Program} {w : World} {K : PySem.W.Frag} {mg : Str → Option Value} {base : Heap}
abbrev nsLB : List Str := ["_law_source_here", "_law_lines", "_law_at", "_law_way", "_law_odd", "_law_line", "_law_words", "_law_spot", "_law_word"]
theorem scLB : FnScope nsLB ["_law_source_here", "_law_lines"] (defScope sLBent) := ⟨rfl, rfl, rfl, by decide +kernel, rfl, by decide +kernel, by decide +kernel⟩
theorem ok_lbent {f fD fP : Addr} {fd fdD fdP : FuncData} (F : Fun K "_law_bent" "_law_bent" sLBent f fd) (N : Nm mg)
    (GD : FnOk P w K mg base CX0 1 fD fdD ["_law_source_here", "_law_many"] spDraw) (kD : PySem.W.keepIn K (.ref fD) = true) (bD : Binds K fdD ["_law_source_here", "_law_many"] []) (gD : mg "_law_draw" = some (.ref fD))
    (GP : FnOk P w K mg base CX0 2 fP fdP ["_law_source_here", "_law_things"] (spPick K)) (kP : PySem.W.keepIn K (.ref fP) = true) (bP : Binds K fdP ["_law_source_here", "_law_things"] []) (gP : mg "_law_pick" = some (.ref fP)) :
    FnOk P w K mg base CX0 3 f fd ["_law_source_here", "_law_lines"] spLBent := by
  refine F.ok scLB (fun vs H Q E h => ?_) (fun cdv A outer s H vs Q E hr h => ?_)
  · obtain ⟨p, L, o, n, B, ls, rfl, _⟩ := h
    rfl
  · obtain ⟨p, L, o, n, B, ls, rfl, hp, ho, hn, hL, nLp, hne, hlen, hB, hB0, hls, k⟩ := h
    have nd := scLB.nd
    have hr1 : Room 1 _ := hr.mono (by decide)
    refine ⟨_, pss_cons (ps_par (i := 2) (j := 3) rfl nd rfl rfl (by decide) rfl rfl (pa_cons (pe_call GD hr1 rfl gD kD bD .nil pass0 (pa_cons (pv 0) (pa_cons (pe_callB lenL (by rfl) N.len PySem.boot_len (pa_cons (pv 1) pa_nil)) pa_nil))) (pa_cons (pe_call GD hr1 rfl gD kD bD .nil pass0 (pa_cons (pv 0) (pa_cons pe_int pa_nil))) pa_nil)) (by rfl))
      (pss_cons (ps_set (i := 4) nd rfl (.inl rfl) (pe_lst (pa_cons pe_str (pa_cons pe_str (pa_cons pe_str (pa_cons pe_str (pa_cons pe_str (pa_cons pe_str (pa_cons pe_str (pa_cons pe_str (pa_cons pe_str (pa_cons pe_str (pa_cons pe_str (pa_cons pe_str (pa_cons pe_str (pa_cons pe_str pa_nil))))))))))))))))
      (pss_cons (ps_set (i := 5) nd rfl (.inl rfl) (pe_call GP hr rfl gP kP bP .nil pass0 (pa_cons (pv 0) (pa_cons (pe_op op_cat (pv 4) (pe_lst (pa_cons pe_str (pa_cons pe_str (pa_cons pe_str (pa_cons (pe_op op_add_str (pe_op op_rep12 pe_str pe_int) pe_str)
          (pa_cons pe_str (pa_cons pe_str (pa_cons pe_str (pa_cons pe_str (pa_cons pe_str (pa_cons pe_str pa_nil)))))))))))) pa_nil))))
      (pss_cons (ps_if (pt_cmpR op_eq (pv 3) pe_int (nomark _)) (pss_one (ps_ret (pe_op op_cat (pe_op op_cat (pe_slice sl_list (pv 1) po_none (po_some (pv 2))) (pe_lst (pa_cons (pv 5) pa_nil))) (pe_slice sl_list (pv 1) (po_some (pv 2)) po_none)))) pss_nil)
      (pss_cons (ps_if (pt_cmpR op_eq (pv 3) pe_int (nomark _)) (pss_one (ps_ret (pe_op op_cat (pe_slice sl_list (pv 1) po_none (po_some (pv 2))) (pe_slice sl_list (pv 1) (po_some (pe_op op_add (pv 2) pe_int)) po_none)))) pss_nil)
      (pss_cons (ps_if (pt_cmpR op_eq (pv 3) pe_int (nomark _)) (pss_one (ps_ret (pe_op op_cat (pe_op op_cat (pe_slice sl_list (pv 1) po_none (po_some (pv 2))) (pe_lst (pa_cons (pv 5) pa_nil))) (pe_slice sl_list (pv 1) (po_some (pe_op op_add (pv 2) pe_int)) po_none)))) pss_nil)
      (pss_cons (ps_set (i := 6) nd rfl (.inl rfl) (pe_split (pe_ix ixL (pv 1) (pv 2) (fun _ _ => rfl)) pe_str))
      (pss_cons (ps_par (i := 7) (j := 8) rfl nd rfl rfl (by decide) rfl rfl (pa_cons (pe_call GD hr1 rfl gD kD bD .nil pass0 (pa_cons (pv 0) (pa_cons (pe_op op_add (pe_callB lenL (by rfl) N.len PySem.boot_len (pa_cons (pv 6) pa_nil)) pe_int) pa_nil)))
          (pa_cons (pe_call GP hr rfl gP kP bP .nil pass0 (pa_cons (pv 0) (pa_cons (pe_lst (pa_cons pe_str (pa_cons pe_str (pa_cons pe_str (pa_cons pe_str (pa_cons pe_str (pa_cons pe_str (pa_cons pe_str (pa_cons pe_str (pa_cons pe_str pa_nil)))))))))) pa_nil))) pa_nil)) (by rfl))
      (pss_cons (ps_set (i := 6) nd rfl (.inl rfl) (pe_op op_cat (pe_op op_cat (pe_slice sl_list (pv 6) po_none (po_some (pv 7))) (pe_lst (pa_cons (pv 8) pa_nil)))
          (pe_slice sl_list (pv 6) (po_some (pe_op op_add (pv 7) (pe_callTy call_int1 (by rfl) N.int (by decide +kernel) (pa_cons (pe_cmpR op_gt (pv 3) pe_int (nomark _)) pa_nil)))) po_none)))
      (pss_one (ps_ret (pe_op op_cat (pe_op op_cat (pe_slice sl_list (pv 1) po_none (po_some (pv 2))) (pe_lst (pa_cons (pe_join pe_str (pv 6)) pa_nil))) (pe_slice sl_list (pv 1) (po_some (pe_op op_add (pv 2) pe_int)) po_none)))))))))))), ?_⟩
    have hpos : 0 < ls.length := List.length_pos_iff.mpr hne
    refine ⟨_, rfl, _, rfl, L, _, rfl, hL, p, o, n, ((ls.map V.str).length : Nat), rfl, hp, ho, by omega, by rw [List.length_map]; omega, by rw [List.length_map]; omega, fun at_ o1 a0 a1 ho1 => ?_⟩
    rw [List.length_map] at a1
    obtain ⟨an, rfl⟩ : ∃ an : Nat, at_ = an := ⟨at_.toNat, by omega⟩
    generalize hH1 : upd H p o1 = H1
    have hp1 : H1 p = some o1 := by rw [← hH1, upd_same]
    have b1 : But p H H1 := by rw [← hH1]; exact But.upd
    refine ⟨_, rfl, p, o1, n + 1, 6, rfl, hp1, ho1, by omega, by decide, by decide, fun way o2 w0 w1 ho2 => ?_⟩
    generalize hH2 : upd H1 p o2 = H2
    have hp2 : H2 p = some o2 := by rw [← hH2, upd_same]
    have b2 : But p H H2 := b1.trans (by rw [← hH2]; exact But.upd)
    refine ⟨_, _, rfl, ?_⟩
    refine ⟨Nat.le_of_ble_eq_true rfl, fun O nO => ?_⟩
    generalize hG4 : upd H2 O _ = G4
    have s4 : Same H2 G4 := by rw [← hG4]; exact same_upd nO
    have hO4 : G4 O = some (.lst (oddA.map V.str)) := by rw [← hG4, upd_same]; rfl
    refine ⟨_, rfl, _, rfl, rfl, rfl, _, _, rfl, rfl, Nat.le_of_ble_eq_true rfl, Nat.le_of_ble_eq_true rfl, fun O2 nO2 => ?_⟩
    generalize hG5 : upd G4 O2 _ = G5
    have s5 : Same G4 G5 := by rw [← hG5]; exact same_upd nO2
    have hO5 := s5 _ _ hO4
    have hO5b : G5 O2 = some (.lst (oddB.map V.str)) := by rw [← hG5, upd_same]; rfl
    have s35 := s4.trans s5
    refine ⟨O, O2, oddA.map V.str, oddB.map V.str, rfl, rfl, hO5, hO5b, Nat.le_of_ble_eq_true rfl, fun O3 nO3 => ?_⟩
    generalize hG6 : upd G5 O3 _ = G6
    have s6 : Same G5 G6 := by rw [← hG6]; exact same_upd nO3
    have s36 := s35.trans s6
    have hO6 : G6 O3 = some (.lst (oddA.map V.str ++ oddB.map V.str)) := by rw [← hG6, upd_same]
    have hp6 := s36 _ _ hp2
    have n3p : p ≠ O3 := fun e => by
      rw [← e] at nO3
      have h := s35 _ _ hp2
      rw [nO3] at h
      cases h
    have hpG6 := hp6
    have bG6 : But p H G6 := b2.trans (But.same s36)
    refine ⟨p, O3, o2, n + 2, oddA.map V.str ++ oddB.map V.str, rfl, hp6, ho2, by omega, hO6, by decide, by decide, n3p, fun x o3 hx ho3 => ?_⟩
    obtain ⟨ln, rfl, hlnm⟩ : ∃ ln : Str, x = .str ln ∧ ln ∈ oddA ++ oddB := by
      rw [← List.map_append] at hx
      obtain ⟨ln, h1, h2⟩ := List.mem_map.mp hx
      exact ⟨ln, h2.symm, h1⟩
    have hln := odd_lk ln hlnm
    generalize hG7 : upd G6 p o3 = G7
    have hp7 : G7 p = some o3 := by rw [← hG7, upd_same]
    have b7 : But p H G7 := bG6.trans (by rw [← hG7]; exact But.upd)
    have fin : ∀ (G : Hp) (o9 : HO) (m : Nat), But p H G → G p = some o9 → SrcL m o9 → m ≤ n + 10 → ∀ (ls' : List Str), ls'.length ≤ ls.length + 1 → (∀ l ∈ ls', Lk (B + 60) l) → ∀ (vs' : List V), vs' = ls'.map V.str → ∀ q, G q = none → Q (.ref q) (upd G q (.lst vs')) := by
      rintro G o9 m bG hG ho9 hm ls' hl' hk' vs' rfl q nq
      have nqp : q ≠ p := fun e => by
        rw [e, hG] at nq
        cases nq
      exact k _ q ls' o9 (bG.trans (But.same (same_upd nq))) (by rw [upd_ne (Ne.symm nqp)]; exact hG) (ho9.mono hm) upd_same (bG.free hG nq) nqp hl' hk'
    have tk : cutV (ls.map V.str) none (some (an : Int)) = (ls.take an).map V.str := by rw [cutV_take, List.map_take]
    have dk : ∀ j : Nat, cutV (ls.map V.str) (some (j : Int)) none = (ls.drop j).map V.str := fun j => by rw [cutV_drop, List.map_drop]
    have lt : ∀ {a b : List Str}, a.length ≤ 101 → b.length ≤ 101 → (a.map V.str).length + (b.map V.str).length ≤ sizeLine := by
      intro a b h1 h2
      rw [List.length_map, List.length_map]
      exact Nat.le_trans (by omega : _ ≤ 202) (by decide)
    have ltk : (ls.take an).length ≤ 100 := by rw [List.length_take]; omega
    have ldk : ∀ j, (ls.drop j).length ≤ 100 := fun j => by rw [List.length_drop]; omega
    have mt : ∀ l ∈ ls.take an, Lk (B + 60) l := fun l m => (hls l (List.mem_of_mem_take m)).mono (by omega)
    have md : ∀ j, ∀ l ∈ ls.drop j, Lk (B + 60) l := fun j l m => (hls l (List.mem_of_mem_drop m)).mono (by omega)
    have e1 : (an : Int) + 1 = ((an + 1 : Nat) : Int) := by omega
    -- the parts are put together: a line x in the middle
    have three : ∀ x : Str, Lk (B + 60) x → ∀ j : Nat, an ≤ j → (∀ l ∈ ls.take an ++ [x] ++ ls.drop j, Lk (B + 60) l) ∧ (ls.take an ++ [x] ++ ls.drop j).length ≤ ls.length + 1 := by
      intro x hx j hj
      refine ⟨fun l m => ?_, ?_⟩
      · rcases List.mem_append.mp m with m | m
        · rcases List.mem_append.mp m with m | m
          · exact mt l m
          · rw [List.mem_singleton.mp m]
            exact hx
        · exact md j l m
      · rw [List.length_append, List.length_append, List.length_take, List.length_drop, List.length_singleton]
        omega
    have hL7 := b7 _ _ nLp hL
    refine ⟨_, rfl, rfl, _, rfl, ?_⟩
    by_cases v0 : way = 0
    · rw [decide_eq_true (congrArg V.int v0)]
      refine iteT ⟨_, rfl, _, rfl, _, rfl, L, _, rfl, SqL.of hL7, fun S1 n1 => ?_⟩
      rw [tk]
      have c1 := same_upd n1 (o := .lst ((ls.take an).map V.str))
      refine ⟨_, rfl, Nat.le_of_ble_eq_true rfl, fun S2 n2 => ?_⟩
      have c2 := same_upd n2 (o := .lst [V.str ln])
      refine ⟨S1, S2, _, _, rfl, rfl, c2 _ _ upd_same, upd_same, lt (b := [ln]) (by omega) (Nat.le_of_ble_eq_true rfl), fun S3 n3 => ?_⟩
      have c3 := same_upd n3 (o := .lst ((ls.take an).map V.str ++ [V.str ln]))
      have c13 := (c1.trans c2).trans c3
      refine ⟨_, rfl, _, rfl, _, rfl, L, _, rfl, SqL.of (c13 _ _ hL7), fun S4 n4 => ?_⟩
      rw [dk]
      have c4 := same_upd n4 (o := .lst ((ls.drop an).map V.str))
      have c14 := c13.trans c4
      refine ⟨S3, S4, _, _, rfl, rfl, c4 _ _ upd_same, upd_same, ?_, fun q nq => ?_⟩
      · exact lt (a := ls.take an ++ [ln]) (by rw [List.length_append, List.length_singleton]; omega) (Nat.le_succ_of_le (ldk an)) |> fun h => by rw [List.map_append] at h; exact h
      · have t3 := three ln (hln.mono (by omega)) an (Nat.le_refl _)
        refine fin _ o3 (n + 3) (b7.trans (But.same c14)) (c14 _ _ hp7) ho3 (by omega) _ t3.2 t3.1 _ ?_ q nq
        rw [List.map_append, List.map_append]
        rfl
    rw [decide_eq_false fun q => v0 (V.int.inj q)]
    refine iteF ⟨_, rfl, rfl, _, rfl, ?_⟩
    by_cases v1 : way = 1
    · rw [decide_eq_true (congrArg V.int v1)]
      refine iteT ⟨_, rfl, _, rfl, _, rfl, L, _, rfl, SqL.of hL7, fun S1 n1 => ?_⟩
      rw [tk]
      have c1 := same_upd n1 (o := .lst ((ls.take an).map V.str))
      refine ⟨_, rfl, _, rfl, _, _, rfl, rfl, _, rfl, L, _, rfl, SqL.of (c1 _ _ hL7), fun S4 n4 => ?_⟩
      rw [e1, dk]
      have c4 := same_upd n4 (o := .lst ((ls.drop (an + 1)).map V.str))
      have c14 := c1.trans c4
      refine ⟨S1, S4, _, _, rfl, rfl, c4 _ _ upd_same, upd_same, lt (by omega) (Nat.le_succ_of_le (ldk _)), fun q nq => ?_⟩
      refine fin _ o3 (n + 3) (b7.trans (But.same c14)) (c14 _ _ hp7) ho3 (by omega) (ls.take an ++ ls.drop (an + 1)) ?_ ?_ _ ?_ q nq
      · rw [List.length_append, List.length_take, List.length_drop]
        omega
      · intro l m
        rcases List.mem_append.mp m with m | m
        · exact mt l m
        · exact md _ l m
      · rw [List.map_append]
    rw [decide_eq_false fun q => v1 (V.int.inj q)]
    refine iteF ⟨_, rfl, rfl, _, rfl, ?_⟩
    by_cases v2 : way = 2
    · rw [decide_eq_true (congrArg V.int v2)]
      refine iteT ⟨_, rfl, _, rfl, _, rfl, L, _, rfl, SqL.of hL7, fun S1 n1 => ?_⟩
      rw [tk]
      have c1 := same_upd n1 (o := .lst ((ls.take an).map V.str))
      refine ⟨_, rfl, Nat.le_of_ble_eq_true rfl, fun S2 n2 => ?_⟩
      have c2 := same_upd n2 (o := .lst [V.str ln])
      refine ⟨S1, S2, _, _, rfl, rfl, c2 _ _ upd_same, upd_same, lt (b := [ln]) (by omega) (Nat.le_of_ble_eq_true rfl), fun S3 n3 => ?_⟩
      have c3 := same_upd n3 (o := .lst ((ls.take an).map V.str ++ [V.str ln]))
      have c13 := (c1.trans c2).trans c3
      refine ⟨_, rfl, _, rfl, _, _, rfl, rfl, _, rfl, L, _, rfl, SqL.of (c13 _ _ hL7), fun S4 n4 => ?_⟩
      rw [e1, dk]
      have c4 := same_upd n4 (o := .lst ((ls.drop (an + 1)).map V.str))
      have c14 := c13.trans c4
      refine ⟨S3, S4, _, _, rfl, rfl, c4 _ _ upd_same, upd_same, ?_, fun q nq => ?_⟩
      · exact lt (a := ls.take an ++ [ln]) (by rw [List.length_append, List.length_singleton]; omega) (Nat.le_succ_of_le (ldk (an + 1))) |> fun h => by rw [List.map_append] at h; exact h
      · have t3 := three ln (hln.mono (by omega)) (an + 1) (Nat.le_succ _)
        refine fin _ o3 (n + 3) (b7.trans (But.same c14)) (c14 _ _ hp7) ho3 (by omega) _ t3.2 t3.1 _ ?_ q nq
        rw [List.map_append, List.map_append]
        rfl
    rw [decide_eq_false fun q => v2 (V.int.inj q)]
    obtain ⟨la, hla⟩ : ∃ la, ls[an]? = some la := ⟨ls[an]'(by omega), List.getElem?_eq_getElem _⟩
    have lam := List.mem_of_getElem? hla
    have hlaL := hls la lam
    refine iteF ⟨_, rfl, _, rfl, L, _, _, .str la, rfl, rfl, hL7, atI_nat (by rw [List.getElem?_map, hla]; rfl), ⟨_, rfl⟩, _, _, rfl, rfl, rfl, Nat.le_trans (by have := hlaL.len; omega : la.length + 2 ≤ 5000) (by decide), fun W nW => ?_⟩
    have cW := same_upd nW (o := .lst ((Txt.split la (" " : Str)).map V.str))
    generalize hG8 : upd G7 W (.lst ((Txt.split la (" " : Str)).map V.str)) = G8 at cW ⊢
    have hW8 : G8 W = some (.lst ((Txt.split la (" " : Str)).map V.str)) := by rw [← hG8, upd_same]
    have hp8 := cW _ _ hp7
    have nWp : W ≠ p := fun e => by
      rw [e, hp7] at nW
      cases nW
    have hwl : (Txt.split la (" " : Str)).length ≤ 4001 := by
      have := msr_split (x := la) (y := (" " : Str)) (s := 32) (by decide +kernel) (by decide +kernel)
      unfold msr at this
      have := hlaL.len
      omega
    refine ⟨_, rfl, _, rfl, W, _, rfl, hW8, _, _, rfl, rfl, p, o3, n + 3, (((Txt.split la (" " : Str)).map V.str).length : Nat) + 1, rfl, hp8, ho3, by omega, by omega, by rw [List.length_map]; omega, fun spot o4 sp0 sp1 ho4 => ?_⟩
    obtain ⟨sn, rfl⟩ : ∃ sn : Nat, spot = sn := ⟨spot.toNat, by omega⟩
    generalize hG9 : upd G8 p o4 = G9
    have hp9 : G9 p = some o4 := by rw [← hG9, upd_same]
    have b89 : But p G8 G9 := by rw [← hG9]; exact But.upd
    refine ⟨_, rfl, Nat.le_of_ble_eq_true rfl, fun U nU => ?_⟩
    generalize hGU : upd G9 U _ = GU
    have cU : Same G9 GU := by rw [← hGU]; exact same_upd nU
    have hU : GU U = some (.lst (oddW.map V.str)) := by rw [← hGU, upd_same]; rfl
    have nUp : p ≠ U := fun e => by
      rw [← e, hp9] at nU
      cases nU
    refine ⟨p, U, o4, n + 4, oddW.map V.str, rfl, cU _ _ hp9, ho4, by omega, hU, by decide, by decide, nUp, fun x o5 hx ho5 => ?_⟩
    obtain ⟨wd, hwm, rfl⟩ := List.mem_map.mp hx
    obtain ⟨hwk, hw10⟩ := odd_wk wd hwm
    refine ⟨_, _, rfl, ?_⟩
    generalize hG10 : upd GU p o5 = G10
    have hp10 : G10 p = some o5 := by rw [← hG10, upd_same]
    have b810 : But p G8 G10 := b89.trans ((But.same cU).trans (by rw [← hG10]; exact But.upd))
    have hW10 := b810 _ _ nWp hW8
    have b10 : But p H G10 := (b7.trans (But.same cW)).trans b810
    have hL10 := b10 _ _ nLp hL
    generalize hws : Txt.split la (" " : Str) = ws at hW10 hwl
    have tkw : cutV (ws.map V.str) none (some (sn : Int)) = (ws.take sn).map V.str := by rw [cutV_take, List.map_take]
    have dkw : ∀ j : Nat, cutV (ws.map V.str) (some (j : Int)) none = (ws.drop j).map V.str := fun j => by rw [cutV_drop, List.map_drop]
    refine ⟨_, rfl, _, rfl, _, rfl, W, _, rfl, SqL.of hW10, fun S1 n1 => ?_⟩
    rw [tkw]
    have c1 := same_upd n1 (o := .lst ((ws.take sn).map V.str))
    refine ⟨_, rfl, Nat.le_of_ble_eq_true rfl, fun S2 n2 => ?_⟩
    have c2 := same_upd n2 (o := .lst [V.str wd])
    have sz : ∀ {a b : List V}, a.length ≤ 5000 → b.length ≤ 5000 → a.length + b.length ≤ sizeLine := fun h1 h2 => Nat.le_trans (by omega : _ ≤ 10000) (by decide)
    refine ⟨S1, S2, _, _, rfl, rfl, c2 _ _ upd_same, upd_same, sz (by rw [List.length_map, List.length_take]; omega) (Nat.le_of_ble_eq_true rfl), fun S3 n3 => ?_⟩
    have c3 := same_upd n3 (o := .lst ((ws.take sn).map V.str ++ [V.str wd]))
    have c13 := (c1.trans c2).trans c3
    generalize hG11 : upd (upd (upd G10 S1 (.lst ((ws.take sn).map V.str))) S2 (.lst [V.str wd])) S3 (.lst ((ws.take sn).map V.str ++ [V.str wd])) = G11 at c3 c13 ⊢
    have h311 : G11 S3 = some (.lst ((ws.take sn).map V.str ++ [V.str wd])) := by rw [← hG11, upd_same]
    have tail : ∀ j : Nat, sn ≤ j → ∀ (jj : Int), jj = (j : Int) → True := fun _ _ _ _ => trivial
    obtain ⟨j, hsj, hjw⟩ : ∃ j : Nat, sn ≤ j ∧ (sn : Int) + (if decide ((3 : Int) < way) = true then 1 else 0) = (j : Int) := by
      by_cases h3 : (3 : Int) < way
      · exact ⟨sn + 1, by omega, by rw [decide_eq_true h3]; simp⟩
      · exact ⟨sn, Nat.le_refl _, by rw [decide_eq_false h3]; simp⟩
    refine ⟨_, rfl, _, rfl, _, rfl, _, _, rfl, rfl, .inr ⟨_, rfl, _, _, rfl, rfl, _, rfl, W, _, rfl, SqL.of (c13 _ _ hW10), fun S4 n4 => ?_⟩⟩
    rw [hjw, dkw]
    generalize hG12 : upd G11 S4 _ = G12
    have c4 : Same G11 G12 := by rw [← hG12]; exact same_upd n4
    have h4 : G12 S4 = some (.lst ((ws.drop j).map V.str)) := by rw [← hG12, upd_same]
    refine ⟨S3, S4, _, _, rfl, rfl, c4 _ _ h311, h4, sz (by rw [List.length_append, List.length_map, List.length_take]; show _ + 1 ≤ _; omega) (by rw [List.length_map, List.length_drop]; omega), fun S5 n5 => ?_⟩
    generalize hG13 : upd G12 S5 _ = G13
    have c5 : Same G12 G13 := by rw [← hG13]; exact same_upd n5
    have h5 : G13 S5 = some (.lst ((ws.take sn ++ [wd] ++ ws.drop j).map V.str)) := by
      rw [← hG13, upd_same, List.map_append, List.map_append]
      rfl
    have c15 := (c13.trans c4).trans c5
    have lkx : Lk (B + 60) (Txt.join (" " : Str) (ws.take sn ++ [wd] ++ ws.drop j)) := by
      rw [← hws]
      exact hlaL.bend hwk hw10 sn j hsj
    have hm : msr (ws.take sn ++ [wd] ++ ws.drop j) ≤ la.length + 12 := by
      have h1 := msr_bend ws wd sn j hsj
      have h2 := msr_split (x := la) (y := (" " : Str)) (s := 32) (by decide +kernel) (by decide +kernel)
      rw [hws] at h2
      omega
    generalize hwn : ws.take sn ++ [wd] ++ ws.drop j = wn at h5 lkx hm
    have hL13 := c15 _ _ hL10
    refine ⟨_, rfl, _, rfl, _, rfl, L, _, rfl, SqL.of hL13, fun S6 n6 => ?_⟩
    rw [tk]
    generalize hG14 : upd G13 S6 _ = G14
    have c6 : Same G13 G14 := by rw [← hG14]; exact same_upd n6
    have h6 : G14 S6 = some (.lst ((ls.take an).map V.str)) := by rw [← hG14, upd_same]
    refine ⟨⟨_, rfl⟩, _, rfl, _, S5, wn, rfl, rfl, .inl (SqL.of (c6 _ _ h5)), ?_, Nat.le_of_ble_eq_true rfl, fun S7 n7 => ?_⟩
    · have h3 : (" " : Str).length = 1 := by decide
      rw [h3, Nat.mul_one]
      have := hlaL.len
      exact Nat.le_trans hm (by omega)
    generalize hG15 : upd G14 S7 _ = G15
    have c7 : Same G14 G15 := by rw [← hG15]; exact same_upd n7
    have h7 : G15 S7 = some (.lst [V.str (Txt.join (" " : Str) wn)]) := by rw [← hG15, upd_same]
    generalize hx : Txt.join (" " : Str) wn = xl at lkx h7
    refine ⟨S6, S7, _, _, rfl, rfl, c7 _ _ h6, h7, lt (b := [xl]) (by omega) (Nat.le_of_ble_eq_true rfl), fun S8 n8 => ?_⟩
    generalize hG16 : upd G15 S8 _ = G16
    have c8 : Same G15 G16 := by rw [← hG16]; exact same_upd n8
    have h8 : G16 S8 = some (.lst ((ls.take an).map V.str ++ [V.str xl])) := by rw [← hG16, upd_same]
    have c18 := ((c15.trans c6).trans c7).trans c8
    refine ⟨_, rfl, _, rfl, _, _, rfl, rfl, _, rfl, L, _, rfl, SqL.of (c18 _ _ hL10), fun S9 n9 => ?_⟩
    rw [e1, dk]
    generalize hG17 : upd G16 S9 _ = G17
    have c9 : Same G16 G17 := by rw [← hG17]; exact same_upd n9
    have h9 : G17 S9 = some (.lst ((ls.drop (an + 1)).map V.str)) := by rw [← hG17, upd_same]
    refine ⟨S8, S9, _, _, rfl, rfl, c9 _ _ h8, h9, ?_, fun q nq => ?_⟩
    · exact lt (a := ls.take an ++ [xl]) (by rw [List.length_append, List.length_singleton]; omega) (Nat.le_succ_of_le (ldk (an + 1))) |> fun h => by rw [List.map_append] at h; exact h
    · have t3 := three xl lkx (an + 1) (Nat.le_succ _)
      refine fin _ o5 (n + 5) (b10.trans (But.same (c18.trans c9))) ((c18.trans c9) _ _ hp10) ho5 (by omega) _ t3.2 t3.1 _ ?_ q nq
      rw [List.map_append, List.map_append]
      rfl
end
/-! ### the law -/
abbrev sLaw : Stmt := top 37
abbrev nsLaw : List Str := ["_law_script", "_law_source_here", "_law_turn", "_law_parts", "_law_lines", "_law_k", "_law_text", "_law_due_here", "_law_many", "_law_found"]
theorem tx_small {i : Int} (h : i.natAbs < 10 ^ 10) : (tx i).length ≤ 11 := by
  rw [TL.len_tl]
  cases i with
  | ofNat n =>
    show (TL.tl (tx (n : Int))).length ≤ 11
    rw [tl_pos]
    have := TL.numL_len (n := n) (k := 10) (by decide) h
    omega
  | negSucc n =>
    rw [tl_neg, List.length_cons]
    have := TL.numL_len (n := n + 1) (k := 10) (by decide) h
    omega
theorem tx_ok (i : Int) : PyData.strOk (tx i) = true := by
  refine (strok_iff _).mpr fun c m => ?_
  by_cases h : 57 < c
  · exact absurd m (tx_free (.inr h) (by omega))
  · omega
theorem row_lk {ns : List Int} (hl : ns.length ≤ 12) (h : ∀ n ∈ ns, n.natAbs < 10 ^ 10) : Lk 1000 (rowText ns) := by
  have sz : ∀ n ∈ ns, Sz n := fun n m => by
    have := h n m
    show n.natAbs < 10 ^ 60
    omega
  refine ⟨rowText_free, rowText_len hl sz, ?_, ?_⟩
  · by_cases e : ns = []
    · subst e
      exact (okPiece_lk (x := ("-" : Str)) (by decide +kernel)).ws
    · have e2 : rowText ns = Txt.join (" " : Str) (ns.map tx) := if_neg fun h => e (List.length_eq_zero_iff.mp h)
      rw [e2, split_txs e]
      intro w m
      obtain ⟨n, hn, rfl⟩ := List.mem_map.mp m
      exact Nat.le_trans (tx_small (h n hn)) (by decide)
  · by_cases e : ns = []
    · subst e
      decide +kernel
    · have e2 : rowText ns = Txt.join (" " : Str) (ns.map tx) := if_neg fun h => e (List.length_eq_zero_iff.mp h)
      rw [e2]
      refine (strok_iff _).mpr fun c m => ?_
      rw [TL.join_eq, TL.tl_join] at m
      rcases joinL_mem m with m | ⟨p, hp, m⟩
      · have : c = 32 := by
          have e : TL.tl (" " : Str) = [32] := by decide +kernel
          rw [e] at m
          exact List.mem_singleton.mp m
        omega
      · obtain ⟨q, hq, rfl⟩ := List.mem_map.mp hp
        obtain ⟨n, _, rfl⟩ := List.mem_map.mp hq
        exact (strok_iff _).mp (tx_ok n) c m
theorem field_lk {f : Int} (hf : f ∈ fields) : Lk 1000 (("field " : Str) ++ tx f) := by
  have h : fields.all (fun f => okPiece true (("field " : Str) ++ tx f)) = true := by decide +kernel
  rw [List.all_eq_true] at h
  exact (okPiece_lk (h f hf)).mono (by decide)
theorem badAt_rep {f w0 : Int} {l : Str} (hw : wid f l = w0) (h0 : 0 ≤ w0) : ∀ (m i : Nat), i ≤ 60 → badAt f w0 i (List.replicate m l) = if i + m ≤ 60 then none else some 60
  | 0, i, hi => by
    rw [if_pos (by omega)]
    rfl
  | m + 1, i, hi => by
    rw [List.replicate_succ, badAt, hw]
    by_cases h : i = 60
    · rw [if_pos (.inr (.inl (by omega))), if_neg (by omega), h]
    · rw [if_neg (by omega), badAt_rep hw h0 m (i + 1) (by omega)]
      by_cases h2 : i + (m + 1) ≤ 60
      · rw [if_pos h2, if_pos (by omega)]
      · rw [if_neg h2, if_neg (by omega)]
theorem row_10 : IsRow 3 ("1 0" : Str) [1, 0] := by
  refine ⟨by decide +kernel, by decide, fun n m => ?_⟩
  have : n = 1 ∨ n = 0 := by
    simp only [List.mem_cons, List.not_mem_nil, or_false] at m
    exact m
  rcases this with rfl | rfl
  · exact ⟨by show (1 : Int).natAbs < 10 ^ 60; decide, fun _ => by decide⟩
  · exact ⟨by show (0 : Int).natAbs < 10 ^ 60; decide, fun _ => by decide⟩
def t3 (m : Nat) : Str := Txt.join ("\n" : Str) (("field 3" : Str) :: List.replicate m ("1 0" : Str))
theorem t3_split (m : Nat) : Txt.split (t3 m) ("\n" : Str) = ("field 3" : Str) :: List.replicate m ("1 0" : Str) := by
  refine TL.split_join (s := 10) (S := []) (by decide +kernel) (by decide +kernel) (by simp) fun p hp => ?_
  rcases List.mem_cons.mp hp with rfl | hp
  · decide +kernel
  · rw [List.eq_of_mem_replicate hp]
    decide +kernel
theorem t3_due (m : Nat) : DueT (t3 m) (if m ≤ 60 then none else some 62) := by
  have h := DueT.rest (t := t3 m) 3 (List.replicate m ("1 0" : Str)) (by decide) (by
    rw [t3_split]
    congr 1)
  have hw := wid_row row_10
  have e : (badAt 3 (wid 3 ((List.replicate m ("1 0" : Str)).headD "")) 0 (List.replicate m ("1 0" : Str))).map (fun (k : Nat) => (k : Int) + 2) = if m ≤ 60 then none else some 62 := by
    cases m with
    | zero => rfl
    | succ m =>
      show (badAt 3 (wid 3 ("1 0" : Str)) 0 (List.replicate (m + 1) ("1 0" : Str))).map (fun (k : Nat) => (k : Int) + 2) = _
      rw [hw, badAt_rep hw (by decide) (m + 1) 0 (by decide), Nat.zero_add]
      by_cases h : m + 1 ≤ 60
      · rw [if_pos h, if_pos h]
        rfl
      · rw [if_neg h, if_neg h]
        rfl
  rw [e] at h
  exact h
theorem t3_ok (m : Nat) (hm : m ≤ 100) : TextOk (t3 m) ∧ PyData.strOk (t3 m) = true := by
  have hk : ∀ l ∈ ("field 3" : Str) :: List.replicate m ("1 0" : Str), Lk 60 l := by
    intro l hl
    rcases List.mem_cons.mp hl with rfl | hl
    · exact okPiece_lk (by decide +kernel)
    · rw [List.eq_of_mem_replicate hl]
      exact okPiece_lk (by decide +kernel)
  refine ⟨⟨?_, fun l ml => ?_⟩, (strok_iff _).mpr fun c mc => ?_⟩
  · have h1 := len_join ("\n" : Str) (("field 3" : Str) :: List.replicate m ("1 0" : Str))
    have h2 := sum_le (c := 60) _ fun p mp => (hk p mp).len
    have h3 : ("\n" : Str).length = 1 := by decide
    rw [List.length_cons, List.length_replicate] at h1 h2
    rw [h3] at h1
    show (Txt.join _ _).length ≤ _
    omega
  · rw [t3_split] at ml
    exact (hk l ml).line (by decide)
  · unfold t3 at mc
    rw [TL.join_eq, TL.tl_join] at mc
    rcases joinL_mem mc with mc | ⟨p, hp, mc⟩
    · have : c = 10 := by
        have e : TL.tl ("\n" : Str) = [10] := by decide +kernel
        rw [e] at mc
        exact List.mem_singleton.mp mc
      omega
    · obtain ⟨q, hq, rfl⟩ := List.mem_map.mp hp
      exact (strok_iff q).mp (hk q hq).ok c mc
theorem due_empty : DueT ("" : Str) (some 1) := by
  refine .head fun f hf r e => ?_
  have h : Txt.split ("" : Str) ("\n" : Str) = [("" : Str)] := by
    have := TL.split_join (y := ("\n" : Str)) (s := 10) (S := []) (by decide +kernel) (by decide +kernel) (parts := [("" : Str)]) (by simp) (fun p hp => by rw [List.mem_singleton.mp hp]; decide +kernel)
    exact this
  rw [h] at e
  have h2 := congrArg TL.tl (List.cons.inj e).1
  rw [TL.tl_append] at h2
  have h3 : TL.tl ("" : Str) = [] := rfl
  rw [h3] at h2
  have h4 : TL.tl ("field " : Str) = [102, 105, 101, 108, 100, 32] := by decide +kernel
  rw [h4] at h2
  cases h2
theorem due_0 : DueT ("field 0" : Str) none := by
  have h : Txt.split ("field 0" : Str) ("\n" : Str) = [("field 0" : Str)] := by
    have := TL.split_join (y := ("\n" : Str)) (s := 10) (S := []) (by decide +kernel) (by decide +kernel) (parts := [("field 0" : Str)]) (by simp) (fun p hp => by rw [List.mem_singleton.mp hp]; decide +kernel)
    exact this
  have := DueT.rest (t := ("field 0" : Str)) 0 [] (by decide) (by rw [h]; congr 1)
  exact this
theorem wid_void : wid 0 ("" : Str) = -1 := by
  refine wid_no fun ns h => ?_
  obtain ⟨h1, h2, h3⟩ := h
  by_cases e : ns = []
  · subst e
    have := congrArg TL.tl h1
    revert this
    decide +kernel
  · have e2 : rowText ns = Txt.join (" " : Str) (ns.map tx) := if_neg fun h => e (List.length_eq_zero_iff.mp h)
    rw [e2] at h1
    obtain ⟨n, r, rfl⟩ := List.exists_cons_of_ne_nil e
    have h4 : Txt.split ("" : Str) (" " : Str) = Txt.split (Txt.join (" " : Str) ((n :: r).map tx)) (" " : Str) := congrArg (fun x => Txt.split x (" " : Str)) h1
    rw [split_txs e] at h4
    have h5 : Txt.split ("" : Str) (" " : Str) = [("" : Str)] := TL.split_join (y := (" " : Str)) (s := 32) (S := []) (by decide +kernel) (by decide +kernel) (parts := [("" : Str)]) (by simp) (fun p hp => by rw [List.mem_singleton.mp hp]; decide +kernel)
    rw [h5] at h4
    have h6 := (List.cons.inj h4).1
    exact tx_ne (i := n) (by rw [← h6]; rfl)
theorem due_02 : DueT ("field 0\n" : Str) (some 2) := by
  have h : Txt.split ("field 0\n" : Str) ("\n" : Str) = [("field 0" : Str), ("" : Str)] := by
    have := TL.split_join (y := ("\n" : Str)) (s := 10) (S := []) (by decide +kernel) (by decide +kernel) (parts := [("field 0" : Str), ("" : Str)]) (by simp) (fun p hp => by
      simp only [List.mem_cons, List.not_mem_nil, or_false] at hp
      rcases hp with rfl | rfl
      · decide +kernel
      · decide +kernel)
    exact this
  have q := DueT.rest (t := ("field 0\n" : Str)) 0 [("" : Str)] (by decide) (by rw [h]; congr 1)
  have e : (badAt 0 (wid 0 (([("" : Str)]).headD "")) 0 [("" : Str)]).map (fun (k : Nat) => (k : Int) + 2) = some 2 := by
    show (badAt 0 (wid 0 ("" : Str)) 0 [("" : Str)]).map (fun (k : Nat) => (k : Int) + 2) = some 2
    rw [badAt, wid_void, if_pos (.inl (by decide))]
    rfl
  rw [e] at q
  exact q

def triedD (t : Str) : Option Int → PyData
  | none => .tuple [.str "told", .str t]
  | some k => .tuple [.str "line", .int k]
theorem tried_dp {K : PySem.W.Frag} {H : Hp} {p : Addr} {t : Str} {o : Option Int} (h : H p = some (.tup (triedV t o))) : Dp K H (.ref p) (triedD t o) := by
  cases o with
  | none => exact .tup (SqT.of h) (.cons (.str _) (.cons (.str _) .nil))
  | some k => exact .tup (SqT.of h) (.cons (.str _) (.cons (.int _) .nil))
theorem tried_lay {t : Str} (ht : PyData.strOk t = true) (o : Option Int) : (triedD t o).canLay0 = true := by
  cases o with
  | none =>
    show (PyData.tuple [.str "told", .str t]).canLay0 = true
    have e : PyData.canLayAll0 [PyData.str "told", PyData.str t] = true := by
      rw [PyData.canLayAll0, PyData.canLayAll0, PyData.canLayAll0, PyData.canLay0, PyData.canLay0, ht]
      decide +kernel
    exact e
  | some k =>
    show (PyData.tuple [.str "line", .int k]).canLay0 = true
    have e : PyData.canLayAll0 [PyData.str "line", PyData.int k] = true := by
      have h1 : (PyData.str ("line" : Str)).canLay0 = true := by
        rw [PyData.canLay0]
        decide +kernel
      have h2 : (PyData.int k).canLay0 = true := rfl
      rw [PyData.canLayAll0, PyData.canLayAll0, PyData.canLayAll0, h1, h2]
      rfl
    exact e
theorem tried_depth (t : Str) (o : Option Int) : (triedD t o).depth ≤ 5 := by
  cases o with
  | none =>
    show (PyData.tuple [.str "told", .str t]).depth ≤ 5
    simp only [PyData.depth, PyData.depthAll]
    omega
  | some k =>
    show (PyData.tuple [.str "line", .int k]).depth ≤ 5
    simp only [PyData.depth, PyData.depthAll]
    omega
theorem tried_shaped {t : Str} (ht : PyData.strOk t = true) (o : Option Int) : SeqAt.shaped (triedD t o) = true := by
  unfold SeqAt.shaped
  rw [Bool.and_eq_true]
  refine ⟨tried_lay ht o, decide_eq_true ?_⟩
  have := tried_depth t o
  omega
def lastItems : List (Str × Option Int) := [("", some 1), ("field 0", none), ("field 0\n", some 2)]
theorem last_ok : ∀ y ∈ lastItems, TextOk y.1 ∧ PyData.strOk y.1 = true ∧ DueT y.1 y.2 := by
  have tks : ∀ x : Str, ∀ ls : List Str, Txt.join ("\n" : Str) ls = x → ls.all (okPiece true) = true → ls.length ≤ 19 → TextOk x ∧ PyData.strOk x = true := by
    rintro x ls rfl h hl
    rw [List.all_eq_true] at h
    exact lines_text (B := 60) (fun l m => okPiece_lk (h l m)) (by decide) hl
  have k1 := tks "" [""] (by decide +kernel) (by decide +kernel) (by decide)
  have k2 := tks "field 0" ["field 0"] (by decide +kernel) (by decide +kernel) (by decide)
  have k3 := tks "field 0\n" ["field 0", ""] (by decide +kernel) (by decide +kernel) (by decide)
  intro y m
  simp only [lastItems, List.mem_cons, List.not_mem_nil, or_false] at m
  rcases m with rfl | rfl | rfl
  · exact ⟨k1.1, k1.2, due_empty⟩
  · exact ⟨k2.1, k2.2, due_0⟩
  · exact ⟨k3.1, k3.2, due_02⟩
theorem tried_all {K : PySem.W.Frag} {H : Hp} : ∀ {rs : List Addr} {ys : List (Str × Option Int)}, Paired (fun r y => H r = some (.tup (triedV y.1 y.2))) rs ys → DpAll K H (rs.map V.ref) (ys.map fun y => triedD y.1 y.2)
  | _, _, .nil => .nil
  | _, _, .cons h t => .cons (tried_dp h) (tried_all t)
theorem last_lay : (PyData.list (lastItems.map fun y => triedD y.1 y.2)).canLay0 = true := by decide +kernel
theorem last_shaped : SeqAt.shaped (PyData.list (lastItems.map fun y => triedD y.1 y.2)) = true := by decide +kernel
section
variable {P : Program} {w : World} {K : PySem.W.Frag} {mg : Str → Option Value} {base : Heap}
def spLaw (K : PySem.W.Frag) : Sp := fun vs H Q _ => ∃ (a : Addr) (ns : List Int), vs = [.ref a] ∧ SqL K H a (ns.map V.int) ∧ ∀ H', Q (.bl true) H'
theorem scLa : FnScope nsLaw ["_law_script"] (defScope sLaw) := ⟨rfl, rfl, rfl, by decide +kernel, rfl, by decide +kernel, by decide +kernel⟩
theorem ok_law {f fS fD fT fX fB fU fV C fI : Addr} {fd fdS fdD fdT fdX fdB fdU fdV fdI : FuncData} (F : Fun K "law" "law" sLaw f fd) (N : Nm mg) (T : RTxt K mg C) (M : Mk K C fI)
    (GS : FnOk P w K mg base CX0 1 fS fdS ["_law_script"] (spSource K)) (kS : PySem.W.keepIn K (.ref fS) = true) (bS : Binds K fdS ["_law_script"] []) (gS : mg "_law_source" = some (.ref fS))
    (GD : FnOk P w K mg base CX0 1 fD fdD ["_law_source_here", "_law_many"] spDraw) (kD : PySem.W.keepIn K (.ref fD) = true) (bD : Binds K fdD ["_law_source_here", "_law_many"] []) (gD : mg "_law_draw" = some (.ref fD))
    (GT : FnOk P w K mg base CX0 4 fT fdT ["_law_source_here", "_law_most_width", "_law_most"] spLTable) (kT : PySem.W.keepIn K (.ref fT) = true) (bT : Binds K fdT ["_law_source_here", "_law_most_width", "_law_most"] []) (gT : mg "_law_table" = some (.ref fT))
    (GI : FnOk P w K mg base CX0 4 fI fdI ["self", "rows", "field"] (spInit0 C)) (bI : Binds K fdI ["self", "rows", "field"] [])
    (GX : FnOk P w K mg base CX0 3 fX fdX ["self"] (spText C)) (bX : Binds K fdX ["self"] []) (mX : Meth K C "text" fX)
    (GB : FnOk P w K mg base CX0 3 fB fdB ["_law_source_here", "_law_lines"] spLBent) (kB : PySem.W.keepIn K (.ref fB) = true) (bB : Binds K fdB ["_law_source_here", "_law_lines"] []) (gB : mg "_law_bent" = some (.ref fB))
    (GU : FnOk P w K mg base CX0 3 fU fdU ["_law_text"] spLDue) (kU : PySem.W.keepIn K (.ref fU) = true) (bU : Binds K fdU ["_law_text"] []) (gU : mg "_law_due" = some (.ref fU))
    (GV : FnOk P w K mg base CX0 7 fV fdV ["_law_text"] spTriedT) (kV : PySem.W.keepIn K (.ref fV) = true) (bV : Binds K fdV ["_law_text"] []) (gV : mg "_law_tried" = some (.ref fV)) :
    FnOk P w K mg base CX0 8 f fd ["_law_script"] (spLaw K) := by
  refine F.ok scLa (fun vs H Q E h => ?_) (fun cdv A outer s H vs Q E hr h => ?_)
  · obtain ⟨a, ns, rfl, _⟩ := h
    rfl
  · obtain ⟨a, ns, rfl, hS, k⟩ := h
    have nd := scLa.nd
    have hr1 : Room 1 _ := hr.mono (by decide)
    have hr3 : Room 3 _ := hr.mono (by decide)
    have hr4 : Room 4 _ := hr.mono (by decide)
    have hr5 : Room 5 _ := hr.mono (by decide)
    refine ⟨_, pss_cons (ps_set (i := 1) nd rfl (.inl rfl) (pe_call GS hr1 rfl gS kS bS .nil pass0 (pa_cons (pv 0) pa_nil)))
      (pss_cons (ps_for PassesOwn.never rfl (pi_range1 (by rfl) N.range (pa_cons pe_int pa_nil)) (pg_name (i := 2) nd rfl (.inl rfl))
        (pss_cons (ps_set (i := 3) nd rfl (.inl rfl) (pe_call GT hr4 rfl gT kT bT .nil pass0 (pa_cons (pv 1) (pa_cons pe_int (pa_cons pe_int pa_nil)))))
        (pss_cons (ps_set (i := 4) nd rfl (.inl rfl) (pe_split (pe_meth0 (pe_make M GI hr5 (by rfl) T.mgC bI .nil pass0 (pa_cons (pe_ix ixL (pv 3) pe_int (fun _ _ => rfl)) (pa_cons (pe_ix ixL (pv 3) pe_int (fun _ _ => rfl)) pa_nil))) T.cl mX GX hr3 bX .nil pass0) pe_str))
        (pss_cons (ps_for PassesOwn.never rfl (pi_range1 (by rfl) N.range (pa_cons (pe_call GD hr1 rfl gD kD bD .nil pass0 (pa_cons (pv 1) (pa_cons pe_int pa_nil))) pa_nil)) (pg_name (i := 5) nd rfl (.inl rfl))
          (pss_one (ps_set (i := 4) nd rfl (.inl rfl) (pe_ifExp (pt_cmpR (op_neD hr.units) (pv 4) (pe_lst pa_nil) (nomark _)) (pe_call GB hr3 rfl gB kB bB .nil pass0 (pa_cons (pv 1) (pa_cons (pv 4) pa_nil))) (pe_lst (pa_cons pe_str pa_nil))))))
        (pss_cons (ps_set (i := 6) nd rfl (.inl rfl) (pe_join pe_str (pv 4)))
        (pss_cons (ps_set (i := 7) nd rfl (.inl rfl) (pe_call GU hr3 rfl gU kU bU .nil pass0 (pa_cons (pv 6) pa_nil)))
        (pss_one (ps_if (pt_cmpR (op_neD hr.units) (pe_call GV hr rfl gV kV bV .nil pass0 (pa_cons (pv 6) pa_nil)) (pe_ifExp (pt_cmpR op_isN (pv 7) pe_non (nomark _)) (pe_tup (pa_cons pe_str (pa_cons (pv 6) pa_nil))) (pe_tup (pa_cons pe_str (pa_cons (pv 7) pa_nil)))) (nomark _))
          (pss_one (ps_ret pe_bl)) pss_nil))))))))
      (pss_cons (ps_set (i := 8) nd rfl (.inl rfl) (pe_op op_add pe_int (pe_call GD hr1 rfl gD kD bD .nil pass0 (pa_cons (pv 1) (pa_cons pe_int pa_nil)))))
      (pss_cons (ps_set (i := 6) nd rfl (.inl rfl) (pe_join pe_str (pe_op op_cat (pe_lst (pa_cons pe_str pa_nil)) (pe_op op_rep (pe_lst (pa_cons pe_str pa_nil)) (pv 8)))))
      (pss_cons (ps_if (pt_cmpR (op_neD hr.units) (pe_call GV hr rfl gV kV bV .nil pass0 (pa_cons (pv 6) pa_nil)) (pe_ifExp (pt_cmpR op_lt (pv 8) pe_int (nomark _)) (pe_tup (pa_cons pe_str (pa_cons (pv 6) pa_nil))) (pe_tup (pa_cons pe_str (pa_cons pe_int pa_nil)))) (nomark _))
          (pss_one (ps_ret pe_bl)) pss_nil)
      (pss_cons (ps_setLc (i := 9) (own := [("_law_text", 6)]) (g := gName 6) (tt := tYes) rfl nd rfl rfl (sw_true rfl rfl rfl (by decide +kernel)) (pi_list (pe_lst (pa_cons pe_str (pa_cons pe_str (pa_cons pe_str pa_nil)))))
          (blkOk_by (own := [("_law_text", 6)]) (N := nsLaw) (sc := defScope sLaw) (by decide +kernel)) (fun _ _ _ _ _ => pg_name (i := 6) nd rfl (Or.inl rfl)) (fun _ _ _ _ _ => pts_nil)
          (fun _ _ _ _ _ => pe_call GV hr rfl gV kV bV .nil pass0 (pa_cons (pv 6) pa_nil)))
      (pss_one (ps_ret (pe_cmpR (op_eqD hr.units) (pv 9) (pe_lst (pa_cons (pe_tup (pa_cons pe_str (pa_cons pe_int pa_nil))) (pa_cons (pe_tup (pa_cons pe_str (pa_cons pe_str pa_nil))) (pa_cons (pe_tup (pa_cons pe_str (pa_cons pe_int pa_nil))) pa_nil)))) (nomark _))))))))), ?_⟩
    refine ⟨_, rfl, a, ns, rfl, hS, fun H1 p o s1 np hp ho => ?_⟩
    refine ⟨4, rfl, by decide, by decide, for_range (lo := 0) (n := 4) (fun i σ G => ∃ (c2 c3 c4 c5 c6 c7 : Option V) (o' : HO), σ = [some (.ref a), some (.ref p), c2, c3, c4, c5, c6, c7, none, none] ∧ G p = some o' ∧ SrcL (3000 * i) o')
      ⟨none, none, none, none, none, none, o, rfl, hp, ho⟩ ?_ ?_⟩
    · rintro i σ G hi ⟨c2, c3, c4, c5, c6, c7, o1, rfl, hG, ho1⟩
      refine ⟨_, rfl, p, o1, 3000 * i, 4, 6, rfl, hG, ho1, by omega, by decide, by decide, by decide, fun H2 T0 q rs nss o2 wd kk fl b2 hp2 ho2 hT hq hrs hrl hkm hw1 hw4 hf nT nTp nq nqp nqT hfr => ?_⟩
      refine ⟨_, rfl, T0, 0, _, .ref q, rfl, rfl, hT, at0, _, rfl, T0, 1, _, .int fl, rfl, rfl, hT, at1, fun x dx hx hdx ne => ?_⟩
      have sx : Same H2 (upd (upd H2 dx (.own x)) x (.ins C dx [])) := same_new hx (same_upd hdx)
      have nmem : ∀ r ∈ rs, r ≠ x := fun r m e => by
        obtain ⟨ns, _, h, _⟩ := paired_mem hrs m
        rw [e, hx] at h
        cases h
      have nqx : x ≠ q := fun e => by
        rw [← e, hx] at hq
        cases hq
      have hrows : RowsAt H2 wd rs nss := Paired.keepMem hrs fun r m ns h => ⟨.inl h.1, h.2.1⟩
      have rlen : rs.length = nss.length := Paired.length hrs
      refine ⟨x, q, dx, fl, wd, rs, nss, rfl, upd_same, nqx, sx _ _ hq, hrows.same sx, nmem, by omega, by omega, hf, fun H3 b3 tab => ⟨rfl, ?_⟩⟩
      have s23 : Same H2 H3 := fun c u e => b3 c u (fun e2 => by
        rw [e2, hx] at e
        cases e) (sx _ _ e)
      have hbig : ∀ ns ∈ nss, ns.length = wd ∧ ∀ n ∈ ns, n.natAbs ≤ 1458 := by
        intro ns m
        obtain ⟨t, _, h⟩ := paired_memR hrs m
        refine ⟨h.2.1, fun n hn => Nat.le_trans (h.2.2 n hn) ?_⟩
        have : 3 ^ kk ≤ 3 ^ 6 := Nat.pow_le_pow_right (by decide) hkm
        omega
      have good : Good fl nss := ⟨hf, by omega, wd, by omega, fun ns m => ⟨(hbig ns m).1, fun n hn => by
        have := (hbig ns m).2 n hn
        show n.natAbs < 10 ^ 60
        omega⟩⟩
      have told10 : ∀ ns ∈ tellN fl nss, ns.length ≤ 12 ∧ ∀ n ∈ ns, n.natAbs < 10 ^ 10 := by
        intro ns m
        obtain ⟨ms, hm, rfl⟩ := List.mem_map.mp m
        have h := hbig ms hm
        refine ⟨by rw [List.length_map]; omega, fun n hn => ?_⟩
        obtain ⟨j, hj, rfl⟩ := List.mem_map.mp hn
        have h2 := h.2 j hj
        by_cases z : fl = 0
        · have e : tell fl j = j := if_pos z
          rw [e]
          omega
        · have h3 := tell_in (n := j) hf z
          have h4 := fields_ge hf
          omega
      obtain ⟨d1, t1, ts1, a1, a2, a3⟩ := id tab
      refine ⟨x, d1, _, rfl, a1, rfl, x, fl, nss, rfl, tab, good, fun H4 s4 => ?_⟩
      have tlen : (tabText fl (tellN fl nss)).length ≤ 100000 := by
        refine Nat.le_trans (len_join _ _) (tabs_sum hf ?_ fun ns m => ⟨(told10 ns m).1, fun n hn => ?_⟩)
        · unfold tellN
          rw [List.length_map]
          omega
        · have := (told10 ns m).2 n hn
          show n.natAbs < 10 ^ 60
          omega
      refine ⟨⟨_, rfl⟩, _, _, rfl, rfl, rfl, Nat.le_trans (Nat.add_le_add_right tlen 2) (by decide), fun L nL => ?_⟩
      rw [split_tab]
      generalize hG5 : upd H4 L _ = G5
      have c5' : Same H4 G5 := by rw [← hG5]; exact same_upd nL
      have hL5 : G5 L = some (.lst (((("field " : Str) ++ tx fl) :: (tellN fl nss).map rowText).map V.str)) := by rw [← hG5, upd_same]
      have s25 := (s23.trans s4).trans c5'
      have hp5 := s25 _ _ hp2
      have nLp : L ≠ p := fun e => by
        rw [e, (s23.trans s4) _ _ hp2] at nL
        cases nL
      have lk0 : ∀ l ∈ (("field " : Str) ++ tx fl) :: (tellN fl nss).map rowText, Lk 1000 l := by
        intro l m
        rcases List.mem_cons.mp m with rfl | m
        · exact field_lk hf
        · obtain ⟨ns, hns, rfl⟩ := List.mem_map.mp m
          exact row_lk (told10 ns hns).1 (told10 ns hns).2
      have len0 : ((("field " : Str) ++ tx fl) :: (tellN fl nss).map rowText).length ≤ 8 := by
        unfold tellN
        rw [List.length_cons, List.length_map, List.length_map]
        omega
      refine ⟨_, rfl, p, o2, 3000 * i + 2500, 3, rfl, hp5, ho2, by omega, by decide, by decide, fun d o6 d0 d1 ho6 => ?_⟩
      obtain ⟨dn, rfl⟩ : ∃ dn : Nat, d = dn := ⟨d.toNat, by omega⟩
      have b6 : But p G5 (upd G5 p o6) := But.upd
      refine ⟨(dn : Int), rfl, by omega, by omega, for_range (lo := 0) (n := dn) (fun j σ G => ∃ (c5 : Option V) (L' : Addr) (ls : List Str) (o' : HO), σ = [some (.ref a), some (.ref p), some (.int (0 + (i : Nat))), some (.ref T0), some (.ref L'), c5, c6, c7, none, none] ∧ G p = some o' ∧ SrcL (3000 * i + 2501 + 20 * j) o' ∧
          G L' = some (.lst (ls.map V.str)) ∧ L' ≠ p ∧ ls.length ≤ 8 + j ∧ ∀ l ∈ ls, Lk (1000 + 60 * j) l)
        ⟨c5, L, _, o6, rfl, upd_same, ho6, b6 _ _ nLp hL5, nLp, len0, lk0⟩ ?_ ?_⟩
      · rintro j σ G hj ⟨c5, L', ls, o7, rfl, hGp, ho7, hGL, nLp', hll, hlk⟩
        refine ⟨_, rfl, Nat.zero_le _, fun Z nZ => ?_⟩
        have sZ := same_upd nZ (o := .lst ([] : List V))
        refine ⟨_, _, .lst (SqL.of (sZ _ _ hGL)) (dp_strs ls), .lst (SqL.of upd_same) .nil, shaped_strs ls fun x m => (hlk x m).ok, rfl, _, rfl, ?_⟩
        rw [eqv_strs0]
        by_cases e : ls = []
        · subst e
          refine iteF ⟨Nat.le_of_ble_eq_true rfl, fun L2 nL2 => ?_⟩
          have sL := sZ.trans (same_upd nL2 (o := .lst [V.str ("field 0" : Str)]))
          refine ⟨_, L2, [("field 0" : Str)], o7, rfl, sL _ _ hGp, ho7.mono (by omega), upd_same, fun e => ?_, by show 1 ≤ _; omega, fun l m => ?_⟩
          · rw [e, sZ _ _ hGp] at nL2
            cases nL2
          · rw [List.mem_singleton.mp m]
            exact (okPiece_lk (by decide +kernel)).mono (by omega)
        · rw [List.isEmpty_eq_false_iff.mpr e]
          refine iteT ⟨_, rfl, _, rfl, p, L', o7, 3000 * i + 2501 + 20 * j, 1000 + 60 * j, ls, rfl, sZ _ _ hGp, ho7, by omega, sZ _ _ hGL, nLp', e, by omega, by omega, by omega, hlk, fun G8 q8 ls8 o8 b8 hp8 ho8 hq8 nq8 nqp8 hl8 hk8 => ?_⟩
          exact ⟨_, q8, ls8, o8, rfl, hp8, ho8.mono (by omega), hq8, nqp8, by omega, fun l m => (hk8 l m).mono (by omega)⟩
      · rintro σ G ⟨c5, L', ls, o7, rfl, hGp, ho7, hGL, nLp', hll, hlk⟩
        have hB : 1000 + 60 * dn ≤ 5000 := by omega
        have tok := lines_text hlk hB (by omega)
        refine ⟨⟨_, rfl⟩, _, rfl, _, L', ls, rfl, rfl, .inl (SqL.of hGL), ?_, ?_⟩
        · have h2 := sum_le (c := 5000) ls fun p m => Nat.le_trans (hlk p m).len hB
          have h3 : ("\n" : Str).length = 1 := by decide
          rw [h3]
          exact Nat.le_trans (by omega : _ ≤ 100000) (by decide)
        generalize Txt.join ("\n" : Str) ls = t at tok ⊢
        obtain ⟨od, hdue⟩ := dueT_is t
        refine ⟨_, rfl, t, od, rfl, tok.1, tok.2, hdue, fun G2 s2 => ?_⟩
        refine ⟨_, rfl, t, od, rfl, tok.1, hdue, fun G3 r s3 nr hr3' => ?_⟩
        have fin : ∀ G9 : Hp, Same G G9 → ∃ (e2 e3 e4 e5 e6 e7 : Option V) (o' : HO), ([some (.ref a), some (.ref p), some (.int (0 + (i : Nat))), some (.ref T0), some (.ref L'), c5, some (.str t), some (optV od), none, none] : L2.St) = [some (.ref a), some (.ref p), e2, e3, e4, e5, e6, e7, none, none] ∧ G9 p = some o' ∧ SrcL (3000 * (i + 1)) o' :=
          fun G9 s9 => ⟨_, _, _, _, _, _, o7, rfl, s9 _ _ hGp, ho7.mono (by omega)⟩
        have same : ∀ (G9 : Hp) (u : Addr), Same G3 G9 → G9 u = some (.tup (triedV t od)) → ∃ d e, Dp K G9 (.ref r) d ∧ Dp K G9 (.ref u) e ∧ SeqAt.shaped d = true ∧ SeqAt.shaped e = true ∧ (!PyData.eqv d e) = false := by
          intro G9 u s9 hu
          refine ⟨triedD t od, triedD t od, tried_dp (s9 _ _ hr3'), tried_dp hu, tried_shaped tok.2 od, tried_shaped tok.2 od, ?_⟩
          rw [SeqAt.eqv_refl _ (tried_lay tok.2 od)]
          rfl
        cases od with
        | none =>
          refine ⟨_, rfl, rfl, _, rfl, iteT ⟨_, rfl, Nat.le_of_ble_eq_true rfl, fun u nu => ?_⟩⟩
          obtain ⟨d, e, h1, h2, h3, h4, h5⟩ := same _ u (same_upd nu (o := .tup [V.str "told", V.str t])) upd_same
          refine ⟨d, e, h1, h2, h3, h4, _, rfl, ?_⟩
          rw [h5]
          exact iteF (fin _ ((s2.trans s3).trans (same_upd nu)))
        | some kd =>
          refine ⟨_, rfl, rfl, _, rfl, iteF ⟨_, rfl, Nat.le_of_ble_eq_true rfl, fun u nu => ?_⟩⟩
          obtain ⟨d, e, h1, h2, h3, h4, h5⟩ := same _ u (same_upd nu (o := .tup [V.str "line", V.int kd])) upd_same
          refine ⟨d, e, h1, h2, h3, h4, _, rfl, ?_⟩
          rw [h5]
          exact iteF (fin _ ((s2.trans s3).trans (same_upd nu)))
    · rintro σ G ⟨c2, c3, c4, c5, c6, c7, o1, rfl, hG, ho1⟩
      refine ⟨_, rfl, p, o1, 12000, 4, rfl, hG, ho1, by decide, by decide, by decide, fun d o2 d0 d1 ho2 => ⟨_, _, rfl, rfl, ?_⟩⟩
      obtain ⟨dn, rfl⟩ : ∃ dn : Nat, d = dn := ⟨d.toNat, by omega⟩
      generalize hG1 : upd G p o2 = G1
      obtain ⟨m, hm, hm2⟩ : ∃ m : Nat, (59 : Int) + (dn : Int) = (m : Int) ∧ m ≤ 62 := ⟨59 + dn, by omega, by omega⟩
      refine ⟨⟨_, rfl⟩, Nat.le_of_ble_eq_true rfl, fun A1 n1 => ?_⟩
      generalize hA1 : upd G1 A1 _ = GA
      have cA : Same G1 GA := by rw [← hA1]; exact same_upd n1
      have hA : GA A1 = some (.lst [V.str ("field 3" : Str)]) := by rw [← hA1, upd_same]
      refine ⟨Nat.le_of_ble_eq_true rfl, fun A2 n2 => ?_⟩
      generalize hA2 : upd GA A2 _ = GB
      have cB : Same GA GB := by rw [← hA2]; exact same_upd n2
      have hB : GB A2 = some (.lst [V.str ("1 0" : Str)]) := by rw [← hA2, upd_same]
      have hrep : (List.replicate ((59 : Int) + (dn : Int)).toNat [V.str ("1 0" : Str)]).flatten = (List.replicate m ("1 0" : Str)).map V.str := by
        rw [hm]
        show (List.replicate m [V.str ("1 0" : Str)]).flatten = _
        rw [List.flatten_replicate_singleton, List.map_replicate]
      refine ⟨_, rfl, A2, (59 : Int) + (dn : Int), [V.str ("1 0" : Str)], rfl, rfl, hB, by omega, by omega, ?_, fun A3 n3 => ?_⟩
      · rw [hm]
        show 1 * m ≤ sizeLine
        exact Nat.le_trans (by omega : 1 * m ≤ 100) (by decide)
      rw [hrep]
      generalize hA3 : upd GB A3 _ = GC
      have cC : Same GB GC := by rw [← hA3]; exact same_upd n3
      have hC : GC A3 = some (.lst ((List.replicate m ("1 0" : Str)).map V.str)) := by rw [← hA3, upd_same]
      refine ⟨A1, A3, _, _, rfl, rfl, (cB.trans cC) _ _ hA, hC, ?_, fun A4 n4 => ?_⟩
      · rw [List.length_map, List.length_replicate]
        show 1 + m ≤ sizeLine
        exact Nat.le_trans (by omega : 1 + m ≤ 100) (by decide)
      generalize hA4 : upd GC A4 _ = GD
      have hD4 : GD A4 = some (.lst ((("field 3" : Str) :: List.replicate m ("1 0" : Str)).map V.str)) := by
        rw [← hA4, upd_same]
        rfl
      obtain ⟨tok1, tok2⟩ := t3_ok m (by omega)
      refine ⟨_, A4, ("field 3" : Str) :: List.replicate m ("1 0" : Str), rfl, rfl, .inl (SqL.of hD4), ?_, ?_⟩
      · have h2 := sum_le (c := 60) (("field 3" : Str) :: List.replicate m ("1 0" : Str)) fun x hx => by
          rcases List.mem_cons.mp hx with rfl | hx
          · decide
          · rw [List.eq_of_mem_replicate hx]
            decide
        have h3 : ("\n" : Str).length = 1 := by decide
        rw [h3]
        rw [List.length_cons, List.length_replicate] at h2 ⊢
        omega
      have et : Txt.join ("\n" : Str) (("field 3" : Str) :: List.replicate m ("1 0" : Str)) = t3 m := rfl
      rw [et]
      refine ⟨_, rfl, t3 m, _, rfl, tok1, t3_due m, fun G2 r s2 nr hr2 => ?_⟩
      refine ⟨_, rfl, _, _, rfl, rfl, _, rfl, ?_⟩
      have same : ∀ (G9 : Hp) (u : Addr) (od : Option Int), (if m ≤ 60 then none else some (62 : Int)) = od → Same G2 G9 → G9 u = some (.tup (triedV (t3 m) od)) → ∃ d e, Dp K G9 (.ref r) d ∧ Dp K G9 (.ref u) e ∧ SeqAt.shaped d = true ∧ SeqAt.shaped e = true ∧ (!PyData.eqv d e) = false := by
        intro G9 u od eo s9 hu
        rw [eo] at hr2
        refine ⟨triedD (t3 m) od, triedD (t3 m) od, tried_dp (s9 _ _ hr2), tried_dp hu, tried_shaped tok2 od, tried_shaped tok2 od, ?_⟩
        rw [SeqAt.eqv_refl _ (tried_lay tok2 od)]
        rfl
      rcases Decidable.em (m ≤ 60) with lt | lt
      case' inl =>
        rw [decide_eq_true (show (59 : Int) + (dn : Int) < 61 by omega)]
        refine iteT ⟨_, rfl, Nat.le_of_ble_eq_true rfl, fun u nu => ?_⟩
        obtain ⟨d, e, h1, h2, h3, h4, h5⟩ := same _ u none (if_pos lt) (same_upd nu (o := .tup [V.str "told", V.str (t3 m)])) upd_same
        refine ⟨d, e, h1, h2, h3, h4, _, rfl, ?_⟩
        rw [h5]
        refine iteF ?_
        generalize upd G2 u _ = G3
      case' inr =>
        rw [decide_eq_false (show ¬ (59 : Int) + (dn : Int) < 61 by omega)]
        refine iteF ⟨Nat.le_of_ble_eq_true rfl, fun u nu => ?_⟩
        obtain ⟨d, e, h1, h2, h3, h4, h5⟩ := same _ u (some 62) (if_neg lt) (same_upd nu (o := .tup [V.str "line", V.int 62])) upd_same
        refine ⟨d, e, h1, h2, h3, h4, _, rfl, ?_⟩
        rw [h5]
        refine iteF ?_
        generalize upd G2 u _ = G3
      all_goals
        refine ⟨Nat.le_of_ble_eq_true rfl, fun Z nZ => ?_⟩
        generalize hZ : upd G3 Z _ = GZ
        have hZZ : GZ Z = some (.lst (lastItems.map fun y => V.str y.1)) := by
          rw [← hZ, upd_same]
          rfl
        refine ⟨Z, rfl, ⟨_, SqL.of hZZ⟩, fun D nD => comp_listI (fun j ys G => Same GZ G ∧ ∃ rs : List Addr, ys = rs.map V.ref ∧ Paired (fun r (y : Str × Option Int) => G r = some (.tup (triedV y.1 y.2))) rs (lastItems.take j) ∧ ∀ r ∈ rs, r ≠ D)
          ⟨same_upd nD, [], rfl, .nil, fun _ h => nomatch h⟩ (fun _ _ _ h => SqL.of (h.1 _ _ hZZ)) (by decide) (fun _ => rfl) ?_ ?_⟩
        · rintro j x ys G hx ⟨sG, rs, rfl, hrs, hn3⟩ hGD R hR
          rw [List.getElem?_map] at hx
          obtain ⟨y, hy, rfl⟩ := Option.map_eq_some_iff.mp hx
          obtain ⟨q1, q2, q3⟩ := last_ok y (List.mem_of_getElem? hy)
          refine ⟨_, rfl, y.1, y.2, rfl, q1, q3, fun G' r' s' nr' hr' => ?_⟩
          have nrD : r' ≠ D := fun e => by
            rw [e, hGD] at nr'
            cases nr'
          refine hR _ _ (s' _ _ hGD) ⟨same_new nD (sG.trans s'), rs ++ [r'], by rw [List.map_append]; rfl, ?_, ?_⟩
          · rw [List.take_succ, hy]
            refine Paired.snoc (Paired.keepMem hrs fun u m ns h => ?_) (by rw [upd_ne nrD]; exact hr')
            rw [upd_ne (hn3 u m)]
            exact s' _ _ h
          · intro u m
            rcases List.mem_append.mp m with m | m
            · exact hn3 u m
            · rw [List.mem_singleton.mp m]
              exact nrD
        · rintro G ys ⟨sG, rs, rfl, hrs, hn3⟩ hGD hlen
          rw [List.length_map, List.take_length] at hrs
          refine ⟨_, rfl, Nat.le_of_ble_eq_true rfl, fun u1 m1 => ?_⟩
          have w1 := same_upd m1 (o := .tup [V.str "line", V.int 1])
          refine ⟨Nat.le_of_ble_eq_true rfl, fun u2 m2 => ?_⟩
          have w2 := same_upd m2 (o := .tup [V.str "told", V.str "field 0"])
          refine ⟨Nat.le_of_ble_eq_true rfl, fun u3 m3 => ?_⟩
          have w3 := same_upd m3 (o := .tup [V.str "line", V.int 2])
          refine ⟨Nat.le_of_ble_eq_true rfl, fun Z2 m4 => ?_⟩
          have w4 := same_upd m4 (o := .lst [V.ref u1, V.ref u2, V.ref u3])
          have w14 := ((w1.trans w2).trans w3).trans w4
          refine ⟨.list (lastItems.map fun y => triedD y.1 y.2), .list (lastItems.map fun y => triedD y.1 y.2), .lst (SqL.of (w14 _ _ hGD)) (tried_all (Paired.keepMem hrs fun r m y h => w14 _ _ h)), .lst (SqL.of upd_same) ?_, last_shaped, last_shaped, ?_⟩
          · exact tried_all (rs := [u1, u2, u3]) (ys := lastItems) (.cons (((w2.trans w3).trans w4) _ _ upd_same) (.cons ((w3.trans w4) _ _ upd_same) (.cons (w4 _ _ upd_same) .nil)))
          · rw [SeqAt.eqv_refl _ last_lay]
            exact k _
end
theorem all_mk {P : Program} {w : World} {K : PySem.W.Frag} {h : Heap} {mg : Str → Option Value} {fa : Addr} {fS fD fP fLF fLR fLT fLN fLW fLD fLB fLV fLA fWH fLI fFD fRW fFA fTO fWR fWS fIN fRR fRS C fII fTX pA fA CB fB aF : Addr} (X : K.In h) (G : h.Ns mainGlobals mg) (hfa : mg "law" = some (.ref fa))
    {odS anS : Option Addr} {slS : Array (Option Value)} {ocS kVS dcS pmS cdS ctS : Value}
    (aS : PySem.W.nsIn K mainGlobals "_law_source" = some (some (.ref fS)))
    (lS : K.lookup fS = some ⟨ocS, odS, .func (PySem.W.fnOf "_law_source" "_law_source" (defArgs sSource) (defBody sSource) (defScope sSource) .none kVS dcS pmS anS cdS ctS), slS⟩)
    (cS : PySem.W.codeIn K cdS "_law_source" = true)
    (kS : PySem.W.keepIn K (.ref fS) = true)
    {odD anD : Option Addr} {slD : Array (Option Value)} {ocD kVD dcD pmD cdD ctD : Value}
    (aD : PySem.W.nsIn K mainGlobals "_law_draw" = some (some (.ref fD)))
    (lD : K.lookup fD = some ⟨ocD, odD, .func (PySem.W.fnOf "_law_draw" "_law_draw" (defArgs sDraw) (defBody sDraw) (defScope sDraw) .none kVD dcD pmD anD cdD ctD), slD⟩)
    (cD : PySem.W.codeIn K cdD "_law_draw" = true)
    (kD : PySem.W.keepIn K (.ref fD) = true)
    {odP anP : Option Addr} {slP : Array (Option Value)} {ocP kVP dcP pmP cdP ctP : Value}
    (aP : PySem.W.nsIn K mainGlobals "_law_pick" = some (some (.ref fP)))
    (lP : K.lookup fP = some ⟨ocP, odP, .func (PySem.W.fnOf "_law_pick" "_law_pick" (defArgs sPick) (defBody sPick) (defScope sPick) .none kVP dcP pmP anP cdP ctP), slP⟩)
    (cP : PySem.W.codeIn K cdP "_law_pick" = true)
    (kP : PySem.W.keepIn K (.ref fP) = true)
    {odLF anLF : Option Addr} {slLF : Array (Option Value)} {ocLF kVLF dcLF pmLF cdLF ctLF : Value}
    (aLF : PySem.W.nsIn K mainGlobals "_law_field" = some (some (.ref fLF)))
    (lLF : K.lookup fLF = some ⟨ocLF, odLF, .func (PySem.W.fnOf "_law_field" "_law_field" (defArgs sLField) (defBody sLField) (defScope sLField) .none kVLF dcLF pmLF anLF cdLF ctLF), slLF⟩)
    (cLF : PySem.W.codeIn K cdLF "_law_field" = true)
    (kLF : PySem.W.keepIn K (.ref fLF) = true)
    {odLR anLR : Option Addr} {slLR : Array (Option Value)} {ocLR kVLR dcLR pmLR cdLR ctLR : Value}
    (aLR : PySem.W.nsIn K mainGlobals "_law_rows" = some (some (.ref fLR)))
    (lLR : K.lookup fLR = some ⟨ocLR, odLR, .func (PySem.W.fnOf "_law_rows" "_law_rows" (defArgs sLRows) (defBody sLRows) (defScope sLRows) .none kVLR dcLR pmLR anLR cdLR ctLR), slLR⟩)
    (cLR : PySem.W.codeIn K cdLR "_law_rows" = true)
    (kLR : PySem.W.keepIn K (.ref fLR) = true)
    {odLT anLT : Option Addr} {slLT : Array (Option Value)} {ocLT kVLT dcLT pmLT cdLT ctLT : Value}
    (aLT : PySem.W.nsIn K mainGlobals "_law_table" = some (some (.ref fLT)))
    (lLT : K.lookup fLT = some ⟨ocLT, odLT, .func (PySem.W.fnOf "_law_table" "_law_table" (defArgs sLTable) (defBody sLTable) (defScope sLTable) .none kVLT dcLT pmLT anLT cdLT ctLT), slLT⟩)
    (cLT : PySem.W.codeIn K cdLT "_law_table" = true)
    (kLT : PySem.W.keepIn K (.ref fLT) = true)
    {odLN anLN : Option Addr} {slLN : Array (Option Value)} {ocLN kVLN dcLN pmLN cdLN ctLN : Value}
    (aLN : PySem.W.nsIn K mainGlobals "_law_is_number" = some (some (.ref fLN)))
    (lLN : K.lookup fLN = some ⟨ocLN, odLN, .func (PySem.W.fnOf "_law_is_number" "_law_is_number" (defArgs sLNum) (defBody sLNum) (defScope sLNum) .none kVLN dcLN pmLN anLN cdLN ctLN), slLN⟩)
    (cLN : PySem.W.codeIn K cdLN "_law_is_number" = true)
    (kLN : PySem.W.keepIn K (.ref fLN) = true)
    {odLW anLW : Option Addr} {slLW : Array (Option Value)} {ocLW kVLW dcLW pmLW cdLW ctLW : Value}
    (aLW : PySem.W.nsIn K mainGlobals "_law_width" = some (some (.ref fLW)))
    (lLW : K.lookup fLW = some ⟨ocLW, odLW, .func (PySem.W.fnOf "_law_width" "_law_width" (defArgs sLWid) (defBody sLWid) (defScope sLWid) .none kVLW dcLW pmLW anLW cdLW ctLW), slLW⟩)
    (cLW : PySem.W.codeIn K cdLW "_law_width" = true)
    (kLW : PySem.W.keepIn K (.ref fLW) = true)
    {odLD anLD : Option Addr} {slLD : Array (Option Value)} {ocLD kVLD dcLD pmLD cdLD ctLD : Value}
    (aLD : PySem.W.nsIn K mainGlobals "_law_due" = some (some (.ref fLD)))
    (lLD : K.lookup fLD = some ⟨ocLD, odLD, .func (PySem.W.fnOf "_law_due" "_law_due" (defArgs sLDue) (defBody sLDue) (defScope sLDue) .none kVLD dcLD pmLD anLD cdLD ctLD), slLD⟩)
    (cLD : PySem.W.codeIn K cdLD "_law_due" = true)
    (kLD : PySem.W.keepIn K (.ref fLD) = true)
    {odLB anLB : Option Addr} {slLB : Array (Option Value)} {ocLB kVLB dcLB pmLB cdLB ctLB : Value}
    (aLB : PySem.W.nsIn K mainGlobals "_law_bent" = some (some (.ref fLB)))
    (lLB : K.lookup fLB = some ⟨ocLB, odLB, .func (PySem.W.fnOf "_law_bent" "_law_bent" (defArgs sLBent) (defBody sLBent) (defScope sLBent) .none kVLB dcLB pmLB anLB cdLB ctLB), slLB⟩)
    (cLB : PySem.W.codeIn K cdLB "_law_bent" = true)
    (kLB : PySem.W.keepIn K (.ref fLB) = true)
    {odLV anLV : Option Addr} {slLV : Array (Option Value)} {ocLV kVLV dcLV pmLV cdLV ctLV : Value}
    (aLV : PySem.W.nsIn K mainGlobals "_law_tried" = some (some (.ref fLV)))
    (lLV : K.lookup fLV = some ⟨ocLV, odLV, .func (PySem.W.fnOf "_law_tried" "_law_tried" (defArgs sTried) (defBody sTried) (defScope sTried) .none kVLV dcLV pmLV anLV cdLV ctLV), slLV⟩)
    (cLV : PySem.W.codeIn K cdLV "_law_tried" = true)
    (kLV : PySem.W.keepIn K (.ref fLV) = true)
    {odLA anLA : Option Addr} {slLA : Array (Option Value)} {ocLA kVLA dcLA pmLA cdLA ctLA : Value}
    (aLA : PySem.W.nsIn K mainGlobals "law" = some (some (.ref fLA)))
    (lLA : K.lookup fLA = some ⟨ocLA, odLA, .func (PySem.W.fnOf "law" "law" (defArgs sLaw) (defBody sLaw) (defScope sLaw) .none kVLA dcLA pmLA anLA cdLA ctLA), slLA⟩)
    (cLA : PySem.W.codeIn K cdLA "law" = true)
    (kLA : PySem.W.keepIn K (.ref fLA) = true)
    {odWH anWH : Option Addr} {slWH : Array (Option Value)} {ocWH kVWH dcWH pmWH cdWH ctWH : Value}
    (aWH : PySem.W.nsIn K mainGlobals "is_whole" = some (some (.ref fWH)))
    (lWH : K.lookup fWH = some ⟨ocWH, odWH, .func (PySem.W.fnOf "is_whole" "is_whole" (defArgs sWhole) (defBody sWhole) (defScope sWhole) .none kVWH dcWH pmWH anWH cdWH ctWH), slWH⟩)
    (cWH : PySem.W.codeIn K cdWH "is_whole" = true)
    (kWH : PySem.W.keepIn K (.ref fWH) = true)
    {odLI anLI : Option Addr} {slLI : Array (Option Value)} {ocLI kVLI dcLI pmLI cdLI ctLI : Value}
    (aLI : PySem.W.nsIn K mainGlobals "is_list" = some (some (.ref fLI)))
    (lLI : K.lookup fLI = some ⟨ocLI, odLI, .func (PySem.W.fnOf "is_list" "is_list" (defArgs sList) (defBody sList) (defScope sList) .none kVLI dcLI pmLI anLI cdLI ctLI), slLI⟩)
    (cLI : PySem.W.codeIn K cdLI "is_list" = true)
    (kLI : PySem.W.keepIn K (.ref fLI) = true)
    {odFD anFD : Option Addr} {slFD : Array (Option Value)} {ocFD kVFD dcFD pmFD cdFD ctFD : Value}
    (aFD : PySem.W.nsIn K mainGlobals "is_field" = some (some (.ref fFD)))
    (lFD : K.lookup fFD = some ⟨ocFD, odFD, .func (PySem.W.fnOf "is_field" "is_field" (defArgs sField) (defBody sField) (defScope sField) .none kVFD dcFD pmFD anFD cdFD ctFD), slFD⟩)
    (cFD : PySem.W.codeIn K cdFD "is_field" = true)
    (kFD : PySem.W.keepIn K (.ref fFD) = true)
    {odRW anRW : Option Addr} {slRW : Array (Option Value)} {ocRW kVRW dcRW pmRW cdRW ctRW : Value}
    (aRW : PySem.W.nsIn K mainGlobals "is_row" = some (some (.ref fRW)))
    (lRW : K.lookup fRW = some ⟨ocRW, odRW, .func (PySem.W.fnOf "is_row" "is_row" (defArgs sRow) (defBody sRow) (defScope sRow) .none kVRW dcRW pmRW anRW cdRW ctRW), slRW⟩)
    (cRW : PySem.W.codeIn K cdRW "is_row" = true)
    (kRW : PySem.W.keepIn K (.ref fRW) = true)
    {odFA anFA : Option Addr} {slFA : Array (Option Value)} {ocFA kVFA dcFA pmFA cdFA ctFA : Value}
    (aFA : PySem.W.nsIn K mainGlobals "rows_fault" = some (some (.ref fFA)))
    (lFA : K.lookup fFA = some ⟨ocFA, odFA, .func (PySem.W.fnOf "rows_fault" "rows_fault" (defArgs sFault) (defBody sFault) (defScope sFault) .none kVFA dcFA pmFA anFA cdFA ctFA), slFA⟩)
    (cFA : PySem.W.codeIn K cdFA "rows_fault" = true)
    (kFA : PySem.W.keepIn K (.ref fFA) = true)
    {odTO anTO : Option Addr} {slTO : Array (Option Value)} {ocTO kVTO dcTO pmTO cdTO ctTO : Value}
    (aTO : PySem.W.nsIn K mainGlobals "told" = some (some (.ref fTO)))
    (lTO : K.lookup fTO = some ⟨ocTO, odTO, .func (PySem.W.fnOf "told" "told" (defArgs sTold) (defBody sTold) (defScope sTold) .none kVTO dcTO pmTO anTO cdTO ctTO), slTO⟩)
    (cTO : PySem.W.codeIn K cdTO "told" = true)
    (kTO : PySem.W.keepIn K (.ref fTO) = true)
    {odWR anWR : Option Addr} {slWR : Array (Option Value)} {ocWR kVWR dcWR pmWR cdWR ctWR : Value}
    (aWR : PySem.W.nsIn K mainGlobals "write_row" = some (some (.ref fWR)))
    (lWR : K.lookup fWR = some ⟨ocWR, odWR, .func (PySem.W.fnOf "write_row" "write_row" (defArgs sWRow) (defBody sWRow) (defScope sWRow) .none kVWR dcWR pmWR anWR cdWR ctWR), slWR⟩)
    (cWR : PySem.W.codeIn K cdWR "write_row" = true)
    (kWR : PySem.W.keepIn K (.ref fWR) = true)
    {odWS anWS : Option Addr} {slWS : Array (Option Value)} {ocWS kVWS dcWS pmWS cdWS ctWS : Value}
    (aWS : PySem.W.nsIn K mainGlobals "write_rows" = some (some (.ref fWS)))
    (lWS : K.lookup fWS = some ⟨ocWS, odWS, .func (PySem.W.fnOf "write_rows" "write_rows" (defArgs sWRows) (defBody sWRows) (defScope sWRows) .none kVWS dcWS pmWS anWS cdWS ctWS), slWS⟩)
    (cWS : PySem.W.codeIn K cdWS "write_rows" = true)
    (kWS : PySem.W.keepIn K (.ref fWS) = true)
    {odIN anIN : Option Addr} {slIN : Array (Option Value)} {ocIN kVIN dcIN pmIN cdIN ctIN : Value}
    (aIN : PySem.W.nsIn K mainGlobals "is_number" = some (some (.ref fIN)))
    (lIN : K.lookup fIN = some ⟨ocIN, odIN, .func (PySem.W.fnOf "is_number" "is_number" (defArgs sIsNum) (defBody sIsNum) (defScope sIsNum) .none kVIN dcIN pmIN anIN cdIN ctIN), slIN⟩)
    (cIN : PySem.W.codeIn K cdIN "is_number" = true)
    (kIN : PySem.W.keepIn K (.ref fIN) = true)
    {odRR anRR : Option Addr} {slRR : Array (Option Value)} {ocRR kVRR dcRR pmRR cdRR ctRR : Value}
    (aRR : PySem.W.nsIn K mainGlobals "read_row" = some (some (.ref fRR)))
    (lRR : K.lookup fRR = some ⟨ocRR, odRR, .func (PySem.W.fnOf "read_row" "read_row" (defArgs sRRow) (defBody sRRow) (defScope sRRow) .none kVRR dcRR pmRR anRR cdRR ctRR), slRR⟩)
    (cRR : PySem.W.codeIn K cdRR "read_row" = true)
    (kRR : PySem.W.keepIn K (.ref fRR) = true)
    {odRS anRS : Option Addr} {slRS : Array (Option Value)} {ocRS kVRS dcRS pmRS cdRS ctRS : Value}
    (aRS : PySem.W.nsIn K mainGlobals "read_rows" = some (some (.ref fRS)))
    (lRS : K.lookup fRS = some ⟨ocRS, odRS, .func (PySem.W.fnOf "read_rows" "read_rows" (defArgs sRRows) (defBody sRRows) (defScope sRRows) .none kVRS dcRS pmRS anRS cdRS ctRS), slRS⟩)
    (cRS : PySem.W.codeIn K cdRS "read_rows" = true)
    (kRS : PySem.W.keepIn K (.ref fRS) = true)
    {tkMR : Tok}
    (aMR : PySem.W.nsIn K mainGlobals "MOST_ROWS" = some (some (.int 60 tkMR)))
    {tkMW : Tok}
    (aMW : PySem.W.nsIn K mainGlobals "MOST_WIDTH" = some (some (.int 12 tkMW)))
    {tkER : Tok}
    (aER : PySem.W.nsIn K mainGlobals "EMPTY_ROW" = some (some (.str "-" tkER)))
    (aC : PySem.W.nsIn K mainGlobals "Rows" = some (some (.ref C)))
    (pgC : PySem.W.plainGet K C Str.empty = true)
    (hdC : PySem.W.hasDictIn K C = true)
    (poC : PySem.W.plainOver K C = true)
    (saC : PySem.W.findIn K (.ref C) "__setattr__" = some (some (.builtin "object.__setattr__")))
    (mkC : PySem.W.makesIn K C = true)
    (kcC : PySem.W.keepIn K (.ref C) = true)
    (nC_field : PySem.W.findIn K (.ref C) "_field" = some none)
    (nC_rows : PySem.W.findIn K (.ref C) "_rows" = some none)
    (nC_width : PySem.W.findIn K (.ref C) "_width" = some none)
    {odII anII : Option Addr} {slII : Array (Option Value)} {ocII kVII dcII pmII cdII ctII  : Value}
    {TII : Addr} {oTII : Value} {dTII : Option Addr} {uTII : Value} {nTII : Nat} {sTII : Array (Option Value)}
    (aII : PySem.W.findIn K (.ref C) "__init__" = some (some (.ref fII)))
    (iII : PySem.W.isFn K (.ref fII) = true)
    (lII : K.lookup fII = some ⟨ocII, odII, .func (PySem.W.fnOf "__init__" "Rows.__init__" (defArgs sInit) (defBody sInit) (defScope sInit) (.ref TII) kVII dcII pmII anII cdII ctII), slII⟩)
    (cII : PySem.W.codeIn K cdII "Rows.__init__" = true)
    (lTII : K.lookup TII = some ⟨oTII, dTII, .seq #[uTII] nTII, sTII⟩)
    (kII : PySem.W.keepIn K (.ref fII) = true)
    {odTX anTX : Option Addr} {slTX : Array (Option Value)} {ocTX kVTX dcTX pmTX cdTX ctTX : Value}
    (aTX : PySem.W.findIn K (.ref C) "text" = some (some (.ref fTX)))
    (iTX : PySem.W.isFn K (.ref fTX) = true)
    (lTX : K.lookup fTX = some ⟨ocTX, odTX, .func (PySem.W.fnOf "text" "Rows.text" (defArgs sText) (defBody sText) (defScope sText) .none kVTX dcTX pmTX anTX cdTX ctTX), slTX⟩)
    (cTX : PySem.W.codeIn K cdTX "Rows.text" = true)
    (kTX : PySem.W.keepIn K (.ref fTX) = true)
    {odA anA : Option Addr} {slA : Array (Option Value)} {ocA kVA dcA pmA cdA ctA : Value}
    (rdC : PySem.W.readsIn K C (.type "type") = true)
    (gaC : PySem.W.specialIn K (.ref C) "__getattribute__" = some (some (.builtin "type.__getattribute__")))
    (atA : PySem.W.findCls K (.ref C) (.type "type") "parse" = some (.get (.builtin "classmethod.__get__") (.ref pA) .none (.ref C)))
    {restA : List Value}
    (rcA : PySem.W.recIn K pA "classmethod" = some (.ref fA :: restA))
    (fiA : PySem.W.fnIn K fA = true)
    (lA : K.lookup fA = some ⟨ocA, odA, .func (PySem.W.fnOf "parse" "Rows.parse" (defArgs sParse) (defBody sParse) (defScope sParse) .none kVA dcA pmA anA cdA ctA), slA⟩)
    (cA : PySem.W.codeIn K cdA "Rows.parse" = true)
    (kA : PySem.W.keepIn K (.ref fA) = true)
    {dB : FuncData}
    (MB : Made K P mg "BadText" "line" CB fB dB)
    (sB : PySem.W.subIn K (.ref CB) (.ref CB) = some true)
    {odF : Option Addr} {itF : Array Value} {nF : Nat} {slF : Array (Option Value)}
    (aFI : PySem.W.nsIn K mainGlobals "FIELDS" = some (some (.ref aF)))
    (lFI : K.lookup aF = some ⟨.type "tuple", odF, .seq itF nF, slF⟩)
    (vFI : Vals (fields.map V.int) itF.toList)
    (zisinstance : PySem.W.nsIn K mainGlobals "isinstance" = some none)
    (zint : PySem.W.nsIn K mainGlobals "int" = some none)
    (zbool : PySem.W.nsIn K mainGlobals "bool" = some none)
    (zlist : PySem.W.nsIn K mainGlobals "list" = some none)
    (ztuple : PySem.W.nsIn K mainGlobals "tuple" = some none)
    (zlen : PySem.W.nsIn K mainGlobals "len" = some none)
    (zall : PySem.W.nsIn K mainGlobals "all" = some none)
    (zenumerate : PySem.W.nsIn K mainGlobals "enumerate" = some none)
    (zstr : PySem.W.nsIn K mainGlobals "str" = some none)
    (zrange : PySem.W.nsIn K mainGlobals "range" = some none) :
    ∃ fd : FuncData, (∀ (s : Shared) (v : Value), BindsTo s fd ⟨[v], []⟩ [("_law_script", v)]) ∧ ∀ base : Heap, K.In base → base.Ns mainGlobals mg → FnOk P w K mg base CX0 8 fa fd ["_law_script"] (spLaw K) := by
  have FS := fun_mk (st := sSource) lS cS kS
  have bS := FS.binds (ps := ["_law_script"]) fun _ _ _ _ _ _ us hl => match us, hl with | [_], _ => rfl
  have gS := PySem.W.mg_of X G aS
  have FD := fun_mk (st := sDraw) lD cD kD
  have bD := FD.binds (ps := ["_law_source_here", "_law_many"]) fun _ _ _ _ _ _ us hl => match us, hl with | [_, _], _ => rfl
  have gD := PySem.W.mg_of X G aD
  have FP := fun_mk (st := sPick) lP cP kP
  have bP := FP.binds (ps := ["_law_source_here", "_law_things"]) fun _ _ _ _ _ _ us hl => match us, hl with | [_, _], _ => rfl
  have gP := PySem.W.mg_of X G aP
  have FLF := fun_mk (st := sLField) lLF cLF kLF
  have bLF := FLF.binds (ps := ["_law_source_here"]) fun _ _ _ _ _ _ us hl => match us, hl with | [_], _ => rfl
  have gLF := PySem.W.mg_of X G aLF
  have FLR := fun_mk (st := sLRows) lLR cLR kLR
  have bLR := FLR.binds (ps := ["_law_source_here", "_law_width_here", "_law_many"]) fun _ _ _ _ _ _ us hl => match us, hl with | [_, _, _], _ => rfl
  have gLR := PySem.W.mg_of X G aLR
  have FLT := fun_mk (st := sLTable) lLT cLT kLT
  have bLT := FLT.binds (ps := ["_law_source_here", "_law_most_width", "_law_most"]) fun _ _ _ _ _ _ us hl => match us, hl with | [_, _, _], _ => rfl
  have gLT := PySem.W.mg_of X G aLT
  have FLN := fun_mk (st := sLNum) lLN cLN kLN
  have bLN := FLN.binds (ps := ["_law_word"]) fun _ _ _ _ _ _ us hl => match us, hl with | [_], _ => rfl
  have gLN := PySem.W.mg_of X G aLN
  have FLW := fun_mk (st := sLWid) lLW cLW kLW
  have bLW := FLW.binds (ps := ["_law_line", "_law_field_here"]) fun _ _ _ _ _ _ us hl => match us, hl with | [_, _], _ => rfl
  have gLW := PySem.W.mg_of X G aLW
  have FLD := fun_mk (st := sLDue) lLD cLD kLD
  have bLD := FLD.binds (ps := ["_law_text"]) fun _ _ _ _ _ _ us hl => match us, hl with | [_], _ => rfl
  have gLD := PySem.W.mg_of X G aLD
  have FLB := fun_mk (st := sLBent) lLB cLB kLB
  have bLB := FLB.binds (ps := ["_law_source_here", "_law_lines"]) fun _ _ _ _ _ _ us hl => match us, hl with | [_, _], _ => rfl
  have gLB := PySem.W.mg_of X G aLB
  have FLV := fun_mk (st := sTried) lLV cLV kLV
  have bLV := FLV.binds (ps := ["_law_text"]) fun _ _ _ _ _ _ us hl => match us, hl with | [_], _ => rfl
  have gLV := PySem.W.mg_of X G aLV
  have FLA := fun_mk (st := sLaw) lLA cLA kLA
  have bLA := FLA.binds (ps := ["_law_script"]) fun _ _ _ _ _ _ us hl => match us, hl with | [_], _ => rfl
  have gLA := PySem.W.mg_of X G aLA
  have FWH := fun_mk (st := sWhole) lWH cWH kWH
  have bWH := FWH.binds (ps := ["value"]) fun _ _ _ _ _ _ us hl => match us, hl with | [_], _ => rfl
  have gWH := PySem.W.mg_of X G aWH
  have FLI := fun_mk (st := sList) lLI cLI kLI
  have bLI := FLI.binds (ps := ["value"]) fun _ _ _ _ _ _ us hl => match us, hl with | [_], _ => rfl
  have gLI := PySem.W.mg_of X G aLI
  have FFD := fun_mk (st := sField) lFD cFD kFD
  have bFD := FFD.binds (ps := ["value"]) fun _ _ _ _ _ _ us hl => match us, hl with | [_], _ => rfl
  have gFD := PySem.W.mg_of X G aFD
  have FRW := fun_mk (st := sRow) lRW cRW kRW
  have bRW := FRW.binds (ps := ["value"]) fun _ _ _ _ _ _ us hl => match us, hl with | [_], _ => rfl
  have gRW := PySem.W.mg_of X G aRW
  have FFA := fun_mk (st := sFault) lFA cFA kFA
  have bFA := FFA.binds (ps := ["rows"]) fun _ _ _ _ _ _ us hl => match us, hl with | [_], _ => rfl
  have gFA := PySem.W.mg_of X G aFA
  have FTO := fun_mk (st := sTold) lTO cTO kTO
  have bTO := FTO.binds (ps := ["row", "field"]) fun _ _ _ _ _ _ us hl => match us, hl with | [_, _], _ => rfl
  have gTO := PySem.W.mg_of X G aTO
  have FWR := fun_mk (st := sWRow) lWR cWR kWR
  have bWR := FWR.binds (ps := ["row"]) fun _ _ _ _ _ _ us hl => match us, hl with | [_], _ => rfl
  have gWR := PySem.W.mg_of X G aWR
  have FWS := fun_mk (st := sWRows) lWS cWS kWS
  have bWS := FWS.binds (ps := ["rows", "field"]) fun _ _ _ _ _ _ us hl => match us, hl with | [_, _], _ => rfl
  have gWS := PySem.W.mg_of X G aWS
  have FIN := fun_mk (st := sIsNum) lIN cIN kIN
  have bIN := FIN.binds (ps := ["word", "field"]) fun _ _ _ _ _ _ us hl => match us, hl with | [_, _], _ => rfl
  have gIN := PySem.W.mg_of X G aIN
  have FRR := fun_mk (st := sRRow) lRR cRR kRR
  have bRR := FRR.binds (ps := ["line", "field"]) fun _ _ _ _ _ _ us hl => match us, hl with | [_, _], _ => rfl
  have gRR := PySem.W.mg_of X G aRR
  have FRS := fun_mk (st := sRRows) lRS cRS kRS
  have bRS := FRS.binds (ps := ["text"]) fun _ _ _ _ _ _ us hl => match us, hl with | [_], _ => rfl
  have gRS := PySem.W.mg_of X G aRS
  have gMR := PySem.W.mg_of X G aMR
  have gMW := PySem.W.mg_of X G aMW
  have gER := PySem.W.mg_of X G aER
  have gC := PySem.W.mg_of X G aC
  have clC : Cls K C := ⟨pgC, hdC, poC, saC⟩
  have FII : FunD K "__init__" "Rows.__init__" sInit fII (PySem.W.fnOf "__init__" "Rows.__init__" (defArgs sInit) (defBody sInit) (defScope sInit) (.ref TII) kVII dcII pmII anII cdII ctII) := ⟨⟨ocII, odII, .ref TII, kVII, dcII, pmII, anII, cdII, ctII, slII, rfl, lII, cII⟩⟩
  have bII : Binds K (PySem.W.fnOf "__init__" "Rows.__init__" (defArgs sInit) (defBody sInit) (defScope sInit) (.ref TII) kVII dcII pmII anII cdII ctII) ["self", "rows", "field"] [] := bind_dflt lTII rfl fun us hl => match us, hl with | [_, _, _], _ => ⟨_, rfl, rfl⟩
  have mII : Meth K C "__init__" fII := ⟨aII, iII, kII⟩
  have FTX := fun_mk (st := sText) lTX cTX kTX
  have bTX := FTX.binds (ps := ["self"]) fun _ _ _ _ _ _ us hl => match us, hl with | [_], _ => rfl
  have mTX : Meth K C "text" fTX := ⟨aTX, iTX, kTX⟩
  have FA := fun_mk (st := sParse) lA cA kA
  have bA := FA.binds (ps := ["cls", "text"]) fun _ _ _ _ _ _ us hl => match us, hl with | [_, _], _ => rfl
  have gFI := PySem.W.mg_of X G aFI
  have tFI : ∀ H, SqT K H aF (fields.map V.int) := fun H => .inr ⟨_, itF, nF, lFI, rfl, rfl, by show itF.toList.length ≤ sizeLine; rw [← vFI.length]; decide, vFI⟩
  have yisinstance := PySem.W.mg_none_of X G zisinstance
  have yint := PySem.W.mg_none_of X G zint
  have ybool := PySem.W.mg_none_of X G zbool
  have ylist := PySem.W.mg_none_of X G zlist
  have ytuple := PySem.W.mg_none_of X G ztuple
  have ylen := PySem.W.mg_none_of X G zlen
  have yall := PySem.W.mg_none_of X G zall
  have yenumerate := PySem.W.mg_none_of X G zenumerate
  have ystr := PySem.W.mg_none_of X G zstr
  have yrange := PySem.W.mg_none_of X G zrange
  have e := hfa.symm.trans gLA; cases e
  have N : Nm mg := ⟨yisinstance, yint, ybool, ylist, ytuple, ylen, yall, yenumerate, ystr, yrange⟩
  have T : RTxt K mg C := ⟨clC, nC_field, nC_rows, nC_width, gC⟩
  have M : Mk K C fII := ⟨mkC, aII, iII, kcC⟩
  have CR : ClX.CRead K C (.type "type") := ⟨rdC, gaC⟩
  have CM : ClX.CMet K C (.type "type") "parse" pA fA := ⟨atA, ⟨_, rcA⟩, fiA⟩
  refine ⟨PySem.W.fnOf "law" "law" (defArgs sLaw) (defBody sLaw) (defScope sLaw) .none kVLA dcLA pmLA anLA cdLA ctLA, fun s v => .of_eq rfl, fun base _ _ => ?_⟩
  have GS := ok_source (P := P) (w := w) (base := base) FS yint
  have GD := ok_draw (P := P) (w := w) (base := base) FD yint
  have GP := ok_pick (P := P) (w := w) (base := base) FP GD gD kD bD ylen
  have GLF := ok_lfield (P := P) (w := w) (base := base) FLF GD kD bD gD
  have GLR := ok_lrows (P := P) (w := w) (base := base) FLR N GD kD bD gD GP kP bP gP
  have GLT := ok_ltable (P := P) (w := w) (base := base) FLT GD kD bD gD GLF kLF bLF gLF GLR kLR bLR gLR
  have GFD := ok_field (P := P) (w := w) (base := base) FFD FWH bWH gWH N gFI tFI
  have GRW := ok_row (P := P) (w := w) (base := base) FRW FWH bWH gWH FLI bLI gLI N gMW
  have GFA := ok_fault (P := P) (w := w) (base := base) FFA GRW kRW bRW gRW FLI bLI gLI N gMR
  have GTO := ok_told (P := P) (w := w) (base := base) FTO N
  have GII := ok_init0 (P := P) (w := w) (base := base) FII T N GFD kFD bFD gFD GFA kFA bFA gFA GTO kTO bTO gTO
  have GWR := ok_wrow (P := P) (w := w) (base := base) FWR N gER
  have GWS := ok_wrows (P := P) (w := w) (base := base) FWS N GWR kWR bWR gWR
  have GTX := ok_text (P := P) (w := w) (base := base) FTX T GWS kWS bWS gWS
  have GIN := ok_isnumG (P := P) (w := w) (base := base) FIN N
  have GRR := ok_rrowG (P := P) (w := w) (base := base) FRR N gER gMW GIN kIN bIN gIN
  have GRS := ok_rrowsG (P := P) (w := w) (base := base) FRS N gMR gFI tFI MB GRR kRR bRR gRR
  have GA := ok_parseX (P := P) (w := w) (base := base) FA M GRS kRS bRS gRS GII bII
  have GLN := ok_lnum (P := P) (w := w) (base := base) FLN N
  have GLW := ok_lwid (P := P) (w := w) (base := base) FLW N GLN kLN bLN gLN
  have GLD := ok_ldue (P := P) (w := w) (base := base) FLD N GLW kLW bLW gLW
  have GLB := ok_lbent (P := P) (w := w) (base := base) FLB N GD kD bD gD GP kP bP gP
  have GLV := ok_tried (P := P) (w := w) (base := base) FLV T CR CM MB (MB.exm sB) GA bA GTX bTX mTX
  exact ok_law FLA N T M GS kS bS gS GD kD bD gD GLT kLT bLT gLT GII bII GTX bTX mTX GLB kLB bLB gLB GLD kLD bLD gLD GLV kLV bLV gLV
end My
open PySem PySem.W PyProof.Rows in
set_option maxRecDepth 100000 in
set_option maxHeartbeats 0 in
theorem PySem.Challenge.cw_freelots_k04_bad_row_texts_holds : PySem.Challenge.rw_freelots_k04_bad_row_texts.Holds := by
  w_on; o_law; k_head; (case hw => w_witness2)
  k_fill
  refine L2.walk_of (l := PySem.Challenge.rw_freelots_k04_bad_row_texts) (n := 63) (k := 8) (x := "_law_script") (CX := fun _ => L2.CX0) (sp := fun w => My.spLaw _) rfl (by decide) rfl ⟨rfl, by decide, by decide⟩ (fun w h Y => PySem.W.kIn_of Y) ?F (fun _ _ a ns hl _ hS => ⟨a, ns, rfl, hS, fun _ => rfl⟩) (fun _ _ _ _ _ h => h)
  case F =>
    intro w mg fa h KX G hmg
    refine' My.all_mk KX G hmg ?aS ?lS ?cS ?kS ?aD ?lD ?cD ?kD ?aP ?lP ?cP ?kP ?aLF ?lLF ?cLF ?kLF ?aLR ?lLR ?cLR ?kLR ?aLT ?lLT ?cLT ?kLT ?aLN ?lLN ?cLN ?kLN ?aLW ?lLW ?cLW ?kLW ?aLD ?lLD ?cLD ?kLD ?aLB ?lLB ?cLB ?kLB ?aLV ?lLV ?cLV ?kLV ?aLA ?lLA ?cLA ?kLA ?aWH ?lWH ?cWH ?kWH ?aLI ?lLI ?cLI ?kLI ?aFD ?lFD ?cFD ?kFD ?aRW ?lRW ?cRW ?kRW ?aFA ?lFA ?cFA ?kFA ?aTO ?lTO ?cTO ?kTO ?aWR ?lWR ?cWR ?kWR ?aWS ?lWS ?cWS ?kWS ?aIN ?lIN ?cIN ?kIN ?aRR ?lRR ?cRR ?kRR ?aRS ?lRS ?cRS ?kRS ?aMR ?aMW ?aER ?aC ?pgC ?hdC ?poC ?saC ?mkC ?kcC ?nC_field ?nC_rows ?nC_width ?aII ?iII ?lII ?cII ?lTII ?kII ?aTX ?iTX ?lTX ?cTX ?kTX ?rdC ?gaC ?atA ?rcA ?fiA ?lA ?cA ?kA ?MB ?sB ?aFI ?lFI ?vFI ?zisinstance ?zint ?zbool ?zlist ?ztuple ?zlen ?zall ?zenumerate ?zstr ?zrange
    (case aS => k_is)
    (case lS => k_is)
    (case cS => k_is)
    (case kS => k_is)
    (case aD => k_is)
    (case lD => k_is)
    (case cD => k_is)
    (case kD => k_is)
    (case aP => k_is)
    (case lP => k_is)
    (case cP => k_is)
    (case kP => k_is)
    (case aLF => k_is)
    (case lLF => k_is)
    (case cLF => k_is)
    (case kLF => k_is)
    (case aLR => k_is)
    (case lLR => k_is)
    (case cLR => k_is)
    (case kLR => k_is)
    (case aLT => k_is)
    (case lLT => k_is)
    (case cLT => k_is)
    (case kLT => k_is)
    (case aLN => k_is)
    (case lLN => k_is)
    (case cLN => k_is)
    (case kLN => k_is)
    (case aLW => k_is)
    (case lLW => k_is)
    (case cLW => k_is)
    (case kLW => k_is)
    (case aLD => k_is)
    (case lLD => k_is)
    (case cLD => k_is)
    (case kLD => k_is)
    (case aLB => k_is)
    (case lLB => k_is)
    (case cLB => k_is)
    (case kLB => k_is)
    (case aLV => k_is)
    (case lLV => k_is)
    (case cLV => k_is)
    (case kLV => k_is)
    (case aLA => k_is)
    (case lLA => k_is)
    (case cLA => k_is)
    (case kLA => k_is)
    (case aWH => k_is)
    (case lWH => k_is)
    (case cWH => k_is)
    (case kWH => k_is)
    (case aLI => k_is)
    (case lLI => k_is)
    (case cLI => k_is)
    (case kLI => k_is)
    (case aFD => k_is)
    (case lFD => k_is)
    (case cFD => k_is)
    (case kFD => k_is)
    (case aRW => k_is)
    (case lRW => k_is)
    (case cRW => k_is)
    (case kRW => k_is)
    (case aFA => k_is)
    (case lFA => k_is)
    (case cFA => k_is)
    (case kFA => k_is)
    (case aTO => k_is)
    (case lTO => k_is)
    (case cTO => k_is)
    (case kTO => k_is)
    (case aWR => k_is)
    (case lWR => k_is)
    (case cWR => k_is)
    (case kWR => k_is)
    (case aWS => k_is)
    (case lWS => k_is)
    (case cWS => k_is)
    (case kWS => k_is)
    (case aIN => k_is)
    (case lIN => k_is)
    (case cIN => k_is)
    (case kIN => k_is)
    (case aRR => k_is)
    (case lRR => k_is)
    (case cRR => k_is)
    (case kRR => k_is)
    (case aRS => k_is)
    (case lRS => k_is)
    (case cRS => k_is)
    (case kRS => k_is)
    (case aMR => k_is)
    (case aMW => k_is)
    (case aER => k_is)
    (case aC => k_is)
    (case pgC => k_is)
    (case hdC => k_is)
    (case poC => k_is)
    (case saC => k_is)
    (case mkC => k_is)
    (case kcC => k_is)
    (case nC_field => k_is)
    (case nC_rows => k_is)
    (case nC_width => k_is)
    (case aII => k_is)
    (case iII => k_is)
    (case lII => k_is)
    (case cII => k_is)
    (case lTII => k_is)
    (case kII => k_is)
    (case aTX => k_is)
    (case iTX => k_is)
    (case lTX => k_is)
    (case cTX => k_is)
    (case kTX => k_is)
    (case rdC => k_is)
    (case gaC => k_is)
    (case atA => k_is)
    (case rcA => k_is)
    (case fiA => k_is)
    (case lA => k_is)
    (case cA => k_is)
    (case kA => k_is)
    (case MB => exact (My.made_mk (P := PySem.Challenge.rw_freelots_k04_bad_row_texts.prog) (x := "BadText") (fld := "line") KX G (by k_is) (by k_is) (by k_is) (by k_is) (by k_is) (by k_is) (by k_is) (by k_is) (by k_is) (by k_is) (by k_is) (by k_is) (by k_is) (by k_is) (by k_is) (by k_is) (by k_is) (My.excF_mk (by k_is) (by k_is) (by k_is) (by k_is) (by k_is) (by k_is) (by k_is) (by k_is)) rfl rfl rfl (by decide +kernel) rfl ⟨rfl, rfl, rfl, by decide +kernel, rfl, rfl, rfl, rfl⟩ (by decide +kernel) (by decide +kernel) (by decide +kernel) rfl (by kernel_rfl) (fun us hl => match us, hl with | [_, _], _ => rfl) (fun _ _ => rfl)))
    (case sB => k_is)
    (case aFI => k_is)
    (case lFI => k_is)
    (case vFI => exact .cons ⟨_, rfl⟩ (.cons ⟨_, rfl⟩ (.cons ⟨_, rfl⟩ (.cons ⟨_, rfl⟩ (.cons ⟨_, rfl⟩ (.cons ⟨_, rfl⟩ (.cons ⟨_, rfl⟩ .nil)))))))
    (case zisinstance => k_is)
    (case zint => k_is)
    (case zbool => k_is)
    (case zlist => k_is)
    (case ztuple => k_is)
    (case zlen => k_is)
    (case zall => k_is)
    (case zenumerate => k_is)
    (case zstr => k_is)
    (case zrange => k_is)
