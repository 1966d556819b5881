import PyProof.Rows.All
import Wide.All
import OpenK.AllK
import Wide.FinOn
import KE.KExcTry
import KE.KExcStr
import HandS.ExcInit
import KE.KExcIs
import HandS.ForMost
import HandS.ExcIs
import HandS.ExcOwn
import HandS.ExcValue
import HandS.IsInst
import HandS.More
import PyProof.NeKinds
import PySem.Challenge.RW_freelots_k17_errors_made
set_option Elab.async false
set_option linter.all false
set_option maxRecDepth 100000
set_option maxHeartbeats 4000000
/-! An own exception class over ValueError (at any depth) with `def __init__(self, f): super().__init__('words'); self.f = f`. -/
namespace My
open PySem PySem.W PySem.Calls
section
variable {prog : Program} {w : World} {A : Around} {E : Value → Shared → Prop} {R : Result → Shared → Prop} {K : Frag}
/-- the wrapper bound by super() is called -/
theorem mw_call {hp : Heap} {gs : Array GenState} {dr : Drawn} {tk : Nat} {os : OsState} {nm qn : Str} {C N : Addr} {bs bm bb : List Value} {hd : Bool} {sn : List Str} {sb : List Value}
    {ab : Bool} {col : Option Bool} {dd : Option Addr} {k0 k1 k2 k3 k5 : Option Value} {B ni ii : String} {u e t0 : Addr} {rest : List Value} {Q : Value → Shared → Prop}
    (FB : ExcBaseFacts B ni ii bb)
    (hC : hp.get? C = some (excClassObj nm qn C N bs bm hd sn sb ab col dd k0 k1 k2 k3 k5 ni)) (he : hp.get? e = some (excRec (.ref C) t0 none .none .none (.bool false)))
    (hu : hp.get? u = some (kxs_mw ii e)) (hz : rest.length ≤ sizeLine)
    (hq : ∀ h' t1, (∀ b o, b ≠ e → hp.get? b = some o → h'.get? b = some o) → h'.get? e = some (excRec (.ref C) t1 none .none .none (.bool false)) → Q .none ⟨h', gs, dr, tk, os⟩) :
    wpAny (model prog w) A (call (.ref u) rest) Q E ⟨hp, gs, dr, tk, os⟩ := by
  refine wpAny_call (codeAny_of_tree ?_)
  show wpAny _ A.in1 (callAny (.ref u) ⟨rest, []⟩) _ _ _
  simp only [callAny]
  refine wpAny_bind (wpAny_load hu ?_)
  have c1 : (Value.type "method-wrapper" == Value.type "method" || Value.type "method-wrapper" == Value.type "builtin_function_or_method"
    || Value.type "method-wrapper" == Value.type "method-wrapper") = true := by decide
  simp only [kxs_mw, c1, if_true]
  refine KFB.if_so (by decide) ?_
  refine wpAny_bind (check_bound_init FB.toExcCallFacts hC he rfl ?_)
  refine wpAny_bind (wpAny_pure (wpAny_pure ?_))
  refine ⟨plainId_quiet FB.init.plain _, codeAny_builtin FB.initEntry ?_⟩
  exact exc_init_tree he hz fun h' k e' _ => hq h' _ k e'
/-- the body of such an __init__ -/
def initBody (msg fld : Str) (j : Nat) (p0 p1 p2 p3 p4 p5 q0 q1 q2 q3 : Pos) : List Stmt :=
  [.Expr (.Call (.Attribute (.Call (.Name "super" p0) [] [] p1) "__init__" p2) [.Constant (.str msg) j p3] [] p4) p5,
   .Assign [.Attribute (.Name "self" q0) fld q1] (.Name fld q2) q3]
structure InitScope (sc : Scope) (fld : Str) : Prop where
  kind : sc.kind = .function
  co : sc.isCoroutine = false
  gen : sc.isGenerator = false
  nocell : ∀ x ∈ sc.names, x.2 ≠ .cell
  self : sc.names.lookup ("self" : Str) = some .local
  fld : sc.names.lookup fld = some .local
  sup : sc.names.lookup ("super" : Str) = some .globalImplicit
  cls : sc.names.lookup ("__class__" : Str) = some .free
theorem meth_eval {o : Expr} {name : Str} {p2 p4 p3 : Pos} {env : Env} {c : Const} {j : Nat} (hl : (p2.endLine == p4.line) = true) :
    eval (.Call (.Attribute o name p2) [.Constant c j p3] [] p4) env = (do
      let ov ← attributeBase o name env (eval o env)
      standAt p2.atName
      let (f, first) ← holding [ov] (getMethod ov name (do return (← importBound o env).getD true))
      callWith p4 f first (backTo p4 (starEach [.Constant c j p3] env)) []) := by
  show (do
    let ov ← attributeBase o name env (eval o env)
    standAt p2.atName
    methodCall o name p2 p4 env ov 1 (backTo p4 (starEach [.Constant c j p3] env)) []) = _
  congr 1
  funext ov
  congr 1
  funext _
  unfold methodCall methodCallPos
  have hf : methodCallForm 1 (backTo p4 (starEach [Expr.Constant c j p3] env)) [] = true := rfl
  rw [hf, hl]
  simp [calleeOf]
theorem init_run {s : Shared} {C D fI cda cc e t0 : Addr} {v : Value} {args : Args} {mg mb : Str → Option Value} {msg fld name qual file : Str} {j : Nat} {p0 p1 p2 p3 p4 p5 q0 q1 q2 q3 : Pos}
    {params : Arguments} {ar : Arg} {scope : Scope} {dV kV doc pm ct oc ccl cl : Value} {an od cdd cld : Option Addr} {osl ccs csl : Array (Option Value)} {vs : Array Value} {tf : Tok} {cdD cdC : ClassData} {B ni ii : String} {bb : List Value}
    {nmC qnC : Str} {NC : Addr} {bsC bmC : List Value} {hdC0 : Bool} {snC : List Str} {sbC : List Value} {abC : Bool} {colC : Option Bool} {ddC : Option Addr} {w0 w1 w2 w3 w5 : Option Value}
    (X : K.In s.heap) (hKe : ∀ o, K.lookup e = some o → False) (lim : s.heap.NoLimit) (hG : s.heap.Ns mainGlobals mg) (hsup : mg "super" = none) (hB : s.heap.Ns builtinsNs mb) (hsb : mb "super" = some (.type "super"))
    (FB : ExcBaseFacts B ni ii bb) (KF : KxsFacts B ii)
    (hCK : K.lookup C = some (excClassObj nmC qnC C NC bsC bmC hdC0 snC sbC abC colC ddC w0 w1 w2 w3 w5 ni)) (hclC : clsIn K C = some cdC) (hmC : PySem.HandSPX.refsVE cdC.mro = true) (hdC : cdC.hasDict = true)
    (saC : findIn K (.ref C) "__setattr__" = some (some (.builtin "object.__setattr__"))) (fC : findIn K (.ref C) fld = some none)
    (hD : clsIn K D = some cdD) (hsub : mroIn K C (.ref D) = some true) (hopq : nsIn K cStatics "thirdparty.any" = some none)
    (hin : ks_superIn K C D "__init__" = some (some (.builtin ii))) (hBC : subIn K (.ref C) (.type B) = some true)
    (S : InitScope scope fld) (hne : fld ≠ "self") (hdb : (fld == ("__debug__" : Str)) = false)
    (lk : K.lookup fI = some ⟨oc, od, .func (ksFn name qual params (initBody msg fld j p0 p1 p2 p3 p4 p5 q0 q1 q2 q3) scope dV kV doc pm an (.ref cda) ct cc), osl⟩)
    (hcd : codeIn K (.ref cda) qual = true) (hp : (params.posonlyargs ++ params.args).head? = some ar) (har : ar.arg = "self")
    (hcode : K.lookup cda = some ⟨ccl, cdd, .fields vs, ccs⟩) (hvs : vs[2]? = some (.str file tf)) (hfile : ((prog.main.file : Str) == file) = true)
    (htop : (prog.main.scope.names.lookup ("super" : Str)).isSome = false)
    (hcell : K.lookup cc = some ⟨cl, cld, .cell (some (.ref D)), csl⟩)
    (hl : (p2.endLine == p4.line) = true) (hroom : A.depth < recursionLimit) (hbind : BindsTo s (ksFn name qual params (initBody msg fld j p0 p1 p2 p3 p4 p5 q0 q1 q2 q3) scope dV kV doc pm an (.ref cda) ct cc) args [("self", .ref e), (fld, v)])
    (he : s.heap.get? e = some (excRec (.ref C) t0 none .none .none (.bool false)))
    (hq : ∀ h' tk dx t1, (∀ b o, b ≠ e → s.heap.get? b = some o → h'.get? b = some o) → s.heap.objs.size ≤ dx → dx ≠ e → h'.get? e = some (excRec (.ref C) t1 (some dx) .none .none (.bool false)) →
      h'.Ns1 dx (fun y => if y = fld then some v else none) → R (.ok (.ret .none)) ⟨h', s.gens, s.drawn, tk, s.os⟩) :
    codeAny (model prog w) A (.call (.ref fI) args) R s := by
  obtain ⟨hh, g, d, tk, os⟩ := s
  have hloc : ∀ y ∈ [(("self" : Str), Value.ref e), (fld, v)], scope.names.lookup y.1 = some .local := fun y hy => by
    rcases List.mem_cons.mp hy with rfl | hy
    · exact S.self
    · rcases List.mem_cons.mp hy with rfl | hy
      · exact S.fld
      · cases hy
  refine ks_codeAny_call_defAt (fd := ksFn name qual params (initBody msg fld j p0 p1 p2 p3 p4 p5 q0 q1 q2 q3) scope dV kV doc pm an (.ref cda) ct cc) (body := initBody msg fld j p0 p1 p2 p3 p4 p5 q0 q1 q2 q3)
    hroom (X _ _ lk) rfl lim (codeRec_of X hcd) rfl hbind S.nocell hloc (fun h1 hns k1 => ?_) S.co S.gen S.kind
  show PySem.wpAt _ _ _ (execs (initBody msg fld j p0 p1 p2 p3 p4 p5 q0 q1 q2 q3) (ksEnv qual scope hh.objs.size fI (.ref cda) cc)) _ _ _
  have X1 : K.In h1 := X.keeps k1
  have hm0 : (([(("self" : Str), Value.ref e), (fld, v)] : List (Str × Value)).reverse.lookup ("self" : Str)) = some (.ref e) := by
    have : (("self" : Str) == fld) = false := by simpa using (Ne.symm hne)
    simp [List.lookup, this]
  have hm1 : (([(("self" : Str), Value.ref e), (fld, v)] : List (Str × Value)).reverse.lookup fld) = some v := by
    simp [List.lookup]
  unfold initBody
  have hi : interactive (ksEnv qual scope hh.objs.size fI (.ref cda) cc) = false := by
    show (scope.kind == .module && _) = false
    rw [S.kind]
    rfl
  refine ks_wpAt_execs_cons (ks_wpAt_Expr_any ?_ hi)
  refine ks_wpAt_MethodCall ?_ (meth_eval hl)
  refine ks_wpAt_super_base (env := ksEnv qual scope hh.objs.size fI (.ref cda) cc) S.sup S.cls (by decide) rfl (X1 _ _ lk) rfl hp rfl (X1 _ _ hcode) rfl hvs hfile htop ?_
  have hsup0 : (envX qual scope hh.objs.size fI (.ref cda) [("__class__", cc)]).kindOf "super" = some .globalImplicit := S.sup
  refine ks_loadName_global S.kind hsup0 (loadGlobal_builtin (hG.keeps k1) hsup (hB.keeps k1) hsb ⟨rfl, ?_⟩)
  refine wpAny_loadName_free S.kind S.cls rfl ⟨_, X1 _ _ hcell, rfl⟩ ?_
  rw [har]
  refine wpAny_loadName_local S.kind S.self hns hm0 ?_
  obtain ⟨oD, hD1, hD2⟩ : ∃ oD, h1.get? D = some oD ∧ oD.data = .cls cdD := by
    unfold clsIn at hD
    split at hD
    · rename_i ho
      cases hD
      exact ⟨_, X1 _ _ ho, rfl⟩
    · cases hD
  refine ks_wpAny_isType_cls hD1 hD2 ⟨rfl, ?_⟩
  have he1 := k1 _ _ he
  have eC : e ≠ C := by
    intro z
    unfold clsIn at hclC
    split at hclC
    · rename_i ho
      have q := X1 _ _ ho
      rw [← z, he1] at q
      cases q
    · cases hclC
  refine ks_wpAny_call_super hD1 hD2 he1 rfl (fun c q => by cases q) (looks_mroIn X1 hsub) fun h2 hso k2 => ?_
  have X2 : K.In h2 := X1.keeps k2
  have he2 := k2 _ _ he1
  have hI : Looks (model prog w) h2 (isInstance (.ref e) (.type B)) true :=
    (show InstAt h2 e _ C none from ⟨he2, rfl, rfl, trivial⟩).type.andThen (looks_subIn X2 hBC)
  have hin' : alongIn K "__init__" ((cdC.mro.dropWhile (· != .ref D)).drop 1) = some (some (.builtin ii)) := by
    unfold ks_superIn at hin
    rw [hclC] at hin
    exact hin
  refine kxs_getMethod KF hso (looks_opaque X2 hopq) (l₀ := cdC.mro) ((looks_clsIn X2 hclC).andThen .now) rfl X2 hin' hI eC (by decide) ?_
  have k3 : ∀ b o, h2.get? b = some o → (h2.push (kxs_mw ii e)).get? b = some o := fun b o q => Heap.get?_push_of_some _ q
  have hu : (h2.push (kxs_mw ii e)).get? h2.objs.size = some (kxs_mw ii e) := Heap.get?_push_at rfl rfl
  refine kxs_callWith (i := ii) (x := e) (by rfl) (evalArgs_plain (spliced_cons ?_))
  refine Constant_str (pos := p3) (k := j) (spliced_nil ⟨hu, ?_⟩)
  have X3 : K.In (h2.push (kxs_mw ii e)) := X2.keeps k3
  refine mw_call FB (X3 _ _ hCK) (k3 _ _ he2) hu (by show 1 ≤ sizeLine; rw [sizeLine_eq]; omega) fun h4 t4 k4 e4 => ?_
  show PySem.wpAt _ _ _ _ _ _ _
  have X4 : K.In h4 := fun b o q => by
    by_cases hb : b = e
    · rw [hb] at q
      exact (hKe o q).elim
    · exact k4 b o hb (X3 b o q)
  have hns4 : h4.Ns hh.objs.size fun x => List.lookup x [(Str.ofString "self", Value.ref e), (fld, v)].reverse := by
    obtain ⟨oL, es, ep, hL, r⟩ := hns
    refine ⟨oL, es, ep, k4 _ _ (fun z => ?_) (k3 _ _ (k2 _ _ hL)), r⟩
    have y := Heap.lt_size he
    rw [← z] at y
    exact absurd y (Nat.lt_irrefl _)
  refine ks_wpAt_execs_cons (ks_wpAt_Assign_Attr (PySem.wpAt_of_wpAny ?_))
  refine wpAny_Name (env := ksEnv qual scope hh.objs.size fI (.ref cda) cc) (wpAny_loadName_local (m := fun x : Str => ([(("self" : Str), Value.ref e), (fld, v)] : List (Str × Value)).reverse.lookup x) S.kind S.fld hns4 hm1 ?_) hdb
  refine wpAny_Name (env := ksEnv qual scope hh.objs.size fI (.ref cda) cc) (wpAny_loadName_local (m := fun x : Str => ([(("self" : Str), Value.ref e), (fld, v)] : List (Str × Value)).reverse.lookup x) S.kind S.self hns4 hm0 ?_) (by decide)
  refine set_plain X4 (ox := excRec (.ref C) t4 none .none .none (.bool false)) (od := none) ⟨e4, rfl, rfl, trivial⟩ saC ?_
  refine PySem.HandSPX.exc_osa X4 e4 hclC hmC hdC fC fun h5 tk5 dx k5 l5 n5 e5 d5 => ?_
  refine PySem.wpAt_of_wpAny (wpAny_execs_nil ?_)
  refine hq h5 _ dx t4 (fun b o nb q => k5 b o nb (k4 b o nb (k3 _ _ (k2 _ _ (k1 _ _ q))))) ?_ n5 e5 d5
  obtain ⟨oL, es, ep, hL, _⟩ := hns4
  exact Nat.le_of_lt (Nat.lt_of_lt_of_le (Heap.lt_size hL) l5)
end
end My
namespace My
open PySem L2
/-- what the text's written part holds of such an __init__ (D: the class it stands in) -/
structure InitFn (K : PySem.W.Frag) (P : Program) (D : Addr) (fld : Str) (fI : Addr) (fd : FuncData) : Prop where
  ex : ∃ (msg name qual file : Str) (j : Nat) (p0 p1 p2 p3 p4 p5 q0 q1 q2 q3 : Pos) (params : Arguments) (ar : Arg) (scope : Scope) (dV kV doc pm ct oc ccl cl : Value) (an od cdd cld : Option Addr)
      (osl ccs csl : Array (Option Value)) (vs : Array Value) (tf : Tok) (cda cc : Addr),
    fd = PySem.W.ksFn name qual params (initBody msg fld j p0 p1 p2 p3 p4 p5 q0 q1 q2 q3) scope dV kV doc pm an (.ref cda) ct cc ∧
    K.lookup fI = some ⟨oc, od, .func fd, osl⟩ ∧ PySem.W.codeIn K (.ref cda) qual = true ∧ (params.posonlyargs ++ params.args).head? = some ar ∧ ar.arg = "self" ∧
    K.lookup cda = some ⟨ccl, cdd, .fields vs, ccs⟩ ∧ vs[2]? = some (.str file tf) ∧ ((P.main.file : Str) == file) = true ∧
    K.lookup cc = some ⟨cl, cld, .cell (some (.ref D)), csl⟩ ∧ (p2.endLine == p4.line) = true ∧ InitScope scope fld
  cd : ∃ cdD, PySem.W.clsIn K D = some cdD
  top : (P.main.scope.names.lookup ("super" : Str)).isSome = false
  opq : PySem.W.nsIn K cStatics "thirdparty.any" = some none
  ne : fld ≠ "self"
  db : (fld == ("__debug__" : Str)) = false
/-- the class C that is made, whose __init__ this is -/
structure InitOf (K : PySem.W.Frag) (C D : Addr) (fld : Str) : Prop where
  T : OexC K C
  sub : PySem.W.mroIn K C (.ref D) = some true
  sup : PySem.W.ks_superIn K C D "__init__" = some (some (.builtin "ValueError.__init__"))
  ve : PySem.W.subIn K (.ref C) (.type "ValueError") = some true
  nof : PySem.W.findIn K (.ref C) fld = some none
/-- what such an __init__ does -/
def spInit (K : PySem.W.Frag) (D : Addr) (fld : Str) : Sp := fun vs H Q _ => ∃ (a C : Addr) (y : V), vs = [.ref a, y] ∧ InitOf K C D fld ∧ H a = some (exo a C none) ∧
  ∀ dx, H dx = none → dx ≠ a → Q .non (upd (upd H dx (exd dx [(fld, y)])) a (exo a C (some dx)))
theorem exo_new_un {fs : List Addr} {H : Hp} {h h' : Heap} {a C dx : Addr} {f : Str} {y : V} (ha : H a = some (exo a C none)) (hdx : H dx = none)
    (k : ∀ b o, b ≠ a → h.get? b = some o → h'.get? b = some o) (l : h.objs.size ≤ dx) (ea : ∃ o, h'.get? a = some o) :
    Un fs [] H (upd (upd H dx (exd dx [(f, y)])) a (exo a C (some dx))) h h' := by
  have na : ∀ {b : Addr}, H b = none → b ≠ a := by
    intro b n z
    rw [z, ha] at n
    cases n
  have nd : ∀ {b : Addr} {o : Obj}, h.get? b = some o → b ≠ dx := by
    intro b o q z
    have y := Heap.lt_size q
    rw [z] at y
    exact absurd y (Nat.not_lt.mpr l)
  refine ⟨?_, ?_, ?_, ?_, ?_, ?_, ?_⟩
  · intro b o q n _ _
    exact k b o (na n) q
  · intro b o q n _ _
    exact ⟨o.slots, k b o (na n) q⟩
  · intro b o q n _
    rw [upd_ne (na n)]
    rw [upd_ne (nd q)]
    exact n
  · intro b o q _
    by_cases z : b = a
    · rw [z]
      exact ea
    · exact ⟨o, k b o z q⟩
  · intro b xs q
    rw [upd_ne (at_ne ha q exo_tup)]
    rw [upd_ne (ne_of_none q hdx)]
    exact q
  · intro b o u q
    rw [upd_ne (at_ne ha q exo_frz)]
    rw [upd_ne (ne_of_none q hdx)]
    exact q
  · intro b ps q
    refine ⟨#[], ?_⟩
    rw [upd_ne (at_ne ha q exo_tbl)]
    rw [upd_ne (ne_of_none q hdx)]
    rw [q]
    simp
theorem exo_new_ok {P : Program} {w : World} {H : Hp} {h h' : Heap} {a C dx t1 : Addr} {f : Str} {y : V} {u : Value} (hok : HOk P w H h) (ha : H a = some (exo a C none)) (hdx : H dx = none)
    (k : ∀ b o, b ≠ a → h.get? b = some o → h'.get? b = some o)
    (ea : h'.get? a = some ({ cls := .ref C, dict := some dx, data := .fields #[.ref t1, .none, .none, .none, .bool false, .none] } : Obj))
    (ry : RelV y u) (hn : h'.Ns1 dx (fun z => if z = f then some u else none)) :
    HOk P w (upd (upd H dx (exd dx [(f, y)])) a (exo a C (some dx))) h' := by
  intro b o q
  by_cases za : b = a
  · rw [za] at q ⊢
    rw [upd_same] at q
    cases q
    exact exo_ok ea
  rw [upd_ne za] at q
  by_cases zd : b = dx
  · rw [zd] at q ⊢
    rw [upd_same] at q
    cases q
    exact exd_ok hn (relO_put (fs := []) ry fun _ => True.intro)
  rw [upd_ne zd] at q
  refine (hok b o q).stay ?_ ?_ ?_
  · intro c v hc z
    refine k c v ?_ z
    rcases hc with hc | hc
    · rw [hc]
      exact za
    · exact at_ne ha hc exo_own
  · intro c hc
    rw [upd_ne (at_ne ha hc exo_own)]
    rw [upd_ne (ne_of_none hc hdx)]
    exact hc
  · intro c xs hc
    rw [upd_ne (at_ne ha hc exo_tup)]
    rw [upd_ne (ne_of_none hc hdx)]
    exact hc
theorem init_ok {P : Program} {w : World} {K : PySem.W.Frag} {mg : Str → Option Value} {base : Heap} {CX : CXT} {D fI : Addr} {fld : Str} {fd : FuncData} (F : InitFn K P D fld fI fd) (ms : mg "super" = none) :
    FnOk P w K mg base CX 0 fI fd ["self", fld] (spInit K D fld) := by
  refine ⟨fun vs H Q E h => ?_, fun A outer s H args us vs Q E hr e0 hb r hsp => ?_⟩
  · obtain ⟨a, C, y, rfl, _⟩ := h
    rfl
  obtain ⟨a, C, y, rfl, J, ha, hq⟩ := hsp
  obtain ⟨msg, name, qual, file, j, p0, p1, p2, p3, p4, p5, q0, q1, q2, q3, params, ar, scope, dV, kV, doc, pm, ct, oc, ccl, cl, an, od, cdd, cld, osl, ccs, csl, vs, tf, cda, cc, rfl, lk, hcd, hp, har, hcode, hvs, hfile, hcell, hl, S⟩ := F.ex
  obtain ⟨nm, q, N, bs, bm, sn, sub, ab, col, dd, k0, k1, k2, k3, k5, hC, hbm⟩ := J.T.cls
  obtain ⟨cdD, hD⟩ := F.cd
  obtain ⟨mb, hB, hsb⟩ := e0.mod.blt
  have kb : ∀ b o, base.get? b = some o → s.heap.get? b = some o := fun b o e => (e0.bs b o e).1
  obtain ⟨t1, he⟩ := exo_at e0.hok ha
  have hcl : PySem.W.clsIn K C = some { name := nm, bases := bs, mro := .ref C :: bm, ns := N, qualname := q, hasDict := true, slotNames := sn, subclasses := sub, abstract := ab, collection := col, hasDel := false } := by
    unfold PySem.W.clsIn
    rw [hC] <;> rfl
  cases r with
  | @cons _ u0 _ ur ra rr =>
    obtain rfl : u0 = Value.ref a := ra
    cases rr with
    | @cons _ u _ ur2 ry rn =>
      cases rn
      refine init_run (e0.mod.kin.keeps kb) (fun o z => ?_) (e0.mod.nolimit.keeps kb) (e0.mod.glob.keeps kb) ms (hB.keeps kb) ((hsb "super" (by decide)).trans (by decide +kernel))
        PySem.F.excBase_ValueError PySem.W.kxs_ValueError hC hcl hbm rfl J.T.sa J.nof hD J.sub F.opq J.sup J.ve S F.ne F.db lk hcd hp har hcode hvs hfile F.top hcell hl hr.depth hb he ?_
      · have y0 := (e0.bs a o (e0.mod.kin _ _ z)).2
        rw [ha] at y0
        cases y0
      · intro h' tk dx t2 k ld nd ea hn
        have hdx : H dx = none := e0.hok.fresh ld
        exact ⟨.non, _, rfl, e0.bare, exo_new_un ha hdx k ld ⟨_, ea⟩, exo_new_ok e0.hok ha hdx k ea ry hn, rfl, hq dx hdx nd⟩
end My
/-! An own exception class called with keyword arguments alone. -/
namespace My
open PySem PySem.W PySem.PX PySem.Calls PyProof.Rows
section
variable {prog : Program} {w : World} {M : Model} {A : Around} {E : Value → Shared → Prop} {R : Result → Shared → Prop}
variable {hp : Heap} {gs : Array GenState} {dr : Drawn} {tk : Nat} {os : OsState}
variable {nm qn : Str} {C N : Addr} {bs bm bb : List Value} {hd : Bool} {sn : List Str} {sb : List Value} {ab : Bool} {col : Option Bool} {dd : Option Addr}
variable {k0 k1 k2 k3 k5 : Option Value} {B ni ii : String} {kws : List (Str × Value)}
abbrev clsO (nm qn : Str) (C N : Addr) (bs bm : List Value) (hd : Bool) (sn : List Str) (sb : List Value) (ab : Bool) (col : Option Bool) (dd : Option Addr)
    (k0 k1 k2 k3 k5 : Option Value) (ni : String) : Obj := excClassObj nm qn C N bs bm hd sn sb ab col dd k0 k1 k2 k3 k5 ni
theorem kw_check_new (F : ExcBaseFacts B ni ii bb) (hT : ∀ X : String, bm.contains (.type X) = bb.contains (.type X))
    (hC : hp.get? C = some (clsO nm qn C N bs bm hd sn sb ab col dd k0 k1 k2 k3 k5 ni))
    {Q : Unit → Shared → Prop} (hq : Q () ⟨hp, gs, dr, tk, os⟩) :
    wpAny M A (checkBuiltinCall ni ⟨[.ref C], kws⟩) Q E ⟨hp, gs, dr, tk, os⟩ := by
  have inB : (Value.ref C :: bm).contains (.type B) = true := by
    rw [List.contains_cons, hT]
    simp only [F.hasB, Bool.or_true]
  have ns := F.noStar
  simp only [checkBuiltinCall, F.newKind, F.newSplit, F.newRow]
  repeat (first
    | refine wpAny_loadPart_at hC ?_
    | (refine wpAny_isSubtype_exc hC ?_
       rw [inB])
    | refine wpAny_staticBase_exc hC ?_
    | refine wpAny_madeBy_exc hC ?_
    | simp only [bne_self_eq_false, Bool.false_eq_true, if_false]
    | wp_step)
  all_goals exact hq
theorem kw_new (F : ExcBaseFacts B ni ii bb) (hT : ∀ X : String, bm.contains (.type X) = bb.contains (.type X))
    (hC : hp.get? C = some (clsO nm qn C N bs bm hd sn sb ab col dd k0 k1 k2 k3 k5 ni))
    (hR : R (.ok (.ret (.ref (hp.objs.size + 1)))) ⟨(hp.push (kdv_tup [])).push (excO C hp.objs.size), gs, dr, tk, os⟩) :
    codeAny (model prog w) A (.builtin ni ⟨[.ref C], kws⟩) R ⟨hp, gs, dr, tk, os⟩ := by
  have hends := F.ends
  have inB : (Value.ref C :: bm).contains (.type B) = true := by
    rw [List.contains_cons, hT]
    simp only [F.hasB, Bool.or_true]
  have noA : (Value.ref C :: bm).contains (.type "AttributeError") = false := by
    rw [List.contains_cons, hT, F.noAttr]
    rfl
  have noN : (Value.ref C :: bm).contains (.type "NameError") = false := by
    rw [List.contains_cons, hT, F.noName]
    rfl
  refine codeAny_builtinAt F.entry ?_
  unfold Builtin.«BaseException.__new__»
  refine PySem.wpAt_bind ?_
  show PySem.wpAt _ _ _ (stack >>= _) _ _ _
  refine PySem.wpAt_bind (PySem.wpAt_stack fun p below => ?_)
  refine PySem.wpAt_of_wpAny ?_
  wp_walk
  refine PySem.wpAt_of_wpAny ?_
  rw [F.owner]
  repeat (first
    | with_reducible refine wpAny_madeHere_exc F.canon hC ?_
    | with_reducible refine wpAny_loadPart_at hC ?_
    | (with_reducible refine wpAny_isSubtype_exc hC ?_
       first | rw [inB] | rw [noA] | rw [noN])
    | wp_step)
  show R _ _
  rw [Heap.size_push]
  exact hR
theorem kw_type_call {fI : Addr} {Q : Fin → Shared → Prop} (F : ExcBaseFacts B ni ii bb) (hT : ∀ X : String, bm.contains (.type X) = bb.contains (.type X))
    (hC : hp.get? C = some (clsO nm qn C N bs bm hd sn sb ab col dd k0 k1 k2 k3 k5 ni))
    (hi : Looks (model prog w) hp (typeLookup (.ref C) "__init__") (some (.ref fI)))
    (hb : ∀ z, Looks (model prog w) hp (bindSpecial (.ref fI) z) (.ref fI, [z]))
    (hq : codeAny (model prog w) A (.call (.ref fI) ⟨[.ref (hp.objs.size + 1)], kws⟩)
      (fun r s' => match r with
        | .ok (.ret v) => v = .none ∧ Q (.done (.ret (.ref (hp.objs.size + 1)))) s'
        | .ok _ => False
        | .error e => E e s')
      ⟨(hp.push (kdv_tup [])).push (excO C hp.objs.size), gs, dr, tk, os⟩) :
    wpAny (model prog w) A (Builtin.«type.__call__» ⟨[.ref C], kws⟩) Q E ⟨hp, gs, dr, tk, os⟩ := by
  repeat (first
    | with_reducible refine wpAny_loadPart_at hC ?_
    | with_reducible refine wpAny_madeBy_exc hC ?_
    | wp_step)
  refine codeAny_call_builtin_code (Code.quiet_builtin _ F.quiet) (kw_check_new F hT hC ?_)
  refine kw_new F hT hC ?_
  show wpAny _ _ _ _ _ _
  have kp : ∀ b o, hp.get? b = some o → ((hp.push (kdv_tup [])).push (excO C hp.objs.size)).get? b = some o :=
    fun b o e => Heap.get?_push_of_some _ (Heap.get?_push_of_some _ e)
  have hC1 := kp _ _ hC
  have hx : ((hp.push (kdv_tup [])).push (excO C hp.objs.size)).get? (hp.objs.size + 1) = some (excO C hp.objs.size) := by
    heap_get
  have inC : (Value.ref C :: bm).contains (.ref C) = true := by simp
  have hi1 := hi.keeps kp
  have hb1 := (hb (.ref (hp.objs.size + 1))).keeps kp
  unfold isInstance
  repeat (first
    | with_reducible refine wpAny_loadPart_at hx ?_
    | (with_reducible refine wpAny_isSubtype_exc hC1 ?_
       rw [inC])
    | wp_step)
  show wpAny _ _ (typeLookup (.ref C) _) _ _ _
  refine hi1.at ?_
  refine wpAny_holding (wpAny_bind (hb1.at ?_))
  refine wpAny_bind (wpAny_call (codeAny_mono hq fun r s' z => ?_))
  rcases r with e | (v | _ | _ | _)
  all_goals try exact z
  all_goals try exact z.elim
  obtain ⟨rfl, z⟩ := z
  first
    | exact wpAny_pure (wpAny_pure z)
    | (wp_walk
       exact z)
theorem kw_call {fI : Addr} (F : ExcBaseFacts B ni ii bb) (hT : ∀ X : String, bm.contains (.type X) = bb.contains (.type X))
    (hC : hp.get? C = some (clsO nm qn C N bs bm hd sn sb ab col dd k0 k1 k2 k3 k5 ni))
    (hi : Looks (model prog w) hp (typeLookup (.ref C) "__init__") (some (.ref fI)))
    (hb : ∀ z, Looks (model prog w) hp (bindSpecial (.ref fI) z) (.ref fI, [z]))
    (hq : codeAny (model prog w) (A.under (.builtin "type.__call__" ⟨[.ref C], kws⟩)) (.call (.ref fI) ⟨[.ref (hp.objs.size + 1)], kws⟩)
      (InitBack (hp.objs.size + 1) R) ⟨(hp.push (kdv_tup [])).push (excO C hp.objs.size), gs, dr, tk, os⟩) :
    codeAny (model prog w) A (.call (.ref C) ⟨[], kws⟩) R ⟨hp, gs, dr, tk, os⟩ := by
  have f1 := tc_lookup
  have f2 := tc_bind (.ref C)
  have hTy : (⟨hp, gs, dr, tk, os⟩ : Shared).TypeIs (.ref C) "type" := ⟨_, hC, rfl⟩
  refine codeAny_of_tree ?_
  show wpAny _ _ (callAny (.ref C) _) _ _ _
  repeat (any_goals (first
    | assumption
    | with_reducible refine wpAny_loadPart_at hC ?_
    | wp_step))
  refine ⟨rfl, ?_⟩
  refine codeAny_call_builtin_at (Code.quiet_builtin _ (by decide +kernel)) entry_typeCall ?_
  refine wpAny_check_type_call_sub hC (kw_type_call F hT hC hi hb ?_)
  refine codeAny_mono hq fun r s' z => ?_
  rcases r with e | (v | _ | _ | _) <;> exact z
end
section
variable {prog : Program} {w : World} {A : Around} {E : Value → Shared → Prop} {s : Shared} {K : Frag} {C L : Addr} {g0 : Heap}
variable {m : Str → Option Value} {news : List (Addr × Obj)} {B ni ii : String} {bb : List Value}
theorem kw_make {kws : List (Str × Value)} {fI : Addr} {Q : Value → Shared → Prop} (F : Fr g0 L s.heap m) (X0 : K.In g0) (N : News g0 L s.heap news)
    (FB : ExcBaseFacts B ni ii bb) (hi : findIn K (.ref C) "__init__" = some (some (.ref fI)))
    (q : excInitIn K C bb ni = true) (hf : isFn K (.ref fI) = true)
    (h : ∀ e t h', Fr g0 L h' m → News g0 L h' ((e, excObj C t none .none) :: (t, excTup []) :: news) → AllNe e news → AllNe t news → e ≠ t →
      codeAny (model prog w) (A.under (.builtin "type.__call__" ⟨[.ref C], kws⟩)) (.call (.ref fI) ⟨[.ref e], kws⟩)
        (InitBack e fun r s' => match r with
          | .ok (.ret v) => Q v s'
          | .ok _ => False
          | .error x => E x s') { s with heap := h' }) :
    wpAny (model prog w) A (call (.ref C) [] kws) Q E s := by
  have X := X0.keeps F.keep
  obtain ⟨nm, N', qn, bs, bm, hd, sn, sb, ab, col, dd, k0, k1, k2, k3, k5, hC, hT⟩ := excInit_of X q
  have hf' : (K.lookup fI).map (·.cls) = some (.type "function") := beq_iff_eq.mp hf
  obtain ⟨o, ho, hc⟩ := Option.map_eq_some_iff.mp hf'
  have hoI := X _ _ ho
  have hi' : Looks (model prog w) s.heap (typeLookup (.ref C) "__init__") (some (.ref fI)) := looks_findIn X hi
  obtain ⟨F2, N2, ne, nt⟩ := exc_two (o1 := excTup []) (o2 := excObj C s.heap.objs.size none .none) F N rfl rfl
  obtain ⟨hh, g, d, tk, os⟩ := s
  have hq := h _ _ _ F2 N2 ne nt (Nat.succ_ne_self _)
  refine wpAny_call (kw_call FB hT hC hi' (fun z => exc_bind hoI hc z) (codeAny_mono hq fun r s' z => ?_))
  rcases r with x | (v | _ | _ | _)
  all_goals try exact z
  all_goals exact z.elim
end
end My
namespace My
open PySem L2
/-- what isinstance and a field's reading ask of an exception class -/
structure ExcF (K : PySem.W.Frag) (C : Addr) : Prop where
  cls : (PySem.W.clsIn K C).isSome = true
  hga : PySem.W.findIn K (.ref C) "__getattribute__" = some (some (.builtin "BaseException.__getattribute__"))
  hgt : PySem.W.findIn K (.ref C) "__getattr__" = some none
  sub : PySem.W.subIn K (.ref C) (.type "BaseException") = some true
  ha : PySem.W.findIn K (.ref C) "__class__" = some (some (.builtin "object.__class__"))
  hn : PySem.W.specialIn K (.builtin "object.__class__") "__get__" = some (some (.builtin "getset_descriptor.__get__"))
  tk : PySem.W.takesIn K (.builtin "object.__class__") = some true
  hm : PySem.W.mroIn K C (.type "object") = some true
structure Made (K : PySem.W.Frag) (P : Program) (mg : Str → Option Value) (x fld : Str) (C fI : Addr) (fd : FuncData) : Prop where
  fn : InitFn K P C fld fI fd
  of : InitOf K C C fld
  bp : Binds K fd ["self", fld] []
  bk : ∀ (s : Shared) (u v : Value), BindsTo s fd ⟨[u], [(fld, v)]⟩ [("self", u), (fld, v)]
  at_ : mg x = some (.ref C)
  ini : PySem.W.findIn K (.ref C) "__init__" = some (some (.ref fI))
  ti : PySem.W.typeIn K (.ref fI) = some (.type "function")
  sup : mg "super" = none
  ex : ExcF K C
theorem upd_twice {H : Hp} {a d : Addr} {o1 o2 u : HO} (h : d ≠ a) : upd (upd (upd H a o1) d u) a o2 = upd (upd H d u) a o2 := by
  funext b
  by_cases e : b = a
  · rw [e, upd_same, upd_same]
  · rw [upd_ne e, upd_ne e]
    by_cases e2 : b = d
    · rw [e2, upd_same, upd_same]
    · rw [upd_ne e2, upd_ne e2, upd_ne e]
/-- C(e), C(f = e): a new exception, its field in its dict -/
def tExc (C : Addr) (fld : Str) (te : TE) : TE := fun σ H Q => te σ H fun y H1 =>
  ∀ a d, H1 a = none → H1 d = none → d ≠ a → Q (.ref a) (upd (upd H1 d (exd d [(fld, y)])) a (exo a C (some d)))
section
variable {X : Cx} {pins : List (Addr × Obj)} {σ : St} {H : Hp} {s : Shared} {x fld : Str} {C fI : Addr} {fd : FuncData} {Q : VK}
/-- the end of a make: __init__ has run -/
theorem made_back {a : Addr} {y : V} {s2 : Shared} {r : Result} {s' : Shared}
    (I2 : Inv X pins σ (upd H a (exo a C none)) s2) (hq : CR CX0 X.stack X.prog X.w (upd H a (exo a C none)) s2 (fun v H2 => v = .non ∧ Q (.ref a) H2) (fun _ _ _ => False) r s') :
    PySem.W.InitBack a (fun r s' => match r with
      | .ok (.ret v) => EP X pins σ Q v s'
      | .ok _ => False
      | .error e => X.xe e s') r s' := by
  cases r with
  | error er => exact hq.elim
  | ok fl =>
    cases fl with
    | ret u =>
      obtain ⟨v, H2, J, rv, ev, q⟩ := I2.after hq
      subst ev
      cases rv
      exact ⟨rfl, .ref a, H2, J, rfl, q⟩
    | next => exact hq.elim
    | brk => exact hq.elim
    | cont => exact hq.elim
theorem made_pos {y : V} {u : Value} (M : Made X.K X.prog X.mg x fld C fI fd) (hr : Room 1 X.A) (I : Inv X pins σ H s) (ry : RelV y u)
    (h : ∀ a d, H a = none → H d = none → d ≠ a → Q (.ref a) (upd (upd H d (exd d [(fld, y)])) a (exo a C (some d)))) :
    wpAny (model X.prog X.w) X.A (call (.ref C) [u]) (EP X pins σ Q) X.xe s := by
  obtain ⟨nm, q, N, bs, bm, sn, sub, ab, col, dd, k0, k1, k2, k3, k5, hC, hbm⟩ := M.of.T.cls
  obtain ⟨hp, g, dr, tk, os⟩ := s
  have hsz : hp.objs.size ≤ hp.objs.size + 1 := Nat.le_succ _
  have hn : H (hp.objs.size + 1) = none := I.hok.fresh hsz
  have kk : ∀ b o, hp.get? b = some o → ((hp.push (PySem.W.kdv_tup [u])).push (PySem.HandSPX.excO C hp.objs.size)).get? b = some o :=
    fun b o e => Heap.get?_push_of_some _ (Heap.get?_push_of_some _ e)
  have hget : ((hp.push (PySem.W.kdv_tup [u])).push (PySem.HandSPX.excO C hp.objs.size)).get? (hp.objs.size + 1) = some (PySem.HandSPX.excO C hp.objs.size) := by
    heap_get
  have I2 := I.laid (t' := tk) (a := hp.objs.size + 1) (o := exo (hp.objs.size + 1) C none) (h' := (hp.push (PySem.W.kdv_tup [u])).push (PySem.HandSPX.excO C hp.objs.size)) kk hsz (exo_ok hget)
  have G := init_ok (P := X.prog) (w := X.w) (mg := X.mg) (base := X.base) (CX := CX0) M.fn M.sup
  have hsp : spInit X.K C fld [.ref (hp.objs.size + 1), y] (upd H (hp.objs.size + 1) (exo (hp.objs.size + 1) C none)) (fun v H2 => v = .non ∧ Q (.ref (hp.objs.size + 1)) H2) (fun _ _ _ => False) := by
    refine ⟨_, C, y, rfl, M.of, upd_same, fun d hd nd => ⟨rfl, ?_⟩⟩
    rw [upd_twice nd]
    rw [upd_ne nd] at hd
    exact h _ d hn hd nd
  refine wpAny_call (PySem.HandSPX.call_own PySem.F.excBase_ValueError (fun Y => PySem.HandSPX.refsVE_contains Y bm hbm) (I.kIn _ _ hC) (PySem.W.looks_findIn I.kIn M.ini)
    (fun z => PySem.W.bind_fn I.kIn z M.ti) (by show 1 ≤ sizeLine; rw [sizeLine_eq]; omega) (codeAny_mono (G.run _ X.stack _ _ ⟨[.ref (hp.objs.size + 1), u], []⟩ [.ref (hp.objs.size + 1), u] [.ref (hp.objs.size + 1), y] _ (fun _ _ _ => False) (hr.make C [u] [])
      (I2.env0.make C [u] []) (M.bp _ [.ref (hp.objs.size + 1), u] I2.kIn rfl) (.cons rfl (.cons ry .nil)) hsp) fun r s' hq => made_back (y := y) I2 hq))
theorem made_kw {y : V} {u : Value} (M : Made X.K X.prog X.mg x fld C fI fd) (hr : Room 1 X.A) (I : Inv X pins σ H s) (ry : RelV y u)
    (h : ∀ a d, H a = none → H d = none → d ≠ a → Q (.ref a) (upd (upd H d (exd d [(fld, y)])) a (exo a C (some d)))) :
    wpAny (model X.prog X.w) X.A (call (.ref C) [] [(fld, u)]) (EP X pins σ Q) X.xe s := by
  obtain ⟨nm, q, N, bs, bm, sn, sub, ab, col, dd, k0, k1, k2, k3, k5, hC, hbm⟩ := M.of.T.cls
  obtain ⟨hp, g, dr, tk, os⟩ := s
  have hsz : hp.objs.size ≤ hp.objs.size + 1 := Nat.le_succ _
  have hn : H (hp.objs.size + 1) = none := I.hok.fresh hsz
  have kk : ∀ b o, hp.get? b = some o → ((hp.push (PySem.W.kdv_tup [])).push (PySem.PX.excO C hp.objs.size)).get? b = some o :=
    fun b o e => Heap.get?_push_of_some _ (Heap.get?_push_of_some _ e)
  have hget : ((hp.push (PySem.W.kdv_tup [])).push (PySem.PX.excO C hp.objs.size)).get? (hp.objs.size + 1) = some (PySem.PX.excO C hp.objs.size) := by
    heap_get
  have I2 := I.laid (t' := tk) (a := hp.objs.size + 1) (o := exo (hp.objs.size + 1) C none) (h' := (hp.push (PySem.W.kdv_tup [])).push (PySem.PX.excO C hp.objs.size)) kk hsz (exo_ok hget)
  have G := init_ok (P := X.prog) (w := X.w) (mg := X.mg) (base := X.base) (CX := CX0) M.fn M.sup
  have hsp : spInit X.K C fld [.ref (hp.objs.size + 1), y] (upd H (hp.objs.size + 1) (exo (hp.objs.size + 1) C none)) (fun v H2 => v = .non ∧ Q (.ref (hp.objs.size + 1)) H2) (fun _ _ _ => False) := by
    refine ⟨_, C, y, rfl, M.of, upd_same, fun d hd nd => ⟨rfl, ?_⟩⟩
    rw [upd_twice nd]
    rw [upd_ne nd] at hd
    exact h _ d hn hd nd
  refine wpAny_call (kw_call PySem.F.excBase_ValueError (fun Y => PySem.HandSPX.refsVE_contains Y bm hbm) (I.kIn _ _ hC) (PySem.W.looks_findIn I.kIn M.ini)
    (fun z => PySem.W.bind_fn I.kIn z M.ti) (codeAny_mono (G.run _ X.stack _ _ ⟨[.ref (hp.objs.size + 1)], [(fld, u)]⟩ [.ref (hp.objs.size + 1), u] [.ref (hp.objs.size + 1), y] _ (fun _ _ _ => False) (hr.make C [] [(fld, u)])
      (I2.env0.make C [] [(fld, u)]) (M.bk _ _ _) (.cons rfl (.cons ry .nil)) hsp) fun r s' hq => made_back (y := y) I2 hq))
end
section
variable {X : Cx} {x fld : Str} {C fI : Addr} {fd : FuncData} {e : Expr} {te : TE} {p pos kpos : Pos}
/-- C(e) -/
theorem pe_excV (M : Made X.K X.prog X.mg x fld C fI fd) (hr : Room 1 X.A) (hg : Gl X x) (he : PE X e te)
    (hdb : (x == ("__debug__" : Str)) = false := by decide) (hs : starEach [e] X.env = (false, eval e X.env) :: starEach [] X.env := by rfl) :
    PE X (.Call (.Name x p) [e] [] pos) (tExc C fld te) := by
  refine ⟨fun pins s σ H Q I h => ?_⟩
  refine wpAny_Call_Name_kw (ld_glob I hg M.at_ ?_ hdb)
  refine PySem.W.callWith_K (h₀ := X.base) I.ok.mod.kin M.of.T.kC ?_ hs (by rfl)
  rw [hs]
  show wpAny _ _ (spliced ((false, eval e X.env) :: backTo pos (starEach [] X.env))) _ _ s
  refine Calls.spliced_cons (thn (he.run pins s σ H _ I h) fun u s1 ⟨v, H1, I1, r1, q1⟩ => ?_)
  refine Calls.spliced_nil ⟨I1.kIn, ?_⟩
  exact made_pos M hr I1 r1 q1
/-- C(f = e) -/
theorem pe_excK (M : Made X.K X.prog X.mg x fld C fI fd) (hr : Room 1 X.A) (hg : Gl X x) (he : PE X e te)
    (hdb : (x == ("__debug__" : Str)) = false := by decide)
    (hall : (backToKw pos (keywordEach [⟨some fld, e, kpos⟩] X.env)).all (·.1.isSome) = true := by rfl) (hks : (backToKw pos (keywordEach [⟨some fld, e, kpos⟩] X.env)).filterMap (·.1) = [fld] := by rfl)
    (hpl : ((backTo pos (starEach [] X.env)).any (·.1) || (backToKw pos (keywordEach [⟨some fld, e, kpos⟩] X.env)).any (·.1.isNone)) = false := by rfl) :
    PE X (.Call (.Name x p) [] [⟨some fld, e, kpos⟩] pos) (tExc C fld te) := by
  refine ⟨fun pins s σ H Q I h => ?_⟩
  refine wpAny_Call_Name_kw (ld_glob I hg M.at_ ?_ hdb)
  refine PySem.W.callWith_KW0 (h₀ := X.base) I.ok.mod.kin M.of.T.kC hall ?_ hpl
  have hk : PK X [⟨some fld, e, kpos⟩] (tCons te tNil) := pk_cons he pk_nil
  refine thn (hk.run pos pins s σ H (fun vs H1 => match vs with
    | [y] => ∀ a d, H1 a = none → H1 d = none → d ≠ a → Q (.ref a) (upd (upd H1 d (exd d [(fld, y)])) a (exo a C (some d)))
    | _ => False) I h) fun ws s2 ⟨zs, H2, I2, rz, q2⟩ => ⟨I2.kIn, ?_⟩
  rw [hks]
  cases rz with
  | nil => exact q2.elim
  | @cons y u _ ur ry rn =>
    cases rn with
    | nil => exact made_kw M hr I2 ry q2
    | cons _ _ => exact q2.elim
end
/-! ### a field, isinstance -/
def tExoF (K : PySem.W.Frag) (f : Str) (te : TE) : TE := fun σ H Q => te σ H fun x H1 => ∃ (a C d : Addr) (fs : List (Str × V)) (v : V), x = .ref a ∧ ExcF K C ∧ PySem.W.hasDictIn K C = true ∧
  PySem.W.findIn K (.ref C) f = some none ∧ H1 a = some (exo a C (some d)) ∧ H1 d = some (exd d fs) ∧ fs.lookup f = some v ∧ Q v H1
section
variable {X : Cx} {e : Expr} {te : TE} {pos : Pos} {f : Str} {pins : List (Addr × Obj)} {σ : St} {H : Hp} {s : Shared}
theorem exo_inst {a C d : Addr} {fs : List (Str × V)} (I : Inv X pins σ H s) (ea : H a = some (exo a C (some d))) (ed : H d = some (exd d fs)) :
    ∃ (t1 : Addr) (od : Obj) (mA : Str → Option Value),
      PySem.W.InstAt s.heap a ({ cls := .ref C, dict := some d, data := .fields #[.ref t1, .none, .none, .none, .bool false, .none] } : Obj) C (some od) ∧
      (∀ n, PySem.W.lookIn n od = some (mA n)) ∧ ∀ n, RelO (fs.lookup n) (mA n) := by
  obtain ⟨t1, ho⟩ := exo_at I.hok ea
  obtain ⟨mA, hns, rel⟩ := exd_at I.hok ed
  obtain ⟨od, hod, hl⟩ := lookIn_ns hns
  exact ⟨t1, od, mA, ⟨ho, rfl, rfl, hod⟩, hl, rel⟩
theorem pe_exoF (he : PE X e te) (hb : attributeBase e f X.env (eval e X.env) = eval e X.env := by rfl) : PE X (.Attribute e f pos) (tExoF X.K f te) := by
  refine ⟨fun pins s σ H Q I h => ?_⟩
  refine attr_of hb (thn (he.run pins s σ H _ I h) fun u s1 hh => ?_)
  obtain ⟨x, H1, I1, rx, a, C, d, fs, v, rfl, T, hd, hno, ea, ed, l, q⟩ := hh
  obtain rfl : u = Value.ref a := rx
  obtain ⟨t1, od, mA, J, hl, rel⟩ := exo_inst I1 ea ed
  have r0 := rel f
  rw [l] at r0
  obtain ⟨u, hu, ru⟩ := RelO.some_of (v := v) (o := mA f) r0
  refine PySem.HandSPX.exc_get I1.kIn J T.hga T.hgt T.sub (PySem.W.findObj_own hd hno rfl ?_) (handed_of ru) ⟨v, H1, I1.tok _, ru, q⟩
  rw [hl, hu]
/-- isinstance(e, c) of an exception e that has a field -/
def rIsX (K : PySem.W.Frag) : List V → Hp → VK → Prop := fun xs H Q => ∃ (a C d : Addr) (fs : List (Str × V)) (c : V) (cv : Value) (b : Bool), xs = [.ref a, c] ∧ ClsV c cv ∧ ExcF K C ∧
  H a = some (exo a C (some d)) ∧ H d = some (exd d fs) ∧ PySem.W.kitOne K (.ref C) cv = some b ∧ Q (.bl b) H
theorem call_isX : CallR X (.builtin "isinstance") (rIsX X.K) := by
  intro pins s σ H xs us Q I r h
  obtain ⟨a, C, d, fs, c, cv, b, rfl, k, T, ea, ed, e, q⟩ := h
  obtain ⟨u1, u2, rfl, r1, r2⟩ := vals2 r
  obtain rfl : u1 = Value.ref a := r1
  have e2 := k.eq r2
  subst e2
  obtain ⟨t1, od, mA, J, _, _⟩ := exo_inst I ea ed
  exact PySem.W.kia_one (PySem.W.kitx_exc T.cls T.hga T.hgt T.sub T.ha T.hn T.tk T.hm) I.kIn J e (fun z => nomatch z) fun tk => ⟨.bl b, H, I.tok tk, rfl, q⟩
end
/-! ### an exception of a class without an __init__ of the program -/
section
variable {X : Cx} {x : Str} {C : Addr} {p pos : Pos} {bb : List Value} {B ni ii : String}
/-- X() -/
theorem pe_exc0 (F : ExcBaseFacts B ni ii bb) (q : PySem.W.excIn X.K C bb ni = true) (gC : X.mg x = some (.ref C)) (kC : PySem.W.keepIn X.K (.ref C) = true) (hg : Gl X x)
    (hdb : (x == ("__debug__" : Str)) = false := by decide) :
    PE X (.Call (.Name x p) [] [] pos) (fun _ H Q => ∀ a, H a = none → Q (.ref a) (upd H a (ExO (.ref C) a))) := by
  refine ⟨fun pins s σ H Q I h => ?_⟩
  refine wpAny_Call_Name_kw (ld_glob I hg gC ?_ hdb)
  refine PySem.W.callWith_KW0 (h₀ := X.base) (kws := []) I.ok.mod.kin kC (by rfl) ?_ (by rfl)
  refine wpAny_evalAll_nil ⟨I.kIn, ?_⟩
  show wpAny _ _ (call (.ref C) [] []) _ _ _
  obtain ⟨bm, N, nm, qn, bs, hdct, sn, sub, ab, col, dd, k0, k1, k2, k3, k5, mN, hC, hN, hni, T⟩ := exc_obj I.kIn q
  refine wpAny_call_exc_subT F T hC hN hni (fun h' a hm => ?_) (by show 0 ≤ sizeLine; exact Nat.zero_le _)
  have hn : H a = none := I.hok.gone hm.new
  obtain ⟨t, ht, _, _⟩ := hm.there
  refine ⟨.ref a, _, I.laidN (t' := s.toks) hm.keeps hm.new hn ?_, rfl, h a hn⟩
  exact exO_ok ht ⟨rfl, rfl⟩ rfl rfl rfl (show 4 < 6 by decide)
/-- isinstance(e, c) of an exception without fields -/
def rIsX0 (K : PySem.W.Frag) : List V → Hp → VK → Prop := fun xs H Q => ∃ (a C : Addr) (c : V) (cv : Value) (b : Bool), xs = [.ref a, c] ∧ ClsV c cv ∧ ExcF K C ∧
  H a = some (ExO (.ref C) a) ∧ PySem.W.kitOne K (.ref C) cv = some b ∧ Q (.bl b) H
theorem call_isX0 : CallR X (.builtin "isinstance") (rIsX0 X.K) := by
  intro pins s σ H xs us Q I r h
  obtain ⟨a, C, c, cv, b, rfl, k, T, ea, e, q⟩ := h
  obtain ⟨u1, u2, rfl, r1, r2⟩ := vals2 r
  obtain rfl : u1 = Value.ref a := r1
  have e2 := k.eq r2
  subst e2
  obtain ⟨⟨oe, vs, ho, hz, hd, _⟩, _, _⟩ := I.hok a _ ea
  have J : PySem.W.InstAt s.heap a oe C none := by
    refine ⟨ho, hz.1, ?_, ?_⟩
    · unfold PySem.W.notCls
      rw [hd] <;> rfl
    · rw [hz.2]
      exact True.intro
  exact PySem.W.kia_one (PySem.W.kitx_exc T.cls T.hga T.hgt T.sub T.ha T.hn T.tk T.hm) I.kIn J e (fun z => nomatch z) fun tk => ⟨.bl b, H, I.tok tk, rfl, q⟩
/-- isinstance(e, c) of both kinds -/
def rIsXA (K : PySem.W.Frag) : List V → Hp → VK → Prop := fun xs H Q => rIsX K xs H Q ∨ rIsX0 K xs H Q
theorem call_isXA : CallR X (.builtin "isinstance") (rIsXA X.K) := by
  intro pins s σ H xs us Q I r h
  rcases h with h | h
  · exact call_isX pins s σ H xs us Q I r h
  · exact call_isX0 pins s σ H xs us Q I r h
end
end My
/-! Readings of tracked lists and tuples that a simp can follow. -/
namespace My
open PySem L2
section
variable {X : Cx}
theorem IxR.imp {r r' : R2} (h : IxR X r) (k : ∀ x y H Q, r' x y H Q → r x y H Q) : IxR X r' := by
  intro value slice pins s σ H x y v u Q I rx ry q
  exact h value slice pins s σ H x y v u Q I rx ry (k _ _ _ _ q)
theorem OpR.imp {f : Value → Value → Sem Value} {r r' : R2} (h : OpR X f r) (k : ∀ x y H Q, r' x y H Q → r x y H Q) : OpR X f r' := by
  intro pins s σ H x y v u Q I rx ry q
  exact h pins s σ H x y v u Q I rx ry (k _ _ _ _ q)
theorem CallR.imp {f : Value} {r r' : List V → Hp → VK → Prop} (h : CallR X f r) (k : ∀ xs H Q, r' xs H Q → r xs H Q) : CallR X f r' := by
  intro pins s σ H xs us Q I rx q
  exact h pins s σ H xs us Q I rx (k _ _ _ q)
/-- xs[i], xs tracked -/
def fIxL : R2 := fun x y H Q => ∃ p i xs v, x = .ref p ∧ y = .int i ∧ H p = some (.lst xs) ∧ atI xs i = some v ∧ Q v H
theorem ixL : IxR X fIxL := by
  refine IxR.imp ix_list ?_
  rintro x y H Q ⟨p, i, xs, v, e1, e2, e3, e4, q⟩
  exact ⟨p, xs, i, v, e1, e2, SqL.of e3, e4, q⟩
def fIxT : R2 := fun x y H Q => ∃ p i xs v, x = .ref p ∧ y = .int i ∧ H p = some (.tup xs) ∧ atI xs i = some v ∧ Q v H
theorem ixT : IxR X fIxT := by
  refine IxR.imp ix_tup ?_
  rintro x y H Q ⟨p, i, xs, v, e1, e2, e3, e4, q⟩
  exact ⟨p, xs, i, v, e1, e2, SqT.of e3, e4, q⟩
/-- len(xs), xs a tracked list -/
def fLenL : List V → Hp → VK → Prop := fun xs H Q => ∃ p ys, xs = [.ref p] ∧ H p = some (.lst ys) ∧ Q (.int ys.length) H
theorem lenL : CallR X (.builtin "len") fLenL := by
  refine CallR.imp call_len_seq ?_
  rintro xs H Q ⟨p, ys, e1, e2, q⟩
  exact ⟨p, ys, e1, .inl (SqL.of e2), q⟩
def fLenT : List V → Hp → VK → Prop := fun xs H Q => ∃ p ys, xs = [.ref p] ∧ H p = some (.tup ys) ∧ Q (.int ys.length) H
theorem lenT : CallR X (.builtin "len") fLenT := by
  refine CallR.imp call_len_seq ?_
  rintro xs H Q ⟨p, ys, e1, e2, q⟩
  exact ⟨p, ys, e1, .inr (SqT.of e2), q⟩
/-- a ** n of any size -/
def CPowW (i j : Int) : Prop := 0 ≤ j ∧ (Builtin.Int.intBits i : Int) * j ≤ 2 ^ 27
theorem op_powW : OpR X (binaryOp .Pow) (rI CPowW fun i j => .int (i ^ j.toNat)) := by
  intro pins s σ H x y v u Q I rx ry q
  obtain ⟨i, j, rfl, rfl, ⟨c1, c2⟩, q⟩ := q
  obtain ⟨t, rfl⟩ := rx
  obtain ⟨t', rfl⟩ := ry
  exact PyProof.Rows.pow_int c1 c2 ⟨.int (i ^ j.toNat), H, I.tok _, ⟨_, rfl⟩, q⟩
/-- two lists of the very same values are not unequal -/
def SameV (x : V) : Prop := flatB x = true ∨ ∃ a, x = .ref a
theorem eq_sameV {A : Around} {s : Shared} {x : V} {u u' : Value} (h : SameV x) (r : RelV x u) (r' : RelV x u') : SeqAt.EqAt A s u u' true := by
  rcases h with f | ⟨a, rfl⟩
  · exact eqAt_same r r' f
  · obtain rfl : u = Value.ref a := r
    obtain rfl : u' = Value.ref a := r'
    exact SeqAt.EqAt.same _
theorem items_sameV {A : Around} {s : Shared} : ∀ {xs : List V} {us ws : List Value}, (∀ x ∈ xs, SameV x) → Vals xs us → Vals xs ws →
    ∀ j (h1 : j < us.length) (h2 : j < ws.length), SeqAt.EqAt A s us[j] ws[j] true
  | _, _, _, _, .nil, .nil, j, h1, _ => absurd h1 (Nat.not_lt_zero _)
  | _, _, _, hx, .cons r k, .cons r' k', 0, _, _ => eq_sameV (hx _ (.head _)) r r'
  | _, _, _, hx, .cons r k, .cons r' k', j + 1, h1, h2 => items_sameV (fun x m => hx x (.tail _ m)) k k' j (Nat.lt_of_succ_lt_succ h1) (Nat.lt_of_succ_lt_succ h2)
def rNeSame : R2 := fun x y H Q => ∃ a b xs, x = .ref a ∧ y = .ref b ∧ H a = some (.lst xs) ∧ H b = some (.lst xs) ∧ (∀ x ∈ xs, SameV x) ∧ Q (.bl false) H
theorem op_neSame (hu : X.A.units < cLine) : OpR X (compareOp .NotEq) rNeSame := by
  intro pins s σ H x y v u Q I rx ry h
  obtain ⟨a, b, xs, rfl, rfl, ha, hb, hx, q⟩ := h
  obtain rfl : v = Value.ref a := rx
  obtain rfl : u = Value.ref b := ry
  obtain ⟨us, r1, p1, _⟩ := I.list (SqL.of ha)
  obtain ⟨ws, r2, p2, _⟩ := I.list (SqL.of hb)
  have hsz : us.toArray.size = ws.toArray.size := by
    rw [List.size_toArray, List.size_toArray, ← r1.length, ← r2.length]
  refine SeqAt.RcNeAt.lists (e := fun _ => true) p1.isList p2.isList hsz hu (fun j h1 h2 => ?_) X.prog X.w _ _ ?_
  · have k := items_sameV (A := X.A.in1) (s := s) hx r1 r2 j (by simpa using h1) (by simpa using h2)
    simpa using k
  · rw [show ((List.range us.toArray.size).all fun _ => true) = true from List.all_eq_true.mpr fun _ _ => rfl]
    exact ⟨.bl false, H, I, rfl, q⟩
end
/-- the exception at a is of the class at C -/
def ExAt (K : PySem.W.Frag) (H : Hp) (a C : Addr) : Prop := ExcF K C ∧ ((∃ (d : Addr) (fs : List (Str × V)), H a = some (exo a C (some d)) ∧ H d = some (exd d fs)) ∨ H a = some (ExO (.ref C) a))
theorem ExAt.same {K : PySem.W.Frag} {H H' : Hp} {a C : Addr} (h : ExAt K H a C) (s : Same H H') : ExAt K H' a C := by
  obtain ⟨T, h⟩ := h
  refine ⟨T, ?_⟩
  rcases h with ⟨d, fs, h1, h2⟩ | h1
  · exact .inl ⟨d, fs, s _ _ h1, s _ _ h2⟩
  · exact .inr (s _ _ h1)
section
variable {X : Cx}
/-- isinstance(e, D), e at a of the class at C, D one of some classes whose answers are known -/
def rIsP (K : PySem.W.Frag) (a C : Addr) (ok : V → Bool → Prop) : List V → Hp → VK → Prop := fun xs H Q => ∃ c b, xs = [.ref a, c] ∧ ok c b ∧ ExAt K H a C ∧ Q (.bl b) H
theorem call_isP {a C : Addr} {ok : V → Bool → Prop} (h : ∀ c b, ok c b → ∃ cv, ClsV c cv ∧ PySem.W.kitOne X.K (.ref C) cv = some b) : CallR X (.builtin "isinstance") (rIsP X.K a C ok) := by
  refine CallR.imp call_isXA ?_
  rintro xs H Q ⟨c, b, rfl, hc, ⟨T, e⟩, q⟩
  obtain ⟨cv, k, e2⟩ := h c b hc
  rcases e with ⟨d, fs, h1, h2⟩ | h1
  · exact .inl ⟨a, C, d, fs, c, cv, b, rfl, k, T, h1, h2, e2, q⟩
  · exact .inr ⟨a, C, c, cv, b, rfl, k, T, h1, e2, q⟩
end
theorem pe_gref {X : Cx} {x : Str} {C : Addr} {pos : Pos} (hg : Gl X x) (hm : X.mg x = some (.ref C)) (hd : (x == ("__debug__" : Str)) = false := by decide) : PE X (.Name x pos) (tC (.ref C)) :=
  pe_glob (v := .ref C) hg hm rfl hd
section
variable {X : Cx}
def rIsQ (K : PySem.W.Frag) (ok : Addr → V → Bool → Prop) : List V → Hp → VK → Prop := fun xs H Q => ∃ a C c b, xs = [.ref a, c] ∧ ok C c b ∧ ExAt K H a C ∧ Q (.bl b) H
theorem call_isQ {ok : Addr → V → Bool → Prop} (h : ∀ C c b, ok C c b → ∃ cv, ClsV c cv ∧ PySem.W.kitOne X.K (.ref C) cv = some b) : CallR X (.builtin "isinstance") (rIsQ X.K ok) := by
  refine CallR.imp call_isXA ?_
  rintro xs H Q ⟨a, C, c, b, rfl, hc, ⟨T, e⟩, q⟩
  obtain ⟨cv, k, e2⟩ := h C c b hc
  rcases e with ⟨d, fs, h1, h2⟩ | h1
  · exact .inl ⟨a, C, d, fs, c, cv, b, rfl, k, T, h1, h2, e2, q⟩
  · exact .inr ⟨a, C, c, cv, b, rfl, k, T, h1, e2, q⟩
end
theorem same_upd2 {H : Hp} {a d : Addr} {o u : HO} (na : H a = none) (nd : H d = none) : Same H (upd (upd H d u) a o) := by
  intro b x e
  rw [upd_ne (ne_of_none e na)]
  rw [upd_ne (ne_of_none e nd)]
  exact e
theorem same_refl {H : Hp} : Same H H := fun _ _ e => e
theorem kinds_eq {cs : List Addr} (nd : cs.Nodup) {i : Nat} {C : Addr} (hi : cs[i]? = some C) :
    cs.map (fun D => V.bl (decide (C = D))) = (List.range cs.length).map (fun j : Nat => V.bl (decide (V.int (0 + (i : Int)) = V.int (0 + (j : Int))))) := by
  apply List.ext_getElem?
  intro n
  rw [List.getElem?_map, List.getElem?_map]
  by_cases hn : n < cs.length
  · rw [List.getElem?_eq_getElem hn, List.getElem?_eq_getElem (by simpa using hn)]
    obtain ⟨hi', rfl⟩ := List.getElem?_eq_some_iff.mp hi
    have e : decide (cs[i] = cs[n]) = decide (V.int (0 + (i : Int)) = V.int (0 + (n : Int))) := by
      refine decide_eq_decide.mpr ⟨fun h => ?_, fun h => ?_⟩
      · have pw := List.pairwise_iff_getElem.mp nd
        have : i = n := by
          rcases Nat.lt_trichotomy i n with l | l | l
          · exact absurd h (pw i n hi' hn l)
          · exact l
          · exact absurd h.symm (pw n i hn hi' l)
        rw [this]
      · have h2 := V.int.inj h
        have : i = n := by omega
        subst this
        rfl
    simp [e]
  · rw [List.getElem?_eq_none (by omega), List.getElem?_eq_none (by simpa using Nat.le_of_not_lt hn)]
    rfl
theorem paired_get {α β : Type} {R : α → β → Prop} : ∀ {xs : List α} {ys : List β}, Paired R xs ys → ∀ {i : Nat} {x : α}, xs[i]? = some x → ∃ y, ys[i]? = some y ∧ R x y
  | _, _, .nil, i, x, h => by simp at h
  | _, _, .cons r k, 0, x, h => by
    cases h
    exact ⟨_, rfl, r⟩
  | _, _, .cons r k, i + 1, x, h => paired_get k (i := i) h
/-! ### the facts of the written part, gathered -/
section
variable {P : Program} {K : PySem.W.Frag} {h : Heap} {mg : Str → Option Value}
theorem excF_mk {C : Addr} {cd : ClassData} (a : PySem.W.clsIn K C = some cd)
    (hga : PySem.W.findIn K (.ref C) "__getattribute__" = some (some (.builtin "BaseException.__getattribute__")))
    (hgt : PySem.W.findIn K (.ref C) "__getattr__" = some none)
    (sub : PySem.W.subIn K (.ref C) (.type "BaseException") = some true)
    (ha : PySem.W.findIn K (.ref C) "__class__" = some (some (.builtin "object.__class__")))
    (hn : PySem.W.specialIn K (.builtin "object.__class__") "__get__" = some (some (.builtin "getset_descriptor.__get__")))
    (tk : PySem.W.takesIn K (.builtin "object.__class__") = some true)
    (hm : PySem.W.mroIn K C (.type "object") = some true) : ExcF K C :=
  ⟨by rw [a]; rfl, hga, hgt, sub, ha, hn, tk, hm⟩
theorem made_mk {x fld : Str} (X : K.In h) (G : h.Ns mainGlobals mg)
    {C fI cda cc N : Addr} {msg name qual file : Str} {j : Nat} {p0 p1 p2 p3 p4 p5 q0 q1 q2 q3 : Pos} {params : Arguments} {ar : Arg} {scope : Scope} {dV kV doc pm ct oc ccl cl : Value} {an od cdd cld : Option Addr}
    {osl ccs csl : Array (Option Value)} {vs : Array Value} {tf : Tok} {cd : ClassData} {nm qn : Str} {bs bm : List Value} {sn : List Str} {sb : List Value} {ab : Bool} {col : Option Bool} {dd : Option Addr} {k0 k1 k2 k3 k5 : Option Value}
    (a1 : PySem.W.nsIn K mainGlobals x = some (some (.ref C)))
    (a2 : PySem.W.findIn K (.ref C) "__init__" = some (some (.ref fI)))
    (a3 : K.lookup fI = some ⟨oc, od, .func (PySem.W.ksFn name qual params (initBody msg fld j p0 p1 p2 p3 p4 p5 q0 q1 q2 q3) scope dV kV doc pm an (.ref cda) ct cc), osl⟩)
    (a4 : PySem.W.codeIn K (.ref cda) qual = true)
    (a7 : K.lookup cda = some ⟨ccl, cdd, .fields vs, ccs⟩)
    (a10 : K.lookup cc = some ⟨cl, cld, .cell (some (.ref C)), csl⟩)
    (a13 : PySem.W.clsIn K C = some cd)
    (b1 : K.lookup C = some (excClassObj nm qn C N bs bm true sn sb ab col dd k0 k1 k2 k3 k5 "ValueError.__new__"))
    (b3 : PySem.W.findIn K (.ref C) "__setattr__" = some (some (.builtin "object.__setattr__")))
    (b5 : PySem.W.typeIn K (.ref C) = some (.type "type"))
    (b6 : PySem.W.keepIn K (.ref C) = true)
    (c1 : PySem.W.mroIn K C (.ref C) = some true)
    (c3 : PySem.W.subIn K (.ref C) (.type "ValueError") = some true)
    (c4 : PySem.W.findIn K (.ref C) fld = some none)
    (ti : PySem.W.typeIn K (.ref fI) = some (.type "function"))
    (zs : PySem.W.nsIn K mainGlobals "super" = some none)
    (zo : PySem.W.nsIn K cStatics "thirdparty.any" = some none)
    (ex : ExcF K C)
    (a5 : (params.posonlyargs ++ params.args).head? = some ar) (a6 : ar.arg = "self")
    (a8 : vs[2]? = some (.str file tf)) (a9 : ((P.main.file : Str) == file) = true)
    (a11 : (p2.endLine == p4.line) = true) (a12 : InitScope scope fld)
    (a14 : (P.main.scope.names.lookup ("super" : Str)).isSome = false)
    (a16 : fld ≠ "self") (a17 : (fld == ("__debug__" : Str)) = false)
    (b2 : PySem.HandSPX.refsVE bm = true)
    (c2 : PySem.W.ks_superIn K C C "__init__" = some (some (.builtin "ValueError.__init__")))
    (e1 : ∀ us : List Value, us.length = 2 → bindArgs (PySem.W.ksFn name qual params (initBody msg fld j p0 p1 p2 p3 p4 p5 q0 q1 q2 q3) scope dV kV doc pm an (.ref cda) ct cc) ⟨us, []⟩ = pure ((["self", fld] : List Str).zip us))
    (e2 : ∀ u v : Value, bindArgs (PySem.W.ksFn name qual params (initBody msg fld j p0 p1 p2 p3 p4 p5 q0 q1 q2 q3) scope dV kV doc pm an (.ref cda) ct cc) ⟨[u], [(fld, v)]⟩ = pure ([("self", u), (fld, v)] : List (Str × Value))) :
    Made K P mg x fld C fI (PySem.W.ksFn name qual params (initBody msg fld j p0 p1 p2 p3 p4 p5 q0 q1 q2 q3) scope dV kV doc pm an (.ref cda) ct cc) where
  fn := ⟨⟨msg, name, qual, file, j, p0, p1, p2, p3, p4, p5, q0, q1, q2, q3, params, ar, scope, dV, kV, doc, pm, ct, oc, ccl, cl, an, od, cdd, cld, osl, ccs, csl, vs, tf, cda, cc, rfl, a3, a4, a5, a6, a7, a8, a9, a10, a11, a12⟩, ⟨cd, a13⟩, a14, zo, a16, a17⟩
  of := ⟨⟨⟨nm, qn, N, bs, bm, sn, sb, ab, col, dd, k0, k1, k2, k3, k5, b1, b2⟩, b3, ex.sub, b5, b6⟩, c1, c2, c3, c4⟩
  bp := .all e1
  bk := fun s u v => BindsTo.of_eq (e2 u v)
  at_ := PySem.W.mg_of X G a1
  ini := a2
  ti := ti
  sup := PySem.W.mg_none_of X G zs
  ex := ex
/-- what isinstance answers for instances of the class at C -/
structure Kit (K : PySem.W.Frag) (cs : List Addr) (L C : Addr) : Prop where
  one : ∀ D ∈ cs, PySem.W.kitOne K (.ref C) (.ref D) = some (decide (C = D))
  root : PySem.W.kitOne K (.ref C) (.ref L) = some true
  ve : PySem.W.kitOne K (.ref C) (.type "ValueError") = some true
def IsCls (K : PySem.W.Frag) (D : Addr) : Prop := (PySem.W.clsIn K D).isSome = true ∧ PySem.W.typeIn K (.ref D) = some (.type "type")
theorem kitOne_ne {C D : Addr} {cd : ClassData} (hc : PySem.W.clsIn K C = some cd) (hm : cd.mro.isEmpty = false) (hD : IsCls K D) (ne : C ≠ D) :
    PySem.W.kitOne K (.ref C) (.ref D) = some (cd.mro.contains (.ref D)) := by
  unfold PySem.W.kitOne
  have e1 : (Value.ref C == Value.ref D) = false := by simpa using ne
  rw [e1, if_neg Bool.false_ne_true]
  have e2 : ((PySem.W.clsIn K D).isSome && PySem.W.typeIn K (.ref D) == some (.type "type")) = true := by
    rw [hD.1, hD.2]
    decide
  show (if ((PySem.W.clsIn K D).isSome && PySem.W.typeIn K (.ref D) == some (.type "type")) = true then PySem.W.mroIn K C (.ref D) else none) = _
  rw [if_pos e2]
  unfold PySem.W.mroIn
  rw [hc, Option.bind_some, hm, if_neg Bool.false_ne_true]
theorem kitOne_same {C : Addr} : PySem.W.kitOne K (.ref C) (.ref C) = some true := by
  unfold PySem.W.kitOne
  rw [beq_self_eq_true, if_pos rfl]
theorem kit_mk {cs : List Addr} {C L : Addr} {cd : ClassData} (hc : PySem.W.clsIn K C = some cd) (hm : cd.mro = .ref C :: .ref L :: PySem.PX.veTail)
    (hD : ∀ D ∈ cs, IsCls K D) (hL : IsCls K L) (nL : ∀ D ∈ cs, L ≠ D) (nC : C ≠ L)
    (ve : PySem.W.kitOne K (.ref C) (.type "ValueError") = some true) : Kit K cs L C := by
  refine ⟨fun D h => ?_, ?_, ve⟩
  · by_cases e : C = D
    · rw [e, kitOne_same]
      simp
    · rw [kitOne_ne hc (by rw [hm]; rfl) (hD D h) e, hm]
      have n1 : D ≠ C := fun z => e z.symm
      have n2 : D ≠ L := fun z => nL D h z.symm
      simp [List.contains_cons, PySem.PX.veTail, e, n1, n2]
  · rw [kitOne_ne hc (by rw [hm]; rfl) hL nC, hm]
    simp [List.contains_cons]
theorem kit_mkL {cs : List Addr} {L : Addr} {cd : ClassData} (hc : PySem.W.clsIn K L = some cd) (hm : cd.mro = .ref L :: PySem.PX.veTail)
    (hD : ∀ D ∈ cs, IsCls K D) (nL : ∀ D ∈ cs, L ≠ D)
    (ve : PySem.W.kitOne K (.ref L) (.type "ValueError") = some true) : Kit K cs L L := by
  refine ⟨fun D h => ?_, kitOne_same, ve⟩
  have e := nL D h
  have n1 : D ≠ L := fun z => e z.symm
  rw [kitOne_ne hc (by rw [hm]; rfl) (hD D h) e, hm]
  simp [List.contains_cons, PySem.PX.veTail, e, n1]
end
theorem kit_ve {K : PySem.W.Frag} {C : Addr} (h : PySem.W.subIn K (.ref C) (.type "ValueError") = some true) : PySem.W.kitOne K (.ref C) (.type "ValueError") = some true := by
  have e : PySem.W.kitMeta "ValueError" = true := by decide +kernel
  show (if (Value.ref C == Value.type "ValueError") = true then some true else (if PySem.W.kitMeta "ValueError" = true then PySem.W.subIn K (.ref C) (.type "ValueError") else none)) = some true
  rw [if_neg (by simp), if_pos e]
  exact h
end My
namespace My
open PySem L2
def top (i : Nat) : Stmt := PySem.Challenge.pw_freelots_k17_errors_made.main.body.getD i (.Pass ⟨0, 0, 0, 0⟩)

/-! ### a reading of ints and names, told as plain words -/
theorem at0 {a : V} {r : List V} : atI (a :: r) 0 = some a := atI_nat (j := 0) rfl
theorem at1 {a b : V} {r : List V} : atI (a :: b :: r) 1 = some b := atI_nat (j := 1) rfl
theorem at2 {a b c : V} {r : List V} : atI (a :: b :: c :: r) 2 = some c := atI_nat (j := 2) rfl
theorem set0 : ixN 3 0 = some 0 := rfl
theorem set1 : ixN 3 1 = some 1 := rfl
theorem set2 : ixN 3 2 = some 2 := rfl
theorem upd_upd {H : Hp} {a : Addr} {o u : HO} : upd (upd H a o) a u = upd H a u := by
  funext b
  by_cases e : b = a
  · rw [e, upd_same, upd_same]
  · rw [upd_ne e, upd_ne e, upd_ne e]
theorem scal_int (i j : Int) : scal (V.int i) (V.int j) = true := rfl
local macro_rules | `(tactic| walk_at "rd") => `(tactic| (simp (config := { failIfUnchanged := true }) only [gName, gSub, rSetL, fIxL, fIxT, fLenL, fLenT, CPowW, CDivN, tRet, L2.start, List.map_cons, List.map_nil, List.length_cons, List.length_nil, List.replicate_succ, List.replicate_zero, List.cons_append, List.nil_append, Nat.reduceAdd, Nat.reduceSub, HO.lst.injEq, HO.tup.injEq, at0, at1, at2, set0, set1, set2, upd_same, upd_upd, tSeq, tIfS, tAnd, tTest, tOp, tVar, tC, rI, rI0, tAsg, tNext, tCB, tCons, tNil, rEq, CMul, CPow,
  List.set, List.getElem?_cons_zero, List.getElem?_cons_succ, Option.some.injEq, V.int.injEq, V.bl.injEq, V.ref.injEq, reduceCtorEq, List.cons.injEq, and_true, true_and, and_false, false_and, exists_false, or_false, false_or,
  decide_eq_true_eq, Bool.false_eq_true, if_false, if_true, exists_eq_left', exists_eq_left, exists_and_left, exists_eq_right, exists_eq, exists_eq', exists_const, scal_int, Int.reduceLT, Int.reduceLE, Int.reduceNeg, Int.reducePow, Nat.reducePow, Nat.reduceLT, Int.reduceToNat, or_true, true_or, decide_true, decide_false]))
/-! ### the law's own draws -/
abbrev sSource : Stmt := top 22
abbrev sDraw : Stmt := top 23
abbrev sPick : Stmt := top 24
theorem same_upd {H : Hp} {p : Addr} {o : HO} (h : H p = none) : Same H (upd H p o) := by
  intro b x e
  rw [upd_ne (ne_of_none e h)]
  exact e
/-- what the source's list holds behind at most n draws -/
def SrcL (n : Nat) (o : HO) : Prop := ∃ (g sd c : Int), o = .lst [.int g, .int sd, .int c] ∧ 0 ≤ sd ∧ sd < 2147483647 ∧ 0 ≤ c ∧ c ≤ (n : Int)
theorem SrcL.mono {m n : Nat} {o : HO} (h : SrcL m o) (l : m ≤ n) : SrcL n o := by
  obtain ⟨g, sd, c, e, h1, h2, h3, h4⟩ := h
  exact ⟨g, sd, c, e, h1, h2, h3, by omega⟩
def spSource (K : PySem.W.Frag) : Sp := fun vs H Q _ => ∃ (a : Addr) (ns : List Int), vs = [.ref a] ∧ SqL K H a (ns.map V.int) ∧
  ∀ (H' : Hp) (p : Addr) (o : HO), Same H H' → H p = none → H' p = some o → SrcL 0 o → Q (.ref p) H'
def spDraw : Sp := fun vs H Q _ => ∃ (p : Addr) (o : HO) (n : Nat) (m : Int), vs = [.ref p, .int m] ∧ H p = some o ∧ SrcL n o ∧ n ≤ 100000 ∧ 0 < m ∧ m < 1000000 ∧
  ∀ (r : Int) (o' : HO), 0 ≤ r → r < m → SrcL (n + 1) o' → Q (.int r) (upd H p o')
def spPick (K : PySem.W.Frag) : Sp := fun vs H Q _ => ∃ (p l : Addr) (o : HO) (n : Nat) (xs : List V), vs = [.ref p, .ref l] ∧ H p = some o ∧ SrcL n o ∧ n ≤ 100000 ∧ H l = some (.lst xs) ∧ xs ≠ [] ∧ xs.length < 1000 ∧ p ≠ l ∧
  ∀ (x : V) (o' : HO), x ∈ xs → SrcL (n + 1) o' → Q x (upd H p o')
section
variable {P : Program} {w : World} {K : PySem.W.Frag} {mg : Str → Option Value} {base : Heap}
theorem scSo : FnScope ["_law_script", "_law_great", "_law_seed", "_law_cell"] ["_law_script"] (defScope sSource) := ⟨rfl, rfl, rfl, by decide +kernel, rfl, by decide +kernel, by decide +kernel⟩
theorem ok_source {f : Addr} {fd : FuncData} (F : Fun K "_law_source" "_law_source" sSource f fd) (mI : mg "int" = none) : FnOk P w K mg base CX0 1 f fd ["_law_script"] (spSource K) := by
  refine F.ok scSo (fun vs H Q E h => ?_) (fun cdv A outer s H vs Q E hr h => ?_)
  · obtain ⟨a, ns, rfl, _⟩ := h
    rfl
  · obtain ⟨a, ns, rfl, hS, k⟩ := h
    have nd := scSo.nd
    refine ⟨_, pss_cons (ps_asg (pe_tup (pa_cons pe_int (pa_cons pe_int pa_nil))) (pg_tup (by rfl) (pgs_cons (pg_name (i := 1) nd rfl (.inl rfl)) (pgs_cons (pg_name (i := 2) nd rfl (.inl rfl)) pgs_nil))))
      (pss_cons (ps_for PassesOwn.never rfl (pi_list (pv 0)) (pg_name (i := 3) nd rfl (.inl rfl))
        (pss_cons (ps_if (PW.pt (pw_and (pt_cmpR op_eq (pv 1) pe_int (nomark _)) (pw_and1 (pt_cmpR op_ge (pv 3) (pe_op op_pow pe_int pe_int) (nomark _)))))
            (pss_one (ps_set (i := 1) nd rfl (.inl rfl) (pv 3))) pss_nil)
          (pss_one (ps_set (i := 2) nd rfl (.inl rfl)
            (pe_op op_mod (pe_callTy call_int1 (by rfl) mI (by decide +kernel) (pa_cons (pe_op op_add (pe_op op_add (pe_op op_mul (pv 2) pe_int) (pv 3)) pe_int) pa_nil)) pe_int)))))
      (pss_one (ps_ret (pe_lst (pa_cons (pv 1) (pa_cons (pv 2) (pa_cons pe_int pa_nil))))))), ?_⟩
    refine ⟨by show 2 ≤ sizeLine; decide, fun t ht => ?_⟩
    have s1 : Same H (upd H t (.tup [.int 0, .int 17])) := same_upd ht
    refine ⟨t, [.int 0, .int 17], rfl, .inl (.inl upd_same), rfl, .int 0, [.int 17], rfl, .int 17, [], rfl, rfl, ?_⟩
    refine ⟨.ref a, rfl, a, rfl, ⟨_, s1.seq hS⟩, for_list (K := K) (a := a) (xs := ns.map V.int) (fun i σ H' => ∃ (g sd : Int) (v : Option V), σ = [some (.ref a), some (.int g), some (.int sd), v] ∧ 0 ≤ sd ∧ sd < 2147483647 ∧ H' = upd H t (.tup [.int 0, .int 17]))
      ⟨0, 17, none, rfl, by decide, by decide, rfl⟩ (fun i σ H' _ ⟨_, _, _, _, _, _, e⟩ => by rw [e]; exact s1.seq hS) ?_ ?_⟩
    · rintro i y σ H' hi ⟨g, sd, v, rfl, h0, h1, rfl⟩
      obtain ⟨u, rfl⟩ : ∃ u, y = V.int u := by
        rw [List.getElem?_map] at hi
        cases e : ns[i]? with
        | none =>
          rw [e] at hi
          cases hi
        | some u =>
          rw [e] at hi
          exact ⟨u, (Option.some.inj hi).symm⟩
      walk_at "rd"
      have m0 : 0 ≤ (sd * 31 + u + 7) % 2147483647 := Int.emod_nonneg _ (by decide)
      have m1 : (sd * 31 + u + 7) % 2147483647 < 2147483647 := Int.emod_lt_of_pos _ (by decide)
      refine ite2 (fun _ => ⟨by decide, ite2 (fun _ => ?_) (fun _ => ?_)⟩) (fun _ => ?_)
      all_goals exact ⟨_, _, _, ⟨rfl, rfl, rfl⟩, m0, m1⟩
    · rintro σ H' ⟨g, sd, v, rfl, h0, h1, rfl⟩
      refine ⟨_, rfl, _, rfl, by show 3 ≤ sizeLine; decide, fun p hp => ?_⟩
      have np : H p = none := by
        by_cases e : p = t
        · rw [e]
          exact ht
        · rw [upd_ne e] at hp
          exact hp
      exact k _ p _ (s1.trans (same_upd hp)) np upd_same ⟨g, sd, 0, rfl, h0, h1, by decide, by decide⟩
theorem scDr : FnScope ["_law_source_here", "_law_many", "_law_digit", "_law_mixed"] ["_law_source_here", "_law_many"] (defScope sDraw) := ⟨rfl, rfl, rfl, by decide +kernel, rfl, by decide +kernel, by decide +kernel⟩
theorem ok_draw {f : Addr} {fd : FuncData} (F : Fun K "_law_draw" "_law_draw" sDraw f fd) (mI : mg "int" = none) : FnOk P w K mg base CX0 1 f fd ["_law_source_here", "_law_many"] spDraw := by
  refine F.ok scDr (fun vs H Q E h => ?_) (fun cdv A outer s H vs Q E hr h => ?_)
  · obtain ⟨p, o, n, m, rfl, _⟩ := h
    rfl
  · obtain ⟨p, o, n, m, rfl, hp, ⟨g, sd, c, rfl, h0, h1, c0, c1⟩, hn, m0, m1, k⟩ := h
    have nd := scDr.nd
    refine ⟨_, pss_cons (ps_asg (pe_op op_add (pe_ix ixL (pv 0) pe_int (fun _ _ => rfl)) pe_int) (pg_sub (pv 0) pe_int set_list))
      (pss_cons (ps_if (pt_cmpR op_gt (pe_ix ixL (pv 0) pe_int (fun _ _ => rfl)) pe_int (nomark _))
          (pss_cons (ps_set (i := 2) nd rfl (.inl rfl) (pe_op op_mod (pe_callTy call_int1 (by rfl) mI (by decide +kernel) (pa_cons (pe_ix ixL (pv 0) pe_int (fun _ _ => rfl)) pa_nil)) (pv 1)))
            (pss_cons (ps_asg (pe_op op_fdivN (pe_ix ixL (pv 0) pe_int (fun _ _ => rfl)) (pv 1)) (pg_sub (pv 0) pe_int set_list))
              (pss_one (ps_ret (pv 2))))) pss_nil)
        (pss_cons (ps_set (i := 3) nd rfl (.inl rfl) (pe_op op_mod (pe_op op_pow (pe_op op_add (pe_ix ixL (pv 0) pe_int (fun _ _ => rfl)) (pe_op op_mul pe_int (pe_ix ixL (pv 0) pe_int (fun _ _ => rfl)))) pe_int) pe_int))
          (pss_one (ps_ret (pe_op op_mod (pe_op op_mod (pe_op op_pow (pe_op op_add (pe_op op_add (pe_op op_mul (pv 3) pe_int)
            (pe_op op_mul (pe_op op_mul pe_int (pe_ix ixL (pv 0) pe_int (fun _ _ => rfl))) (pe_ix ixL (pv 0) pe_int (fun _ _ => rfl)))) pe_int) pe_int) pe_int) (pv 1)))))), ?_⟩
    walk_at "rd"
    simp only [hp]
    walk_at "rd"
    have hn' : (n : Int) ≤ 100000 := by omega
    refine ite2 (fun _ => ⟨m0, ⟨by omega, by omega⟩, ?_⟩) (fun _ => ⟨by omega, .inr (by omega), ?_, m0, ?_⟩)
    · exact k _ _ (Int.emod_nonneg _ (by omega)) (Int.emod_lt_of_pos _ m0) ⟨_, sd, c + 1, rfl, h0, h1, by omega, by omega⟩
    · have r0 : 0 ≤ (sd + 7919 * (c + 1)) ^ 5 % 2147483629 := Int.emod_nonneg _ (by decide)
      have r1 : (sd + 7919 * (c + 1)) ^ 5 % 2147483629 < 2147483629 := Int.emod_lt_of_pos _ (by decide)
      have q0 : 0 ≤ 16807 * (c + 1) * (c + 1) := Int.mul_nonneg (by omega) (by omega)
      have q1 : 16807 * (c + 1) * (c + 1) ≤ 1680716807 * 100001 := Int.mul_le_mul (by omega) (by omega) (by omega) (by decide)
      omega
    · exact k _ _ (Int.emod_nonneg _ (by omega)) (Int.emod_lt_of_pos _ m0) ⟨_, sd, c + 1, rfl, h0, h1, by omega, by omega⟩
theorem scPi : FnScope ["_law_source_here", "_law_things"] ["_law_source_here", "_law_things"] (defScope sPick) := ⟨rfl, rfl, rfl, by decide +kernel, rfl, by decide +kernel, by decide +kernel⟩
theorem ok_pick {f fD : Addr} {fd fdD : FuncData} (F : Fun K "_law_pick" "_law_pick" sPick f fd) (GD : FnOk P w K mg base CX0 1 fD fdD ["_law_source_here", "_law_many"] spDraw) (mD : mg "_law_draw" = some (.ref fD))
    (kD : PySem.W.keepIn K (.ref fD) = true) (bD : Binds K fdD ["_law_source_here", "_law_many"] []) (mL : mg "len" = none) :
    FnOk P w K mg base CX0 2 f fd ["_law_source_here", "_law_things"] (spPick K) := by
  refine F.ok scPi (fun vs H Q E h => ?_) (fun cdv A outer s H vs Q E hr h => ?_)
  · obtain ⟨p, l, o, n, xs, rfl, _⟩ := h
    rfl
  · obtain ⟨p, l, o, n, xs, rfl, hp, ho, hn, hl, hx, hz, npl, k⟩ := h
    refine ⟨_, pss_one (ps_ret (pe_ix ixL (pv 1) (pe_call GD hr rfl mD kD bD .nil pass0 (pa_cons (pv 0) (pa_cons (pe_callB lenL (by rfl) mL PySem.boot_len (pa_cons (pv 1) pa_nil)) pa_nil))) (fun _ _ => rfl))), ?_⟩
    have hpos : 0 < xs.length := List.length_pos_iff.mpr hx
    refine ⟨_, rfl, _, rfl, _, rfl, l, xs, rfl, hl, p, o, n, _, rfl, hp, ho, hn, by omega, by omega, fun r o' r0 r1 ho' => ?_⟩
    obtain ⟨j, rfl⟩ : ∃ j : Nat, r = j := ⟨r.toNat, by omega⟩
    have hj : j < xs.length := by omega
    refine ⟨l, j, xs, xs[j], rfl, rfl, by rw [upd_ne (Ne.symm npl)]; exact hl, atI_nat (List.getElem?_eq_getElem hj), ?_⟩
    exact k _ _ (List.getElem_mem hj) ho'
end


/-! ### the classes -/
abbrev sKinds : Stmt := top 25
abbrev sFields : Stmt := top 26
abbrev sLaw : Stmt := top 27
structure Bare (K : PySem.W.Frag) (mg : Str → Option Value) (x : Str) (C : Addr) : Prop where
  ex : ExcF K C
  q : PySem.W.excIn K C PySem.PX.veTail "ValueError.__new__" = true
  at_ : mg x = some (.ref C)
  kp : PySem.W.keepIn K (.ref C) = true
structure Txt (P : Program) (K : PySem.W.Frag) (mg : Str → Option Value) (C0 C1 C2 C3 C4 C5 C6 C7 C8 C9 C10 C11 C12 C13 C14 C15 C16 C17 C18 CL : Addr) (f0 f1 f2 f3 f4 f5 f6 f7 f8 f9 f10 f11 f12 f13 f14 f15 : Addr) (d0 d1 d2 d3 d4 d5 d6 d7 d8 d9 d10 d11 d12 d13 d14 d15 : FuncData) : Prop where
  m0 : Made K P mg "BadField" "number" C0 f0 d0
  m1 : Made K P mg "BadRows" "row" C1 f1 d1
  m2 : Made K P mg "BadLot" "place" C2 f2 d2
  m3 : Made K P mg "BadCount" "count" C3 f3 d3
  m4 : Made K P mg "BadTables" "place" C4 f4 d4
  m5 : Made K P mg "BadSizes" "place" C5 f5 d5
  m6 : Made K P mg "BadWeb" "place" C6 f6 d6
  m7 : Made K P mg "TooMany" "lot" C7 f7 d7
  m8 : Made K P mg "NoRow" "row" C8 f8 d8
  m9 : Made K P mg "BadText" "line" C9 f9 d9
  m10 : Made K P mg "NotBase" "lot" C10 f10 d10
  m11 : Made K P mg "BadPrices" "index" C11 f11 d11
  m12 : Made K P mg "NoughtRow" "index" C12 f12 d12
  m13 : Made K P mg "BadTimes" "index" C13 f13 d13
  m14 : Made K P mg "BadClass" "number" C14 f14 d14
  m15 : Made K P mg "BadPrime" "prime" C15 f15 d15
  b16 : Bare K mg "NoDeed" C16
  b17 : Bare K mg "UnlikeRows" C17
  b18 : Bare K mg "NotWhole" C18
  bL : Bare K mg "LotError" CL
  kit : ∀ C ∈ [C0, C1, C2, C3, C4, C5, C6, C7, C8, C9, C10, C11, C12, C13, C14, C15, C16, C17, C18, CL], Kit K [C0, C1, C2, C3, C4, C5, C6, C7, C8, C9, C10, C11, C12, C13, C14, C15, C16, C17, C18] CL C
  hd : ∀ C ∈ [C0, C1, C2, C3, C4, C5, C6, C7, C8, C9, C10, C11, C12, C13, C14, C15], PySem.W.hasDictIn K C = true
  ne : [C0, C1, C2, C3, C4, C5, C6, C7, C8, C9, C10, C11, C12, C13, C14, C15, C16, C17, C18, CL].Nodup
  is : mg "isinstance" = none
  len : mg "len" = none
  range : mg "range" = none
  any : mg "any" = none
section
variable {P : Program} {w : World} {K : PySem.W.Frag} {mg : Str → Option Value} {base : Heap} {C0 C1 C2 C3 C4 C5 C6 C7 C8 C9 C10 C11 C12 C13 C14 C15 C16 C17 C18 CL f0 f1 f2 f3 f4 f5 f6 f7 f8 f9 f10 f11 f12 f13 f14 f15 : Addr} {d0 d1 d2 d3 d4 d5 d6 d7 d8 d9 d10 d11 d12 d13 d14 d15 : FuncData}
/-- a list is laid: what is known afterwards -/
theorem upd_none {H : Hp} {p : Addr} {o : HO} : ∀ b, upd H p o b = none → H b = none ∧ b ≠ p := by
  intro b hb
  by_cases e : b = p
  · rw [e, upd_same] at hb
    cases hb
  · rw [upd_ne e] at hb
    exact ⟨hb, e⟩
/-! ### _law_kinds -/
theorem scKi : FnScope ["_law_e", "_law_found"] ["_law_e"] (defScope sKinds) := ⟨rfl, rfl, rfl, by decide +kernel, rfl, by decide +kernel, by decide +kernel⟩
def spKinds (K : PySem.W.Frag) (cs : List Addr) (L : Addr) : Sp := fun vs H Q _ => ∃ (a C : Addr), vs = [.ref a] ∧ Kit K cs L C ∧ ExAt K H a C ∧
  ∀ (H' : Hp) (p : Addr), Same H H' → H p = none → H' p = some (.lst (cs.map fun D => V.bl (decide (C = D)))) → Q (.ref p) H'
theorem ok_kinds {f : Addr} {fd : FuncData} (F : Fun K "_law_kinds" "_law_kinds" sKinds f fd) (T : Txt P K mg C0 C1 C2 C3 C4 C5 C6 C7 C8 C9 C10 C11 C12 C13 C14 C15 C16 C17 C18 CL f0 f1 f2 f3 f4 f5 f6 f7 f8 f9 f10 f11 f12 f13 f14 f15 d0 d1 d2 d3 d4 d5 d6 d7 d8 d9 d10 d11 d12 d13 d14 d15) :
    FnOk P w K mg base CX0 1 f fd ["_law_e"] (spKinds K [C0, C1, C2, C3, C4, C5, C6, C7, C8, C9, C10, C11, C12, C13, C14, C15, C16, C17, C18] CL) := by
  refine F.ok scKi (fun vs H Q E h => ?_) (fun cdv A outer s H vs Q E hr h => ?_)
  · obtain ⟨a, C, rfl, _⟩ := h
    rfl
  · obtain ⟨a, C, rfl, hK, hx, k⟩ := h
    have nd := scKi.nd
    have hok : ∀ c b, (∃ D, D ∈ [C0, C1, C2, C3, C4, C5, C6, C7, C8, C9, C10, C11, C12, C13, C14, C15, C16, C17, C18] ∧ c = V.ref D ∧ b = decide (C = D)) → ∃ cv, ClsV c cv ∧ PySem.W.kitOne K (.ref C) cv = some b := by
      rintro c b ⟨D, hD, rfl, rfl⟩
      exact ⟨_, .own D, hK.one D hD⟩
    refine ⟨_, (pss_cons (ps_set (i := 1) nd rfl (.inl rfl) (pe_lst (pa_cons (pe_callB (call_isP (a := a) hok) (by rfl) T.is (by decide +kernel) (pa_cons (pv 0) (pa_cons (pe_gref (by rfl) T.m0.at_) pa_nil))) (pa_cons (pe_callB (call_isP (a := a) hok) (by rfl) T.is (by decide +kernel) (pa_cons (pv 0) (pa_cons (pe_gref (by rfl) T.m1.at_) pa_nil))) (pa_cons (pe_callB (call_isP (a := a) hok) (by rfl) T.is (by decide +kernel) (pa_cons (pv 0) (pa_cons (pe_gref (by rfl) T.m2.at_) pa_nil))) (pa_cons (pe_callB (call_isP (a := a) hok) (by rfl) T.is (by decide +kernel) (pa_cons (pv 0) (pa_cons (pe_gref (by rfl) T.m3.at_) pa_nil))) pa_nil))))))
      (pss_cons (ps_set (i := 1) nd rfl (.inl rfl) (pe_op op_cat (pv 1) (pe_lst (pa_cons (pe_callB (call_isP (a := a) hok) (by rfl) T.is (by decide +kernel) (pa_cons (pv 0) (pa_cons (pe_gref (by rfl) T.m4.at_) pa_nil))) (pa_cons (pe_callB (call_isP (a := a) hok) (by rfl) T.is (by decide +kernel) (pa_cons (pv 0) (pa_cons (pe_gref (by rfl) T.m5.at_) pa_nil))) (pa_cons (pe_callB (call_isP (a := a) hok) (by rfl) T.is (by decide +kernel) (pa_cons (pv 0) (pa_cons (pe_gref (by rfl) T.m6.at_) pa_nil))) (pa_cons (pe_callB (call_isP (a := a) hok) (by rfl) T.is (by decide +kernel) (pa_cons (pv 0) (pa_cons (pe_gref (by rfl) T.m7.at_) pa_nil))) pa_nil)))))))
      (pss_cons (ps_set (i := 1) nd rfl (.inl rfl) (pe_op op_cat (pv 1) (pe_lst (pa_cons (pe_callB (call_isP (a := a) hok) (by rfl) T.is (by decide +kernel) (pa_cons (pv 0) (pa_cons (pe_gref (by rfl) T.m8.at_) pa_nil))) (pa_cons (pe_callB (call_isP (a := a) hok) (by rfl) T.is (by decide +kernel) (pa_cons (pv 0) (pa_cons (pe_gref (by rfl) T.m9.at_) pa_nil))) (pa_cons (pe_callB (call_isP (a := a) hok) (by rfl) T.is (by decide +kernel) (pa_cons (pv 0) (pa_cons (pe_gref (by rfl) T.m10.at_) pa_nil))) (pa_cons (pe_callB (call_isP (a := a) hok) (by rfl) T.is (by decide +kernel) (pa_cons (pv 0) (pa_cons (pe_gref (by rfl) T.m11.at_) pa_nil))) pa_nil)))))))
      (pss_cons (ps_set (i := 1) nd rfl (.inl rfl) (pe_op op_cat (pv 1) (pe_lst (pa_cons (pe_callB (call_isP (a := a) hok) (by rfl) T.is (by decide +kernel) (pa_cons (pv 0) (pa_cons (pe_gref (by rfl) T.m12.at_) pa_nil))) (pa_cons (pe_callB (call_isP (a := a) hok) (by rfl) T.is (by decide +kernel) (pa_cons (pv 0) (pa_cons (pe_gref (by rfl) T.m13.at_) pa_nil))) (pa_cons (pe_callB (call_isP (a := a) hok) (by rfl) T.is (by decide +kernel) (pa_cons (pv 0) (pa_cons (pe_gref (by rfl) T.m14.at_) pa_nil))) pa_nil))))))
      (pss_cons (ps_set (i := 1) nd rfl (.inl rfl) (pe_op op_cat (pv 1) (pe_lst (pa_cons (pe_callB (call_isP (a := a) hok) (by rfl) T.is (by decide +kernel) (pa_cons (pv 0) (pa_cons (pe_gref (by rfl) T.m15.at_) pa_nil))) (pa_cons (pe_callB (call_isP (a := a) hok) (by rfl) T.is (by decide +kernel) (pa_cons (pv 0) (pa_cons (pe_gref (by rfl) T.b16.at_) pa_nil))) (pa_cons (pe_callB (call_isP (a := a) hok) (by rfl) T.is (by decide +kernel) (pa_cons (pv 0) (pa_cons (pe_gref (by rfl) T.b17.at_) pa_nil))) pa_nil))))))
      (pss_one (ps_ret (pe_op op_cat (pv 1) (pe_lst (pa_cons (pe_callB (call_isP (a := a) hok) (by rfl) T.is (by decide +kernel) (pa_cons (pv 0) (pa_cons (pe_gref (by rfl) T.b18.at_) pa_nil))) pa_nil)))))))))), ?_⟩
    refine ⟨_, rfl, _, _, rfl, ⟨C0, by simp, rfl, rfl⟩, hx, _, rfl, _, _, rfl, ⟨C1, by simp, rfl, rfl⟩, hx, _, rfl, _, _, rfl, ⟨C2, by simp, rfl, rfl⟩, hx, _, rfl, _, _, rfl, ⟨C3, by simp, rfl, rfl⟩, hx, by show 4 ≤ sizeLine; decide, fun p0 n0 => ?_⟩
    generalize hH1 : upd H p0 _ = H1
    have s1 : Same H H1 := by rw [← hH1]; exact same_upd n0
    have e1 := (congrFun hH1 p0).symm.trans upd_same
    have k1 : ∀ b, H1 b = none → H b = none ∧ b ≠ p0 := by rw [← hH1]; exact upd_none
    clear hH1
    have t1 : Same H H1 := s1
    have x1 := hx.same t1
    refine ⟨_, rfl, _, rfl, _, _, rfl, ⟨C4, by simp, rfl, rfl⟩, x1, _, rfl, _, _, rfl, ⟨C5, by simp, rfl, rfl⟩, x1, _, rfl, _, _, rfl, ⟨C6, by simp, rfl, rfl⟩, x1, _, rfl, _, _, rfl, ⟨C7, by simp, rfl, rfl⟩, x1, by show 4 ≤ sizeLine; decide, fun q2 m2 => ?_⟩
    generalize hH2 : upd H1 q2 _ = H2
    have s2 : Same H1 H2 := by rw [← hH2]; exact same_upd m2
    have e2 := (congrFun hH2 q2).symm.trans upd_same
    have k2 : ∀ b, H2 b = none → H1 b = none ∧ b ≠ q2 := by rw [← hH2]; exact upd_none
    clear hH2
    refine ⟨p0, q2, _, _, rfl, rfl, s2 _ _ e1, e2, by show 4 + 4 ≤ sizeLine; decide, fun p3 n3 => ?_⟩
    generalize hH3 : upd H2 p3 _ = H3
    have s3 : Same H2 H3 := by rw [← hH3]; exact same_upd n3
    have e3 := (congrFun hH3 p3).symm.trans upd_same
    have k3 : ∀ b, H3 b = none → H2 b = none ∧ b ≠ p3 := by rw [← hH3]; exact upd_none
    clear hH3
    have t3 : Same H H3 := (t1.trans s2).trans s3
    have x3 := hx.same t3
    refine ⟨_, rfl, _, rfl, _, _, rfl, ⟨C8, by simp, rfl, rfl⟩, x3, _, rfl, _, _, rfl, ⟨C9, by simp, rfl, rfl⟩, x3, _, rfl, _, _, rfl, ⟨C10, by simp, rfl, rfl⟩, x3, _, rfl, _, _, rfl, ⟨C11, by simp, rfl, rfl⟩, x3, by show 4 ≤ sizeLine; decide, fun q4 m4 => ?_⟩
    generalize hH4 : upd H3 q4 _ = H4
    have s4 : Same H3 H4 := by rw [← hH4]; exact same_upd m4
    have e4 := (congrFun hH4 q4).symm.trans upd_same
    have k4 : ∀ b, H4 b = none → H3 b = none ∧ b ≠ q4 := by rw [← hH4]; exact upd_none
    clear hH4
    refine ⟨p3, q4, _, _, rfl, rfl, s4 _ _ e3, e4, by show 8 + 4 ≤ sizeLine; decide, fun p5 n5 => ?_⟩
    generalize hH5 : upd H4 p5 _ = H5
    have s5 : Same H4 H5 := by rw [← hH5]; exact same_upd n5
    have e5 := (congrFun hH5 p5).symm.trans upd_same
    have k5 : ∀ b, H5 b = none → H4 b = none ∧ b ≠ p5 := by rw [← hH5]; exact upd_none
    clear hH5
    have t5 : Same H H5 := (t3.trans s4).trans s5
    have x5 := hx.same t5
    refine ⟨_, rfl, _, rfl, _, _, rfl, ⟨C12, by simp, rfl, rfl⟩, x5, _, rfl, _, _, rfl, ⟨C13, by simp, rfl, rfl⟩, x5, _, rfl, _, _, rfl, ⟨C14, by simp, rfl, rfl⟩, x5, by show 3 ≤ sizeLine; decide, fun q6 m6 => ?_⟩
    generalize hH6 : upd H5 q6 _ = H6
    have s6 : Same H5 H6 := by rw [← hH6]; exact same_upd m6
    have e6 := (congrFun hH6 q6).symm.trans upd_same
    have k6 : ∀ b, H6 b = none → H5 b = none ∧ b ≠ q6 := by rw [← hH6]; exact upd_none
    clear hH6
    refine ⟨p5, q6, _, _, rfl, rfl, s6 _ _ e5, e6, by show 12 + 3 ≤ sizeLine; decide, fun p7 n7 => ?_⟩
    generalize hH7 : upd H6 p7 _ = H7
    have s7 : Same H6 H7 := by rw [← hH7]; exact same_upd n7
    have e7 := (congrFun hH7 p7).symm.trans upd_same
    have k7 : ∀ b, H7 b = none → H6 b = none ∧ b ≠ p7 := by rw [← hH7]; exact upd_none
    clear hH7
    have t7 : Same H H7 := (t5.trans s6).trans s7
    have x7 := hx.same t7
    refine ⟨_, rfl, _, rfl, _, _, rfl, ⟨C15, by simp, rfl, rfl⟩, x7, _, rfl, _, _, rfl, ⟨C16, by simp, rfl, rfl⟩, x7, _, rfl, _, _, rfl, ⟨C17, by simp, rfl, rfl⟩, x7, by show 3 ≤ sizeLine; decide, fun q8 m8 => ?_⟩
    generalize hH8 : upd H7 q8 _ = H8
    have s8 : Same H7 H8 := by rw [← hH8]; exact same_upd m8
    have e8 := (congrFun hH8 q8).symm.trans upd_same
    have k8 : ∀ b, H8 b = none → H7 b = none ∧ b ≠ q8 := by rw [← hH8]; exact upd_none
    clear hH8
    refine ⟨p7, q8, _, _, rfl, rfl, s8 _ _ e7, e8, by show 15 + 3 ≤ sizeLine; decide, fun p9 n9 => ?_⟩
    generalize hH9 : upd H8 p9 _ = H9
    have s9 : Same H8 H9 := by rw [← hH9]; exact same_upd n9
    have e9 := (congrFun hH9 p9).symm.trans upd_same
    have k9 : ∀ b, H9 b = none → H8 b = none ∧ b ≠ p9 := by rw [← hH9]; exact upd_none
    clear hH9
    have t9 : Same H H9 := (t7.trans s8).trans s9
    have x9 := hx.same t9
    refine ⟨_, rfl, _, rfl, _, _, rfl, ⟨C18, by simp, rfl, rfl⟩, x9, by show 1 ≤ sizeLine; decide, fun q10 m10 => ?_⟩
    generalize hH10 : upd H9 q10 _ = H10
    have s10 : Same H9 H10 := by rw [← hH10]; exact same_upd m10
    have e10 := (congrFun hH10 q10).symm.trans upd_same
    have k10 : ∀ b, H10 b = none → H9 b = none ∧ b ≠ q10 := by rw [← hH10]; exact upd_none
    clear hH10
    refine ⟨p9, q10, _, _, rfl, rfl, s10 _ _ e9, e10, by show 18 + 1 ≤ sizeLine; decide, fun p11 n11 => ?_⟩
    generalize hH11 : upd H10 p11 _ = H11
    have s11 : Same H10 H11 := by rw [← hH11]; exact same_upd n11
    have e11 := (congrFun hH11 p11).symm.trans upd_same
    have k11 : ∀ b, H11 b = none → H10 b = none ∧ b ≠ p11 := by rw [← hH11]; exact upd_none
    clear hH11
    have t11 : Same H H11 := (t9.trans s10).trans s11
    refine k H11 p11 t11 ?_ e11
    have z11 := n11
    have z10 := (k10 _ z11).1
    have z9 := (k9 _ z10).1
    have z8 := (k8 _ z9).1
    have z7 := (k7 _ z8).1
    have z6 := (k6 _ z7).1
    have z5 := (k5 _ z6).1
    have z4 := (k4 _ z5).1
    have z3 := (k3 _ z4).1
    have z2 := (k2 _ z3).1
    have z1 := (k1 _ z2).1
    exact z1
/-! ### _law_fields -/
/-- an exception whose one field is told -/
def FAt (H : Hp) (a C : Addr) (f : Str) (x : V) : Prop := ∃ d, H a = some (exo a C (some d)) ∧ H d = some (exd d [(f, x)])
theorem FAt.same {H H' : Hp} {a C : Addr} {f : Str} {x : V} (h : FAt H a C f x) (s : Same H H') : FAt H' a C f x := by
  obtain ⟨d, h1, h2⟩ := h
  exact ⟨d, s _ _ h1, s _ _ h2⟩
theorem scFi : FnScope ["_law_made", "_law_found"] ["_law_made"] (defScope sFields) := ⟨rfl, rfl, rfl, by decide +kernel, rfl, by decide +kernel, by decide +kernel⟩
def Six (C0 C1 C2 C3 C4 C5 C6 C7 C8 C9 C10 C11 C12 C13 C14 C15 : Addr) (x : V) (H : Hp) (l : Addr) : Prop := ∃ (a0 a1 a2 a3 a4 a5 a6 a7 a8 a9 a10 a11 a12 a13 a14 a15 : Addr), H l = some (.lst [V.ref a0, V.ref a1, V.ref a2, V.ref a3, V.ref a4, V.ref a5, V.ref a6, V.ref a7, V.ref a8, V.ref a9, V.ref a10, V.ref a11, V.ref a12, V.ref a13, V.ref a14, V.ref a15]) ∧ FAt H a0 C0 "number" x ∧ FAt H a1 C1 "row" x ∧ FAt H a2 C2 "place" x ∧ FAt H a3 C3 "count" x ∧ FAt H a4 C4 "place" x ∧ FAt H a5 C5 "place" x ∧ FAt H a6 C6 "place" x ∧ FAt H a7 C7 "lot" x ∧ FAt H a8 C8 "row" x ∧ FAt H a9 C9 "line" x ∧ FAt H a10 C10 "lot" x ∧ FAt H a11 C11 "index" x ∧ FAt H a12 C12 "index" x ∧ FAt H a13 C13 "index" x ∧ FAt H a14 C14 "number" x ∧ FAt H a15 C15 "prime" x
theorem Six.same {C0 C1 C2 C3 C4 C5 C6 C7 C8 C9 C10 C11 C12 C13 C14 C15 : Addr} {x : V} {H H' : Hp} {l : Addr} (h : Six C0 C1 C2 C3 C4 C5 C6 C7 C8 C9 C10 C11 C12 C13 C14 C15 x H l) (s : Same H H') : Six C0 C1 C2 C3 C4 C5 C6 C7 C8 C9 C10 C11 C12 C13 C14 C15 x H' l := by
  obtain ⟨a0, a1, a2, a3, a4, a5, a6, a7, a8, a9, a10, a11, a12, a13, a14, a15, hl, g0, g1, g2, g3, g4, g5, g6, g7, g8, g9, g10, g11, g12, g13, g14, g15⟩ := h
  exact ⟨a0, a1, a2, a3, a4, a5, a6, a7, a8, a9, a10, a11, a12, a13, a14, a15, s _ _ hl, g0.same s, g1.same s, g2.same s, g3.same s, g4.same s, g5.same s, g6.same s, g7.same s, g8.same s, g9.same s, g10.same s, g11.same s, g12.same s, g13.same s, g14.same s, g15.same s⟩
def spFields (C0 C1 C2 C3 C4 C5 C6 C7 C8 C9 C10 C11 C12 C13 C14 C15 : Addr) : Sp := fun vs H Q _ => ∃ (l : Addr) (x : V), vs = [.ref l] ∧ Six C0 C1 C2 C3 C4 C5 C6 C7 C8 C9 C10 C11 C12 C13 C14 C15 x H l ∧
  ∀ (H' : Hp) (p : Addr), Same H H' → H p = none → H' p = some (.lst (List.replicate 16 x)) → Q (.ref p) H'
theorem ok_fields {f : Addr} {fd : FuncData} (F : Fun K "_law_fields" "_law_fields" sFields f fd) (T : Txt P K mg C0 C1 C2 C3 C4 C5 C6 C7 C8 C9 C10 C11 C12 C13 C14 C15 C16 C17 C18 CL f0 f1 f2 f3 f4 f5 f6 f7 f8 f9 f10 f11 f12 f13 f14 f15 d0 d1 d2 d3 d4 d5 d6 d7 d8 d9 d10 d11 d12 d13 d14 d15) :
    FnOk P w K mg base CX0 1 f fd ["_law_made"] (spFields C0 C1 C2 C3 C4 C5 C6 C7 C8 C9 C10 C11 C12 C13 C14 C15) := by
  refine F.ok scFi (fun vs H Q E h => ?_) (fun cdv A outer s H vs Q E hr h => ?_)
  · obtain ⟨l, x, rfl, _⟩ := h
    rfl
  · obtain ⟨l, x, rfl, ⟨a0, a1, a2, a3, a4, a5, a6, a7, a8, a9, a10, a11, a12, a13, a14, a15, hl, ⟨d0, u0, v0⟩, ⟨d1, u1, v1⟩, ⟨d2, u2, v2⟩, ⟨d3, u3, v3⟩, ⟨d4, u4, v4⟩, ⟨d5, u5, v5⟩, ⟨d6, u6, v6⟩, ⟨d7, u7, v7⟩, ⟨d8, u8, v8⟩, ⟨d9, u9, v9⟩, ⟨d10, u10, v10⟩, ⟨d11, u11, v11⟩, ⟨d12, u12, v12⟩, ⟨d13, u13, v13⟩, ⟨d14, u14, v14⟩, ⟨d15, u15, v15⟩⟩, k⟩ := h
    have nd := scFi.nd
    refine ⟨_, (pss_cons (ps_set (i := 1) nd rfl (.inl rfl) (pe_lst (pa_cons (pe_exoF (pe_ix ixL (pv 0) pe_int (fun _ _ => rfl))) (pa_cons (pe_exoF (pe_ix ixL (pv 0) pe_int (fun _ _ => rfl))) (pa_cons (pe_exoF (pe_ix ixL (pv 0) pe_int (fun _ _ => rfl))) (pa_cons (pe_exoF (pe_ix ixL (pv 0) pe_int (fun _ _ => rfl))) (pa_cons (pe_exoF (pe_ix ixL (pv 0) pe_int (fun _ _ => rfl))) (pa_cons (pe_exoF (pe_ix ixL (pv 0) pe_int (fun _ _ => rfl))) (pa_cons (pe_exoF (pe_ix ixL (pv 0) pe_int (fun _ _ => rfl))) pa_nil)))))))))
      (pss_cons (ps_set (i := 1) nd rfl (.inl rfl) (pe_op op_cat (pv 1) (pe_lst (pa_cons (pe_exoF (pe_ix ixL (pv 0) pe_int (fun _ _ => rfl))) (pa_cons (pe_exoF (pe_ix ixL (pv 0) pe_int (fun _ _ => rfl))) (pa_cons (pe_exoF (pe_ix ixL (pv 0) pe_int (fun _ _ => rfl))) (pa_cons (pe_exoF (pe_ix ixL (pv 0) pe_int (fun _ _ => rfl))) (pa_cons (pe_exoF (pe_ix ixL (pv 0) pe_int (fun _ _ => rfl))) (pa_cons (pe_exoF (pe_ix ixL (pv 0) pe_int (fun _ _ => rfl))) pa_nil)))))))))
      (pss_one (ps_ret (pe_op op_cat (pv 1) (pe_lst (pa_cons (pe_exoF (pe_ix ixL (pv 0) pe_int (fun _ _ => rfl))) (pa_cons (pe_exoF (pe_ix ixL (pv 0) pe_int (fun _ _ => rfl))) (pa_cons (pe_exoF (pe_ix ixL (pv 0) pe_int (fun _ _ => rfl))) pa_nil))))))))), ?_⟩
    refine ⟨_, rfl, l, 0, _, _, rfl, rfl, hl, atI_nat (j := 0) rfl, a0, C0, d0, _, x, rfl, T.m0.ex, T.hd _ (by simp), T.m0.of.nof, u0, v0, rfl, _, rfl, l, 1, _, _, rfl, rfl, hl, atI_nat (j := 1) rfl, a1, C1, d1, _, x, rfl, T.m1.ex, T.hd _ (by simp), T.m1.of.nof, u1, v1, rfl, _, rfl, l, 2, _, _, rfl, rfl, hl, atI_nat (j := 2) rfl, a2, C2, d2, _, x, rfl, T.m2.ex, T.hd _ (by simp), T.m2.of.nof, u2, v2, rfl, _, rfl, l, 3, _, _, rfl, rfl, hl, atI_nat (j := 3) rfl, a3, C3, d3, _, x, rfl, T.m3.ex, T.hd _ (by simp), T.m3.of.nof, u3, v3, rfl, _, rfl, l, 4, _, _, rfl, rfl, hl, atI_nat (j := 4) rfl, a4, C4, d4, _, x, rfl, T.m4.ex, T.hd _ (by simp), T.m4.of.nof, u4, v4, rfl, _, rfl, l, 5, _, _, rfl, rfl, hl, atI_nat (j := 5) rfl, a5, C5, d5, _, x, rfl, T.m5.ex, T.hd _ (by simp), T.m5.of.nof, u5, v5, rfl, _, rfl, l, 6, _, _, rfl, rfl, hl, atI_nat (j := 6) rfl, a6, C6, d6, _, x, rfl, T.m6.ex, T.hd _ (by simp), T.m6.of.nof, u6, v6, rfl, by show 7 ≤ sizeLine; decide, fun p1 n1 => ?_⟩
    generalize hH1 : upd H p1 _ = H1
    have s1 : Same H H1 := by rw [← hH1]; exact same_upd n1
    have e1 := (congrFun hH1 p1).symm.trans upd_same
    have k1 : ∀ b, H1 b = none → H b = none ∧ b ≠ p1 := by rw [← hH1]; exact upd_none
    clear hH1
    refine ⟨_, rfl, _, rfl, l, 7, _, _, rfl, rfl, (s1 _ _ hl), atI_nat (j := 7) rfl, a7, C7, d7, _, x, rfl, T.m7.ex, T.hd _ (by simp), T.m7.of.nof, (s1 _ _ u7), (s1 _ _ v7), rfl, _, rfl, l, 8, _, _, rfl, rfl, (s1 _ _ hl), atI_nat (j := 8) rfl, a8, C8, d8, _, x, rfl, T.m8.ex, T.hd _ (by simp), T.m8.of.nof, (s1 _ _ u8), (s1 _ _ v8), rfl, _, rfl, l, 9, _, _, rfl, rfl, (s1 _ _ hl), atI_nat (j := 9) rfl, a9, C9, d9, _, x, rfl, T.m9.ex, T.hd _ (by simp), T.m9.of.nof, (s1 _ _ u9), (s1 _ _ v9), rfl, _, rfl, l, 10, _, _, rfl, rfl, (s1 _ _ hl), atI_nat (j := 10) rfl, a10, C10, d10, _, x, rfl, T.m10.ex, T.hd _ (by simp), T.m10.of.nof, (s1 _ _ u10), (s1 _ _ v10), rfl, _, rfl, l, 11, _, _, rfl, rfl, (s1 _ _ hl), atI_nat (j := 11) rfl, a11, C11, d11, _, x, rfl, T.m11.ex, T.hd _ (by simp), T.m11.of.nof, (s1 _ _ u11), (s1 _ _ v11), rfl, _, rfl, l, 12, _, _, rfl, rfl, (s1 _ _ hl), atI_nat (j := 12) rfl, a12, C12, d12, _, x, rfl, T.m12.ex, T.hd _ (by simp), T.m12.of.nof, (s1 _ _ u12), (s1 _ _ v12), rfl, by show 6 ≤ sizeLine; decide, fun p2 n2 => ?_⟩
    generalize hH2 : upd H1 p2 _ = H2
    have s2 : Same H1 H2 := by rw [← hH2]; exact same_upd n2
    have e2 := (congrFun hH2 p2).symm.trans upd_same
    have k2 : ∀ b, H2 b = none → H1 b = none ∧ b ≠ p2 := by rw [← hH2]; exact upd_none
    clear hH2
    refine ⟨p1, p2, _, _, rfl, rfl, s2 _ _ e1, e2, by show 7 + 6 ≤ sizeLine; decide, fun p3 n3 => ?_⟩
    generalize hH3 : upd H2 p3 _ = H3
    have s3 : Same H2 H3 := by rw [← hH3]; exact same_upd n3
    have e3 := (congrFun hH3 p3).symm.trans upd_same
    have k3 : ∀ b, H3 b = none → H2 b = none ∧ b ≠ p3 := by rw [← hH3]; exact upd_none
    clear hH3
    refine ⟨_, rfl, _, rfl, l, 13, _, _, rfl, rfl, (s3 _ _ (s2 _ _ (s1 _ _ hl))), atI_nat (j := 13) rfl, a13, C13, d13, _, x, rfl, T.m13.ex, T.hd _ (by simp), T.m13.of.nof, (s3 _ _ (s2 _ _ (s1 _ _ u13))), (s3 _ _ (s2 _ _ (s1 _ _ v13))), rfl, _, rfl, l, 14, _, _, rfl, rfl, (s3 _ _ (s2 _ _ (s1 _ _ hl))), atI_nat (j := 14) rfl, a14, C14, d14, _, x, rfl, T.m14.ex, T.hd _ (by simp), T.m14.of.nof, (s3 _ _ (s2 _ _ (s1 _ _ u14))), (s3 _ _ (s2 _ _ (s1 _ _ v14))), rfl, _, rfl, l, 15, _, _, rfl, rfl, (s3 _ _ (s2 _ _ (s1 _ _ hl))), atI_nat (j := 15) rfl, a15, C15, d15, _, x, rfl, T.m15.ex, T.hd _ (by simp), T.m15.of.nof, (s3 _ _ (s2 _ _ (s1 _ _ u15))), (s3 _ _ (s2 _ _ (s1 _ _ v15))), rfl, by show 3 ≤ sizeLine; decide, fun p4 n4 => ?_⟩
    generalize hH4 : upd H3 p4 _ = H4
    have s4 : Same H3 H4 := by rw [← hH4]; exact same_upd n4
    have e4 := (congrFun hH4 p4).symm.trans upd_same
    have k4 : ∀ b, H4 b = none → H3 b = none ∧ b ≠ p4 := by rw [← hH4]; exact upd_none
    clear hH4
    refine ⟨p3, p4, _, _, rfl, rfl, s4 _ _ e3, e4, by show 13 + 3 ≤ sizeLine; decide, fun p5 n5 => ?_⟩
    generalize hH5 : upd H4 p5 _ = H5
    have s5 : Same H4 H5 := by rw [← hH5]; exact same_upd n5
    have e5 := (congrFun hH5 p5).symm.trans upd_same
    have k5 : ∀ b, H5 b = none → H4 b = none ∧ b ≠ p5 := by rw [← hH5]; exact upd_none
    clear hH5
    refine k H5 p5 ((((s1.trans s2).trans s3).trans s4).trans s5) ?_ e5
    exact (k1 _ (k2 _ (k3 _ (k4 _ n5).1).1).1).1
/-! ### the law -/
theorem scLa : FnScope ["_law_script", "_law_source_here", "_law_x", "_law_errors", "_law_others", "_law_k", "_law_base", "_law_j"] ["_law_script"] (defScope sLaw) := ⟨rfl, rfl, rfl, by decide +kernel, rfl, by decide +kernel, by decide +kernel⟩
def spLaw (K : PySem.W.Frag) : Sp := fun vs H Q _ => ∃ (a : Addr) (ns : List Int), vs = [.ref a] ∧ SqL K H a (ns.map V.int) ∧ ∀ H', Q (.bl true) H'
theorem fat_new {H : Hp} {a d C : Addr} {f : Str} {x : V} (ne : d ≠ a) : FAt (upd (upd H d (exd d [(f, x)])) a (exo a C (some d))) a C f x :=
  ⟨d, upd_same, by rw [upd_ne ne]; exact upd_same⟩
theorem FAt.ex {H : Hp} {a C : Addr} {f : Str} {x : V} (h : FAt H a C f x) (T : ExcF K C) : ExAt K H a C := by
  obtain ⟨d, h1, h2⟩ := h
  exact ⟨T, .inl ⟨d, _, h1, h2⟩⟩
theorem ok_law {f fS fD fP fK fF : Addr} {fd fdS fdD fdP fdK fdF : FuncData} (F : Fun K "law" "law" sLaw f fd) (T : Txt P K mg C0 C1 C2 C3 C4 C5 C6 C7 C8 C9 C10 C11 C12 C13 C14 C15 C16 C17 C18 CL f0 f1 f2 f3 f4 f5 f6 f7 f8 f9 f10 f11 f12 f13 f14 f15 d0 d1 d2 d3 d4 d5 d6 d7 d8 d9 d10 d11 d12 d13 d14 d15)
    (FS : Fun K "_law_source" "_law_source" sSource fS fdS) (FD : Fun K "_law_draw" "_law_draw" sDraw fD fdD) (FP : Fun K "_law_pick" "_law_pick" sPick fP fdP) (FK : Fun K "_law_kinds" "_law_kinds" sKinds fK fdK) (FF : Fun K "_law_fields" "_law_fields" sFields fF fdF)
    (bS : Binds K fdS ["_law_script"] []) (bD : Binds K fdD ["_law_source_here", "_law_many"] []) (bP : Binds K fdP ["_law_source_here", "_law_things"] []) (bK : Binds K fdK ["_law_e"] []) (bF : Binds K fdF ["_law_made"] [])
    (gS : mg "_law_source" = some (.ref fS)) (gD : mg "_law_draw" = some (.ref fD)) (gP : mg "_law_pick" = some (.ref fP)) (gK : mg "_law_kinds" = some (.ref fK)) (gF : mg "_law_fields" = some (.ref fF))
    (mI : mg "int" = none) (mV : mg "ValueError" = none) : FnOk P w K mg base CX0 3 f fd ["_law_script"] (spLaw K) := by
  have GS := ok_source (P := P) (w := w) (base := base) FS mI
  have GD := ok_draw (P := P) (w := w) (base := base) FD mI
  have GP := ok_pick (P := P) (w := w) (base := base) FP GD gD FD.kp bD T.len
  have GK := ok_kinds (P := P) (w := w) (base := base) FK T
  have GF := ok_fields (P := P) (w := w) (base := base) FF T
  refine F.ok scLa (fun vs H Q E h => ?_) (fun cdv A outer s H vs Q E hr h => ?_)
  · obtain ⟨a, ns, rfl, _⟩ := h
    rfl
  · obtain ⟨a, ns, rfl, hS, k⟩ := h
    have nd := scLa.nd
    have hr1 : Room 1 _ := hr.mono (by decide)
    have hokQ : ∀ C c b, (C ∈ [C0, C1, C2, C3, C4, C5, C6, C7, C8, C9, C10, C11, C12, C13, C14, C15, C16, C17, C18, CL] ∧ ((c = V.ref CL ∧ b = true) ∨ (c = V.ty "ValueError" ∧ b = true))) → ∃ cv, ClsV c cv ∧ PySem.W.kitOne K (.ref C) cv = some b := by
      rintro C c b ⟨hC, ⟨rfl, rfl⟩ | ⟨rfl, rfl⟩⟩
      · exact ⟨_, .own CL, (T.kit C hC).root⟩
      · exact ⟨_, .ty _, (T.kit C hC).ve⟩
    refine ⟨_, (pss_cons (ps_set (i := 1) nd rfl (.inl rfl) (pe_call GS hr1 rfl gS FS.kp bS .nil pass0 (pa_cons (pv 0) pa_nil)))
      (pss_cons (ps_set (i := 2) nd rfl (.inl rfl) (pe_call GP hr rfl gP FP.kp bP .nil pass0 (pa_cons (pv 1) (pa_cons (pe_lst (pa_cons pe_non (pa_cons pe_int (pa_cons pe_str (pa_cons (pe_tup (pa_cons pe_str (pa_cons pe_int pa_nil))) (pa_cons (pe_lst (pa_cons pe_str pa_nil)) (pa_cons pe_dnewK (pa_cons (pe_op op_powW (pe_op op_powW (pe_op op_powW pe_int pe_int) pe_int) pe_int) (pa_cons pe_bl pa_nil))))))))) pa_nil))))
      (pss_cons (ps_set (i := 3) nd rfl (.inl rfl) (pe_lst (pa_cons (pe_excK T.m0 hr1 rfl (pv 2)) (pa_cons (pe_excK T.m1 hr1 rfl (pv 2)) (pa_cons (pe_excK T.m2 hr1 rfl (pv 2)) (pa_cons (pe_excK T.m3 hr1 rfl (pv 2)) (pa_cons (pe_excK T.m4 hr1 rfl (pv 2)) pa_nil)))))))
      (pss_cons (ps_set (i := 3) nd rfl (.inl rfl) (pe_op op_cat (pv 3) (pe_lst (pa_cons (pe_excK T.m5 hr1 rfl (pv 2)) (pa_cons (pe_excK T.m6 hr1 rfl (pv 2)) (pa_cons (pe_excK T.m7 hr1 rfl (pv 2)) (pa_cons (pe_excK T.m8 hr1 rfl (pv 2)) (pa_cons (pe_excK T.m9 hr1 rfl (pv 2)) pa_nil))))))))
      (pss_cons (ps_set (i := 3) nd rfl (.inl rfl) (pe_op op_cat (pv 3) (pe_lst (pa_cons (pe_excK T.m10 hr1 rfl (pv 2)) (pa_cons (pe_excK T.m11 hr1 rfl (pv 2)) (pa_cons (pe_excK T.m12 hr1 rfl (pv 2)) (pa_cons (pe_excK T.m13 hr1 rfl (pv 2)) (pa_cons (pe_excK T.m14 hr1 rfl (pv 2)) pa_nil))))))))
      (pss_cons (ps_set (i := 3) nd rfl (.inl rfl) (pe_op op_cat (pv 3) (pe_lst (pa_cons (pe_excK T.m15 hr1 rfl (pv 2)) pa_nil))))
      (pss_cons (ps_set (i := 4) nd rfl (.inl rfl) (pe_lst (pa_cons (pe_excV T.m0 hr1 rfl (pv 2)) (pa_cons (pe_excV T.m1 hr1 rfl (pv 2)) (pa_cons (pe_excV T.m2 hr1 rfl (pv 2)) (pa_cons (pe_excV T.m3 hr1 rfl (pv 2)) (pa_cons (pe_excV T.m4 hr1 rfl (pv 2)) (pa_cons (pe_excV T.m5 hr1 rfl (pv 2)) (pa_cons (pe_excV T.m6 hr1 rfl (pv 2)) (pa_cons (pe_excV T.m7 hr1 rfl (pv 2)) pa_nil))))))))))
      (pss_cons (ps_set (i := 4) nd rfl (.inl rfl) (pe_op op_cat (pv 4) (pe_lst (pa_cons (pe_excV T.m8 hr1 rfl (pv 2)) (pa_cons (pe_excV T.m9 hr1 rfl (pv 2)) (pa_cons (pe_excV T.m10 hr1 rfl (pv 2)) (pa_cons (pe_excV T.m11 hr1 rfl (pv 2)) (pa_cons (pe_excV T.m12 hr1 rfl (pv 2)) (pa_cons (pe_excV T.m13 hr1 rfl (pv 2)) (pa_cons (pe_excV T.m14 hr1 rfl (pv 2)) pa_nil))))))))))
      (pss_cons (ps_set (i := 4) nd rfl (.inl rfl) (pe_op op_cat (pv 4) (pe_lst (pa_cons (pe_excV T.m15 hr1 rfl (pv 2)) pa_nil))))
      (pss_cons (ps_if (PW.pt (pw_or (pt_cmpR (op_neSame hr.units0) (pe_call GF hr1 rfl gF FF.kp bF .nil pass0 (pa_cons (pv 3) pa_nil)) (pe_op op_rep (pe_lst (pa_cons (pv 2) pa_nil)) pe_int) (nomark _)) (pw_or1 (pt_cmpR (op_neSame hr.units0) (pe_call GF hr1 rfl gF FF.kp bF .nil pass0 (pa_cons (pv 4) pa_nil)) (pe_op op_rep (pe_lst (pa_cons (pv 2) pa_nil)) pe_int) (nomark _))))) (pss_one (ps_ret pe_bl)) pss_nil)
      (pss_cons (ps_set (i := 3) nd rfl (.inl rfl) (pe_op op_cat (pv 3) (pe_lst (pa_cons (pe_exc0 PySem.F.excBase_ValueError T.b16.q T.b16.at_ T.b16.kp rfl) (pa_cons (pe_exc0 PySem.F.excBase_ValueError T.b17.q T.b17.at_ T.b17.kp rfl) (pa_cons (pe_exc0 PySem.F.excBase_ValueError T.b18.q T.b18.at_ T.b18.kp rfl) pa_nil))))))
      (pss_cons (ps_for PassesOwn.never rfl (pi_range1 rfl T.range (pa_cons (pe_callB lenL (by rfl) T.len PySem.boot_len (pa_cons (pv 3) pa_nil)) pa_nil)) (pg_name (i := 5) nd rfl (Or.inr rfl)) (pss_cons (ps_if (PW.pt (pw_or (pt_not (pt_val (pe_callB (call_isQ hokQ) (by rfl) T.is (by decide +kernel) (pa_cons (pe_ix ixL (pv 3) (pv 5) (fun _ _ => rfl)) (pa_cons (pe_gref (by rfl) T.bL.at_) pa_nil))))) (pw_or1 (pt_not (pt_val (pe_callB (call_isQ hokQ) (by rfl) T.is (by decide +kernel) (pa_cons (pe_ix ixL (pv 3) (pv 5) (fun _ _ => rfl)) (pa_cons (pe_bltn (v := V.ty "ValueError") (by rfl) mV (by decide +kernel) rfl) pa_nil)))))))) (pss_one (ps_ret pe_bl)) pss_nil)
      (pss_one (ps_if (pt_cmpR (op_neSame hr.units0) (pe_call GK hr1 rfl gK FK.kp bK .nil pass0 (pa_cons (pe_ix ixL (pv 3) (pv 5) (fun _ _ => rfl)) pa_nil)) (pe_lc (own := [("_law_j", 7)]) (g := gName 7) (tt := tYes) rfl nd (pi_range1 rfl T.range (pa_cons (pe_callB lenL (by rfl) T.len PySem.boot_len (pa_cons (pv 3) pa_nil)) pa_nil)) (blkOk_by (own := [("_law_j", 7)]) (N := ["_law_script", "_law_source_here", "_law_x", "_law_errors", "_law_others", "_law_k", "_law_base", "_law_j"]) (sc := defScope sLaw) (by decide +kernel)) (fun _ _ _ _ _ => pg_name (i := 7) nd rfl (Or.inl rfl)) (fun _ _ _ _ _ => pts_nil) (fun _ _ _ _ _ => pe_cmpR op_eq (pv 5) (pv 7) (nomark _))) (nomark _)) (pss_one (ps_ret pe_bl)) pss_nil))))
      (pss_cons (ps_set (i := 6) nd rfl (.inl rfl) (pe_exc1 PySem.F.excBase_ValueError T.bL.q T.bL.at_ T.bL.kp rfl pe_str))
      (pss_one (ps_ret (pe_and (pe_callB (call_isQ hokQ) (by rfl) T.is (by decide +kernel) (pa_cons (pv 6) (pa_cons (pe_bltn (v := V.ty "ValueError") (by rfl) mV (by decide +kernel) rfl) pa_nil))) (pe_one (pe_not (pe_callB (cr_any rfl) (by rfl) T.any (by decide +kernel) (pa_cons (pe_call GK hr1 rfl gK FK.kp bK .nil pass0 (pa_cons (pv 6) pa_nil)) pa_nil)))))))))))))))))))), ?_⟩
    refine ⟨_, rfl, a, ns, rfl, hS, fun H1 ps o s1 n1 e1 ho => ?_⟩
    refine ⟨_, rfl, by show 2 ≤ sizeLine; decide, fun t2 m2 => ?_⟩
    generalize hH2 : upd H1 t2 _ = H2
    have s2 : Same H1 H2 := by rw [← hH2]; exact same_upd m2
    have e2 := (congrFun hH2 t2).symm.trans upd_same
    have k2 : ∀ b, H2 b = none → H1 b = none ∧ b ≠ t2 := by rw [← hH2]; exact upd_none
    clear hH2
    refine ⟨by show 1 ≤ sizeLine; decide, fun t3 m3 => ?_⟩
    generalize hH3 : upd H2 t3 _ = H3
    have s3 : Same H2 H3 := by rw [← hH3]; exact same_upd m3
    have e3 := (congrFun hH3 t3).symm.trans upd_same
    have k3 : ∀ b, H3 b = none → H2 b = none ∧ b ≠ t3 := by rw [← hH3]; exact upd_none
    clear hH3
    refine fun t4 m4 => ?_
    generalize hH4 : upd H3 t4 _ = H4
    have s4 : Same H3 H4 := by rw [← hH4]; exact same_upd m4
    have e4 := (congrFun hH4 t4).symm.trans upd_same
    have k4 : ∀ b, H4 b = none → H3 b = none ∧ b ≠ t4 := by rw [← hH4]; exact upd_none
    clear hH4
    refine ⟨_, _, rfl, rfl, ⟨by decide, by decide⟩, _, _, rfl, rfl, ⟨by decide, by decide +kernel⟩, _, _, rfl, rfl, ⟨by decide, by decide +kernel⟩, by show 8 ≤ sizeLine; decide, fun t5 m5 => ?_⟩
    generalize hH5 : upd H4 t5 _ = H5
    have s5 : Same H4 H5 := by rw [← hH5]; exact same_upd m5
    have e5 := (congrFun hH5 t5).symm.trans upd_same
    have k5 : ∀ b, H5 b = none → H4 b = none ∧ b ≠ t5 := by rw [← hH5]; exact upd_none
    clear hH5
    have ps5 := s5 _ _ (s4 _ _ (s3 _ _ (s2 _ _ e1)))
    have np5 : ps ≠ t5 := ne_of_none (s4 _ _ (s3 _ _ (s2 _ _ e1))) m5
    refine ⟨ps, t5, o, 0, _, rfl, ps5, ho, by decide, e5, by simp, by show 8 < 1000; decide, np5, fun x o6 hx ho6 => ?_⟩
    have hx : SameV x := by
      simp only [List.mem_cons, List.not_mem_nil, or_false] at hx
      rcases hx with rfl | rfl | rfl | rfl | rfl | rfl | rfl | rfl
      · exact .inl rfl
      · exact .inl rfl
      · exact .inl rfl
      · exact .inr ⟨_, rfl⟩
      · exact .inr ⟨_, rfl⟩
      · exact .inr ⟨_, rfl⟩
      · exact .inl rfl
      · exact .inl rfl
    generalize upd H5 ps o6 = G0
    clear ps5 np5 e5 e4 e3 e2 s5 s4 s3 s2 k5 k4 k3 k2
    refine ⟨_, rfl, fun x0 dx0 u1 u2 u3 => ?_⟩
    generalize hG1 : upd (upd G0 dx0 _) x0 _ = G1
    have r1 : Same G0 G1 := by rw [← hG1]; exact same_upd2 u1 u2
    have wx0 : FAt G1 x0 C0 "number" x := by rw [← hG1]; exact fat_new u3
    clear hG1
    clear u1 u2 u3
    refine ⟨_, rfl, fun x1 dx1 u1 u2 u3 => ?_⟩
    generalize hG2 : upd (upd G1 dx1 _) x1 _ = G2
    have r2 : Same G1 G2 := by rw [← hG2]; exact same_upd2 u1 u2
    have wx1 : FAt G2 x1 C1 "row" x := by rw [← hG2]; exact fat_new u3
    clear hG2
    clear u1 u2 u3
    refine ⟨_, rfl, fun x2 dx2 u1 u2 u3 => ?_⟩
    generalize hG3 : upd (upd G2 dx2 _) x2 _ = G3
    have r3 : Same G2 G3 := by rw [← hG3]; exact same_upd2 u1 u2
    have wx2 : FAt G3 x2 C2 "place" x := by rw [← hG3]; exact fat_new u3
    clear hG3
    clear u1 u2 u3
    refine ⟨_, rfl, fun x3 dx3 u1 u2 u3 => ?_⟩
    generalize hG4 : upd (upd G3 dx3 _) x3 _ = G4
    have r4 : Same G3 G4 := by rw [← hG4]; exact same_upd2 u1 u2
    have wx3 : FAt G4 x3 C3 "count" x := by rw [← hG4]; exact fat_new u3
    clear hG4
    clear u1 u2 u3
    refine ⟨_, rfl, fun x4 dx4 u1 u2 u3 => ?_⟩
    generalize hG5 : upd (upd G4 dx4 _) x4 _ = G5
    have r5 : Same G4 G5 := by rw [← hG5]; exact same_upd2 u1 u2
    have wx4 : FAt G5 x4 C4 "place" x := by rw [← hG5]; exact fat_new u3
    clear hG5
    clear u1 u2 u3
    refine ⟨by show 5 ≤ sizeLine; decide, fun El0 u1 => ?_⟩
    generalize hG6 : upd G5 El0 _ = G6
    have r6 : Same G5 G6 := by rw [← hG6]; exact same_upd u1
    have wEl0 := (congrFun hG6 El0).symm.trans upd_same
    clear hG6
    clear u1
    refine ⟨_, rfl, _, rfl, fun x5 dx5 u1 u2 u3 => ?_⟩
    generalize hG7 : upd (upd G6 dx5 _) x5 _ = G7
    have r7 : Same G6 G7 := by rw [← hG7]; exact same_upd2 u1 u2
    have wx5 : FAt G7 x5 C5 "place" x := by rw [← hG7]; exact fat_new u3
    clear hG7
    clear u1 u2 u3
    refine ⟨_, rfl, fun x6 dx6 u1 u2 u3 => ?_⟩
    generalize hG8 : upd (upd G7 dx6 _) x6 _ = G8
    have r8 : Same G7 G8 := by rw [← hG8]; exact same_upd2 u1 u2
    have wx6 : FAt G8 x6 C6 "place" x := by rw [← hG8]; exact fat_new u3
    clear hG8
    clear u1 u2 u3
    refine ⟨_, rfl, fun x7 dx7 u1 u2 u3 => ?_⟩
    generalize hG9 : upd (upd G8 dx7 _) x7 _ = G9
    have r9 : Same G8 G9 := by rw [← hG9]; exact same_upd2 u1 u2
    have wx7 : FAt G9 x7 C7 "lot" x := by rw [← hG9]; exact fat_new u3
    clear hG9
    clear u1 u2 u3
    refine ⟨_, rfl, fun x8 dx8 u1 u2 u3 => ?_⟩
    generalize hG10 : upd (upd G9 dx8 _) x8 _ = G10
    have r10 : Same G9 G10 := by rw [← hG10]; exact same_upd2 u1 u2
    have wx8 : FAt G10 x8 C8 "row" x := by rw [← hG10]; exact fat_new u3
    clear hG10
    clear u1 u2 u3
    refine ⟨_, rfl, fun x9 dx9 u1 u2 u3 => ?_⟩
    generalize hG11 : upd (upd G10 dx9 _) x9 _ = G11
    have r11 : Same G10 G11 := by rw [← hG11]; exact same_upd2 u1 u2
    have wx9 : FAt G11 x9 C9 "line" x := by rw [← hG11]; exact fat_new u3
    clear hG11
    clear u1 u2 u3
    refine ⟨by show 5 ≤ sizeLine; decide, fun El1 u1 => ?_⟩
    generalize hG12 : upd G11 El1 _ = G12
    have r12 : Same G11 G12 := by rw [← hG12]; exact same_upd u1
    have wEl1 := (congrFun hG12 El1).symm.trans upd_same
    clear hG12
    clear u1
    refine ⟨El0, El1, _, _, rfl, rfl, (r12 _ _ (r11 _ _ (r10 _ _ (r9 _ _ (r8 _ _ (r7 _ _ wEl0)))))), wEl1, by show 5 + 5 ≤ sizeLine; decide, fun Ec1 u1 => ?_⟩
    generalize hG13 : upd G12 Ec1 _ = G13
    have r13 : Same G12 G13 := by rw [← hG13]; exact same_upd u1
    have wEc1 := (congrFun hG13 Ec1).symm.trans upd_same
    clear hG13
    clear u1
    refine ⟨_, rfl, _, rfl, fun x10 dx10 u1 u2 u3 => ?_⟩
    generalize hG14 : upd (upd G13 dx10 _) x10 _ = G14
    have r14 : Same G13 G14 := by rw [← hG14]; exact same_upd2 u1 u2
    have wx10 : FAt G14 x10 C10 "lot" x := by rw [← hG14]; exact fat_new u3
    clear hG14
    clear u1 u2 u3
    refine ⟨_, rfl, fun x11 dx11 u1 u2 u3 => ?_⟩
    generalize hG15 : upd (upd G14 dx11 _) x11 _ = G15
    have r15 : Same G14 G15 := by rw [← hG15]; exact same_upd2 u1 u2
    have wx11 : FAt G15 x11 C11 "index" x := by rw [← hG15]; exact fat_new u3
    clear hG15
    clear u1 u2 u3
    refine ⟨_, rfl, fun x12 dx12 u1 u2 u3 => ?_⟩
    generalize hG16 : upd (upd G15 dx12 _) x12 _ = G16
    have r16 : Same G15 G16 := by rw [← hG16]; exact same_upd2 u1 u2
    have wx12 : FAt G16 x12 C12 "index" x := by rw [← hG16]; exact fat_new u3
    clear hG16
    clear u1 u2 u3
    refine ⟨_, rfl, fun x13 dx13 u1 u2 u3 => ?_⟩
    generalize hG17 : upd (upd G16 dx13 _) x13 _ = G17
    have r17 : Same G16 G17 := by rw [← hG17]; exact same_upd2 u1 u2
    have wx13 : FAt G17 x13 C13 "index" x := by rw [← hG17]; exact fat_new u3
    clear hG17
    clear u1 u2 u3
    refine ⟨_, rfl, fun x14 dx14 u1 u2 u3 => ?_⟩
    generalize hG18 : upd (upd G17 dx14 _) x14 _ = G18
    have r18 : Same G17 G18 := by rw [← hG18]; exact same_upd2 u1 u2
    have wx14 : FAt G18 x14 C14 "number" x := by rw [← hG18]; exact fat_new u3
    clear hG18
    clear u1 u2 u3
    refine ⟨by show 5 ≤ sizeLine; decide, fun El2 u1 => ?_⟩
    generalize hG19 : upd G18 El2 _ = G19
    have r19 : Same G18 G19 := by rw [← hG19]; exact same_upd u1
    have wEl2 := (congrFun hG19 El2).symm.trans upd_same
    clear hG19
    clear u1
    refine ⟨Ec1, El2, _, _, rfl, rfl, (r19 _ _ (r18 _ _ (r17 _ _ (r16 _ _ (r15 _ _ (r14 _ _ wEc1)))))), wEl2, by show 10 + 5 ≤ sizeLine; decide, fun Ec2 u1 => ?_⟩
    generalize hG20 : upd G19 Ec2 _ = G20
    have r20 : Same G19 G20 := by rw [← hG20]; exact same_upd u1
    have wEc2 := (congrFun hG20 Ec2).symm.trans upd_same
    clear hG20
    clear u1
    refine ⟨_, rfl, _, rfl, fun x15 dx15 u1 u2 u3 => ?_⟩
    generalize hG21 : upd (upd G20 dx15 _) x15 _ = G21
    have r21 : Same G20 G21 := by rw [← hG21]; exact same_upd2 u1 u2
    have wx15 : FAt G21 x15 C15 "prime" x := by rw [← hG21]; exact fat_new u3
    clear hG21
    clear u1 u2 u3
    refine ⟨by show 1 ≤ sizeLine; decide, fun El3 u1 => ?_⟩
    generalize hG22 : upd G21 El3 _ = G22
    have r22 : Same G21 G22 := by rw [← hG22]; exact same_upd u1
    have wEl3 := (congrFun hG22 El3).symm.trans upd_same
    clear hG22
    clear u1
    refine ⟨Ec2, El3, _, _, rfl, rfl, (r22 _ _ (r21 _ _ wEc2)), wEl3, by show 15 + 1 ≤ sizeLine; decide, fun Ec3 u1 => ?_⟩
    generalize hG23 : upd G22 Ec3 _ = G23
    have r23 : Same G22 G23 := by rw [← hG23]; exact same_upd u1
    have wEc3 := (congrFun hG23 Ec3).symm.trans upd_same
    clear hG23
    clear u1
    refine ⟨_, rfl, fun y0 dy0 u1 u2 u3 => ?_⟩
    generalize hG24 : upd (upd G23 dy0 _) y0 _ = G24
    have r24 : Same G23 G24 := by rw [← hG24]; exact same_upd2 u1 u2
    have wy0 : FAt G24 y0 C0 "number" x := by rw [← hG24]; exact fat_new u3
    clear hG24
    clear u1 u2 u3
    refine ⟨_, rfl, fun y1 dy1 u1 u2 u3 => ?_⟩
    generalize hG25 : upd (upd G24 dy1 _) y1 _ = G25
    have r25 : Same G24 G25 := by rw [← hG25]; exact same_upd2 u1 u2
    have wy1 : FAt G25 y1 C1 "row" x := by rw [← hG25]; exact fat_new u3
    clear hG25
    clear u1 u2 u3
    refine ⟨_, rfl, fun y2 dy2 u1 u2 u3 => ?_⟩
    generalize hG26 : upd (upd G25 dy2 _) y2 _ = G26
    have r26 : Same G25 G26 := by rw [← hG26]; exact same_upd2 u1 u2
    have wy2 : FAt G26 y2 C2 "place" x := by rw [← hG26]; exact fat_new u3
    clear hG26
    clear u1 u2 u3
    refine ⟨_, rfl, fun y3 dy3 u1 u2 u3 => ?_⟩
    generalize hG27 : upd (upd G26 dy3 _) y3 _ = G27
    have r27 : Same G26 G27 := by rw [← hG27]; exact same_upd2 u1 u2
    have wy3 : FAt G27 y3 C3 "count" x := by rw [← hG27]; exact fat_new u3
    clear hG27
    clear u1 u2 u3
    refine ⟨_, rfl, fun y4 dy4 u1 u2 u3 => ?_⟩
    generalize hG28 : upd (upd G27 dy4 _) y4 _ = G28
    have r28 : Same G27 G28 := by rw [← hG28]; exact same_upd2 u1 u2
    have wy4 : FAt G28 y4 C4 "place" x := by rw [← hG28]; exact fat_new u3
    clear hG28
    clear u1 u2 u3
    refine ⟨_, rfl, fun y5 dy5 u1 u2 u3 => ?_⟩
    generalize hG29 : upd (upd G28 dy5 _) y5 _ = G29
    have r29 : Same G28 G29 := by rw [← hG29]; exact same_upd2 u1 u2
    have wy5 : FAt G29 y5 C5 "place" x := by rw [← hG29]; exact fat_new u3
    clear hG29
    clear u1 u2 u3
    refine ⟨_, rfl, fun y6 dy6 u1 u2 u3 => ?_⟩
    generalize hG30 : upd (upd G29 dy6 _) y6 _ = G30
    have r30 : Same G29 G30 := by rw [← hG30]; exact same_upd2 u1 u2
    have wy6 : FAt G30 y6 C6 "place" x := by rw [← hG30]; exact fat_new u3
    clear hG30
    clear u1 u2 u3
    refine ⟨_, rfl, fun y7 dy7 u1 u2 u3 => ?_⟩
    generalize hG31 : upd (upd G30 dy7 _) y7 _ = G31
    have r31 : Same G30 G31 := by rw [← hG31]; exact same_upd2 u1 u2
    have wy7 : FAt G31 y7 C7 "lot" x := by rw [← hG31]; exact fat_new u3
    clear hG31
    clear u1 u2 u3
    refine ⟨by show 8 ≤ sizeLine; decide, fun Ol0 u1 => ?_⟩
    generalize hG32 : upd G31 Ol0 _ = G32
    have r32 : Same G31 G32 := by rw [← hG32]; exact same_upd u1
    have wOl0 := (congrFun hG32 Ol0).symm.trans upd_same
    clear hG32
    clear u1
    refine ⟨_, rfl, _, rfl, fun y8 dy8 u1 u2 u3 => ?_⟩
    generalize hG33 : upd (upd G32 dy8 _) y8 _ = G33
    have r33 : Same G32 G33 := by rw [← hG33]; exact same_upd2 u1 u2
    have wy8 : FAt G33 y8 C8 "row" x := by rw [← hG33]; exact fat_new u3
    clear hG33
    clear u1 u2 u3
    refine ⟨_, rfl, fun y9 dy9 u1 u2 u3 => ?_⟩
    generalize hG34 : upd (upd G33 dy9 _) y9 _ = G34
    have r34 : Same G33 G34 := by rw [← hG34]; exact same_upd2 u1 u2
    have wy9 : FAt G34 y9 C9 "line" x := by rw [← hG34]; exact fat_new u3
    clear hG34
    clear u1 u2 u3
    refine ⟨_, rfl, fun y10 dy10 u1 u2 u3 => ?_⟩
    generalize hG35 : upd (upd G34 dy10 _) y10 _ = G35
    have r35 : Same G34 G35 := by rw [← hG35]; exact same_upd2 u1 u2
    have wy10 : FAt G35 y10 C10 "lot" x := by rw [← hG35]; exact fat_new u3
    clear hG35
    clear u1 u2 u3
    refine ⟨_, rfl, fun y11 dy11 u1 u2 u3 => ?_⟩
    generalize hG36 : upd (upd G35 dy11 _) y11 _ = G36
    have r36 : Same G35 G36 := by rw [← hG36]; exact same_upd2 u1 u2
    have wy11 : FAt G36 y11 C11 "index" x := by rw [← hG36]; exact fat_new u3
    clear hG36
    clear u1 u2 u3
    refine ⟨_, rfl, fun y12 dy12 u1 u2 u3 => ?_⟩
    generalize hG37 : upd (upd G36 dy12 _) y12 _ = G37
    have r37 : Same G36 G37 := by rw [← hG37]; exact same_upd2 u1 u2
    have wy12 : FAt G37 y12 C12 "index" x := by rw [← hG37]; exact fat_new u3
    clear hG37
    clear u1 u2 u3
    refine ⟨_, rfl, fun y13 dy13 u1 u2 u3 => ?_⟩
    generalize hG38 : upd (upd G37 dy13 _) y13 _ = G38
    have r38 : Same G37 G38 := by rw [← hG38]; exact same_upd2 u1 u2
    have wy13 : FAt G38 y13 C13 "index" x := by rw [← hG38]; exact fat_new u3
    clear hG38
    clear u1 u2 u3
    refine ⟨_, rfl, fun y14 dy14 u1 u2 u3 => ?_⟩
    generalize hG39 : upd (upd G38 dy14 _) y14 _ = G39
    have r39 : Same G38 G39 := by rw [← hG39]; exact same_upd2 u1 u2
    have wy14 : FAt G39 y14 C14 "number" x := by rw [← hG39]; exact fat_new u3
    clear hG39
    clear u1 u2 u3
    refine ⟨by show 7 ≤ sizeLine; decide, fun Ol1 u1 => ?_⟩
    generalize hG40 : upd G39 Ol1 _ = G40
    have r40 : Same G39 G40 := by rw [← hG40]; exact same_upd u1
    have wOl1 := (congrFun hG40 Ol1).symm.trans upd_same
    clear hG40
    clear u1
    refine ⟨Ol0, Ol1, _, _, rfl, rfl, (r40 _ _ (r39 _ _ (r38 _ _ (r37 _ _ (r36 _ _ (r35 _ _ (r34 _ _ (r33 _ _ wOl0)))))))), wOl1, by show 8 + 7 ≤ sizeLine; decide, fun Oc1 u1 => ?_⟩
    generalize hG41 : upd G40 Oc1 _ = G41
    have r41 : Same G40 G41 := by rw [← hG41]; exact same_upd u1
    have wOc1 := (congrFun hG41 Oc1).symm.trans upd_same
    clear hG41
    clear u1
    refine ⟨_, rfl, _, rfl, fun y15 dy15 u1 u2 u3 => ?_⟩
    generalize hG42 : upd (upd G41 dy15 _) y15 _ = G42
    have r42 : Same G41 G42 := by rw [← hG42]; exact same_upd2 u1 u2
    have wy15 : FAt G42 y15 C15 "prime" x := by rw [← hG42]; exact fat_new u3
    clear hG42
    clear u1 u2 u3
    refine ⟨by show 1 ≤ sizeLine; decide, fun Ol2 u1 => ?_⟩
    generalize hG43 : upd G42 Ol2 _ = G43
    have r43 : Same G42 G43 := by rw [← hG43]; exact same_upd u1
    have wOl2 := (congrFun hG43 Ol2).symm.trans upd_same
    clear hG43
    clear u1
    refine ⟨Oc1, Ol2, _, _, rfl, rfl, (r43 _ _ (r42 _ _ wOc1)), wOl2, by show 15 + 1 ≤ sizeLine; decide, fun Oc2 u1 => ?_⟩
    generalize hG44 : upd G43 Oc2 _ = G44
    have r44 : Same G43 G44 := by rw [← hG44]; exact same_upd u1
    have wOc2 := (congrFun hG44 Oc2).symm.trans upd_same
    clear hG44
    clear u1
    have sixE : Six C0 C1 C2 C3 C4 C5 C6 C7 C8 C9 C10 C11 C12 C13 C14 C15 x G44 Ec3 := ⟨x0, x1, x2, x3, x4, x5, x6, x7, x8, x9, x10, x11, x12, x13, x14, x15, (r44 _ _ (r43 _ _ (r42 _ _ (r41 _ _ (r40 _ _ (r39 _ _ (r38 _ _ (r37 _ _ (r36 _ _ (r35 _ _ (r34 _ _ (r33 _ _ (r32 _ _ (r31 _ _ (r30 _ _ (r29 _ _ (r28 _ _ (r27 _ _ (r26 _ _ (r25 _ _ (r24 _ _ wEc3))))))))))))))))))))), wx0.same ((((((((((((((((((((((((((((((((((((((((((r2.trans r3).trans r4).trans r5).trans r6).trans r7).trans r8).trans r9).trans r10).trans r11).trans r12).trans r13).trans r14).trans r15).trans r16).trans r17).trans r18).trans r19).trans r20).trans r21).trans r22).trans r23).trans r24).trans r25).trans r26).trans r27).trans r28).trans r29).trans r30).trans r31).trans r32).trans r33).trans r34).trans r35).trans r36).trans r37).trans r38).trans r39).trans r40).trans r41).trans r42).trans r43).trans r44), wx1.same (((((((((((((((((((((((((((((((((((((((((r3.trans r4).trans r5).trans r6).trans r7).trans r8).trans r9).trans r10).trans r11).trans r12).trans r13).trans r14).trans r15).trans r16).trans r17).trans r18).trans r19).trans r20).trans r21).trans r22).trans r23).trans r24).trans r25).trans r26).trans r27).trans r28).trans r29).trans r30).trans r31).trans r32).trans r33).trans r34).trans r35).trans r36).trans r37).trans r38).trans r39).trans r40).trans r41).trans r42).trans r43).trans r44), wx2.same ((((((((((((((((((((((((((((((((((((((((r4.trans r5).trans r6).trans r7).trans r8).trans r9).trans r10).trans r11).trans r12).trans r13).trans r14).trans r15).trans r16).trans r17).trans r18).trans r19).trans r20).trans r21).trans r22).trans r23).trans r24).trans r25).trans r26).trans r27).trans r28).trans r29).trans r30).trans r31).trans r32).trans r33).trans r34).trans r35).trans r36).trans r37).trans r38).trans r39).trans r40).trans r41).trans r42).trans r43).trans r44), wx3.same (((((((((((((((((((((((((((((((((((((((r5.trans r6).trans r7).trans r8).trans r9).trans r10).trans r11).trans r12).trans r13).trans r14).trans r15).trans r16).trans r17).trans r18).trans r19).trans r20).trans r21).trans r22).trans r23).trans r24).trans r25).trans r26).trans r27).trans r28).trans r29).trans r30).trans r31).trans r32).trans r33).trans r34).trans r35).trans r36).trans r37).trans r38).trans r39).trans r40).trans r41).trans r42).trans r43).trans r44), wx4.same ((((((((((((((((((((((((((((((((((((((r6.trans r7).trans r8).trans r9).trans r10).trans r11).trans r12).trans r13).trans r14).trans r15).trans r16).trans r17).trans r18).trans r19).trans r20).trans r21).trans r22).trans r23).trans r24).trans r25).trans r26).trans r27).trans r28).trans r29).trans r30).trans r31).trans r32).trans r33).trans r34).trans r35).trans r36).trans r37).trans r38).trans r39).trans r40).trans r41).trans r42).trans r43).trans r44), wx5.same ((((((((((((((((((((((((((((((((((((r8.trans r9).trans r10).trans r11).trans r12).trans r13).trans r14).trans r15).trans r16).trans r17).trans r18).trans r19).trans r20).trans r21).trans r22).trans r23).trans r24).trans r25).trans r26).trans r27).trans r28).trans r29).trans r30).trans r31).trans r32).trans r33).trans r34).trans r35).trans r36).trans r37).trans r38).trans r39).trans r40).trans r41).trans r42).trans r43).trans r44), wx6.same (((((((((((((((((((((((((((((((((((r9.trans r10).trans r11).trans r12).trans r13).trans r14).trans r15).trans r16).trans r17).trans r18).trans r19).trans r20).trans r21).trans r22).trans r23).trans r24).trans r25).trans r26).trans r27).trans r28).trans r29).trans r30).trans r31).trans r32).trans r33).trans r34).trans r35).trans r36).trans r37).trans r38).trans r39).trans r40).trans r41).trans r42).trans r43).trans r44), wx7.same ((((((((((((((((((((((((((((((((((r10.trans r11).trans r12).trans r13).trans r14).trans r15).trans r16).trans r17).trans r18).trans r19).trans r20).trans r21).trans r22).trans r23).trans r24).trans r25).trans r26).trans r27).trans r28).trans r29).trans r30).trans r31).trans r32).trans r33).trans r34).trans r35).trans r36).trans r37).trans r38).trans r39).trans r40).trans r41).trans r42).trans r43).trans r44), wx8.same (((((((((((((((((((((((((((((((((r11.trans r12).trans r13).trans r14).trans r15).trans r16).trans r17).trans r18).trans r19).trans r20).trans r21).trans r22).trans r23).trans r24).trans r25).trans r26).trans r27).trans r28).trans r29).trans r30).trans r31).trans r32).trans r33).trans r34).trans r35).trans r36).trans r37).trans r38).trans r39).trans r40).trans r41).trans r42).trans r43).trans r44), wx9.same ((((((((((((((((((((((((((((((((r12.trans r13).trans r14).trans r15).trans r16).trans r17).trans r18).trans r19).trans r20).trans r21).trans r22).trans r23).trans r24).trans r25).trans r26).trans r27).trans r28).trans r29).trans r30).trans r31).trans r32).trans r33).trans r34).trans r35).trans r36).trans r37).trans r38).trans r39).trans r40).trans r41).trans r42).trans r43).trans r44), wx10.same (((((((((((((((((((((((((((((r15.trans r16).trans r17).trans r18).trans r19).trans r20).trans r21).trans r22).trans r23).trans r24).trans r25).trans r26).trans r27).trans r28).trans r29).trans r30).trans r31).trans r32).trans r33).trans r34).trans r35).trans r36).trans r37).trans r38).trans r39).trans r40).trans r41).trans r42).trans r43).trans r44), wx11.same ((((((((((((((((((((((((((((r16.trans r17).trans r18).trans r19).trans r20).trans r21).trans r22).trans r23).trans r24).trans r25).trans r26).trans r27).trans r28).trans r29).trans r30).trans r31).trans r32).trans r33).trans r34).trans r35).trans r36).trans r37).trans r38).trans r39).trans r40).trans r41).trans r42).trans r43).trans r44), wx12.same (((((((((((((((((((((((((((r17.trans r18).trans r19).trans r20).trans r21).trans r22).trans r23).trans r24).trans r25).trans r26).trans r27).trans r28).trans r29).trans r30).trans r31).trans r32).trans r33).trans r34).trans r35).trans r36).trans r37).trans r38).trans r39).trans r40).trans r41).trans r42).trans r43).trans r44), wx13.same ((((((((((((((((((((((((((r18.trans r19).trans r20).trans r21).trans r22).trans r23).trans r24).trans r25).trans r26).trans r27).trans r28).trans r29).trans r30).trans r31).trans r32).trans r33).trans r34).trans r35).trans r36).trans r37).trans r38).trans r39).trans r40).trans r41).trans r42).trans r43).trans r44), wx14.same (((((((((((((((((((((((((r19.trans r20).trans r21).trans r22).trans r23).trans r24).trans r25).trans r26).trans r27).trans r28).trans r29).trans r30).trans r31).trans r32).trans r33).trans r34).trans r35).trans r36).trans r37).trans r38).trans r39).trans r40).trans r41).trans r42).trans r43).trans r44), wx15.same ((((((((((((((((((((((r22.trans r23).trans r24).trans r25).trans r26).trans r27).trans r28).trans r29).trans r30).trans r31).trans r32).trans r33).trans r34).trans r35).trans r36).trans r37).trans r38).trans r39).trans r40).trans r41).trans r42).trans r43).trans r44)⟩
    have sixO : Six C0 C1 C2 C3 C4 C5 C6 C7 C8 C9 C10 C11 C12 C13 C14 C15 x G44 Oc2 := ⟨y0, y1, y2, y3, y4, y5, y6, y7, y8, y9, y10, y11, y12, y13, y14, y15, wOc2, wy0.same (((((((((((((((((((r25.trans r26).trans r27).trans r28).trans r29).trans r30).trans r31).trans r32).trans r33).trans r34).trans r35).trans r36).trans r37).trans r38).trans r39).trans r40).trans r41).trans r42).trans r43).trans r44), wy1.same ((((((((((((((((((r26.trans r27).trans r28).trans r29).trans r30).trans r31).trans r32).trans r33).trans r34).trans r35).trans r36).trans r37).trans r38).trans r39).trans r40).trans r41).trans r42).trans r43).trans r44), wy2.same (((((((((((((((((r27.trans r28).trans r29).trans r30).trans r31).trans r32).trans r33).trans r34).trans r35).trans r36).trans r37).trans r38).trans r39).trans r40).trans r41).trans r42).trans r43).trans r44), wy3.same ((((((((((((((((r28.trans r29).trans r30).trans r31).trans r32).trans r33).trans r34).trans r35).trans r36).trans r37).trans r38).trans r39).trans r40).trans r41).trans r42).trans r43).trans r44), wy4.same (((((((((((((((r29.trans r30).trans r31).trans r32).trans r33).trans r34).trans r35).trans r36).trans r37).trans r38).trans r39).trans r40).trans r41).trans r42).trans r43).trans r44), wy5.same ((((((((((((((r30.trans r31).trans r32).trans r33).trans r34).trans r35).trans r36).trans r37).trans r38).trans r39).trans r40).trans r41).trans r42).trans r43).trans r44), wy6.same (((((((((((((r31.trans r32).trans r33).trans r34).trans r35).trans r36).trans r37).trans r38).trans r39).trans r40).trans r41).trans r42).trans r43).trans r44), wy7.same ((((((((((((r32.trans r33).trans r34).trans r35).trans r36).trans r37).trans r38).trans r39).trans r40).trans r41).trans r42).trans r43).trans r44), wy8.same ((((((((((r34.trans r35).trans r36).trans r37).trans r38).trans r39).trans r40).trans r41).trans r42).trans r43).trans r44), wy9.same (((((((((r35.trans r36).trans r37).trans r38).trans r39).trans r40).trans r41).trans r42).trans r43).trans r44), wy10.same ((((((((r36.trans r37).trans r38).trans r39).trans r40).trans r41).trans r42).trans r43).trans r44), wy11.same (((((((r37.trans r38).trans r39).trans r40).trans r41).trans r42).trans r43).trans r44), wy12.same ((((((r38.trans r39).trans r40).trans r41).trans r42).trans r43).trans r44), wy13.same (((((r39.trans r40).trans r41).trans r42).trans r43).trans r44), wy14.same ((((r40.trans r41).trans r42).trans r43).trans r44), wy15.same (r43.trans r44)⟩
    refine ⟨_, rfl, Ec3, x, rfl, sixE, fun G45 Af sF nF eF => ?_⟩
    have r45 := sF
    have wAf := eF
    clear sF nF eF
    refine ⟨_, rfl, by show 1 ≤ sizeLine; decide, fun Aq u1 => ?_⟩
    generalize hG46 : upd G45 Aq _ = G46
    have r46 : Same G45 G46 := by rw [← hG46]; exact same_upd u1
    have wAq := (congrFun hG46 Aq).symm.trans upd_same
    clear hG46
    clear u1
    refine ⟨Aq, _, _, rfl, rfl, wAq, by decide, by decide, by show 1 * 16 ≤ sizeLine; decide, fun Ar u1 => ?_⟩
    generalize hG47 : upd G46 Ar _ = G47
    have r47 : Same G46 G47 := by rw [← hG47]; exact same_upd u1
    have wAr := (congrFun hG47 Ar).symm.trans upd_same
    clear hG47
    clear u1
    refine ⟨Af, Ar, List.replicate 16 x, rfl, rfl, (r47 _ _ (r46 _ _ wAf)), wAr, fun y hy => by rw [List.eq_of_mem_replicate hy]; exact hx, false, rfl, iteF ?_⟩
    have sixO2 := sixO.same ((r45.trans r46).trans r47)
    refine ⟨_, rfl, Oc2, x, rfl, sixO2, fun G48 Bf sF nF eF => ?_⟩
    have r48 := sF
    have wBf := eF
    clear sF nF eF
    refine ⟨_, rfl, by show 1 ≤ sizeLine; decide, fun Bq u1 => ?_⟩
    generalize hG49 : upd G48 Bq _ = G49
    have r49 : Same G48 G49 := by rw [← hG49]; exact same_upd u1
    have wBq := (congrFun hG49 Bq).symm.trans upd_same
    clear hG49
    clear u1
    refine ⟨Bq, _, _, rfl, rfl, wBq, by decide, by decide, by show 1 * 16 ≤ sizeLine; decide, fun Br u1 => ?_⟩
    generalize hG50 : upd G49 Br _ = G50
    have r50 : Same G49 G50 := by rw [← hG50]; exact same_upd u1
    have wBr := (congrFun hG50 Br).symm.trans upd_same
    clear hG50
    clear u1
    refine ⟨Bf, Br, List.replicate 16 x, rfl, rfl, (r50 _ _ (r49 _ _ wBf)), wBr, fun y hy => by rw [List.eq_of_mem_replicate hy]; exact hx, false, rfl, iteF ?_⟩
    refine ⟨_, rfl, fun x16 u1 => ?_⟩
    generalize hG51 : upd G50 x16 _ = G51
    have r51 : Same G50 G51 := by rw [← hG51]; exact same_upd u1
    have wx16 := (congrFun hG51 x16).symm.trans upd_same
    clear hG51
    clear u1
    refine fun x17 u1 => ?_
    generalize hG52 : upd G51 x17 _ = G52
    have r52 : Same G51 G52 := by rw [← hG52]; exact same_upd u1
    have wx17 := (congrFun hG52 x17).symm.trans upd_same
    clear hG52
    clear u1
    refine fun x18 u1 => ?_
    generalize hG53 : upd G52 x18 _ = G53
    have r53 : Same G52 G53 := by rw [← hG53]; exact same_upd u1
    have wx18 := (congrFun hG53 x18).symm.trans upd_same
    clear hG53
    clear u1
    refine ⟨by show 3 ≤ sizeLine; decide, fun El9 u1 => ?_⟩
    generalize hG54 : upd G53 El9 _ = G54
    have r54 : Same G53 G54 := by rw [← hG54]; exact same_upd u1
    have wEl9 := (congrFun hG54 El9).symm.trans upd_same
    clear hG54
    clear u1
    refine ⟨Ec3, El9, _, _, rfl, rfl, (r54 _ _ (r53 _ _ (r52 _ _ (r51 _ _ (r50 _ _ (r49 _ _ (r48 _ _ (r47 _ _ (r46 _ _ (r45 _ _ (r44 _ _ (r43 _ _ (r42 _ _ (r41 _ _ (r40 _ _ (r39 _ _ (r38 _ _ (r37 _ _ (r36 _ _ (r35 _ _ (r34 _ _ (r33 _ _ (r32 _ _ (r31 _ _ (r30 _ _ (r29 _ _ (r28 _ _ (r27 _ _ (r26 _ _ (r25 _ _ (r24 _ _ wEc3))))))))))))))))))))))))))))))), wEl9, by show 16 + 3 ≤ sizeLine; decide, fun Ec9 u1 => ?_⟩
    generalize hG55 : upd G54 Ec9 _ = G55
    have r55 : Same G54 G55 := by rw [← hG55]; exact same_upd u1
    have wEc9 := (congrFun hG55 Ec9).symm.trans upd_same
    clear hG55
    clear u1
    have hE := wEc9
    have hE2 : G55 Ec9 = some (.lst ([x0, x1, x2, x3, x4, x5, x6, x7, x8, x9, x10, x11, x12, x13, x14, x15, x16, x17, x18].map V.ref)) := hE
    have hP : Paired (fun e C => ExAt K G55 e C) [x0, x1, x2, x3, x4, x5, x6, x7, x8, x9, x10, x11, x12, x13, x14, x15, x16, x17, x18] [C0, C1, C2, C3, C4, C5, C6, C7, C8, C9, C10, C11, C12, C13, C14, C15, C16, C17, C18] := (Paired.cons ((wx0.same (((((((((((((((((((((((((((((((((((((((((((((((((((((r2.trans r3).trans r4).trans r5).trans r6).trans r7).trans r8).trans r9).trans r10).trans r11).trans r12).trans r13).trans r14).trans r15).trans r16).trans r17).trans r18).trans r19).trans r20).trans r21).trans r22).trans r23).trans r24).trans r25).trans r26).trans r27).trans r28).trans r29).trans r30).trans r31).trans r32).trans r33).trans r34).trans r35).trans r36).trans r37).trans r38).trans r39).trans r40).trans r41).trans r42).trans r43).trans r44).trans r45).trans r46).trans r47).trans r48).trans r49).trans r50).trans r51).trans r52).trans r53).trans r54).trans r55)).ex T.m0.ex) (Paired.cons ((wx1.same ((((((((((((((((((((((((((((((((((((((((((((((((((((r3.trans r4).trans r5).trans r6).trans r7).trans r8).trans r9).trans r10).trans r11).trans r12).trans r13).trans r14).trans r15).trans r16).trans r17).trans r18).trans r19).trans r20).trans r21).trans r22).trans r23).trans r24).trans r25).trans r26).trans r27).trans r28).trans r29).trans r30).trans r31).trans r32).trans r33).trans r34).trans r35).trans r36).trans r37).trans r38).trans r39).trans r40).trans r41).trans r42).trans r43).trans r44).trans r45).trans r46).trans r47).trans r48).trans r49).trans r50).trans r51).trans r52).trans r53).trans r54).trans r55)).ex T.m1.ex) (Paired.cons ((wx2.same (((((((((((((((((((((((((((((((((((((((((((((((((((r4.trans r5).trans r6).trans r7).trans r8).trans r9).trans r10).trans r11).trans r12).trans r13).trans r14).trans r15).trans r16).trans r17).trans r18).trans r19).trans r20).trans r21).trans r22).trans r23).trans r24).trans r25).trans r26).trans r27).trans r28).trans r29).trans r30).trans r31).trans r32).trans r33).trans r34).trans r35).trans r36).trans r37).trans r38).trans r39).trans r40).trans r41).trans r42).trans r43).trans r44).trans r45).trans r46).trans r47).trans r48).trans r49).trans r50).trans r51).trans r52).trans r53).trans r54).trans r55)).ex T.m2.ex) (Paired.cons ((wx3.same ((((((((((((((((((((((((((((((((((((((((((((((((((r5.trans r6).trans r7).trans r8).trans r9).trans r10).trans r11).trans r12).trans r13).trans r14).trans r15).trans r16).trans r17).trans r18).trans r19).trans r20).trans r21).trans r22).trans r23).trans r24).trans r25).trans r26).trans r27).trans r28).trans r29).trans r30).trans r31).trans r32).trans r33).trans r34).trans r35).trans r36).trans r37).trans r38).trans r39).trans r40).trans r41).trans r42).trans r43).trans r44).trans r45).trans r46).trans r47).trans r48).trans r49).trans r50).trans r51).trans r52).trans r53).trans r54).trans r55)).ex T.m3.ex) (Paired.cons ((wx4.same (((((((((((((((((((((((((((((((((((((((((((((((((r6.trans r7).trans r8).trans r9).trans r10).trans r11).trans r12).trans r13).trans r14).trans r15).trans r16).trans r17).trans r18).trans r19).trans r20).trans r21).trans r22).trans r23).trans r24).trans r25).trans r26).trans r27).trans r28).trans r29).trans r30).trans r31).trans r32).trans r33).trans r34).trans r35).trans r36).trans r37).trans r38).trans r39).trans r40).trans r41).trans r42).trans r43).trans r44).trans r45).trans r46).trans r47).trans r48).trans r49).trans r50).trans r51).trans r52).trans r53).trans r54).trans r55)).ex T.m4.ex) (Paired.cons ((wx5.same (((((((((((((((((((((((((((((((((((((((((((((((r8.trans r9).trans r10).trans r11).trans r12).trans r13).trans r14).trans r15).trans r16).trans r17).trans r18).trans r19).trans r20).trans r21).trans r22).trans r23).trans r24).trans r25).trans r26).trans r27).trans r28).trans r29).trans r30).trans r31).trans r32).trans r33).trans r34).trans r35).trans r36).trans r37).trans r38).trans r39).trans r40).trans r41).trans r42).trans r43).trans r44).trans r45).trans r46).trans r47).trans r48).trans r49).trans r50).trans r51).trans r52).trans r53).trans r54).trans r55)).ex T.m5.ex) (Paired.cons ((wx6.same ((((((((((((((((((((((((((((((((((((((((((((((r9.trans r10).trans r11).trans r12).trans r13).trans r14).trans r15).trans r16).trans r17).trans r18).trans r19).trans r20).trans r21).trans r22).trans r23).trans r24).trans r25).trans r26).trans r27).trans r28).trans r29).trans r30).trans r31).trans r32).trans r33).trans r34).trans r35).trans r36).trans r37).trans r38).trans r39).trans r40).trans r41).trans r42).trans r43).trans r44).trans r45).trans r46).trans r47).trans r48).trans r49).trans r50).trans r51).trans r52).trans r53).trans r54).trans r55)).ex T.m6.ex) (Paired.cons ((wx7.same (((((((((((((((((((((((((((((((((((((((((((((r10.trans r11).trans r12).trans r13).trans r14).trans r15).trans r16).trans r17).trans r18).trans r19).trans r20).trans r21).trans r22).trans r23).trans r24).trans r25).trans r26).trans r27).trans r28).trans r29).trans r30).trans r31).trans r32).trans r33).trans r34).trans r35).trans r36).trans r37).trans r38).trans r39).trans r40).trans r41).trans r42).trans r43).trans r44).trans r45).trans r46).trans r47).trans r48).trans r49).trans r50).trans r51).trans r52).trans r53).trans r54).trans r55)).ex T.m7.ex) (Paired.cons ((wx8.same ((((((((((((((((((((((((((((((((((((((((((((r11.trans r12).trans r13).trans r14).trans r15).trans r16).trans r17).trans r18).trans r19).trans r20).trans r21).trans r22).trans r23).trans r24).trans r25).trans r26).trans r27).trans r28).trans r29).trans r30).trans r31).trans r32).trans r33).trans r34).trans r35).trans r36).trans r37).trans r38).trans r39).trans r40).trans r41).trans r42).trans r43).trans r44).trans r45).trans r46).trans r47).trans r48).trans r49).trans r50).trans r51).trans r52).trans r53).trans r54).trans r55)).ex T.m8.ex) (Paired.cons ((wx9.same (((((((((((((((((((((((((((((((((((((((((((r12.trans r13).trans r14).trans r15).trans r16).trans r17).trans r18).trans r19).trans r20).trans r21).trans r22).trans r23).trans r24).trans r25).trans r26).trans r27).trans r28).trans r29).trans r30).trans r31).trans r32).trans r33).trans r34).trans r35).trans r36).trans r37).trans r38).trans r39).trans r40).trans r41).trans r42).trans r43).trans r44).trans r45).trans r46).trans r47).trans r48).trans r49).trans r50).trans r51).trans r52).trans r53).trans r54).trans r55)).ex T.m9.ex) (Paired.cons ((wx10.same ((((((((((((((((((((((((((((((((((((((((r15.trans r16).trans r17).trans r18).trans r19).trans r20).trans r21).trans r22).trans r23).trans r24).trans r25).trans r26).trans r27).trans r28).trans r29).trans r30).trans r31).trans r32).trans r33).trans r34).trans r35).trans r36).trans r37).trans r38).trans r39).trans r40).trans r41).trans r42).trans r43).trans r44).trans r45).trans r46).trans r47).trans r48).trans r49).trans r50).trans r51).trans r52).trans r53).trans r54).trans r55)).ex T.m10.ex) (Paired.cons ((wx11.same (((((((((((((((((((((((((((((((((((((((r16.trans r17).trans r18).trans r19).trans r20).trans r21).trans r22).trans r23).trans r24).trans r25).trans r26).trans r27).trans r28).trans r29).trans r30).trans r31).trans r32).trans r33).trans r34).trans r35).trans r36).trans r37).trans r38).trans r39).trans r40).trans r41).trans r42).trans r43).trans r44).trans r45).trans r46).trans r47).trans r48).trans r49).trans r50).trans r51).trans r52).trans r53).trans r54).trans r55)).ex T.m11.ex) (Paired.cons ((wx12.same ((((((((((((((((((((((((((((((((((((((r17.trans r18).trans r19).trans r20).trans r21).trans r22).trans r23).trans r24).trans r25).trans r26).trans r27).trans r28).trans r29).trans r30).trans r31).trans r32).trans r33).trans r34).trans r35).trans r36).trans r37).trans r38).trans r39).trans r40).trans r41).trans r42).trans r43).trans r44).trans r45).trans r46).trans r47).trans r48).trans r49).trans r50).trans r51).trans r52).trans r53).trans r54).trans r55)).ex T.m12.ex) (Paired.cons ((wx13.same (((((((((((((((((((((((((((((((((((((r18.trans r19).trans r20).trans r21).trans r22).trans r23).trans r24).trans r25).trans r26).trans r27).trans r28).trans r29).trans r30).trans r31).trans r32).trans r33).trans r34).trans r35).trans r36).trans r37).trans r38).trans r39).trans r40).trans r41).trans r42).trans r43).trans r44).trans r45).trans r46).trans r47).trans r48).trans r49).trans r50).trans r51).trans r52).trans r53).trans r54).trans r55)).ex T.m13.ex) (Paired.cons ((wx14.same ((((((((((((((((((((((((((((((((((((r19.trans r20).trans r21).trans r22).trans r23).trans r24).trans r25).trans r26).trans r27).trans r28).trans r29).trans r30).trans r31).trans r32).trans r33).trans r34).trans r35).trans r36).trans r37).trans r38).trans r39).trans r40).trans r41).trans r42).trans r43).trans r44).trans r45).trans r46).trans r47).trans r48).trans r49).trans r50).trans r51).trans r52).trans r53).trans r54).trans r55)).ex T.m14.ex) (Paired.cons ((wx15.same (((((((((((((((((((((((((((((((((r22.trans r23).trans r24).trans r25).trans r26).trans r27).trans r28).trans r29).trans r30).trans r31).trans r32).trans r33).trans r34).trans r35).trans r36).trans r37).trans r38).trans r39).trans r40).trans r41).trans r42).trans r43).trans r44).trans r45).trans r46).trans r47).trans r48).trans r49).trans r50).trans r51).trans r52).trans r53).trans r54).trans r55)).ex T.m15.ex) (Paired.cons ⟨T.b16.ex, .inr (r55 _ _ (r54 _ _ (r53 _ _ (r52 _ _ wx16))))⟩ (Paired.cons ⟨T.b17.ex, .inr (r55 _ _ (r54 _ _ (r53 _ _ wx17)))⟩ (Paired.cons ⟨T.b18.ex, .inr (r55 _ _ (r54 _ _ wx18))⟩ Paired.nil)))))))))))))))))))
    clear sixE sixO sixO2
    have ndC : [C0, C1, C2, C3, C4, C5, C6, C7, C8, C9, C10, C11, C12, C13, C14, C15, C16, C17, C18].Nodup := (List.nodup_append.mp (show ([C0, C1, C2, C3, C4, C5, C6, C7, C8, C9, C10, C11, C12, C13, C14, C15, C16, C17, C18] ++ [CL]).Nodup from T.ne)).1
    have nCL : ∀ D ∈ [C0, C1, C2, C3, C4, C5, C6, C7, C8, C9, C10, C11, C12, C13, C14, C15, C16, C17, C18], decide (CL = D) = false := fun D hD => decide_eq_false fun z => (List.nodup_append.mp (show ([C0, C1, C2, C3, C4, C5, C6, C7, C8, C9, C10, C11, C12, C13, C14, C15, C16, C17, C18] ++ [CL]).Nodup from T.ne)).2.2 D hD CL (by simp) z.symm
    refine ⟨_, rfl, Ec9, _, rfl, hE2, _, rfl, by show -(2 ^ 62 : Int) ≤ ((19 : Nat) : Int); decide, by show ((19 : Nat) : Int) < 2 ^ 62; decide, for_range (lo := 0) (n := 19) (fun i σ H' => ∃ kk, σ = [some (.ref a), some (.ref ps), some x, some (.ref Ec9), some (.ref Oc2), kk, none, none] ∧ Same G55 H')
      ⟨none, rfl, same_refl⟩ ?_ ?_⟩
    · rintro i σ H' hi ⟨kk, rfl, sH⟩
      obtain ⟨e, he⟩ : ∃ e, [x0, x1, x2, x3, x4, x5, x6, x7, x8, x9, x10, x11, x12, x13, x14, x15, x16, x17, x18][i]? = some e := ⟨_, List.getElem?_eq_getElem (by simpa using hi)⟩
      obtain ⟨C, hC, hx0⟩ := paired_get hP he
      have hx1 := hx0.same sH
      have hCm : C ∈ [C0, C1, C2, C3, C4, C5, C6, C7, C8, C9, C10, C11, C12, C13, C14, C15, C16, C17, C18, CL] := by
        have := List.mem_of_getElem? hC
        exact List.mem_append_left [CL] this
      have hE3 := sH _ _ hE2
      have hat : atI ([x0, x1, x2, x3, x4, x5, x6, x7, x8, x9, x10, x11, x12, x13, x14, x15, x16, x17, x18].map V.ref) (0 + (i : Int)) = some (.ref e) := by
        rw [Int.zero_add]
        refine atI_nat ?_
        rw [List.getElem?_map, he]
        rfl
      refine ⟨_, rfl, _, rfl, Ec9, _, _, .ref e, rfl, rfl, hE3, hat, e, C, _, _, rfl, ⟨hCm, .inl ⟨rfl, rfl⟩⟩, hx1, true, rfl, iteF ⟨_, rfl, _, rfl, Ec9, _, _, .ref e, rfl, rfl, hE3, hat, e, C, _, _, rfl, ⟨hCm, .inr ⟨rfl, rfl⟩⟩, hx1, true, rfl, iteF ?_⟩⟩
      refine ⟨_, rfl, _, rfl, Ec9, _, _, .ref e, rfl, rfl, hE3, hat, e, C, rfl, T.kit C hCm, hx1, fun H2 p2 s2 n2 e2 => ?_⟩
      refine ⟨_, rfl, Ec9, _, rfl, s2 _ _ hE3, _, rfl, by show -(2 ^ 62 : Int) ≤ ((19 : Nat) : Int); decide, by show ((19 : Nat) : Int) < 2 ^ 62; decide, fun D nD => lc_range (lo := 0) (n := 19) (fun j H' => Same H2 H' ∧ H' D = some (.lst ((List.range j).map fun j : Nat => V.bl (decide (V.int (0 + (i : Int)) = V.int (0 + (j : Int)))))))
        ⟨same_upd nD, upd_same⟩ ?_ ?_⟩
      · rintro j H4 hj ⟨sj, eD⟩
        refine ⟨rfl, ?_⟩
        dsimp only [tYes]
        rw [if_pos rfl]
        refine ⟨_, rfl, _, rfl, rfl, _, eD, ?_, ?_, ?_⟩
        · rw [List.length_map, List.length_range]
          exact Nat.lt_trans hj (by decide)
        · intro b u eb
          rw [upd_ne (ne_of_none eb nD)]
          exact sj _ _ eb
        · rw [upd_same, List.range_succ, List.map_append]
          rfl
      · rintro H4 ⟨sj, eD⟩
        have eD2 := eD.trans (congrArg (fun l => some (HO.lst l)) (kinds_eq ndC hC).symm)
        refine ⟨p2, D, _, rfl, rfl, sj _ _ e2, eD2, ?_, false, rfl, iteF ?_⟩
        · intro y hy
          obtain ⟨D2, _, rfl⟩ := List.mem_map.mp hy
          exact .inl rfl
        · exact ⟨_, rfl, (sH.trans s2).trans sj⟩
    · rintro σ H' ⟨kk, rfl, sH⟩
      refine fun aB u1 => ?_
      have hB : ExAt K (upd H' aB (ExO (.ref CL) aB)) aB CL := ⟨T.bL.ex, .inr upd_same⟩
      have hm : CL ∈ [C0, C1, C2, C3, C4, C5, C6, C7, C8, C9, C10, C11, C12, C13, C14, C15, C16, C17, C18, CL] := by simp
      refine ⟨_, rfl, aB, CL, _, _, rfl, ⟨hm, .inr ⟨rfl, rfl⟩⟩, hB, true, rfl, iteT ?_⟩
      refine ⟨_, rfl, aB, CL, rfl, T.kit CL hm, hB, fun H3 p3 s3 n3 e3 => ?_⟩
      refine ⟨p3, [C0, C1, C2, C3, C4, C5, C6, C7, C8, C9, C10, C11, C12, C13, C14, C15, C16, C17, C18].map fun D => decide (CL = D), rfl, SqL.of (e3.trans (by rw [List.map_map]; rfl)), _, rfl, ?_⟩
      have hany : (([C0, C1, C2, C3, C4, C5, C6, C7, C8, C9, C10, C11, C12, C13, C14, C15, C16, C17, C18].map fun D => decide (CL = D)).any id) = false := by
        rw [List.any_map, List.any_eq_false]
        intro D hD
        rw [Function.comp_apply, id, nCL D hD]
        exact Bool.false_ne_true
      rw [hany]
      exact k _
end
theorem all_mk {P : Program} {w : World} {K : PySem.W.Frag} {h : Heap} {mg : Str → Option Value} {fa : Addr} {C0 C1 C2 C3 C4 C5 C6 C7 C8 C9 C10 C11 C12 C13 C14 C15 C16 C17 C18 CL f0 f1 f2 f3 f4 f5 f6 f7 f8 f9 f10 f11 f12 f13 f14 f15 : Addr} {d0 d1 d2 d3 d4 d5 d6 d7 d8 d9 d10 d11 d12 d13 d14 d15 : FuncData} (X : K.In h) (G : h.Ns mainGlobals mg) (hfa : mg "law" = some (.ref fa))
    (M0 : Made K P mg "BadField" "number" C0 f0 d0)
    (M1 : Made K P mg "BadRows" "row" C1 f1 d1)
    (M2 : Made K P mg "BadLot" "place" C2 f2 d2)
    (M3 : Made K P mg "BadCount" "count" C3 f3 d3)
    (M4 : Made K P mg "BadTables" "place" C4 f4 d4)
    (M5 : Made K P mg "BadSizes" "place" C5 f5 d5)
    (M6 : Made K P mg "BadWeb" "place" C6 f6 d6)
    (M7 : Made K P mg "TooMany" "lot" C7 f7 d7)
    (M8 : Made K P mg "NoRow" "row" C8 f8 d8)
    (M9 : Made K P mg "BadText" "line" C9 f9 d9)
    (M10 : Made K P mg "NotBase" "lot" C10 f10 d10)
    (M11 : Made K P mg "BadPrices" "index" C11 f11 d11)
    (M12 : Made K P mg "NoughtRow" "index" C12 f12 d12)
    (M13 : Made K P mg "BadTimes" "index" C13 f13 d13)
    (M14 : Made K P mg "BadClass" "number" C14 f14 d14)
    (M15 : Made K P mg "BadPrime" "prime" C15 f15 d15)
    (B16 : Bare K mg "NoDeed" C16)
    (B17 : Bare K mg "UnlikeRows" C17)
    (B18 : Bare K mg "NotWhole" C18)
    (BL : Bare K mg "LotError" CL)
    (t16 : PySem.W.typeIn K (.ref C16) = some (.type "type")) (v16 : PySem.W.subIn K (.ref C16) (.type "ValueError") = some true)
    (t17 : PySem.W.typeIn K (.ref C17) = some (.type "type")) (v17 : PySem.W.subIn K (.ref C17) (.type "ValueError") = some true)
    (t18 : PySem.W.typeIn K (.ref C18) = some (.type "type")) (v18 : PySem.W.subIn K (.ref C18) (.type "ValueError") = some true)
    (tL : PySem.W.typeIn K (.ref CL) = some (.type "type")) (vL : PySem.W.subIn K (.ref CL) (.type "ValueError") = some true)
    (c0 : ∃ cd, PySem.W.clsIn K C0 = some cd ∧ cd.mro = .ref C0 :: .ref CL :: PySem.PX.veTail)
    (c1 : ∃ cd, PySem.W.clsIn K C1 = some cd ∧ cd.mro = .ref C1 :: .ref CL :: PySem.PX.veTail)
    (c2 : ∃ cd, PySem.W.clsIn K C2 = some cd ∧ cd.mro = .ref C2 :: .ref CL :: PySem.PX.veTail)
    (c3 : ∃ cd, PySem.W.clsIn K C3 = some cd ∧ cd.mro = .ref C3 :: .ref CL :: PySem.PX.veTail)
    (c4 : ∃ cd, PySem.W.clsIn K C4 = some cd ∧ cd.mro = .ref C4 :: .ref CL :: PySem.PX.veTail)
    (c5 : ∃ cd, PySem.W.clsIn K C5 = some cd ∧ cd.mro = .ref C5 :: .ref CL :: PySem.PX.veTail)
    (c6 : ∃ cd, PySem.W.clsIn K C6 = some cd ∧ cd.mro = .ref C6 :: .ref CL :: PySem.PX.veTail)
    (c7 : ∃ cd, PySem.W.clsIn K C7 = some cd ∧ cd.mro = .ref C7 :: .ref CL :: PySem.PX.veTail)
    (c8 : ∃ cd, PySem.W.clsIn K C8 = some cd ∧ cd.mro = .ref C8 :: .ref CL :: PySem.PX.veTail)
    (c9 : ∃ cd, PySem.W.clsIn K C9 = some cd ∧ cd.mro = .ref C9 :: .ref CL :: PySem.PX.veTail)
    (c10 : ∃ cd, PySem.W.clsIn K C10 = some cd ∧ cd.mro = .ref C10 :: .ref CL :: PySem.PX.veTail)
    (c11 : ∃ cd, PySem.W.clsIn K C11 = some cd ∧ cd.mro = .ref C11 :: .ref CL :: PySem.PX.veTail)
    (c12 : ∃ cd, PySem.W.clsIn K C12 = some cd ∧ cd.mro = .ref C12 :: .ref CL :: PySem.PX.veTail)
    (c13 : ∃ cd, PySem.W.clsIn K C13 = some cd ∧ cd.mro = .ref C13 :: .ref CL :: PySem.PX.veTail)
    (c14 : ∃ cd, PySem.W.clsIn K C14 = some cd ∧ cd.mro = .ref C14 :: .ref CL :: PySem.PX.veTail)
    (c15 : ∃ cd, PySem.W.clsIn K C15 = some cd ∧ cd.mro = .ref C15 :: .ref CL :: PySem.PX.veTail)
    (c16 : ∃ cd, PySem.W.clsIn K C16 = some cd ∧ cd.mro = .ref C16 :: .ref CL :: PySem.PX.veTail)
    (c17 : ∃ cd, PySem.W.clsIn K C17 = some cd ∧ cd.mro = .ref C17 :: .ref CL :: PySem.PX.veTail)
    (c18 : ∃ cd, PySem.W.clsIn K C18 = some cd ∧ cd.mro = .ref C18 :: .ref CL :: PySem.PX.veTail)
    (cL : ∃ cd, PySem.W.clsIn K CL = some cd ∧ cd.mro = .ref CL :: PySem.PX.veTail)
    (hd0 : PySem.W.hasDictIn K C0 = true)
    (hd1 : PySem.W.hasDictIn K C1 = true)
    (hd2 : PySem.W.hasDictIn K C2 = true)
    (hd3 : PySem.W.hasDictIn K C3 = true)
    (hd4 : PySem.W.hasDictIn K C4 = true)
    (hd5 : PySem.W.hasDictIn K C5 = true)
    (hd6 : PySem.W.hasDictIn K C6 = true)
    (hd7 : PySem.W.hasDictIn K C7 = true)
    (hd8 : PySem.W.hasDictIn K C8 = true)
    (hd9 : PySem.W.hasDictIn K C9 = true)
    (hd10 : PySem.W.hasDictIn K C10 = true)
    (hd11 : PySem.W.hasDictIn K C11 = true)
    (hd12 : PySem.W.hasDictIn K C12 = true)
    (hd13 : PySem.W.hasDictIn K C13 = true)
    (hd14 : PySem.W.hasDictIn K C14 = true)
    (hd15 : PySem.W.hasDictIn K C15 = true)
    (ne : [C0, C1, C2, C3, C4, C5, C6, C7, C8, C9, C10, C11, C12, C13, C14, C15, C16, C17, C18, CL].Nodup)
    (zI : PySem.W.nsIn K mainGlobals "isinstance" = some none) (zL : PySem.W.nsIn K mainGlobals "len" = some none) (zR : PySem.W.nsIn K mainGlobals "range" = some none) (zA : PySem.W.nsIn K mainGlobals "any" = some none) (zN : PySem.W.nsIn K mainGlobals "int" = some none) (zV : PySem.W.nsIn K mainGlobals "ValueError" = some none)
    {gS : Addr} {odS anS : Option Addr} {slS : Array (Option Value)} {ocS kVS dcS pmS cdS ctS : Value}
    (aS : PySem.W.nsIn K mainGlobals "_law_source" = some (some (.ref gS))) (lS : K.lookup gS = some ⟨ocS, odS, .func (PySem.W.fnOf "_law_source" "_law_source" (defArgs sSource) (defBody sSource) (defScope sSource) .none kVS dcS pmS anS cdS ctS), slS⟩) (kS : PySem.W.codeIn K cdS "_law_source" = true) (pS : PySem.W.keepIn K (.ref gS) = true)
    {gD : Addr} {odD anD : Option Addr} {slD : Array (Option Value)} {ocD kVD dcD pmD cdD ctD : Value}
    (aD : PySem.W.nsIn K mainGlobals "_law_draw" = some (some (.ref gD))) (lD : K.lookup gD = some ⟨ocD, odD, .func (PySem.W.fnOf "_law_draw" "_law_draw" (defArgs sDraw) (defBody sDraw) (defScope sDraw) .none kVD dcD pmD anD cdD ctD), slD⟩) (kD : PySem.W.codeIn K cdD "_law_draw" = true) (pD : PySem.W.keepIn K (.ref gD) = true)
    {gP : Addr} {odP anP : Option Addr} {slP : Array (Option Value)} {ocP kVP dcP pmP cdP ctP : Value}
    (aP : PySem.W.nsIn K mainGlobals "_law_pick" = some (some (.ref gP))) (lP : K.lookup gP = some ⟨ocP, odP, .func (PySem.W.fnOf "_law_pick" "_law_pick" (defArgs sPick) (defBody sPick) (defScope sPick) .none kVP dcP pmP anP cdP ctP), slP⟩) (kP : PySem.W.codeIn K cdP "_law_pick" = true) (pP : PySem.W.keepIn K (.ref gP) = true)
    {gK : Addr} {odK anK : Option Addr} {slK : Array (Option Value)} {ocK kVK dcK pmK cdK ctK : Value}
    (aK : PySem.W.nsIn K mainGlobals "_law_kinds" = some (some (.ref gK))) (lK : K.lookup gK = some ⟨ocK, odK, .func (PySem.W.fnOf "_law_kinds" "_law_kinds" (defArgs sKinds) (defBody sKinds) (defScope sKinds) .none kVK dcK pmK anK cdK ctK), slK⟩) (kK : PySem.W.codeIn K cdK "_law_kinds" = true) (pK : PySem.W.keepIn K (.ref gK) = true)
    {gF : Addr} {odF anF : Option Addr} {slF : Array (Option Value)} {ocF kVF dcF pmF cdF ctF : Value}
    (aF : PySem.W.nsIn K mainGlobals "_law_fields" = some (some (.ref gF))) (lF : K.lookup gF = some ⟨ocF, odF, .func (PySem.W.fnOf "_law_fields" "_law_fields" (defArgs sFields) (defBody sFields) (defScope sFields) .none kVF dcF pmF anF cdF ctF), slF⟩) (kF : PySem.W.codeIn K cdF "_law_fields" = true) (pF : PySem.W.keepIn K (.ref gF) = true)
    {gL : Addr} {odL anL : Option Addr} {slL : Array (Option Value)} {ocL kVL dcL pmL cdL ctL : Value}
    (aL : PySem.W.nsIn K mainGlobals "law" = some (some (.ref gL))) (lL : K.lookup gL = some ⟨ocL, odL, .func (PySem.W.fnOf "law" "law" (defArgs sLaw) (defBody sLaw) (defScope sLaw) .none kVL dcL pmL anL cdL ctL), slL⟩) (kL : PySem.W.codeIn K cdL "law" = true) (pL : PySem.W.keepIn K (.ref gL) = true)
    : ∃ fd : FuncData, (∀ (s : Shared) (v : Value), BindsTo s fd ⟨[v], []⟩ [("_law_script", v)]) ∧ ∀ base : Heap, K.In base → base.Ns mainGlobals mg → FnOk P w K mg base CX0 3 fa fd ["_law_script"] (spLaw K) := by
  have e := hfa.symm.trans (PySem.W.mg_of X G aL)
  cases e
  have hcs : ∀ D ∈ [C0, C1, C2, C3, C4, C5, C6, C7, C8, C9, C10, C11, C12, C13, C14, C15, C16, C17, C18], IsCls K D := (List.forall_mem_cons.mpr ⟨⟨M0.ex.cls, M0.of.T.tyC⟩, (List.forall_mem_cons.mpr ⟨⟨M1.ex.cls, M1.of.T.tyC⟩, (List.forall_mem_cons.mpr ⟨⟨M2.ex.cls, M2.of.T.tyC⟩, (List.forall_mem_cons.mpr ⟨⟨M3.ex.cls, M3.of.T.tyC⟩, (List.forall_mem_cons.mpr ⟨⟨M4.ex.cls, M4.of.T.tyC⟩, (List.forall_mem_cons.mpr ⟨⟨M5.ex.cls, M5.of.T.tyC⟩, (List.forall_mem_cons.mpr ⟨⟨M6.ex.cls, M6.of.T.tyC⟩, (List.forall_mem_cons.mpr ⟨⟨M7.ex.cls, M7.of.T.tyC⟩, (List.forall_mem_cons.mpr ⟨⟨M8.ex.cls, M8.of.T.tyC⟩, (List.forall_mem_cons.mpr ⟨⟨M9.ex.cls, M9.of.T.tyC⟩, (List.forall_mem_cons.mpr ⟨⟨M10.ex.cls, M10.of.T.tyC⟩, (List.forall_mem_cons.mpr ⟨⟨M11.ex.cls, M11.of.T.tyC⟩, (List.forall_mem_cons.mpr ⟨⟨M12.ex.cls, M12.of.T.tyC⟩, (List.forall_mem_cons.mpr ⟨⟨M13.ex.cls, M13.of.T.tyC⟩, (List.forall_mem_cons.mpr ⟨⟨M14.ex.cls, M14.of.T.tyC⟩, (List.forall_mem_cons.mpr ⟨⟨M15.ex.cls, M15.of.T.tyC⟩, (List.forall_mem_cons.mpr ⟨⟨B16.ex.cls, t16⟩, (List.forall_mem_cons.mpr ⟨⟨B17.ex.cls, t17⟩, (List.forall_mem_cons.mpr ⟨⟨B18.ex.cls, t18⟩, (List.forall_mem_nil _)⟩)⟩)⟩)⟩)⟩)⟩)⟩)⟩)⟩)⟩)⟩)⟩)⟩)⟩)⟩)⟩)⟩)⟩)⟩)
  have nd0 := List.nodup_append.mp (show ([C0, C1, C2, C3, C4, C5, C6, C7, C8, C9, C10, C11, C12, C13, C14, C15, C16, C17, C18] ++ [CL]).Nodup from ne)
  have nL : ∀ D ∈ [C0, C1, C2, C3, C4, C5, C6, C7, C8, C9, C10, C11, C12, C13, C14, C15, C16, C17, C18], CL ≠ D := fun D hD z => nd0.2.2 D hD CL (by simp) z.symm
  have kit0 : Kit K [C0, C1, C2, C3, C4, C5, C6, C7, C8, C9, C10, C11, C12, C13, C14, C15, C16, C17, C18] CL C0 := by
    obtain ⟨cd, h1, h2⟩ := c0
    exact kit_mk h1 h2 hcs ⟨BL.ex.cls, tL⟩ nL (nL C0 (by simp)).symm (kit_ve M0.of.ve)
  have kit1 : Kit K [C0, C1, C2, C3, C4, C5, C6, C7, C8, C9, C10, C11, C12, C13, C14, C15, C16, C17, C18] CL C1 := by
    obtain ⟨cd, h1, h2⟩ := c1
    exact kit_mk h1 h2 hcs ⟨BL.ex.cls, tL⟩ nL (nL C1 (by simp)).symm (kit_ve M1.of.ve)
  have kit2 : Kit K [C0, C1, C2, C3, C4, C5, C6, C7, C8, C9, C10, C11, C12, C13, C14, C15, C16, C17, C18] CL C2 := by
    obtain ⟨cd, h1, h2⟩ := c2
    exact kit_mk h1 h2 hcs ⟨BL.ex.cls, tL⟩ nL (nL C2 (by simp)).symm (kit_ve M2.of.ve)
  have kit3 : Kit K [C0, C1, C2, C3, C4, C5, C6, C7, C8, C9, C10, C11, C12, C13, C14, C15, C16, C17, C18] CL C3 := by
    obtain ⟨cd, h1, h2⟩ := c3
    exact kit_mk h1 h2 hcs ⟨BL.ex.cls, tL⟩ nL (nL C3 (by simp)).symm (kit_ve M3.of.ve)
  have kit4 : Kit K [C0, C1, C2, C3, C4, C5, C6, C7, C8, C9, C10, C11, C12, C13, C14, C15, C16, C17, C18] CL C4 := by
    obtain ⟨cd, h1, h2⟩ := c4
    exact kit_mk h1 h2 hcs ⟨BL.ex.cls, tL⟩ nL (nL C4 (by simp)).symm (kit_ve M4.of.ve)
  have kit5 : Kit K [C0, C1, C2, C3, C4, C5, C6, C7, C8, C9, C10, C11, C12, C13, C14, C15, C16, C17, C18] CL C5 := by
    obtain ⟨cd, h1, h2⟩ := c5
    exact kit_mk h1 h2 hcs ⟨BL.ex.cls, tL⟩ nL (nL C5 (by simp)).symm (kit_ve M5.of.ve)
  have kit6 : Kit K [C0, C1, C2, C3, C4, C5, C6, C7, C8, C9, C10, C11, C12, C13, C14, C15, C16, C17, C18] CL C6 := by
    obtain ⟨cd, h1, h2⟩ := c6
    exact kit_mk h1 h2 hcs ⟨BL.ex.cls, tL⟩ nL (nL C6 (by simp)).symm (kit_ve M6.of.ve)
  have kit7 : Kit K [C0, C1, C2, C3, C4, C5, C6, C7, C8, C9, C10, C11, C12, C13, C14, C15, C16, C17, C18] CL C7 := by
    obtain ⟨cd, h1, h2⟩ := c7
    exact kit_mk h1 h2 hcs ⟨BL.ex.cls, tL⟩ nL (nL C7 (by simp)).symm (kit_ve M7.of.ve)
  have kit8 : Kit K [C0, C1, C2, C3, C4, C5, C6, C7, C8, C9, C10, C11, C12, C13, C14, C15, C16, C17, C18] CL C8 := by
    obtain ⟨cd, h1, h2⟩ := c8
    exact kit_mk h1 h2 hcs ⟨BL.ex.cls, tL⟩ nL (nL C8 (by simp)).symm (kit_ve M8.of.ve)
  have kit9 : Kit K [C0, C1, C2, C3, C4, C5, C6, C7, C8, C9, C10, C11, C12, C13, C14, C15, C16, C17, C18] CL C9 := by
    obtain ⟨cd, h1, h2⟩ := c9
    exact kit_mk h1 h2 hcs ⟨BL.ex.cls, tL⟩ nL (nL C9 (by simp)).symm (kit_ve M9.of.ve)
  have kit10 : Kit K [C0, C1, C2, C3, C4, C5, C6, C7, C8, C9, C10, C11, C12, C13, C14, C15, C16, C17, C18] CL C10 := by
    obtain ⟨cd, h1, h2⟩ := c10
    exact kit_mk h1 h2 hcs ⟨BL.ex.cls, tL⟩ nL (nL C10 (by simp)).symm (kit_ve M10.of.ve)
  have kit11 : Kit K [C0, C1, C2, C3, C4, C5, C6, C7, C8, C9, C10, C11, C12, C13, C14, C15, C16, C17, C18] CL C11 := by
    obtain ⟨cd, h1, h2⟩ := c11
    exact kit_mk h1 h2 hcs ⟨BL.ex.cls, tL⟩ nL (nL C11 (by simp)).symm (kit_ve M11.of.ve)
  have kit12 : Kit K [C0, C1, C2, C3, C4, C5, C6, C7, C8, C9, C10, C11, C12, C13, C14, C15, C16, C17, C18] CL C12 := by
    obtain ⟨cd, h1, h2⟩ := c12
    exact kit_mk h1 h2 hcs ⟨BL.ex.cls, tL⟩ nL (nL C12 (by simp)).symm (kit_ve M12.of.ve)
  have kit13 : Kit K [C0, C1, C2, C3, C4, C5, C6, C7, C8, C9, C10, C11, C12, C13, C14, C15, C16, C17, C18] CL C13 := by
    obtain ⟨cd, h1, h2⟩ := c13
    exact kit_mk h1 h2 hcs ⟨BL.ex.cls, tL⟩ nL (nL C13 (by simp)).symm (kit_ve M13.of.ve)
  have kit14 : Kit K [C0, C1, C2, C3, C4, C5, C6, C7, C8, C9, C10, C11, C12, C13, C14, C15, C16, C17, C18] CL C14 := by
    obtain ⟨cd, h1, h2⟩ := c14
    exact kit_mk h1 h2 hcs ⟨BL.ex.cls, tL⟩ nL (nL C14 (by simp)).symm (kit_ve M14.of.ve)
  have kit15 : Kit K [C0, C1, C2, C3, C4, C5, C6, C7, C8, C9, C10, C11, C12, C13, C14, C15, C16, C17, C18] CL C15 := by
    obtain ⟨cd, h1, h2⟩ := c15
    exact kit_mk h1 h2 hcs ⟨BL.ex.cls, tL⟩ nL (nL C15 (by simp)).symm (kit_ve M15.of.ve)
  have kit16 : Kit K [C0, C1, C2, C3, C4, C5, C6, C7, C8, C9, C10, C11, C12, C13, C14, C15, C16, C17, C18] CL C16 := by
    obtain ⟨cd, h1, h2⟩ := c16
    exact kit_mk h1 h2 hcs ⟨BL.ex.cls, tL⟩ nL (nL C16 (by simp)).symm (kit_ve v16)
  have kit17 : Kit K [C0, C1, C2, C3, C4, C5, C6, C7, C8, C9, C10, C11, C12, C13, C14, C15, C16, C17, C18] CL C17 := by
    obtain ⟨cd, h1, h2⟩ := c17
    exact kit_mk h1 h2 hcs ⟨BL.ex.cls, tL⟩ nL (nL C17 (by simp)).symm (kit_ve v17)
  have kit18 : Kit K [C0, C1, C2, C3, C4, C5, C6, C7, C8, C9, C10, C11, C12, C13, C14, C15, C16, C17, C18] CL C18 := by
    obtain ⟨cd, h1, h2⟩ := c18
    exact kit_mk h1 h2 hcs ⟨BL.ex.cls, tL⟩ nL (nL C18 (by simp)).symm (kit_ve v18)
  have kitL : Kit K [C0, C1, C2, C3, C4, C5, C6, C7, C8, C9, C10, C11, C12, C13, C14, C15, C16, C17, C18] CL CL := by
    obtain ⟨cd, h1, h2⟩ := cL
    exact kit_mkL h1 h2 hcs nL (kit_ve vL)
  have T : Txt P K mg C0 C1 C2 C3 C4 C5 C6 C7 C8 C9 C10 C11 C12 C13 C14 C15 C16 C17 C18 CL f0 f1 f2 f3 f4 f5 f6 f7 f8 f9 f10 f11 f12 f13 f14 f15 d0 d1 d2 d3 d4 d5 d6 d7 d8 d9 d10 d11 d12 d13 d14 d15 := ⟨M0, M1, M2, M3, M4, M5, M6, M7, M8, M9, M10, M11, M12, M13, M14, M15, B16, B17, B18, BL, (List.forall_mem_cons.mpr ⟨kit0, (List.forall_mem_cons.mpr ⟨kit1, (List.forall_mem_cons.mpr ⟨kit2, (List.forall_mem_cons.mpr ⟨kit3, (List.forall_mem_cons.mpr ⟨kit4, (List.forall_mem_cons.mpr ⟨kit5, (List.forall_mem_cons.mpr ⟨kit6, (List.forall_mem_cons.mpr ⟨kit7, (List.forall_mem_cons.mpr ⟨kit8, (List.forall_mem_cons.mpr ⟨kit9, (List.forall_mem_cons.mpr ⟨kit10, (List.forall_mem_cons.mpr ⟨kit11, (List.forall_mem_cons.mpr ⟨kit12, (List.forall_mem_cons.mpr ⟨kit13, (List.forall_mem_cons.mpr ⟨kit14, (List.forall_mem_cons.mpr ⟨kit15, (List.forall_mem_cons.mpr ⟨kit16, (List.forall_mem_cons.mpr ⟨kit17, (List.forall_mem_cons.mpr ⟨kit18, (List.forall_mem_cons.mpr ⟨kitL, (List.forall_mem_nil _)⟩)⟩)⟩)⟩)⟩)⟩)⟩)⟩)⟩)⟩)⟩)⟩)⟩)⟩)⟩)⟩)⟩)⟩)⟩)⟩), (List.forall_mem_cons.mpr ⟨hd0, (List.forall_mem_cons.mpr ⟨hd1, (List.forall_mem_cons.mpr ⟨hd2, (List.forall_mem_cons.mpr ⟨hd3, (List.forall_mem_cons.mpr ⟨hd4, (List.forall_mem_cons.mpr ⟨hd5, (List.forall_mem_cons.mpr ⟨hd6, (List.forall_mem_cons.mpr ⟨hd7, (List.forall_mem_cons.mpr ⟨hd8, (List.forall_mem_cons.mpr ⟨hd9, (List.forall_mem_cons.mpr ⟨hd10, (List.forall_mem_cons.mpr ⟨hd11, (List.forall_mem_cons.mpr ⟨hd12, (List.forall_mem_cons.mpr ⟨hd13, (List.forall_mem_cons.mpr ⟨hd14, (List.forall_mem_cons.mpr ⟨hd15, (List.forall_mem_nil _)⟩)⟩)⟩)⟩)⟩)⟩)⟩)⟩)⟩)⟩)⟩)⟩)⟩)⟩)⟩)⟩), ne, PySem.W.mg_none_of X G zI, PySem.W.mg_none_of X G zL, PySem.W.mg_none_of X G zR, PySem.W.mg_none_of X G zA⟩
  have FS := fun_mk (st := sSource) lS kS pS
  have bS := FS.binds (ps := ["_law_script"]) fun _ _ _ _ _ _ us hl => match us, hl with | [_], _ => rfl
  have FD := fun_mk (st := sDraw) lD kD pD
  have bD := FD.binds (ps := ["_law_source_here", "_law_many"]) fun _ _ _ _ _ _ us hl => match us, hl with | [_, _], _ => rfl
  have FP := fun_mk (st := sPick) lP kP pP
  have bP := FP.binds (ps := ["_law_source_here", "_law_things"]) fun _ _ _ _ _ _ us hl => match us, hl with | [_, _], _ => rfl
  have FK := fun_mk (st := sKinds) lK kK pK
  have bK := FK.binds (ps := ["_law_e"]) fun _ _ _ _ _ _ us hl => match us, hl with | [_], _ => rfl
  have FF := fun_mk (st := sFields) lF kF pF
  have bF := FF.binds (ps := ["_law_made"]) fun _ _ _ _ _ _ us hl => match us, hl with | [_], _ => rfl
  have FL := fun_mk (st := sLaw) lL kL pL
  exact ⟨PySem.W.fnOf "law" "law" (defArgs sLaw) (defBody sLaw) (defScope sLaw) .none kVL dcL pmL anL cdL ctL, fun s v => .of_eq rfl, fun base _ _ =>
    ok_law FL T FS FD FP FK FF bS bD bP bK bF (PySem.W.mg_of X G aS) (PySem.W.mg_of X G aD) (PySem.W.mg_of X G aP) (PySem.W.mg_of X G aK) (PySem.W.mg_of X G aF) (PySem.W.mg_none_of X G zN) (PySem.W.mg_none_of X G zV)⟩
theorem bare_mk {K : PySem.W.Frag} {h : Heap} {mg : Str → Option Value} {x : Str} {C : Addr} (X : K.In h) (G : h.Ns mainGlobals mg) (a1 : PySem.W.nsIn K mainGlobals x = some (some (.ref C)))
    (q : PySem.W.excIn K C PySem.PX.veTail "ValueError.__new__" = true) (kp : PySem.W.keepIn K (.ref C) = true) (ex : ExcF K C) : Bare K mg x C := ⟨ex, q, PySem.W.mg_of X G a1, kp⟩
end My
open PySem PySem.W PyProof.Rows in
set_option maxRecDepth 100000 in
set_option maxHeartbeats 0 in
theorem PySem.Challenge.cw_freelots_k17_errors_made_holds : PySem.Challenge.rw_freelots_k17_errors_made.Holds := by
  w_on; o_law; k_head; (case hw => w_witness2)
  k_fill
  refine L2.walk_of (l := PySem.Challenge.rw_freelots_k17_errors_made) (n := 63) (k := 3) (x := "_law_script") (CX := fun _ => L2.CX0) (sp := fun w => My.spLaw _) rfl (by decide) rfl ⟨rfl, by decide, by decide⟩ (fun w h Y => PySem.W.kIn_of Y) ?F (fun _ _ a ns hl _ hS => ⟨a, ns, rfl, hS, fun _ => rfl⟩) (fun _ _ _ _ _ h => h)
  case F =>
    intro w mg fa h KX G hmg
    have M0 := My.made_mk (P := PySem.Challenge.rw_freelots_k17_errors_made.prog) (x := "BadField") (fld := "number") KX G (by k_is) (by k_is) (by k_is) (by k_is) (by k_is) (by k_is) (by k_is) (by k_is) (by k_is) (by k_is) (by k_is) (by k_is) (by k_is) (by k_is) (by k_is) (by k_is) (by k_is)  (My.excF_mk (by k_is) (by k_is) (by k_is) (by k_is) (by k_is) (by k_is) (by k_is) (by k_is) ) rfl rfl rfl (by decide +kernel) rfl ⟨rfl, rfl, rfl, by decide +kernel, rfl, rfl, rfl, rfl⟩ (by decide +kernel) (by decide +kernel) (by decide +kernel) rfl (by kernel_rfl) (fun us hl => match us, hl with | [_, _], _ => rfl) (fun _ _ => rfl)
    have M1 := My.made_mk (P := PySem.Challenge.rw_freelots_k17_errors_made.prog) (x := "BadRows") (fld := "row") KX G (by k_is) (by k_is) (by k_is) (by k_is) (by k_is) (by k_is) (by k_is) (by k_is) (by k_is) (by k_is) (by k_is) (by k_is) (by k_is) (by k_is) (by k_is) (by k_is) (by k_is)  (My.excF_mk (by k_is) (by k_is) (by k_is) (by k_is) (by k_is) (by k_is) (by k_is) (by k_is) ) rfl rfl rfl (by decide +kernel) rfl ⟨rfl, rfl, rfl, by decide +kernel, rfl, rfl, rfl, rfl⟩ (by decide +kernel) (by decide +kernel) (by decide +kernel) rfl (by kernel_rfl) (fun us hl => match us, hl with | [_, _], _ => rfl) (fun _ _ => rfl)
    have M2 := My.made_mk (P := PySem.Challenge.rw_freelots_k17_errors_made.prog) (x := "BadLot") (fld := "place") KX G (by k_is) (by k_is) (by k_is) (by k_is) (by k_is) (by k_is) (by k_is) (by k_is) (by k_is) (by k_is) (by k_is) (by k_is) (by k_is) (by k_is) (by k_is) (by k_is) (by k_is)  (My.excF_mk (by k_is) (by k_is) (by k_is) (by k_is) (by k_is) (by k_is) (by k_is) (by k_is) ) rfl rfl rfl (by decide +kernel) rfl ⟨rfl, rfl, rfl, by decide +kernel, rfl, rfl, rfl, rfl⟩ (by decide +kernel) (by decide +kernel) (by decide +kernel) rfl (by kernel_rfl) (fun us hl => match us, hl with | [_, _], _ => rfl) (fun _ _ => rfl)
    have M3 := My.made_mk (P := PySem.Challenge.rw_freelots_k17_errors_made.prog) (x := "BadCount") (fld := "count") KX G (by k_is) (by k_is) (by k_is) (by k_is) (by k_is) (by k_is) (by k_is) (by k_is) (by k_is) (by k_is) (by k_is) (by k_is) (by k_is) (by k_is) (by k_is) (by k_is) (by k_is)  (My.excF_mk (by k_is) (by k_is) (by k_is) (by k_is) (by k_is) (by k_is) (by k_is) (by k_is) ) rfl rfl rfl (by decide +kernel) rfl ⟨rfl, rfl, rfl, by decide +kernel, rfl, rfl, rfl, rfl⟩ (by decide +kernel) (by decide +kernel) (by decide +kernel) rfl (by kernel_rfl) (fun us hl => match us, hl with | [_, _], _ => rfl) (fun _ _ => rfl)
    have M4 := My.made_mk (P := PySem.Challenge.rw_freelots_k17_errors_made.prog) (x := "BadTables") (fld := "place") KX G (by k_is) (by k_is) (by k_is) (by k_is) (by k_is) (by k_is) (by k_is) (by k_is) (by k_is) (by k_is) (by k_is) (by k_is) (by k_is) (by k_is) (by k_is) (by k_is) (by k_is)  (My.excF_mk (by k_is) (by k_is) (by k_is) (by k_is) (by k_is) (by k_is) (by k_is) (by k_is) ) rfl rfl rfl (by decide +kernel) rfl ⟨rfl, rfl, rfl, by decide +kernel, rfl, rfl, rfl, rfl⟩ (by decide +kernel) (by decide +kernel) (by decide +kernel) rfl (by kernel_rfl) (fun us hl => match us, hl with | [_, _], _ => rfl) (fun _ _ => rfl)
    have M5 := My.made_mk (P := PySem.Challenge.rw_freelots_k17_errors_made.prog) (x := "BadSizes") (fld := "place") KX G (by k_is) (by k_is) (by k_is) (by k_is) (by k_is) (by k_is) (by k_is) (by k_is) (by k_is) (by k_is) (by k_is) (by k_is) (by k_is) (by k_is) (by k_is) (by k_is) (by k_is)  (My.excF_mk (by k_is) (by k_is) (by k_is) (by k_is) (by k_is) (by k_is) (by k_is) (by k_is) ) rfl rfl rfl (by decide +kernel) rfl ⟨rfl, rfl, rfl, by decide +kernel, rfl, rfl, rfl, rfl⟩ (by decide +kernel) (by decide +kernel) (by decide +kernel) rfl (by kernel_rfl) (fun us hl => match us, hl with | [_, _], _ => rfl) (fun _ _ => rfl)
    have M6 := My.made_mk (P := PySem.Challenge.rw_freelots_k17_errors_made.prog) (x := "BadWeb") (fld := "place") KX G (by k_is) (by k_is) (by k_is) (by k_is) (by k_is) (by k_is) (by k_is) (by k_is) (by k_is) (by k_is) (by k_is) (by k_is) (by k_is) (by k_is) (by k_is) (by k_is) (by k_is)  (My.excF_mk (by k_is) (by k_is) (by k_is) (by k_is) (by k_is) (by k_is) (by k_is) (by k_is) ) rfl rfl rfl (by decide +kernel) rfl ⟨rfl, rfl, rfl, by decide +kernel, rfl, rfl, rfl, rfl⟩ (by decide +kernel) (by decide +kernel) (by decide +kernel) rfl (by kernel_rfl) (fun us hl => match us, hl with | [_, _], _ => rfl) (fun _ _ => rfl)
    have M7 := My.made_mk (P := PySem.Challenge.rw_freelots_k17_errors_made.prog) (x := "TooMany") (fld := "lot") KX G (by k_is) (by k_is) (by k_is) (by k_is) (by k_is) (by k_is) (by k_is) (by k_is) (by k_is) (by k_is) (by k_is) (by k_is) (by k_is) (by k_is) (by k_is) (by k_is) (by k_is)  (My.excF_mk (by k_is) (by k_is) (by k_is) (by k_is) (by k_is) (by k_is) (by k_is) (by k_is) ) rfl rfl rfl (by decide +kernel) rfl ⟨rfl, rfl, rfl, by decide +kernel, rfl, rfl, rfl, rfl⟩ (by decide +kernel) (by decide +kernel) (by decide +kernel) rfl (by kernel_rfl) (fun us hl => match us, hl with | [_, _], _ => rfl) (fun _ _ => rfl)
    have M8 := My.made_mk (P := PySem.Challenge.rw_freelots_k17_errors_made.prog) (x := "NoRow") (fld := "row") KX G (by k_is) (by k_is) (by k_is) (by k_is) (by k_is) (by k_is) (by k_is) (by k_is) (by k_is) (by k_is) (by k_is) (by k_is) (by k_is) (by k_is) (by k_is) (by k_is) (by k_is)  (My.excF_mk (by k_is) (by k_is) (by k_is) (by k_is) (by k_is) (by k_is) (by k_is) (by k_is) ) rfl rfl rfl (by decide +kernel) rfl ⟨rfl, rfl, rfl, by decide +kernel, rfl, rfl, rfl, rfl⟩ (by decide +kernel) (by decide +kernel) (by decide +kernel) rfl (by kernel_rfl) (fun us hl => match us, hl with | [_, _], _ => rfl) (fun _ _ => rfl)
    have M9 := My.made_mk (P := PySem.Challenge.rw_freelots_k17_errors_made.prog) (x := "BadText") (fld := "line") KX G (by k_is) (by k_is) (by k_is) (by k_is) (by k_is) (by k_is) (by k_is) (by k_is) (by k_is) (by k_is) (by k_is) (by k_is) (by k_is) (by k_is) (by k_is) (by k_is) (by k_is)  (My.excF_mk (by k_is) (by k_is) (by k_is) (by k_is) (by k_is) (by k_is) (by k_is) (by k_is) ) rfl rfl rfl (by decide +kernel) rfl ⟨rfl, rfl, rfl, by decide +kernel, rfl, rfl, rfl, rfl⟩ (by decide +kernel) (by decide +kernel) (by decide +kernel) rfl (by kernel_rfl) (fun us hl => match us, hl with | [_, _], _ => rfl) (fun _ _ => rfl)
    have M10 := My.made_mk (P := PySem.Challenge.rw_freelots_k17_errors_made.prog) (x := "NotBase") (fld := "lot") KX G (by k_is) (by k_is) (by k_is) (by k_is) (by k_is) (by k_is) (by k_is) (by k_is) (by k_is) (by k_is) (by k_is) (by k_is) (by k_is) (by k_is) (by k_is) (by k_is) (by k_is)  (My.excF_mk (by k_is) (by k_is) (by k_is) (by k_is) (by k_is) (by k_is) (by k_is) (by k_is) ) rfl rfl rfl (by decide +kernel) rfl ⟨rfl, rfl, rfl, by decide +kernel, rfl, rfl, rfl, rfl⟩ (by decide +kernel) (by decide +kernel) (by decide +kernel) rfl (by kernel_rfl) (fun us hl => match us, hl with | [_, _], _ => rfl) (fun _ _ => rfl)
    have M11 := My.made_mk (P := PySem.Challenge.rw_freelots_k17_errors_made.prog) (x := "BadPrices") (fld := "index") KX G (by k_is) (by k_is) (by k_is) (by k_is) (by k_is) (by k_is) (by k_is) (by k_is) (by k_is) (by k_is) (by k_is) (by k_is) (by k_is) (by k_is) (by k_is) (by k_is) (by k_is)  (My.excF_mk (by k_is) (by k_is) (by k_is) (by k_is) (by k_is) (by k_is) (by k_is) (by k_is) ) rfl rfl rfl (by decide +kernel) rfl ⟨rfl, rfl, rfl, by decide +kernel, rfl, rfl, rfl, rfl⟩ (by decide +kernel) (by decide +kernel) (by decide +kernel) rfl (by kernel_rfl) (fun us hl => match us, hl with | [_, _], _ => rfl) (fun _ _ => rfl)
    have M12 := My.made_mk (P := PySem.Challenge.rw_freelots_k17_errors_made.prog) (x := "NoughtRow") (fld := "index") KX G (by k_is) (by k_is) (by k_is) (by k_is) (by k_is) (by k_is) (by k_is) (by k_is) (by k_is) (by k_is) (by k_is) (by k_is) (by k_is) (by k_is) (by k_is) (by k_is) (by k_is)  (My.excF_mk (by k_is) (by k_is) (by k_is) (by k_is) (by k_is) (by k_is) (by k_is) (by k_is) ) rfl rfl rfl (by decide +kernel) rfl ⟨rfl, rfl, rfl, by decide +kernel, rfl, rfl, rfl, rfl⟩ (by decide +kernel) (by decide +kernel) (by decide +kernel) rfl (by kernel_rfl) (fun us hl => match us, hl with | [_, _], _ => rfl) (fun _ _ => rfl)
    have M13 := My.made_mk (P := PySem.Challenge.rw_freelots_k17_errors_made.prog) (x := "BadTimes") (fld := "index") KX G (by k_is) (by k_is) (by k_is) (by k_is) (by k_is) (by k_is) (by k_is) (by k_is) (by k_is) (by k_is) (by k_is) (by k_is) (by k_is) (by k_is) (by k_is) (by k_is) (by k_is)  (My.excF_mk (by k_is) (by k_is) (by k_is) (by k_is) (by k_is) (by k_is) (by k_is) (by k_is) ) rfl rfl rfl (by decide +kernel) rfl ⟨rfl, rfl, rfl, by decide +kernel, rfl, rfl, rfl, rfl⟩ (by decide +kernel) (by decide +kernel) (by decide +kernel) rfl (by kernel_rfl) (fun us hl => match us, hl with | [_, _], _ => rfl) (fun _ _ => rfl)
    have M14 := My.made_mk (P := PySem.Challenge.rw_freelots_k17_errors_made.prog) (x := "BadClass") (fld := "number") KX G (by k_is) (by k_is) (by k_is) (by k_is) (by k_is) (by k_is) (by k_is) (by k_is) (by k_is) (by k_is) (by k_is) (by k_is) (by k_is) (by k_is) (by k_is) (by k_is) (by k_is)  (My.excF_mk (by k_is) (by k_is) (by k_is) (by k_is) (by k_is) (by k_is) (by k_is) (by k_is) ) rfl rfl rfl (by decide +kernel) rfl ⟨rfl, rfl, rfl, by decide +kernel, rfl, rfl, rfl, rfl⟩ (by decide +kernel) (by decide +kernel) (by decide +kernel) rfl (by kernel_rfl) (fun us hl => match us, hl with | [_, _], _ => rfl) (fun _ _ => rfl)
    have M15 := My.made_mk (P := PySem.Challenge.rw_freelots_k17_errors_made.prog) (x := "BadPrime") (fld := "prime") KX G (by k_is) (by k_is) (by k_is) (by k_is) (by k_is) (by k_is) (by k_is) (by k_is) (by k_is) (by k_is) (by k_is) (by k_is) (by k_is) (by k_is) (by k_is) (by k_is) (by k_is)  (My.excF_mk (by k_is) (by k_is) (by k_is) (by k_is) (by k_is) (by k_is) (by k_is) (by k_is) ) rfl rfl rfl (by decide +kernel) rfl ⟨rfl, rfl, rfl, by decide +kernel, rfl, rfl, rfl, rfl⟩ (by decide +kernel) (by decide +kernel) (by decide +kernel) rfl (by kernel_rfl) (fun us hl => match us, hl with | [_, _], _ => rfl) (fun _ _ => rfl)
    have B16 := My.bare_mk (x := "NoDeed") KX G (by k_is) (by k_exc) (by k_is) (My.excF_mk (by k_is) (by k_is) (by k_is) (by k_is) (by k_is) (by k_is) (by k_is) (by k_is) )
    have B17 := My.bare_mk (x := "UnlikeRows") KX G (by k_is) (by k_exc) (by k_is) (My.excF_mk (by k_is) (by k_is) (by k_is) (by k_is) (by k_is) (by k_is) (by k_is) (by k_is) )
    have B18 := My.bare_mk (x := "NotWhole") KX G (by k_is) (by k_exc) (by k_is) (My.excF_mk (by k_is) (by k_is) (by k_is) (by k_is) (by k_is) (by k_is) (by k_is) (by k_is) )
    have BL := My.bare_mk (x := "LotError") KX G (by k_is) (by k_exc) (by k_is) (My.excF_mk (by k_is) (by k_is) (by k_is) (by k_is) (by k_is) (by k_is) (by k_is) (by k_is) )
    exact My.all_mk KX G hmg M0 M1 M2 M3 M4 M5 M6 M7 M8 M9 M10 M11 M12 M13 M14 M15 B16 B17 B18 BL (by k_is) (by k_is) (by k_is) (by k_is) (by k_is) (by k_is) (by k_is) (by k_is)  ⟨_, by k_is, by rfl⟩ ⟨_, by k_is, by rfl⟩ ⟨_, by k_is, by rfl⟩ ⟨_, by k_is, by rfl⟩ ⟨_, by k_is, by rfl⟩ ⟨_, by k_is, by rfl⟩ ⟨_, by k_is, by rfl⟩ ⟨_, by k_is, by rfl⟩ ⟨_, by k_is, by rfl⟩ ⟨_, by k_is, by rfl⟩ ⟨_, by k_is, by rfl⟩ ⟨_, by k_is, by rfl⟩ ⟨_, by k_is, by rfl⟩ ⟨_, by k_is, by rfl⟩ ⟨_, by k_is, by rfl⟩ ⟨_, by k_is, by rfl⟩ ⟨_, by k_is, by rfl⟩ ⟨_, by k_is, by rfl⟩ ⟨_, by k_is, by rfl⟩ ⟨_, by k_is, by rfl⟩ (by k_is) (by k_is) (by k_is) (by k_is) (by k_is) (by k_is) (by k_is) (by k_is) (by k_is) (by k_is) (by k_is) (by k_is) (by k_is) (by k_is) (by k_is) (by k_is)  (by decide) (by k_is) (by k_is) (by k_is) (by k_is) (by k_is) (by k_is)  (by k_is) (by k_is) (by k_is) (by k_is) (by k_is) (by k_is) (by k_is) (by k_is) (by k_is) (by k_is) (by k_is) (by k_is) (by k_is) (by k_is) (by k_is) (by k_is) (by k_is) (by k_is) (by k_is) (by k_is) (by k_is) (by k_is) (by k_is) (by k_is) 
