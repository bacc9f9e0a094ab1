import PyProof.Rows.All
import Wide.All
import OpenK.AllK
import Wide.FinOn
import HandS.ForMost
import HandS.ForExc
import HandS.ExcInit
import HandS.More
import HandS.FStr
import KE.KExcSuper
import HandS.Zip
import HandS.IsInst
import HandS.Evl
import HandS.Steps
import HandS.WordsExc
import HandS.ExcField
import HandS.ExcOwn
import PyProof.StrLawsChain
import HandS.Defaults
import HandS.WrittenGet
import PyProof.StrOps2
import HandS.StrMore
import PySem.Challenge.RW_tracklay_k04_texts_read_or_refused
set_option Elab.async false
set_option linter.all false
set_option maxRecDepth 100000
set_option maxHeartbeats 8000000
namespace Tl
open PySem PySem.Spec PyProof.Rows L2
/-! ### an exception's __init__ that says super().__init__(e), then self.f = p -/
/-- such a def's scope: no cell, one free name -/
structure SupScope (sc : Scope) (p : Str) : Prop where
  kind : sc.kind = .function
  co : sc.isCoroutine = false
  gen : sc.isGenerator = false
  nocell : ∀ y ∈ sc.names, y.2 ≠ .cell
  free : ∀ y ∈ sc.names, y.2 = .free → y.1 = "__class__"
  cls : sc.names.lookup ("__class__" : Str) = some .free
  sup : sc.names.lookup ("super" : Str) = some .globalImplicit
  self : sc.names.lookup ("self" : Str) = some .local
  par : sc.names.lookup p = some .local
  ne : ("self" : Str) ≠ p
  noc1 : p ≠ "__class__"
abbrev envS (qual : Str) (sc : Scope) (L f : Addr) (cd : Value) (cc : Addr) : Env := PySem.W.ksEnv qual sc L f cd cc
/-- the body's context -/
def cxSup (P : Program) (w : World) (K : PySem.W.Frag) (mg : Str → Option Value) (base : Heap) (p qual : Str) (sc : Scope) (f : Addr) (cd : Value) (cc : Addr) (A : Around) (outer : List Env) (s : Shared) (H : Hp) (xe : Value → Shared → Prop) : Cx where
  prog := P
  w := w
  K := K
  mg := mg
  base := base
  A := A.deeper (envS qual sc s.heap.objs.size f cd cc)
  N := ["self", p]
  s_0 := s
  H_0 := H
  env := envS qual sc s.heap.objs.size f cd cc
  outer := outer
  stack := envS qual sc s.heap.objs.size f cd cc :: outer
  ex := []
  calm := true
  fn := fun x => !(x == ("__class__" : Str))
  pn := []
  xe := xe
theorem look1 {x : Str} {c cc : Addr} (h : ([(("__class__" : Str), cc)] : List (Str × Addr)).lookup x = some c) : x = "__class__" ∧ c = cc := by
  by_cases e : x = "__class__"
  · subst e
    simp [List.lookup] at h
    exact ⟨rfl, h.symm⟩
  · have e2 : (x == ("__class__" : Str)) = false := by simpa using e
    simp [List.lookup, e2] at h
theorem inv_sup {P : Program} {w : World} {K : PySem.W.Frag} {mg : Str → Option Value} {base : Heap} {p qual : Str} {sc : Scope} {f cc C : Addr} {cd : Value} {A : Around} {outer : List Env} {s : Shared} {h0 : Heap} {tk : Nat} {H : Hp} {xe : Value → Shared → Prop} {u1 u2 : Value} {v1 v2 : V} {ccl : Value} {ccd : Option Addr} {ccs : Array (Option Value)}
    (S : SupScope sc p) (hd : A.handled = none) (e0 : Env0 P w K mg base A outer s H) (r1 : RelV v1 u1) (r2 : RelV v2 u2) (hns : h0.Ns s.heap.objs.size (fun x => ([(("self" : Str), u1), (p, u2)]).reverse.lookup x)) (hk : ∀ b o, s.heap.get? b = some o → h0.get? b = some o)
    (hcell : K.lookup cc = some ⟨ccl, ccd, .cell (some (.ref C)), ccs⟩) : Inv (cxSup P w K mg base p qual sc f cd cc A outer s H xe) [] [some v1, some v2] H { s with heap := h0, toks := tk } := by
  have hbase : base.get? cc = some ⟨ccl, ccd, .cell (some (.ref C)), ccs⟩ := e0.mod.kin _ _ hcell
  have noA : ∀ b : Addr, b ∉ ([] : List Addr) := fun b z => by simp at z
  have hp2 : (p == ("self" : Str)) = false := by simpa using S.ne.symm
  refine ⟨⟨e0.mod, S.kind, rfl, rfl, Nat.le_refl _, fun x y c h1 h2 => ?_, fun x hx => ?_, fun x c hx h => ?_, fun _ => hd, Around.frames_deeper e0.frames, .inr ⟨rfl, rfl⟩, fun b z => absurd z (noA b), e0.bs, e0.bsz, fun b _ _ => noA b, fun b z => absurd z (noA b), e0.funs, e0.frf⟩,
    rfl, e0.bare, Un.kept hk, ⟨_, hns, fun i x v h1 h2 h3 => ?_⟩, fun x c h => ?_, e0.hok.fresh (Nat.le_refl _), fun x c h => ?_, fun q hq => absurd hq (by simp [cxSup]), e0.hok.kept hk, rfl⟩
  · exact (look1 h1).1.trans (look1 h2).1.symm
  · have hx : sc.names.lookup x = some .cell ∨ sc.names.lookup x = some .free := hx
    rcases hx with hx | hx
    · exact absurd rfl (S.nocell _ (PySem.mem_of_lookup hx))
    · have e : x = "__class__" := S.free _ (PySem.mem_of_lookup hx) rfl
      subst e
      exact ⟨cc, rfl⟩
  · have e := (look1 h).1
    subst e
    have hx2 : (!((("__class__" : Str)) == ("__class__" : Str))) = true := hx
    exact absurd hx2 (by decide)
  · have hl : ∀ (y : Str), (Vis sc y) → True := fun _ _ => trivial
    match i, h1, h2 with
    | 0, h1, h2 =>
      cases h1
      cases h2
      refine ⟨u1, r1, .inl ⟨S.self, ?_⟩⟩
      have e : (("self" : Str) == p) = false := by simpa using S.ne
      simp [List.lookup, e]
    | 1, h1, h2 =>
      cases h1
      cases h2
      refine ⟨u2, r2, .inl ⟨S.par, ?_⟩⟩
      simp [List.lookup]
    | i + 2, h1, h2 => simp [cxSup] at h1
  · obtain ⟨rfl, rfl⟩ := look1 h
    exact ⟨_, _, hk _ _ (e0.bs _ _ hbase).1, rfl⟩
  · obtain ⟨rfl, rfl⟩ := look1 h
    exact (e0.bs _ _ hbase).2
end Tl

namespace Tl
open PySem PySem.Spec PyProof.Rows L2
section
variable {prog : Program} {w : World} {A : Around} {E : Value → Shared → Prop} {h : Heap} {g : Array GenState} {d : Drawn} {t : Nat} {os : OsState}
/-- the bound __init__ of a built-in class of exceptions, called -/
theorem call_mw {B newId i : String} {bmB : List Value} (FB : ExcBaseFacts B newId i bmB) {nm q : Str} {C N : Addr} {bs bm : List Value} {hdct : Bool} {sn : List Str} {sub : List Value} {ab : Bool} {col : Option Bool} {dd : Option Addr} {k0 k1 k2 k3 k5 : Option Value} {u e t0 : Addr} {rest : List Value} {Q : Value → Shared → Prop}
    (hC : h.get? C = some (excClassObj nm q C N bs bm hdct sn sub ab col dd k0 k1 k2 k3 k5 newId)) (he : h.get? e = some (PySem.HandSPX.excO C t0)) (hmw : h.get? u = some (PySem.W.kxs_mw i e)) (hz : rest.length ≤ sizeLine)
    (hq : ∀ h' t1, (∀ b o, b ≠ e → h.get? b = some o → h'.get? b = some o) → h'.get? e = some (PySem.HandSPX.excO C t1) → Q .none ⟨h', g, d, t, os⟩) :
    wpAny (model prog w) A (call (.ref u) rest) Q E ⟨h, g, d, t, os⟩ := by
  have k1 : (Value.type "method-wrapper" == Value.type "method" || Value.type "method-wrapper" == Value.type "builtin_function_or_method" || Value.type "method-wrapper" == Value.type "method-wrapper") = true := by decide
  refine wpAny_call (codeAny_of_tree (show wpAny (model prog w) A.in1 (callAny (.ref u) ⟨rest, []⟩) _ _ _ from ?_))
  simp only [callAny]
  refine wpAny_bind (wpAny_load hmw ?_)
  simp only [PySem.W.kxs_mw, k1, if_true]
  refine PySem.W.KFB.if_so (by decide) (wpAny_bind (PySem.W.check_bound_init FB.toExcCallFacts hC he rfl ?_))
  refine wpAny_bind (wpAny_pure (wpAny_pure ⟨plainId_quiet FB.init.plain _, codeAny_builtin FB.initEntry ?_⟩))
  exact PySem.W.exc_init_tree (cls := .ref C) (t0 := t0) (dv := none) (c2 := .none) (c3 := .none) (b4 := .bool false) he hz fun h' k e' _ => hq h' _ k e'
end
/-- the promise of such an __init__ -/
def spSup (C : Addr) (fl : Str) (Rv : V → Hp → Prop) : Sp := fun vs H Q _ => ∃ (a : Addr) (v : V), vs = [.ref a, v] ∧ H a = some (exo a C none) ∧ Rv v H ∧ ∀ dx, H dx = none → dx ≠ a → Q .non (upd (upd H dx (exd dx [(fl, v)])) a (exo a C (some dx)))
/-- what the written part says of the class and its __init__ -/
structure SupC (K : PySem.W.Frag) (P : Program) (mg : Str → Option Value) (C cda cc : Addr) (fl : Str) : Prop where
  oex : OexC K C
  code : ∃ (ccl : Value) (cdd : Option Addr) (vs : Array Value) (ccs : Array (Option Value)) (file : Str) (tf : Tok), K.lookup cda = some ⟨ccl, cdd, .fields vs, ccs⟩ ∧ vs[2]? = some (.str file tf) ∧ ((P.main.file : Str) == file) = true
  top : (P.main.scope.names.lookup ("super" : Str)).isSome = false
  cell : ∃ (cl : Value) (cld : Option Addr) (csl : Array (Option Value)), K.lookup cc = some ⟨cl, cld, .cell (some (.ref C)), csl⟩
  sub : PySem.W.mroIn K C (.ref C) = some true
  opq : PySem.W.nsIn K cStatics "thirdparty.any" = some none
  sin : PySem.W.ks_superIn K C C "__init__" = some (some (.builtin "ValueError.__init__"))
  isB : PySem.W.subIn K (.ref C) (.type "ValueError") = some true
  ms : mg "super" = none
  nof : PySem.W.findIn K (.ref C) fl = some none
theorem fn_sup {P : Program} {w : World} {K : PySem.W.Frag} {mg : Str → Option Value} {base : Heap} {k : Nat} {f cc cda C : Addr} {qual p fl : Str} {params : Arguments} {sc : Scope} {e : Expr} {te : TE} {p0 p1 p2 p3 p4 p5 p6 p7 p8 : Pos} {dV kV doc pm ct oc : Value} {an od : Option Addr} {osl : Array (Option Value)} {ar : Arg} {Rv : V → Hp → Prop}
    (lk : K.lookup f = some ⟨oc, od, .func (PySem.W.ksFn "__init__" qual params [.Expr (.Call (.Attribute (.Call (.Name "super" p0) [] [] p1) "__init__" p2) [e] [] p3) p4, .Assign [.Attribute (.Name "self" p5) fl p6] (.Name p p7) p8] sc dV kV doc pm an (.ref cda) ct cc), osl⟩)
    (hcd : PySem.W.codeIn K (.ref cda) qual = true) (S : SupScope sc p) (hps : (params.posonlyargs ++ params.args).head? = some ar) (har : ar.arg = "self") (T : SupC K P mg C cda cc fl)
    (he : ∀ (A : Around) (outer : List Env) (s : Shared) (H : Hp) (xe : Value → Shared → Prop), PE (cxSup P w K mg base p qual sc f (.ref cda) cc A outer s H xe) e te) (hte : ∀ (v1 v : V) (H : Hp) (Q : VK), Rv v H → (∀ z : Str, Q (.str z) H) → te [some v1, some v] H Q) (hp1 : (p == ("__debug__" : Str)) = false) (hp2 : (p == ("__classdict__" : Str)) = false)
    (hsw : ∀ (L : Addr), swapsWith (.Call (.Attribute (.Call (.Name "super" p0) [] [] p1) "__init__" p2) [e] [] p3) none p4.line (envS qual sc L f (.ref cda) cc) = pure false)
    (hev : ∀ (L : Addr), ∃ pl : Sem Bool, eval (.Call (.Attribute (.Call (.Name "super" p0) [] [] p1) "__init__" p2) [e] [] p3) (envS qual sc L f (.ref cda) cc) = (do
      let ov ← attributeBase (.Call (.Name "super" p0) [] [] p1) "__init__" (envS qual sc L f (.ref cda) cc) (eval (.Call (.Name "super" p0) [] [] p1) (envS qual sc L f (.ref cda) cc))
      standAt p2.atName
      let (fx, first) ← holding [ov] (getMethod ov "__init__" pl)
      callWith p3 fx first (backTo p3 (starEach [e] (envS qual sc L f (.ref cda) cc))) []))
    (hsw2 : ∀ (L : Addr), swapsWith (.Name p p7) (some (.Attribute (.Name "self" p5) fl p6)) p8.line (envS qual sc L f (.ref cda) cc) = pure false) (hst : ∀ (L : Addr), starEach [e] (envS qual sc L f (.ref cda) cc) = [(false, eval e (envS qual sc L f (.ref cda) cc))]) :
    FnOk P w K mg base CX0 (k + 1) f (PySem.W.ksFn "__init__" qual params [.Expr (.Call (.Attribute (.Call (.Name "super" p0) [] [] p1) "__init__" p2) [e] [] p3) p4, .Assign [.Attribute (.Name "self" p5) fl p6] (.Name p p7) p8] sc dV kV doc pm an (.ref cda) ct cc) ["self", p] (spSup C fl Rv) := by
  refine ⟨fun vs H Q E q => ?_, fun A outer s H args us vs Q E hr e0 hb r hsp => ?_⟩
  · obtain ⟨a, v, rfl, _⟩ := q
    rfl
  obtain ⟨a, v, rfl, ha, hv, fin⟩ := hsp
  obtain ⟨u1, u2, rfl, r1, r2⟩ : ∃ u1 u2, us = [u1, u2] ∧ RelV (.ref a) u1 ∧ RelV v u2 := by
    cases r with
    | cons h1 h2 =>
      cases h2 with
      | cons h3 h4 =>
        cases h4
        exact ⟨_, _, rfl, h1, h3⟩
  have eu : u1 = Value.ref a := r1
  subst eu
  have KX : K.In s.heap := e0.mod.kin.keeps fun b o e => (e0.bs b o e).1
  have lim : s.heap.NoLimit := e0.mod.nolimit.keeps fun b o e => (e0.bs b o e).1
  obtain ⟨ccl, cdd, vs, ccs, file, tf, hcode, hvs, hfile⟩ := T.code
  obtain ⟨cl, cld, csl, hcell⟩ := T.cell
  obtain ⟨nm, q, N, bs, bm, sn, sub, ab, col, dd, k0, k1, k2, k3, k5, hC, hbm⟩ := T.oex.cls
  refine ks_codeAny_call_defAt (binds := [("self", .ref a), (p, u2)]) hr.depth (KX _ _ lk) rfl lim (PySem.W.codeRec_of KX hcd) rfl hb S.nocell (fun x hx => ?_) (fun h0 hns hk => ?_) S.co S.gen S.kind
  · rcases List.mem_cons.mp hx with rfl | hx
    · exact S.self
    · rw [List.mem_singleton.mp hx]
      exact S.par
  have I := inv_sup (qual := qual) (f := f) (cd := .ref cda) (xe := fun e s' => wpAny (model P w) (A.deeper (envS qual sc s.heap.objs.size f (.ref cda) cc)) (leaving (envS qual sc s.heap.objs.size f (.ref cda) cc) e) (fun _ s'' => CR CX0 outer P w H s Q E (.error e) s'') (fun e' s'' => CR CX0 outer P w H s Q E (.error e') s'') s') (tk := s.toks + ([(("self" : Str), Value.ref a), (p, u2)]).length) S hr.hd e0 r1 r2 hns hk hcell
  have K0 : K.In h0 := KX.keeps hk
  obtain ⟨t0, hx0⟩ := exo_at I.hok ha
  have hx0 : h0.get? a = some (PySem.HandSPX.excO C t0) := hx0
  obtain ⟨pl, hev⟩ := hev s.heap.objs.size
  have hint : interactive (envS qual sc s.heap.objs.size f (.ref cda) cc) = false := by
    show (sc.kind == .module && _) = false
    rw [S.kind]
    rfl
  refine ks_wpAt_execs_cons (ks_wpAt_Expr_any (ks_wpAt_MethodCall (pl := pl) ?_ hev) hint (hsw _))
  refine ks_wpAt_super_base (env := envS qual sc s.heap.objs.size f (.ref cda) cc) S.sup S.cls (by decide) rfl (K0 _ _ lk) rfl hps rfl (K0 _ _ hcode) rfl hvs hfile T.top ?_
  obtain ⟨mb, hb1, hb2⟩ := I.mod.blt
  refine PySem.W.ks_loadName_global S.kind S.sup (Calls.loadGlobal_builtin (env := envS qual sc s.heap.objs.size f (.ref cda) cc) (I.mod.glob.keeps I.bk) T.ms (hb1.keeps I.bk) (hb2 "super" (by decide)) ⟨rfl, ?_⟩)
  refine wpAny_loadName_free S.kind S.cls rfl ⟨_, K0 _ _ hcell, rfl⟩ ?_
  rw [har]
  have hs : (("self" : Str) == p) = false := by simpa using S.ne
  refine wpAny_loadName_local (v := .ref a) S.kind S.self hns (by simp [List.lookup, hs]) ?_
  refine ks_wpAny_isType_cls (K0 _ _ hC) rfl ⟨rfl, ?_⟩
  refine ks_wpAny_call_super (K0 _ _ hC) rfl hx0 rfl (fun c z => by cases z) (PySem.W.looks_mroIn K0 T.sub) (fun h1 hso hk1 => ?_)
  have I1 := I.kept (t' := s.toks + ([(("self" : Str), Value.ref a), (p, u2)]).length) hk1
  have K1 : K.In h1 := K0.keeps hk1
  have hcl : PySem.W.clsIn K C = some { name := nm, bases := bs, mro := .ref C :: bm, ns := N, qualname := q, hasDict := true, slotNames := sn, subclasses := sub, abstract := ab, collection := col, hasDel := false } := by
    unfold PySem.W.clsIn
    rw [hC]
  have hsin := T.sin
  unfold PySem.W.ks_superIn at hsin
  rw [hcl] at hsin
  have hx1 := hk1 _ _ hx0
  have inst : PySem.W.InstAt h1 a (PySem.HandSPX.excO C t0) C none := ⟨hx1, rfl, rfl, trivial⟩
  have haC : a ≠ C := fun z => by
    rw [z, K1 _ _ hC] at hx1
    cases hx1
  refine PySem.W.kxs_getMethod PySem.W.kxs_ValueError hso (PySem.W.looks_opaque K1 T.opq) (l₀ := .ref C :: bm) ((PySem.W.looks_clsIn K1 hcl).andThen .now) rfl K1 hsin (inst.type.andThen (PySem.W.looks_subIn K1 T.isB)) haC (by decide) ?_
  have hpush : ∀ b o, h1.get? b = some o → (h1.push (PySem.W.kxs_mw "ValueError.__init__" a)).get? b = some o := fun b o z => Heap.get?_push_of_some _ z
  have hmw : (h1.push (PySem.W.kxs_mw "ValueError.__init__" a)).get? h1.objs.size = some (PySem.W.kxs_mw "ValueError.__init__" a) := Heap.get?_push_at rfl rfl
  have I2 := (I1.kept (t' := s.toks + ([(("self" : Str), Value.ref a), (p, u2)]).length + 1) hpush).pins_of (pins' := [(h1.objs.size, PySem.W.kxs_mw "ValueError.__init__" a)]) fun c hc => by
    rw [List.mem_singleton.mp hc]
    exact ⟨hmw, I1.hok.fresh (Nat.le_refl _), Nat.ne_of_gt I1.lt, I1.nofs (Nat.le_refl _), fun v z => by cases z⟩
  have hA := (pa_cons (he A outer s H _) pa_nil (hst _)).run p3 _ _ _ _ (fun vs' H' => (∃ z : Str, vs' = [.str z]) ∧ H' = H) I2 (hte _ _ _ _ hv fun z => ⟨⟨z, rfl⟩, rfl⟩)
  have hA2 : wpAny (model P w) (A.deeper (envS qual sc s.heap.objs.size f (.ref cda) cc)) (spliced (backTo p3 (starEach [e] (envS qual sc s.heap.objs.size f (.ref cda) cc)))) _ _ _ := hA
  rw [hst] at hA2
  show wpAny _ _ (callWith p3 (.ref h1.objs.size) [] (backTo p3 (starEach [e] (envS qual sc s.heap.objs.size f (.ref cda) cc))) []) _ _ _
  rw [hst]
  refine PySem.W.kxs_callWith (i := "ValueError.__init__") (x := a) rfl (Calls.evalArgs_plain (wpAny_mono hA2 (fun us4 s4 made => ?_) fun _ _ z => z))
  obtain ⟨vs4, H4, I4, r4, ⟨z, rfl⟩, rfl⟩ := made
  have hm4 := (I4.pin (h1.objs.size, PySem.W.kxs_mw "ValueError.__init__" a) (List.mem_append_right _ (List.mem_singleton.mpr rfl))).1
  obtain ⟨t4, hx4⟩ := exo_at I4.hok ha
  have hz4 : us4.length ≤ sizeLine := by
    rw [← r4.length]
    show 1 ≤ sizeLine
    decide
  obtain ⟨h4, g4, d4, tk4, os4⟩ := s4
  refine ⟨hm4, call_mw F.excBase_ValueError (I4.kIn _ _ hC) hx4 hm4 hz4 fun h5 t5 k5 e5 => ?_⟩
  have J := I4.write (t' := tk4) (x := a) (e := a) (o := exo a C none) (by rw [ha]; exact True.intro) (.inl rfl) k5 ⟨_, e5⟩ (exo_ok e5)
  have eqH : upd H4 a (exo a C none) = H4 := by
    funext b
    by_cases hb : b = a
    · rw [hb, upd_same, ha]
    · rw [upd_ne hb]
  rw [eqH] at J
  have J0 := J.pins_of (pins' := []) fun c hc => absurd hc (by simp)
  refine wpAt_of_wpAny ?_
  have hs2 := (pss_one (ps_ost (o := .Name "self" p5) (e := .Name p p7) (p' := p6) (pos := p8) (f := fl) (pe_var (i := 0) (x := "self") (pos := p5) rfl (Or.inl S.self) (by decide) (by decide)) (pe_var (i := 1) (x := p) (pos := p7) rfl (Or.inl S.par) hp1 hp2) (hsw2 s.heap.objs.size))).run _ _ _ _ { nx := fun _ H' => Q .non H', rt := Q } J0 ⟨v, rfl, .ref a, rfl, a, C, rfl, T.oex, T.nof, .inl ⟨ha, fun dx ndx hne => fin dx ndx hne⟩⟩
  refine wpAny_mono hs2 (fun fl' s' hs => ?_) fun e s' hs => hs
  have fin2 : ∀ {xe' : Value → Shared → Prop} {σ' : L2.St} {H' : Hp} {v' : V} {u' : Value}, Inv (cxSup P w K mg base p qual sc f (.ref cda) cc A outer s H4 xe') [] σ' H' s' → RelV v' u' → Q v' H' → CE outer P w H4 s Q u' s' := fun {xe' σ' H' v' u'} J rv q => ⟨v', H', J.os, J.bare, J.base, J.hok, rv, q⟩
  cases fl' with
  | ret u =>
    obtain ⟨v', σ', H', J, rv, q⟩ := hs
    exact fin2 J rv q
  | next =>
    obtain ⟨σ', H', J, q⟩ := hs
    exact fin2 (v' := V.non) (u' := Value.none) J rfl q
  | brk =>
    obtain ⟨_, _, _, q⟩ := hs
    exact False.elim q
  | cont =>
    obtain ⟨_, _, _, q⟩ := hs
    exact False.elim q
end Tl

namespace Tl
open PySem PySem.Spec PyProof.Rows L2
def topS (i : Nat) : Stmt := PySem.Challenge.pw_tracklay_k04_texts_read_or_refused.main.body.getD i (.Pass ⟨0, 0, 0, 0⟩)
/-! ### xs[i] op= e, i not below 0: the read -/
def rIxP (K : PySem.W.Frag) : R2 := fun x y H Q => ∃ (p : Addr) (xs : List V) (k : Nat) (v : V), x = .ref p ∧ y = .int (k : Int) ∧ SqL K H p xs ∧ xs[k]? = some v ∧ Q v H
theorem get_nn {X : Cx} : PGet X (rIxP X.K) := fun pins s σ H x y ov iv Q I rx ry ⟨p, xs, k, v, e1, e2, hq, hv, q⟩ => by
  subst e1 e2
  obtain rfl : ov = .ref p := rx
  obtain ⟨tok, rfl⟩ := ry
  obtain ⟨items, rel, place, size⟩ := I.list hq
  obtain ⟨val, hval, rval⟩ := rel.get hv
  have small := line63
  have inside := (List.getElem?_eq_some_iff.mp hv).1
  exact wpAny_getItem_list place.isList (Int.natCast_nonneg k) (by have := rel.length; omega) (by rw [Int.toNat_natCast]; simpa using hval) ⟨v, H, I, rval, q⟩
/-! ### heaps -/
/-- all but b as it was -/
def Kp (b : Addr) (H H' : Hp) : Prop := ∀ a o, a ≠ b → H a = some o → H' a = some o
/-- the law's box: where it stands, where its list stands, what is in it -/
structure Box where
  b : Addr
  l : Addr
  ns : List Int
structure Bx (B : Box) (H : Hp) : Prop where
  at_ : ∃ (i : Nat) (r s : Int), H B.b = some (.lst [.ref B.l, .int (i : Int), .int r, .int s]) ∧ i ≤ B.ns.length ∧ 0 ≤ r ∧ 0 ≤ s ∧ s < 2147483629
  li : H B.l = some (.lst (B.ns.map V.int))
theorem Bx.ne {B : Box} {H : Hp} (h : Bx B H) : B.l ≠ B.b := fun e => by
  obtain ⟨⟨i, r, s, hb, _⟩, hl⟩ := h
  rw [e, hb] at hl
  have h := HO.lst.inj (Option.some.inj hl)
  cases hn : B.ns with
  | nil => rw [hn] at h; cases h
  | cons x r => rw [hn] at h; cases h
theorem Bx.has {B : Box} {H : Hp} (h : Bx B H) : ∃ u, H B.b = some u := by
  obtain ⟨⟨i, r, s, hb, _⟩, hl⟩ := h
  exact ⟨_, hb⟩
theorem Bx.keep {B : Box} {H H' : Hp} (h : Bx B H) (e : ∀ a o, a = B.b ∨ a = B.l → H a = some o → H' a = some o) : Bx B H' := by
  obtain ⟨⟨i, r, s, hb, z⟩, hl⟩ := h
  exact ⟨⟨i, r, s, e _ _ (.inl rfl) hb, z⟩, e _ _ (.inr rfl) hl⟩
theorem Bx.ex {B : Box} {H H' : Hp} (h : Bx B H) (e : Evl.Ex H H') : Bx B H' := h.keep fun a o _ q => e a o q
/-- a step of the law's own: the box goes on, all else stands -/
structure Go (B : Box) (H H' : Hp) : Prop where
  kp : Kp B.b H H'
  bx : Bx B H'
theorem Go.refl {B : Box} {H : Hp} (h : Bx B H) : Go B H H := ⟨fun _ _ _ q => q, h⟩
theorem Go.trans {B : Box} {H H1 H2 : Hp} (x : Go B H H1) (y : Go B H1 H2) : Go B H H2 := ⟨fun a o n h => y.kp a o n (x.kp a o n h), y.bx⟩
theorem Go.ex {B : Box} {H H1 H2 : Hp} (x : Go B H H1) (y : Evl.Ex H1 H2) : Go B H H2 := ⟨fun a o n h => y a o (x.kp a o n h), x.bx.ex y⟩
theorem Go.new {B : Box} {H H' : Hp} {p : Addr} {o : HO} (x : Go B H H') (h : H' p = none) : Go B H (upd H' p o) := x.ex (Evl.Ex.new h)
theorem Go.mut {B : Box} {H H' : Hp} {p : Addr} {o : HO} (hb : Bx B H) (x : Go B H H') (h : H p = none) : Go B H (upd H' p o) := by
  obtain ⟨u, hu⟩ := hb.has
  have n1 : B.b ≠ p := ne_of_none hu h
  have n2 : B.l ≠ p := ne_of_none hb.li h
  refine ⟨fun a u n ha => ?_, x.bx.keep fun a o ha q => ?_⟩
  · rw [upd_ne (ne_of_none ha h)]
    exact x.kp a u n ha
  · rcases ha with rfl | rfl
    · rw [upd_ne n1]; exact q
    · rw [upd_ne n2]; exact q
theorem Go.fresh {B : Box} {H H' : Hp} (x : Go B H H') {p : Addr} (hp : H' p = none) : H p = none := by
  cases h1 : H p with
  | none => rfl
  | some u =>
    by_cases hpb : p = B.b
    · subst hpb
      obtain ⟨u, hu⟩ := x.bx.has
      rw [hu] at hp
      cases hp
    · rw [x.kp p u hpb h1] at hp
      cases hp
/-- what is no list stays -/
theorem Go.tup {B : Box} {H H' : Hp} (x : Go B H H') (hb : Bx B H) {a : Addr} {xs : List V} (h : H a = some (.tup xs)) : H' a = some (.tup xs) := by
  obtain ⟨⟨i, r, s, hb, _⟩, hl⟩ := hb
  exact x.kp a _ (ne_of h hb (by intro e; cases e)) h
/-- a list that isn't the box -/
theorem Go.lst {B : Box} {H H' : Hp} (x : Go B H H') {a : Addr} {o : HO} (n : a ≠ B.b) (h : H a = some o) : H' a = some o := x.kp a _ n h
theorem Bx.nb {B : Box} {H : Hp} (h : Bx B H) {p : Addr} (hp : H p = none) : p ≠ B.b := fun e => by
  obtain ⟨u, hu⟩ := h.has
  rw [e, hu] at hp
  cases hp
end Tl

namespace Tl
open PySem PySem.Spec PyProof.Rows L2
abbrev sBox : Stmt := topS 16
abbrev sTake : Stmt := topS 17
theorem scBox : FnScope ["_law_script"] ["_law_script"] (defScope sBox) := ⟨rfl, rfl, rfl, by decide +kernel, rfl, by decide +kernel, by decide +kernel⟩
theorem scTake : FnScope ["_law_box_here", "_law_many", "_law_rest", "_law_cell", "_law_seed"] ["_law_box_here", "_law_many"] (defScope sTake) := ⟨rfl, rfl, rfl, by decide +kernel, rfl, by decide +kernel, by decide +kernel⟩
section
variable {P : Program} {w : World} {K : PySem.W.Frag} {mg : Str → Option Value} {base : Heap}
def spTake : Sp := fun vs H Q _ => ∃ (B : Box) (m : Int), vs = [.ref B.b, .int m] ∧ Bx B H ∧ 0 < m ∧ m < 1073741824 ∧ ∀ (v : Int) H', 0 ≤ v → v < m → Go B H H' → Q (.int v) H'
theorem ok_take {f : Addr} {fd : FuncData} {k : Nat} (F : Fun K "_law_take" "_law_take" sTake f fd) (ml : mg "len" = none) : FnOk P w K mg base CX0 (k + 1) f fd ["_law_box_here", "_law_many"] spTake := by
  refine F.ok scTake (fun vs H Q E h => ?_) (fun cdv A outer s H vs Q E hr h => ?_)
  · obtain ⟨B, m, rfl, _⟩ := h
    rfl
  · obtain ⟨B, m, rfl, hB, hm0, hm1, q⟩ := h
    have hne := hB.ne
    have hB0 := hB
    obtain ⟨⟨i, r, s, hb, hi, hr0, hs0, hs1⟩, hl⟩ := hB
    refine ⟨_, pss_cons (ps_if (pt_cmpR op_gt (pe_ix ix_list (pv 0) pe_int (fun _ _ => rfl)) pe_int (nomark _))
        (pss_cons (ps_set (i := 2) scTake.nd rfl (.inl rfl) (pe_ix ix_list (pv 0) pe_int (fun _ _ => rfl)))
        (pss_cons (ps_asg (pe_op op_fdiv (pv 2) (pv 1)) (pg_sub (pv 0) pe_int set_list))
        (pss_one (ps_ret (pe_op op_mod (pv 2) (pv 1)))))) pss_nil)
      (pss_cons (ps_set (i := 3) scTake.nd rfl (.inl rfl) pe_int)
      (Evl.pss_cut (ps_if (pt_cmpR op_lt (pe_ix ix_list (pv 0) pe_int (fun _ _ => rfl)) (pe_callB call_len_seq (by rfl) ml PySem.boot_len (pa_cons (pe_ix ix_list (pv 0) pe_int (fun _ _ => rfl)) pa_nil)) (nomark _))
         (pss_cons (ps_set (i := 3) scTake.nd rfl (.inl rfl) (pe_ix ix_list (pe_ix ix_list (pv 0) pe_int (fun _ _ => rfl)) (pe_ix ix_list (pv 0) pe_int (fun _ _ => rfl)) (fun _ _ => rfl)))
         (pss_one (ps_augS (pv 0) pe_int get_nn pe_int ip_add set_list))) pss_nil)
      (pss_cons (ps_if (pt_cmpR op_ge (pv 3) (pe_op op_pow pe_int pe_int) (nomark _))
         (pss_cons (ps_asg (pe_op op_fdiv (pv 3) (pv 1)) (pg_sub (pv 0) pe_int set_list)) (pss_one (ps_ret (pe_op op_mod (pv 3) (pv 1))))) pss_nil)
      (pss_cons (ps_set (i := 4) scTake.nd rfl (.inl rfl) (pe_ix ix_list (pv 0) pe_int (fun _ _ => rfl)))
      (pss_cons (ps_set (i := 4) scTake.nd rfl (.inl rfl) (pe_op op_add (pe_op op_add (pe_op op_pow (pv 4) pe_int) (pe_op op_mul pe_int (pv 4))) (pe_op op_mul pe_int (pe_op op_mod (pv 3) pe_int))))
      (pss_cons (ps_asg (pe_op op_mod (pe_op op_add (pv 4) pe_int) pe_int) (pg_sub (pv 0) pe_int set_list))
      (pss_one (ps_ret (pe_op op_mod (pe_op op_fdiv (pe_ix ix_list (pv 0) pe_int (fun _ _ => rfl)) pe_int) (pv 1)))))))))), ?_⟩
    have cd : CDiv r m := ⟨hm0, hm1⟩
    have mod0 : ∀ x : Int, 0 ≤ x % m := fun x => Int.emod_nonneg x (by omega)
    have mod1 : ∀ x : Int, x % m < m := fun x => Int.emod_lt_of_pos x hm0
    -- if box[2] > 0
    refine ⟨.ref B.b, rfl, B.b, _, 2, .int r, rfl, rfl, .inl (.inl hb), rfl, r, 0, rfl, rfl, _, rfl, ite2 (fun e => ?_) (fun e => ?_)⟩
    · have e1 : 0 < r := of_decide_eq_true e
      refine ⟨.ref B.b, rfl, B.b, _, 2, .int r, rfl, rfl, .inl (.inl hb), rfl, ?_⟩
      refine ⟨.int r, rfl, .int m, rfl, r, m, rfl, rfl, cd, .ref B.b, rfl, B.b, _, 2, 2, rfl, rfl, hb, rfl, ?_⟩
      refine ⟨.int r, rfl, .int m, rfl, r, m, rfl, rfl, hm0, q (r % m) _ (mod0 r) (mod1 r) ⟨?_, ?_⟩⟩
      · intro a o n h
        rw [upd_ne n]
        exact h
      · exact ⟨⟨i, r / m, s, upd_same, hi, Int.ediv_nonneg hr0 (by omega), hs0, hs1⟩, by rw [upd_ne hne]; exact hl⟩
    · -- cell = 0; if box[1] < len(box[0])
      refine ⟨fun σ' H' => ∃ (c : Int) (i' : Nat), σ' = [some (.ref B.b), some (.int m), none, some (.int c), none] ∧ H' B.b = some (.lst [.ref B.l, .int (i' : Int), .int r, .int s]) ∧ i' ≤ B.ns.length ∧ Go B H H', ?_, ?_⟩
      · refine ⟨.ref B.b, rfl, B.b, _, 1, .int (i : Int), rfl, rfl, .inl (.inl hb), rfl, .ref B.b, rfl, B.b, _, 0, .ref B.l, rfl, rfl, .inl (.inl hb), rfl, B.l, _, rfl, .inl (.inl (.inl hl)), _, _, rfl, rfl, _, rfl, ite2 (fun e1 => ?_) (fun e1 => ?_)⟩
        · have e2 : (i : Int) < ((B.ns.map V.int).length : Int) := of_decide_eq_true e1
          rw [List.length_map] at e2
          have e3 : i < B.ns.length := by omega
          have g : atI (B.ns.map V.int) (i : Int) = some (.int B.ns[i]) := atI_nat (by rw [List.getElem?_map, List.getElem?_eq_getElem e3]; rfl)
          refine ⟨.ref B.b, rfl, B.b, _, 0, .ref B.l, rfl, rfl, .inl (.inl hb), rfl, .ref B.b, rfl, B.b, _, 1, .int (i : Int), rfl, rfl, .inl (.inl hb), rfl, B.l, _, _, _, rfl, rfl, .inl (.inl hl), g, ?_⟩
          refine ⟨.ref B.b, rfl, B.b, _, 1, .int (i : Int), rfl, rfl, .inl (.inl hb), rfl, (i : Int), 1, rfl, rfl, B.b, _, 1, 1, rfl, rfl, hb, rfl, B.ns[i], i + 1, rfl, ?_, e3, ?_, ?_⟩
          · exact upd_same
          · intro a o n h
            rw [upd_ne n]
            exact h
          · exact ⟨⟨i + 1, r, s, upd_same, e3, hr0, hs0, hs1⟩, by rw [upd_ne hne]; exact hl⟩
        · exact ⟨0, i, rfl, hb, hi, Go.refl hB0⟩
      · rintro σ' H' ⟨c, i', rfl, hb', hi', g⟩
        have hl' := g.bx.li
        -- if cell >= 10 ** 18
        refine ⟨.int c, rfl, 10, 18, rfl, rfl, ⟨by decide, by decide, by decide⟩, c, _, rfl, rfl, _, rfl, ite2 (fun e1 => ?_) (fun e1 => ?_)⟩
        · have e2 : (10 : Int) ^ 18 ≤ c := of_decide_eq_true e1
          have e3 : 0 ≤ c := by
            have : (0 : Int) ≤ 10 ^ 18 := by decide
            omega
          refine ⟨.int c, rfl, .int m, rfl, c, m, rfl, rfl, cd, .ref B.b, rfl, B.b, _, 2, 2, rfl, rfl, hb', rfl, ?_⟩
          refine ⟨.int c, rfl, .int m, rfl, c, m, rfl, rfl, hm0, q (c % m) _ (mod0 c) (mod1 c) ⟨?_, ?_⟩⟩
          · intro a o n h
            rw [upd_ne n]
            exact g.kp a o n h
          · exact ⟨⟨i', c / m, s, upd_same, hi', Int.ediv_nonneg e3 (by omega), hs0, hs1⟩, by rw [upd_ne hne]; exact hl'⟩
        · refine ⟨.ref B.b, rfl, B.b, _, 3, .int s, rfl, rfl, .inl (.inl hb'), rfl, ?_⟩
          refine ⟨.int s, rfl, s, 3, rfl, rfl, ⟨by decide, by decide, by omega⟩, .int s, rfl, 48271, s, rfl, rfl, .inl ⟨by decide, by decide⟩, _, _, rfl, rfl, .int c, rfl, c, 2147483629, rfl, rfl, (by show (0 : Int) < 2147483629; decide), 69621, _, rfl, rfl, .inl ⟨by decide, by decide⟩, _, _, rfl, rfl, ?_⟩
          refine ⟨_, rfl, _, 11, rfl, rfl, _, 2147483629, rfl, rfl, (by show (0 : Int) < 2147483629; decide), .ref B.b, rfl, B.b, _, 3, 3, rfl, rfl, hb', rfl, ?_⟩
          refine ⟨.ref B.b, rfl, B.b, _, 3, _, rfl, rfl, .inl (.inl upd_same), rfl, _, 64, rfl, rfl, ⟨by decide, by decide⟩, .int m, rfl, _, m, rfl, rfl, hm0, q _ _ (mod0 _) (mod1 _) ⟨?_, ?_⟩⟩
          · intro a o n h
            rw [upd_ne n]
            exact g.kp a o n h
          · exact ⟨⟨i', r, _, upd_same, hi', hr0, Int.emod_nonneg _ (by decide), Int.emod_lt_of_pos _ (by decide)⟩, by rw [upd_ne hne]; exact hl'⟩
end
end Tl

namespace Tl
open PySem PySem.Spec PyProof.Rows L2
theorem sz {n : Nat} (h : n ≤ 100000) : n ≤ sizeLine := Evl.sz_of h
/-! ### what the law's own pieces give -/
def EvG (B : Box) (te : TE) (σ : L2.St) (H : Hp) (R : V → Prop) : Prop := ∀ Q : VK, (∀ v H', Go B H H' → R v → Q v H') → te σ H Q
def EvGT (B : Box) (tt : TT) (σ : L2.St) (H : Hp) : Prop := ∀ Q : Bool → Hp → Prop, (∀ b H', Go B H H' → Q b H') → tt σ H Q
/-- a comprehension over range(n), values by their places -/
theorem lcG_range {lo : Int} {n j : Nat} {te : TE} {vs : List Nat} {σ : L2.St} {H1 : Hp} {D : Addr} {Qd : Hp → Prop} (B : Box) (R : Nat → V → Prop) (hB : Bx B H1) (hD : H1 D = none) (hn : n ≤ 50000)
    (hw : ∀ x, wipe ((wipe σ vs).set j (some x)) vs = wipe σ vs) (hs : ∀ i, i < n → ∀ H, Go B H1 H → EvG B te ((wipe σ vs).set j (some (.int (lo + (i : Int))))) H (R i))
    (hd : ∀ H ys, Go B H1 H → H D = some (.lst ys) → ys.length = n → (∀ (i : Nat) (y : V), ys[i]? = some y → R i y) → Qd H) :
    ∃ W : Nat → Nat → Hp → Prop, (∃ m, W 0 m (upd H1 D (.lst []))) ∧ ∀ i m H, W i m H →
      ((Itr lo n).stop i H ∧ Qd H) ∨ ((Itr lo n).go i H ∧ ∃ Nx : Hp → Prop, (∀ H', Nx H' → ∃ m', m' < m ∧ W (i + 1) m' H') ∧ ∀ x H', (Itr lo n).yld i H x H' → gName j x (wipe σ vs) H' fun σ2 H2 => wipe σ2 vs = wipe σ vs ∧ tYes σ2 H2 fun b H3 =>
        if b = true then te σ2 H3 fun y H4 => ∃ acc, H4 D = some (.lst acc) ∧ acc.length < sizeLine ∧ Nx (upd H4 D (.lst (acc ++ [y]))) else Nx H3) := by
  refine lc_range (g := gName j) (tt := tYes) (fun i H => Go B H1 H ∧ ∃ ys : List V, H D = some (.lst ys) ∧ ys.length = i ∧ ∀ k y, ys[k]? = some y → R k y) ⟨(Go.refl hB).new hD, [], upd_same, rfl, fun k y e => by simp at e⟩ (fun i H hi p => ?_) (fun H p => ?_)
  · obtain ⟨g, ys, hy, hl, hR⟩ := p
    refine ⟨hw _, ?_⟩
    refine hs i hi H g _ fun v H' g' r => ⟨ys, g'.lst (hB.nb hD) hy, Evl.sz_lt (by omega), Go.mut hB (g.trans g') hD, ys ++ [v], upd_same, by rw [List.length_append, hl]; rfl, fun k y e => ?_⟩
    by_cases hk : k < ys.length
    · rw [List.getElem?_append_left hk] at e
      exact hR k y e
    · rw [List.getElem?_append_right (by omega)] at e
      cases hkk : k - ys.length with
      | zero =>
        rw [hkk] at e
        have e2 : v = y := Option.some.inj e
        have e3 : k = i := by omega
        rw [← e2, e3]
        exact r
      | succ z =>
        rw [hkk] at e
        simp at e
  · obtain ⟨g, ys, hy, hl, hR⟩ := p
    exact hd H ys g hy hl hR
/-- a comprehension over a list (not the box), with a test of any answer -/
theorem lcG_list {K : PySem.W.Frag} {a : Addr} {xs : List V} {j : Nat} {tt : TT} {te : TE} {vs : List Nat} {σ : L2.St} {H1 : Hp} {D : Addr} {Qd : Hp → Prop} (B : Box) (R : V → Prop) (hB : Bx B H1) (hD : H1 D = none) (hn : xs.length ≤ 50000) (ha : a ≠ B.b) (hx : H1 a = some (.lst xs))
    (hw : ∀ x, wipe ((wipe σ vs).set j (some x)) vs = wipe σ vs) (ht : ∀ (i : Nat) (x : V), xs[i]? = some x → ∀ H, Go B H1 H → EvGT B tt ((wipe σ vs).set j (some x)) H)
    (hs : ∀ (i : Nat) (x : V), xs[i]? = some x → ∀ H, Go B H1 H → EvG B te ((wipe σ vs).set j (some x)) H R)
    (hd : ∀ H ys, Go B H1 H → H D = some (.lst ys) → ys.length ≤ xs.length → (∀ y ∈ ys, R y) → Qd H) :
    ∃ W : Nat → Nat → Hp → Prop, (∃ m, W 0 m (upd H1 D (.lst []))) ∧ ∀ i m H, W i m H →
      ((Itl K a).stop i H ∧ Qd H) ∨ ((Itl K a).go i H ∧ ∃ Nx : Hp → Prop, (∀ H', Nx H' → ∃ m', m' < m ∧ W (i + 1) m' H') ∧ ∀ x H', (Itl K a).yld i H x H' → gName j x (wipe σ vs) H' fun σ2 H2 => wipe σ2 vs = wipe σ vs ∧ tt σ2 H2 fun b H3 =>
        if b = true then te σ2 H3 fun y H4 => ∃ acc, H4 D = some (.lst acc) ∧ acc.length < sizeLine ∧ Nx (upd H4 D (.lst (acc ++ [y]))) else Nx H3) := by
  refine lc_list (K := K) (a := a) (xs := xs) (g := gName j) (tt := tt) (fun i H => i ≤ xs.length ∧ Go B H1 H ∧ ∃ ys : List V, H D = some (.lst ys) ∧ ys.length ≤ i ∧ ∀ y ∈ ys, R y) ⟨Nat.zero_le _, (Go.refl hB).new hD, [], upd_same, Nat.le_refl _, fun y e => by simp at e⟩ (fun i H _ p => .inl (.inl (p.2.1.lst ha hx))) (fun i x H hi p => ?_) (fun H p => ?_)
  · obtain ⟨hle, g, ys, hy, hl, hR⟩ := p
    have hlt := (List.getElem?_eq_some_iff.mp hi).1
    refine ⟨hw _, ht i x hi H g _ fun b H3 g3 => ?_⟩
    cases b with
    | true =>
      refine iteT ?_
      refine hs i x hi H3 (g.trans g3) _ fun v H' g' r => ⟨ys, (g3.trans g').lst (hB.nb hD) hy, Evl.sz_lt (by omega), by omega, Go.mut hB ((g.trans g3).trans g') hD, ys ++ [v], upd_same, by rw [List.length_append]; show ys.length + 1 ≤ i + 1; omega, fun y e => ?_⟩
      rcases List.mem_append.mp e with e | e
      · exact hR y e
      · rw [List.mem_singleton.mp e]
        exact r
    | false =>
      refine iteF ⟨by omega, g.trans g3, ys, g3.lst (hB.nb hD) hy, by omega, hR⟩
  · obtain ⟨hle, g, ys, hy, hl, hR⟩ := p
    exact hd H ys g hy hl hR
section
variable {P : Program} {w : World} {K : PySem.W.Frag} {mg : Str → Option Value} {base : Heap}
/-! ### the box made -/
def spBox (K : PySem.W.Frag) : Sp := fun vs H Q _ => ∃ (a : Addr) (ns : List Int), vs = [.ref a] ∧ SqL K H a (ns.map V.int) ∧ ∀ (B : Box) H', Evl.Ex H H' → H B.b = none → H B.l = none → Bx B H' → Q (.ref B.b) H'
theorem ok_box {f : Addr} {fd : FuncData} {k : Nat} (F : Fun K "_law_box" "_law_box" sBox f fd) (ml : mg "list" = none) : FnOk P w K mg base CX0 (k + 1) f fd ["_law_script"] (spBox K) := by
  refine F.ok scBox (fun vs H Q E h => ?_) (fun cdv A outer s H vs Q E hr h => ?_)
  · obtain ⟨a, ns, rfl, _⟩ := h
    rfl
  · obtain ⟨a, ns, rfl, hS, q⟩ := h
    refine ⟨_, pss_one (ps_ret (pe_lst (pa_cons (pe_callTy call_list_of (by rfl) ml (by decide +kernel) (pa_cons (pe_slice sl_list (pv 0) po_none (po_some pe_int)) pa_nil)) (pa_cons pe_int (pa_cons pe_int (pa_cons pe_int pa_nil)))))), ?_⟩
    refine ⟨.ref a, rfl, 63, rfl, a, _, rfl, hS, fun c nc => ?_⟩
    refine ⟨c, _, rfl, .inl (.inl (.inl upd_same)), fun l nl => ?_⟩
    refine ⟨by show 4 ≤ sizeLine; decide, fun b nb => ?_⟩
    have e1 : Evl.Ex H (upd H c (.lst (cutV (ns.map V.int) none (some 63)))) := Evl.Ex.new nc
    have nl0 : H l = none := Evl.fresh_back e1 nl
    have e2 := e1.trans (Evl.Ex.new (o := .lst (cutV (ns.map V.int) none (some 63))) nl)
    have nb0 : H b = none := Evl.fresh_back e2 nb
    have nlb : l ≠ b := fun e => by
      rw [← e, upd_same] at nb
      cases nb
    refine q ⟨b, l, (ns.drop (HT.sIx (ns.map V.int).length 0 none)).take (HT.sIx (ns.map V.int).length (ns.map V.int).length (some 63) - HT.sIx (ns.map V.int).length 0 none)⟩ _ (e2.trans (Evl.Ex.new nb)) nb0 nl0 ⟨⟨0, 0, 17, upd_same, Nat.zero_le _, by decide, by decide, by decide⟩, ?_⟩
    show upd _ b _ l = _
    rw [upd_ne nlb, upd_same]
    unfold cutV
    rw [List.map_take, List.map_drop]
/-! ### bits -/
abbrev sBits : Stmt := topS 20
theorem scBits : FnScope ["_law_box_here", "_law_many", "_law_k"] ["_law_box_here", "_law_many"] (defScope sBits) := ⟨rfl, rfl, rfl, by decide +kernel, rfl, by decide +kernel, by decide +kernel⟩
theorem joinL_nil : ∀ l : List (List Nat), TL.joinL [] l = l.flatten
  | [] => rfl
  | [p] => by simp [TL.joinL]
  | p :: q :: r => by
    show p ++ ([] ++ TL.joinL [] (q :: r)) = _
    rw [List.nil_append, joinL_nil (q :: r)]
    rfl
theorem tl_join0 (ys : List Str) : TL.tl (Txt.join "" ys) = (ys.map TL.tl).flatten := by
  rw [TL.join_eq, TL.tl_join, show TL.tl ("" : Str) = [] from rfl, joinL_nil]
/-- strings by values -/
theorem strs_of : ∀ {ys : List V} {R : Str → Prop}, (∀ y ∈ ys, ∃ s, y = .str s ∧ R s) → ∃ zs : List Str, ys = zs.map V.str ∧ ∀ z ∈ zs, R z
  | [], _, _ => ⟨[], rfl, fun z h => by simp at h⟩
  | y :: ys, R, h => by
    obtain ⟨s, e, r⟩ := h y (List.mem_cons_self ..)
    obtain ⟨zs, ez, rz⟩ := strs_of (ys := ys) (R := R) fun y hy => h y (List.mem_cons_of_mem _ hy)
    refine ⟨s :: zs, by rw [e, ez]; rfl, fun z hz => ?_⟩
    rcases List.mem_cons.mp hz with rfl | hz
    · exact r
    · exact rz z hz
theorem of_ix {ys : List V} {R : V → Prop} (h : ∀ (i : Nat) (y : V), ys[i]? = some y → R y) : ∀ y ∈ ys, R y := fun y hy => by
  obtain ⟨i, hi⟩ := List.mem_iff_getElem?.mp hy
  exact h i y hi
theorem ones_len : ∀ {zs : List Str}, (∀ z ∈ zs, (TL.tl z).length = 1) → ((zs.map TL.tl).flatten).length = zs.length
  | [], _ => rfl
  | z :: zs, h => by
    rw [List.map_cons, List.flatten_cons, List.length_append, ones_len fun y hy => h y (List.mem_cons_of_mem _ hy), h z (List.mem_cons_self ..), List.length_cons]
    omega
theorem ones_sum : ∀ {zs : List Str}, (∀ z ∈ zs, (TL.tl z).length = 1) → (zs.map (·.length)).sum = zs.length
  | [], _ => rfl
  | z :: zs, h => by
    rw [List.map_cons, List.sum_cons, ones_sum fun y hy => h y (List.mem_cons_of_mem _ hy), TL.len_tl, h z (List.mem_cons_self ..), List.length_cons]
    omega
theorem flat_all {zs : List Str} {p : Nat → Prop} (h : ∀ z ∈ zs, ∀ c ∈ TL.tl z, p c) : ∀ c ∈ (zs.map TL.tl).flatten, p c := fun c hc => by
  obtain ⟨l, hl, hcl⟩ := List.mem_flatten.mp hc
  obtain ⟨z, hz, rfl⟩ := List.mem_map.mp hl
  exact h z hz c hcl
def Bit (c : Nat) : Prop := c = 48 ∨ c = 49
def spBits : Sp := fun vs H Q _ => ∃ (B : Box) (m : Int), vs = [.ref B.b, .int m] ∧ Bx B H ∧ 0 ≤ m ∧ m ≤ 1000 ∧ ∀ (z : Str) H', Go B H H' → z.length = m.toNat → (∀ c ∈ TL.tl z, Bit c) → Q (.str z) H'
theorem ok_bits {f ft : Addr} {fd fdt : FuncData} {k : Nat} (F : Fun K "_law_bits" "_law_bits" sBits f fd) (FT : Fun K "_law_take" "_law_take" sTake ft fdt) (bT : Binds K fdt ["_law_box_here", "_law_many"] []) (gT : mg "_law_take" = some (.ref ft)) (ml : mg "len" = none) (mr : mg "range" = none) :
    FnOk P w K mg base CX0 (k + 2) f fd ["_law_box_here", "_law_many"] spBits := by
  have GT : FnOk P w K mg base CX0 (k + 1) ft fdt ["_law_box_here", "_law_many"] spTake := ok_take FT ml
  refine F.ok scBits (fun vs H Q E h => ?_) (fun cdv A outer s H vs Q E hr h => ?_)
  · obtain ⟨B, m, rfl, _⟩ := h
    rfl
  · obtain ⟨B, m, rfl, hB, hm0, hm1, q⟩ := h
    refine ⟨_, pss_one (ps_ret (pe_join pe_str (pe_lc (own := [("_law_k", 2)]) (g := gName 2) (tt := tYes) rfl scBits.nd (pi_range1 rfl mr (pa_cons (pv 1) pa_nil)) (blkOk_by (N := ["_law_box_here", "_law_many", "_law_k"]) (sc := defScope sBits) (by decide +kernel))
      (fun _ _ _ _ _ => pg_name (i := 2) scBits.nd rfl (Or.inl rfl)) (fun _ _ _ _ _ => pts_nil)
      (fun _ _ _ _ _ => pe_ix (r := rIxL K) ix_list (pe_lst (pa_cons pe_str (pa_cons pe_str pa_nil))) (pe_call GT hr (by rfl) gT FT.kp bT .nil pass0 (pa_cons (pv 0) (pa_cons pe_int pa_nil))) (fun _ _ => rfl))))), ?_⟩
    refine ⟨⟨_, rfl⟩, .int m, rfl, m, rfl, by omega, by omega, fun D hD => ?_⟩
    refine lcG_range (j := 2) B (fun _ y => ∃ z, y = .str z ∧ ((TL.tl z).length = 1 ∧ ∀ c ∈ TL.tl z, Bit c)) hB hD (by omega) (fun _ => rfl) (fun i hi H1 g1 => ?_) (fun H1 ys g1 hy hl hR => ?_)
    · intro Q' q'
      refine ⟨by decide, fun p np => ?_⟩
      have hB1 : Bx B (upd H1 p (.lst [.str "0", .str "1"])) := g1.bx.ex (Evl.Ex.new np)
      refine ⟨.ref B.b, rfl, B, 2, rfl, hB1, by decide, by decide, fun v H2 hv0 hv1 g2 => ?_⟩
      have hp2 : H2 p = some (.lst [.str "0", .str "1"]) := g2.lst (g1.bx.nb np) upd_same
      have gg : Go B H1 H2 := ((Go.refl g1.bx).new np).trans g2
      have hv : v = 0 ∨ v = 1 := by omega
      rcases hv with rfl | rfl
      · exact ⟨p, _, 0, .str "0", rfl, rfl, .inl (.inl hp2), rfl, q' _ _ gg ⟨_, rfl, rfl, fun c hc => .inl (List.mem_singleton.mp hc)⟩⟩
      · exact ⟨p, _, 1, .str "1", rfl, rfl, .inl (.inl hp2), rfl, q' _ _ gg ⟨_, rfl, rfl, fun c hc => .inr (List.mem_singleton.mp hc)⟩⟩
    · obtain ⟨zs, rfl, hz⟩ := strs_of (of_ix hR)
      rw [List.length_map] at hl
      have h1 := ones_sum fun z h => (hz z h).1
      refine ⟨"", D, zs, rfl, rfl, .inl (.inl (.inl hy)), ?_, q _ _ g1 ?_ ?_⟩
      · rw [h1]
        show zs.length + zs.length * 0 ≤ _
        omega
      · rw [TL.len_tl, tl_join0, ones_len fun z h => (hz z h).1]
        omega
      · rw [tl_join0]
        exact flat_all fun z h => (hz z h).2
end
end Tl

namespace Tl
open PySem PySem.Spec PyProof.Rows L2
/-! ### names -/
def Let (c : Nat) : Prop := 97 ≤ c ∧ c ≤ 122
structure NameOk (s : Str) : Prop where
  lo : 1 ≤ s.length
  hi : s.length ≤ 8
  le : ∀ c ∈ TL.tl s, Let c
abbrev abc : Str := "abcdefghijklmnopqrstuvwxyz"
theorem abc_at : ∀ i : Nat, i < 26 → (TL.tl abc)[i]? = some (97 + i) := by decide +kernel
def folkN (first : Str) (a k : Nat) : Str := first ++ (⟨#[97 + (a + 11 * k) % 26]⟩ : Str)
def pairN (first : Str) (a k : Nat) : Str := cutS (folkN first a (k - k % 2)) (some (-7)) none ++ (if k % 2 = 0 then ("" : Str) else ("b" : Str))
structure PoolOf (n : Nat) (ys : List Str) (first : Str) (a : Nat) : Prop where
  le : ∀ c ∈ TL.tl first, Let c
  len : first.length ≤ 7
  at_ : a < 26
  ys : ys = (List.range n).map (folkN first a) ∨ ys = (List.range n).map (pairN first a)
theorem folk_ok {first : Str} {a : Nat} (h : ∀ c ∈ TL.tl first, Let c) (hl : first.length ≤ 7) (k : Nat) : NameOk (folkN first a k) := by
  have e : TL.tl (folkN first a k) = TL.tl first ++ [97 + (a + 11 * k) % 26] := TL.tl_append _ _
  have hl2 : (TL.tl first).length ≤ 7 := by rw [← TL.len_tl]; exact hl
  refine ⟨?_, ?_, fun c hc => ?_⟩
  · rw [TL.len_tl, e, List.length_append]; show 1 ≤ _ + 1; omega
  · rw [TL.len_tl, e, List.length_append]; show _ + 1 ≤ 8; omega
  · rw [e] at hc
    rcases List.mem_append.mp hc with hc | hc
    · exact h c hc
    · rw [List.mem_singleton.mp hc]
      have := Nat.mod_lt (a + 11 * k) (show 0 < 26 by decide)
      exact ⟨by omega, by omega⟩
theorem cut7 (z : Str) : TL.tl (cutS z (some (-7)) none) = (TL.tl z).drop ((TL.tl z).length - 7) := by
  show ((z.cps.toList.drop (HT.sIx z.length 0 (some (-7)))).take (HT.sIx z.length z.length none - HT.sIx z.length 0 (some (-7)))) = _
  have hz : z.length = z.cps.toList.length := TL.len_tl z
  rw [HT.sIx_none]
  have e : HT.sIx z.length 0 (some (-7)) = z.cps.toList.length - 7 := by
    rw [hz]
    unfold HT.sIx
    simp
    omega
  rw [e, hz]
  refine List.take_of_length_le ?_
  rw [List.length_drop]
  exact Nat.le_refl _
theorem pair_ok {first : Str} {a : Nat} (h : ∀ c ∈ TL.tl first, Let c) (hl : first.length ≤ 7) (k : Nat) : NameOk (pairN first a k) := by
  obtain ⟨f1, f2, f3⟩ := folk_ok (a := a) h hl (k - k % 2)
  rw [TL.len_tl] at f1 f2
  have e : TL.tl (pairN first a k) = (TL.tl (folkN first a (k - k % 2))).drop ((TL.tl (folkN first a (k - k % 2))).length - 7) ++ TL.tl (if k % 2 = 0 then ("" : Str) else ("b" : Str)) := by
    unfold pairN
    rw [TL.tl_append, cut7]
  have l1 : (TL.tl (if k % 2 = 0 then ("" : Str) else ("b" : Str))).length ≤ 1 := by split <;> decide
  have l2 : ∀ c ∈ TL.tl (if k % 2 = 0 then ("" : Str) else ("b" : Str)), Let c := by
    split
    · intro c hc; exact absurd hc (by decide +revert)
    · intro c hc
      have : c = 98 := List.mem_singleton.mp hc
      rw [this]
      exact ⟨by decide, by decide⟩
  refine ⟨?_, ?_, fun c hc => ?_⟩
  · rw [TL.len_tl, e, List.length_append, List.length_drop]; omega
  · rw [TL.len_tl, e, List.length_append, List.length_drop]; omega
  · rw [e] at hc
    rcases List.mem_append.mp hc with hc | hc
    · exact f3 c (List.mem_of_mem_drop hc)
    · exact l2 c hc
theorem PoolOf.ok {n : Nat} {ys : List Str} {first : Str} {a : Nat} (p : PoolOf n ys first a) : ∀ y ∈ ys, NameOk y := fun y hy => by
  rcases p.ys with e | e
  · rw [e] at hy
    obtain ⟨k, _, rfl⟩ := List.mem_map.mp hy
    exact folk_ok p.le p.len k
  · rw [e] at hy
    obtain ⟨k, _, rfl⟩ := List.mem_map.mp hy
    exact pair_ok p.le p.len k
theorem PoolOf.length {n : Nat} {ys : List Str} {first : Str} {a : Nat} (p : PoolOf n ys first a) : ys.length = n := by
  rcases p.ys with e | e <;> rw [e, List.length_map, List.length_range]
/-- values by places -/
theorem by_ix {ys : List V} {n : Nat} {f : Nat → V} (hl : ys.length = n) (h : ∀ (i : Nat) (y : V), ys[i]? = some y → y = f i) : ys = (List.range n).map f := by
  apply List.ext_getElem?
  intro i
  by_cases hi : i < n
  · have h1 : ys[i]? = some ys[i] := List.getElem?_eq_getElem (by omega)
    rw [h1, h i _ h1, List.getElem?_map, List.getElem?_range hi]
    rfl
  · rw [List.getElem?_eq_none (by omega), List.getElem?_eq_none (by rw [List.length_map, List.length_range]; omega)]
abbrev sNames : Stmt := topS 19
abbrev nNames : List Str := ["_law_box_here", "_law_sides", "_law_letters", "_law_first", "_law_at", "_law_folk", "_law_pairs", "_law_k"]
theorem scNames : FnScope nNames ["_law_box_here", "_law_sides"] (defScope sNames) := ⟨rfl, rfl, rfl, by decide +kernel, rfl, by decide +kernel, by decide +kernel⟩
section
variable {P : Program} {w : World} {K : PySem.W.Frag} {mg : Str → Option Value} {base : Heap}
def spNames : Sp := fun vs H Q _ => ∃ (B : Box) (n : Nat), vs = [.ref B.b, .int (n : Int)] ∧ Bx B H ∧ n ≤ 1000 ∧ ∀ (p : Addr) (ys : List Str) (first : Str) (a : Nat) H', Go B H H' → H p = none → H' p = some (.lst (ys.map V.str)) → PoolOf n ys first a → Q (.ref p) H'
theorem ok_names {f ft : Addr} {fd fdt : FuncData} {k : Nat} (F : Fun K "_law_names" "_law_names" sNames f fd) (FT : Fun K "_law_take" "_law_take" sTake ft fdt) (bT : Binds K fdt ["_law_box_here", "_law_many"] []) (gT : mg "_law_take" = some (.ref ft)) (ml : mg "len" = none) (mr : mg "range" = none) :
    FnOk P w K mg base CX0 (k + 2) f fd ["_law_box_here", "_law_sides"] spNames := by
  have GT : FnOk P w K mg base CX0 (k + 1) ft fdt ["_law_box_here", "_law_many"] spTake := ok_take FT ml
  refine F.ok scNames (fun vs H Q E h => ?_) (fun cdv A outer s H vs Q E hr h => ?_)
  · obtain ⟨B, n, rfl, _⟩ := h
    rfl
  · obtain ⟨B, n, rfl, hB, hn, q⟩ := h
    refine ⟨_, pss_cons (ps_set (i := 2) scNames.nd rfl (.inr rfl) pe_str)
      (pss_cons (ps_set (i := 3) scNames.nd rfl (.inr rfl) (pe_join pe_str (pe_lc (own := [("_law_k", 7)]) (g := gName 7) (tt := tYes) rfl scNames.nd (pi_range1 rfl mr (pa_cons (pe_call GT hr (by rfl) gT FT.kp bT .nil pass0 (pa_cons (pv 0) (pa_cons pe_int pa_nil))) pa_nil)) (blkOk_by (N := nNames) (sc := defScope sNames) (by decide +kernel))
        (fun _ _ _ _ _ => pg_name (i := 7) scNames.nd rfl (Or.inl rfl)) (fun _ _ _ _ _ => pts_nil)
        (fun _ _ _ _ _ => pe_ix (r := rIxS) ix_str (pv 2) (pe_call GT hr (by rfl) gT FT.kp bT .nil pass0 (pa_cons (pv 0) (pa_cons pe_int pa_nil))) (fun _ _ => rfl)))))
      (pss_cons (ps_set (i := 4) scNames.nd rfl (.inr rfl) (pe_call GT hr (by rfl) gT FT.kp bT .nil pass0 (pa_cons (pv 0) (pa_cons pe_int pa_nil))))
      (pss_cons (ps_set (i := 5) scNames.nd rfl (.inr rfl) (pe_lc (own := [("_law_k", 7)]) (g := gName 7) (tt := tYes) rfl scNames.nd (pi_range1 rfl mr (pa_cons (pv 1) pa_nil)) (blkOk_by (N := nNames) (sc := defScope sNames) (by decide +kernel))
        (fun _ _ _ _ _ => pg_name (i := 7) scNames.nd rfl (Or.inl rfl)) (fun _ _ _ _ _ => pts_nil)
        (fun _ _ _ _ _ => pe_op op_add_str (pv 3) (pe_ix (r := rIxS) ix_str (pv 2) (pe_op op_mod (pe_op op_add (pv 4) (pe_op op_mul pe_int (pv 7))) pe_int) (fun _ _ => rfl)))))
      (pss_cons (ps_setLc (i := 6) (own := [("_law_k", 7)]) (g := gName 7) (tt := tYes) rfl scNames.nd rfl rfl (sw_true rfl rfl rfl (by decide +kernel)) (pi_range1 rfl mr (pa_cons (pv 1) pa_nil)) (blkOk_by (N := nNames) (sc := defScope sNames) (by decide +kernel))
        (fun _ _ _ _ _ => pg_name (i := 7) scNames.nd rfl (Or.inl rfl)) (fun _ _ _ _ _ => pts_nil)
        (fun _ _ _ _ _ => pe_op op_add_str (pe_slice (r := rSlS) sl_str (pe_ix (r := rIxL K) ix_list (pv 5) (pe_op op_sub (pv 7) (pe_op op_mod (pv 7) pe_int)) (fun _ _ => rfl)) (po_some (pe_un un_neg pe_int)) po_none)
          (pe_ix (r := rIxL K) ix_list (pe_lst (pa_cons pe_str (pa_cons pe_str pa_nil))) (pe_op op_mod (pv 7) pe_int) (fun _ _ => rfl))))
      (pss_one (ps_ret (pe_ix ix_list (pe_lst (pa_cons (pv 5) (pa_cons (pv 6) pa_nil))) (pe_op op_fdiv (pe_call GT hr (by rfl) gT FT.kp bT .nil pass0 (pa_cons (pv 0) (pa_cons pe_int pa_nil))) pe_int) (fun _ _ => rfl)))))))), ?_⟩
    -- first
    refine ⟨⟨_, rfl⟩, .ref B.b, rfl, B, 8, rfl, hB, by decide, by decide, fun m H1 hm0 hm1 g1 => ?_⟩
    refine ⟨m, rfl, by omega, by omega, fun D hD => ?_⟩
    refine lcG_range (j := 7) B (fun _ y => ∃ z, y = .str z ∧ ((TL.tl z).length = 1 ∧ ∀ c ∈ TL.tl z, Let c)) g1.bx hD (by omega) (fun _ => rfl) (fun i hi H2 g2 => ?_) (fun H2 ys g2 hy hl hR => ?_)
    · intro Q' q'
      refine ⟨.str abc, rfl, .ref B.b, rfl, B, 26, rfl, g2.bx, by decide, by decide, fun v H3 hv0 hv1 g3 => ?_⟩
      obtain ⟨v, rfl⟩ : ∃ u : Nat, v = u := ⟨v.toNat, by omega⟩
      refine ⟨abc, (v : Int), 97 + v, rfl, rfl, by decide, atI_nat (abc_at v (by omega)), q' _ _ g3 ⟨_, rfl, rfl, fun c hc => ?_⟩⟩
      rw [List.mem_singleton.mp hc]
      exact ⟨by omega, by omega⟩
    · obtain ⟨zs, rfl, hz⟩ := strs_of (of_ix hR)
      rw [List.length_map] at hl
      have h1 := ones_sum fun z h => (hz z h).1
      refine ⟨"", D, zs, rfl, rfl, .inl (.inl (.inl hy)), by rw [h1]; show zs.length + zs.length * 0 ≤ _; omega, ?_⟩
      have fl : (Txt.join "" zs).length ≤ 7 := by
        rw [TL.len_tl, tl_join0, ones_len fun z h => (hz z h).1]
        omega
      have fe : ∀ c ∈ TL.tl (Txt.join "" zs), Let c := by
        rw [tl_join0]
        exact flat_all fun z h => (hz z h).2
      generalize Txt.join "" zs = first at fl fe
      have gA : Go B H H2 := g1.trans g2
      -- at
      refine ⟨.ref B.b, rfl, B, 26, rfl, gA.bx, by decide, by decide, fun a H3 ha0 ha1 g3 => ?_⟩
      obtain ⟨a, rfl⟩ : ∃ u : Nat, a = u := ⟨a.toNat, by omega⟩
      have gB : Go B H H3 := gA.trans g3
      -- folk
      refine ⟨.int (n : Int), rfl, (n : Int), rfl, by omega, by omega, fun D2 hD2 => ?_⟩
      refine lcG_range (j := 7) B (fun i y => y = .str (folkN first a i)) gB.bx hD2 (by omega) (fun _ => rfl) (fun i hi H4 g4 => ?_) (fun H4 ys g4 hy4 hl4 hR4 => ?_)
      · intro Q' q'
        have e : ((a : Int) + 11 * (0 + (i : Int))) % 26 = (((a + 11 * i) % 26 : Nat) : Int) := by omega
        refine ⟨.str first, rfl, .str abc, rfl, .int a, rfl, .int (0 + (i : Int)), rfl, 11, _, rfl, rfl, .inl ⟨by decide, by decide⟩, _, _, rfl, rfl, _, 26, rfl, rfl, (by show (0 : Int) < 26; decide), ?_⟩
        have hat : atI (TL.tl abc) (((a : Int) + 11 * (0 + (i : Int))) % 26) = some (97 + (a + 11 * i) % 26) := by
          rw [e]
          exact atI_nat (abc_at _ (Nat.mod_lt _ (by decide)))
        refine ⟨abc, _, 97 + (a + 11 * i) % 26, rfl, rfl, by decide, hat, first, _, rfl, rfl, ?_, q' _ _ (Go.refl g4.bx) rfl⟩
        show first.length + 1 ≤ sizeLine
        exact sz (by omega)
      · have ey := by_ix hl4 hR4
        rw [Int.toNat_natCast] at ey
        have gC : Go B H H4 := gB.trans g4
        -- pairs
        refine ⟨.int (n : Int), rfl, (n : Int), rfl, by omega, by omega, fun D3 hD3 => ?_⟩
        refine lcG_range (j := 7) B (fun i y => y = .str (pairN first a i)) gC.bx hD3 (by omega) (fun _ => rfl) (fun i hi H5 g5 => ?_) (fun H5 zs5 g5 hy5 hl5 hR5 => ?_)
        · intro Q' q'
          have e : (0 + (i : Int)) - (0 + (i : Int)) % 2 = ((i - i % 2 : Nat) : Int) := by omega
          have e2 : (0 + (i : Int)) % 2 = ((i % 2 : Nat) : Int) := by omega
          have hf : H5 D2 = some (.lst ys) := g5.lst (gB.bx.nb hD2) hy4
          have hat : atI ys ((0 + (i : Int)) - (0 + (i : Int)) % 2) = some (.str (folkN first a (i - i % 2))) := by
            rw [e]
            refine atI_nat ?_
            rw [ey, List.getElem?_map, List.getElem?_range (by omega)]
            rfl
          refine ⟨.ref D2, rfl, .int (0 + (i : Int)), rfl, .int (0 + (i : Int)), rfl, _, 2, rfl, rfl, (by show (0 : Int) < 2; decide), _, _, rfl, rfl, ?_⟩
          have fk := folk_ok (a := a) fe fl (i - i % 2)
          refine ⟨D2, ys, _, _, rfl, rfl, .inl (.inl hf), hat, 7, rfl, _, rfl, _, rfl, sz (by have := fk.hi; omega), ?_⟩
          refine ⟨by show 2 ≤ sizeLine; decide, fun p np => ?_⟩
          refine ⟨.int (0 + (i : Int)), rfl, _, 2, rfl, rfl, (by show (0 : Int) < 2; decide), ?_⟩
          have gg : Go B H5 (upd H5 p (.lst [.str "", .str "b"])) := (Go.refl g5.bx).new np
          have cl : (cutS (folkN first a (i - i % 2)) (some (-7)) none).length ≤ 8 := Nat.le_trans (cutS_length _ _ _) fk.hi
          rcases Nat.mod_two_eq_zero_or_one i with h | h
          · have hz0 : atI [V.str "", V.str "b"] ((0 + (i : Int)) % 2) = some (.str "") := by rw [e2, h]; rfl
            refine ⟨p, _, _, .str "", rfl, rfl, .inl (.inl upd_same), hz0, _, _, rfl, rfl, ?_, q' _ _ gg ?_⟩
            · show _ + 0 ≤ sizeLine
              exact sz (by omega)
            · unfold pairN
              rw [h, if_pos rfl]
          · have hz0 : atI [V.str "", V.str "b"] ((0 + (i : Int)) % 2) = some (.str "b") := by rw [e2, h]; rfl
            refine ⟨p, _, _, .str "b", rfl, rfl, .inl (.inl upd_same), hz0, _, _, rfl, rfl, ?_, q' _ _ gg ?_⟩
            · show _ + 1 ≤ sizeLine
              exact sz (by omega)
            · unfold pairN
              rw [h, if_neg (by decide)]
        · have ez := by_ix hl5 hR5
          rw [Int.toNat_natCast] at ez
          have gD : Go B H H5 := gC.trans g5
          have h2 : H5 D2 = some (.lst ys) := g5.lst (gB.bx.nb hD2) hy4
          refine ⟨.ref D2, rfl, .ref D3, rfl, by show 2 ≤ sizeLine; decide, fun L nL => ?_⟩
          have gE := gD.new (o := .lst [.ref D2, .ref D3]) nL
          refine ⟨.ref B.b, rfl, B, 3, rfl, gE.bx, by decide, by decide, fun v H6 hv0 hv1 g6 => ?_⟩
          have hL : H6 L = some (.lst [.ref D2, .ref D3]) := g6.lst (gD.bx.nb nL) upd_same
          have k2 : H6 D2 = some (.lst ys) := g6.lst (gB.bx.nb hD2) (by rw [upd_ne (ne_of_none h2 nL)]; exact h2)
          have k3 : H6 D3 = some (.lst zs5) := g6.lst (gC.bx.nb hD3) (by rw [upd_ne (ne_of_none hy5 nL)]; exact hy5)
          have fr2 : H D2 = none := gB.fresh hD2
          have fr3 : H D3 = none := gC.fresh hD3
          have gF := gE.trans g6
          refine ⟨v, 2, rfl, rfl, ⟨by decide, by decide⟩, ?_⟩
          have hv : v / 2 = 0 ∨ v / 2 = 1 := by omega
          have m1 : ys = (((List.range n).map (folkN first a)).map V.str) := by rw [ey, List.map_map]; rfl
          have m2 : zs5 = (((List.range n).map (pairN first a)).map V.str) := by rw [ez, List.map_map]; rfl
          rcases hv with h | h
          · exact ⟨L, _, _, .ref D2, rfl, rfl, .inl (.inl hL), (by rw [h]; rfl : atI [V.ref D2, V.ref D3] (v / 2) = some (.ref D2)), q D2 _ first a _ gF fr2 (by rw [← m1]; exact k2) ⟨fe, fl, by omega, .inl rfl⟩⟩
          · exact ⟨L, _, _, .ref D3, rfl, rfl, .inl (.inl hL), (by rw [h]; rfl : atI [V.ref D2, V.ref D3] (v / 2) = some (.ref D3)), q D3 _ first a _ gF fr3 (by rw [← m2]; exact k3) ⟨fe, fl, by omega, .inr rfl⟩⟩
end
end Tl

namespace Tl
open PySem PySem.Spec PyProof.Rows L2
/-! ### things -/
structure Th where
  kind : Str
  name : Str
  bits : Str
  pins : List Str
def RTh (H : Hp) (p : Addr × Th) : Prop := ∃ q, H p.1 = some (.tup [.str p.2.kind, .str p.2.name, .str p.2.bits, .ref q]) ∧ H q = some (.tup (p.2.pins.map V.str))
def vals (ps : List (Addr × Th)) : List V := ps.map fun p => V.ref p.1
theorem vals_length (ps : List (Addr × Th)) : (vals ps).length = ps.length := List.length_map ..
theorem vals_app (ps qs : List (Addr × Th)) : vals (ps ++ qs) = vals ps ++ vals qs := List.map_append ..
theorem vals_snoc (ps : List (Addr × Th)) (p : Addr × Th) : vals (ps ++ [p]) = vals ps ++ [.ref p.1] := vals_app ps [p]
def TK (H H' : Hp) : Prop := ∀ a xs, H a = some (.tup xs) → H' a = some (.tup xs)
theorem TK.go {B : Box} {H H' : Hp} (g : Go B H H') (hB : Bx B H) : TK H H' := fun _ _ h => g.tup hB h
theorem TK.ex {H H' : Hp} (e : Evl.Ex H H') : TK H H' := fun _ _ h => e _ _ h
theorem TK.trans {H H1 H2 : Hp} (x : TK H H1) (y : TK H1 H2) : TK H H2 := fun a xs h => y a xs (x a xs h)
/-- a list is changed -/
theorem TK.lst {H H' : Hp} {l : Addr} {xs : List V} {o : HO} (x : TK H H') (h : H' l = some (.lst xs)) : TK H (upd H' l o) := fun a ys ha => by
  rw [upd_ne (ne_of (x a ys ha) h (by intro e; cases e))]
  exact x a ys ha
theorem RTh.mono {H H' : Hp} {p : Addr × Th} (k : TK H H') (h : RTh H p) : RTh H' p := by
  obtain ⟨q, h1, h2⟩ := h
  exact ⟨q, k _ _ h1, k _ _ h2⟩
structure IsIn (t : Th) : Prop where
  kind : t.kind = "in"
  name : NameOk t.name
  bits : t.bits = ""
  pins : t.pins = []
structure IsOut (t : Th) : Prop where
  kind : t.kind = "out"
  name : NameOk t.name
  bits : t.bits = ""
  pins : ∃ z, NameOk z ∧ t.pins = [z]
structure IsMid (t : Th) : Prop where
  name : NameOk t.name
  pins : ∀ z ∈ t.pins, NameOk z
  bits : ∀ c ∈ TL.tl t.bits, Bit c
  form : (t.kind = "gate" ∧ t.pins.length ≤ 3 ∧ t.bits.length = 2 ^ t.pins.length) ∨ (t.kind = "reg" ∧ t.pins.length = 1 ∧ t.bits.length = 1)
structure NetOk (ts : List Th) : Prop where
  parts : ∃ t1 t2 t3, ts = t1 ++ t2 ++ t3 ∧ (∀ t ∈ t1, IsIn t) ∧ (∀ t ∈ t2, IsMid t) ∧ ∀ t ∈ t3, IsOut t
  len : ts.length ≤ 12
/-! ### lists -/
theorem at_strs {zs : List Str} {v : Int} (h0 : 0 ≤ v) (h1 : v < (zs.length : Int)) : ∃ z, z ∈ zs ∧ atI (zs.map V.str) v = some (.str z) := by
  obtain ⟨u, rfl⟩ : ∃ u : Nat, v = u := ⟨v.toNat, by omega⟩
  have hu : u < zs.length := by omega
  refine ⟨zs[u], List.getElem_mem hu, atI_nat ?_⟩
  rw [List.getElem?_map, List.getElem?_eq_getElem hu]
  rfl
theorem cut_map {α : Type} (f : α → V) (xs : List α) (lo hi : Option Int) : cutV (xs.map f) lo hi = ((xs.drop (HT.sIx xs.length 0 lo)).take (HT.sIx xs.length xs.length hi - HT.sIx xs.length 0 lo)).map f := by
  unfold cutV
  rw [List.length_map, List.map_take, List.map_drop]
theorem cut_nat {α : Type} (f : α → V) (xs : List α) (a b : Nat) : cutV (xs.map f) (some (a : Int)) (some (b : Int)) = ((xs.drop a).take (b - a)).map f := by
  rw [cut_map, HT.sIx_nat, HT.sIx_nat]
  congr 1
  by_cases h : a ≤ xs.length
  · rw [Nat.min_eq_left h]
    by_cases h2 : b ≤ xs.length
    · rw [Nat.min_eq_left h2]
    · rw [Nat.min_eq_right (by omega), List.take_of_length_le (by rw [List.length_drop]; omega), List.take_of_length_le (by rw [List.length_drop]; omega)]
  · have e : min a xs.length = xs.length := Nat.min_eq_right (by omega)
    have d1 : xs.drop xs.length = [] := List.drop_of_length_le (Nat.le_refl _)
    have d2 : xs.drop a = [] := List.drop_of_length_le (by omega)
    rw [e, d1, d2, List.take_nil, List.take_nil]
theorem cut_hi {α : Type} (f : α → V) (xs : List α) (b : Nat) : cutV (xs.map f) none (some (b : Int)) = (xs.take b).map f := by
  rw [cut_map, HT.sIx_nat, HT.sIx_none, List.drop_zero, Nat.sub_zero]
  congr 1
  by_cases h2 : b ≤ xs.length
  · rw [Nat.min_eq_left h2]
  · rw [Nat.min_eq_right (by omega), List.take_of_length_le (Nat.le_refl _), List.take_of_length_le (by omega)]
theorem cut_lo {α : Type} (f : α → V) (xs : List α) (a : Nat) : cutV (xs.map f) (some (a : Int)) none = (xs.drop a).map f := by
  rw [cut_map, HT.sIx_nat, HT.sIx_none]
  congr 1
  by_cases h : a ≤ xs.length
  · rw [Nat.min_eq_left h, List.take_of_length_le (by rw [List.length_drop]; omega)]
  · have e : min a xs.length = xs.length := Nat.min_eq_right (by omega)
    have d1 : xs.drop xs.length = [] := List.drop_of_length_le (Nat.le_refl _)
    have d2 : xs.drop a = [] := List.drop_of_length_le (by omega)
    rw [e, d1, d2, List.take_nil]
theorem strs_flat (zs : List Str) : (zs.map V.str).all flatV = true := by
  rw [List.all_eq_true]
  intro v hv
  obtain ⟨z, _, rfl⟩ := List.mem_map.mp hv
  rfl
theorem dp_strs {K : PySem.W.Frag} {H : Hp} : ∀ zs : List Str, DpAll K H (zs.map V.str) (zs.map PyData.str)
  | [] => .nil
  | z :: zs => .cons (.str z) (dp_strs zs)
theorem eqv_nil (zs : List Str) : (!PyData.eqv (.list (zs.map PyData.str)) (.list [])) = !zs.isEmpty := by
  cases zs with
  | nil => decide +kernel
  | cons z zs => simp [PyData.eqv, PyData.eqvAll]
theorem name_str {z : Str} (h : NameOk z) : PyData.strOk z = true := by
  show z.cps.all (· < 0x110000) = true
  rw [← Array.all_toList, List.all_eq_true]
  intro c hc
  have := h.le c hc
  exact decide_eq_true (by have := this.2; omega)
theorem lay_strs : ∀ {zs : List Str}, (∀ z ∈ zs, NameOk z) → PyData.canLayAll0 (zs.map PyData.str) = true
  | [], _ => rfl
  | z :: r, h => by
    simp [PyData.canLayAll0, PyData.canLay0, name_str (h z (List.mem_cons_self ..)), lay_strs fun y hy => h y (List.mem_cons_of_mem _ hy)]
theorem depth_strs : ∀ zs : List Str, PyData.depthAll (zs.map PyData.str) = 0
  | [] => rfl
  | _ :: r => by simp [PyData.depthAll, PyData.depth, depth_strs r]
theorem shaped_strs {zs : List Str} (h : ∀ z ∈ zs, NameOk z) : SeqAt.shaped (.list (zs.map PyData.str)) = true := by
  simp [SeqAt.shaped, PyData.canLay0, PyData.depth, lay_strs h, depth_strs]
/-- the value of int(early != []) -/
theorem int_ne {zs : List Str} : (if (!zs.isEmpty) = true then (1 : Int) else 0) = if zs = [] then 0 else 1 := by
  cases zs <;> simp
/-! ### lists that stand while the law's pieces run -/
theorem Go.strs {B : Box} {H H' : Hp} (g : Go B H H') (hB : Bx B H) {a : Addr} {zs : List Str} (h : H a = some (.lst (zs.map V.str))) : H' a = some (.lst (zs.map V.str)) := by
  obtain ⟨⟨i, r, s, hb, _⟩, hl⟩ := hB
  refine g.kp a _ (ne_of h hb fun e => ?_) h
  have e := HO.lst.inj e
  cases zs with
  | nil => cases e
  | cons z zs => cases e
theorem Bx.nrefs {B : Box} {H : Hp} (hB : Bx B H) {a : Addr} {ps : List (Addr × Th)} (h : H a = some (.lst (vals ps))) : a ≠ B.b := by
  obtain ⟨⟨i, r, s, hb, _⟩, hl⟩ := hB
  refine ne_of h hb fun e => ?_
  have e := HO.lst.inj e
  match ps, e with
  | [], e => cases e
  | [_], e => exact absurd (congrArg List.length e) (by simp [vals])
  | p :: p' :: _, e =>
    have h2 : (some (V.ref p'.1) : Option V) = some (V.int (i : Int)) := congrArg (fun l : List V => l[1]?) e
    exact absurd (Option.some.inj h2) (by intro z; cases z)
theorem Go.refs {B : Box} {H H' : Hp} (g : Go B H H') (hB : Bx B H) {a : Addr} {ps : List (Addr × Th)} (h : H a = some (.lst (vals ps))) : H' a = some (.lst (vals ps)) := g.kp a _ (hB.nrefs h) h
def SL (Ss : List (Addr × List Str)) (H : Hp) : Prop := ∀ s ∈ Ss, H s.1 = some (.lst (s.2.map V.str))
theorem SL.go {B : Box} {H H' : Hp} {Ss : List (Addr × List Str)} (h : SL Ss H) (g : Go B H H') (hB : Bx B H) : SL Ss H' := fun s hs => g.strs hB (h s hs)
theorem SL.ex {H H' : Hp} {Ss : List (Addr × List Str)} (h : SL Ss H) (e : Evl.Ex H H') : SL Ss H' := fun s hs => e _ _ (h s hs)
theorem SL.mut {H : Hp} {Ss : List (Addr × List Str)} {D : Addr} {o : HO} (h : SL Ss H) (n : ∀ s ∈ Ss, s.1 ≠ D) : SL Ss (upd H D o) := fun s hs => by
  rw [upd_ne (n s hs)]
  exact h s hs
theorem SL.fresh {H : Hp} {Ss : List (Addr × List Str)} {D : Addr} (h : SL Ss H) (hD : H D = none) : ∀ s ∈ Ss, s.1 ≠ D := fun s hs => ne_of_none (h s hs) hD
theorem SL.cons {H : Hp} {Ss : List (Addr × List Str)} {a : Addr} {zs : List Str} (ha : H a = some (.lst (zs.map V.str))) (h : SL Ss H) : SL ((a, zs) :: Ss) H := fun s hs => by
  rcases List.mem_cons.mp hs with rfl | hs
  · exact ha
  · exact h s hs
/-- a comprehension over a list (not the box), a value an item -/
theorem lcG_map {K : PySem.W.Frag} {a : Addr} {xs : List V} {j : Nat} {te : TE} {vs : List Nat} {σ : L2.St} {H1 : Hp} {D : Addr} {Qd : Hp → Prop} (B : Box) (R : V → V → Hp → Prop) (hR : ∀ x y H H', TK H H' → R x y H → R x y H') (hB : Bx B H1) (hD : H1 D = none) (hn : xs.length ≤ 50000) (ha : a ≠ B.b) (hx : H1 a = some (.lst xs))
    (hw : ∀ x, wipe ((wipe σ vs).set j (some x)) vs = wipe σ vs)
    (hs : ∀ (i : Nat) (x : V), xs[i]? = some x → ∀ H, Go B H1 H → ∀ Q : VK, (∀ v H', Go B H H' → R x v H' → Q v H') → te ((wipe σ vs).set j (some x)) H Q)
    (hd : ∀ H ys, Go B H1 H → H D = some (.lst ys) → ys.length = xs.length → (∀ (i : Nat) (x y : V), xs[i]? = some x → ys[i]? = some y → R x y H) → Qd H) :
    ∃ W : Nat → Nat → Hp → Prop, (∃ m, W 0 m (upd H1 D (.lst []))) ∧ ∀ i m H, W i m H →
      ((Itl K a).stop i H ∧ Qd H) ∨ ((Itl K a).go i H ∧ ∃ Nx : Hp → Prop, (∀ H', Nx H' → ∃ m', m' < m ∧ W (i + 1) m' H') ∧ ∀ x H', (Itl K a).yld i H x H' → gName j x (wipe σ vs) H' fun σ2 H2 => wipe σ2 vs = wipe σ vs ∧ tYes σ2 H2 fun b H3 =>
        if b = true then te σ2 H3 fun y H4 => ∃ acc, H4 D = some (.lst acc) ∧ acc.length < sizeLine ∧ Nx (upd H4 D (.lst (acc ++ [y]))) else Nx H3) := by
  refine lc_list (K := K) (a := a) (xs := xs) (g := gName j) (tt := tYes) (fun i H => Go B H1 H ∧ ∃ ys : List V, H D = some (.lst ys) ∧ ys.length = i ∧ ∀ (k : Nat) (x y : V), xs[k]? = some x → ys[k]? = some y → R x y H) ⟨(Go.refl hB).new hD, [], upd_same, rfl, fun k x y _ e => by simp at e⟩ (fun i H _ p => .inl (.inl (p.1.lst ha hx))) (fun i x H hi p => ?_) (fun H p => ?_)
  · obtain ⟨g, ys, hy, hl, hr⟩ := p
    have hlt := (List.getElem?_eq_some_iff.mp hi).1
    refine ⟨hw _, ?_⟩
    refine hs i x hi H g _ fun v H' g' r => ⟨ys, g'.lst (hB.nb hD) hy, Evl.sz_lt (by omega), Go.mut hB (g.trans g') hD, ys ++ [v], upd_same, by rw [List.length_append, hl]; rfl, fun k x' y hx' e => ?_⟩
    have tk1 : TK H (upd H' D (.lst (ys ++ [v]))) := (TK.go g' g.bx).lst (g'.lst (hB.nb hD) hy)
    have tk2 : TK H' (upd H' D (.lst (ys ++ [v]))) := TK.lst (fun _ _ h => h) (g'.lst (hB.nb hD) hy)
    by_cases hk : k < ys.length
    · rw [List.getElem?_append_left hk] at e
      exact hR _ _ _ _ tk1 (hr k x' y hx' e)
    · rw [List.getElem?_append_right (by omega)] at e
      cases hkk : k - ys.length with
      | zero =>
        rw [hkk] at e
        have e2 : v = y := Option.some.inj e
        have e3 : k = i := by omega
        rw [e3, hi] at hx'
        rw [← e2, ← Option.some.inj hx']
        exact hR _ _ _ _ tk2 r
      | succ z =>
        rw [hkk] at e
        simp at e
  · obtain ⟨g, ys, hy, hl, hr⟩ := p
    exact hd H ys g hy hl hr
/-- values that bear things, in order -/
theorem to_pairs {H : Hp} {f : Str → Th} : ∀ {zs : List Str} {ys : List V}, ys.length = zs.length → (∀ (i : Nat) (z : Str) (y : V), zs[i]? = some z → ys[i]? = some y → ∃ p : Addr, y = .ref p ∧ RTh H (p, f z)) → ∃ ps : List (Addr × Th), ys = vals ps ∧ ps.map (·.2) = zs.map f ∧ ∀ p ∈ ps, RTh H p
  | [], [], _, _ => ⟨[], rfl, rfl, fun p h => by simp at h⟩
  | [], _ :: _, h, _ => by simp at h
  | _ :: _, [], h, _ => by simp at h
  | z :: zs, y :: ys, hl, h => by
    obtain ⟨p, e, r⟩ := h 0 z y rfl rfl
    obtain ⟨ps, e1, e2, e3⟩ := to_pairs (H := H) (f := f) (zs := zs) (ys := ys) (by simpa using hl) fun i z' y' hz hy => h (i + 1) z' y' hz hy
    refine ⟨(p, f z) :: ps, by rw [e, e1]; rfl, by rw [List.map_cons, List.map_cons, e2], fun q hq => ?_⟩
    rcases List.mem_cons.mp hq with rfl | hq
    · exact r
    · exact e3 q hq
/-- a pop and an insert -/
theorem erase_map {α β : Type} (f : α → β) (l : List α) (k : Nat) : (l.map f).eraseIdx k = (l.eraseIdx k).map f := by
  rw [List.eraseIdx_eq_take_drop_succ, List.eraseIdx_eq_take_drop_succ, List.map_append, List.map_take, List.map_drop]
theorem ins_perm {α : Type} {l : List α} {k v : Nat} (h : k < l.length) : ((l.eraseIdx k).take v ++ [l[k]] ++ (l.eraseIdx k).drop v).Perm l := by
  have hp : (l[k] :: l.eraseIdx k).Perm l := by
    rw [List.eraseIdx_eq_take_drop_succ]
    refine List.Perm.trans List.perm_middle.symm ?_
    rw [← List.drop_eq_getElem_cons h, List.take_append_drop]
  refine List.Perm.trans ?_ hp
  rw [List.append_assoc]
  refine List.Perm.trans List.perm_middle ?_
  show (l[k] :: ((l.eraseIdx k).take v ++ (l.eraseIdx k).drop v)).Perm _
  rw [List.take_append_drop]
end Tl

namespace Tl
open PySem PySem.Spec PyProof.Rows L2
abbrev sSome : Stmt := topS 21
abbrev nSome : List Str := ["_law_box_here", "_law_most_in", "_law_most_cells", "_law_most_out", "_law_pool", "_law_ins", "_law_cells", "_law_name", "_law_kept", "_law_things", "_law_early", "_law_some", "_law_size", "_law_pins", "_law_room", "_law_mixed", "_law_at", "_law_k"]
theorem scSome : FnScope nSome ["_law_box_here", "_law_most_in", "_law_most_cells", "_law_most_out"] (defScope sSome) := ⟨rfl, rfl, rfl, by decide +kernel, rfl, by decide +kernel, by decide +kernel⟩
section
variable {P : Program} {w : World} {K : PySem.W.Frag} {mg : Str → Option Value} {base : Heap}
def spSome : Sp := fun vs H Q _ => ∃ (B : Box) (mi mc mo : Nat), vs = [.ref B.b, .int (mi : Int), .int (mc : Int), .int (mo : Int)] ∧ Bx B H ∧ mi ≤ 4 ∧ mc ≤ 8 ∧ mo ≤ 4 ∧
  ∀ (a : Addr) (ps : List (Addr × Th)) H', Go B H H' → H' a = some (.tup (vals ps)) → (∀ p ∈ ps, RTh H' p) → NetOk (ps.map (·.2)) → Q (.ref a) H'
/-- what is known of the law's helpers -/
structure Helps (P : Program) (w : World) (K : PySem.W.Frag) (mg : Str → Option Value) (base : Heap) where
  ft : Addr
  fdt : FuncData
  FT : Fun K "_law_take" "_law_take" sTake ft fdt
  bT : Binds K fdt ["_law_box_here", "_law_many"] []
  gT : mg "_law_take" = some (.ref ft)
  fb : Addr
  fdb : FuncData
  FB : Fun K "_law_bits" "_law_bits" sBits fb fdb
  bB : Binds K fdb ["_law_box_here", "_law_many"] []
  gB : mg "_law_bits" = some (.ref fb)
  fn : Addr
  fdn : FuncData
  FN : Fun K "_law_names" "_law_names" sNames fn fdn
  bN : Binds K fdn ["_law_box_here", "_law_sides"] []
  gN : mg "_law_names" = some (.ref fn)
  len : mg "len" = none
  range : mg "range" = none
  int : mg "int" = none
  tuple : mg "tuple" = none
  min : mg "min" = none
theorem ok_some {f : Addr} {fd : FuncData} (F : Fun K "_law_some_net" "_law_some_net" sSome f fd) (T : Helps P w K mg base) :
    FnOk P w K mg base CX0 3 f fd ["_law_box_here", "_law_most_in", "_law_most_cells", "_law_most_out"] spSome := by
  have GT : FnOk P w K mg base CX0 2 T.ft T.fdt ["_law_box_here", "_law_many"] spTake := ok_take T.FT T.len
  have GB : FnOk P w K mg base CX0 2 T.fb T.fdb ["_law_box_here", "_law_many"] spBits := ok_bits T.FB T.FT T.bT T.gT T.len T.range
  have GN : FnOk P w K mg base CX0 2 T.fn T.fdn ["_law_box_here", "_law_sides"] spNames := ok_names T.FN T.FT T.bT T.gT T.len T.range
  refine F.ok scSome (fun vs H Q E h => ?_) (fun cdv A outer s H vs Q E hr h => ?_)
  · obtain ⟨B, mi, mc, mo, rfl, _⟩ := h
    rfl
  · obtain ⟨B, mi, mc, mo, rfl, hB, hmi, hmc, hmo, q⟩ := h
    refine ⟨_, pss_cons (ps_set (i := 4) scSome.nd rfl (.inl rfl) (pe_call GN hr (by rfl) T.gN T.FN.kp T.bN .nil pass0 (pa_cons (pv 0) (pa_cons pe_int pa_nil))))
      (pss_cons (ps_set (i := 5) scSome.nd rfl (.inl rfl) (pe_slice sl_list (pv 4) po_none (po_some (pe_call GT hr (by rfl) T.gT T.FT.kp T.bT .nil pass0 (pa_cons (pv 0) (pa_cons (pe_op op_add (pv 1) pe_int) pa_nil))))))
      (pss_cons (ps_set (i := 6) scSome.nd rfl (.inl rfl) (pe_slice sl_list (pv 4) (po_some pe_int) (po_some (pe_op op_add pe_int (pe_call GT hr (by rfl) T.gT T.FT.kp T.bT .nil pass0 (pa_cons (pv 0) (pa_cons (pe_op op_add (pv 2) pe_int) pa_nil)))))))
      (pss_cons (ps_set (i := 8) scSome.nd rfl (.inl rfl) (pe_slice sl_list (pe_lc (own := [("_law_name", 7)]) (g := gName 7) (tt := tTest (tOp rEq (tCall spTake [] E0 (tCons (tVar 0) (tCons (tC (.int 3)) tNil))) (tC (.int 0)))) rfl scSome.nd (pi_list (pv 6)) (blkOk_by (N := nSome) (sc := defScope sSome) (by decide +kernel))
          (fun _ _ _ _ _ => pg_name (i := 7) scSome.nd rfl (Or.inl rfl))
          (fun _ _ _ _ _ => pts_one (pt_cmpR op_eq (pe_call GT hr (by rfl) T.gT T.FT.kp T.bT .nil pass0 (pa_cons (pv 0) (pa_cons pe_int pa_nil))) pe_int (nomark _)))
          (fun _ _ _ _ _ => pv 7)) po_none (po_some pe_int)))
      (pss_cons (ps_setLc (i := 9) (own := [("_law_name", 7)]) (g := gName 7) (tt := tYes) rfl scSome.nd rfl rfl (sw_true rfl rfl rfl (by decide +kernel)) (pi_list (pv 5)) (blkOk_by (N := nSome) (sc := defScope sSome) (by decide +kernel))
          (fun _ _ _ _ _ => pg_name (i := 7) scSome.nd rfl (Or.inl rfl)) (fun _ _ _ _ _ => pts_nil)
          (fun _ _ _ _ _ => pe_tup (pa_cons pe_str (pa_cons (pv 7) (pa_cons pe_str (pa_cons (pe_tup pa_nil) pa_nil))))))
      (pss_cons (ps_set (i := 10) scSome.nd rfl (.inr rfl) (pe_op op_cat (pv 5) (pv 8)))
      (pss_cons (ps_for PassesOwn.never rfl (pi_list (pv 6)) (pg_name (i := 7) scSome.nd rfl (.inl rfl))
        (pss_one (ps_if (pt_cmpR op_in_seq (pv 7) (pv 8) (by rfl))
          (pss_cons (ps_set (i := 11) scSome.nd rfl (.inl rfl) (pe_op op_cat (pv 5) (pv 6)))
          (pss_one (ps_expr (pe_bm PySem.F.plainAttrs_list PySem.F.slot_list_append PySem.F.type_list_append mt_append (pv 9)
            (pa_cons (pe_tup (pa_cons pe_str (pa_cons (pv 7) (pa_cons (pe_call GB hr (by rfl) T.gB T.FB.kp T.bB .nil pass0 (pa_cons (pv 0) (pa_cons pe_int pa_nil)))
              (pa_cons (pe_tup (pa_cons (pe_ix ix_list (pv 11) (pe_call GT hr (by rfl) T.gT T.FT.kp T.bT .nil pass0 (pa_cons (pv 0) (pa_cons (pe_callB call_len_seq (by rfl) T.len PySem.boot_len (pa_cons (pv 11) pa_nil)) pa_nil))) (fun _ _ => rfl)) pa_nil)) pa_nil))))) pa_nil)))))
          (pss_cons (ps_set (i := 12) scSome.nd rfl (.inl rfl) (pe_op op_mul (pe_call GT hr (by rfl) T.gT T.FT.kp T.bT .nil pass0 (pa_cons (pv 0) (pa_cons pe_int pa_nil)))
              (pe_callTy call_int1 (by rfl) T.int (by decide +kernel) (pa_cons (pe_cmpR (op_neD hr.units) (pv 10) (pe_lst pa_nil) (nomark _)) pa_nil))))
          (pss_cons (ps_set (i := 13) scSome.nd rfl (.inl rfl) (pe_callTy call_tuple_of (by rfl) T.tuple (by decide +kernel) (pa_cons (pe_lc (own := [("_law_k", 17)]) (g := gName 17) (tt := tYes) rfl scSome.nd (pi_range1 rfl T.range (pa_cons (pv 12) pa_nil)) (blkOk_by (N := nSome) (sc := defScope sSome) (by decide +kernel))
              (fun _ _ _ _ _ => pg_name (i := 17) scSome.nd rfl (Or.inl rfl)) (fun _ _ _ _ _ => pts_nil)
              (fun _ _ _ _ _ => pe_ix (r := rIxL K) ix_list (pv 10) (pe_call GT hr (by rfl) T.gT T.FT.kp T.bT .nil pass0 (pa_cons (pv 0) (pa_cons (pe_callB (r := fun xs H Q => ∃ p ys, xs = [.ref p] ∧ (SqL K H p ys ∨ SqT K H p ys) ∧ Q (.int ys.length) H) call_len_seq (by rfl) T.len PySem.boot_len (pa_cons (pv 10) pa_nil)) pa_nil))) (fun _ _ => rfl))) pa_nil)))
          (pss_cons (ps_expr (pe_bm PySem.F.plainAttrs_list PySem.F.slot_list_append PySem.F.type_list_append mt_append (pv 9)
            (pa_cons (pe_tup (pa_cons pe_str (pa_cons (pv 7) (pa_cons (pe_call GB hr (by rfl) T.gB T.FB.kp T.bB .nil pass0 (pa_cons (pv 0) (pa_cons (pe_op op_shl pe_int (pv 12)) pa_nil)))
              (pa_cons (pv 13) pa_nil))))) pa_nil)))
          (pss_one (ps_set (i := 10) scSome.nd rfl (.inr rfl) (pe_op op_cat (pv 10) (pe_lst (pa_cons (pv 7) pa_nil)))))))))))
      (pss_cons (ps_set (i := 14) scSome.nd rfl (.inl rfl) (pe_op op_mul (pe_callB (call_min2 rfl) (by rfl) T.min (by decide +kernel) (pa_cons (pe_op op_sub pe_int (pe_callB call_len_seq (by rfl) T.len PySem.boot_len (pa_cons (pv 9) pa_nil)))
            (pa_cons (pe_call GT hr (by rfl) T.gT T.FT.kp T.bT .nil pass0 (pa_cons (pv 0) (pa_cons (pe_op op_add (pv 3) pe_int) pa_nil))) pa_nil)))
          (pe_callTy call_int1 (by rfl) T.int (by decide +kernel) (pa_cons (pe_cmpR (op_neD hr.units) (pv 10) (pe_lst pa_nil) (nomark _)) pa_nil))))
      (pss_cons (ps_for PassesOwn.never rfl (pi_list (pe_slice sl_list (pv 4) (po_some pe_int) (po_some (pe_op op_add pe_int (pv 14))))) (pg_name (i := 7) scSome.nd rfl (.inl rfl))
        (pss_one (ps_expr (pe_bm PySem.F.plainAttrs_list PySem.F.slot_list_append PySem.F.type_list_append mt_append (pv 9)
            (pa_cons (pe_tup (pa_cons pe_str (pa_cons (pv 7) (pa_cons pe_str
              (pa_cons (pe_tup (pa_cons (pe_ix ix_list (pv 10) (pe_call GT hr (by rfl) T.gT T.FT.kp T.bT .nil pass0 (pa_cons (pv 0) (pa_cons (pe_callB call_len_seq (by rfl) T.len PySem.boot_len (pa_cons (pv 10) pa_nil)) pa_nil))) (fun _ _ => rfl)) pa_nil)) pa_nil))))) pa_nil)))))
      (pss_cons (ps_set (i := 15) scSome.nd rfl (.inl rfl) (pe_slice sl_list (pv 9) (po_some (pe_callB call_len_seq (by rfl) T.len PySem.boot_len (pa_cons (pv 5) pa_nil)))
          (po_some (pe_op op_add (pe_callB call_len_seq (by rfl) T.len PySem.boot_len (pa_cons (pv 5) pa_nil)) (pe_callB call_len_seq (by rfl) T.len PySem.boot_len (pa_cons (pv 6) pa_nil))))))
      (pss_cons (ps_for PassesOwn.never rfl (pi_range2 (by rfl) T.range (pa_cons pe_int (pa_cons (pe_op op_mul (pe_callB call_len_seq (by rfl) T.len PySem.boot_len (pa_cons (pv 15) pa_nil)) (pe_call GT hr (by rfl) T.gT T.FT.kp T.bT .nil pass0 (pa_cons (pv 0) (pa_cons pe_int pa_nil)))) pa_nil)))
          (pg_name (i := 16) scSome.nd rfl (.inl rfl))
        (pss_one (ps_expr (pe_bm PySem.F.plainAttrs_list PySem.F.slot_list_insert PySem.F.type_list_insert mt_insert (pv 15)
            (pa_cons (pe_call GT hr (by rfl) T.gT T.FT.kp T.bT .nil pass0 (pa_cons (pv 0) (pa_cons (pe_op op_add (pv 16) pe_int) pa_nil)))
              (pa_cons (pe_bm PySem.F.plainAttrs_list PySem.F.slot_list_pop PySem.F.type_list_pop mt_popAt (pv 15) (pa_cons (pv 16) pa_nil)) pa_nil))))))
      (pss_one (ps_ret (pe_callTy call_tuple_of (by rfl) T.tuple (by decide +kernel) (pa_cons (pe_op op_cat (pe_op op_cat (pe_slice sl_list (pv 9) po_none (po_some (pe_callB call_len_seq (by rfl) T.len PySem.boot_len (pa_cons (pv 5) pa_nil)))) (pv 15))
          (pe_slice sl_list (pv 9) (po_some (pe_op op_add (pe_callB call_len_seq (by rfl) T.len PySem.boot_len (pa_cons (pv 5) pa_nil)) (pe_callB call_len_seq (by rfl) T.len PySem.boot_len (pa_cons (pv 6) pa_nil)))) po_none)) pa_nil)))))))))))))), ?_⟩
    -- pool
    refine ⟨.ref B.b, rfl, B, 16, rfl, hB, by decide, fun pl ys first a1 H1 g1 npl hpl po => ?_⟩
    have hy16 : ys.length = 16 := po.length
    have hyok := po.ok
    -- ins
    refine ⟨.ref pl, rfl, .ref B.b, rfl, .int (mi : Int), rfl, (mi : Int), 1, rfl, rfl, B, (mi : Int) + 1, rfl, g1.bx, by omega, by omega, fun v2 H2 hv20 hv21 g2 => ?_⟩
    obtain ⟨ia, rfl⟩ : ∃ u : Nat, v2 = u := ⟨v2.toNat, by omega⟩
    have hia : ia ≤ 4 := by omega
    refine ⟨(ia : Int), rfl, pl, _, rfl, .inl (.inl (g2.strs g1.bx hpl)), fun pi npi => ?_⟩
    have g12 := g1.trans g2
    have sl2 : SL [(pl, ys)] H2 := SL.cons (g2.strs g1.bx hpl) (fun _ h => by simp at h)
    rw [cut_hi]
    generalize hH3 : upd H2 pi (HO.lst (List.map V.str (List.take ia ys))) = H3
    have x3 : Evl.Ex H2 H3 := hH3 ▸ Evl.Ex.new npi
    have hpi : H3 pi = some (.lst ((ys.take ia).map V.str)) := by rw [← hH3]; exact upd_same
    have sl3 : SL [(pi, ys.take ia), (pl, ys)] H3 := SL.cons hpi (sl2.ex x3)
    have g3 := g12.ex x3
    -- cells
    refine ⟨.ref pl, rfl, 4, rfl, .ref B.b, rfl, .int (mc : Int), rfl, (mc : Int), 1, rfl, rfl, B, (mc : Int) + 1, rfl, g3.bx, by omega, by omega, fun v4 H4 hv40 hv41 g4 => ?_⟩
    obtain ⟨ca, rfl⟩ : ∃ u : Nat, v4 = u := ⟨v4.toNat, by omega⟩
    have hca : ca ≤ 8 := by omega
    have sl4 := sl3.go g4 g3.bx
    refine ⟨4, (ca : Int), rfl, rfl, _, rfl, pl, _, rfl, .inl (.inl (sl4 (pl, ys) (by simp))), fun pc npc => ?_⟩
    have ec : cutV (ys.map V.str) (some 4) (some ((4 : Int) + (ca : Int))) = ((ys.drop 4).take ca).map V.str := by
      have h := cut_nat V.str ys 4 (4 + ca)
      rw [Nat.add_sub_cancel_left] at h
      rw [← h]
      rfl
    have g34 := g3.trans g4
    generalize hH5 : upd H4 pc _ = H5
    have hpc : H5 pc = some (.lst (((ys.drop 4).take ca).map V.str)) := by rw [← hH5, ← ec]; exact upd_same
    have x5 : Evl.Ex H4 H5 := hH5 ▸ Evl.Ex.new npc
    have g5 := g34.ex x5
    generalize hcs : (ys.drop 4).take ca = cs at hpc
    have hcl : cs.length = ca := by rw [← hcs, List.length_take, List.length_drop]; omega
    have hcok : ∀ z ∈ cs, NameOk z := fun z hz => hyok z (by rw [← hcs] at hz; exact List.mem_of_mem_drop (List.mem_of_mem_take hz))
    generalize hin : ys.take ia = ins at sl3 sl4 hpi
    have hil : ins.length = ia := by rw [← hin, List.length_take]; omega
    have hiok : ∀ z ∈ ins, NameOk z := fun z hz => hyok z (by rw [← hin] at hz; exact List.mem_of_mem_take hz)
    have sl5 : SL [(pc, cs), (pi, ins), (pl, ys)] H5 := SL.cons hpc (sl4.ex x5)
    -- kept
    refine ⟨.ref pc, rfl, pc, rfl, ⟨_, .inl (.inl hpc)⟩, fun D6 nD6 => ?_⟩
    refine lcG_list (K := K) (a := pc) (xs := cs.map V.str) (j := 7) B (fun y => ∃ z, y = .str z ∧ z ∈ cs) g5.bx nD6 (by rw [List.length_map]; omega) (g34.bx.nb npc) hpc (fun _ => rfl) (fun i x hx H6 g6 => ?_) (fun i x hx H6 g6 => ?_) (fun H6 zs6 g6 h6 hl6 hR6 => ?_)
    · intro Q' q'
      exact ⟨.ref B.b, rfl, B, 3, rfl, g6.bx, by decide, by decide, fun v H' _ _ g' => ⟨rfl, _, rfl, q' _ _ g'⟩⟩
    · intro Q' q'
      rw [List.getElem?_map] at hx
      obtain ⟨z, hz, e⟩ := Option.map_eq_some_iff.mp hx
      exact ⟨x, rfl, q' _ _ (Go.refl g6.bx) ⟨z, e.symm, List.mem_of_getElem? hz⟩⟩
    obtain ⟨ks0, rfl, hks0⟩ := strs_of hR6
    refine ⟨4, rfl, D6, _, rfl, .inl (.inl h6), fun pk npk => ?_⟩
    have ek : cutV (ks0.map V.str) none (some 4) = (ks0.take 4).map V.str := cut_hi V.str ks0 4
    have g56 := g5.trans g6
    have sl6 := sl5.go g6 g5.bx
    generalize hH7 : upd H6 pk _ = H7
    have hpk : H7 pk = some (.lst ((ks0.take 4).map V.str)) := by rw [← hH7, ← ek]; exact upd_same
    have x7 : Evl.Ex H6 H7 := hH7 ▸ Evl.Ex.new npk
    have g7 := g56.ex x7
    have hks : ∀ z ∈ ks0.take 4, z ∈ cs := fun z hz => hks0 z (List.mem_of_mem_take hz)
    have hkl : (ks0.take 4).length ≤ 4 := by rw [List.length_take]; omega
    generalize ks0.take 4 = ks at hpk hks hkl
    have sl7 : SL [(pk, ks), (pc, cs), (pi, ins), (pl, ys)] H7 := SL.cons hpk (sl6.ex x7)
    -- things
    have hpi7 := sl7 (pi, ins) (by simp)
    have npib : pi ≠ B.b := g12.bx.nb npi
    refine ⟨.ref pi, rfl, pi, rfl, ⟨_, .inl (.inl hpi7)⟩, fun D nD => ?_⟩
    refine lcG_map (K := K) (a := pi) (xs := ins.map V.str) (j := 7) B (fun x y H => ∃ z, x = .str z ∧ ∃ p : Addr, y = .ref p ∧ RTh H (p, ⟨"in", z, "", []⟩)) (fun x y H H' k r => ?_) g7.bx nD (by rw [List.length_map]; omega) npib hpi7 (fun _ => rfl) (fun i x hx H8 g8 => ?_) (fun H8 ts8 g8 h8 hl8 hR8 => ?_)
    · obtain ⟨z, e, p, e2, r⟩ := r
      exact ⟨z, e, p, e2, r.mono k⟩
    · intro Q' q'
      rw [List.getElem?_map] at hx
      obtain ⟨z, hz, e⟩ := Option.map_eq_some_iff.mp hx
      subst e
      refine ⟨.str z, rfl, by show 0 ≤ sizeLine; decide, fun q1 n1 => ⟨by show 4 ≤ sizeLine; decide, fun p1 m1 => q' _ _ (((Go.refl g8.bx).new n1).new m1) ⟨z, rfl, p1, rfl, q1, upd_same, ?_⟩⟩⟩
      rw [upd_ne (ne_of_none upd_same m1)]
      exact upd_same
    obtain ⟨ps1, rfl, hps1, hr1⟩ := to_pairs (H := H8) (f := fun z => ⟨"in", z, "", []⟩) (zs := ins) (ys := ts8) (by rw [hl8, List.length_map]) (fun i z y hz hy => by
      obtain ⟨z', e, p, e2, r⟩ := hR8 i (.str z) y (by rw [List.getElem?_map, hz]; rfl) hy
      cases e
      exact ⟨p, e2, r⟩)
    have hl1 : ps1.length = ia := by
      have h := congrArg List.length hps1
      rw [List.length_map, List.length_map] at h
      omega
    have hin1 : ∀ p ∈ ps1, IsIn p.2 := fun p hp => by
      have hm : p.2 ∈ ps1.map (·.2) := List.mem_map_of_mem hp
      rw [hps1] at hm
      obtain ⟨z, hz, e⟩ := List.mem_map.mp hm
      rw [← e]
      exact ⟨rfl, hiok z hz, rfl, rfl⟩
    have g78 := g7.trans g8
    have sl8 := sl7.go g8 g7.bx
    have nDs := sl7.fresh nD
    have fD : H D = none := g7.fresh nD
    -- early
    refine ⟨.ref pi, rfl, .ref pk, rfl, pi, pk, ins.map V.str, ks.map V.str, rfl, rfl, sl8 (pi, ins) (by simp), sl8 (pk, ks) (by simp), by rw [List.length_map, List.length_map]; exact sz (by omega), fun ea0 nea => ?_⟩
    rw [← List.map_append]
    generalize hH9 : upd H8 ea0 _ = H9
    have hea : H9 ea0 = some (.lst ((ins ++ ks).map V.str)) := by rw [← hH9]; exact upd_same
    have x9 : Evl.Ex H8 H9 := hH9 ▸ Evl.Ex.new nea
    have g9 := g78.ex x9
    have sl9 := sl8.ex x9
    have h9 := x9 _ _ h8
    have neD : ea0 ≠ D := (ne_of_none h8 nea).symm
    have hek : ∀ z ∈ ins ++ ks, NameOk z := fun z hz => by
      rcases List.mem_append.mp hz with h | h
      · exact hiok z h
      · exact hcok z (hks z h)
    have rr9 : ∀ p ∈ ps1, RTh H9 p := fun p hp => (hr1 p hp).mono (TK.ex x9)
    -- for name in cells
    have hpc9 := sl9 (pc, cs) (by simp)
    refine ⟨.ref pc, rfl, pc, rfl, ⟨_, .inl (.inl hpc9)⟩, ?_⟩
    refine for_list (K := K) (a := pc) (xs := cs.map V.str) (fun i σ' H' => ∃ (ps2 : List (Addr × Th)) (es : List Str) (ea : Addr) (y7 y11 y12 y13 : Option V), σ' = [some (.ref B.b), some (.int (mi : Int)), some (.int (mc : Int)), some (.int (mo : Int)), some (.ref pl), some (.ref pi), some (.ref pc), y7, some (.ref pk), some (.ref D), some (.ref ea), y11, y12, y13, none, none, none, none] ∧
        Go B H H' ∧ SL [(pk, ks), (pc, cs), (pi, ins), (pl, ys)] H' ∧ H' D = some (.lst (vals (ps1 ++ ps2))) ∧ ps2.length = i ∧ H' ea = some (.lst (es.map V.str)) ∧ ea ≠ D ∧ (∀ p ∈ ps1 ++ ps2, RTh H' p) ∧ (∀ p ∈ ps2, IsMid p.2) ∧ (∀ z ∈ es, NameOk z) ∧ es.length ≤ 8 + i ∧ i ≤ 8)
      ⟨[], ins ++ ks, ea0, none, none, none, none, rfl, g9, sl9, by rw [List.append_nil]; exact h9, rfl, hea, neD, by rw [List.append_nil]; exact rr9, fun p h => by simp at h, hek, by rw [List.length_append]; omega, by omega⟩
      (fun i σ' H' _ p => ?_) (fun i x σ' H' hx p => ?_) (fun σ' H' p => ?_)
    · obtain ⟨ps2, es, ea, y7, y11, y12, y13, rfl, gg, sl, _⟩ := p
      exact .inl (.inl (sl (pc, cs) (by simp)))
    · obtain ⟨ps2, es, ea, y7, y11, y12, y13, rfl, gg, sl, hD', hl2, he', nea', hr', hm', heo, hel, hi8⟩ := p
      have hilt := (List.getElem?_eq_some_iff.mp hx).1
      rw [List.length_map] at hilt
      rw [List.getElem?_map] at hx
      obtain ⟨z, hz, e⟩ := Option.map_eq_some_iff.mp hx
      subst e
      have hzc : z ∈ cs := List.mem_of_getElem? hz
      have hzok := hcok z hzc
      refine ⟨.str z, rfl, .ref pk, rfl, pk, ks.map V.str, rfl, .inl (.inl (.inl (sl (pk, ks) (by simp)))), rfl, strs_flat ks, _, rfl, ite2 (fun e => ?_) (fun e => ?_)⟩
      · -- a register
        refine ⟨.ref pi, rfl, .ref pc, rfl, pi, pc, ins.map V.str, cs.map V.str, rfl, rfl, sl (pi, ins) (by simp), sl (pc, cs) (by simp), by rw [List.length_map, List.length_map]; exact sz (by omega), fun p11 n11 => ?_⟩
        rw [← List.map_append]
        generalize hHa : upd H' p11 _ = Ha
        have xa : Evl.Ex H' Ha := hHa ▸ Evl.Ex.new n11
        have ha11 : Ha p11 = some (.lst ((ins ++ cs).map V.str)) := by rw [← hHa]; exact upd_same
        have ga := gg.ex xa
        refine ⟨.ref D, rfl, .inl ⟨rfl, _, .inl (.inl (xa _ _ hD'))⟩, .str z, rfl, .ref B.b, rfl, B, 1, rfl, ga.bx, by decide, by decide, fun bt Hb gb hbl hbb => ?_⟩
        refine ⟨.ref p11, rfl, .ref B.b, rfl, .ref p11, rfl, p11, (ins ++ cs).map V.str, rfl, .inl (.inl (.inl (gb.strs ga.bx ha11))), B, _, rfl, gb.bx, by rw [List.length_map, List.length_append]; omega, by rw [List.length_map, List.length_append]; omega, fun v Hc hv0 hv1 gc => ?_⟩
        rw [List.length_map] at hv1
        obtain ⟨pz, hpz, hat⟩ := at_strs hv0 hv1
        have gab := gb.trans gc
        refine ⟨p11, _, v, .str pz, rfl, rfl, .inl (.inl (gab.strs ga.bx ha11)), hat, by show 1 ≤ sizeLine; decide, fun q1 n1 => ⟨by show 4 ≤ sizeLine; decide, fun p1 m1 => ?_⟩⟩
        have gac : Go B Ha Hc := gab
        have hDc : Hc D = some (.lst (vals (ps1 ++ ps2))) := gac.refs ga.bx (xa _ _ hD')
        generalize hHd : upd (upd Hc q1 (HO.tup [V.str pz])) p1 _ = Hd
        have xd : Evl.Ex Hc Hd := hHd ▸ (Evl.Ex.new n1).trans (Evl.Ex.new m1)
        have hd1 : Hd p1 = some (.tup [.str "reg", .str z, .str bt, .ref q1]) := by rw [← hHd]; exact upd_same
        have hd2 : Hd q1 = some (.tup [.str pz]) := by rw [← hHd, upd_ne (ne_of_none upd_same m1)]; exact upd_same
        have hDd := xd _ _ hDc
        have gd := (ga.trans gac).ex xd
        have sld := ((sl.ex xa).go gac ga.bx).ex xd
        refine ⟨D, _, _, rfl, rfl, hDd, by rw [vals_length, List.length_append]; exact Evl.sz_lt (by omega), ?_⟩
        have tk : TK H' (upd Hd D (.lst (vals (ps1 ++ ps2) ++ [.ref p1]))) := (((TK.ex xa).trans (TK.go gac ga.bx)).trans (TK.ex xd)).lst hDd
        have tkd : TK Hd (upd Hd D (.lst (vals (ps1 ++ ps2) ++ [.ref p1]))) := TK.lst (fun _ _ h => h) hDd
        refine ⟨ps2 ++ [(p1, ⟨"reg", z, bt, [pz]⟩)], es, ea, _, _, _, _, rfl, Go.mut hB gd fD, sld.mut nDs, by rw [upd_same, ← List.append_assoc, vals_snoc], by rw [List.length_append, hl2]; rfl, ?_, nea', fun p hp => ?_, fun p hp => ?_, heo, by omega, by omega⟩
        · rw [upd_ne nea']
          exact xd _ _ (gac.strs ga.bx (xa _ _ he'))
        · rw [← List.append_assoc] at hp
          rcases List.mem_append.mp hp with hp | hp
          · exact (hr' p hp).mono tk
          · rw [List.mem_singleton.mp hp]
            exact ⟨q1, tkd _ _ hd1, tkd _ _ hd2⟩
        · rcases List.mem_append.mp hp with hp | hp
          · exact hm' p hp
          · rw [List.mem_singleton.mp hp]
            refine ⟨hzok, fun y hy => ?_, hbb, .inr ⟨rfl, rfl, hbl⟩⟩
            rw [List.mem_singleton.mp hy]
            rcases List.mem_append.mp hpz with h | h
            · exact hiok pz h
            · exact hcok pz h
      · -- a gate
        refine ⟨.ref B.b, rfl, B, 4, rfl, gg.bx, by decide, by decide, fun v0 Ha hv0 hv1 ga' => ?_⟩
        have ga := gg.trans ga'
        have hea' := ga'.strs gg.bx he'
        refine ⟨.ref ea, rfl, by show 0 ≤ sizeLine; decide, fun l0 nl0 => ?_⟩
        generalize hHb : upd Ha l0 _ = Hb
        have xb : Evl.Ex Ha Hb := hHb ▸ Evl.Ex.new nl0
        have hl0 : Hb l0 = some (.lst []) := by rw [← hHb]; exact upd_same
        refine ⟨.list (es.map PyData.str), .list [], .lst (.inl (.inl (xb _ _ hea'))) (dp_strs es), .lst (.inl (.inl hl0)) .nil, shaped_strs heo, by decide +kernel, .inr ⟨_, rfl, ?_⟩⟩
        rw [eqv_nil, int_ne]
        refine ⟨v0, _, rfl, rfl, .inl ⟨by omega, by omega⟩, ?_⟩
        obtain ⟨sn, hsn, hsn3, hsn0⟩ : ∃ sn : Nat, v0 * (if es = [] then (0 : Int) else 1) = (sn : Int) ∧ sn ≤ 3 ∧ (es = [] → sn = 0) := by
          by_cases hes : es = []
          · exact ⟨0, by rw [if_pos hes]; omega, by omega, fun _ => rfl⟩
          · exact ⟨v0.toNat, by rw [if_neg hes]; omega, by omega, fun h => absurd h hes⟩
        have gb := ga.ex xb
        have heb := xb _ _ hea'
        refine ⟨_, rfl, _, rfl, by rw [hsn]; omega, by rw [hsn]; omega, fun Dl nDl => ?_⟩
        refine lcG_range (j := 17) B (fun _ y => ∃ z, y = .str z ∧ z ∈ es) gb.bx nDl (by rw [hsn]; omega) (fun _ => rfl) (fun i' hi' Hc gc => ?_) (fun Hc pv' gc hc hlc hRc => ?_)
        · intro Q' q'
          have hes : es ≠ [] := fun h => by
            rw [hsn, hsn0 h] at hi'
            simp at hi'
          have hpos : 0 < es.length := List.length_pos_iff.mpr hes
          have hec := gc.strs gb.bx heb
          refine ⟨.ref ea, rfl, .ref B.b, rfl, .ref ea, rfl, ea, es.map V.str, rfl, .inl (.inl (.inl hec)), B, _, rfl, gc.bx, by rw [List.length_map]; omega, by rw [List.length_map]; omega, fun v Hd hv0' hv1' gd => ?_⟩
          rw [List.length_map] at hv1'
          obtain ⟨pz, hpz, hat⟩ := at_strs hv0' hv1'
          exact ⟨ea, _, v, .str pz, rfl, rfl, .inl (.inl (gd.strs gc.bx hec)), hat, q' _ _ gd ⟨pz, rfl, hpz⟩⟩
        · obtain ⟨pn, rfl, hpn⟩ := strs_of (of_ix hRc)
          rw [List.length_map, hsn, Int.toNat_natCast] at hlc
          refine ⟨Dl, _, rfl, .inl ⟨.inl (.inl hc), fun q1 n1 => ?_⟩⟩
          have gbc := gb.trans gc
          generalize hHd : upd Hc q1 _ = Hd
          have xd : Evl.Ex Hc Hd := hHd ▸ Evl.Ex.new n1
          have hq1 : Hd q1 = some (.tup (pn.map V.str)) := by rw [← hHd]; exact upd_same
          have gd := gbc.ex xd
          have hDa := ga'.refs gg.bx hD'
          have hDd : Hd D = some (.lst (vals (ps1 ++ ps2))) := xd _ _ (gc.refs gb.bx (xb _ _ hDa))
          have hp2 : (1 : Int) * 2 ^ ((v0 * (if es = [] then (0 : Int) else 1)).toNat) = ((2 ^ sn : Nat) : Int) := by
            rw [hsn, Int.toNat_natCast, Int.one_mul]
            exact (Int.natCast_pow 2 sn).symm
          have h8 : (2 : Nat) ^ sn ≤ 8 := by
            have : (2 : Nat) ^ sn ≤ 2 ^ 3 := Nat.pow_le_pow_right (by decide) hsn3
            omega
          refine ⟨.ref D, rfl, .inl ⟨rfl, _, .inl (.inl hDd)⟩, .str z, rfl, .ref B.b, rfl, _, rfl, 1, _, rfl, rfl, ⟨by rw [hsn]; omega, by rw [hsn]; omega, by decide⟩, B, _, rfl, gd.bx, ?_, ?_, fun bt He ge hbl hbb => ?_⟩
          · show (0 : Int) ≤ 1 * 2 ^ ((v0 * (if es = [] then (0 : Int) else 1)).toNat)
            rw [hp2]; exact Int.natCast_nonneg _
          · show (1 : Int) * 2 ^ ((v0 * (if es = [] then (0 : Int) else 1)).toNat) ≤ 1000
            rw [hp2]; omega
          · have hbl' : bt.length = 2 ^ sn := by
              rw [hbl]
              show ((1 : Int) * 2 ^ ((v0 * (if es = [] then (0 : Int) else 1)).toNat)).toNat = _
              rw [hp2, Int.toNat_natCast]
            refine ⟨.ref q1, rfl, by show 4 ≤ sizeLine; decide, fun p1 m1 => ?_⟩
            have hDe := ge.refs gd.bx hDd
            generalize hHf : upd He p1 _ = Hf
            have xf : Evl.Ex He Hf := hHf ▸ Evl.Ex.new m1
            have hf1 : Hf p1 = some (.tup [.str "gate", .str z, .str bt, .ref q1]) := by rw [← hHf]; exact upd_same
            have hf2 : Hf q1 = some (.tup (pn.map V.str)) := xf _ _ (ge.tup gd.bx hq1)
            have hDf := xf _ _ hDe
            have gf := (gd.trans ge).ex xf
            refine ⟨D, _, _, rfl, rfl, hDf, by rw [vals_length, List.length_append]; exact Evl.sz_lt (by omega), ?_⟩
            have slf : SL [(pk, ks), (pc, cs), (pi, ins), (pl, ys)] Hf := (((((sl.go ga' gg.bx).ex xb).go gc gb.bx).ex xd).go ge gd.bx).ex xf
            have hef : Hf ea = some (.lst (es.map V.str)) := xf _ _ (ge.strs gd.bx (xd _ _ (gc.strs gb.bx heb)))
            have tkf : TK H' Hf := ((((((TK.go ga' gg.bx).trans (TK.ex xb)).trans (TK.go gc gb.bx)).trans (TK.ex xd)).trans (TK.go ge gd.bx)).trans (TK.ex xf))
            generalize hHg : upd Hf D _ = Hg
            have hDg : Hg D = some (.lst (vals (ps1 ++ (ps2 ++ [(p1, ⟨"gate", z, bt, pn⟩)])))) := by rw [← hHg, upd_same, ← List.append_assoc, vals_snoc]
            have gG : Go B H Hg := hHg ▸ Go.mut hB gf fD
            have slg : SL [(pk, ks), (pc, cs), (pi, ins), (pl, ys)] Hg := hHg ▸ slf.mut nDs
            have heg : Hg ea = some (.lst (es.map V.str)) := by rw [← hHg, upd_ne nea']; exact hef
            have tkg : TK Hf Hg := hHg ▸ TK.lst (fun _ _ h => h) hDf
            -- early = early + [name]
            refine ⟨.ref ea, rfl, .str z, rfl, by show 1 ≤ sizeLine; decide, fun l1 nl1 => ?_⟩
            generalize hHh : upd Hg l1 _ = Hh
            have xh : Evl.Ex Hg Hh := hHh ▸ Evl.Ex.new nl1
            have hl1' : Hh l1 = some (.lst ([z].map V.str)) := by rw [← hHh]; exact upd_same
            refine ⟨ea, l1, _, _, rfl, rfl, xh _ _ heg, hl1', by rw [List.length_map, List.length_map]; exact sz (by show es.length + 1 ≤ _; omega), fun ea2 nea2 => ?_⟩
            rw [← List.map_append]
            generalize hHi : upd Hh ea2 _ = Hi
            have xi : Evl.Ex Hg Hi := xh.trans (hHi ▸ Evl.Ex.new nea2)
            have he2 : Hi ea2 = some (.lst ((es ++ [z]).map V.str)) := by rw [← hHi]; exact upd_same
            refine ⟨ps2 ++ [(p1, ⟨"gate", z, bt, pn⟩)], es ++ [z], ea2, _, _, _, _, rfl, gG.ex xi, slg.ex xi, xi _ _ hDg, by rw [List.length_append, hl2]; rfl, he2, (ne_of_none (xh _ _ hDg) nea2).symm, fun p hp => ?_, fun p hp => ?_, fun y hy => ?_, by rw [List.length_append]; show es.length + 1 ≤ _; omega, by omega⟩
            · rw [← List.append_assoc] at hp
              rcases List.mem_append.mp hp with hp | hp
              · exact (hr' p hp).mono ((tkf.trans tkg).trans (TK.ex xi))
              · rw [List.mem_singleton.mp hp]
                exact ⟨q1, xi _ _ (tkg _ _ hf1), xi _ _ (tkg _ _ hf2)⟩
            · rcases List.mem_append.mp hp with hp | hp
              · exact hm' p hp
              · rw [List.mem_singleton.mp hp]
                exact ⟨hzok, fun y hy => heo y (hpn y hy), hbb, .inl ⟨rfl, by show pn.length ≤ 3; omega, by show bt.length = 2 ^ pn.length; rw [hbl', hlc]⟩⟩
            · rcases List.mem_append.mp hy with h | h
              · exact heo y h
              · rw [List.mem_singleton.mp h]
                exact hzok
    -- behind the loop
    obtain ⟨ps2, es, ea, y7, y11, y12, y13, rfl, gg, sl, hD', hl2, he', nea', hr', hm', heo, hel, hi8⟩ := p
    rw [List.length_map] at hl2
    -- room
    refine ⟨.ref D, rfl, D, _, rfl, .inl (.inl (.inl hD')), 12, _, rfl, rfl, .ref B.b, rfl, .int (mo : Int), rfl, (mo : Int), 1, rfl, rfl, B, (mo : Int) + 1, rfl, gg.bx, by omega, by omega, fun v Ha hv0 hv1 ga' => ?_⟩
    have ga := gg.trans ga'
    have hea' := ga'.strs gg.bx he'
    refine ⟨_, _, rfl, .ref ea, rfl, by show 0 ≤ sizeLine; decide, fun l0 nl0 => ?_⟩
    generalize hHb : upd Ha l0 _ = Hb
    have xb : Evl.Ex Ha Hb := hHb ▸ Evl.Ex.new nl0
    have hl0 : Hb l0 = some (.lst []) := by rw [← hHb]; exact upd_same
    have gb := ga.ex xb
    have heb := xb _ _ hea'
    have slb : SL [(pk, ks), (pc, cs), (pi, ins), (pl, ys)] Hb := (sl.go ga' gg.bx).ex xb
    have hDb := xb _ _ (ga'.refs gg.bx hD')
    have tkb : TK H' Hb := (TK.go ga' gg.bx).trans (TK.ex xb)
    have hrb : ∀ p ∈ ps1 ++ ps2, RTh Hb p := fun p hp => (hr' p hp).mono tkb
    refine ⟨.list (es.map PyData.str), .list [], .lst (.inl (.inl heb)) (dp_strs es), .lst (.inl (.inl hl0)) .nil, shaped_strs heo, by decide +kernel, .inr ⟨_, rfl, ?_⟩⟩
    rw [eqv_nil, int_ne]
    have hlen : ((vals (ps1 ++ ps2)).length : Int) = (ia : Int) + (ca : Int) := by rw [vals_length, List.length_append]; omega
    obtain ⟨rn, hrn, hrn4, hrn12, hrn0⟩ : ∃ rn : Nat, (if v < (12 : Int) - ((vals (ps1 ++ ps2)).length : Int) then v else (12 : Int) - ((vals (ps1 ++ ps2)).length : Int)) * (if es = [] then (0 : Int) else 1) = (rn : Int) ∧ rn ≤ 4 ∧ rn + ia + ca ≤ 12 ∧ (es = [] → rn = 0) := by
      rw [hlen]
      by_cases hes : es = []
      · exact ⟨0, by rw [if_pos hes]; omega, by omega, by omega, fun _ => rfl⟩
      · by_cases hlt : v < (12 : Int) - ((ia : Int) + (ca : Int))
        · exact ⟨v.toNat, by rw [if_neg hes, if_pos hlt]; omega, by omega, by omega, fun h => absurd h hes⟩
        · exact ⟨12 - (ia + ca), by rw [if_neg hes, if_neg hlt]; omega, by omega, by omega, fun h => absurd h hes⟩
    refine ⟨_, _, rfl, rfl, .inr ⟨by split <;> decide, by split <;> decide⟩, ?_⟩
    -- for name in pool[12:12 + room]
    refine ⟨.ref pl, rfl, 12, rfl, _, rfl, 12, _, rfl, rfl, _, rfl, pl, ys.map V.str, rfl, .inl (.inl (slb (pl, ys) (by simp))), fun po' npo => ?_⟩
    have eo : cutV (ys.map V.str) (some 12) (some ((12 : Int) + (if v < (12 : Int) - ((vals (ps1 ++ ps2)).length : Int) then v else (12 : Int) - ((vals (ps1 ++ ps2)).length : Int)) * (if es = [] then (0 : Int) else 1))) = ((ys.drop 12).take rn).map V.str := by
      have h := cut_nat V.str ys 12 (12 + rn)
      rw [Nat.add_sub_cancel_left] at h
      rw [← h, hrn]
      rfl
    generalize hHc : upd Hb po' _ = Hc
    have hpo : Hc po' = some (.lst (((ys.drop 12).take rn).map V.str)) := by rw [← hHc, ← eo]; exact upd_same
    have xc : Evl.Ex Hb Hc := hHc ▸ Evl.Ex.new npo
    have gc := gb.ex xc
    have npoD : po' ≠ D := (ne_of_none hDb npo).symm
    have npob : po' ≠ B.b := gb.bx.nb npo
    generalize hos : (ys.drop 12).take rn = os at hpo
    have hol : os.length ≤ rn := by rw [← hos, List.length_take]; omega
    have hook : ∀ z ∈ os, NameOk z := fun z hz => hyok z (by rw [← hos] at hz; exact List.mem_of_mem_drop (List.mem_of_mem_take hz))
    refine ⟨po', rfl, ⟨_, .inl (.inl hpo)⟩, ?_⟩
    refine for_list (K := K) (a := po') (xs := os.map V.str) (fun i σ' H' => ∃ (ps3 : List (Addr × Th)) (y7 y14 : Option V), σ' = [some (.ref B.b), some (.int (mi : Int)), some (.int (mc : Int)), some (.int (mo : Int)), some (.ref pl), some (.ref pi), some (.ref pc), y7, some (.ref pk), some (.ref D), some (.ref ea), y11, y12, y13, y14, none, none, none] ∧
        Go B H H' ∧ SL [(po', os), (ea, es), (pc, cs), (pi, ins)] H' ∧ H' D = some (.lst (vals (ps1 ++ ps2 ++ ps3))) ∧ ps3.length = i ∧ (∀ p ∈ ps1 ++ ps2 ++ ps3, RTh H' p) ∧ (∀ p ∈ ps3, IsOut p.2) ∧ i ≤ rn)
      ⟨[], _, _, rfl, gc, SL.cons hpo (SL.cons (xc _ _ heb) (SL.cons (xc _ _ (slb (pc, cs) (by simp))) (SL.cons (xc _ _ (slb (pi, ins) (by simp))) (fun _ h => by simp at h)))), by rw [List.append_nil]; exact xc _ _ hDb, rfl, by rw [List.append_nil]; exact fun p hp => (hrb p hp).mono (TK.ex xc), fun p h => by simp at h, Nat.zero_le _⟩
      (fun i σ' H' _ p => ?_) (fun i x σ' H' hx p => ?_) (fun σ' H' p => ?_)
    · obtain ⟨ps3, y7', y14, rfl, gg', sl', _⟩ := p
      exact .inl (.inl (sl' (po', os) (by simp)))
    · obtain ⟨ps3, y7', y14, rfl, gg', sl', hD3, hl3, hr3, ho3, hirn⟩ := p
      have hilt := (List.getElem?_eq_some_iff.mp hx).1
      rw [List.length_map] at hilt
      rw [List.getElem?_map] at hx
      obtain ⟨z, hz, e⟩ := Option.map_eq_some_iff.mp hx
      subst e
      have hzok := hook z (List.mem_of_getElem? hz)
      have hes : es ≠ [] := fun h => by
        have := hrn0 h
        omega
      have hpos : 0 < es.length := List.length_pos_iff.mpr hes
      have hec : H' ea = some (.lst (es.map V.str)) := sl' (ea, es) (by simp)
      refine ⟨.ref D, rfl, .inl ⟨rfl, _, .inl (.inl hD3)⟩, .str z, rfl, .ref ea, rfl, .ref B.b, rfl, .ref ea, rfl, ea, es.map V.str, rfl, .inl (.inl (.inl hec)), B, _, rfl, gg'.bx, by rw [List.length_map]; omega, by rw [List.length_map]; omega, fun v' Hd hv0' hv1' gd => ?_⟩
      rw [List.length_map] at hv1'
      obtain ⟨pz, hpz, hat⟩ := at_strs hv0' hv1'
      refine ⟨ea, _, v', .str pz, rfl, rfl, .inl (.inl (gd.strs gg'.bx hec)), hat, by show 1 ≤ sizeLine; decide, fun q1 n1 => ⟨by show 4 ≤ sizeLine; decide, fun p1 m1 => ?_⟩⟩
      have hDd := gd.refs gg'.bx hD3
      generalize hHe : upd (upd Hd q1 (HO.tup [V.str pz])) p1 _ = He
      have xe : Evl.Ex Hd He := hHe ▸ (Evl.Ex.new n1).trans (Evl.Ex.new m1)
      have he1 : He p1 = some (.tup [.str "out", .str z, .str "", .ref q1]) := by rw [← hHe]; exact upd_same
      have he2 : He q1 = some (.tup [.str pz]) := by rw [← hHe, upd_ne (ne_of_none upd_same m1)]; exact upd_same
      have hDe := xe _ _ hDd
      have ge := (gg'.trans gd).ex xe
      have sle := (sl'.go gd gg'.bx).ex xe
      refine ⟨D, _, _, rfl, rfl, hDe, by rw [vals_length, List.length_append, List.length_append]; exact Evl.sz_lt (by omega), ?_⟩
      have tk : TK H' (upd He D (.lst (vals (ps1 ++ ps2 ++ ps3) ++ [.ref p1]))) := ((TK.go gd gg'.bx).trans (TK.ex xe)).lst hDe
      have tke : TK He (upd He D (.lst (vals (ps1 ++ ps2 ++ ps3) ++ [.ref p1]))) := TK.lst (fun _ _ h => h) hDe
      have nd4 : ∀ s ∈ [(po', os), (ea, es), (pc, cs), (pi, ins)], s.1 ≠ D := fun s hs => by
        simp only [List.mem_cons, List.not_mem_nil, or_false] at hs
        rcases hs with rfl | rfl | rfl | rfl
        · exact npoD
        · exact nea'
        · exact nDs (pc, cs) (by simp)
        · exact nDs (pi, ins) (by simp)
      refine ⟨ps3 ++ [(p1, ⟨"out", z, "", [pz]⟩)], _, _, rfl, Go.mut hB ge fD, sle.mut nd4, by rw [upd_same, ← List.append_assoc, vals_snoc], by rw [List.length_append, hl3]; rfl, fun p hp => ?_, fun p hp => ?_, by omega⟩
      · rw [← List.append_assoc] at hp
        rcases List.mem_append.mp hp with hp | hp
        · exact (hr3 p hp).mono tk
        · rw [List.mem_singleton.mp hp]
          exact ⟨q1, tke _ _ he1, tke _ _ he2⟩
      · rcases List.mem_append.mp hp with hp | hp
        · exact ho3 p hp
        · rw [List.mem_singleton.mp hp]
          exact ⟨rfl, hzok, rfl, pz, heo pz hpz, rfl⟩
    obtain ⟨ps3, y7', y14, rfl, gg', sl', hD3, hl3, hr3, ho3, hirn⟩ := p
    rw [List.length_map] at hl3
    have hpi3 : H' pi = some (.lst (ins.map V.str)) := sl' (pi, ins) (by simp)
    have hpc3 : H' pc = some (.lst (cs.map V.str)) := sl' (pc, cs) (by simp)
    -- mixed
    refine ⟨.ref D, rfl, .ref pi, rfl, pi, _, rfl, .inl (.inl (.inl hpi3)), _, rfl, .ref pi, rfl, pi, _, rfl, .inl (.inl (.inl hpi3)), .ref pc, rfl, pc, _, rfl, .inl (.inl (.inl hpc3)), _, _, rfl, rfl, _, rfl, D, _, rfl, .inl (.inl hD3), fun pm npm => ?_⟩
    have em : cutV (vals (ps1 ++ ps2 ++ ps3)) (some ((ins.map V.str).length : Int)) (some (((ins.map V.str).length : Int) + ((cs.map V.str).length : Int))) = vals ps2 := by
      rw [List.length_map, List.length_map]
      have h := cut_nat (fun p : Addr × Th => V.ref p.1) (ps1 ++ ps2 ++ ps3) ins.length (ins.length + cs.length)
      rw [Nat.add_sub_cancel_left] at h
      have h2 : ((ps1 ++ ps2 ++ ps3).drop ins.length).take cs.length = ps2 := by
        rw [List.append_assoc, List.drop_left' (by omega), List.take_left' (by omega)]
      rw [h2] at h
      exact h
    generalize hHm : upd H' pm _ = Hm
    have hpm : Hm pm = some (.lst (vals ps2)) := by rw [← hHm, ← em]; exact upd_same
    have xm : Evl.Ex H' Hm := hHm ▸ Evl.Ex.new npm
    have gm := gg'.ex xm
    have fm : H pm = none := gg'.fresh npm
    have npmD : D ≠ pm := ne_of_none hD3 npm
    -- for at in range(1, len(mixed) * take(box, 2))
    refine ⟨.ref pm, rfl, pm, _, rfl, .inl (.inl (.inl hpm)), .ref B.b, rfl, B, 2, rfl, gm.bx, by decide, by decide, fun vn Hn hn0 hn1 gn' => ?_⟩
    refine ⟨_, vn, rfl, rfl, .inr ⟨by omega, by omega⟩, ?_⟩
    have hv2 : ((vals ps2).length : Int) * vn ≤ (ca : Int) ∧ 0 ≤ ((vals ps2).length : Int) * vn := by
      rw [vals_length]
      have h01 : vn = 0 ∨ vn = 1 := by omega
      rcases h01 with h | h
      · rw [h]; omega
      · rw [h]; omega
    have gn := gm.trans gn'
    refine ⟨1, _, rfl, ⟨by omega, by omega, by omega, by omega⟩, ?_⟩
    refine for_range (lo := 1) (fun i σ' H' => ∃ (qs : List (Addr × Th)) (y7 y16 : Option V), σ' = [some (.ref B.b), some (.int (mi : Int)), some (.int (mc : Int)), some (.int (mo : Int)), some (.ref pl), some (.ref pi), some (.ref pc), y7, some (.ref pk), some (.ref D), some (.ref ea), y11, y12, y13, y14, some (.ref pm), y16, none] ∧
        Go B H H' ∧ SL [(pc, cs), (pi, ins)] H' ∧ H' D = some (.lst (vals (ps1 ++ ps2 ++ ps3))) ∧ H' pm = some (.lst (vals qs)) ∧ qs.Perm ps2 ∧ (∀ p ∈ ps1 ++ ps2 ++ ps3, RTh H' p))
      ⟨ps2, _, _, rfl, gn, SL.cons (gn'.strs gm.bx (xm _ _ hpc3)) (SL.cons (gn'.strs gm.bx (xm _ _ hpi3)) (fun _ h => by simp at h)), gn'.refs gm.bx (xm _ _ hD3), gn'.refs gm.bx hpm, List.Perm.refl _, fun p hp => (hr3 p hp).mono ((TK.ex xm).trans (TK.go gn' gm.bx))⟩
      (fun i σ' H' hi p => ?_) (fun σ' H' p => ?_)
    · obtain ⟨qs, y7a, y16, rfl, ga2, sla, hDa, hpa, hqa, hra⟩ := p
      have hql : qs.length = ca := by rw [hqa.length_eq]; omega
      have hik : 1 + i < qs.length := by omega
      refine ⟨.ref pm, rfl, .inl ⟨rfl, _, .inl (.inl hpa)⟩, .ref B.b, rfl, .int (1 + (i : Int)), rfl, _, 1, rfl, rfl, B, _, rfl, ga2.bx, by omega, by omega, fun v' Hb hv0' hv1' gb2 => ?_⟩
      obtain ⟨v', rfl⟩ : ∃ u : Nat, v' = u := ⟨v'.toNat, by omega⟩
      have hpb := gb2.refs ga2.bx hpa
      have hgk : (vals qs)[1 + i]? = some (.ref qs[1 + i].1) := by
        unfold vals
        rw [List.getElem?_map, List.getElem?_eq_getElem hik]
        rfl
      have hsq : seqIndex? (1 + (i : Int)) (vals qs).length = some (1 + i) := by
        rw [seqIndex_of (by omega) (by rw [vals_length]; omega)]
        congr 1
      refine ⟨.ref pm, rfl, .inl ⟨rfl, _, .inl (.inl hpb)⟩, .int (1 + (i : Int)), rfl, pm, _, _, 1 + i, _, rfl, rfl, hpb, by omega, by omega, hsq, hgk, ?_⟩
      refine ⟨pm, _, (v' : Int), _, rfl, rfl, upd_same, ?_, by omega, by omega, ?_⟩
      · unfold vals
        rw [erase_map, List.length_map]
        have := List.length_eraseIdx_le (l := qs) (i := 1 + i)
        exact Evl.sz_lt (by omega)
      · rw [upd_upd]
        have ev : (List.take (v' : Int).toNat ((vals qs).eraseIdx (1 + i)) ++ [V.ref qs[1 + i].1] ++ List.drop (v' : Int).toNat ((vals qs).eraseIdx (1 + i))) = vals ((qs.eraseIdx (1 + i)).take v' ++ [qs[1 + i]] ++ (qs.eraseIdx (1 + i)).drop v') := by
          unfold vals
          rw [erase_map, Int.toNat_natCast, List.map_append, List.map_append, List.map_take, List.map_drop]
          rfl
        have tk : ∀ o, TK H' (upd Hb pm o) := fun o => (TK.go gb2 ga2.bx).lst hpb
        refine ⟨(qs.eraseIdx (1 + i)).take v' ++ [qs[1 + i]] ++ (qs.eraseIdx (1 + i)).drop v', _, _, rfl, Go.mut hB (ga2.trans gb2) fm, (sla.go gb2 ga2.bx).mut (fun s hs => ?_), ?_, by rw [upd_same, ← ev], (ins_perm hik).trans hqa, fun p hp => (hra p hp).mono (tk _)⟩
        · simp only [List.mem_cons, List.not_mem_nil, or_false] at hs
          rcases hs with rfl | rfl
          · exact ne_of_none hpc3 npm
          · exact ne_of_none hpi3 npm
        · rw [upd_ne npmD]
          exact gb2.refs ga2.bx hDa
    · obtain ⟨qs, y7a, y16, rfl, ga2, sla, hDa, hpa, hqa, hra⟩ := p
      have hpi4 : H' pi = some (.lst (ins.map V.str)) := sla (pi, ins) (by simp)
      have hpc4 : H' pc = some (.lst (cs.map V.str)) := sla (pc, cs) (by simp)
      have hql : qs.length = ca := by rw [hqa.length_eq]; omega
      -- things[:len(ins)]
      refine ⟨.ref D, rfl, .ref pi, rfl, pi, _, rfl, .inl (.inl (.inl hpi4)), _, rfl, D, _, rfl, .inl (.inl hDa), fun s1 n1 => ?_⟩
      have e1 : cutV (vals (ps1 ++ ps2 ++ ps3)) none (some ((ins.map V.str).length : Int)) = vals ps1 := by
        rw [List.length_map]
        have h := cut_hi (fun p : Addr × Th => V.ref p.1) (ps1 ++ ps2 ++ ps3) ins.length
        rw [List.append_assoc, List.take_left' (by omega)] at h
        rw [List.append_assoc]
        exact h
      generalize hHa : upd H' s1 _ = Ha
      have hs1 : Ha s1 = some (.lst (vals ps1)) := by rw [← hHa, ← e1]; exact upd_same
      have xa : Evl.Ex H' Ha := hHa ▸ Evl.Ex.new n1
      refine ⟨.ref pm, rfl, s1, pm, _, _, rfl, rfl, hs1, xa _ _ hpa, by rw [vals_length, vals_length]; exact sz (by omega), fun s2 n2 => ?_⟩
      rw [← vals_app]
      generalize hHb : upd Ha s2 _ = Hb
      have hs2 : Hb s2 = some (.lst (vals (ps1 ++ qs))) := by rw [← hHb]; exact upd_same
      have xb : Evl.Ex Ha Hb := hHb ▸ Evl.Ex.new n2
      have xab := xa.trans xb
      refine ⟨.ref D, rfl, .ref pi, rfl, pi, _, rfl, .inl (.inl (.inl (xab _ _ hpi4))), .ref pc, rfl, pc, _, rfl, .inl (.inl (.inl (xab _ _ hpc4))), _, _, rfl, rfl, _, rfl, D, _, rfl, .inl (.inl (xab _ _ hDa)), fun s3 n3 => ?_⟩
      have e3 : cutV (vals (ps1 ++ ps2 ++ ps3)) (some (((ins.map V.str).length : Int) + ((cs.map V.str).length : Int))) none = vals ps3 := by
        rw [List.length_map, List.length_map]
        have h := cut_lo (fun p : Addr × Th => V.ref p.1) (ps1 ++ ps2 ++ ps3) (ins.length + cs.length)
        rw [List.drop_left' (by rw [List.length_append]; omega)] at h
        exact h
      generalize hHc : upd Hb s3 _ = Hc
      have hs3 : Hc s3 = some (.lst (vals ps3)) := by rw [← hHc, ← e3]; exact upd_same
      have xc : Evl.Ex Hb Hc := hHc ▸ Evl.Ex.new n3
      refine ⟨s2, s3, _, _, rfl, rfl, xc _ _ hs2, hs3, by rw [vals_length, vals_length, List.length_append]; exact sz (by omega), fun s4 n4 => ?_⟩
      rw [← vals_app]
      generalize hHd : upd Hc s4 _ = Hd
      have hs4 : Hd s4 = some (.lst (vals (ps1 ++ qs ++ ps3))) := by rw [← hHd]; exact upd_same
      have xd : Evl.Ex Hc Hd := hHd ▸ Evl.Ex.new n4
      refine ⟨s4, _, rfl, .inl ⟨.inl (.inl hs4), fun l nl => ?_⟩⟩
      have xl := ((xab.trans xc).trans xd).trans (Evl.Ex.new (o := .tup (vals (ps1 ++ qs ++ ps3))) nl)
      have hmem : ∀ p ∈ ps1 ++ qs ++ ps3, p ∈ ps1 ++ ps2 ++ ps3 := fun p hp => by
        rcases List.mem_append.mp hp with hp | hp
        · rcases List.mem_append.mp hp with hp | hp
          · exact List.mem_append_left _ (List.mem_append_left _ hp)
          · exact List.mem_append_left _ (List.mem_append_right _ (hqa.mem_iff.mp hp))
        · exact List.mem_append_right _ hp
      refine q l (ps1 ++ qs ++ ps3) _ (ga2.ex xl) upd_same (fun p hp => (hra p (hmem p hp)).mono (TK.ex xl)) ⟨⟨ps1.map (·.2), qs.map (·.2), ps3.map (·.2), by rw [List.map_append, List.map_append], fun t ht => ?_, fun t ht => ?_, fun t ht => ?_⟩, by rw [List.length_map, List.length_append, List.length_append]; omega⟩
      · obtain ⟨p, hp, rfl⟩ := List.mem_map.mp ht
        exact hin1 p hp
      · obtain ⟨p, hp, rfl⟩ := List.mem_map.mp ht
        exact hm' p (hqa.mem_iff.mp hp)
      · obtain ⟨p, hp, rfl⟩ := List.mem_map.mp ht
        exact ho3 p hp
end
end Tl

namespace Tl
open PySem PySem.Spec PyProof.Rows L2
/-! ### data -/
inductive DT (H : Hp) : V → PyData → Prop
  | non : DT H .non .none
  | bl (b : Bool) : DT H (.bl b) (.bool b)
  | int (i : Int) : DT H (.int i) (.int i)
  | str (x : Str) : DT H (.str x) (.str x)
  | lst {a : Addr} {xs : List V} {ds : List PyData} (h : H a = some (.lst xs)) (hl : xs.length = ds.length) (hz : xs.length ≤ 50000) (hi : ∀ (i : Nat) (x : V) (d : PyData), xs[i]? = some x → ds[i]? = some d → DT H x d) : DT H (.ref a) (.list ds)
  | tup {a : Addr} {xs : List V} {ds : List PyData} (h : H a = some (.tup xs)) (hl : xs.length = ds.length) (hz : xs.length ≤ 50000) (hi : ∀ (i : Nat) (x : V) (d : PyData), xs[i]? = some x → ds[i]? = some d → DT H x d) : DT H (.ref a) (.tuple ds)
theorem DT.mono {H H' : Hp} (e : Evl.Ex H H') {v : V} {d : PyData} (h : DT H v d) : DT H' v d := by
  induction h with
  | non => exact .non
  | bl b => exact .bl b
  | int i => exact .int i
  | str x => exact .str x
  | lst h hl hz _ ih => exact .lst (e _ _ h) hl hz fun i x d hx hd => ih i x d hx hd
  | tup h hl hz _ ih => exact .tup (e _ _ h) hl hz fun i x d hx hd => ih i x d hx hd
theorem depth_get : ∀ {ds : List PyData} {i : Nat} {d : PyData}, ds[i]? = some d → d.depth ≤ PyData.depthAll ds
  | [], i, d, h => by simp at h
  | x :: r, 0, d, h => by
    have e : x = d := Option.some.inj h
    subst e
    simp only [PyData.depthAll]
    omega
  | x :: r, i + 1, d, h => by
    have ih := depth_get (ds := r) (i := i) (d := d) h
    simp only [PyData.depthAll]
    omega
/-- a comprehension over zip of two sequences of one length, each item True -/
theorem lc_zip {J : It} {xs ys : List V} {te : TE} {K : PySem.W.Frag} {vs : List Nat} {σ : L2.St} {H1 : Hp} {D : Addr} {Qd : Hp → Prop} {j k : Nat} (hl : xs.length = ys.length) (hn : xs.length ≤ 50000) (hD : H1 D = none)
    (hgo : ∀ i H x y, Evl.Ex H1 H → xs[i]? = some x → ys[i]? = some y → J.go i H) (hst : ∀ H, Evl.Ex H1 H → J.stop xs.length H)
    (hy : ∀ i H v H', Evl.Ex H1 H → J.yld i H v H' → ∃ T x y, v = .ref T ∧ H T = none ∧ H' = upd H T (.tup [x, y]) ∧ xs[i]? = some x ∧ ys[i]? = some y)
    (hw : ∀ x y, wipe (((wipe σ vs).set j (some x)).set k (some y)) vs = wipe σ vs)
    (hs : ∀ (i : Nat) (x y : V), xs[i]? = some x → ys[i]? = some y → ∀ H, Evl.Ex H1 H → ∀ Q : VK, (∀ H', Evl.Ex H H' → Q (.bl true) H') → te (((wipe σ vs).set j (some x)).set k (some y)) H Q)
    (hd : ∀ H, Evl.Ex H1 H → H D = some (.lst ((List.replicate xs.length true).map V.bl)) → Qd H) :
    ∃ W : Nat → Nat → Hp → Prop, (∃ m, W 0 m (upd H1 D (.lst []))) ∧ ∀ i m H, W i m H →
      (J.stop i H ∧ Qd H) ∨ (J.go i H ∧ ∃ Nx : Hp → Prop, (∀ H', Nx H' → ∃ m', m' < m ∧ W (i + 1) m' H') ∧ ∀ x H', J.yld i H x H' → gTup K 2 (gCons (gName j) (gCons (gName k) gNil)) x (wipe σ vs) H' fun σ2 H2 => wipe σ2 vs = wipe σ vs ∧ tYes σ2 H2 fun b H3 =>
        if b = true then te σ2 H3 fun y H4 => ∃ acc, H4 D = some (.lst acc) ∧ acc.length < sizeLine ∧ Nx (upd H4 D (.lst (acc ++ [y]))) else Nx H3) := by
  refine ⟨fun i m H => m = xs.length - i ∧ i ≤ xs.length ∧ Evl.Ex H1 H ∧ H D = some (.lst ((List.replicate i true).map V.bl)), ⟨xs.length, rfl, Nat.zero_le _, Evl.Ex.new hD, upd_same⟩, ?_⟩
  rintro i m H ⟨rfl, hi, ex, hD'⟩
  by_cases hlt : i < xs.length
  · have hx : xs[i]? = some xs[i] := List.getElem?_eq_getElem hlt
    have hy' : ys[i]? = some ys[i] := List.getElem?_eq_getElem (by omega)
    refine .inr ⟨hgo i H _ _ ex hx hy', fun H' => Evl.Ex H1 H' ∧ H' D = some (.lst ((List.replicate (i + 1) true).map V.bl)), fun H' p' => ⟨xs.length - (i + 1), by omega, rfl, hlt, p'.1, p'.2⟩, fun v H' y => ?_⟩
    obtain ⟨T, x, z, rfl, nT, rfl, ex1, ez1⟩ := hy i H v H' ex y
    have exT : Evl.Ex H (upd H T (.tup [x, z])) := Evl.Ex.new nT
    refine ⟨T, [x, z], rfl, .inl (.inl upd_same), rfl, x, [z], rfl, z, [], rfl, rfl, hw x z, ?_⟩
    refine hs i x z ex1 ez1 _ (ex.trans exT) _ fun H3 e3 => ⟨_, e3 _ _ (exT _ _ hD'), ?_, Evl.Ex.mut ((ex.trans exT).trans e3) hD, ?_⟩
    · rw [List.length_map, List.length_replicate]
      exact Evl.sz_lt (by omega)
    · rw [upd_same, List.replicate_succ', List.map_append]
      rfl
  · have e : i = xs.length := by omega
    subst e
    exact .inl ⟨hst H ex, hd H ex hD'⟩
abbrev sSame : Stmt := topS 18
abbrev nSame : List Str := ["_law_found", "_law_due", "_law_one", "_law_other"]
theorem scSame : FnScope nSame ["_law_found", "_law_due"] (defScope sSame) := ⟨rfl, rfl, rfl, by decide +kernel, rfl, by decide +kernel, by decide +kernel⟩
section
variable {P : Program} {w : World} {K : PySem.W.Frag} {mg : Str → Option Value} {base : Heap}
def spSame (n : Nat) : Sp := fun vs H Q _ => ∃ (x y : V) (d : PyData), vs = [x, y] ∧ d.depth < n ∧ DT H x d ∧ DT H y d ∧ ∀ H', Evl.Ex H H' → Q (.bl true) H'
theorem ok_same {f : Addr} {fd : FuncData} (F : Fun K "_law_same" "_law_same" sSame f fd) (bF : Binds K fd ["_law_found", "_law_due"] []) (gF : mg "_law_same" = some (.ref f)) (mi : mg "isinstance" = none) (ml : mg "len" = none) (ma : mg "all" = none) (mz : mg "zip" = none) (mli : mg "list" = none) (mtu : mg "tuple" = none)
    (mbo : mg "bool" = none) (mint : mg "int" = none) (mst : mg "str" = none) : ∀ n, FnOk P w K mg base CX0 n f fd ["_law_found", "_law_due"] (spSame n)
  | 0 => ⟨fun vs H Q E h => by obtain ⟨x, y, d, _, h, _⟩ := h; omega, fun A outer s H args us vs Q E _ _ _ _ h => by obtain ⟨x, y, d, _, h, _⟩ := h; omega⟩
  | n + 1 => by
    have G := ok_same F bF gF mi ml ma mz mli mtu mbo mint mst n
    refine F.ok scSame (fun vs H Q E h => ?_) (fun cdv A outer s H vs Q E hr h => ?_)
    · obtain ⟨x, y, d, rfl, _⟩ := h
      rfl
    · obtain ⟨x, y, d, rfl, hdp, hx, hy, q⟩ := h
      refine ⟨_, pss_cons (ps_if (PW.pt (pw_or (pt_val (pe_callB call_isi (by rfl) mi boot_isinstance (pa_cons (pv 1) (pa_cons (pe_bltn (v := .ty "list") (u := .type "list") (by rfl) mli (by decide +kernel) rfl) pa_nil))))
            (pw_or1 (pt_val (pe_callB call_isi (by rfl) mi boot_isinstance (pa_cons (pv 1) (pa_cons (pe_bltn (v := .ty "tuple") (u := .type "tuple") (by rfl) mtu (by decide +kernel) rfl) pa_nil)))))))
          (pss_cons (ps_if (PW.pt (pw_or (pt_cmpR op_ne (pe_callB call_isi (by rfl) mi boot_isinstance (pa_cons (pv 0) (pa_cons (pe_bltn (v := .ty "list") (u := .type "list") (by rfl) mli (by decide +kernel) rfl) pa_nil))) (pe_callB call_isi (by rfl) mi boot_isinstance (pa_cons (pv 1) (pa_cons (pe_bltn (v := .ty "list") (u := .type "list") (by rfl) mli (by decide +kernel) rfl) pa_nil))) (nomark _))
              (pw_or1 (pt_cmpR op_ne (pe_callB call_isi (by rfl) mi boot_isinstance (pa_cons (pv 0) (pa_cons (pe_bltn (v := .ty "tuple") (u := .type "tuple") (by rfl) mtu (by decide +kernel) rfl) pa_nil))) (pe_callB call_isi (by rfl) mi boot_isinstance (pa_cons (pv 1) (pa_cons (pe_bltn (v := .ty "tuple") (u := .type "tuple") (by rfl) mtu (by decide +kernel) rfl) pa_nil))) (nomark _)))))
              (pss_one (ps_ret pe_bl)) pss_nil)
          (pss_one (ps_ret (pe_and (pe_cmpR op_eq (pe_callB call_len_seq (by rfl) ml PySem.boot_len (pa_cons (pv 0) pa_nil)) (pe_callB call_len_seq (by rfl) ml PySem.boot_len (pa_cons (pv 1) pa_nil)) (nomark _))
            (pe_one (pe_callB (cr_all rfl) (by rfl) ma (by decide +kernel) (pa_cons (pe_lc (own := [("_law_one", 2), ("_law_other", 3)]) (g := gTup K 2 (gCons (gName 2) (gCons (gName 3) gNil))) (tt := tYes) rfl scSame.nd (RZ.pi_zipA (by rfl) mz (pa_cons (pv 0) (pa_cons (pv 1) pa_nil))) (blkOk_by (N := nSame) (sc := defScope sSame) (by decide +kernel))
              (fun _ _ _ _ _ => pg_tup rfl (pgs_cons (pg_name (i := 2) scSame.nd rfl (.inl rfl)) (pgs_cons (pg_name (i := 3) scSame.nd rfl (.inl rfl)) pgs_nil))) (fun _ _ _ _ _ => pts_nil)
              (fun _ _ _ _ _ => pe_call G hr (by rfl) gF F.kp bF .nil pass0 (pa_cons (pv 2) (pa_cons (pv 3) pa_nil)))) pa_nil))))))) pss_nil)
        (pss_cons (ps_if (PW.pt (pw_or (pt_cmpR op_isN (pv 0) pe_non (nomark _)) (pw_or1 (pt_cmpR op_isN (pv 1) pe_non (nomark _)))))
            (pss_one (ps_ret (pe_and (pe_cmpR op_isN (pv 0) pe_non (nomark _)) (pe_one (pe_cmpR op_isN (pv 1) pe_non (nomark _)))))) pss_nil)
        (pss_cons (ps_if (PW.pt (pw_or (pt_cmpR op_ne (pe_callB call_isi (by rfl) mi boot_isinstance (pa_cons (pv 0) (pa_cons (pe_bltn (v := .ty "bool") (u := .type "bool") (by rfl) mbo (by decide +kernel) rfl) pa_nil))) (pe_callB call_isi (by rfl) mi boot_isinstance (pa_cons (pv 1) (pa_cons (pe_bltn (v := .ty "bool") (u := .type "bool") (by rfl) mbo (by decide +kernel) rfl) pa_nil))) (nomark _))
              (pw_or1 (pt_cmpR op_ne (pe_callB call_isi (by rfl) mi boot_isinstance (pa_cons (pv 0) (pa_cons (pe_bltn (v := .ty "int") (u := .type "int") (by rfl) mint (by decide +kernel) rfl) pa_nil))) (pe_callB call_isi (by rfl) mi boot_isinstance (pa_cons (pv 1) (pa_cons (pe_bltn (v := .ty "int") (u := .type "int") (by rfl) mint (by decide +kernel) rfl) pa_nil))) (nomark _)))))
            (pss_one (ps_ret pe_bl)) pss_nil)
        (pss_one (ps_ret (pe_and (pe_cmpR op_eq (pe_callB call_isi (by rfl) mi boot_isinstance (pa_cons (pv 0) (pa_cons (pe_bltn (v := .ty "str") (u := .type "str") (by rfl) mst (by decide +kernel) rfl) pa_nil))) (pe_callB call_isi (by rfl) mi boot_isinstance (pa_cons (pv 1) (pa_cons (pe_bltn (v := .ty "str") (u := .type "str") (by rfl) mst (by decide +kernel) rfl) pa_nil))) (nomark _))
            (pe_one (pe_cmpR op_eq (pv 0) (pv 1) (nomark _)))))))), ?_⟩
      cases hx with
      | str z =>
        cases hy with
        | str =>
          have ty : TyX K H (.str z) (.type "str") := .base (.str z)
          refine ⟨(.str z), rfl, (.str z), .ty "list", _, _, false, rfl, .ty _, ty, kit_ty (by decide +kernel), false, rfl, ?_⟩
          refine ⟨(.str z), rfl, (.str z), .ty "tuple", _, _, false, rfl, .ty _, ty, kit_ty (by decide +kernel), false, rfl, ?_⟩
          refine ⟨(.str z), rfl, rfl, false, rfl, ?_⟩
          refine ⟨(.str z), rfl, rfl, false, rfl, ?_⟩
          refine ⟨(.str z), rfl, (.str z), .ty "bool", _, _, false, rfl, .ty _, ty, kit_ty (by decide +kernel), (.str z), rfl, (.str z), .ty "bool", _, _, false, rfl, .ty _, ty, kit_ty (by decide +kernel), rfl, false, rfl, ?_⟩
          refine ⟨(.str z), rfl, (.str z), .ty "int", _, _, false, rfl, .ty _, ty, kit_ty (by decide +kernel), (.str z), rfl, (.str z), .ty "int", _, _, false, rfl, .ty _, ty, kit_ty (by decide +kernel), rfl, false, rfl, ?_⟩
          refine ⟨(.str z), rfl, (.str z), .ty "str", _, _, true, rfl, .ty _, ty, kit_ty (by decide +kernel), (.str z), rfl, (.str z), .ty "str", _, _, true, rfl, .ty _, ty, kit_ty (by decide +kernel), rfl, true, rfl, (.str z), rfl, (.str z), rfl, rfl, ?_⟩
          rw [decide_eq_true rfl]
          exact q _ (Evl.Ex.refl _)
      | int z =>
        cases hy with
        | int =>
          have ty : TyX K H (.int z) (.type "int") := .base (.int z)
          refine ⟨(.int z), rfl, (.int z), .ty "list", _, _, false, rfl, .ty _, ty, kit_ty (by decide +kernel), false, rfl, ?_⟩
          refine ⟨(.int z), rfl, (.int z), .ty "tuple", _, _, false, rfl, .ty _, ty, kit_ty (by decide +kernel), false, rfl, ?_⟩
          refine ⟨(.int z), rfl, rfl, false, rfl, ?_⟩
          refine ⟨(.int z), rfl, rfl, false, rfl, ?_⟩
          refine ⟨(.int z), rfl, (.int z), .ty "bool", _, _, false, rfl, .ty _, ty, kit_ty (by decide +kernel), (.int z), rfl, (.int z), .ty "bool", _, _, false, rfl, .ty _, ty, kit_ty (by decide +kernel), rfl, false, rfl, ?_⟩
          refine ⟨(.int z), rfl, (.int z), .ty "int", _, _, true, rfl, .ty _, ty, kit_ty (by decide +kernel), (.int z), rfl, (.int z), .ty "int", _, _, true, rfl, .ty _, ty, kit_ty (by decide +kernel), rfl, false, rfl, ?_⟩
          refine ⟨(.int z), rfl, (.int z), .ty "str", _, _, false, rfl, .ty _, ty, kit_ty (by decide +kernel), (.int z), rfl, (.int z), .ty "str", _, _, false, rfl, .ty _, ty, kit_ty (by decide +kernel), rfl, true, rfl, (.int z), rfl, (.int z), rfl, rfl, ?_⟩
          rw [decide_eq_true rfl]
          exact q _ (Evl.Ex.refl _)
      | bl z =>
        cases hy with
        | bl =>
          have ty : TyX K H (.bl z) (.type "bool") := .base (.bl z)
          refine ⟨(.bl z), rfl, (.bl z), .ty "list", _, _, false, rfl, .ty _, ty, kit_ty (by decide +kernel), false, rfl, ?_⟩
          refine ⟨(.bl z), rfl, (.bl z), .ty "tuple", _, _, false, rfl, .ty _, ty, kit_ty (by decide +kernel), false, rfl, ?_⟩
          refine ⟨(.bl z), rfl, rfl, false, rfl, ?_⟩
          refine ⟨(.bl z), rfl, rfl, false, rfl, ?_⟩
          refine ⟨(.bl z), rfl, (.bl z), .ty "bool", _, _, true, rfl, .ty _, ty, kit_ty (by decide +kernel), (.bl z), rfl, (.bl z), .ty "bool", _, _, true, rfl, .ty _, ty, kit_ty (by decide +kernel), rfl, false, rfl, ?_⟩
          refine ⟨(.bl z), rfl, (.bl z), .ty "int", _, _, true, rfl, .ty _, ty, kit_ty (by decide +kernel), (.bl z), rfl, (.bl z), .ty "int", _, _, true, rfl, .ty _, ty, kit_ty (by decide +kernel), rfl, false, rfl, ?_⟩
          refine ⟨(.bl z), rfl, (.bl z), .ty "str", _, _, false, rfl, .ty _, ty, kit_ty (by decide +kernel), (.bl z), rfl, (.bl z), .ty "str", _, _, false, rfl, .ty _, ty, kit_ty (by decide +kernel), rfl, true, rfl, (.bl z), rfl, (.bl z), rfl, rfl, ?_⟩
          rw [decide_eq_true rfl]
          exact q _ (Evl.Ex.refl _)
      | non =>
        cases hy with
        | non =>
          have ty : TyX K H (.non) (.type "NoneType") := .base (.non)
          refine ⟨(.non), rfl, (.non), .ty "list", _, _, false, rfl, .ty _, ty, kit_ty (by decide +kernel), false, rfl, ?_⟩
          refine ⟨(.non), rfl, (.non), .ty "tuple", _, _, false, rfl, .ty _, ty, kit_ty (by decide +kernel), false, rfl, ?_⟩
          refine ⟨(.non), rfl, rfl, true, rfl, ?_⟩
          refine ⟨(.non), rfl, rfl, true, rfl, (.non), rfl, rfl, ?_⟩
          exact q _ (Evl.Ex.refl _)
      | @lst a xs ds h1 hl1 hz1 hi1 =>
        cases hy with
        | @lst b ys _ h2 hl2 hz2 hi2 =>
          have tya : TyX K H (.ref a) (.type "list") := .base (.lst h1)
          have tyb : TyX K H (.ref b) (.type "list") := .base (.lst h2)
          refine ⟨.ref b, rfl, .ref b, .ty "list", _, _, true, rfl, .ty _, tyb, kit_ty (by decide +kernel), true, rfl, ?_⟩
          refine ⟨.ref a, rfl, .ref a, .ty "list", _, _, true, rfl, .ty _, tya, kit_ty (by decide +kernel), .ref b, rfl, .ref b, .ty "list", _, _, true, rfl, .ty _, tyb, kit_ty (by decide +kernel), rfl, false, rfl, ?_⟩
          refine ⟨.ref a, rfl, .ref a, .ty "tuple", _, _, false, rfl, .ty _, tya, kit_ty (by decide +kernel), .ref b, rfl, .ref b, .ty "tuple", _, _, false, rfl, .ty _, tyb, kit_ty (by decide +kernel), rfl, false, rfl, ?_⟩
          have hll : xs.length = ys.length := by omega
          refine ⟨.ref a, rfl, a, xs, rfl, .inl (.inl (.inl h1)), .ref b, rfl, b, ys, rfl, .inl (.inl (.inl h2)), rfl, true, ?_, ?_⟩
          · show V.bl (decide (V.int (xs.length : Int) = V.int (ys.length : Int))) = V.bl true
            rw [hll, decide_eq_true rfl]
          · refine ⟨.ref a, rfl, .ref b, rfl, a, b, xs, ys, rfl, .inl ⟨.inl (.inl h1), .inl (.inl h2), fun D nD => ?_⟩⟩
            have dd : ∀ (i : Nat) (d : PyData), ds[i]? = some d → d.depth < n := fun i d hd => by
              have h := depth_get hd
              simp only [PyData.depth] at hdp
              omega
            refine lc_zip (xs := xs) (ys := ys) (j := 2) (k := 3) hll hz1 nD (fun i H' x y ex e1 e2 => ⟨xs, ys, x, y, .inl (.inl (ex _ _ h1)), .inl (.inl (ex _ _ h2)), e1, e2⟩) (fun H' ex => ⟨xs, ys, .inl (.inl (ex _ _ h1)), .inl (.inl (ex _ _ h2)), .inl (Nat.le_refl _)⟩)
              (fun i H' v H'' ex yl => ?_) (fun _ _ => rfl) (fun i x y e1 e2 H' ex Q' q' => ?_) (fun H' ex hD => ?_)
            · obtain ⟨T, x, y, rfl, nT, rfl, f1, f2⟩ := yl
              exact ⟨T, x, y, rfl, nT, rfl, f1 _ (.inl (.inl (ex _ _ h1))), f2 _ (.inl (.inl (ex _ _ h2)))⟩
            · obtain ⟨d, hd⟩ : ∃ d, ds[i]? = some d := ⟨ds[i]'(by have := (List.getElem?_eq_some_iff.mp e1).1; omega), List.getElem?_eq_getElem _⟩
              exact ⟨x, rfl, y, rfl, x, y, d, rfl, dd i d hd, (hi1 i x d e1 hd).mono ex, (hi2 i y d e2 hd).mono ex, q'⟩
            · refine ⟨D, List.replicate xs.length true, rfl, .inl (.inl hD), ?_⟩
              have ea : (List.replicate xs.length true).all id = true := by
                rw [List.all_eq_true]
                intro b hb
                exact List.eq_of_mem_replicate hb
              rw [ea]
              exact q H' ex
      | @tup a xs ds h1 hl1 hz1 hi1 =>
        cases hy with
        | @tup b ys _ h2 hl2 hz2 hi2 =>
          have tya : TyX K H (.ref a) (.type "tuple") := .base (.tup h1)
          have tyb : TyX K H (.ref b) (.type "tuple") := .base (.tup h2)
          refine ⟨.ref b, rfl, .ref b, .ty "list", _, _, false, rfl, .ty _, tyb, kit_ty (by decide +kernel), false, rfl, ?_⟩
          refine ⟨.ref b, rfl, .ref b, .ty "tuple", _, _, true, rfl, .ty _, tyb, kit_ty (by decide +kernel), true, rfl, ?_⟩
          refine ⟨.ref a, rfl, .ref a, .ty "list", _, _, false, rfl, .ty _, tya, kit_ty (by decide +kernel), .ref b, rfl, .ref b, .ty "list", _, _, false, rfl, .ty _, tyb, kit_ty (by decide +kernel), rfl, false, rfl, ?_⟩
          refine ⟨.ref a, rfl, .ref a, .ty "tuple", _, _, true, rfl, .ty _, tya, kit_ty (by decide +kernel), .ref b, rfl, .ref b, .ty "tuple", _, _, true, rfl, .ty _, tyb, kit_ty (by decide +kernel), rfl, false, rfl, ?_⟩
          have hll : xs.length = ys.length := by omega
          refine ⟨.ref a, rfl, a, xs, rfl, .inr (.inl (.inl h1)), .ref b, rfl, b, ys, rfl, .inr (.inl (.inl h2)), rfl, true, ?_, ?_⟩
          · show V.bl (decide (V.int (xs.length : Int) = V.int (ys.length : Int))) = V.bl true
            rw [hll, decide_eq_true rfl]
          · refine ⟨.ref a, rfl, .ref b, rfl, a, b, xs, ys, rfl, .inr ⟨.inl (.inl h1), .inl (.inl h2), fun D nD => ?_⟩⟩
            have dd : ∀ (i : Nat) (d : PyData), ds[i]? = some d → d.depth < n := fun i d hd => by
              have h := depth_get hd
              simp only [PyData.depth] at hdp
              omega
            refine lc_zip (xs := xs) (ys := ys) (j := 2) (k := 3) hll hz1 nD (fun i H' x y ex e1 e2 => ⟨xs, ys, x, y, .inl (.inl (ex _ _ h1)), .inl (.inl (ex _ _ h2)), e1, e2⟩) (fun H' ex => ⟨xs, ys, .inl (.inl (ex _ _ h1)), .inl (.inl (ex _ _ h2)), .inl (Nat.le_refl _)⟩)
              (fun i H' v H'' ex yl => ?_) (fun _ _ => rfl) (fun i x y e1 e2 H' ex Q' q' => ?_) (fun H' ex hD => ?_)
            · obtain ⟨T, x, y, rfl, nT, rfl, f1, f2⟩ := yl
              exact ⟨T, x, y, rfl, nT, rfl, f1 _ (.inl (.inl (ex _ _ h1))), f2 _ (.inl (.inl (ex _ _ h2)))⟩
            · obtain ⟨d, hd⟩ : ∃ d, ds[i]? = some d := ⟨ds[i]'(by have := (List.getElem?_eq_some_iff.mp e1).1; omega), List.getElem?_eq_getElem _⟩
              exact ⟨x, rfl, y, rfl, x, y, d, rfl, dd i d hd, (hi1 i x d e1 hd).mono ex, (hi2 i y d e2 hd).mono ex, q'⟩
            · refine ⟨D, List.replicate xs.length true, rfl, .inl (.inl hD), ?_⟩
              have ea : (List.replicate xs.length true).all id = true := by
                rw [List.all_eq_true]
                intro b hb
                exact List.eq_of_mem_replicate hb
              rw [ea]
              exact q H' ex
end
end Tl

namespace Tl
open PySem PySem.Spec PyProof.Rows L2
/-! ### comprehensions that change nothing -/
/-- over a text's signs, a truth each -/
theorem lc_str {z : Str} {f : Nat → Bool} {te : TE} {vs : List Nat} {σ : L2.St} {H1 : Hp} {D : Addr} {Qd : Hp → Prop} {j : Nat} (hn : z.length ≤ 50000) (hD : H1 D = none)
    (hw : ∀ x, wipe ((wipe σ vs).set j (some x)) vs = wipe σ vs)
    (hs : ∀ (c : Nat), ∀ H, Evl.Ex H1 H → ∀ Q : VK, (∀ H', Evl.Ex H H' → Q (.bl (f c)) H') → te ((wipe σ vs).set j (some (.str ⟨#[c]⟩))) H Q)
    (hd : ∀ H, Evl.Ex H1 H → H D = some (.lst (((TL.tl z).map f).map V.bl)) → Qd H) :
    ∃ W : Nat → Nat → Hp → Prop, (∃ m, W 0 m (upd H1 D (.lst []))) ∧ ∀ i m H, W i m H →
      ((Its z).stop i H ∧ Qd H) ∨ ((Its z).go i H ∧ ∃ Nx : Hp → Prop, (∀ H', Nx H' → ∃ m', m' < m ∧ W (i + 1) m' H') ∧ ∀ x H', (Its z).yld i H x H' → gName j x (wipe σ vs) H' fun σ2 H2 => wipe σ2 vs = wipe σ vs ∧ tYes σ2 H2 fun b H3 =>
        if b = true then te σ2 H3 fun y H4 => ∃ acc, H4 D = some (.lst acc) ∧ acc.length < sizeLine ∧ Nx (upd H4 D (.lst (acc ++ [y]))) else Nx H3) := by
  have hsz : z.cps.size = (TL.tl z).length := by simp
  have hn2 : (TL.tl z).length ≤ 50000 := by rw [← TL.len_tl]; exact hn
  refine ⟨fun i m H => m = z.cps.size - i ∧ i ≤ z.cps.size ∧ Evl.Ex H1 H ∧ H D = some (.lst ((((TL.tl z).take i).map f).map V.bl)), ⟨z.cps.size, rfl, Nat.zero_le _, Evl.Ex.new hD, upd_same⟩, ?_⟩
  rintro i m H ⟨rfl, hi, ex, hD'⟩
  by_cases hlt : i < z.cps.size
  · refine .inr ⟨hlt, fun H' => Evl.Ex H1 H' ∧ H' D = some (.lst ((((TL.tl z).take (i + 1)).map f).map V.bl)), fun H' p' => ⟨z.cps.size - (i + 1), by omega, rfl, hlt, p'.1, p'.2⟩, fun v H' y => ?_⟩
    obtain ⟨rfl, c, hc, rfl⟩ := y
    refine ⟨hw _, ?_⟩
    refine hs c _ ex _ fun H3 e3 => ⟨_, e3 _ _ hD', ?_, Evl.Ex.mut (ex.trans e3) hD, ?_⟩
    · rw [List.length_map, List.length_map, List.length_take]
      exact Evl.sz_lt (by omega)
    · have hc2 : (TL.tl z)[i]? = some c := by rw [← hc]; simp
      rw [upd_same, List.take_add_one, hc2, List.map_append, List.map_append]
      rfl
  · have e : i = z.cps.size := by omega
    subst e
    refine .inl ⟨Nat.le_refl _, hd H ex ?_⟩
    rw [hD', hsz, List.take_length]
/-- over a list or a tuple, a value each -/
theorem lc_seq {J : It} {xs : List V} {f : Nat → V} {te : TE} {vs : List Nat} {σ : L2.St} {H1 : Hp} {D : Addr} {Qd : Hp → Prop} {j : Nat} (hn : xs.length ≤ 50000) (hD : H1 D = none)
    (hgo : ∀ i H x, Evl.Ex H1 H → xs[i]? = some x → J.go i H) (hst : ∀ H, Evl.Ex H1 H → J.stop xs.length H) (hy : ∀ i H v H', Evl.Ex H1 H → J.yld i H v H' → H' = H ∧ xs[i]? = some v)
    (hw : ∀ x, wipe ((wipe σ vs).set j (some x)) vs = wipe σ vs)
    (hs : ∀ (i : Nat) (x : V), xs[i]? = some x → ∀ H, Evl.Ex H1 H → ∀ Q : VK, (∀ H', Evl.Ex H H' → Q (f i) H') → te ((wipe σ vs).set j (some x)) H Q)
    (hd : ∀ H, Evl.Ex H1 H → H D = some (.lst ((List.range xs.length).map f)) → Qd H) :
    ∃ W : Nat → Nat → Hp → Prop, (∃ m, W 0 m (upd H1 D (.lst []))) ∧ ∀ i m H, W i m H →
      (J.stop i H ∧ Qd H) ∨ (J.go i H ∧ ∃ Nx : Hp → Prop, (∀ H', Nx H' → ∃ m', m' < m ∧ W (i + 1) m' H') ∧ ∀ x H', J.yld i H x H' → gName j x (wipe σ vs) H' fun σ2 H2 => wipe σ2 vs = wipe σ vs ∧ tYes σ2 H2 fun b H3 =>
        if b = true then te σ2 H3 fun y H4 => ∃ acc, H4 D = some (.lst acc) ∧ acc.length < sizeLine ∧ Nx (upd H4 D (.lst (acc ++ [y]))) else Nx H3) := by
  refine ⟨fun i m H => m = xs.length - i ∧ i ≤ xs.length ∧ Evl.Ex H1 H ∧ H D = some (.lst ((List.range i).map f)), ⟨xs.length, rfl, Nat.zero_le _, Evl.Ex.new hD, upd_same⟩, ?_⟩
  rintro i m H ⟨rfl, hi, ex, hD'⟩
  by_cases hlt : i < xs.length
  · refine .inr ⟨hgo i H _ ex (List.getElem?_eq_getElem hlt), fun H' => Evl.Ex H1 H' ∧ H' D = some (.lst ((List.range (i + 1)).map f)), fun H' p' => ⟨xs.length - (i + 1), by omega, rfl, hlt, p'.1, p'.2⟩, fun v H' y => ?_⟩
    obtain ⟨rfl, hv⟩ := hy i H v H' ex y
    refine ⟨hw _, ?_⟩
    refine hs i v hv _ ex _ fun H3 e3 => ⟨_, e3 _ _ hD', ?_, Evl.Ex.mut (ex.trans e3) hD, ?_⟩
    · rw [List.length_map, List.length_range]
      exact Evl.sz_lt (by omega)
    · rw [upd_same, List.range_succ, List.map_append]
      rfl
  · have e : i = xs.length := by omega
    subst e
    exact .inl ⟨hst H ex, hd H ex hD'⟩
/-! ### is_name, is_bits -/
def nameB (z : Str) : Bool := decide ((1 : Int) ≤ (z.length : Int)) && (decide ((z.length : Int) ≤ 8) && ((TL.tl z).map fun c => decide (c ∈ abc.cps.toList)).all id)
def bitsB (z : Str) : Bool := ((TL.tl z).map fun c => decide (c ∈ ("01" : Str).cps.toList)).all id
theorem let_in {c : Nat} (h : Let c) : c ∈ abc.cps.toList := by
  have h2 := abc_at (c - 97) (by have := h.1; have := h.2; omega)
  have h3 := List.mem_of_getElem? h2
  rw [show 97 + (c - 97) = c by have := h.1; omega] at h3
  exact h3
theorem nameB_ok {z : Str} (h : NameOk z) : nameB z = true := by
  unfold nameB
  have h1 : ((TL.tl z).map fun c => decide (c ∈ abc.cps.toList)).all id = true := by
    rw [List.all_eq_true]
    intro b hb
    obtain ⟨c, hc, rfl⟩ := List.mem_map.mp hb
    exact decide_eq_true (let_in (h.le c hc))
  rw [h1, decide_eq_true (by have := h.lo; omega), decide_eq_true (by have := h.hi; omega)]
  rfl
theorem bitsB_ok {z : Str} (h : ∀ c ∈ TL.tl z, Bit c) : bitsB z = true := by
  unfold bitsB
  rw [List.all_eq_true]
  intro b hb
  obtain ⟨c, hc, rfl⟩ := List.mem_map.mp hb
  rcases h c hc with rfl | rfl <;> decide
abbrev sIsName : Stmt := topS 9
abbrev sIsBits : Stmt := topS 10
theorem scIsName : FnScope ["name", "sign"] ["name"] (defScope sIsName) := ⟨rfl, rfl, rfl, by decide +kernel, rfl, by decide +kernel, by decide +kernel⟩
theorem scIsBits : FnScope ["text", "sign"] ["text"] (defScope sIsBits) := ⟨rfl, rfl, rfl, by decide +kernel, rfl, by decide +kernel, by decide +kernel⟩
section
variable {P : Program} {w : World} {K : PySem.W.Frag} {mg : Str → Option Value} {base : Heap}
def spIsName : Sp := fun vs H Q _ => ∃ z : Str, vs = [.str z] ∧ z.length ≤ 50000 ∧ ∀ H', Evl.Ex H H' → Q (.bl (nameB z)) H'
theorem ok_isName {f : Addr} {fd : FuncData} {k : Nat} {tk1 tk2 : Tok} (F : Fun K "is_name" "is_name" sIsName f fd) (mi : mg "isinstance" = none) (mst : mg "str" = none) (ml : mg "len" = none) (ma : mg "all" = none) (mN : mg "LONGEST_NAME" = some (.int 8 tk1)) (mL : mg "LETTERS" = some (.str abc tk2)) :
    FnOk P w K mg base CX0 (k + 1) f fd ["name"] spIsName := by
  refine F.ok scIsName (fun vs H Q E h => ?_) (fun cdv A outer s H vs Q E hr h => ?_)
  · obtain ⟨z, rfl, _⟩ := h
    rfl
  · obtain ⟨z, rfl, hz, q⟩ := h
    refine ⟨_, pss_one (ps_ret (pe_and (pe_callB call_isi (by rfl) mi boot_isinstance (pa_cons (pv 0) (pa_cons (pe_bltn (v := .ty "str") (u := .type "str") (by rfl) mst (by decide +kernel) rfl) pa_nil)))
      (pe_and (pe_chain op_le op_le pe_int (pe_callB call_len_str (by rfl) ml PySem.boot_len (pa_cons (pv 0) pa_nil)) (pe_glob (v := .int 8) (by rfl) mN ⟨_, rfl⟩))
      (pe_one (pe_callB (cr_all rfl) (by rfl) ma (by decide +kernel) (pa_cons (pe_lc (own := [("sign", 1)]) (g := gName 1) (tt := tYes) rfl scIsName.nd (pi_str (pv 0)) (blkOk_by (N := ["name", "sign"]) (sc := defScope sIsName) (by decide +kernel))
        (fun _ _ _ _ _ => pg_name (i := 1) scIsName.nd rfl (Or.inl rfl)) (fun _ _ _ _ _ => pts_nil)
        (fun _ _ _ _ _ => pe_cmpR op_in_sign (pv 1) (pe_glob (v := .str abc) (by rfl) mL ⟨_, rfl⟩) (by rfl))) pa_nil)))))), ?_⟩
    have ty : TyX K H (.str z) (.type "str") := .base (.str z)
    refine ⟨.str z, rfl, .str z, .ty "str", _, _, true, rfl, .ty _, ty, kit_ty (by decide +kernel), true, rfl, ?_⟩
    refine ⟨.str z, rfl, z, rfl, sz (by omega), 1, _, rfl, rfl, _, rfl, ite2 (fun e1 => ?_) (fun e1 => ?_)⟩
    · refine ⟨_, 8, rfl, rfl, _, rfl, ite2 (fun e2 => ?_) (fun e2 => ?_)⟩
      · refine ⟨.str z, rfl, z, rfl, fun D nD => ?_⟩
        refine lc_str (z := z) (f := fun c => decide (c ∈ abc.cps.toList)) (j := 1) hz nD (fun _ => rfl) (fun c H' ex Q' q' => ⟨_, rfl, c, abc, rfl, rfl, q' _ (Evl.Ex.refl _)⟩) (fun H' ex hD => ?_)
        refine ⟨D, _, rfl, .inl (.inl hD), ?_⟩
        have hq := q H' ex
        unfold nameB at hq
        rw [e1, e2, Bool.true_and, Bool.true_and] at hq
        exact hq
      · have hq := q H (Evl.Ex.refl _)
        unfold nameB at hq
        rw [e1, Bool.eq_false_iff.mpr e2] at hq
        exact hq
    · refine ⟨false, rfl, ?_⟩
      have hq := q H (Evl.Ex.refl _)
      unfold nameB at hq
      rw [Bool.eq_false_iff.mpr e1] at hq
      exact hq
def spIsBits : Sp := fun vs H Q _ => ∃ z : Str, vs = [.str z] ∧ z.length ≤ 50000 ∧ ∀ H', Evl.Ex H H' → Q (.bl (bitsB z)) H'
theorem ok_isBits {f : Addr} {fd : FuncData} {k : Nat} (F : Fun K "is_bits" "is_bits" sIsBits f fd) (ma : mg "all" = none) : FnOk P w K mg base CX0 (k + 1) f fd ["text"] spIsBits := by
  refine F.ok scIsBits (fun vs H Q E h => ?_) (fun cdv A outer s H vs Q E hr h => ?_)
  · obtain ⟨z, rfl, _⟩ := h
    rfl
  · obtain ⟨z, rfl, hz, q⟩ := h
    refine ⟨_, pss_one (ps_ret (pe_callB (cr_all rfl) (by rfl) ma (by decide +kernel) (pa_cons (pe_lc (own := [("sign", 1)]) (g := gName 1) (tt := tYes) rfl scIsBits.nd (pi_str (pv 0)) (blkOk_by (N := ["text", "sign"]) (sc := defScope sIsBits) (by decide +kernel))
        (fun _ _ _ _ _ => pg_name (i := 1) scIsBits.nd rfl (Or.inl rfl)) (fun _ _ _ _ _ => pts_nil)
        (fun _ _ _ _ _ => pe_cmpR op_in_sign (pv 1) pe_str (by rfl))) pa_nil))), ?_⟩
    refine ⟨.str z, rfl, z, rfl, fun D nD => ?_⟩
    refine lc_str (z := z) (f := fun c => decide (c ∈ ("01" : Str).cps.toList)) (j := 1) hz nD (fun _ => rfl) (fun c H' ex Q' q' => ⟨_, rfl, c, "01", rfl, rfl, q' _ (Evl.Ex.refl _)⟩) (fun H' ex hD => ?_)
    exact ⟨D, _, rfl, .inl (.inl hD), q H' ex⟩
end
end Tl

namespace Tl
open PySem PySem.Spec PyProof.Rows L2
/-! ### texts of things -/
def wordsT (t : Th) : List Str := [t.kind, t.name] ++ (if t.bits.length = 0 then [] else [t.bits]) ++ t.pins
def rowT (t : Th) : Str := Txt.join " " (wordsT t)
def textT (ts : List Th) : Str := Txt.join "\n" (ts.map rowT)
def ThOk (t : Th) : Prop := IsIn t ∨ IsMid t ∨ IsOut t
theorem NetOk.all {ts : List Th} (h : NetOk ts) : ∀ t ∈ ts, ThOk t := fun t ht => by
  obtain ⟨t1, t2, t3, rfl, h1, h2, h3⟩ := h.parts
  rcases List.mem_append.mp ht with ht | ht
  · rcases List.mem_append.mp ht with ht | ht
    · exact .inl (h1 t ht)
    · exact .inr (.inl (h2 t ht))
  · exact .inr (.inr (h3 t ht))
/-- a word of a row -/
structure Wd (z : Str) : Prop where
  lo : 1 ≤ z.length
  hi : z.length ≤ 8
  no : ∀ c ∈ TL.tl z, 33 ≤ c
theorem NameOk.wd {z : Str} (h : NameOk z) : Wd z := ⟨h.lo, h.hi, fun c hc => by have := (h.le c hc).1; omega⟩
theorem wd_in : Wd "in" := ⟨by decide, by decide, by decide⟩
theorem wd_out : Wd "out" := ⟨by decide, by decide, by decide⟩
theorem wd_gate : Wd "gate" := ⟨by decide, by decide, by decide⟩
theorem wd_reg : Wd "reg" := ⟨by decide, by decide, by decide⟩
theorem mid_bits {t : Th} (h : IsMid t) : Wd t.bits ∧ t.pins.length ≤ 3 := by
  have hb : ∀ c ∈ TL.tl t.bits, 33 ≤ c := fun c hc => by
    rcases h.bits c hc with h | h <;> omega
  rcases h.form with ⟨_, h2, h3⟩ | ⟨_, h2, h3⟩
  · have h8 : (2 : Nat) ^ t.pins.length ≤ 2 ^ 3 := Nat.pow_le_pow_right (by decide) h2
    have h1 : 1 ≤ (2 : Nat) ^ t.pins.length := Nat.one_le_two_pow
    exact ⟨⟨by omega, by omega, hb⟩, h2⟩
  · exact ⟨⟨by omega, by omega, hb⟩, by omega⟩
theorem words_ok {t : Th} (h : ThOk t) : (∀ z ∈ wordsT t, Wd z) ∧ (wordsT t).length ≤ 6 := by
  rcases h with h | h | h
  · have e : wordsT t = [("in" : Str), t.name] := by
      unfold wordsT
      rw [h.kind, h.bits, h.pins]
      rfl
    rw [e]
    refine ⟨fun z hz => ?_, by show 2 ≤ 6; omega⟩
    simp only [List.mem_cons, List.not_mem_nil, or_false] at hz
    rcases hz with rfl | rfl
    · exact wd_in
    · exact h.name.wd
  · obtain ⟨hw, hp⟩ := mid_bits h
    have e : wordsT t = t.kind :: t.name :: t.bits :: t.pins := by
      unfold wordsT
      rw [if_neg (by have := hw.lo; omega)]
      rfl
    rw [e]
    refine ⟨fun z hz => ?_, by simp only [List.length_cons]; omega⟩
    simp only [List.mem_cons] at hz
    rcases hz with rfl | rfl | rfl | hz
    · rcases h.form with ⟨hk, _⟩ | ⟨hk, _⟩
      · rw [hk]; exact wd_gate
      · rw [hk]; exact wd_reg
    · exact h.name.wd
    · exact hw
    · exact (h.pins z hz).wd
  · obtain ⟨y, hy, hp⟩ := h.pins
    have e : wordsT t = [("out" : Str), t.name, y] := by
      unfold wordsT
      rw [h.kind, h.bits, hp]
      rfl
    rw [e]
    refine ⟨fun z hz => ?_, by show 3 ≤ 6; omega⟩
    simp only [List.mem_cons, List.not_mem_nil, or_false] at hz
    rcases hz with rfl | rfl | rfl
    · exact wd_out
    · exact h.name.wd
    · exact hy.wd
theorem sum_le {m : Nat} : ∀ {zs : List Str}, (∀ z ∈ zs, z.length ≤ m) → (zs.map (·.length)).sum ≤ m * zs.length
  | [], _ => Nat.zero_le _
  | z :: zs, h => by
    have h1 := sum_le (zs := zs) fun y hy => h y (List.mem_cons_of_mem _ hy)
    have h2 := h z (List.mem_cons_self ..)
    rw [List.map_cons, List.sum_cons, List.length_cons, Nat.mul_succ]
    omega
theorem joinL_len (S : List Nat) : ∀ l : List (List Nat), (TL.joinL S l).length ≤ (l.map (·.length)).sum + l.length * S.length
  | [] => Nat.zero_le _
  | [p] => by
    show p.length ≤ ([p].map (·.length)).sum + _
    rw [List.map_singleton, List.sum_singleton]
    omega
  | p :: q :: r => by
    have h := joinL_len S (q :: r)
    show (p ++ (S ++ TL.joinL S (q :: r))).length ≤ _
    rw [List.length_append, List.length_append, List.map_cons, List.sum_cons, List.length_cons, Nat.add_mul]
    omega
theorem mem_joinL {S : List Nat} {c : Nat} : ∀ {l : List (List Nat)}, c ∈ TL.joinL S l → c ∈ S ∨ ∃ p ∈ l, c ∈ p
  | [], h => by simp [TL.joinL] at h
  | [p], h => .inr ⟨p, List.mem_singleton.mpr rfl, h⟩
  | p :: q :: r, h => by
    have h : c ∈ p ++ (S ++ TL.joinL S (q :: r)) := h
    rcases List.mem_append.mp h with h | h
    · exact .inr ⟨p, List.mem_cons_self .., h⟩
    · rcases List.mem_append.mp h with h | h
      · exact .inl h
      · rcases mem_joinL h with h | ⟨x, hx, hc⟩
        · exact .inl h
        · exact .inr ⟨x, List.mem_cons_of_mem _ hx, hc⟩
theorem joinL_head {S p : List Nat} : ∀ {l : List (List Nat)}, p.length ≤ (TL.joinL S (p :: l)).length
  | [] => Nat.le_refl _
  | q :: r => by
    show p.length ≤ (p ++ (S ++ TL.joinL S (q :: r))).length
    rw [List.length_append]
    omega
theorem join_len (y : Str) (zs : List Str) : (Txt.join y zs).length ≤ (zs.map (·.length)).sum + zs.length * y.length := by
  rw [TL.len_tl, TL.join_eq, TL.tl_join]
  refine Nat.le_trans (joinL_len _ _) ?_
  rw [List.map_map, List.length_map, TL.len_tl y]
  have e : zs.map ((fun x => x.length) ∘ TL.tl) = zs.map (·.length) := List.map_congr_left fun z _ => (TL.len_tl z).symm
  rw [e]
  omega
theorem row_sum {t : Th} (h : ThOk t) : ((wordsT t).map (·.length)).sum + (wordsT t).length * 1 ≤ 54 := by
  obtain ⟨h1, h2⟩ := words_ok h
  have h3 := sum_le (m := 8) fun z hz => (h1 z hz).hi
  omega
theorem row_len {t : Th} (h : ThOk t) : (rowT t).length ≤ 54 := Nat.le_trans (join_len _ _) (row_sum h)
theorem row_no10 {t : Th} (h : ThOk t) : 10 ∉ TL.tl (rowT t) := fun hc => by
  unfold rowT at hc
  rw [TL.join_eq, TL.tl_join] at hc
  rcases mem_joinL hc with hc | ⟨p, hp, hc⟩
  · exact absurd hc (by decide)
  · obtain ⟨z, hz, rfl⟩ := List.mem_map.mp hp
    have := ((words_ok h).1 z hz).no _ hc
    omega
theorem row_split {t : Th} (h : ThOk t) : Txt.split (rowT t) " " = wordsT t :=
  TL.split_join (s := 32) (S := []) rfl (by decide +kernel) (by unfold wordsT; simp) fun z hz hc => by
    have := ((words_ok h).1 z hz).no _ hc
    omega
theorem text_split {ts : List Th} (h : ∀ t ∈ ts, ThOk t) (hne : ts ≠ []) : Txt.split (textT ts) "\n" = ts.map rowT :=
  TL.split_join (s := 10) (S := []) rfl (by decide +kernel) (fun e => hne (List.map_eq_nil_iff.mp e)) fun z hz => by
    obtain ⟨t, ht, rfl⟩ := List.mem_map.mp hz
    exact row_no10 (h t ht)
theorem text_sum {ts : List Th} (h : ∀ t ∈ ts, ThOk t) : ((ts.map rowT).map (·.length)).sum + (ts.map rowT).length * 1 ≤ 55 * ts.length := by
  have h3 := sum_le (m := 54) (zs := ts.map rowT) fun z hz => by
    obtain ⟨t, ht, rfl⟩ := List.mem_map.mp hz
    exact row_len (h t ht)
  rw [List.length_map] at h3 ⊢
  omega
theorem text_len {ts : List Th} (h : ∀ t ∈ ts, ThOk t) : (textT ts).length ≤ 55 * ts.length := Nat.le_trans (join_len _ _) (text_sum h)
theorem row_pos {t : Th} (h : ThOk t) : 1 ≤ (rowT t).length := by
  have hw := ((words_ok h).1 t.kind (by unfold wordsT; simp)).lo
  rw [TL.len_tl] at hw ⊢
  unfold rowT
  rw [TL.join_eq, TL.tl_join]
  unfold wordsT
  exact Nat.le_trans hw joinL_head
theorem text_ne {ts : List Th} (h : ∀ t ∈ ts, ThOk t) (hne : ts ≠ []) : textT ts ≠ "" := fun e => by
  cases ts with
  | nil => exact hne rfl
  | cons t r =>
    have h1 := row_pos (h t (List.mem_cons_self ..))
    rw [TL.len_tl] at h1
    have h2 : (TL.tl (rowT t)).length ≤ (TL.tl (textT (t :: r))).length := by
      unfold textT
      rw [TL.join_eq, TL.tl_join, List.map_cons, List.map_cons]
      exact joinL_head
    rw [e] at h2
    have h3 : (TL.tl ("" : Str)).length = 0 := rfl
    omega
abbrev sThing : Stmt := topS 12
abbrev sNetText : Stmt := topS 11
abbrev nThing : List Str := ["thing", "kind", "name", "bits", "pins", "words"]
theorem scThing : FnScope nThing ["thing"] (defScope sThing) := ⟨rfl, rfl, rfl, by decide +kernel, rfl, by decide +kernel, by decide +kernel⟩
theorem scNetText : FnScope ["netlist", "thing"] ["netlist"] (defScope sNetText) := ⟨rfl, rfl, rfl, by decide +kernel, rfl, by decide +kernel, by decide +kernel⟩
section
variable {P : Program} {w : World} {K : PySem.W.Frag} {mg : Str → Option Value} {base : Heap}
def spThing : Sp := fun vs H Q _ => ∃ p : Addr × Th, vs = [.ref p.1] ∧ RTh H p ∧ ThOk p.2 ∧ ∀ H', Evl.Ex H H' → Q (.str (rowT p.2)) H'
theorem ok_thing {f : Addr} {fd : FuncData} {k : Nat} (F : Fun K "thing_text" "thing_text" sThing f fd) (ml : mg "list" = none) : FnOk P w K mg base CX0 (k + 1) f fd ["thing"] spThing := by
  refine F.ok scThing (fun vs H Q E h => ?_) (fun cdv A outer s H vs Q E hr h => ?_)
  · obtain ⟨p, rfl, _⟩ := h
    rfl
  · obtain ⟨p, rfl, ⟨q0, h1, h2⟩, ok, q⟩ := h
    refine ⟨_, pss_cons (ps_asg (pv 0) (pg_tup (by rfl) (pgs_cons (pg_name (i := 1) scThing.nd rfl (.inl rfl)) (pgs_cons (pg_name (i := 2) scThing.nd rfl (.inl rfl)) (pgs_cons (pg_name (i := 3) scThing.nd rfl (.inl rfl)) (pgs_cons (pg_name (i := 4) scThing.nd rfl (.inl rfl)) pgs_nil))))))
      (pss_cons (ps_set (i := 5) scThing.nd rfl (.inl rfl) (pe_lst (pa_cons (pv 1) (pa_cons (pv 2) pa_nil))))
      (Evl.pss_cut (ps_if (pt_truth (pv 3) (by intro _; rfl)) (pss_one (ps_expr (pe_bm PySem.F.plainAttrs_list PySem.F.slot_list_append PySem.F.type_list_append mt_append (pv 5) (pa_cons (pv 3) pa_nil)))) pss_nil)
      (pss_one (ps_ret (pe_join pe_str (pe_op op_cat (pv 5) (pe_callTy call_list_of (by rfl) ml (by decide +kernel) (pa_cons (pv 4) pa_nil)))))))), ?_⟩
    refine ⟨.ref p.1, rfl, p.1, _, rfl, .inl (.inl h1), rfl, _, _, rfl, _, _, rfl, _, _, rfl, _, _, rfl, rfl, ?_⟩
    refine ⟨_, rfl, _, rfl, by show 2 ≤ sizeLine; decide, fun pw npw => ?_⟩
    have ws := words_ok ok
    refine ⟨fun σ' H' => σ' = [some (.ref p.1), some (.str p.2.kind), some (.str p.2.name), some (.str p.2.bits), some (.ref q0), some (.ref pw)] ∧ Evl.Ex H H' ∧ H' pw = some (.lst (([p.2.kind, p.2.name] ++ (if p.2.bits.length = 0 then [] else [p.2.bits])).map V.str)), ?_, ?_⟩
    · have hbl : p.2.bits.length ≤ 8 := by
        by_cases hb : p.2.bits.length = 0
        · omega
        · exact (ws.1 p.2.bits (by unfold wordsT; rw [if_neg hb]; simp)).hi
      refine ⟨_, rfl, _, ⟨sz (by omega), rfl⟩, ite2 (fun e => ?_) (fun e => ?_)⟩
      · have hb : ¬ p.2.bits.length = 0 := fun z => by
          rw [z] at e
          exact absurd e (by decide)
        refine ⟨.ref pw, rfl, .inl ⟨rfl, _, .inl (.inl upd_same)⟩, _, rfl, pw, _, _, rfl, rfl, upd_same, by show 2 < sizeLine; decide, rfl, ?_, ?_⟩
        · rw [upd_upd]
          exact Evl.Ex.new npw
        · rw [upd_same, if_neg hb]
          rfl
      · have hb : p.2.bits.length = 0 := by
          by_cases hb : p.2.bits.length = 0
          · exact hb
          · refine absurd ?_ e
            show ((p.2.bits.length : Int) != 0) = true
            rw [bne_iff_ne]
            omega
        refine ⟨rfl, Evl.Ex.new npw, ?_⟩
        rw [upd_same, if_pos hb]
        rfl
    · rintro σ' H' ⟨rfl, ex, hpw⟩
      refine ⟨⟨_, rfl⟩, .ref pw, rfl, .ref q0, rfl, q0, p.2.pins.map V.str, rfl, .inr (.inl (.inl (ex _ _ h2))), fun l nl => ?_⟩
      generalize hHa : upd H' l _ = Ha
      have xa : Evl.Ex H' Ha := hHa ▸ Evl.Ex.new nl
      have hl : Ha l = some (.lst (p.2.pins.map V.str)) := by rw [← hHa]; exact upd_same
      have hws := ws.2
      have esz : ((([p.2.kind, p.2.name] ++ (if p.2.bits.length = 0 then [] else [p.2.bits])).map V.str).length + (p.2.pins.map V.str).length) ≤ 100000 := by
        rw [List.length_map, List.length_map]
        unfold wordsT at hws
        rw [List.length_append] at hws
        omega
      refine ⟨pw, l, _, _, rfl, rfl, xa _ _ hpw, hl, sz esz, fun r nr => ?_⟩
      rw [← List.map_append]
      refine ⟨" ", r, wordsT p.2, rfl, rfl, .inl (.inl (.inl upd_same)), Nat.le_trans (row_sum ok) (by decide), q _ ((ex.trans xa).trans (Evl.Ex.new nr))⟩
def spNetText : Sp := fun vs H Q _ => ∃ (a : Addr) (ps : List (Addr × Th)), vs = [.ref a] ∧ H a = some (.tup (vals ps)) ∧ (∀ p ∈ ps, RTh H p) ∧ NetOk (ps.map (·.2)) ∧ ∀ H', Evl.Ex H H' → Q (.str (textT (ps.map (·.2)))) H'
theorem RTh.ex {H H' : Hp} {p : Addr × Th} (h : RTh H p) (e : Evl.Ex H H') : RTh H' p := h.mono (TK.ex e)
theorem ok_netText {f ft : Addr} {fd fdt : FuncData} {k : Nat} (F : Fun K "net_text" "net_text" sNetText f fd) (FT : Fun K "thing_text" "thing_text" sThing ft fdt) (bT : Binds K fdt ["thing"] []) (gT : mg "thing_text" = some (.ref ft)) (ml : mg "list" = none) :
    FnOk P w K mg base CX0 (k + 2) f fd ["netlist"] spNetText := by
  have GT : FnOk P w K mg base CX0 (k + 1) ft fdt ["thing"] spThing := ok_thing FT ml
  refine F.ok scNetText (fun vs H Q E h => ?_) (fun cdv A outer s H vs Q E hr h => ?_)
  · obtain ⟨a, ps, rfl, _⟩ := h
    rfl
  · obtain ⟨a, ps, rfl, ha, hr', ok, q⟩ := h
    refine ⟨_, pss_one (ps_ret (pe_join pe_str (pe_lc (own := [("thing", 1)]) (g := gName 1) (tt := tYes) rfl scNetText.nd (pi_tup (pv 0)) (blkOk_by (N := ["netlist", "thing"]) (sc := defScope sNetText) (by decide +kernel))
        (fun _ _ _ _ _ => pg_name (i := 1) scNetText.nd rfl (Or.inl rfl)) (fun _ _ _ _ _ => pts_nil)
        (fun _ _ _ _ _ => pe_call GT hr (by rfl) gT FT.kp bT .nil pass0 (pa_cons (pv 1) pa_nil))))), ?_⟩
    have hl : ps.length ≤ 12 := by have := ok.len; rw [List.length_map] at this; exact this
    have hall := ok.all
    refine ⟨⟨_, rfl⟩, .ref a, rfl, a, rfl, ⟨_, .inl (.inl ha)⟩, fun D nD => ?_⟩
    refine lc_seq (xs := vals ps) (f := fun i => .str ((ps.map fun p => rowT p.2).getD i "")) (j := 1) (by rw [vals_length]; omega) nD (fun i H' x ex e => ⟨_, _, .inl (.inl (ex _ _ ha)), e⟩) (fun H' ex => ⟨_, .inl (.inl (ex _ _ ha)), Nat.le_refl _⟩) (fun i H' v H'' ex y => ⟨y.1, y.2 _ (.inl (.inl (ex _ _ ha)))⟩) (fun _ => rfl) (fun i x hx H' ex Q' q' => ?_) (fun H' ex hD => ?_)
    · unfold vals at hx
      rw [List.getElem?_map] at hx
      obtain ⟨p, hp, rfl⟩ := Option.map_eq_some_iff.mp hx
      have hm := List.mem_of_getElem? hp
      have eg : (ps.map fun p => rowT p.2).getD i "" = rowT p.2 := by
        rw [List.getD_eq_getElem?_getD, List.getElem?_map, hp]
        rfl
      rw [eg] at q'
      exact ⟨_, rfl, p, rfl, (hr' p hm).ex ex, hall p.2 (List.mem_map_of_mem hm), q'⟩
    · have er : (List.range (vals ps).length).map (fun i => V.str ((ps.map fun p => rowT p.2).getD i "")) = ((ps.map (·.2)).map rowT).map V.str := by
        symm
        refine by_ix (by rw [List.length_map, List.length_map, List.length_map, vals_length]) fun i y hy => ?_
        rw [List.map_map, List.map_map, List.getElem?_map] at hy
        obtain ⟨p, hp, rfl⟩ := Option.map_eq_some_iff.mp hy
        rw [List.getD_eq_getElem?_getD, List.getElem?_map, hp]
        rfl
      rw [er] at hD
      refine ⟨"\n", D, (ps.map (fun p : Addr × Th => p.2)).map rowT, rfl, rfl, .inl (.inl (.inl hD)), ?_, q H' ex⟩
      have h := text_sum hall
      have h2 := ok.len
      exact Nat.le_trans h (by omega)
end
end Tl

namespace Tl
open PySem PySem.Spec PyProof.Rows L2
abbrev sNoNet : Stmt := inClass (topS 2) 0
theorem sc_NoNet : SupScope (defScope sNoNet) "row" := ⟨rfl, rfl, rfl, by decide +kernel, by decide +kernel, by decide +kernel, by decide +kernel, by decide +kernel, by decide +kernel, by decide +kernel, by decide +kernel⟩
/-- what is known of the class -/
structure NoN (P : Program) (K : PySem.W.Frag) (mg : Str → Option Value) where
  C : Addr
  fI : Addr
  cda : Addr
  cc : Addr
  fd : FuncData
  gC : mg "NoNet" = some (.ref C)
  sup : SupC K P mg C cda cc "row"
  fn : ∃ (oc kV dc pm ct : Value) (od an : Option Addr) (sl : Array (Option Value)), fd = PySem.W.ksFn "__init__" "NoNet.__init__" (defArgs sNoNet) (defBody sNoNet) (defScope sNoNet) .none kV dc pm an (.ref cda) ct cc ∧ K.lookup fI = some ⟨oc, od, .func fd, sl⟩
  cd : PySem.W.codeIn K (.ref cda) "NoNet.__init__" = true
  iC : PySem.W.findIn K (.ref C) "__init__" = some (some (.ref fI))
  tI : PySem.W.typeIn K (.ref fI) = some (.type "function")
  xf : XfC K C
  te : PySem.W.exmOne K (.ref C) (.ref C) = some true
def RowI (v : V) (_ : Hp) : Prop := ∃ i : Nat, v = .int (i : Int) ∧ i ≤ 100000
theorem row_size {i : Nat} (h : i ≤ 100000) : ((i : Int).natAbs.log2 < 1920) ∧ (Str.ofString (toString (i : Int))).length ≤ 12 := by
  constructor
  · rw [Int.natAbs_natCast]
    rcases Nat.eq_zero_or_pos i with rfl | hp
    · decide
    · exact Nat.lt_trans ((Nat.log2_lt (k := 17) (by omega)).mpr (by omega)) (by decide)
  · rw [PySem.ofString_length]
    exact int_text_length_le10 (k := 11) (by decide) (by omega)
section
variable {P : Program} {w : World} {K : PySem.W.Frag} {mg : Str → Option Value} {base : Heap}
theorem ok_init {k : Nat} (T : NoN P K mg) : FnOk P w K mg base CX0 (k + 1) T.fI T.fd ["self", "row"] (spSup T.C "row" RowI) := by
  obtain ⟨oc, kV, dc, pm, ct, od, an, sl, e, lk⟩ := T.fn
  rw [e] at lk ⊢
  refine fn_sup (te := _) lk T.cd sc_NoNet rfl rfl T.sup (fun A outer s H xe => pe_joined (.cons pe_str (.cons (pe_fmt (pv 1)) (.cons pe_str .nil)))) (fun v1 v H Q hv q => ?_) (by decide) (by decide) (fun L => rfl) (fun L => ⟨_, rfl⟩) (fun L => rfl) (fun L => rfl)
  obtain ⟨i, rfl, hi⟩ := hv
  have hl := (row_size hi).2
  have e4 : (Str.empty ++ Str.ofString "row ").length = 4 := by decide
  refine ⟨_, rfl, by rw [e4, sizeLine_eq]; omega, _, rfl, .inr ⟨(i : Int), rfl, (row_size hi).1, _, rfl, ?_, _, rfl, ?_, q _⟩⟩
  · rw [Str.length_append, e4, sizeLine_eq]; omega
  · rw [Str.length_append, Str.length_append, e4, sizeLine_eq, show (Str.ofString " is no thing at its place").length = 25 from by decide]; omega
theorem b_init (T : NoN P K mg) : Binds K T.fd ["self", "row"] [] := by
  obtain ⟨oc, kV, dc, pm, ct, od, an, sl, e, lk⟩ := T.fn
  rw [e]
  exact .all fun us hl => match us, hl with | [_, _], _ => rfl
end
end Tl

namespace Tl
open PySem PySem.Spec PyProof.Rows L2
/-! ### texts cut at a sign -/
def sumL (zs : List Str) : Nat := (zs.map (·.length)).sum
theorem sum_app (a b : List Str) : sumL (a ++ b) = sumL a + sumL b := by
  unfold sumL
  rw [List.map_append, List.sum_append]
theorem sum_cons (a : Str) (b : List Str) : sumL (a :: b) = a.length + sumL b := by
  unfold sumL
  rw [List.map_cons, List.sum_cons]
theorem join_size (y : Str) : ∀ zs : List Str, zs ≠ [] → (Str.join y zs).length + y.length = sumL zs + zs.length * y.length
  | [], h => absurd rfl h
  | [z], _ => by
    rw [sum_cons]
    show z.length + y.length = z.length + 0 + 1 * y.length
    omega
  | z :: z2 :: r, _ => by
    have ih := join_size y (z2 :: r) (by simp)
    show (z ++ y ++ Str.join y (z2 :: r)).length + y.length = _
    rw [Str.length_append, Str.length_append, sum_cons, List.length_cons, Nat.add_mul]
    omega
theorem split_ne (x y : Str) : Txt.split x y ≠ [] := fun e => by
  unfold Txt.split at e
  split at e
  · cases e
  · split at e
    · cases e
    · rw [StrLaws.partsBetween_eq] at e
      obtain ⟨p, r, z⟩ := StrLaws.partsFrom_ne x y.length 0 _
      exact List.cons_ne_nil p r (z.symm.trans e)
theorem split_size (x y : Str) (hy : y.length = 1) : sumL (Txt.split x y) + (Txt.split x y).length = x.length + 1 := by
  have h := join_size y (Txt.split x y) (split_ne x y)
  rw [StrLaws.join_split, hy, Nat.mul_one] at h
  omega
theorem sum_mem : ∀ {zs : List Str} {z : Str}, z ∈ zs → z.length ≤ sumL zs
  | a :: r, z, h => by
    rw [sum_cons]
    rcases List.mem_cons.mp h with rfl | h
    · omega
    · have := sum_mem h
      omega
theorem sum_sub : ∀ {a b : List Str}, a.Sublist b → sumL a ≤ sumL b := fun h => by
  induction h with
  | slnil => exact Nat.le_refl _
  | cons x _ ih => rw [sum_cons]; omega
  | cons_cons x _ ih => rw [sum_cons, sum_cons]; omega
end Tl

namespace Tl
open PySem PySem.Spec PyProof.Rows L2
structure Env (K : PySem.W.Frag) (mg : Str → Option Value) where
  f_is_name : Addr
  fd_is_name : FuncData
  F_is_name : Fun K "is_name" "is_name" (topS 9) f_is_name fd_is_name
  b_is_name : Binds K fd_is_name ["name"] []
  g_is_name : mg "is_name" = some (.ref f_is_name)
  f_is_bits : Addr
  fd_is_bits : FuncData
  F_is_bits : Fun K "is_bits" "is_bits" (topS 10) f_is_bits fd_is_bits
  b_is_bits : Binds K fd_is_bits ["text"] []
  g_is_bits : mg "is_bits" = some (.ref f_is_bits)
  f_net_text : Addr
  fd_net_text : FuncData
  F_net_text : Fun K "net_text" "net_text" (topS 11) f_net_text fd_net_text
  b_net_text : Binds K fd_net_text ["netlist"] []
  g_net_text : mg "net_text" = some (.ref f_net_text)
  f_thing_text : Addr
  fd_thing_text : FuncData
  F_thing_text : Fun K "thing_text" "thing_text" (topS 12) f_thing_text fd_thing_text
  b_thing_text : Binds K fd_thing_text ["thing"] []
  g_thing_text : mg "thing_text" = some (.ref f_thing_text)
  f_net_of : Addr
  fd_net_of : FuncData
  F_net_of : Fun K "net_of" "net_of" (topS 13) f_net_of fd_net_of
  b_net_of : Binds K fd_net_of ["text"] []
  g_net_of : mg "net_of" = some (.ref f_net_of)
  f_thing_of : Addr
  fd_thing_of : FuncData
  F_thing_of : Fun K "thing_of" "thing_of" (topS 14) f_thing_of fd_thing_of
  b_thing_of : Binds K fd_thing_of ["row"] []
  g_thing_of : mg "thing_of" = some (.ref f_thing_of)
  f__law_box : Addr
  fd__law_box : FuncData
  F__law_box : Fun K "_law_box" "_law_box" (topS 16) f__law_box fd__law_box
  b__law_box : Binds K fd__law_box ["_law_script"] []
  g__law_box : mg "_law_box" = some (.ref f__law_box)
  f__law_take : Addr
  fd__law_take : FuncData
  F__law_take : Fun K "_law_take" "_law_take" (topS 17) f__law_take fd__law_take
  b__law_take : Binds K fd__law_take ["_law_box_here", "_law_many"] []
  g__law_take : mg "_law_take" = some (.ref f__law_take)
  f__law_same : Addr
  fd__law_same : FuncData
  F__law_same : Fun K "_law_same" "_law_same" (topS 18) f__law_same fd__law_same
  b__law_same : Binds K fd__law_same ["_law_found", "_law_due"] []
  g__law_same : mg "_law_same" = some (.ref f__law_same)
  f__law_names : Addr
  fd__law_names : FuncData
  F__law_names : Fun K "_law_names" "_law_names" (topS 19) f__law_names fd__law_names
  b__law_names : Binds K fd__law_names ["_law_box_here", "_law_sides"] []
  g__law_names : mg "_law_names" = some (.ref f__law_names)
  f__law_bits : Addr
  fd__law_bits : FuncData
  F__law_bits : Fun K "_law_bits" "_law_bits" (topS 20) f__law_bits fd__law_bits
  b__law_bits : Binds K fd__law_bits ["_law_box_here", "_law_many"] []
  g__law_bits : mg "_law_bits" = some (.ref f__law_bits)
  f__law_some_net : Addr
  fd__law_some_net : FuncData
  F__law_some_net : Fun K "_law_some_net" "_law_some_net" (topS 21) f__law_some_net fd__law_some_net
  b__law_some_net : Binds K fd__law_some_net ["_law_box_here", "_law_most_in", "_law_most_cells", "_law_most_out"] []
  g__law_some_net : mg "_law_some_net" = some (.ref f__law_some_net)
  f__law_named : Addr
  fd__law_named : FuncData
  F__law_named : Fun K "_law_named" "_law_named" (topS 22) f__law_named fd__law_named
  b__law_named : Binds K fd__law_named ["_law_word"] []
  g__law_named : mg "_law_named" = some (.ref f__law_named)
  f__law_thing : Addr
  fd__law_thing : FuncData
  F__law_thing : Fun K "_law_thing" "_law_thing" (topS 23) f__law_thing fd__law_thing
  b__law_thing : Binds K fd__law_thing ["_law_line"] []
  g__law_thing : mg "_law_thing" = some (.ref f__law_thing)
  f__law_read_text : Addr
  fd__law_read_text : FuncData
  F__law_read_text : Fun K "_law_read_text" "_law_read_text" (topS 24) f__law_read_text fd__law_read_text
  b__law_read_text : Binds K fd__law_read_text ["_law_text"] []
  g__law_read_text : mg "_law_read_text" = some (.ref f__law_read_text)
  f__law_spoilt : Addr
  fd__law_spoilt : FuncData
  F__law_spoilt : Fun K "_law_spoilt" "_law_spoilt" (topS 25) f__law_spoilt fd__law_spoilt
  b__law_spoilt : Binds K fd__law_spoilt ["_law_box_here", "_law_text"] []
  g__law_spoilt : mg "_law_spoilt" = some (.ref f__law_spoilt)
  f__law_told : Addr
  fd__law_told : FuncData
  F__law_told : Fun K "_law_told" "_law_told" (topS 26) f__law_told fd__law_told
  b__law_told : Binds K fd__law_told ["_law_text"] []
  g__law_told : mg "_law_told" = some (.ref f__law_told)
  n_ValueError : mg "ValueError" = none
  n_all : mg "all" = none
  n_bool : mg "bool" = none
  n_enumerate : mg "enumerate" = none
  n_int : mg "int" = none
  n_isinstance : mg "isinstance" = none
  n_len : mg "len" = none
  n_list : mg "list" = none
  n_min : mg "min" = none
  n_range : mg "range" = none
  n_str : mg "str" = none
  n_super : mg "super" = none
  n_tuple : mg "tuple" = none
  n_zip : mg "zip" = none
  v_LETTERS : Value
  g_LETTERS : mg "LETTERS" = some v_LETTERS
  r_LETTERS : RelV (.str "abcdefghijklmnopqrstuvwxyz") v_LETTERS
  v_LONGEST_NAME : Value
  g_LONGEST_NAME : mg "LONGEST_NAME" = some v_LONGEST_NAME
  r_LONGEST_NAME : RelV (.int 8) v_LONGEST_NAME
  v_LONGEST_BITS : Value
  g_LONGEST_BITS : mg "LONGEST_BITS" = some v_LONGEST_BITS
  r_LONGEST_BITS : RelV (.int 8) v_LONGEST_BITS
structure Dcs (K : PySem.W.Frag) (w : World) (mg : Str → Option Value) where
  a_RANKS : Addr
  g_RANKS : mg "RANKS" = some (.ref a_RANKS)
  d_RANKS_in : KDct K w a_RANKS "in" (.int 0)
  d_RANKS_gate : KDct K w a_RANKS "gate" (.int 1)
  d_RANKS_reg : KDct K w a_RANKS "reg" (.int 1)
  d_RANKS_out : KDct K w a_RANKS "out" (.int 2)
  a_PIN_COUNTS : Addr
  g_PIN_COUNTS : mg "PIN_COUNTS" = some (.ref a_PIN_COUNTS)
  s_PIN_COUNTS : (a_PIN_COUNTS == sysModules) = false
  o_PIN_COUNTS : ∃ o : Obj, K.lookup a_PIN_COUNTS = some o ∧ o.cls = .type "dict" ∧ o.dict = none
  d_PIN_COUNTS_in : ∃ t, KDct K w a_PIN_COUNTS "in" (.ref t) ∧ ∀ H, SqT K H t [.int 0]
  d_PIN_COUNTS_gate : ∃ t, KDct K w a_PIN_COUNTS "gate" (.ref t) ∧ ∀ H, SqT K H t [.int 0, .int 1, .int 2, .int 3]
  d_PIN_COUNTS_reg : ∃ t, KDct K w a_PIN_COUNTS "reg" (.ref t) ∧ ∀ H, SqT K H t [.int 1]
  d_PIN_COUNTS_out : ∃ t, KDct K w a_PIN_COUNTS "out" (.ref t) ∧ ∀ H, SqT K H t [.int 1]
  z_PIN_COUNTS : KMiss K w a_PIN_COUNTS ""
  x_PIN_COUNTS : ∃ es n, KDict K w a_PIN_COUNTS es n ∧ ∀ z : Str, z ∉ (["in", "gate", "reg", "out"] : List Str) → PySem.W.nsIn K a_PIN_COUNTS z = some none
end Tl

namespace Tl
open PySem PySem.Spec PyProof.Rows L2
theorem ns_miss {K : PySem.W.Frag} {a : Addr} {es : Array DictEntry} {n : Nat} {z : Str} (l : K.lookup a = some ⟨.type "dict", none, .dict es n, #[]⟩) (h1 : es.toList.find? (·.key.isStr z) = none) (h2 : es.toList.any (·.refKey) = false) : PySem.W.nsIn K a z = some none := by
  unfold PySem.W.nsIn
  rw [l]
  show (match es.toList.find? (·.key.isStr z) with | some e => some (some e.val) | none => if es.toList.any (·.refKey) then none else some none) = some none
  rw [h1, h2]
  rfl
/-- a written dict of texts, by its keys -/
theorem miss_of {es : Array DictEntry} {ks : List Str} {z : Str} (h : (es.toList.all fun e => match e.key with | .str k _ => decide (k ∈ ks) && !e.refKey | _ => false) = true) (hz : z ∉ ks) : es.toList.find? (·.key.isStr z) = none ∧ es.toList.any (·.refKey) = false := by
  rw [List.all_eq_true] at h
  constructor
  · rw [List.find?_eq_none]
    intro e he q
    have h1 := h e he
    split at h1
    · rename_i k tk hk
      rw [hk] at q
      rw [Bool.and_eq_true, decide_eq_true_eq] at h1
      have q2 : (k == z) = true := q
      exact hz (eq_of_beq q2 ▸ h1.1)
    · cases h1
  · rw [List.any_eq_false]
    intro e he q
    have h1 := h e he
    split at h1
    · rw [Bool.and_eq_true] at h1
      rw [q] at h1
      exact absurd h1.2 (by decide)
    · cases h1
theorem in_strs (z : Str) (ks : List Str) : inV (.str z) (ks.map V.str) = decide (z ∈ ks) := by
  unfold inV
  induction ks with
  | nil => rfl
  | cons k r ih =>
    rw [List.map_cons, List.any_cons, ih]
    show ((k == z) || decide (z ∈ r)) = decide (z ∈ k :: r)
    by_cases h : k = z
    · subst h
      simp
    · have h2 : ¬ z = k := fun e => h e.symm
      simp [h, h2]
theorem in_ints (x : Int) (ks : List Int) : inV (.int x) (ks.map V.int) = decide (x ∈ ks) := by
  unfold inV
  induction ks with
  | nil => rfl
  | cons k r ih =>
    rw [List.map_cons, List.any_cons, ih]
    show ((k == x) || decide (x ∈ r)) = decide (x ∈ k :: r)
    by_cases h : k = x
    · subst h
      simp
    · have h2 : ¬ x = k := fun e => h e.symm
      simp [h, h2]
/-! ### a row as a thing -/
def cellB (k : Str) : Bool := decide (k ∈ (["gate", "reg"] : List Str))
def kdW (ws : List Str) : Str := ws.headD ""
def bitsW (ws : List Str) : Str := if cellB (kdW ws) = true then Txt.join "" ((ws.drop 2).take 1) else ""
def namesW (ws : List Str) : List Str := if cellB (kdW ws) = true then (ws.drop 1).take 1 ++ ws.drop 3 else ws.drop 1
def tabB (b : Str) : Bool := (decide ((1 : Int) ≤ (b.length : Int)) && decide ((b.length : Int) ≤ 8)) && bitsB b
def pinsK (k : Str) : List Int := if k = "in" then [0] else if k = "gate" then [0, 1, 2, 3] else if k = "reg" then [1] else if k = "out" then [1] else []
def thB (ws : List Str) : Bool := (!cellB (kdW ws) || tabB (bitsW ws)) && (decide (((namesW ws).length : Int) - 1 ∈ pinsK (kdW ws)) && (namesW ws).all nameB)
def thW (ws : List Str) : Th := ⟨kdW ws, (namesW ws).headD "", bitsW ws, (namesW ws).drop 1⟩
def thOf (ws : List Str) : Option Th := if thB ws = true then some (thW ws) else none
theorem thOf_no {ws : List Str} (h : thB ws = false) : thOf ws = none := by
  unfold thOf
  rw [h]
  rfl
theorem thOf_yes {ws : List Str} (h : thB ws = true) : thOf ws = some (thW ws) := if_pos h
def ThV (H : Hp) (v : V) : Option Th → Prop
  | none => v = .non
  | some t => ∃ a, v = .ref a ∧ RTh H (a, t)
theorem in_two (k : Str) : inV (.str k) [.str "gate", .str "reg"] = cellB k := in_strs k ["gate", "reg"]
theorem hd_at {ws : List Str} (h : ws ≠ []) : (ws.map V.str)[0]? = some (.str (kdW ws)) := by
  cases ws with
  | nil => exact absurd rfl h
  | cons a r => rfl
abbrev sThingOf : Stmt := topS 14
abbrev nThingOf : List Str := ["row", "words", "kind", "bits", "names", "name"]
theorem scThingOf : FnScope nThingOf ["row"] (defScope sThingOf) := ⟨rfl, rfl, rfl, by decide +kernel, rfl, by decide +kernel, by decide +kernel⟩
theorem names_sub (ws : List Str) : (namesW ws).Sublist ws := by
  unfold namesW
  split
  · cases ws with
    | nil => exact List.Sublist.refl _
    | cons a r =>
      cases r with
      | nil => exact List.nil_sublist _
      | cons b r2 =>
        show (b :: r2.drop 1).Sublist _
        exact ((List.drop_sublist 1 r2).cons_cons b).cons a
  · exact List.drop_sublist 1 ws
section
variable {P : Program} {w : World} {K : PySem.W.Frag} {mg : Str → Option Value} {base : Heap}
theorem Dcs.pin (Dc : Dcs K w mg) (k : Str) : (k ∉ (["in", "gate", "reg", "out"] : List Str) ∧ pinsK k = []) ∨ ∃ p, KDct K w Dc.a_PIN_COUNTS k (.ref p) ∧ (∀ H, SqT K H p ((pinsK k).map V.int)) := by
  by_cases h1 : k = "in"
  · subst h1
    obtain ⟨p, x, y⟩ := Dc.d_PIN_COUNTS_in
    exact .inr ⟨p, x, y⟩
  · by_cases h2 : k = "gate"
    · subst h2
      obtain ⟨p, x, y⟩ := Dc.d_PIN_COUNTS_gate
      exact .inr ⟨p, x, y⟩
    · by_cases h3 : k = "reg"
      · subst h3
        obtain ⟨p, x, y⟩ := Dc.d_PIN_COUNTS_reg
        exact .inr ⟨p, x, y⟩
      · by_cases h4 : k = "out"
        · subst h4
          obtain ⟨p, x, y⟩ := Dc.d_PIN_COUNTS_out
          exact .inr ⟨p, x, y⟩
        · refine .inl ⟨by simp [h1, h2, h3, h4], ?_⟩
          unfold pinsK
          rw [if_neg h1, if_neg h2, if_neg h3, if_neg h4]
def spThingOf : Sp := fun vs H Q _ => ∃ row : Str, vs = [.str row] ∧ row.length ≤ 40000 ∧ ∀ v H', Evl.Ex H H' → ThV H' v (thOf (Txt.split row " ")) → Q v H'
theorem rng_map {f : Str → Bool} (zs : List Str) : (List.range zs.length).map (fun i => V.bl (f (zs.getD i ""))) = (zs.map f).map V.bl := by
  apply List.ext_getElem?
  intro i
  rw [List.map_map, List.getElem?_map, List.getElem?_map]
  by_cases h : i < zs.length
  · rw [List.getElem?_range h, List.getElem?_eq_getElem h]
    show some (V.bl (f (zs.getD i ""))) = some (V.bl (f zs[i]))
    rw [List.getD_eq_getElem?_getD, List.getElem?_eq_getElem h]
    rfl
  · rw [List.getElem?_eq_none (by rw [List.length_range]; omega), List.getElem?_eq_none (by omega)]
    rfl
theorem ok_thingOf (T : Env K mg) (Dc : Dcs K w mg) : FnOk P w K mg base CX0 2 T.f_thing_of T.fd_thing_of ["row"] spThingOf := by
  obtain ⟨tk1, e1⟩ := T.r_LONGEST_NAME
  obtain ⟨tk2, e2⟩ := T.r_LETTERS
  have GN : FnOk P w K mg base CX0 1 T.f_is_name T.fd_is_name ["name"] spIsName := ok_isName T.F_is_name T.n_isinstance T.n_str T.n_len T.n_all (e1 ▸ T.g_LONGEST_NAME) (e2 ▸ T.g_LETTERS)
  have GB : FnOk P w K mg base CX0 1 T.f_is_bits T.fd_is_bits ["text"] spIsBits := ok_isBits T.F_is_bits T.n_all
  obtain ⟨es, n, DP, hmiss⟩ := Dc.x_PIN_COUNTS
  refine T.F_thing_of.ok scThingOf (fun vs H Q E h => ?_) (fun cdv A outer s H vs Q E hr h => ?_)
  · obtain ⟨t, rfl, _⟩ := h
    rfl
  · obtain ⟨row, rfl, hrl, q⟩ := h
    refine ⟨_, pss_cons (ps_set (i := 1) scThingOf.nd rfl (.inl rfl) (pe_split (pv 0) pe_str))
      (pss_cons (ps_set (i := 2) scThingOf.nd rfl (.inl rfl) (pe_ix ix_list (pv 1) pe_int (fun _ _ => rfl)))
      (pss_cons (ps_set (i := 3) scThingOf.nd rfl (.inl rfl) pe_str)
      (pss_cons (ps_set (i := 4) scThingOf.nd rfl (.inl rfl) (pe_slice sl_list (pv 1) (po_some pe_int) po_none))
      (Evl.pss_cut (ps_if (pt_cmpR op_in_seq (pv 2) (pe_tup (pa_cons pe_str (pa_cons pe_str pa_nil))) (by rfl))
        (pss_cons (ps_set (i := 3) scThingOf.nd rfl (.inl rfl) (pe_join pe_str (pe_slice sl_list (pv 1) (po_some pe_int) (po_some pe_int))))
        (pss_cons (ps_set (i := 4) scThingOf.nd rfl (.inl rfl) (pe_op op_cat (pe_slice sl_list (pv 1) (po_some pe_int) (po_some pe_int)) (pe_slice sl_list (pv 1) (po_some pe_int) po_none)))
        (pss_one (ps_if (PW.pt (pw_or (pt_not (pt_chain op_le op_le pe_int (pe_callB call_len_str (by rfl) T.n_len PySem.boot_len (pa_cons (pv 3) pa_nil)) (pe_glob (v := .int 8) (by rfl) T.g_LONGEST_BITS T.r_LONGEST_BITS)))
            (pw_or1 (pt_not (pt_val (pe_call GB hr (by rfl) T.g_is_bits T.F_is_bits.kp T.b_is_bits .nil pass0 (pa_cons (pv 3) pa_nil)))))))
          (pss_one (ps_ret pe_non)) pss_nil)))) pss_nil)
      (pss_cons (ps_if (PW.pt (pw_or (pt_cmpR (op_notIn_kd DP) (pv 2) (pe_glob (v := .ref Dc.a_PIN_COUNTS) (by rfl) Dc.g_PIN_COUNTS rfl) (by rfl))
          (pw_or1 (pt_cmpR op_notIn_seq (pe_op op_sub (pe_callB call_len_seq (by rfl) T.n_len PySem.boot_len (pa_cons (pv 4) pa_nil)) pe_int) (pe_ix ix_kdict (pe_glob (v := .ref Dc.a_PIN_COUNTS) (by rfl) Dc.g_PIN_COUNTS rfl) (pv 2) (fun _ _ => rfl)) (by rfl)))))
        (pss_one (ps_ret pe_non)) pss_nil)
      (pss_cons (ps_if (pt_not (pt_val (pe_callB (cr_all rfl) (by rfl) T.n_all (by decide +kernel) (pa_cons (pe_lc (own := [("name", 5)]) (g := gName 5) (tt := tYes) rfl scThingOf.nd (pi_list (pv 4)) (blkOk_by (N := nThingOf) (sc := defScope sThingOf) (by decide +kernel))
          (fun _ _ _ _ _ => pg_name (i := 5) scThingOf.nd rfl (Or.inl rfl)) (fun _ _ _ _ _ => pts_nil)
          (fun _ _ _ _ _ => pe_call GN hr (by rfl) T.g_is_name T.F_is_name.kp T.b_is_name .nil pass0 (pa_cons (pv 5) pa_nil))) pa_nil))))
        (pss_one (ps_ret pe_non)) pss_nil)
      (pss_one (ps_ret (pe_tup (pa_cons (pv 2) (pa_cons (pe_ix ix_list (pv 4) pe_int (fun _ _ => rfl)) (pa_cons (pv 3) (pa_cons (pe_callTy call_tuple_of (by rfl) T.n_tuple (by decide +kernel) (pa_cons (pe_slice sl_list (pv 4) (po_some pe_int) po_none) pa_nil)) pa_nil))))))))))))), ?_⟩
    refine ⟨.str row, rfl, ⟨_, rfl⟩, row, " ", rfl, rfl, rfl, sz (by omega), fun pw npw => ?_⟩
    have hss := split_size row " " rfl
    have hne := split_ne row " "
    generalize hws : Txt.split row " " = ws at *
    generalize hH1 : upd H pw _ = H1
    have hpw : H1 pw = some (.lst (ws.map V.str)) := by rw [← hH1]; exact upd_same
    have x1 : Evl.Ex H H1 := hH1 ▸ Evl.Ex.new npw
    refine ⟨.ref pw, rfl, pw, _, 0, .str (kdW ws), rfl, rfl, .inl (.inl hpw), atI_nat (j := 0) (hd_at hne), ?_⟩
    refine ⟨.ref pw, rfl, 1, rfl, pw, _, rfl, .inl (.inl hpw), fun pn0 npn => ?_⟩
    generalize hH2 : upd H1 pn0 _ = H2
    have hpn0 : H2 pn0 = some (.lst ((ws.drop 1).map V.str)) := by rw [← hH2, ← cut_lo V.str ws 1]; exact upd_same
    have x2 : Evl.Ex H1 H2 := hH2 ▸ Evl.Ex.new npn
    have x12 := x1.trans x2
    have hmz : ∀ z ∈ namesW ws, z.length ≤ 40001 := fun z hz => by
      have := sum_mem (List.Sublist.mem hz (names_sub ws))
      omega
    have hnl := (names_sub ws).length_le
    refine ⟨fun σ' H' => ∃ pn : Addr, σ' = [some (.str row), some (.ref pw), some (.str (kdW ws)), some (.str (bitsW ws)), some (.ref pn), none] ∧ Evl.Ex H H' ∧ H' pn = some (.lst ((namesW ws).map V.str)) ∧ (!cellB (kdW ws) || tabB (bitsW ws)) = true, ?_, ?_⟩
    · refine ⟨.str (kdW ws), rfl, by show 2 ≤ sizeLine; decide, fun pt npt => ⟨pt, _, rfl, .inr (.inl (.inl upd_same)), rfl, rfl, _, rfl, ?_⟩⟩
      rw [in_two]
      generalize hH3 : upd H2 pt _ = H3
      have x3 : Evl.Ex H2 H3 := hH3 ▸ Evl.Ex.new npt
      have hpw3 := x3 _ _ (x2 _ _ hpw)
      refine ite2 (fun e => ?_) (fun e => ?_)
      · have e : cellB (kdW ws) = true := e
        have hbw : bitsW ws = Txt.join "" ((ws.drop 2).take 1) := if_pos e
        have hnw : namesW ws = (ws.drop 1).take 1 ++ ws.drop 3 := if_pos e
        refine ⟨⟨_, rfl⟩, .ref pw, rfl, 2, rfl, 3, rfl, pw, _, rfl, .inl (.inl hpw3), fun pb npb => ?_⟩
        generalize hH4 : upd H3 pb _ = H4
        have x4 : Evl.Ex H3 H4 := hH4 ▸ Evl.Ex.new npb
        have hpb : H4 pb = some (.lst (((ws.drop 2).take 1).map V.str)) := by
          rw [← hH4, upd_same, show cutV (ws.map V.str) (some 2) (some 3) = ((ws.drop 2).take (3 - 2)).map V.str from cut_nat V.str ws 2 3]
        have hsb : sumL ((ws.drop 2).take 1) ≤ sumL ws := sum_sub ((List.take_sublist 1 _).trans (List.drop_sublist 2 ws))
        have hb1 : ((ws.drop 2).take 1).length ≤ 1 := List.length_take_le 1 _
        have hbl : (bitsW ws).length ≤ 40001 := by
          rw [hbw]
          have := join_len "" ((ws.drop 2).take 1)
          have e0 : (("" : Str).length) = 0 := rfl
          rw [e0] at this
          unfold sumL at hsb hss
          omega
        refine ⟨"", pb, (ws.drop 2).take 1, rfl, rfl, .inl (.inl (.inl hpb)), ?_, ?_⟩
        · have e0 : (("" : Str).length) = 0 := rfl
          rw [e0]
          unfold sumL at hsb hss
          omega
        rw [← hbw]
        have hpw4 := x4 _ _ hpw3
        refine ⟨.ref pw, rfl, 1, rfl, 2, rfl, pw, _, rfl, .inl (.inl hpw4), fun s1 n1 => ?_⟩
        generalize hH5 : upd H4 s1 _ = H5
        have x5 : Evl.Ex H4 H5 := hH5 ▸ Evl.Ex.new n1
        have hs1 : H5 s1 = some (.lst (((ws.drop 1).take 1).map V.str)) := by
          rw [← hH5, upd_same, show cutV (ws.map V.str) (some 1) (some 2) = ((ws.drop 1).take (2 - 1)).map V.str from cut_nat V.str ws 1 2]
        refine ⟨.ref pw, rfl, 3, rfl, pw, _, rfl, .inl (.inl (x5 _ _ hpw4)), fun s2 n2 => ?_⟩
        generalize hH6 : upd H5 s2 _ = H6
        have x6 : Evl.Ex H5 H6 := hH6 ▸ Evl.Ex.new n2
        have hs2 : H6 s2 = some (.lst ((ws.drop 3).map V.str)) := by
          rw [← hH6, upd_same, show cutV (ws.map V.str) (some 3) none = (ws.drop 3).map V.str from cut_lo V.str ws 3]
        refine ⟨s1, s2, _, _, rfl, rfl, x6 _ _ hs1, hs2, by rw [← List.length_append, ← List.map_append, ← hnw, List.length_map]; exact sz (by omega), fun pn2 npn2 => ?_⟩
        rw [← List.map_append, ← hnw]
        generalize hH7 : upd H6 pn2 _ = H7
        have x7 : Evl.Ex H6 H7 := hH7 ▸ Evl.Ex.new npn2
        have hpn2 : H7 pn2 = some (.lst ((namesW ws).map V.str)) := by rw [← hH7]; exact upd_same
        have x17 := ((((x12.trans x3).trans x4).trans x5).trans x6).trans x7
        have bad : tabB (bitsW ws) = false → ∀ H9, Evl.Ex H7 H9 → Q .non H9 := fun hb H9 x9 => q _ _ (x17.trans x9) (by rw [thOf_no (by unfold thB; rw [e, hb]; rfl)]; rfl)
        refine ⟨.str (bitsW ws), rfl, bitsW ws, rfl, sz (by omega), 1, _, rfl, rfl, _, rfl, ?_⟩
        refine ite2 (fun g1 => ?_) (fun g1 => ?_)
        · by_cases g2 : ((bitsW ws).length : Int) ≤ 8
          · refine ⟨_, 8, rfl, rfl, true, congrArg V.bl (decide_eq_true g2), ?_⟩
            refine ⟨.str (bitsW ws), rfl, bitsW ws, rfl, by omega, fun H8 x8 => ?_⟩
            cases hbb : bitsB (bitsW ws)
            · exact ⟨false, rfl, bad (by unfold tabB; rw [hbb, Bool.and_false]) H8 x8⟩
            · exact ⟨true, rfl, pn2, rfl, x17.trans x8, x8 _ _ hpn2, by unfold tabB; rw [hbb, g1, decide_eq_true g2, Bool.or_eq_true]; exact .inr rfl⟩
          · exact ⟨_, 8, rfl, rfl, false, congrArg V.bl (decide_eq_false g2), bad (by unfold tabB; rw [decide_eq_false g2, Bool.and_false, Bool.false_and]) _ (Evl.Ex.refl _)⟩
        · have g3 : decide ((1 : Int) ≤ ((bitsW ws).length : Int)) = false := by simpa using g1
          exact ⟨false, rfl, bad (by unfold tabB; rw [g3, Bool.false_and, Bool.false_and]) _ (Evl.Ex.refl _)⟩
      · have hc : cellB (kdW ws) = false := by simpa using e
        have hbw : bitsW ws = "" := if_neg (by rw [hc]; decide)
        have hnw : namesW ws = ws.drop 1 := if_neg (by rw [hc]; decide)
        rw [hbw, hnw, hc]
        exact ⟨pn0, rfl, x12.trans x3, x3 _ _ hpn0, rfl⟩
    · rintro σ' H2 ⟨pn, rfl, ex2, hpn, hcb⟩
      have no : (decide (((namesW ws).length : Int) - 1 ∈ pinsK (kdW ws)) && (namesW ws).all nameB) = false → ∀ H9, Evl.Ex H2 H9 → Q .non H9 := fun hb H9 x9 => q _ _ (ex2.trans x9) (by rw [thOf_no (by unfold thB; rw [hb, Bool.and_false])]; rfl)
      rcases Dc.pin (kdW ws) with ⟨hm, hp0⟩ | ⟨p, hk, hsq⟩
      · exact ⟨.str (kdW ws), rfl, kdW ws, none, rfl, rfl, hmiss _ hm, true, rfl, no (by rw [hp0]; rfl) _ (Evl.Ex.refl _)⟩
      · obtain ⟨es', n', u, hl, hkl, hns, hru⟩ := hk
        refine ⟨.str (kdW ws), rfl, kdW ws, some u, rfl, rfl, hns, false, rfl, ?_⟩
        have hcnt : ((((namesW ws).map V.str).length : Int) - 1) = ((namesW ws).length : Int) - 1 := by rw [List.length_map]
        have hval : V.bl (if true = true then !inV (.int ((((namesW ws).map V.str).length : Int) - 1)) ((pinsK (kdW ws)).map V.int) else inV (.int ((((namesW ws).map V.str).length : Int) - 1)) ((pinsK (kdW ws)).map V.int)) = V.bl (!decide (((namesW ws).length : Int) - 1 ∈ pinsK (kdW ws))) := by
          rw [hcnt, in_ints]
          rfl
        have hfl : ((pinsK (kdW ws)).map V.int).all flatV = true := by
          rw [List.all_eq_true]
          intro y hy
          obtain ⟨i, _, rfl⟩ := List.mem_map.mp hy
          rfl
        refine ⟨.ref pn, rfl, pn, _, rfl, .inl (.inl (.inl hpn)), _, 1, rfl, rfl, .str (kdW ws), rfl, Dc.a_PIN_COUNTS, kdW ws, .ref p, rfl, rfl, ⟨es', n', u, hl, hkl, hns, hru⟩, p, _, rfl, .inr (hsq _), rfl, hfl, !decide (((namesW ws).length : Int) - 1 ∈ pinsK (kdW ws)), hval, ?_⟩
        by_cases hin : ((namesW ws).length : Int) - 1 ∈ pinsK (kdW ws)
        · rw [decide_eq_true hin] at no ⊢
          refine ⟨.ref pn, rfl, pn, rfl, ⟨_, .inl (.inl hpn)⟩, fun D nD => ?_⟩
          refine lc_seq (xs := (namesW ws).map V.str) (f := fun i => .bl (nameB ((namesW ws).getD i ""))) (j := 5) (by rw [List.length_map]; omega) nD (fun i H' x ex e => ⟨_, _, .inl (.inl (ex _ _ hpn)), e⟩) (fun H' ex => ⟨_, .inl (.inl (ex _ _ hpn)), Nat.le_refl _⟩) (fun i H' v H'' ex y => ⟨y.1, y.2 _ (.inl (.inl (ex _ _ hpn)))⟩) (fun _ => rfl) (fun i x hx H' ex Q' q' => ?_) (fun H3 x3 hD => ?_)
          · rw [List.getElem?_map] at hx
            obtain ⟨z, hz, rfl⟩ := Option.map_eq_some_iff.mp hx
            have hzl := hmz z (List.mem_of_getElem? hz)
            have hzg : (namesW ws).getD i "" = z := by rw [List.getD_eq_getElem?_getD, hz]; rfl
            rw [hzg] at q'
            exact ⟨_, rfl, z, rfl, by omega, fun H4 x4 => q' H4 x4⟩
          · rw [List.length_map, rng_map] at hD
            refine ⟨D, _, rfl, .inl (.inl hD), _, rfl, ?_⟩
            rw [show ((namesW ws).map nameB).all id = (namesW ws).all nameB from by rw [List.all_map]; rfl]
            cases hal : (namesW ws).all nameB
            · exact no (by rw [hal]; rfl) _ x3
            · have hpn3 := x3 _ _ hpn
              have hnn : namesW ws ≠ [] := fun z => by
                rw [z] at hin
                revert hin
                unfold pinsK
                split
                · decide
                · split
                  · decide
                  · split
                    · decide
                    · split <;> decide
              have hd0 : ((namesW ws).map V.str)[0]? = some (.str ((namesW ws).headD "")) := hd_at hnn
              refine ⟨.str (kdW ws), rfl, .ref pn, rfl, pn, _, 0, .str ((namesW ws).headD ""), rfl, rfl, .inl (.inl hpn3), atI_nat (j := 0) hd0, .str (bitsW ws), rfl, .ref pn, rfl, 1, rfl, pn, _, rfl, .inl (.inl hpn3), fun s1 n1 => ?_⟩
              generalize hH4 : upd H3 s1 _ = H4
              have x4 : Evl.Ex H3 H4 := hH4 ▸ Evl.Ex.new n1
              have hs1 : H4 s1 = some (.lst (((namesW ws).drop 1).map V.str)) := by
                rw [← hH4, upd_same, show cutV ((namesW ws).map V.str) (some 1) none = ((namesW ws).drop 1).map V.str from cut_lo V.str (namesW ws) 1]
              refine ⟨s1, _, rfl, .inl ⟨.inl (.inl hs1), fun q1 m1 => ⟨by show 4 ≤ sizeLine; decide, fun a na => ?_⟩⟩⟩
              refine q (.ref a) _ ((((ex2.trans x3).trans x4).trans (Evl.Ex.new m1)).trans (Evl.Ex.new na)) ?_
              rw [thOf_yes (by unfold thB; rw [hcb, decide_eq_true hin, hal]; rfl)]
              refine ⟨a, rfl, q1, upd_same, ?_⟩
              rw [upd_ne (ne_of_none upd_same na)]
              exact upd_same
        · rw [decide_eq_false hin] at no ⊢
          exact no rfl _ (Evl.Ex.refl _)
end
end Tl

namespace Tl
open PySem PySem.Spec PyProof.Rows L2
def rankT (k : Str) : Int := if k = "in" then 0 else if k = "out" then 2 else 1
/-- the rows in their turn: the first that is wrong, or all things -/
def readL : List (Option Th) → Nat → Int → List Th → Nat ⊕ List Th
  | [], _, _, acc => .inr acc
  | none :: _, i, _, _ => .inl i
  | some t :: r, i, rk, acc => if rankT t.kind < rk then .inl i else readL r (i + 1) (rankT t.kind) (acc ++ [t])
def rowsT (text : Str) : List (Option Th) := (Txt.split text "\n").map fun r => thOf (Txt.split r " ")
def readT (text : Str) : Nat ⊕ List Th := if text = "" then .inr [] else readL (rowsT text) 0 0 []
theorem thOf_kind {ws : List Str} {t : Th} (h : thOf ws = some t) : t.kind = "in" ∨ t.kind = "gate" ∨ t.kind = "reg" ∨ t.kind = "out" := by
  unfold thOf at h
  split at h
  · rename_i hb
    injection h with h
    subst h
    unfold thB at hb
    rw [Bool.and_eq_true, Bool.and_eq_true] at hb
    have hm := of_decide_eq_true hb.2.1
    show kdW ws = _ ∨ kdW ws = _ ∨ kdW ws = _ ∨ kdW ws = _
    unfold pinsK at hm
    by_cases h1 : kdW ws = "in"
    · exact .inl h1
    · by_cases h2 : kdW ws = "gate"
      · exact .inr (.inl h2)
      · by_cases h3 : kdW ws = "reg"
        · exact .inr (.inr (.inl h3))
        · by_cases h4 : kdW ws = "out"
          · exact .inr (.inr (.inr h4))
          · rw [if_neg h1, if_neg h2, if_neg h3, if_neg h4] at hm
            exact absurd hm List.not_mem_nil
  · cases h
theorem for_enum {K : PySem.W.Frag} {a : Addr} {xs : List V} {j k : Nat} {tb : TS} {D : Ends} {σ : L2.St} {H : Hp} (Pv : Nat → L2.St → Hp → Prop) (h0 : Pv 0 σ H) (hq : ∀ i σ H, Pv i σ H → SqL K H a xs)
    (hs : ∀ (i : Nat) (x : V) (T : Addr) (σ : L2.St) (H : Hp), xs[i]? = some x → Pv i σ H → H T = none → tb { D with nx := Pv (i + 1), ct := Pv (i + 1), bk := D.nx } ((σ.set j (some (.int (i : Int)))).set k (some x)) (upd H T (.tup [.int (i : Int), x]))) (hd : ∀ σ H, Pv xs.length σ H → D.nx σ H) :
    ∃ W : Nat → Nat → L2.St → Hp → Prop, (∃ m, W 0 m σ H) ∧ ∀ i m σ H, W i m σ H →
      ((Ite K a).stop i H ∧ D.nx σ H) ∨ ((Ite K a).go i H ∧ ∃ N : L2.St → Hp → Prop, (∀ σ' H', N σ' H' → ∃ m', m' < m ∧ W (i + 1) m' σ' H') ∧ ∀ v H', (Ite K a).yld i H v H' → gTup K 2 (gCons (gName j) (gCons (gName k) gNil)) v σ H' fun σ2 H2 => tb { D with nx := N, ct := N, bk := D.nx } σ2 H2) := by
  refine ⟨fun i m σ H => m = xs.length - i ∧ i ≤ xs.length ∧ Pv i σ H, ⟨xs.length, rfl, Nat.zero_le _, h0⟩, ?_⟩
  rintro i m σ H ⟨rfl, hi, p⟩
  have q := hq i σ H p
  by_cases hlt : i < xs.length
  · refine .inr ⟨⟨xs, _, q, List.getElem?_eq_getElem hlt⟩, Pv (i + 1), fun σ' H' p' => ⟨xs.length - (i + 1), by omega, rfl, hlt, p'⟩, fun v H' y => ?_⟩
    obtain ⟨T, x, rfl, nT, rfl, f1⟩ := y
    exact ⟨T, _, rfl, .inl (.inl upd_same), rfl, _, _, rfl, _, _, rfl, rfl, hs i x T σ H (f1 xs q) p nT⟩
  · have e : i = xs.length := by omega
    subst e
    exact .inl ⟨⟨xs, q, Nat.le_refl _⟩, hd σ H p⟩
abbrev sNetOf : Stmt := topS 13
abbrev nNetOf : List Str := ["text", "things", "rank", "number", "row", "thing"]
theorem scNetOf : FnScope nNetOf ["text"] (defScope sNetOf) := ⟨rfl, rfl, rfl, by decide +kernel, rfl, by decide +kernel, by decide +kernel⟩
theorem mk_heap {H : Hp} {a dx : Addr} {o1 o2 o3 o4 : HO} (na : H a = none) (hda : dx ≠ a) : upd (del (upd (upd (upd H a o1) dx o2) a o3) a) dx o4 = upd H dx o4 := by
  funext b
  by_cases h1 : b = dx
  · subst h1
    rw [upd_same, upd_same]
  · rw [upd_ne h1, upd_ne h1]
    by_cases h2 : b = a
    · subst h2
      rw [del_same, na]
    · rw [del_ne h2, upd_ne h2, upd_ne h1, upd_ne h2]
/-- raise X(e), X's __init__ as spSup says -/
theorem mkO_sup {C : Addr} {fl : Str} {Rv : V → Hp → Prop} {σ : L2.St} {H : Hp} {Q : XK} {i : Nat} {v : V} (hv : σ[i]? = some (some v)) (hR : ∀ H', Rv v H') (q : ∀ d, H d = none → Q (.ref C) (some d) (upd H d (.xd [(fl, v)]))) : tMkO C (spSup C fl Rv) [] (tCons (tVar i) tNil) σ H Q := by
  refine ⟨v, hv, by show 1 ≤ 1000; decide, fun a na => ⟨a, v, rfl, upd_same, hR _, fun dx ndx hda => ⟨rfl, dx, [(fl, v)], upd_same, ?_, ?_, ?_⟩⟩⟩
  · rw [upd_ne hda, upd_same]
  · rw [upd_ne hda] at ndx
    exact ndx
  · rw [mk_heap na hda]
    rw [upd_ne hda] at ndx
    exact q dx ndx
section
variable {P : Program} {w : World} {K : PySem.W.Frag} {mg : Str → Option Value} {base : Heap}
theorem Dcs.rank (Dc : Dcs K w mg) {k : Str} (h : k = "in" ∨ k = "gate" ∨ k = "reg" ∨ k = "out") : KDct K w Dc.a_RANKS k (.int (rankT k)) := by
  rcases h with rfl | rfl | rfl | rfl
  · exact Dc.d_RANKS_in
  · exact Dc.d_RANKS_gate
  · exact Dc.d_RANKS_reg
  · exact Dc.d_RANKS_out
def spNetOf (C : Addr) : Sp := fun vs H Q E => ∃ text : Str, vs = [.str text] ∧ text.length ≤ 40000 ∧
  (∀ ts, readT text = .inr ts → ∀ (a : Addr) (qs : List (Addr × Th)) H', Evl.Ex H H' → H' a = some (.tup (vals qs)) → qs.map (·.2) = ts → (∀ p ∈ qs, RTh H' p) → Q (.ref a) H') ∧
  ∀ i : Nat, readT text = .inl i → ∀ (d : Addr) H', Evl.Ex H H' → H' d = some (.xd [(("row" : Str), .int (i : Int))]) → E (.ref C) (some d) H'
theorem ok_netOf (T : Env K mg) (Dc : Dcs K w mg) (N : NoN P K mg) : FnOk P w K mg base (L2.CX P w) 3 T.f_net_of T.fd_net_of ["text"] (spNetOf N.C) := by
  have GT : FnOk P w K mg base CX0 2 T.f_thing_of T.fd_thing_of ["row"] spThingOf := ok_thingOf T Dc
  have GI : FnOk P w K mg base CX0 1 N.fI N.fd ["self", "row"] (spSup N.C "row" RowI) := ok_init N
  refine T.F_net_of.okX scNetOf (fun vs H Q E h => ?_) (fun cdv A outer s H vs Q E hr h => ?_)
  · obtain ⟨t, rfl, _⟩ := h
    rfl
  · obtain ⟨text, rfl, htl, q, qe⟩ := h
    refine ⟨_, pss_cons (ps_if (pt_cmpR op_eq (pv 0) pe_str (nomark _)) (pss_one (ps_ret (pe_tup pa_nil))) pss_nil)
      (pss_cons (ps_set (i := 1) scNetOf.nd rfl (.inl rfl) (pe_lst pa_nil))
      (pss_cons (ps_set (i := 2) scNetOf.nd rfl (.inl rfl) pe_int)
      (pss_cons (ps_for (passes_of rfl) rfl (pi_enum (by rfl) T.n_enumerate (pa_cons (pe_split (pv 0) pe_str) pa_nil)) (pg_tup rfl (pgs_cons (pg_name (i := 3) scNetOf.nd rfl (.inl rfl)) (pgs_cons (pg_name (i := 4) scNetOf.nd rfl (.inl rfl)) pgs_nil)))
        (pss_cons (ps_set (i := 5) scNetOf.nd rfl (.inl rfl) (pe_call GT hr (by rfl) T.g_thing_of T.F_thing_of.kp T.b_thing_of .nil pass0 (pa_cons (pv 4) pa_nil)))
        (pss_cons (ps_if (PW.pt (pw_or (pt_cmpR op_isN (pv 5) pe_non (nomark _)) (pw_or1 (pt_cmpR op_lt (pe_ix ix_kdict (pe_glob (v := .ref Dc.a_RANKS) (by rfl) Dc.g_RANKS rfl) (pe_ix ix_tup (pv 5) pe_int (fun _ _ => rfl)) (fun _ _ => rfl)) (pv 2) (nomark _)))))
          (pss_one (ps_raise rfl (takes_of rfl rfl rfl rfl) (pmk_oex N.sup.oex N.iC N.tI GI hr (b_init N) .nil pass0 (by rfl) N.gC (pa_cons (pv 3) pa_nil)))) pss_nil)
        (pss_cons (ps_set (i := 2) scNetOf.nd rfl (.inl rfl) (pe_ix ix_kdict (pe_glob (v := .ref Dc.a_RANKS) (by rfl) Dc.g_RANKS rfl) (pe_ix ix_tup (pv 5) pe_int (fun _ _ => rfl)) (fun _ _ => rfl)))
        (pss_one (ps_expr (pe_bm PySem.F.plainAttrs_list PySem.F.slot_list_append PySem.F.type_list_append mt_append (pv 1) (pa_cons (pv 5) pa_nil))))))))
      (pss_one (ps_ret (pe_callTy call_tuple_of (by rfl) T.n_tuple (by decide +kernel) (pa_cons (pv 1) pa_nil))))))), ?_⟩
    refine ⟨.str text, rfl, rfl, _, rfl, ite2 (fun e => ?_) (fun e => ?_)⟩
    · have e1 : text = "" := V.str.inj (of_decide_eq_true e)
      exact ⟨by show 0 ≤ sizeLine; decide, fun a na => q [] (if_pos e1) a [] _ (Evl.Ex.new na) upd_same rfl (fun p hp => by simp at hp)⟩
    · have hne : text ≠ "" := fun z => by
        rw [z] at e
        exact absurd (by decide) e
      have hrt : readT text = readL (rowsT text) 0 0 [] := if_neg hne
      rw [hrt] at q qe
      have hss := split_size text "\n" rfl
      have hrows : rowsT text = (Txt.split text "\n").map fun r => thOf (Txt.split r " ") := rfl
      refine ⟨by show 0 ≤ sizeLine; decide, fun D nD => ?_⟩
      refine ⟨.str text, rfl, ⟨_, rfl⟩, text, "\n", rfl, rfl, rfl, sz (by omega), fun pr npr => ?_⟩
      generalize hls : Txt.split text "\n" = ls at *
      generalize hH1 : upd (upd H D (HO.lst [])) pr _ = H1
      have hpr : H1 pr = some (.lst (ls.map V.str)) := by rw [← hH1]; exact upd_same
      have xD : Evl.Ex (upd H D (.lst [])) H1 := hH1 ▸ Evl.Ex.new npr
      have hD1 : H1 D = some (.lst []) := xD _ _ upd_same
      have x1 : Evl.Ex H H1 := (Evl.Ex.new nD).trans xD
      have npD : pr ≠ D := (ne_of_none upd_same npr).symm
      refine ⟨pr, _, rfl, .inl (.inl hpr), ?_⟩
      refine for_enum (K := K) (a := pr) (xs := ls.map V.str) (j := 3) (k := 4) (fun i σ' H' => ∃ (qs : List (Addr × Th)) (rk : Int) (y3 y4 y5 : Option V), σ' = [some (.str text), some (.ref D), some (.int rk), y3, y4, y5] ∧ Evl.Ex H H' ∧ H' pr = some (.lst (ls.map V.str)) ∧ H' D = some (.lst (vals qs)) ∧ qs.length = i ∧ readL (rowsT text) 0 0 [] = readL ((rowsT text).drop i) i rk (qs.map (·.2)) ∧ (∀ p ∈ qs, RTh H' p))
        ⟨[], 0, none, none, none, rfl, x1, hpr, hD1, rfl, rfl, fun p hp => by simp at hp⟩ (fun i σ' H' p => ?_) (fun i x Tp σ' H' hx p nT => ?_) (fun σ' H' p => ?_)
      · obtain ⟨qs, rk, y3, y4, y5, rfl, ex, h1, _⟩ := p
        exact .inl (.inl h1)
      · obtain ⟨qs, rk, y3, y4, y5, rfl, ex, h1, h2, hql, h3, h4⟩ := p
        rw [List.getElem?_map] at hx
        obtain ⟨row, hrow, rfl⟩ := Option.map_eq_some_iff.mp hx
        have hi := (List.getElem?_eq_some_iff.mp hrow).1
        have hrl := sum_mem (List.mem_of_getElem? hrow)
        have hdr : (rowsT text).drop i = thOf (Txt.split row " ") :: (rowsT text).drop (i + 1) := by
          rw [hrows, ← List.map_drop, ← List.map_drop, List.drop_eq_getElem_cons hi, List.map_cons, (List.getElem?_eq_some_iff.mp hrow).2]
        rw [hdr] at h3
        generalize hHa : upd H' Tp _ = Ha
        have xa : Evl.Ex H' Ha := hHa ▸ Evl.Ex.new nT
        have rz : readL (rowsT text) 0 0 [] = .inl i → ∀ Hb, Evl.Ex Ha Hb → ∀ (d : Addr), Hb d = none → E (.ref N.C) (some d) (upd Hb d (.xd [(("row" : Str), .int (i : Int))])) := fun hb Hb xb d nd => qe i hb d _ (((ex.trans xa).trans xb).trans (Evl.Ex.new nd)) upd_same
        have hri : ∀ H', RowI (.int (i : Int)) H' := fun _ => ⟨i, rfl, by omega⟩
        refine ⟨_, rfl, row, rfl, by omega, fun v Hb xb tv => ?_⟩
        cases hth : thOf (Txt.split row " ") with
        | none =>
          rw [hth] at tv h3
          obtain rfl : v = .non := tv
          refine ⟨.non, rfl, rfl, true, rfl, ?_⟩
          exact mkO_sup rfl hri (rz h3 Hb xb)
        | some t =>
          rw [hth] at tv h3
          obtain ⟨a, rfl, rt⟩ := tv
          have rt0 := rt
          obtain ⟨q0, r1, r2⟩ := rt
          have hrkt := Dc.rank (thOf_kind hth)
          refine ⟨.ref a, rfl, rfl, false, rfl, ?_⟩
          refine ⟨.ref a, rfl, a, _, 0, .str t.kind, rfl, rfl, .inl (.inl r1), rfl, Dc.a_RANKS, t.kind, _, rfl, rfl, hrkt, _, rfl, _, _, rfl, rfl, decide (rankT t.kind < rk), rfl, ?_⟩
          by_cases hlt : rankT t.kind < rk
          · rw [decide_eq_true hlt]
            refine mkO_sup rfl hri (rz (h3.trans (if_pos hlt)) Hb xb)
          · rw [decide_eq_false hlt]
            have h3 := h3.trans (if_neg hlt)
            refine ⟨.ref a, rfl, a, _, 0, .str t.kind, rfl, rfl, .inl (.inl r1), rfl, Dc.a_RANKS, t.kind, _, rfl, rfl, hrkt, ?_⟩
            have xab := xa.trans xb
            have hDb := xab _ _ h2
            refine ⟨.ref D, rfl, .inl ⟨rfl, _, .inl (.inl hDb)⟩, .ref a, rfl, D, _, _, rfl, rfl, hDb, by rw [vals_length]; exact Evl.sz_lt (by omega), ?_⟩
            have tk : TK Hb (upd Hb D (.lst (vals qs ++ [.ref a]))) := TK.lst (fun _ _ h => h) hDb
            refine ⟨qs ++ [(a, t)], rankT t.kind, some (.int (i : Int)), some (.str row), some (.ref a), rfl, Evl.Ex.mut (ex.trans xab) nD, by rw [upd_ne npD]; exact xab _ _ h1, by rw [upd_same, vals_snoc], by rw [List.length_append, hql]; rfl, by rw [h3, List.map_append]; rfl, fun p hp => ?_⟩
            rcases List.mem_append.mp hp with hp | hp
            · exact ((h4 p hp).ex xab).mono tk
            · rw [List.mem_singleton.mp hp]
              exact rt0.mono tk
      · obtain ⟨qs, rk, y3, y4, y5, rfl, ex, h1, h2, hql, h3, h4⟩ := p
        rw [List.length_map] at hql h3
        rw [List.drop_of_length_le (by rw [hrows, List.length_map]; exact Nat.le_refl _)] at h3
        refine ⟨.ref D, rfl, D, _, rfl, .inl ⟨.inl (.inl h2), fun l nl => ?_⟩⟩
        exact q _ h3 l qs _ (ex.trans (Evl.Ex.new nl)) upd_same rfl fun p hp => (h4 p hp).ex (Evl.Ex.new nl)
end
end Tl

namespace Tl
open PySem PySem.Spec PyProof.Rows L2
def OutV (H : Hp) (v : V) : Nat ⊕ List Th → Prop
  | .inl i => v = .int (i : Int)
  | .inr ts => ∃ (a : Addr) (qs : List (Addr × Th)), v = .ref a ∧ H a = some (.tup (vals qs)) ∧ qs.map (·.2) = ts ∧ ∀ p ∈ qs, RTh H p
abbrev sTold : Stmt := topS 26
abbrev nTold : List Str := ["_law_text", "_law_found", "e"]
theorem scTold : FnScope nTold ["_law_text"] (defScope sTold) := ⟨rfl, rfl, rfl, by decide +kernel, rfl, by decide +kernel, by decide +kernel⟩
section
variable {P : Program} {w : World} {K : PySem.W.Frag} {mg : Str → Option Value} {base : Heap}
def spTold : Sp := fun vs H Q _ => ∃ text : Str, vs = [.str text] ∧ text.length ≤ 40000 ∧ ∀ v H', Evl.Ex H H' → OutV H' v (readT text) → Q v H'
theorem ok_told (T : Env K mg) (Dc : Dcs K w mg) (N : NoN P K mg) : FnOk P w K mg base CX0 4 T.f__law_told T.fd__law_told ["_law_text"] spTold := by
  have GO : FnOk P w K mg base (L2.CX P w) 3 T.f_net_of T.fd_net_of ["text"] (spNetOf N.C) := ok_netOf T Dc N
  refine T.F__law_told.ok scTold (fun vs H Q E h => ?_) (fun cdv A outer s H vs Q E hr h => ?_)
  · obtain ⟨t, rfl, _⟩ := h
    rfl
  · obtain ⟨text, rfl, htl, q⟩ := h
    refine ⟨_, pss_cons (ps_set (i := 1) scTold.nd rfl (.inl rfl) pe_non)
      (pss_cons (ps_try_as (i := 2) (tb := fun W => tAsg (tCallS (spNetOf N.C) (WE W) (tCons (tVar 0) tNil)) (gName 1)) (ts := fun a cls d => tAsg (tXf a cls d N.C "row" (tVar 2)) (gName 1)) (Wout := fun _ _ _ _ => False) rfl rfl scTold.nd rfl rfl ⟨rfl, by decide, Or.inl N.gC⟩ takes0
        (fun W pn xe tk _ => pss_one (ps_set (i := 1) scTold.nd rfl (Or.inl rfl) (by exact (pe_callS GO hr rfl T.g_net_of T.F_net_of.kp T.b_net_of (fun σ => passAt tk σ) (by exact (pa_cons (pv 0) pa_nil))))))
        (fun a oe cls d pn hz hf => pss_one (ps_set (i := 1) scTold.nd rfl (Or.inl rfl) (by exact (pe_xf N.xf N.sup.nof hz hf (pv 2))))))
      (pss_one (ps_ret (pv 1)))), ?_⟩
    refine ⟨.str text, rfl, text, rfl, htl, fun ts hts a qs H' ex ha hq hr => ?_, fun i hi d H' ex hd => ?_⟩
    · exact ⟨.ref a, rfl, q _ _ ex (by rw [hts]; exact ⟨a, qs, rfl, ha, hq, hr⟩)⟩
    · refine ⟨true, N.te, fun _ a na => ?_, fun z => Bool.noConfusion z⟩
      refine ⟨.ref a, rfl, rfl, rfl, d, _, .int (i : Int), rfl, hd, ?_, ?_⟩
      · show List.lookup ("row" : Str) [(("row" : Str), V.int (i : Int))] = some (.int (i : Int))
        simp [List.lookup]
      · exact ⟨.int (i : Int), rfl, q _ _ ex (by rw [hi]; rfl)⟩
end
end Tl

namespace Tl
open PySem PySem.Spec PyProof.Rows L2
section
variable {X : Cx}
def repS (z : Str) (n : Nat) : Str := ⟨(List.replicate n z.cps).foldl (· ++ ·) #[]⟩
theorem foldl_cps (a : Array Nat) : ∀ (n : Nat) (acc : Array Nat), ((List.replicate n a).foldl (· ++ ·) acc).toList = acc.toList ++ (List.replicate n a.toList).flatten
  | 0, acc => by simp
  | n + 1, acc => by
    rw [List.replicate_succ, List.foldl_cons, foldl_cps a n, List.replicate_succ, List.flatten_cons]
    simp
theorem repS_list (z : Str) (n : Nat) : (repS z n).cps.toList = (List.replicate n z.cps.toList).flatten := by
  unfold repS
  rw [foldl_cps]
  rfl
def rMulT : R2 := fun x y H Q => ∃ (z : Str) (n : Nat), x = .str z ∧ y = .int (n : Int) ∧ z.length ≤ 60000 ∧ n ≤ 3 ∧ Q (.str (repS z n)) H
theorem rep_len (z : Str) (n : Nat) : (repS z n).length = n * z.length := by
  have e : (repS z n).length = (repS z n).cps.toList.length := by simp [Str.length]
  rw [e, repS_list, List.length_flatten, List.map_replicate, List.sum_replicate_nat]
  simp [Str.length]
theorem rep_one (z : Str) : repS z 1 = z := Str.ext' (Array.toList_inj.mp (by rw [repS_list]; simp))
theorem rep_zero (z : Str) : repS z 0 = "" := Str.ext' (Array.toList_inj.mp (by rw [repS_list]; rfl))
theorem rep_none {z : Str} (n : Nat) (h : z.length = 0) : repS z n = z := Str.ext' (Array.toList_inj.mp (by
  have e : z.cps.toList = [] := List.eq_nil_of_length_eq_zero (by rw [← h]; simp [Str.length])
  rw [repS_list, e]
  simp))
theorem op_mulT : OpR X (binaryOp .Mult) rMulT := by
  intro pins s σ H x y v u Q I rx ry h
  obtain ⟨z, n, rfl, rfl, hz, hn, q⟩ := h
  obtain ⟨t, rfl⟩ := rx
  obtain ⟨tu, rfl⟩ := ry
  have hs : (200000 : Nat) ≤ sizeLine := by decide
  have hm : z.length * n ≤ 60000 * 3 := Nat.mul_le_mul hz hn
  have hlen := rep_len z n
  rw [Nat.mul_comm] at hlen
  refine P.mul_str ?_ (fun h1 h2 => ?_) (fun h1 h2 => ?_) ?_
  · rw [decide_eq_false (by omega), decide_eq_false (by omega)]; rfl
  · have : (z.length : Int) ≤ (2 ^ 63 - 1) / (n : Int) := by
      refine (Int.le_ediv_iff_mul_le (by omega)).mpr ?_
      have : ((z.length * n : Nat) : Int) ≤ 60000 * 3 := by omega
      rw [Int.natCast_mul] at this
      omega
    omega
  · rw [Int.toNat_natCast]
    unfold Builtin.Str.tooLong
    exact decide_eq_false (by have : sizeLine ≤ 10000000000000 := by decide
                              omega)
  · by_cases h1 : (n : Int) < 1
    · rw [if_pos h1]
      have e0 : n = 0 := by omega
      subst e0
      exact ⟨by decide, .str _, H, I.tok _, ⟨_, rfl⟩, q⟩
    · rw [if_neg h1]
      by_cases h2 : ((n : Int) == 1 || z.length == 0) = true
      · rw [if_pos h2]
        have e2 : repS z n = z := by
          rw [Bool.or_eq_true, beq_iff_eq, beq_iff_eq] at h2
          rcases h2 with h2 | h2
          · have : n = 1 := by omega
            subst this
            exact rep_one z
          · exact rep_none n h2
        rw [e2] at q
        exact ⟨.str z, H, I, ⟨t, rfl⟩, q⟩
      · rw [if_neg h2, Int.toNat_natCast]
        refine ⟨?_, .str _, H, I.tok _, ⟨_, rfl⟩, q⟩
        show (repS z n).length ≤ sizeLine
        omega
end
def rLen (K : PySem.W.Frag) : List V → Hp → VK → Prop := fun vs H Q => ∃ (a : Addr) (zs : List V), vs = [.ref a] ∧ (SqL K H a zs ∨ SqT K H a zs) ∧ Q (.int zs.length) H
theorem cr_len {X : Cx} : CallR X (.builtin "len") (rLen X.K) := call_len_seq
def rTupOf (K : PySem.W.Frag) : List V → Hp → VK → Prop := fun vs H Q => ∃ (a : Addr) (zs : List V), vs = [.ref a] ∧ ((SqL K H a zs ∧ ∀ l, H l = none → Q (.ref l) (upd H l (.tup zs))) ∨ (SqT K H a zs ∧ Q (.ref a) H))
theorem cr_tupOf {X : Cx} : CallR X (.type "tuple") (rTupOf X.K) := call_tuple_of
end Tl

namespace Tl
open PySem PySem.Spec PyProof.Rows L2
abbrev sNamed : Stmt := topS 22
abbrev nNamed : List Str := ["_law_word", "_law_sign"]
theorem scNamed : FnScope nNamed ["_law_word"] (defScope sNamed) := ⟨rfl, rfl, rfl, by decide +kernel, rfl, by decide +kernel, by decide +kernel⟩
abbrev sLThing : Stmt := topS 23
abbrev nLThing : List Str := ["_law_line", "_law_words", "_law_kind", "_law_cells", "_law_table", "_law_reads", "_law_few", "_law_most", "_law_sign", "_law_word"]
theorem scLThing : FnScope nLThing ["_law_line"] (defScope sLThing) := ⟨rfl, rfl, rfl, by decide +kernel, rfl, by decide +kernel, by decide +kernel⟩
section
variable {P : Program} {w : World} {K : PySem.W.Frag} {mg : Str → Option Value} {base : Heap}
theorem ok_named {k : Nat} (T : Env K mg) : FnOk P w K mg base CX0 (k + 1) T.f__law_named T.fd__law_named ["_law_word"] spIsName := by
  refine T.F__law_named.ok scNamed (fun vs H Q E h => ?_) (fun cdv A outer s H vs Q E hr h => ?_)
  · obtain ⟨z, rfl, _⟩ := h
    rfl
  · obtain ⟨z, rfl, hz, q⟩ := h
    refine ⟨_, pss_one (ps_ret (pe_and (pe_chain op_le op_le pe_int (pe_callB call_len_str (by rfl) T.n_len PySem.boot_len (pa_cons (pv 0) pa_nil)) pe_int) (pe_one (pe_callB (cr_all rfl) (by rfl) T.n_all (by decide +kernel) (pa_cons (pe_lc (own := [("_law_sign", 1)]) (g := (gName 1)) (tt := tYes) (te := (tOp (fun x y H Q => ∃ (c : Nat) (z : Str), x = .str ⟨#[c]⟩ ∧ y = .str z ∧ Q (.bl (decide (c ∈ z.cps.toList))) H) (tVar 1) (tC (.str "abcdefghijklmnopqrstuvwxyz")))) rfl scNamed.nd (pi_str (pv 0)) (blkOk_by (N := nNamed) (sc := defScope sNamed) (by decide +kernel)) (fun _ _ _ _ _ => (pg_name (i := 1) scNamed.nd rfl (.inl rfl))) (fun _ _ _ _ _ => pts_nil) (fun _ _ _ _ _ => (pe_cmpR op_in_sign (pv 1) pe_str (by rfl)))) pa_nil))))), ?_⟩
    refine ⟨.str z, rfl, z, rfl, sz (by omega), 1, _, rfl, rfl, _, rfl, ite2 (fun e1 => ?_) (fun e1 => ?_)⟩
    · refine ⟨_, 8, rfl, rfl, _, rfl, ite2 (fun e2 => ?_) (fun e2 => ?_)⟩
      · refine ⟨.str z, rfl, z, rfl, fun D nD => ?_⟩
        refine lc_str (z := z) (f := fun c => decide (c ∈ abc.cps.toList)) (j := 1) hz nD (fun _ => rfl) (fun c H' ex Q' q' => ⟨_, rfl, c, abc, rfl, rfl, q' _ (Evl.Ex.refl _)⟩) (fun H' ex hD => ?_)
        refine ⟨D, _, rfl, .inl (.inl hD), ?_⟩
        have hq := q H' ex
        unfold nameB at hq
        rw [e1, e2, Bool.true_and, Bool.true_and] at hq
        exact hq
      · have hq := q H (Evl.Ex.refl _)
        unfold nameB at hq
        rw [e1, Bool.eq_false_iff.mpr e2] at hq
        exact hq
    · refine ⟨false, rfl, ?_⟩
      have hq := q H (Evl.Ex.refl _)
      unfold nameB at hq
      rw [Bool.eq_false_iff.mpr e1] at hq
      exact hq
abbrev fours : List Str := ["in", "gate", "reg", "out"]
theorem in_four (k : Str) : inV (.str k) [.str "in", .str "gate", .str "reg", .str "out"] = decide (k ∈ fours) := in_strs k fours
theorem pins_none {k : Str} (h : k ∉ fours) : pinsK k = [] := by
  unfold pinsK
  have h1 : k ≠ "in" := fun e => h (by rw [e]; decide)
  have h2 : k ≠ "gate" := fun e => h (by rw [e]; decide)
  have h3 : k ≠ "reg" := fun e => h (by rw [e]; decide)
  have h4 : k ≠ "out" := fun e => h (by rw [e]; decide)
  rw [if_neg h1, if_neg h2, if_neg h3, if_neg h4]
theorem thB_four {ws : List Str} (h : kdW ws ∉ fours) : thB ws = false := by
  unfold thB
  rw [pins_none h]
  simp
theorem pins_pos {k : Str} {i : Int} (h : i ∈ pinsK k) : 0 ≤ i := by
  revert h
  unfold pinsK
  split
  · simp; omega
  · split
    · simp; omega
    · split
      · simp; omega
      · split
        · simp; omega
        · simp
theorem thB_short {ws : List Str} (h : ws.length < 2) : thB ws = false := by
  have hn : (namesW ws).length = 0 := by
    unfold namesW
    split
    · rw [List.length_append, List.length_take, List.length_drop, List.length_drop]; omega
    · rw [List.length_drop]; omega
  unfold thB
  rw [hn, decide_eq_false (fun z => by have := pins_pos z; omega)]
  simp
def fewK (k : Str) : Int := if k = "reg" then 1 else if k = "out" then 1 else 0
def mostK (k : Str) : Int := if k = "in" then 0 else if k = "gate" then 3 else 1
theorem pins_iff {k : Str} (h : k ∈ fours) (n : Nat) : (decide (fewK k ≤ (n : Int)) && decide ((n : Int) ≤ mostK k)) = decide ((n : Int) ∈ pinsK k) := by
  have h4 : k = "in" ∨ k = "gate" ∨ k = "reg" ∨ k = "out" := by simpa using h
  rw [← Bool.decide_and]
  refine decide_eq_decide.mpr ?_
  rcases h4 with rfl | rfl | rfl | rfl
  · show ((0 : Int) ≤ n ∧ (n : Int) ≤ 0) ↔ (n : Int) ∈ [(0 : Int)]
    simp <;> omega
  · show ((0 : Int) ≤ n ∧ (n : Int) ≤ 3) ↔ (n : Int) ∈ [(0 : Int), 1, 2, 3]
    simp <;> omega
  · show ((1 : Int) ≤ n ∧ (n : Int) ≤ 1) ↔ (n : Int) ∈ [(1 : Int)]
    simp <;> omega
  · show ((1 : Int) ≤ n ∧ (n : Int) ≤ 1) ↔ (n : Int) ∈ [(1 : Int)]
    simp <;> omega
theorem ok_lthing {k : Nat} (T : Env K mg) : FnOk P w K mg base CX0 (k + 2) T.f__law_thing T.fd__law_thing ["_law_line"] spThingOf := by
  refine T.F__law_thing.ok scLThing (fun vs H Q E h => ?_) (fun cdv A outer s H vs Q E hr h => ?_)
  · obtain ⟨z, rfl, _⟩ := h
    rfl
  · obtain ⟨row, rfl, hrl, q⟩ := h
    have hu := hu_of hr
    refine ⟨_, pss_cons (ps_set (i := 1) scLThing.nd rfl (.inl rfl) (pe_split (pv 0) pe_str))
      (pss_cons (ps_set (i := 2) scLThing.nd rfl (.inl rfl) (pe_ix (r := (rIxL K)) ix_list (pv 1) pe_int (fun _ _ => rfl)))
      (pss_cons (ps_if (PW.pt (pw_or (pt_cmpR op_notIn_seq (pv 2) (pe_tup (pa_cons pe_str (pa_cons pe_str (pa_cons pe_str (pa_cons pe_str pa_nil))))) (by rfl)) (pw_or1 (pt_cmpR op_lt (pe_callB (r := rLen K) cr_len (by rfl) T.n_len PySem.boot_len (pa_cons (pv 1) pa_nil)) pe_int (nomark _))))) (pss_one (ps_ret pe_non)) pss_nil)
      (pss_cons (ps_set (i := 3) scLThing.nd rfl (.inl rfl) (pe_cmpR op_in_seq (pv 2) (pe_tup (pa_cons pe_str (pa_cons pe_str pa_nil))) (by rfl)))
      (pss_cons (ps_set (i := 4) scLThing.nd rfl (.inl rfl) (pe_op op_mulT (pe_join pe_str (pe_slice (r := (rSlL K)) sl_list (pv 1) (po_some pe_int) (po_some pe_int))) (pe_callTy call_int1 (by rfl) T.n_int (by decide +kernel) (pa_cons (pv 3) pa_nil))))
      (pss_cons (ps_set (i := 5) scLThing.nd rfl (.inl rfl) (pe_slice (r := (rSlL K)) sl_list (pv 1) (po_some (pe_op op_add pe_int (pe_callTy call_int1 (by rfl) T.n_int (by decide +kernel) (pa_cons (pv 3) pa_nil)))) po_none))
      (Evl.pss_cut (ps_if (PW.pt (pw_and (pt_val (pv 3)) (pw_and1 (PW.pt (pw_or (pt_not (pt_chain op_le op_le pe_int (pe_callB call_len_str (by rfl) T.n_len PySem.boot_len (pa_cons (pv 4) pa_nil)) pe_int)) (pw_or1 (pt_not (pt_val (pe_callB (cr_all rfl) (by rfl) T.n_all (by decide +kernel) (pa_cons (pe_lc (own := [("_law_sign", 8)]) (g := (gName 8)) (tt := tYes) (te := (tOp (fun x y H Q => ∃ (c : Nat) (z : Str), x = .str ⟨#[c]⟩ ∧ y = .str z ∧ Q (.bl (decide (c ∈ z.cps.toList))) H) (tVar 8) (tC (.str "01")))) rfl scLThing.nd (pi_str (pv 4)) (blkOk_by (N := nLThing) (sc := defScope sLThing) (by decide +kernel)) (fun _ _ _ _ _ => (pg_name (i := 8) scLThing.nd rfl (.inl rfl))) (fun _ _ _ _ _ => pts_nil) (fun _ _ _ _ _ => (pe_cmpR op_in_sign (pv 8) pe_str (by rfl)))) pa_nil)))))))))) (pss_one (ps_ret pe_non)) pss_nil)
      (pss_cons (ps_if (pt_not (pt_val (pe_callB (cr_all rfl) (by rfl) T.n_all (by decide +kernel) (pa_cons (pe_lc (own := [("_law_word", 9)]) (g := (gName 9)) (tt := tYes) (te := (tCall spIsName [] E0 (tCons (tVar 9) tNil))) rfl scLThing.nd (pi_list (pe_op op_cat (pe_lst (pa_cons (pe_ix (r := (rIxL K)) ix_list (pv 1) pe_int (fun _ _ => rfl)) pa_nil)) (pv 5))) (blkOk_by (N := nLThing) (sc := defScope sLThing) (by decide +kernel)) (fun _ _ _ _ _ => (pg_name (i := 9) scLThing.nd rfl (.inl rfl))) (fun _ _ _ _ _ => pts_nil) (fun _ _ _ _ _ => (pe_call (ok_named T) hr (by rfl) T.g__law_named T.F__law_named.kp T.b__law_named .nil pass0 (pa_cons (pv 9) pa_nil)))) pa_nil)))) (pss_one (ps_ret pe_non)) pss_nil)
      (pss_cons (ps_asg (pe_dget hu (pe_disp (pps_cons pe_str (pe_tup (pa_cons pe_int (pa_cons pe_int pa_nil))) (pps_cons pe_str (pe_tup (pa_cons pe_int (pa_cons pe_int pa_nil))) (pps_cons pe_str (pe_tup (pa_cons pe_int (pa_cons pe_int pa_nil))) (pps_cons pe_str (pe_tup (pa_cons pe_int (pa_cons pe_int pa_nil))) pps_nil)))) rfl rfl (by simp) (by decide)) (pv 2) (fun _ _ => rfl)) (pg_tup rfl (pgs_cons (pg_name (i := 6) scLThing.nd rfl (.inl rfl)) (pgs_cons (pg_name (i := 7) scLThing.nd rfl (.inl rfl)) pgs_nil))))
      (pss_one (ps_ret (pe_ix (r := (rIxL K)) ix_list (pe_lst (pa_cons pe_non (pa_cons (pe_tup (pa_cons (pv 2) (pa_cons (pe_ix (r := (rIxL K)) ix_list (pv 1) pe_int (fun _ _ => rfl)) (pa_cons (pv 4) (pa_cons (pe_callTy (r := rTupOf K) cr_tupOf (by rfl) T.n_tuple (by decide +kernel) (pa_cons (pv 5) pa_nil)) pa_nil))))) pa_nil))) (pe_callTy call_int1 (by rfl) T.n_int (by decide +kernel) (pa_cons (pe_chain op_le op_le (pv 6) (pe_callB (r := rLen K) cr_len (by rfl) T.n_len PySem.boot_len (pa_cons (pv 5) pa_nil)) (pv 7)) pa_nil)) (fun _ _ => rfl)))))))))))), ?_⟩
    refine ⟨.str row, rfl, ⟨_, rfl⟩, row, " ", rfl, rfl, rfl, sz (by omega), fun pw npw => ?_⟩
    have hss := split_size row " " rfl
    have hne := split_ne row " "
    generalize hws : Txt.split row " " = ws at *
    generalize hH1 : upd H pw _ = H1
    have hpw : H1 pw = some (.lst (ws.map V.str)) := by rw [← hH1]; exact upd_same
    have x1 : Evl.Ex H H1 := hH1 ▸ Evl.Ex.new npw
    refine ⟨.ref pw, rfl, pw, _, 0, .str (kdW ws), rfl, rfl, .inl (.inl hpw), atI_nat (j := 0) (hd_at hne), ?_⟩
    have no : thB ws = false → ∀ H9, Evl.Ex H H9 → Q .non H9 := fun hb H9 x9 => q _ _ x9 (by rw [thOf_no hb]; rfl)
    refine ⟨.str (kdW ws), rfl, by show 4 ≤ sizeLine; decide, fun pt npt => ⟨pt, _, rfl, .inr (.inl (.inl upd_same)), rfl, rfl, !decide (kdW ws ∈ fours), congrArg (fun b => V.bl (!b)) (in_four _), ?_⟩⟩
    generalize hH2 : upd H1 pt _ = H2
    have x2 : Evl.Ex H H2 := x1.trans (hH2 ▸ Evl.Ex.new npt)
    have hpw2 : H2 pw = some (.lst (ws.map V.str)) := (hH2 ▸ Evl.Ex.new npt : Evl.Ex H1 H2) _ _ hpw
    by_cases h4 : kdW ws ∈ fours
    case neg =>
      rw [decide_eq_false h4]
      exact no (thB_four h4) _ x2
    rw [decide_eq_true h4]
    refine ⟨.ref pw, rfl, pw, _, rfl, .inl (.inl (.inl hpw2)), _, 2, rfl, rfl, decide (ws.length < 2), ?_, ?_⟩
    · show V.bl (decide (((ws.map V.str).length : Int) < 2)) = _
      rw [List.length_map]
      congr 1
      exact decide_eq_decide.mpr (by omega)
    by_cases h2 : ws.length < 2
    · rw [decide_eq_true h2]
      exact no (thB_short h2) _ x2
    rw [decide_eq_false h2]
    obtain ⟨nm, r, hwe⟩ : ∃ nm r, ws = kdW ws :: nm :: r := by
      match ws, h2 with
      | a :: b :: r, _ => exact ⟨b, r, rfl⟩
      | [a], h => exact absurd (by show 1 < 2; decide) h
      | [], h => exact absurd (by show 0 < 2; decide) h
    refine ⟨.str (kdW ws), rfl, by show 2 ≤ sizeLine; decide, fun pt2 npt2 => ⟨pt2, _, rfl, .inr (.inl (.inl upd_same)), rfl, rfl, ?_⟩⟩
    rw [in_two, show (if false = true then !cellB (kdW ws) else cellB (kdW ws)) = cellB (kdW ws) from rfl]
    generalize hH3 : upd H2 pt2 _ = H3
    have x23 : Evl.Ex H2 H3 := hH3 ▸ Evl.Ex.new npt2
    have hpw3 := x23 _ _ hpw2
    refine ⟨⟨_, rfl⟩, .ref pw, rfl, 2, rfl, 3, rfl, pw, _, rfl, .inl (.inl hpw3), fun pb npb => ?_⟩
    generalize hH4 : upd H3 pb _ = H4
    have x34 : Evl.Ex H3 H4 := hH4 ▸ Evl.Ex.new npb
    have hpb : H4 pb = some (.lst (((ws.drop 2).take 1).map V.str)) := by
      rw [← hH4, upd_same, show cutV (ws.map V.str) (some 2) (some 3) = ((ws.drop 2).take (3 - 2)).map V.str from cut_nat V.str ws 2 3]
    have hsb : sumL ((ws.drop 2).take 1) ≤ sumL ws := sum_sub ((List.take_sublist 1 _).trans (List.drop_sublist 2 ws))
    have e0 : (("" : Str).length) = 0 := rfl
    have hjl := join_len "" ((ws.drop 2).take 1)
    rw [e0] at hjl
    refine ⟨"", pb, (ws.drop 2).take 1, rfl, rfl, .inl (.inl (.inl hpb)), ?_, ?_⟩
    · rw [e0]
      unfold sumL at hsb hss
      omega
    have hT : repS (Txt.join "" ((ws.drop 2).take 1)) (if cellB (kdW ws) = true then 1 else 0) = bitsW ws := by
      unfold bitsW
      split
      · exact rep_one _
      · exact rep_zero _
    have hiN : V.int (if cellB (kdW ws) = true then 1 else 0) = V.int ((if cellB (kdW ws) = true then 1 else 0 : Nat) : Int) := by
      cases cellB (kdW ws) <;> rfl
    refine ⟨.bl (cellB (kdW ws)), rfl, .inr ⟨_, rfl, _, if cellB (kdW ws) = true then 1 else 0, rfl, hiN, ?_, by split <;> decide, ?_⟩⟩
    · unfold sumL at hsb hss
      omega
    rw [hT]
    have hpw4 := x34 _ _ hpw3
    refine ⟨.ref pw, rfl, .bl (cellB (kdW ws)), rfl, .inr ⟨_, rfl, 2, _, rfl, rfl, _, rfl, pw, _, rfl, .inl (.inl hpw4), fun pr npr => ?_⟩⟩
    generalize hH5 : upd H4 pr _ = H5
    have x45 : Evl.Ex H4 H5 := hH5 ▸ Evl.Ex.new npr
    have hnW : namesW ws = nm :: (if cellB (kdW ws) = true then r.drop 1 else r) := by
      unfold namesW
      rw [hwe]
      split <;> rfl
    generalize hrd : (if cellB (kdW ws) = true then r.drop 1 else r) = rd at hnW
    have hpr : H5 pr = some (.lst (rd.map V.str)) := by
      rw [← hH5, upd_same, ← hrd]
      congr 2
      cases hc : cellB (kdW ws)
      · refine (cut_lo V.str ws 2).trans ?_
        rw [hwe]
        rfl
      · refine (cut_lo V.str ws 3).trans ?_
        rw [hwe]
        rfl
    have x5 : Evl.Ex H H5 := ((x2.trans x23).trans x34).trans x45
    have hpw5 := x45 _ _ hpw4
    have hbl : (bitsW ws).length ≤ 40001 := by
      rw [← hT, rep_len]
      unfold sumL at hsb hss
      split <;> omega
    have hnl := (names_sub ws).length_le
    have hmz : ∀ z ∈ namesW ws, z.length ≤ 40001 := fun z hz => by
      have := sum_mem (List.Sublist.mem hz (names_sub ws))
      omega
    rw [hnW, List.length_cons] at hnl
    refine ⟨fun σ' H' => σ' = [some (.str row), some (.ref pw), some (.str (kdW ws)), some (.bl (cellB (kdW ws))), some (.str (bitsW ws)), some (.ref pr), none, none, none, none] ∧ Evl.Ex H5 H' ∧ (!cellB (kdW ws) || tabB (bitsW ws)) = true, ?_, ?_⟩
    · refine ⟨_, rfl, cellB (kdW ws), rfl, ?_⟩
      cases hc : cellB (kdW ws)
      · exact ⟨rfl, Evl.Ex.refl _, rfl⟩
      · have bad : tabB (bitsW ws) = false → ∀ H9, Evl.Ex H5 H9 → Q .non H9 := fun hb H9 x9 => no (by unfold thB; rw [hc, hb]; rfl) _ (x5.trans x9)
        refine ite2 (fun _ => ?_) (fun z => absurd rfl z)
        refine ⟨.str (bitsW ws), rfl, bitsW ws, rfl, sz (by omega), 1, _, rfl, rfl, _, rfl, ?_⟩
        refine ite2 (fun g1 => ?_) (fun g1 => ?_)
        · by_cases g2 : ((bitsW ws).length : Int) ≤ 8
          · refine ⟨_, 8, rfl, rfl, true, congrArg V.bl (decide_eq_true g2), ?_⟩
            refine ⟨.str (bitsW ws), rfl, bitsW ws, rfl, fun D nD => ?_⟩
            refine lc_str (z := bitsW ws) (f := fun c => decide (c ∈ ("01" : Str).cps.toList)) (j := 8) (by omega) nD (fun _ => rfl) (fun c H' ex Q' q' => ⟨_, rfl, c, "01", rfl, rfl, q' _ (Evl.Ex.refl _)⟩) (fun H' ex hD => ?_)
            refine ⟨D, _, rfl, .inl (.inl hD), bitsB (bitsW ws), rfl, ?_⟩
            cases hbb : bitsB (bitsW ws)
            · exact bad (by unfold tabB; rw [hbb, Bool.and_false]) H' ex
            · exact ⟨rfl, ex, by unfold tabB; rw [hbb, g1, decide_eq_true g2]; rfl⟩
          · exact ⟨_, 8, rfl, rfl, false, congrArg V.bl (decide_eq_false g2), bad (by unfold tabB; rw [decide_eq_false g2, Bool.and_false, Bool.false_and]) _ (Evl.Ex.refl _)⟩
        · have g3 : decide ((1 : Int) ≤ ((bitsW ws).length : Int)) = false := by simpa using g1
          exact ⟨false, rfl, bad (by unfold tabB; rw [g3, Bool.false_and, Bool.false_and]) _ (Evl.Ex.refl _)⟩
    · rintro σ' H6 ⟨rfl, x6, hcb⟩
      have hpw6 := x6 _ _ hpw5
      have hpr6 := x6 _ _ hpr
      have hws1 : (ws.map V.str)[1]? = some (.str nm) := by
        rw [hwe]
        rfl
      refine ⟨.ref pw, rfl, pw, _, 1, .str nm, rfl, rfl, .inl (.inl hpw6), atI_nat (j := 1) hws1, by show 1 ≤ sizeLine; decide, fun l1 nl1 => ?_⟩
      generalize hH7 : upd H6 l1 _ = H7
      have x7 : Evl.Ex H6 H7 := hH7 ▸ Evl.Ex.new nl1
      have hl1 : H7 l1 = some (.lst [.str nm]) := by rw [← hH7]; exact upd_same
      refine ⟨.ref pr, rfl, l1, pr, _, _, rfl, rfl, hl1, x7 _ _ hpr6, by rw [List.length_map]; exact sz (by show 1 + rd.length ≤ _; omega), fun l2 nl2 => ?_⟩
      generalize hH8 : upd H7 l2 _ = H8
      have x8 : Evl.Ex H7 H8 := hH8 ▸ Evl.Ex.new nl2
      have hl2 : H8 l2 = some (.lst ((namesW ws).map V.str)) := by rw [← hH8, hnW]; exact upd_same
      have x58 : Evl.Ex H5 H8 := (x6.trans x7).trans x8
      refine ⟨l2, rfl, ⟨_, .inl (.inl hl2)⟩, fun D nD => ?_⟩
      refine lc_seq (xs := (namesW ws).map V.str) (f := fun i => .bl (nameB ((namesW ws).getD i ""))) (j := 9) (by rw [List.length_map, hnW, List.length_cons]; omega) nD (fun i H' x ex e => ⟨_, _, .inl (.inl (ex _ _ hl2)), e⟩) (fun H' ex => ⟨_, .inl (.inl (ex _ _ hl2)), Nat.le_refl _⟩) (fun i H' v H'' ex y => ⟨y.1, y.2 _ (.inl (.inl (ex _ _ hl2)))⟩) (fun _ => rfl) (fun i x hx H' ex Q' q' => ?_) (fun H9 x9 hD => ?_)
      · rw [List.getElem?_map] at hx
        obtain ⟨z, hz, rfl⟩ := Option.map_eq_some_iff.mp hx
        have hzl := hmz z (List.mem_of_getElem? hz)
        have hzg : (namesW ws).getD i "" = z := by rw [List.getD_eq_getElem?_getD, hz]; rfl
        rw [hzg] at q'
        exact ⟨_, rfl, z, rfl, by omega, fun H4 x4 => q' H4 x4⟩
      · rw [List.length_map, rng_map] at hD
        refine ⟨D, _, rfl, .inl (.inl hD), (namesW ws).all nameB, by rw [List.all_map]; rfl, ?_⟩
        cases hal : (namesW ws).all nameB
        · exact no (by unfold thB; rw [hal, Bool.and_false, Bool.and_false]) _ (x5.trans (x58.trans x9))
        · refine ite2 (fun z => absurd z (by decide)) (fun _ => ?_)
          refine fun p np => ⟨by show 2 ≤ sizeLine; decide, fun t1 n1 => ⟨by show 2 ≤ sizeLine; decide, fun t2 n2 => ⟨by show 2 ≤ sizeLine; decide, fun t3 n3 => ⟨by show 2 ≤ sizeLine; decide, fun t4 n4 => ?_⟩⟩⟩⟩
          generalize hHa : upd H9 p _ = Ha at *
          have ea : Ha p = some (.dK []) := by rw [← hHa]; exact upd_same
          generalize hHb : upd Ha t1 _ = Hb at *
          have xb : Evl.Ex Ha Hb := hHb ▸ Evl.Ex.new n1
          have eb : Hb t1 = some (.tup [.int 0, .int 0]) := by rw [← hHb]; exact upd_same
          generalize hHc : upd Hb t2 _ = Hc at *
          have xc : Evl.Ex Hb Hc := hHc ▸ Evl.Ex.new n2
          have ec : Hc t2 = some (.tup [.int 0, .int 3]) := by rw [← hHc]; exact upd_same
          generalize hHd : upd Hc t3 _ = Hd at *
          have xd : Evl.Ex Hc Hd := hHd ▸ Evl.Ex.new n3
          have ed : Hd t3 = some (.tup [.int 1, .int 1]) := by rw [← hHd]; exact upd_same
          generalize hHe : upd Hd t4 _ = He at *
          have xe : Evl.Ex Hd He := hHe ▸ Evl.Ex.new n4
          have ee : He t4 = some (.tup [.int 1, .int 1]) := by rw [← hHe]; exact upd_same
          have x9e : Evl.Ex H9 He := (((Evl.Ex.new (o := .dK []) np).trans (hHa ▸ xb)).trans xc).trans (xd.trans xe)
          refine ⟨xe _ _ (xd _ _ (xc _ _ (xb _ _ ea))), [(.inr "in", .ref t1), (.inr "gate", .ref t2), (.inr "reg", .ref t3), (.inr "out", .ref t4)], rfl, by show 4 ≤ 15; decide, ?_⟩
          have hep : He p = some (.dK []) := xe _ _ (xd _ _ (xc _ _ (xb _ _ ea)))
          have hti : ∃ ti, valV (mergeK [] [(.inr "in", V.ref t1), (.inr "gate", .ref t2), (.inr "reg", .ref t3), (.inr "out", .ref t4)]) (.inr (kdW ws) : Key) = some (.ref ti) ∧ He ti = some (.tup [.int (fewK (kdW ws)), .int (mostK (kdW ws))]) := by
            have h4 : kdW ws = "in" ∨ kdW ws = "gate" ∨ kdW ws = "reg" ∨ kdW ws = "out" := by simpa using h4
            rcases h4 with h4 | h4 | h4 | h4 <;> rw [h4]
            · exact ⟨t1, rfl, xe _ _ (xd _ _ (xc _ _ eb))⟩
            · exact ⟨t2, rfl, xe _ _ (xd _ _ ec)⟩
            · exact ⟨t3, rfl, xe _ _ ed⟩
            · exact ⟨t4, rfl, ee⟩
          obtain ⟨ti, hv, hti⟩ := hti
          have htp : ti ≠ p := fun z => by
            rw [z, hep] at hti
            cases hti
          generalize hkv : mergeK [] [((.inr "in" : Key), V.ref t1), (.inr "gate", .ref t2), (.inr "reg", .ref t3), (.inr "out", .ref t4)] = kvs at *
          generalize hHf : upd He p _ = Hf
          have ef : Hf p = some (.dK kvs) := by rw [← hHf]; exact upd_same
          have etf : Hf ti = some (.tup [.int (fewK (kdW ws)), .int (mostK (kdW ws))]) := by rw [← hHf, upd_ne htp]; exact hti
          have x9f : Evl.Ex H9 Hf := hHf ▸ Evl.Ex.mut x9e np
          have x5f : Evl.Ex H5 Hf := (x58.trans x9).trans x9f
          refine ⟨.str (kdW ws), rfl, p, .ref ti, rfl, .inl ⟨kvs, .inr (kdW ws), .inl ef, rfl, hv.symm⟩, ?_⟩
          refine ⟨ti, _, rfl, .inl (.inl etf), rfl, _, _, rfl, _, _, rfl, rfl, ?_⟩
          have hpwf := x5f _ _ hpw5
          have hprf := x5f _ _ hpr
          refine ⟨.str (kdW ws), rfl, .ref pw, rfl, pw, _, 1, .str nm, rfl, rfl, .inl (.inl hpwf), atI_nat (j := 1) hws1, .str (bitsW ws), rfl, .ref pr, rfl, pr, _, rfl, .inl ⟨.inl (.inl hprf), fun q1 m1 => ⟨by show 4 ≤ sizeLine; decide, fun a na => ⟨by show 2 ≤ sizeLine; decide, fun l3 nl3 => ?_⟩⟩⟩⟩
          generalize hHg : upd (upd (upd Hf q1 _) a _) l3 _ = Hg
          have xg2 : Evl.Ex (upd (upd Hf q1 (.tup (rd.map V.str))) a (.tup [.str (kdW ws), .str nm, .str (bitsW ws), .ref q1])) Hg := hHg ▸ Evl.Ex.new nl3
          have xfg : Evl.Ex Hf Hg := ((Evl.Ex.new m1).trans (Evl.Ex.new na)).trans xg2
          have hl3 : Hg l3 = some (.lst [.non, .ref a]) := by rw [← hHg]; exact upd_same
          have hag : Hg a = some (.tup [.str (kdW ws), .str nm, .str (bitsW ws), .ref q1]) := xg2 _ _ upd_same
          have hqg : Hg q1 = some (.tup (rd.map V.str)) := xg2 _ _ (by rw [upd_ne (ne_of_none upd_same na)]; exact upd_same)
          have hprg := xfg _ _ hprf
          have hcnt : (((namesW ws).length : Int) - 1) = (rd.length : Int) := by
            rw [hnW, List.length_cons]
            omega
          have hpi := pins_iff h4 rd.length
          have fin : ∀ b : Bool, (decide (fewK (kdW ws) ≤ (rd.length : Int)) && decide ((rd.length : Int) ≤ mostK (kdW ws))) = b → rIxL K (.ref l3) (.int (if b = true then 1 else 0)) Hg Q := fun b hb => by
            rw [hpi, ← hcnt] at hb
            cases b
            · exact ⟨l3, _, 0, .non, rfl, rfl, .inl (.inl hl3), rfl, no (by unfold thB; rw [hb]; simp) _ (x5.trans (x5f.trans xfg))⟩
            · refine ⟨l3, _, 1, .ref a, rfl, rfl, .inl (.inl hl3), rfl, q (.ref a) _ (x5.trans (x5f.trans xfg)) ?_⟩
              rw [thOf_yes (by unfold thB; rw [hb, hcb, hal]; rfl)]
              refine ⟨a, rfl, q1, ?_, ?_⟩
              · show Hg a = some (.tup [.str (kdW ws), .str ((namesW ws).headD ""), .str (bitsW ws), .ref q1])
                rw [hnW]
                exact hag
              · show Hg q1 = some (.tup (((namesW ws).drop 1).map V.str))
                rw [hnW]
                exact hqg
          have hlen : ((rd.map V.str).length : Int) = (rd.length : Int) := by rw [List.length_map]
          refine ⟨.int (fewK (kdW ws)), rfl, .ref pr, rfl, pr, _, rfl, .inl (.inl (.inl hprg)), _, _, rfl, rfl, _, rfl, ?_⟩
          rw [hlen]
          refine ite2 (fun e1 => ?_) (fun e1 => ?_)
          · exact ⟨_, rfl, _, _, rfl, rfl, .inr ⟨_, rfl, fin _ (by rw [e1, Bool.true_and])⟩⟩
          · exact .inr ⟨_, rfl, fin _ (by rw [Bool.eq_false_iff.mpr e1, Bool.false_and])⟩
end
end Tl

namespace Tl
open PySem PySem.Spec PyProof.Rows L2
abbrev sReadT : Stmt := topS 24
abbrev nReadT : List Str := ["_law_text", "_law_found", "_law_rank", "_law_at", "_law_line", "_law_thing_here"]
theorem scReadT : FnScope nReadT ["_law_text"] (defScope sReadT) := ⟨rfl, rfl, rfl, by decide +kernel, rfl, by decide +kernel, by decide +kernel⟩
def rkD : List (Key × V) := mergeK [] [(.inr "in", .int 0), (.inr "gate", .int 1), (.inr "reg", .int 1), (.inr "out", .int 2)]
theorem rkD_at {k : Str} (h : k = "in" ∨ k = "gate" ∨ k = "reg" ∨ k = "out") : valV rkD (.inr k : Key) = some (.int (rankT k)) := by
  rcases h with rfl | rfl | rfl | rfl <;> rfl
def linesT (text : Str) : List Str := if text = "" then [] else Txt.split text "\n"
theorem readT_lines (text : Str) : readT text = readL ((linesT text).map fun r => thOf (Txt.split r " ")) 0 0 [] := by
  unfold readT linesT
  split
  · rfl
  · rfl
section
variable {P : Program} {w : World} {K : PySem.W.Frag} {mg : Str → Option Value} {base : Heap}
theorem ok_readT {k : Nat} (T : Env K mg) : FnOk P w K mg base CX0 (k + 3) T.f__law_read_text T.fd__law_read_text ["_law_text"] spTold := by
  refine T.F__law_read_text.ok scReadT (fun vs H Q E h => ?_) (fun cdv A outer s H vs Q E hr h => ?_)
  · obtain ⟨z, rfl, _⟩ := h
    rfl
  · obtain ⟨text, rfl, htl, q⟩ := h
    have hu := hu_of hr
    refine ⟨_, pss_cons (ps_set (i := 1) scReadT.nd rfl (.inl rfl) (pe_lst pa_nil))
      (pss_cons (ps_set (i := 2) scReadT.nd rfl (.inl rfl) pe_int)
      (pss_cons (ps_for PassesOwn.never rfl (pi_enum (by rfl) T.n_enumerate (pa_cons (pe_op op_rep (pe_split (pv 0) pe_str) (pe_callTy call_int1 (by rfl) T.n_int (by decide +kernel) (pa_cons (pe_cmpR op_ne (pv 0) pe_str (nomark _)) pa_nil))) pa_nil)) (pg_tup rfl (pgs_cons (pg_name (i := 3) scReadT.nd rfl (.inl rfl)) (pgs_cons (pg_name (i := 4) scReadT.nd rfl (.inl rfl)) pgs_nil))) (pss_cons (ps_set (i := 5) scReadT.nd rfl (.inl rfl) (pe_call (ok_lthing T) hr (by rfl) T.g__law_thing T.F__law_thing.kp T.b__law_thing .nil pass0 (pa_cons (pv 4) pa_nil)))
      (pss_cons (ps_if (PW.pt (pw_or (pt_cmpR op_isN (pv 5) pe_non (nomark _)) (pw_or1 (pt_cmpR op_lt (pe_dget hu (pe_disp (pps_cons pe_str pe_int (pps_cons pe_str pe_int (pps_cons pe_str pe_int (pps_cons pe_str pe_int pps_nil)))) rfl rfl (by simp) (by decide)) (pe_ix (r := (rIxT K)) ix_tup (pv 5) pe_int (fun _ _ => rfl)) (fun _ _ => rfl)) (pv 2) (nomark _))))) (pss_one (ps_ret (pv 3))) pss_nil)
      (pss_cons (ps_set (i := 2) scReadT.nd rfl (.inl rfl) (pe_dget hu (pe_disp (pps_cons pe_str pe_int (pps_cons pe_str pe_int (pps_cons pe_str pe_int (pps_cons pe_str pe_int pps_nil)))) rfl rfl (by simp) (by decide)) (pe_ix (r := (rIxT K)) ix_tup (pv 5) pe_int (fun _ _ => rfl)) (fun _ _ => rfl)))
      (pss_one (ps_expr (pe_bm PySem.F.plainAttrs_list PySem.F.slot_list_append PySem.F.type_list_append mt_append (pv 1) (pa_cons (pv 5) pa_nil))))))))
      (pss_one (ps_ret (pe_callTy (r := rTupOf K) cr_tupOf (by rfl) T.n_tuple (by decide +kernel) (pa_cons (pv 1) pa_nil)))))), ?_⟩
    refine ⟨by show 0 ≤ sizeLine; decide, fun D nD => ?_⟩
    refine ⟨.str text, rfl, ⟨_, rfl⟩, text, "\n", rfl, rfl, rfl, sz (by omega), fun ps nps => ?_⟩
    have hss := split_size text "\n" rfl
    generalize hHa : upd (upd H D (HO.lst [])) ps _ = Ha
    have xDa : Evl.Ex (upd H D (.lst [])) Ha := hHa ▸ Evl.Ex.new nps
    have hps : Ha ps = some (.lst ((Txt.split text "\n").map V.str)) := by rw [← hHa]; exact upd_same
    refine ⟨.str text, rfl, rfl, .inr ⟨_, rfl, ps, _, _, rfl, rfl, hps, ?_, ?_, ?_, fun pr npr => ?_⟩⟩
    · split <;> decide
    · split <;> decide
    · rw [List.length_map]
      have : (if (!decide (V.str text = V.str "")) = true then (1 : Int) else 0).toNat ≤ 1 := by split <;> decide
      exact Nat.le_trans (Nat.mul_le_mul_left _ this) (sz (by omega))
    · generalize hH1 : upd Ha pr _ = H1
      have hls : (List.replicate (if (!decide (V.str text = V.str "")) = true then (1 : Int) else 0).toNat ((Txt.split text "\n").map V.str)).flatten = (linesT text).map V.str := by
        unfold linesT
        by_cases e : text = ""
        · rw [if_pos e, decide_eq_true (by rw [e])]
          rfl
        · rw [if_neg e, decide_eq_false (fun z => e (V.str.inj z))]
          show (List.replicate 1 _).flatten = _
          simp
      have hll : (linesT text).length + sumL (linesT text) ≤ 40001 := by
        unfold linesT
        split
        · show 0 + 0 ≤ 40001
          decide
        · omega
      have hpr : H1 pr = some (.lst ((linesT text).map V.str)) := by rw [← hH1, ← hls]; exact upd_same
      have xD : Evl.Ex (upd H D (.lst [])) H1 := xDa.trans (hH1 ▸ Evl.Ex.new npr)
      have hD1 : H1 D = some (.lst []) := xD _ _ upd_same
      have x1 : Evl.Ex H H1 := (Evl.Ex.new nD).trans xD
      have npD : pr ≠ D := fun z => by
        rw [z, xDa _ _ upd_same] at npr
        cases npr
      have hrt := readT_lines text
      generalize linesT text = ls at *
      generalize hrows : (ls.map fun r => thOf (Txt.split r " ")) = rows at hrt
      refine ⟨pr, _, rfl, .inl (.inl hpr), ?_⟩
      refine for_enum (K := K) (a := pr) (xs := ls.map V.str) (j := 3) (k := 4) (fun i σ' H' => ∃ (qs : List (Addr × Th)) (rk : Int) (y3 y4 y5 : Option V), σ' = [some (.str text), some (.ref D), some (.int rk), y3, y4, y5] ∧ Evl.Ex H H' ∧ H' pr = some (.lst (ls.map V.str)) ∧ H' D = some (.lst (vals qs)) ∧ qs.length = i ∧ readT text = readL (rows.drop i) i rk (qs.map (·.2)) ∧ (∀ p ∈ qs, RTh H' p))
        ⟨[], 0, none, none, none, rfl, x1, hpr, hD1, rfl, hrt, fun p hp => by simp at hp⟩ (fun i σ' H' p => ?_) (fun i x Tp σ' H' hx p nT => ?_) (fun σ' H' p => ?_)
      · obtain ⟨qs, rk, y3, y4, y5, rfl, ex, h1, _⟩ := p
        exact .inl (.inl h1)
      · obtain ⟨qs, rk, y3, y4, y5, rfl, ex, h1, h2, hql, h3, h4⟩ := p
        rw [List.getElem?_map] at hx
        obtain ⟨row, hrow, rfl⟩ := Option.map_eq_some_iff.mp hx
        have hi := (List.getElem?_eq_some_iff.mp hrow).1
        have hrl := sum_mem (List.mem_of_getElem? hrow)
        have hdr : rows.drop i = thOf (Txt.split row " ") :: rows.drop (i + 1) := by
          rw [← hrows, ← List.map_drop, ← List.map_drop, List.drop_eq_getElem_cons hi, List.map_cons, (List.getElem?_eq_some_iff.mp hrow).2]
        rw [hdr] at h3
        generalize hHt : upd H' Tp _ = Ht
        have xa : Evl.Ex H' Ht := hHt ▸ Evl.Ex.new nT
        refine ⟨_, rfl, row, rfl, by omega, fun v Hb xb tv => ?_⟩
        have xab := xa.trans xb
        cases hth : thOf (Txt.split row " ") with
        | none =>
          rw [hth] at tv h3
          obtain rfl : v = .non := tv
          exact ⟨.non, rfl, rfl, true, rfl, .int (i : Int), rfl, q _ _ (ex.trans xab) (by rw [h3]; rfl)⟩
        | some t =>
          rw [hth] at tv h3
          obtain ⟨a, rfl, rt⟩ := tv
          have hkd := thOf_kind hth
          refine ⟨.ref a, rfl, rfl, false, rfl, fun p np => ⟨upd_same, [(.inr "in", .int 0), (.inr "gate", .int 1), (.inr "reg", .int 1), (.inr "out", .int 2)], rfl, by show 4 ≤ 15; decide, ?_⟩⟩
          generalize hHc : upd (upd Hb p _) p _ = Hc
          have hcp : Hc p = some (.dK rkD) := by rw [← hHc]; exact upd_same
          have xbc : Evl.Ex Hb Hc := hHc ▸ Evl.Ex.mut (Evl.Ex.new np) np
          obtain ⟨q0, r1, r2⟩ := rt.ex xbc
          refine ⟨.ref a, rfl, a, _, 0, .str t.kind, rfl, rfl, .inl (.inl r1), rfl, p, .int (rankT t.kind), rfl, .inl ⟨rkD, .inr t.kind, .inl hcp, rfl, (rkD_at hkd).symm⟩, .int rk, rfl, _, _, rfl, rfl, decide (rankT t.kind < rk), rfl, ?_⟩
          have xac := xab.trans xbc
          by_cases hlt : rankT t.kind < rk
          · rw [decide_eq_true hlt]
            exact ⟨.int (i : Int), rfl, q _ _ (ex.trans xac) (by rw [h3.trans (if_pos hlt)]; rfl)⟩
          · rw [decide_eq_false hlt]
            have h3 := h3.trans (if_neg hlt)
            refine fun p2 np2 => ⟨upd_same, [(.inr "in", .int 0), (.inr "gate", .int 1), (.inr "reg", .int 1), (.inr "out", .int 2)], rfl, by show 4 ≤ 15; decide, ?_⟩
            generalize hHd : upd (upd Hc p2 _) p2 _ = Hd
            have hdp : Hd p2 = some (.dK rkD) := by rw [← hHd]; exact upd_same
            have xcd : Evl.Ex Hc Hd := hHd ▸ Evl.Ex.mut (Evl.Ex.new np2) np2
            have rtd := (rt.ex xbc).ex xcd
            obtain ⟨q3, r3, r4⟩ := (rt.ex xbc).ex xcd
            refine ⟨.ref a, rfl, a, _, 0, .str t.kind, rfl, rfl, .inl (.inl r3), rfl, p2, .int (rankT t.kind), rfl, .inl ⟨rkD, .inr t.kind, .inl hdp, rfl, (rkD_at hkd).symm⟩, ?_⟩
            have xad := xac.trans xcd
            have hDd := xad _ _ h2
            refine ⟨.ref D, rfl, .inl ⟨rfl, _, .inl (.inl hDd)⟩, .ref a, rfl, D, _, _, rfl, rfl, hDd, by rw [vals_length]; exact Evl.sz_lt (by omega), ?_⟩
            have tk : TK Hd (upd Hd D (.lst (vals qs ++ [.ref a]))) := TK.lst (fun _ _ h => h) hDd
            refine ⟨qs ++ [(a, t)], rankT t.kind, some (.int (i : Int)), some (.str row), some (.ref a), rfl, Evl.Ex.mut (ex.trans xad) nD, by rw [upd_ne npD]; exact xad _ _ h1, by rw [upd_same, vals_snoc], by rw [List.length_append, hql]; rfl, by rw [h3, List.map_append]; rfl, fun p hp => ?_⟩
            rcases List.mem_append.mp hp with hp | hp
            · exact ((h4 p hp).ex xad).mono tk
            · rw [List.mem_singleton.mp hp]
              exact rtd.mono tk
      · obtain ⟨qs, rk, y3, y4, y5, rfl, ex, h1, h2, hql, h3, h4⟩ := p
        rw [List.length_map] at hql h3
        rw [List.drop_of_length_le (by rw [← hrows, List.length_map]; exact Nat.le_refl _)] at h3
        refine ⟨.ref D, rfl, D, _, rfl, .inl ⟨.inl (.inl h2), fun l nl => ?_⟩⟩
        exact q _ _ (ex.trans (Evl.Ex.new nl)) (by rw [h3]; exact ⟨l, qs, rfl, upd_same, rfl, fun p hp => (h4 p hp).ex (Evl.Ex.new nl)⟩)
end
end Tl

namespace Tl
open PySem PySem.Spec PyProof.Rows L2
/-! ### lists of texts cut and put together: nothing old is changed -/
def EvL (te : TE) (σ : L2.St) (H : Hp) (zs : List Str) : Prop := ∀ Q : VK, (∀ p H', Evl.Ex H H' → H' p = some (.lst (zs.map V.str)) → Q (.ref p) H') → te σ H Q
def EvS (te : TE) (σ : L2.St) (H : Hp) (z : Str) : Prop := ∀ Q : VK, (∀ H', Evl.Ex H H' → Q (.str z) H') → te σ H Q
def EvI (te : TE) (σ : L2.St) (H : Hp) (i : Int) : Prop := ∀ Q : VK, Q (.int i) H → te σ H Q
theorem ei_var {i : Nat} {σ : L2.St} {H : Hp} {n : Int} (h : σ[i]? = some (some (.int n))) : EvI (tVar i) σ H n := fun Q q => ⟨_, h, q⟩
theorem ei_int {σ : L2.St} {H : Hp} {n : Int} : EvI (tC (.int n)) σ H n := fun Q q => q
theorem ei_add {σ : L2.St} {H : Hp} {m n : Int} {ta tb : TE} (a : EvI ta σ H m) (b : EvI tb σ H n) : EvI (tOp (rI0 fun i j => .int (i + j)) ta tb) σ H (m + n) := fun Q q => a _ (b _ ⟨m, n, rfl, rfl, q⟩)
theorem el_var {i : Nat} {σ : L2.St} {H : Hp} {a : Addr} {zs : List Str} (h : σ[i]? = some (some (.ref a))) (ha : H a = some (.lst (zs.map V.str))) : EvL (tVar i) σ H zs := fun Q q => ⟨_, h, q _ _ (Evl.Ex.refl _) ha⟩
theorem el_hi {K : PySem.W.Frag} {i : Nat} {σ : L2.St} {H : Hp} {a : Addr} {zs : List Str} {n : Nat} {te : TE} (h : σ[i]? = some (some (.ref a))) (ha : H a = some (.lst (zs.map V.str))) (hi : EvI te σ H (n : Int)) : EvL (tSl (rSlL K) (tVar i) tNoPart (tPart te)) σ H (zs.take n) := fun Q q =>
  ⟨_, h, hi _ ⟨_, rfl, a, _, rfl, .inl (.inl ha), fun p np => q p _ (Evl.Ex.new np) (by rw [upd_same, cut_hi])⟩⟩
theorem el_lo {K : PySem.W.Frag} {i : Nat} {σ : L2.St} {H : Hp} {a : Addr} {zs : List Str} {n : Nat} {te : TE} (h : σ[i]? = some (some (.ref a))) (ha : H a = some (.lst (zs.map V.str))) (hi : EvI te σ H (n : Int)) : EvL (tSl (rSlL K) (tVar i) (tPart te) tNoPart) σ H (zs.drop n) := fun Q q =>
  ⟨_, h, hi _ ⟨_, rfl, a, _, rfl, .inl (.inl ha), fun p np => q p _ (Evl.Ex.new np) (by rw [upd_same, cut_lo])⟩⟩
theorem el_cat {σ : L2.St} {H : Hp} {xs ys : List Str} {ta tb : TE} (a : EvL ta σ H xs) (b : ∀ H', Evl.Ex H H' → EvL tb σ H' ys) (hz : xs.length + ys.length ≤ 100000) : EvL (tOp rCat ta tb) σ H (xs ++ ys) := fun Q q =>
  a _ fun p H1 x1 h1 => b H1 x1 _ fun p2 H2 x2 h2 => ⟨p, p2, _, _, rfl, rfl, x2 _ _ h1, h2, by rw [List.length_map, List.length_map]; exact sz hz, fun p3 n3 => q p3 _ ((x1.trans x2).trans (Evl.Ex.new n3)) (by rw [upd_same, List.map_append])⟩
theorem es_str {σ : L2.St} {H : Hp} {z : Str} : EvS (tC (.str z)) σ H z := fun Q q => q _ (Evl.Ex.refl _)
theorem es_var {i : Nat} {σ : L2.St} {H : Hp} {z : Str} (h : σ[i]? = some (some (.str z))) : EvS (tVar i) σ H z := fun Q q => ⟨_, h, q _ (Evl.Ex.refl _)⟩
theorem es_at {K : PySem.W.Frag} {i : Nat} {σ : L2.St} {H : Hp} {a : Addr} {zs : List Str} {n : Nat} {te : TE} {z : Str} (h : σ[i]? = some (some (.ref a))) (ha : H a = some (.lst (zs.map V.str))) (hi : EvI te σ H (n : Int)) (hn : zs[n]? = some z) : EvS (tOp (rIxL K) (tVar i) te) σ H z := fun Q q =>
  ⟨_, h, hi _ ⟨a, _, (n : Int), .str z, rfl, rfl, .inl (.inl ha), atI_nat (by rw [List.getElem?_map, hn]; rfl), q _ (Evl.Ex.refl _)⟩⟩
theorem el_one {σ : L2.St} {H : Hp} {z : Str} {te : TE} (h : EvS te σ H z) : EvL (tLst (tCons te tNil)) σ H [z] := fun Q q =>
  h _ fun H1 x1 => ⟨by show 1 ≤ sizeLine; decide, fun p np => q p _ (x1.trans (Evl.Ex.new np)) upd_same⟩
theorem el_two {σ : L2.St} {H : Hp} {z z2 : Str} {te te2 : TE} (h : EvS te σ H z) (h2 : ∀ H', Evl.Ex H H' → EvS te2 σ H' z2) : EvL (tLst (tCons te (tCons te2 tNil))) σ H [z, z2] := fun Q q =>
  h _ fun H1 x1 => h2 H1 x1 _ fun H2 x2 => ⟨by show 2 ≤ sizeLine; decide, fun p np => q p _ ((x1.trans x2).trans (Evl.Ex.new np)) upd_same⟩
abbrev rJoin (K : PySem.W.Frag) : V → List V → Hp → VK → Prop := fun x xs H Q => ∃ a p, ∃ ys : List Str, x = .str a ∧ xs = [.ref p] ∧ (SqL K H p (ys.map V.str) ∨ SqT K H p (ys.map V.str)) ∧ (ys.map (·.length)).sum + ys.length * a.length ≤ 16777216 ∧ Q (.str (Txt.join a ys)) H
theorem es_join {K : PySem.W.Frag} {σ : L2.St} {H : Hp} {sep : Str} {zs : List Str} {te : TE} (h : EvL te σ H zs) (hs : sep.length = 1) (hz : sumL zs + zs.length ≤ 100000) : EvS (tM1 (rJoin K) (tC (.str sep)) te) σ H (Txt.join sep zs) := fun Q q =>
  ⟨⟨_, rfl⟩, h _ fun p H1 x1 h1 => ⟨sep, p, zs, rfl, rfl, .inl (.inl (.inl h1)), by rw [hs]; unfold sumL at hz; omega, q _ x1⟩⟩
theorem es_mul {σ : L2.St} {H : Hp} {z : Str} {n : Nat} {ta tb : TE} (a : EvS ta σ H z) (b : ∀ H', Evl.Ex H H' → EvI tb σ H' (n : Int)) (hz : z.length ≤ 60000) (hn : n ≤ 3) : EvS (tOp rMulT ta tb) σ H (repS z n) := fun Q q =>
  a _ fun H1 x1 => b H1 x1 _ ⟨z, n, rfl, rfl, hz, hn, q _ x1⟩
theorem join_le {sep : Str} (hs : sep.length = 1) (zs : List Str) : (Txt.join sep zs).length ≤ sumL zs + zs.length := by
  have := join_len sep zs
  rw [hs] at this
  unfold sumL
  omega
theorem sum_td (zs : List Str) {a b : Nat} (h : a ≤ b) : sumL (zs.take a) + sumL (zs.drop b) ≤ sumL zs := by
  have e : zs = zs.take a ++ zs.drop a := (List.take_append_drop a zs).symm
  have h2 : sumL zs = sumL (zs.take a) + sumL (zs.drop a) := by
    conv => lhs; rw [e]
    exact sum_app _ _
  have h3 : sumL (zs.drop b) ≤ sumL (zs.drop a) := by
    have : zs.drop b = (zs.drop a).drop (b - a) := by rw [List.drop_drop]; congr 1; omega
    rw [this]
    exact sum_sub (List.drop_sublist _ _)
  omega
theorem len_td (zs : List Str) {a b : Nat} (h : a ≤ b) : (zs.take a).length + (zs.drop b).length ≤ zs.length := by
  rw [List.length_take, List.length_drop]
  omega
end Tl

namespace Tl
open PySem PySem.Spec PyProof.Rows L2
abbrev sSpoilt : Stmt := topS 25
abbrev nSpoilt : List Str := ["_law_box_here", "_law_text", "_law_lines", "_law_at", "_law_way", "_law_words", "_law_place", "_law_signs", "_law_sign", "_law_here", "_law_line"]
theorem scSpoilt : FnScope nSpoilt ["_law_box_here", "_law_text"] (defScope sSpoilt) := ⟨rfl, rfl, rfl, by decide +kernel, rfl, by decide +kernel, by decide +kernel⟩
theorem ei_succ {σ : L2.St} {H : Hp} {n : Nat} {ta : TE} (a : EvI ta σ H (n : Int)) : EvI (tOp (rI0 fun i j => .int (i + j)) ta (tC (.int 1))) σ H ((n + 1 : Nat) : Int) := fun Q q => a _ ⟨_, _, rfl, rfl, q⟩
section
variable {P : Program} {w : World} {K : PySem.W.Frag} {mg : Str → Option Value} {base : Heap}
theorem ok_takeT {k : Nat} (T : Env K mg) : FnOk P w K mg base CX0 (k + 1) T.f__law_take T.fd__law_take ["_law_box_here", "_law_many"] spTake := ok_take T.F__law_take T.n_len
def spSpoilt : Sp := fun vs H Q _ => ∃ (B : Box) (text : Str), vs = [.ref B.b, .str text] ∧ Bx B H ∧ text.length ≤ 4000 ∧ ∀ (z : Str) H', z.length ≤ 5 * text.length + 30 → Go B H H' → Q (.str z) H'
theorem ok_spoilt {k : Nat} (T : Env K mg) : FnOk P w K mg base CX0 (k + 2) T.f__law_spoilt T.fd__law_spoilt ["_law_box_here", "_law_text"] spSpoilt := by
  refine T.F__law_spoilt.ok scSpoilt (fun vs H Q E h => ?_) (fun cdv A outer s H vs Q E hr h => ?_)
  · obtain ⟨B, z, rfl, _⟩ := h
    rfl
  · obtain ⟨B, text, rfl, hB, htl, q⟩ := h
    refine ⟨_, pss_cons (ps_set (i := 2) scSpoilt.nd rfl (.inl rfl) (pe_split (pv 1) pe_str))
      (pss_cons (ps_set (i := 3) scSpoilt.nd rfl (.inl rfl) (pe_call (ok_takeT T) hr (by rfl) T.g__law_take T.F__law_take.kp T.b__law_take .nil pass0 (pa_cons (pv 0) (pa_cons (pe_callB (r := rLen K) cr_len (by rfl) T.n_len PySem.boot_len (pa_cons (pv 2) pa_nil)) pa_nil))))
      (pss_cons (ps_set (i := 4) scSpoilt.nd rfl (.inl rfl) (pe_call (ok_takeT T) hr (by rfl) T.g__law_take T.F__law_take.kp T.b__law_take .nil pass0 (pa_cons (pv 0) (pa_cons pe_int pa_nil))))
      (pss_cons (ps_set (i := 5) scSpoilt.nd rfl (.inl rfl) (pe_split (pe_ix (r := (rIxL K)) ix_list (pv 2) (pv 3) (fun _ _ => rfl)) pe_str))
      (pss_cons (ps_set (i := 6) scSpoilt.nd rfl (.inl rfl) (pe_call (ok_takeT T) hr (by rfl) T.g__law_take T.F__law_take.kp T.b__law_take .nil pass0 (pa_cons (pv 0) (pa_cons (pe_callB (r := rLen K) cr_len (by rfl) T.n_len PySem.boot_len (pa_cons (pv 5) pa_nil)) pa_nil))))
      (pss_cons (ps_if (pt_cmpR op_eq (pv 4) pe_int (nomark _)) (pss_one (ps_ret (pe_join pe_str (pe_op op_cat (pe_slice (r := (rSlL K)) sl_list (pv 2) po_none (po_some (pv 3))) (pe_slice (r := (rSlL K)) sl_list (pv 2) (po_some (pe_op op_add (pv 3) pe_int)) po_none))))) pss_nil)
      (pss_cons (ps_if (pt_cmpR op_eq (pv 4) pe_int (nomark _)) (pss_one (ps_ret (pe_join pe_str (pe_op op_cat (pe_op op_cat (pe_slice (r := (rSlL K)) sl_list (pv 2) po_none (po_some (pv 3))) (pe_lst (pa_cons (pe_ix (r := (rIxL K)) ix_list (pv 2) (pv 3) (fun _ _ => rfl)) (pa_cons (pe_ix (r := (rIxL K)) ix_list (pv 2) pe_int (fun _ _ => rfl)) pa_nil)))) (pe_slice (r := (rSlL K)) sl_list (pv 2) (po_some (pe_op op_add (pv 3) pe_int)) po_none))))) pss_nil)
      (Evl.pss_cut (ps_if (pt_cmpR op_eq (pv 4) pe_int (nomark _)) (pss_one (ps_set (i := 5) scSpoilt.nd rfl (.inl rfl) (pe_op op_cat (pe_slice (r := (rSlL K)) sl_list (pv 5) po_none (po_some (pv 6))) (pe_slice (r := (rSlL K)) sl_list (pv 5) (po_some (pe_op op_add (pv 6) pe_int)) po_none)))) (pss_one (ps_if (pt_cmpR op_eq (pv 4) pe_int (nomark _)) (pss_one (ps_set (i := 5) scSpoilt.nd rfl (.inl rfl) (pe_op op_cat (pe_op op_cat (pe_slice (r := (rSlL K)) sl_list (pv 5) po_none (po_some (pv 6))) (pe_lst (pa_cons pe_str (pa_cons (pe_ix (r := (rIxL K)) ix_list (pv 5) (pv 6) (fun _ _ => rfl)) pa_nil)))) (pe_slice (r := (rSlL K)) sl_list (pv 5) (po_some (pe_op op_add (pv 6) pe_int)) po_none)))) (pss_one (ps_if (pt_cmpR op_eq (pv 4) pe_int (nomark _)) (pss_one (ps_set (i := 5) scSpoilt.nd rfl (.inl rfl) (pe_op op_cat (pe_op op_cat (pe_slice (r := (rSlL K)) sl_list (pv 5) po_none (po_some (pv 6))) (pe_lst (pa_cons pe_str pa_nil))) (pe_slice (r := (rSlL K)) sl_list (pv 5) (po_some (pv 6)) po_none)))) (pss_one (ps_if (pt_cmpR op_eq (pv 4) pe_int (nomark _)) (pss_one (ps_set (i := 5) scSpoilt.nd rfl (.inl rfl) (pe_op op_cat (pe_op op_cat (pe_slice (r := (rSlL K)) sl_list (pv 5) po_none (po_some (pv 6))) (pe_lst (pa_cons (pe_op op_mulT (pe_ix (r := (rIxL K)) ix_list (pv 5) (pv 6) (fun _ _ => rfl)) pe_int) pa_nil))) (pe_slice (r := (rSlL K)) sl_list (pv 5) (po_some (pe_op op_add (pv 6) pe_int)) po_none)))) (pss_cons (ps_set (i := 7) scSpoilt.nd rfl (.inl rfl) pe_str)
      (pss_cons (ps_set (i := 8) scSpoilt.nd rfl (.inl rfl) (pe_ix (r := rIxS) ix_str (pv 7) (pe_call (ok_takeT T) hr (by rfl) T.g__law_take T.F__law_take.kp T.b__law_take .nil pass0 (pa_cons (pv 0) (pa_cons (pe_callB call_len_str (by rfl) T.n_len PySem.boot_len (pa_cons (pv 7) pa_nil)) pa_nil))) (fun _ _ => rfl)))
      (pss_cons (ps_set (i := 9) scSpoilt.nd rfl (.inl rfl) (pe_call (ok_takeT T) hr (by rfl) T.g__law_take T.F__law_take.kp T.b__law_take .nil pass0 (pa_cons (pv 0) (pa_cons (pe_op op_add (pe_callB call_len_str (by rfl) T.n_len PySem.boot_len (pa_cons (pe_ix (r := (rIxL K)) ix_list (pv 2) (pv 3) (fun _ _ => rfl)) pa_nil)) pe_int) pa_nil))))
      (pss_cons (ps_set (i := 10) scSpoilt.nd rfl (.inl rfl) (pe_op op_add_str (pe_op op_add_str (pe_slice (r := rSlS) sl_str (pe_ix (r := (rIxL K)) ix_list (pv 2) (pv 3) (fun _ _ => rfl)) po_none (po_some (pv 9))) (pv 8)) (pe_slice (r := rSlS) sl_str (pe_ix (r := (rIxL K)) ix_list (pv 2) (pv 3) (fun _ _ => rfl)) (po_some (pe_op op_add (pv 9) (pe_op op_mod (pv 4) pe_int))) po_none)))
      (pss_one (ps_ret (pe_join pe_str (pe_op op_cat (pe_op op_cat (pe_slice (r := (rSlL K)) sl_list (pv 2) po_none (po_some (pv 3))) (pe_lst (pa_cons (pv 10) pa_nil))) (pe_slice (r := (rSlL K)) sl_list (pv 2) (po_some (pe_op op_add (pv 3) pe_int)) po_none))))))))))))))))
      (pss_one (ps_ret (pe_join pe_str (pe_op op_cat (pe_op op_cat (pe_slice (r := (rSlL K)) sl_list (pv 2) po_none (po_some (pv 3))) (pe_lst (pa_cons (pe_join pe_str (pv 5)) pa_nil))) (pe_slice (r := (rSlL K)) sl_list (pv 2) (po_some (pe_op op_add (pv 3) pe_int)) po_none)))))))))))), ?_⟩
    refine ⟨.str text, rfl, ⟨_, rfl⟩, text, "\n", rfl, rfl, rfl, sz (by omega), fun pl npl => ?_⟩
    have hss := split_size text "\n" rfl
    have hne := split_ne text "\n"
    generalize Txt.split text "\n" = ls at *
    have hlp : 0 < ls.length := List.length_pos_iff.mpr hne
    generalize hH1 : upd H pl _ = H1
    have hpl1 : H1 pl = some (.lst (ls.map V.str)) := by rw [← hH1]; exact upd_same
    have g1 : Go B H H1 := hH1 ▸ (Go.refl hB).new npl
    refine ⟨.ref B.b, rfl, .ref pl, rfl, pl, _, rfl, .inl (.inl (.inl hpl1)), B, _, rfl, g1.bx, by rw [List.length_map]; omega, by rw [List.length_map]; omega, fun v H2 hv0 hv1 g2 => ?_⟩
    rw [List.length_map] at hv1
    obtain ⟨a, rfl⟩ : ∃ u : Nat, v = u := ⟨v.toNat, by omega⟩
    have ha : a < ls.length := by omega
    have hpl2 := g2.strs g1.bx hpl1
    refine ⟨.ref B.b, rfl, B, 8, rfl, g2.bx, by decide, by decide, fun v H3 hw0 hw1 g3 => ?_⟩
    obtain ⟨wy, rfl⟩ : ∃ u : Nat, v = u := ⟨v.toNat, by omega⟩
    have hpl3 := g3.strs g2.bx hpl2
    obtain ⟨ln, hln⟩ : ∃ ln, ls[a]? = some ln := ⟨_, List.getElem?_eq_getElem ha⟩
    have hl1 := sum_mem (List.mem_of_getElem? hln)
    refine ⟨.ref pl, rfl, .int (a : Int), rfl, pl, _, (a : Int), .str ln, rfl, rfl, .inl (.inl hpl3), atI_nat (by rw [List.getElem?_map, hln]; rfl), ⟨_, rfl⟩, ln, " ", rfl, rfl, rfl, sz (by omega), fun pw npw => ?_⟩
    have hsw := split_size ln " " rfl
    have hnw := split_ne ln " "
    generalize Txt.split ln " " = ws at *
    have hwp : 0 < ws.length := List.length_pos_iff.mpr hnw
    generalize hH4 : upd H3 pw _ = H4
    have hpw4 : H4 pw = some (.lst (ws.map V.str)) := by rw [← hH4]; exact upd_same
    have g4 : Go B H H4 := hH4 ▸ ((g1.trans g2).trans g3).new npw
    have hpl4 : H4 pl = some (.lst (ls.map V.str)) := (hH4 ▸ Evl.Ex.new npw : Evl.Ex H3 H4) _ _ hpl3
    refine ⟨.ref B.b, rfl, .ref pw, rfl, pw, _, rfl, .inl (.inl (.inl hpw4)), B, _, rfl, g4.bx, by rw [List.length_map]; omega, by rw [List.length_map]; omega, fun v H5 hv0 hv1 g5 => ?_⟩
    rw [List.length_map] at hv1
    obtain ⟨c, rfl⟩ : ∃ u : Nat, v = u := ⟨v.toNat, by omega⟩
    have hc : c < ws.length := by omega
    have hpl := g5.strs g4.bx hpl4
    have hpw := g5.strs g4.bx hpw4
    have g := g4.trans g5
    obtain ⟨wd, hwd⟩ : ∃ wd, ws[c]? = some wd := ⟨_, List.getElem?_eq_getElem hc⟩
    have hwl := sum_mem (List.mem_of_getElem? hwd)
    have t1 := sum_td ls (a := a) (b := a + 1) (by omega)
    have t2 := len_td ls (a := a) (b := a + 1) (by omega)
    have t3 := sum_td ws (a := c) (b := c + 1) (by omega)
    have t4 := len_td ws (a := c) (b := c + 1) (by omega)
    have t5 := sum_td ws (a := c) (b := c) (by omega)
    have t6 := len_td ws (a := c) (b := c) (by omega)
    refine ⟨.int (wy : Int), rfl, rfl, _, rfl, ite2 (fun e => ?_) (fun e => ?_)⟩
    · refine (es_join (K := K) (el_cat (el_hi rfl hpl (ei_var rfl)) (fun H' x => el_lo rfl (x _ _ hpl) (ei_succ (ei_var rfl))) (by omega)) rfl (by rw [sum_app, List.length_append]; omega)) _ fun H' x' => q _ _ ?_ (g.ex x')
      have := join_le (sep := "\n") rfl (ls.take a ++ ls.drop (a + 1))
      rw [sum_app, List.length_append] at this
      omega
    have hz0 : ls[0]? = some ls[0] := List.getElem?_eq_getElem hlp
    have h0l := sum_mem (List.mem_of_getElem? hz0)
    refine ⟨.int (wy : Int), rfl, rfl, _, rfl, ite2 (fun e => ?_) (fun e => ?_)⟩
    · refine (es_join (K := K) (el_cat (el_cat (el_hi rfl hpl (ei_var rfl)) (fun H' x => el_two (es_at rfl (x _ _ hpl) (ei_var rfl) hln) (fun H' x2 => es_at (n := 0) rfl (x2 _ _ (x _ _ hpl)) ei_int hz0)) (by show _ + 2 ≤ _; omega)) (fun H' x => el_lo rfl (x _ _ hpl) (ei_succ (ei_var rfl))) (by rw [List.length_append]; show _ + 2 + _ ≤ _; omega)) rfl (by rw [sum_app, sum_app, List.length_append, List.length_append, sum_cons, sum_cons]; show _ + (_ + (_ + 0)) + _ + (_ + 2 + _) ≤ _; omega)) _ fun H' x' => q _ _ ?_ (g.ex x')
      have := join_le (sep := "\n") rfl (ls.take a ++ [ln, ls[0]] ++ ls.drop (a + 1))
      rw [sum_app, sum_app, List.length_append, List.length_append, sum_cons, sum_cons] at this
      have e2 : ([ln, ls[0]] : List Str).length = 2 := rfl
      have e3 : sumL [] = 0 := rfl
      omega
    refine ⟨fun σ' H' => ∃ (pv : Addr) (vs : List Str), σ' = [some (.ref B.b), some (.str text), some (.ref pl), some (.int (a : Int)), some (.int (wy : Int)), some (.ref pv), some (.int (c : Int)), none, none, none, none] ∧ Evl.Ex H5 H' ∧ H' pv = some (.lst (vs.map V.str)) ∧ sumL vs + vs.length ≤ 4 * text.length + 8, ?_, ?_⟩
    · refine ⟨.int (wy : Int), rfl, rfl, _, rfl, ite2 (fun e => ?_) (fun e => ?_)⟩
      · refine (el_cat (el_hi rfl hpw (ei_var rfl)) (fun H' x => el_lo rfl (x _ _ hpw) (ei_succ (ei_var rfl))) (by omega)) _ fun p H' x' hp => ⟨p, _, rfl, x', hp, ?_⟩
        rw [sum_app, List.length_append]
        omega
      refine ⟨.int (wy : Int), rfl, rfl, _, rfl, ite2 (fun e => ?_) (fun e => ?_)⟩
      · refine (el_cat (el_cat (el_hi rfl hpw (ei_var rfl)) (fun H' x => el_two es_str (fun H' x2 => es_at rfl (x2 _ _ (x _ _ hpw)) (ei_var rfl) hwd)) (by show _ + 2 ≤ _; omega)) (fun H' x => el_lo rfl (x _ _ hpw) (ei_succ (ei_var rfl))) (by rw [List.length_append]; show _ + 2 + _ ≤ _; omega)) _ fun p H' x' hp => ⟨p, _, rfl, x', hp, ?_⟩
        rw [sum_app, sum_app, List.length_append, List.length_append, sum_cons, sum_cons]
        show _ + (1 + (_ + 0)) + _ + (_ + 2 + _) ≤ _
        omega
      refine ⟨.int (wy : Int), rfl, rfl, _, rfl, ite2 (fun e => ?_) (fun e => ?_)⟩
      · refine (el_cat (el_cat (el_hi rfl hpw (ei_var rfl)) (fun H' x => el_one es_str) (by show _ + 1 ≤ _; omega)) (fun H' x => el_lo rfl (x _ _ hpw) (ei_var rfl)) (by rw [List.length_append]; show _ + 1 + _ ≤ _; omega)) _ fun p H' x' hp => ⟨p, _, rfl, x', hp, ?_⟩
        rw [sum_app, sum_app, List.length_append, List.length_append, sum_cons]
        show _ + (0 + 0) + _ + (_ + 1 + _) ≤ _
        omega
      refine ⟨.int (wy : Int), rfl, rfl, _, rfl, ite2 (fun e => ?_) (fun e => ?_)⟩
      · refine (el_cat (el_cat (el_hi rfl hpw (ei_var rfl)) (fun H' x => el_one (es_mul (n := 3) (es_at rfl (x _ _ hpw) (ei_var rfl) hwd) (fun _ _ => ei_int) (by omega) (by decide))) (by show _ + 1 ≤ _; omega)) (fun H' x => el_lo rfl (x _ _ hpw) (ei_succ (ei_var rfl))) (by rw [List.length_append]; show _ + 1 + _ ≤ _; omega)) _ fun p H' x' hp => ⟨p, _, rfl, x', hp, ?_⟩
        rw [sum_app, sum_app, List.length_append, List.length_append, sum_cons, rep_len]
        show _ + (_ + 0) + _ + (_ + 1 + _) ≤ _
        omega
      -- a sign put in
      have bx5 := g5.bx
      refine ⟨.str " aA01-.\n", rfl, .ref B.b, rfl, .str " aA01-.\n", rfl, " aA01-.\n", rfl, by decide, B, _, rfl, bx5, by decide, by decide, fun v H6 hv0 hv1 g6 => ?_⟩
      obtain ⟨u, rfl⟩ : ∃ u : Nat, v = u := ⟨v.toNat, by omega⟩
      have hu8 : u < (" aA01-.\n" : Str).cps.toList.length := by
        have : ((" aA01-.\n" : Str).length) = 8 := by decide
        rw [this] at hv1
        show u < 8
        omega
      refine ⟨" aA01-.\n", (u : Int), _, rfl, rfl, by decide, atI_nat (List.getElem?_eq_getElem hu8), ?_⟩
      have hpl6 := g6.strs bx5 hpl
      refine ⟨.ref B.b, rfl, .ref pl, rfl, .int (a : Int), rfl, pl, _, (a : Int), .str ln, rfl, rfl, .inl (.inl hpl6), atI_nat (by rw [List.getElem?_map, hln]; rfl), ln, rfl, sz (by omega), _, 1, rfl, rfl, B, _, rfl, g6.bx, by omega, by omega, fun v H7 hv0 hv1 g7 => ?_⟩
      have hpl7 := g7.strs g6.bx hpl6
      refine ⟨.ref pl, rfl, .int (a : Int), rfl, pl, _, (a : Int), .str ln, rfl, rfl, .inl (.inl hpl7), atI_nat (by rw [List.getElem?_map, hln]; rfl), .int v, rfl, v, rfl, ln, rfl, sz (by omega), ?_⟩
      have hc1 := cutS_length ln none (some v)
      generalize cutS ln none (some v) = z1 at *
      generalize ((" aA01-.\n" : Str).cps.toList[u]) = ch
      have hch : ((⟨#[ch]⟩ : Str).length) = 1 := rfl
      refine ⟨.str ⟨#[ch]⟩, rfl, _, _, rfl, rfl, sz (by omega), ?_⟩
      refine ⟨.ref pl, rfl, .int (a : Int), rfl, pl, _, (a : Int), .str ln, rfl, rfl, .inl (.inl hpl7), atI_nat (by rw [List.getElem?_map, hln]; rfl), .int v, rfl, .int (wy : Int), rfl, _, _, rfl, rfl, (by show (0 : Int) < 2; decide), _, _, rfl, rfl, _, rfl, ln, rfl, sz (by omega), ?_⟩
      have hc2 := cutS_length ln (some (v + (wy : Int) % 2)) none
      generalize cutS ln (some (v + (wy : Int) % 2)) none = z2 at *
      refine ⟨_, _, rfl, rfl, by rw [Str.length_append]; exact sz (by omega), ?_⟩
      have hll : (z1 ++ ⟨#[ch]⟩ ++ z2).length ≤ 2 * ln.length + 1 := by
        rw [Str.length_append, Str.length_append]
        omega
      generalize z1 ++ ⟨#[ch]⟩ ++ z2 = nl at *
      have g7' := (g.trans g6).trans g7
      refine (es_join (K := K) (el_cat (el_cat (el_hi rfl hpl7 (ei_var rfl)) (fun H' x => el_one (es_var rfl)) (by show _ + 1 ≤ _; omega)) (fun H' x => el_lo rfl (x _ _ hpl7) (ei_succ (ei_var rfl))) (by rw [List.length_append]; show _ + 1 + _ ≤ _; omega)) rfl (by rw [sum_app, sum_app, List.length_append, List.length_append, sum_cons]; show _ + (_ + 0) + _ + (_ + 1 + _) ≤ _; omega)) _ fun H' x' => q _ _ ?_ (g7'.ex x')
      have := join_le (sep := "\n") rfl (ls.take a ++ [nl] ++ ls.drop (a + 1))
      rw [sum_app, sum_app, List.length_append, List.length_append, sum_cons] at this
      have e2 : ([nl] : List Str).length = 1 := rfl
      have e3 : sumL [] = 0 := rfl
      omega
    · rintro σ' H6 ⟨pv, vs, rfl, x6, hpv, hvs⟩
      have hpl6 := x6 _ _ hpl
      have hjv := join_le (sep := " ") rfl vs
      refine (es_join (K := K) (el_cat (el_cat (el_hi rfl hpl6 (ei_var rfl)) (fun H' x => el_one (es_join (K := K) (el_var rfl (x _ _ hpv)) rfl (by omega))) (by show _ + 1 ≤ _; omega)) (fun H' x => el_lo rfl (x _ _ hpl6) (ei_succ (ei_var rfl))) (by rw [List.length_append]; show _ + 1 + _ ≤ _; omega)) rfl (by rw [sum_app, sum_app, List.length_append, List.length_append, sum_cons]; show _ + (_ + 0) + _ + (_ + 1 + _) ≤ _; omega)) _ fun H' x' => q _ _ ?_ (g.ex (x6.trans x'))
      have := join_le (sep := "\n") rfl (ls.take a ++ [Txt.join " " vs] ++ ls.drop (a + 1))
      rw [sum_app, sum_app, List.length_append, List.length_append, sum_cons] at this
      have e2 : ([Txt.join " " vs] : List Str).length = 1 := rfl
      have e3 : sumL [] = 0 := rfl
      omega
end
end Tl

namespace Tl
open PySem PySem.Spec PyProof.Rows L2
abbrev sLaw : Stmt := topS 27
abbrev nLaw : List Str := ["_law_script", "_law_box_here", "_law_texts", "_law_k", "_law_text", "_law_turn"]
theorem scLaw : FnScope nLaw ["_law_script"] (defScope sLaw) := ⟨rfl, rfl, rfl, by decide +kernel, rfl, by decide +kernel, by decide +kernel⟩
def thD (t : Th) : PyData := .tuple [.str t.kind, .str t.name, .str t.bits, .tuple (t.pins.map PyData.str)]
def netD (ts : List Th) : PyData := .tuple (ts.map thD)
theorem dt_strs {H : Hp} {q : Addr} {zs : List Str} (h : H q = some (.tup (zs.map V.str))) (hl : zs.length ≤ 50000) : DT H (.ref q) (.tuple (zs.map PyData.str)) :=
  .tup h (by rw [List.length_map, List.length_map]) (by rw [List.length_map]; exact hl) fun i x d hx hd => by
    rw [List.getElem?_map] at hx hd
    obtain ⟨z, hz, rfl⟩ := Option.map_eq_some_iff.mp hx
    rw [hz] at hd
    cases hd
    exact .str z
theorem dt_th {H : Hp} {p : Addr × Th} (h : RTh H p) (hl : p.2.pins.length ≤ 50000) : DT H (.ref p.1) (thD p.2) := by
  obtain ⟨q, h1, h2⟩ := h
  refine .tup h1 rfl (by show 4 ≤ 50000; decide) fun i x d hx hd => ?_
  match i, hx, hd with
  | 0, hx, hd => cases hx; cases hd; exact .str _
  | 1, hx, hd => cases hx; cases hd; exact .str _
  | 2, hx, hd => cases hx; cases hd; exact .str _
  | 3, hx, hd => cases hx; cases hd; exact dt_strs h2 hl
  | i + 4, hx, hd => simp at hx
theorem dt_ths {H : Hp} {a : Addr} {ps : List (Addr × Th)} (h : H a = some (.tup (vals ps))) (hr : ∀ p ∈ ps, RTh H p) (hl : ps.length ≤ 50000) (hp3 : ∀ p ∈ ps, p.2.pins.length ≤ 3) : DT H (.ref a) (netD (ps.map (·.2))) := by
  refine .tup h (by rw [vals_length, List.length_map, List.length_map]) (by rw [vals_length]; omega) fun i x d hx hd => ?_
  unfold vals at hx
  rw [List.getElem?_map] at hx
  rw [List.map_map, List.getElem?_map] at hd
  obtain ⟨p, hp, rfl⟩ := Option.map_eq_some_iff.mp hx
  rw [hp] at hd
  cases hd
  have hm := List.mem_of_getElem? hp
  exact dt_th (hr p hm) (by have := hp3 p hm; omega)
theorem depth_th (t : Th) : (thD t).depth = 2 := by
  unfold thD
  simp [PyData.depth, PyData.depthAll, depth_strs]
theorem depth_ths : ∀ ts : List Th, PyData.depthAll (ts.map thD) ≤ 2
  | [] => by simp [PyData.depthAll]
  | t :: r => by
    have h := depth_ths r
    simp only [List.map_cons, PyData.depthAll, depth_th]
    omega
theorem depth_net (ts : List Th) : (netD ts).depth < 4 := by
  have h := depth_ths ts
  unfold netD
  simp only [PyData.depth]
  omega
/-! ### what both readers answer -/
theorem thOf_pins {ws : List Str} {t : Th} (h : thOf ws = some t) : t.pins.length ≤ 3 := by
  unfold thOf at h
  split at h
  · rename_i hb
    injection h with h
    subst h
    unfold thB at hb
    rw [Bool.and_eq_true, Bool.and_eq_true] at hb
    have hm := of_decide_eq_true hb.2.1
    show ((namesW ws).drop 1).length ≤ 3
    rw [List.length_drop]
    revert hm
    unfold pinsK
    split
    · simp; omega
    · split
      · simp; omega
      · split
        · simp; omega
        · split
          · simp; omega
          · simp
  · cases h
theorem readL_len : ∀ {os : List (Option Th)} {i : Nat} {rk : Int} {acc ts : List Th}, readL os i rk acc = .inr ts → ts.length ≤ acc.length + os.length
  | [], _, _, _, _, h => by
    cases h
    exact Nat.le_refl _
  | none :: _, _, _, _, _, h => by cases h
  | some t :: r, i, rk, acc, ts, h => by
    unfold readL at h
    split at h
    · cases h
    · have := readL_len h
      rw [List.length_append] at this
      rw [List.length_cons]
      have e : ([t] : List Th).length = 1 := rfl
      omega
theorem readL_mem {Pt : Th → Prop} : ∀ {os : List (Option Th)} {i : Nat} {rk : Int} {acc ts : List Th}, (∀ t, some t ∈ os → Pt t) → (∀ t ∈ acc, Pt t) → readL os i rk acc = .inr ts → ∀ t ∈ ts, Pt t
  | [], _, _, _, _, _, ha, h => by
    cases h
    exact ha
  | none :: _, _, _, _, _, _, _, h => by cases h
  | some t :: r, i, rk, acc, ts, ho, ha, h => by
    unfold readL at h
    split at h
    · cases h
    · refine readL_mem (fun u hu => ho u (List.mem_cons_of_mem _ hu)) (fun u hu => ?_) h
      rcases List.mem_append.mp hu with hu | hu
      · exact ha u hu
      · rw [List.mem_singleton.mp hu]
        exact ho t List.mem_cons_self
def outD : Nat ⊕ List Th → PyData
  | .inl i => .int (i : Int)
  | .inr ts => netD ts
theorem depth_out (r : Nat ⊕ List Th) : (outD r).depth < 4 := by
  cases r with
  | inl i => simp [outD, PyData.depth]
  | inr ts => exact depth_net ts
theorem lines_len {text : Str} (h : text.length ≤ 40000) : (linesT text).length ≤ 40001 := by
  unfold linesT
  split
  · decide
  · have := split_size text "\n" rfl
    omega
theorem dt_out {H : Hp} {v : V} {text : Str} (hl : text.length ≤ 40000) (h : OutV H v (readT text)) : DT H v (outD (readT text)) := by
  cases hr : readT text with
  | inl i =>
    rw [hr] at h
    obtain rfl : v = .int (i : Int) := h
    exact .int _
  | inr ts =>
    rw [hr] at h
    obtain ⟨a, qs, rfl, ha, hq, hR⟩ := h
    have hrt := (readT_lines text).symm.trans hr
    have h1 := readL_len hrt
    have h2 := readL_mem (Pt := fun t => t.pins.length ≤ 3) (fun t ht => by
      obtain ⟨r, _, hr2⟩ := List.mem_map.mp ht
      exact thOf_pins hr2) (fun t ht => by cases ht) hrt
    have h3 := lines_len hl
    rw [List.length_map] at h1
    have e0 : ([] : List Th).length = 0 := rfl
    subst hq
    rw [List.length_map] at h1
    exact dt_ths ha hR (by omega) fun p hp => h2 p.2 (List.mem_map_of_mem hp)
theorem rng_const (n : Nat) : (List.range n).map (fun _ => V.bl true) = (List.replicate n true).map V.bl := by
  rw [List.map_replicate]
  exact List.eq_replicate_iff.mpr ⟨by simp, fun b hb => by obtain ⟨_, _, rfl⟩ := List.mem_map.mp hb; rfl⟩
theorem all_rep (n : Nat) : (List.replicate n true).all id = true := by
  rw [List.all_eq_true]
  intro b hb
  exact List.eq_of_mem_replicate hb
def bdT : Nat → Nat
  | 0 => 660
  | 1 => 3330
  | _ => 16680
def firstT : List Str := ["in a b", "gate a 010101010 b", "gate a 01 b c d e", "reg a 1", "out a", "gate a", "in a\n", "\n"]
section
variable {P : Program} {w : World} {K : PySem.W.Frag} {mg : Str → Option Value} {base : Heap}
theorem ok_someT (T : Env K mg) : FnOk P w K mg base CX0 3 T.f__law_some_net T.fd__law_some_net ["_law_box_here", "_law_most_in", "_law_most_cells", "_law_most_out"] spSome :=
  ok_some T.F__law_some_net ⟨T.f__law_take, T.fd__law_take, T.F__law_take, T.b__law_take, T.g__law_take, T.f__law_bits, T.fd__law_bits, T.F__law_bits, T.b__law_bits, T.g__law_bits, T.f__law_names, T.fd__law_names, T.F__law_names, T.b__law_names, T.g__law_names, T.n_len, T.n_range, T.n_int, T.n_tuple, T.n_min⟩
theorem ok_sameT (T : Env K mg) (n : Nat) : FnOk P w K mg base CX0 n T.f__law_same T.fd__law_same ["_law_found", "_law_due"] (spSame n) := ok_same T.F__law_same T.b__law_same T.g__law_same T.n_isinstance T.n_len T.n_all T.n_zip T.n_list T.n_tuple T.n_bool T.n_int T.n_str n
theorem ok_boxT {k : Nat} (T : Env K mg) : FnOk P w K mg base CX0 (k + 1) T.f__law_box T.fd__law_box ["_law_script"] (spBox K) := ok_box T.F__law_box T.n_list
theorem ok_netTextT {k : Nat} (T : Env K mg) : FnOk P w K mg base CX0 (k + 2) T.f_net_text T.fd_net_text ["netlist"] spNetText := ok_netText T.F_net_text T.F_thing_text T.b_thing_text T.g_thing_text T.n_list
def spLaw (K : PySem.W.Frag) : Sp := fun vs H Q _ => ∃ (a : Addr) (ns : List Int), vs = [.ref a] ∧ SqL K H a (ns.map V.int) ∧ ns.length ≤ 63 ∧ ∀ H', Q (.bl true) H'
theorem ok_law {f : Addr} {fd : FuncData} (F : Fun K "law" "law" sLaw f fd) (T : Env K mg) (Dc : Dcs K w mg) (N : NoN P K mg) : FnOk P w K mg base CX0 5 f fd ["_law_script"] (spLaw K) := by
  refine F.ok scLaw (fun vs H Q E h => ?_) (fun cdv A outer s H vs Q E hr h => ?_)
  · obtain ⟨z, zs, rfl, _⟩ := h
    rfl
  · obtain ⟨a, ns, rfl, hS, hlen, q⟩ := h
    refine ⟨_, pss_cons (ps_set (i := 1) scLaw.nd rfl (.inl rfl) (pe_call (ok_boxT (k := 0) T) (hr.mono (by decide)) (by rfl) T.g__law_box T.F__law_box.kp T.b__law_box .nil pass0 (pa_cons (pv 0) pa_nil)))
      (pss_cons (ps_set (i := 2) scLaw.nd rfl (.inl rfl) (pe_lst (pa_cons pe_str (pa_cons pe_str (pa_cons pe_str (pa_cons pe_str (pa_cons pe_str (pa_cons pe_str (pa_cons pe_str (pa_cons pe_str pa_nil))))))))))
      (pss_cons (ps_for PassesOwn.never rfl (pi_range1 (by rfl) T.n_range (pa_cons pe_int pa_nil)) (pg_name (i := 3) scLaw.nd rfl (.inl rfl)) (pss_cons (ps_set (i := 4) scLaw.nd rfl (.inl rfl) (pe_call (ok_netTextT (k := 0) T) (hr.mono (by decide)) (by rfl) T.g_net_text T.F_net_text.kp T.b_net_text .nil pass0 (pa_cons (pe_call (ok_someT T) (hr.mono (by decide)) (by rfl) T.g__law_some_net T.F__law_some_net.kp T.b__law_some_net .nil pass0 (pa_cons (pv 1) (pa_cons pe_int (pa_cons pe_int (pa_cons pe_int pa_nil))))) pa_nil)))
      (pss_cons (ps_for PassesOwn.never rfl (pi_range1 (by rfl) T.n_range (pa_cons (pe_call (ok_takeT (k := 0) T) (hr.mono (by decide)) (by rfl) T.g__law_take T.F__law_take.kp T.b__law_take .nil pass0 (pa_cons (pv 1) (pa_cons pe_int pa_nil))) pa_nil)) (pg_name (i := 5) scLaw.nd rfl (.inl rfl)) (pss_one (ps_set (i := 4) scLaw.nd rfl (.inl rfl) (pe_call (ok_spoilt (k := 0) T) (hr.mono (by decide)) (by rfl) T.g__law_spoilt T.F__law_spoilt.kp T.b__law_spoilt .nil pass0 (pa_cons (pv 1) (pa_cons (pv 4) pa_nil))))))
      (pss_one (ps_expr (pe_bm PySem.F.plainAttrs_list PySem.F.slot_list_append PySem.F.type_list_append mt_append (pv 2) (pa_cons (pv 4) pa_nil)))))))
      (pss_one (ps_ret (pe_callB (cr_all rfl) (by rfl) T.n_all (by decide +kernel) (pa_cons (pe_lc (own := [("_law_text", 4)]) (g := (gName 4)) (tt := tYes) (te := (tCall (spSame 4) [] E0 (tCons (tCall spTold [] E0 (tCons (tVar 4) tNil)) (tCons (tCall spTold [] E0 (tCons (tVar 4) tNil)) tNil)))) rfl scLaw.nd (pi_list (pv 2)) (blkOk_by (N := nLaw) (sc := defScope sLaw) (by decide +kernel)) (fun _ _ _ _ _ => (pg_name (i := 4) scLaw.nd rfl (.inl rfl))) (fun _ _ _ _ _ => pts_nil) (fun _ _ _ _ _ => (pe_call (ok_sameT T 4) (hr.mono (by decide)) (by rfl) T.g__law_same T.F__law_same.kp T.b__law_same .nil pass0 (pa_cons (pe_call (ok_told T Dc N) (hr.mono (by decide)) (by rfl) T.g__law_told T.F__law_told.kp T.b__law_told .nil pass0 (pa_cons (pv 4) pa_nil)) (pa_cons (pe_call (ok_readT (k := 0) T) (hr.mono (by decide)) (by rfl) T.g__law_read_text T.F__law_read_text.kp T.b__law_read_text .nil pass0 (pa_cons (pv 4) pa_nil)) pa_nil))))) pa_nil)))))), ?_⟩
    refine ⟨.ref a, rfl, a, ns, rfl, hS, fun B H1 x1 nb nl bx => ?_⟩
    refine ⟨by show 8 ≤ sizeLine; decide, fun L nL => ?_⟩
    generalize hH2 : upd H1 L _ = H2
    have hL2 : H2 L = some (.lst (firstT.map V.str)) := by rw [← hH2]; exact upd_same
    have g2 : Go B H1 H2 := hH2 ▸ (Go.refl bx).new nL
    refine ⟨3, rfl, by decide, by decide, ?_⟩
    refine for_range (fun i σ' H' => ∃ (y3 y4 y5 : Option V) (zs : List Str), σ' = [some (.ref a), some (.ref B.b), some (.ref L), y3, y4, y5] ∧ Go B H1 H' ∧ H' L = some (.lst (zs.map V.str)) ∧ (∀ z ∈ zs, z.length ≤ 40000) ∧ zs.length = 8 + i)
      ⟨none, none, none, firstT, rfl, g2, hL2, by decide, rfl⟩ (fun i σ' H' hi p => ?_) (fun σ' H' p => ?_)
    · obtain ⟨y3, y4, y5, zs, rfl, g, hL, hz, hzl⟩ := p
      refine ⟨.ref B.b, rfl, B, 3, 6, 3, rfl, g.bx, by decide, by decide, by decide, fun na ps H3 g3 h1 h2 h3 => ?_⟩
      refine ⟨na, ps, rfl, h1, h2, h3, fun H4 x4 => ?_⟩
      have hL4 := x4 _ _ (g3.strs g.bx hL)
      have g4 : Go B H1 H4 := (g.trans g3).ex x4
      have htl := text_len h3.all
      have hpl : (ps.map (·.2)).length ≤ 12 := h3.len
      generalize textT (ps.map (·.2)) = t0 at *
      have ht0 : t0.length ≤ 660 := by omega
      refine ⟨.ref B.b, rfl, B, 3, rfl, g4.bx, by decide, by decide, fun v H5 hv0 hv1 g5 => ?_⟩
      obtain ⟨m, rfl⟩ : ∃ u : Nat, v = u := ⟨v.toNat, by omega⟩
      have hL5 := g5.strs g4.bx hL4
      refine ⟨(m : Int), rfl, by omega, by omega, ?_⟩
      refine for_range (fun j σ2 H' => ∃ (y5 : Option V) (z : Str), σ2 = [some (.ref a), some (.ref B.b), some (.ref L), some (.int (0 + (i : Int))), some (.str z), y5] ∧ Go B H1 H' ∧ H' L = some (.lst (zs.map V.str)) ∧ z.length ≤ bdT j)
        ⟨y5, t0, rfl, g4.trans g5, hL5, ht0⟩ (fun j σ2 H' hj p => ?_) (fun σ2 H' p => ?_)
      · obtain ⟨y5, z, rfl, g, hL, hzb⟩ := p
        have hj2 : j = 0 ∨ j = 1 := by omega
        have hb4 : bdT j ≤ 4000 := by rcases hj2 with rfl | rfl <;> decide
        have hb5 : 5 * bdT j + 30 ≤ bdT (j + 1) := by rcases hj2 with rfl | rfl <;> decide
        exact ⟨.ref B.b, rfl, .str z, rfl, B, z, rfl, g.bx, by omega, fun z2 H6 hz2 g6 => ⟨_, z2, rfl, g.trans g6, g6.strs g.bx hL, by omega⟩⟩
      · obtain ⟨y5, z, rfl, g, hL, hzb⟩ := p
        have hzb : z.length ≤ bdT m := by first | exact hzb | simpa using hzb
        have hb : bdT m ≤ 40000 := by
          have : m = 0 ∨ m = 1 ∨ m = 2 := by omega
          rcases this with rfl | rfl | rfl <;> decide
        refine ⟨.ref L, rfl, .inl ⟨rfl, _, .inl (.inl hL)⟩, .str z, rfl, L, _, _, rfl, rfl, hL, by rw [List.length_map]; exact Evl.sz_lt (by omega), ?_⟩
        refine ⟨_, _, _, zs ++ [z], rfl, Go.mut bx g nL, by rw [upd_same, List.map_append]; rfl, fun u hu => ?_, by rw [List.length_append, hzl]; rfl⟩
        rcases List.mem_append.mp hu with hu | hu
        · exact hz u hu
        · rw [List.mem_singleton.mp hu]
          omega
    · obtain ⟨y3, y4, y5, zs, rfl, g, hL, hz, hzl⟩ := p
      refine ⟨.ref L, rfl, L, rfl, ⟨_, .inl (.inl hL)⟩, fun D nD => ?_⟩
      refine lc_seq (xs := zs.map V.str) (f := fun _ => .bl true) (j := 4) (by rw [List.length_map]; omega) nD (fun i H' x ex e => ⟨_, _, .inl (.inl (ex _ _ hL)), e⟩) (fun H' ex => ⟨_, .inl (.inl (ex _ _ hL)), Nat.le_refl _⟩) (fun i H' v H'' ex y => ⟨y.1, y.2 _ (.inl (.inl (ex _ _ hL)))⟩) (fun _ => rfl) (fun i x hx H' ex Q' q' => ?_) (fun H3 x3 hD => ?_)
      · rw [List.getElem?_map] at hx
        obtain ⟨z, hzi, rfl⟩ := Option.map_eq_some_iff.mp hx
        have hzk := hz z (List.mem_of_getElem? hzi)
        refine ⟨.str z, rfl, z, rfl, hzk, fun v2 H2 x2 o2 => ⟨.str z, rfl, z, rfl, hzk, fun v3 H3 x3 o3 => ?_⟩⟩
        exact ⟨v2, v3, outD (readT z), rfl, depth_out _, (dt_out hzk o2).mono x3, dt_out hzk o3, fun H4 x4 => q' _ ((x2.trans x3).trans x4)⟩
      · rw [rng_const] at hD
        refine ⟨D, _, rfl, .inl (.inl hD), ?_⟩
        rw [all_rep]
        exact q H3
end
end Tl

namespace Tl
open PySem PySem.Spec PyProof.Rows L2
theorem catches_own {K : PySem.W.Frag} {S : Addr} (h1 : PySem.W.subIn K (.ref S) (.type "BaseException") = some true) (h2 : PySem.W.isClsIn K S = true) (h3 : PySem.W.typeIn K (.ref S) = some (.type "type")) (h4 : PySem.W.subIn K (.ref S) (.ref S) = some true) :
    PySem.W.exmOne K (.ref S) (.ref S) = some true := by
  have a1 : (PySem.W.subIn K (.ref S) (.type "BaseException") == some true) = true := by
    rw [h1]
    rfl
  have a2 : ((PySem.W.clsIn K S).isSome && PySem.W.typeIn K (.ref S) == some (.type "type")) = true := by
    rw [show (PySem.W.clsIn K S).isSome = true from h2, h3]
    rfl
  simp only [PySem.W.exmOne, PySem.W.kitCls, a1, a2, if_true, h4]
theorem all_mk {l : PySem.W.OpenLaw} {w : World} {K : PySem.W.Frag} {h : Heap} {mg : Str → Option Value} {fa f1 f2 f3 f4 f5 f6 f7 f8 f9 f10 f11 f12 f13 f14 f15 f16 f17 f18 : Addr} (X : K.In h) (G : h.Ns mainGlobals mg) (hfa : mg "law" = some (.ref fa))
    {od1 an1 od2 an2 od3 an3 od4 an4 od5 an5 od6 an6 od7 an7 od8 an8 od9 an9 od10 an10 od11 an11 od12 an12 od13 an13 od14 an14 od15 an15 od16 an16 od17 an17 od18 an18 : Option Addr} {sl1 sl2 sl3 sl4 sl5 sl6 sl7 sl8 sl9 sl10 sl11 sl12 sl13 sl14 sl15 sl16 sl17 sl18 : Array (Option Value)} {oc1 kV1 dc1 pm1 cd1 ct1 oc2 kV2 dc2 pm2 cd2 ct2 oc3 kV3 dc3 pm3 cd3 ct3 oc4 kV4 dc4 pm4 cd4 ct4 oc5 kV5 dc5 pm5 cd5 ct5 oc6 kV6 dc6 pm6 cd6 ct6 oc7 kV7 dc7 pm7 cd7 ct7 oc8 kV8 dc8 pm8 cd8 ct8 oc9 kV9 dc9 pm9 cd9 ct9 oc10 kV10 dc10 pm10 cd10 ct10 oc11 kV11 dc11 pm11 cd11 ct11 oc12 kV12 dc12 pm12 cd12 ct12 oc13 kV13 dc13 pm13 cd13 ct13 oc14 kV14 dc14 pm14 cd14 ct14 oc15 kV15 dc15 pm15 cd15 ct15 oc16 kV16 dc16 pm16 cd16 ct16 oc17 kV17 dc17 pm17 cd17 ct17 oc18 kV18 dc18 pm18 cd18 ct18 : Value}
    (a1 : PySem.W.nsIn K mainGlobals "is_name" = some (some (.ref f1))) (l1 : K.lookup f1 = some ⟨oc1, od1, .func (PySem.W.fnOf "is_name" "is_name" (defArgs (topS 9)) (defBody (topS 9)) (defScope (topS 9)) .none kV1 dc1 pm1 an1 cd1 ct1), sl1⟩) (c1 : PySem.W.codeIn K cd1 "is_name" = true) (k1 : PySem.W.keepIn K (.ref f1) = true)
    (a2 : PySem.W.nsIn K mainGlobals "is_bits" = some (some (.ref f2))) (l2 : K.lookup f2 = some ⟨oc2, od2, .func (PySem.W.fnOf "is_bits" "is_bits" (defArgs (topS 10)) (defBody (topS 10)) (defScope (topS 10)) .none kV2 dc2 pm2 an2 cd2 ct2), sl2⟩) (c2 : PySem.W.codeIn K cd2 "is_bits" = true) (k2 : PySem.W.keepIn K (.ref f2) = true)
    (a3 : PySem.W.nsIn K mainGlobals "net_text" = some (some (.ref f3))) (l3 : K.lookup f3 = some ⟨oc3, od3, .func (PySem.W.fnOf "net_text" "net_text" (defArgs (topS 11)) (defBody (topS 11)) (defScope (topS 11)) .none kV3 dc3 pm3 an3 cd3 ct3), sl3⟩) (c3 : PySem.W.codeIn K cd3 "net_text" = true) (k3 : PySem.W.keepIn K (.ref f3) = true)
    (a4 : PySem.W.nsIn K mainGlobals "thing_text" = some (some (.ref f4))) (l4 : K.lookup f4 = some ⟨oc4, od4, .func (PySem.W.fnOf "thing_text" "thing_text" (defArgs (topS 12)) (defBody (topS 12)) (defScope (topS 12)) .none kV4 dc4 pm4 an4 cd4 ct4), sl4⟩) (c4 : PySem.W.codeIn K cd4 "thing_text" = true) (k4 : PySem.W.keepIn K (.ref f4) = true)
    (a5 : PySem.W.nsIn K mainGlobals "net_of" = some (some (.ref f5))) (l5 : K.lookup f5 = some ⟨oc5, od5, .func (PySem.W.fnOf "net_of" "net_of" (defArgs (topS 13)) (defBody (topS 13)) (defScope (topS 13)) .none kV5 dc5 pm5 an5 cd5 ct5), sl5⟩) (c5 : PySem.W.codeIn K cd5 "net_of" = true) (k5 : PySem.W.keepIn K (.ref f5) = true)
    (a6 : PySem.W.nsIn K mainGlobals "thing_of" = some (some (.ref f6))) (l6 : K.lookup f6 = some ⟨oc6, od6, .func (PySem.W.fnOf "thing_of" "thing_of" (defArgs (topS 14)) (defBody (topS 14)) (defScope (topS 14)) .none kV6 dc6 pm6 an6 cd6 ct6), sl6⟩) (c6 : PySem.W.codeIn K cd6 "thing_of" = true) (k6 : PySem.W.keepIn K (.ref f6) = true)
    (a7 : PySem.W.nsIn K mainGlobals "_law_box" = some (some (.ref f7))) (l7 : K.lookup f7 = some ⟨oc7, od7, .func (PySem.W.fnOf "_law_box" "_law_box" (defArgs (topS 16)) (defBody (topS 16)) (defScope (topS 16)) .none kV7 dc7 pm7 an7 cd7 ct7), sl7⟩) (c7 : PySem.W.codeIn K cd7 "_law_box" = true) (k7 : PySem.W.keepIn K (.ref f7) = true)
    (a8 : PySem.W.nsIn K mainGlobals "_law_take" = some (some (.ref f8))) (l8 : K.lookup f8 = some ⟨oc8, od8, .func (PySem.W.fnOf "_law_take" "_law_take" (defArgs (topS 17)) (defBody (topS 17)) (defScope (topS 17)) .none kV8 dc8 pm8 an8 cd8 ct8), sl8⟩) (c8 : PySem.W.codeIn K cd8 "_law_take" = true) (k8 : PySem.W.keepIn K (.ref f8) = true)
    (a9 : PySem.W.nsIn K mainGlobals "_law_same" = some (some (.ref f9))) (l9 : K.lookup f9 = some ⟨oc9, od9, .func (PySem.W.fnOf "_law_same" "_law_same" (defArgs (topS 18)) (defBody (topS 18)) (defScope (topS 18)) .none kV9 dc9 pm9 an9 cd9 ct9), sl9⟩) (c9 : PySem.W.codeIn K cd9 "_law_same" = true) (k9 : PySem.W.keepIn K (.ref f9) = true)
    (a10 : PySem.W.nsIn K mainGlobals "_law_names" = some (some (.ref f10))) (l10 : K.lookup f10 = some ⟨oc10, od10, .func (PySem.W.fnOf "_law_names" "_law_names" (defArgs (topS 19)) (defBody (topS 19)) (defScope (topS 19)) .none kV10 dc10 pm10 an10 cd10 ct10), sl10⟩) (c10 : PySem.W.codeIn K cd10 "_law_names" = true) (k10 : PySem.W.keepIn K (.ref f10) = true)
    (a11 : PySem.W.nsIn K mainGlobals "_law_bits" = some (some (.ref f11))) (l11 : K.lookup f11 = some ⟨oc11, od11, .func (PySem.W.fnOf "_law_bits" "_law_bits" (defArgs (topS 20)) (defBody (topS 20)) (defScope (topS 20)) .none kV11 dc11 pm11 an11 cd11 ct11), sl11⟩) (c11 : PySem.W.codeIn K cd11 "_law_bits" = true) (k11 : PySem.W.keepIn K (.ref f11) = true)
    (a12 : PySem.W.nsIn K mainGlobals "_law_some_net" = some (some (.ref f12))) (l12 : K.lookup f12 = some ⟨oc12, od12, .func (PySem.W.fnOf "_law_some_net" "_law_some_net" (defArgs (topS 21)) (defBody (topS 21)) (defScope (topS 21)) .none kV12 dc12 pm12 an12 cd12 ct12), sl12⟩) (c12 : PySem.W.codeIn K cd12 "_law_some_net" = true) (k12 : PySem.W.keepIn K (.ref f12) = true)
    (a13 : PySem.W.nsIn K mainGlobals "_law_named" = some (some (.ref f13))) (l13 : K.lookup f13 = some ⟨oc13, od13, .func (PySem.W.fnOf "_law_named" "_law_named" (defArgs (topS 22)) (defBody (topS 22)) (defScope (topS 22)) .none kV13 dc13 pm13 an13 cd13 ct13), sl13⟩) (c13 : PySem.W.codeIn K cd13 "_law_named" = true) (k13 : PySem.W.keepIn K (.ref f13) = true)
    (a14 : PySem.W.nsIn K mainGlobals "_law_thing" = some (some (.ref f14))) (l14 : K.lookup f14 = some ⟨oc14, od14, .func (PySem.W.fnOf "_law_thing" "_law_thing" (defArgs (topS 23)) (defBody (topS 23)) (defScope (topS 23)) .none kV14 dc14 pm14 an14 cd14 ct14), sl14⟩) (c14 : PySem.W.codeIn K cd14 "_law_thing" = true) (k14 : PySem.W.keepIn K (.ref f14) = true)
    (a15 : PySem.W.nsIn K mainGlobals "_law_read_text" = some (some (.ref f15))) (l15 : K.lookup f15 = some ⟨oc15, od15, .func (PySem.W.fnOf "_law_read_text" "_law_read_text" (defArgs (topS 24)) (defBody (topS 24)) (defScope (topS 24)) .none kV15 dc15 pm15 an15 cd15 ct15), sl15⟩) (c15 : PySem.W.codeIn K cd15 "_law_read_text" = true) (k15 : PySem.W.keepIn K (.ref f15) = true)
    (a16 : PySem.W.nsIn K mainGlobals "_law_spoilt" = some (some (.ref f16))) (l16 : K.lookup f16 = some ⟨oc16, od16, .func (PySem.W.fnOf "_law_spoilt" "_law_spoilt" (defArgs (topS 25)) (defBody (topS 25)) (defScope (topS 25)) .none kV16 dc16 pm16 an16 cd16 ct16), sl16⟩) (c16 : PySem.W.codeIn K cd16 "_law_spoilt" = true) (k16 : PySem.W.keepIn K (.ref f16) = true)
    (a17 : PySem.W.nsIn K mainGlobals "_law_told" = some (some (.ref f17))) (l17 : K.lookup f17 = some ⟨oc17, od17, .func (PySem.W.fnOf "_law_told" "_law_told" (defArgs (topS 26)) (defBody (topS 26)) (defScope (topS 26)) .none kV17 dc17 pm17 an17 cd17 ct17), sl17⟩) (c17 : PySem.W.codeIn K cd17 "_law_told" = true) (k17 : PySem.W.keepIn K (.ref f17) = true)
    (a18 : PySem.W.nsIn K mainGlobals "law" = some (some (.ref f18))) (l18 : K.lookup f18 = some ⟨oc18, od18, .func (PySem.W.fnOf "law" "law" (defArgs (topS 27)) (defBody (topS 27)) (defScope (topS 27)) .none kV18 dc18 pm18 an18 cd18 ct18), sl18⟩) (c18 : PySem.W.codeIn K cd18 "law" = true) (k18 : PySem.W.keepIn K (.ref f18) = true)
    (z_ValueError : PySem.W.nsIn K mainGlobals "ValueError" = some none)
    (z_all : PySem.W.nsIn K mainGlobals "all" = some none)
    (z_bool : PySem.W.nsIn K mainGlobals "bool" = some none)
    (z_enumerate : PySem.W.nsIn K mainGlobals "enumerate" = some none)
    (z_int : PySem.W.nsIn K mainGlobals "int" = some none)
    (z_isinstance : PySem.W.nsIn K mainGlobals "isinstance" = some none)
    (z_len : PySem.W.nsIn K mainGlobals "len" = some none)
    (z_list : PySem.W.nsIn K mainGlobals "list" = some none)
    (z_min : PySem.W.nsIn K mainGlobals "min" = some none)
    (z_range : PySem.W.nsIn K mainGlobals "range" = some none)
    (z_str : PySem.W.nsIn K mainGlobals "str" = some none)
    (z_super : PySem.W.nsIn K mainGlobals "super" = some none)
    (z_tuple : PySem.W.nsIn K mainGlobals "tuple" = some none)
    (z_zip : PySem.W.nsIn K mainGlobals "zip" = some none)
    {tkLETTERS : Tok} (c_LETTERS : PySem.W.nsIn K mainGlobals "LETTERS" = some (some (.str "abcdefghijklmnopqrstuvwxyz" tkLETTERS)))
    {tkLONGEST_NAME : Tok} (c_LONGEST_NAME : PySem.W.nsIn K mainGlobals "LONGEST_NAME" = some (some (.int 8 tkLONGEST_NAME)))
    {tkLONGEST_BITS : Tok} (c_LONGEST_BITS : PySem.W.nsIn K mainGlobals "LONGEST_BITS" = some (some (.int 8 tkLONGEST_BITS)))
    {aKRANKS : Addr} {esKRANKS : Array DictEntry} {nKRANKS : Nat} (aK_RANKS : PySem.W.nsIn K mainGlobals "RANKS" = some (some (.ref aKRANKS))) (lK_RANKS : K.lookup aKRANKS = some ⟨.type "dict", none, .dict esKRANKS nKRANKS, #[]⟩) (hK_RANKS : PySem.W.KeysLit w.params esKRANKS.toList)
    {tKRANKS_in : Tok} (eK_RANKS_in : PySem.W.nsIn K aKRANKS "in" = some (some (.int 0 tKRANKS_in)))
    {tKRANKS_gate : Tok} (eK_RANKS_gate : PySem.W.nsIn K aKRANKS "gate" = some (some (.int 1 tKRANKS_gate)))
    {tKRANKS_reg : Tok} (eK_RANKS_reg : PySem.W.nsIn K aKRANKS "reg" = some (some (.int 1 tKRANKS_reg)))
    {tKRANKS_out : Tok} (eK_RANKS_out : PySem.W.nsIn K aKRANKS "out" = some (some (.int 2 tKRANKS_out)))
    {aKPIN_COUNTS : Addr} {esKPIN_COUNTS : Array DictEntry} {nKPIN_COUNTS : Nat} (aK_PIN_COUNTS : PySem.W.nsIn K mainGlobals "PIN_COUNTS" = some (some (.ref aKPIN_COUNTS))) (lK_PIN_COUNTS : K.lookup aKPIN_COUNTS = some ⟨.type "dict", none, .dict esKPIN_COUNTS nKPIN_COUNTS, #[]⟩) (hK_PIN_COUNTS : PySem.W.KeysLit w.params esKPIN_COUNTS.toList) (sK_PIN_COUNTS : (aKPIN_COUNTS == sysModules) = false)
    {tTPIN_COUNTS_in : Addr} {ddTPIN_COUNTS_in : Option Addr} {slTPIN_COUNTS_in : Array (Option Value)} {nTPIN_COUNTS_in : Nat} {tTPIN_COUNTS_in_0 : Tok} (eK_PIN_COUNTS_in : PySem.W.nsIn K aKPIN_COUNTS "in" = some (some (.ref tTPIN_COUNTS_in))) (lT_PIN_COUNTS_in : K.lookup tTPIN_COUNTS_in = some ⟨.type "tuple", ddTPIN_COUNTS_in, .seq #[.int 0 tTPIN_COUNTS_in_0] nTPIN_COUNTS_in, slTPIN_COUNTS_in⟩)
    {tTPIN_COUNTS_gate : Addr} {ddTPIN_COUNTS_gate : Option Addr} {slTPIN_COUNTS_gate : Array (Option Value)} {nTPIN_COUNTS_gate : Nat} {tTPIN_COUNTS_gate_0 tTPIN_COUNTS_gate_1 tTPIN_COUNTS_gate_2 tTPIN_COUNTS_gate_3 : Tok} (eK_PIN_COUNTS_gate : PySem.W.nsIn K aKPIN_COUNTS "gate" = some (some (.ref tTPIN_COUNTS_gate))) (lT_PIN_COUNTS_gate : K.lookup tTPIN_COUNTS_gate = some ⟨.type "tuple", ddTPIN_COUNTS_gate, .seq #[.int 0 tTPIN_COUNTS_gate_0, .int 1 tTPIN_COUNTS_gate_1, .int 2 tTPIN_COUNTS_gate_2, .int 3 tTPIN_COUNTS_gate_3] nTPIN_COUNTS_gate, slTPIN_COUNTS_gate⟩)
    {tTPIN_COUNTS_reg : Addr} {ddTPIN_COUNTS_reg : Option Addr} {slTPIN_COUNTS_reg : Array (Option Value)} {nTPIN_COUNTS_reg : Nat} {tTPIN_COUNTS_reg_0 : Tok} (eK_PIN_COUNTS_reg : PySem.W.nsIn K aKPIN_COUNTS "reg" = some (some (.ref tTPIN_COUNTS_reg))) (lT_PIN_COUNTS_reg : K.lookup tTPIN_COUNTS_reg = some ⟨.type "tuple", ddTPIN_COUNTS_reg, .seq #[.int 1 tTPIN_COUNTS_reg_0] nTPIN_COUNTS_reg, slTPIN_COUNTS_reg⟩)
    {tTPIN_COUNTS_out : Addr} {ddTPIN_COUNTS_out : Option Addr} {slTPIN_COUNTS_out : Array (Option Value)} {nTPIN_COUNTS_out : Nat} {tTPIN_COUNTS_out_0 : Tok} (eK_PIN_COUNTS_out : PySem.W.nsIn K aKPIN_COUNTS "out" = some (some (.ref tTPIN_COUNTS_out))) (lT_PIN_COUNTS_out : K.lookup tTPIN_COUNTS_out = some ⟨.type "tuple", ddTPIN_COUNTS_out, .seq #[.int 1 tTPIN_COUNTS_out_0] nTPIN_COUNTS_out, slTPIN_COUNTS_out⟩)
    (mK_PIN_COUNTS : PySem.W.nsIn K aKPIN_COUNTS "" = some none)
    (xK_PIN_COUNTS : ∀ z : Str, z ∉ (["in", "gate", "reg", "out"] : List Str) → esKPIN_COUNTS.toList.find? (·.key.isStr z) = none ∧ esKPIN_COUNTS.toList.any (·.refKey) = false)
    {C fI cda cc : Addr} {nmN qN : Str} {NN : Addr} {bsN bmN subN : List Value} {snN : List Str} {abN : Bool} {colN : Option Bool} {ddN : Option Addr} {k0N k1N k2N k3N k5N : Option Value} {ocN kVN dcN pmN ctN : Value} {odN anN : Option Addr} {slN : Array (Option Value)} {cclN : Value} {cddN : Option Addr} {vsN : Array Value} {ccsN : Array (Option Value)} {fileN : Str} {tfN : Tok} {clN : Value} {cldN : Option Addr} {cslN : Array (Option Value)}
    (aC : PySem.W.nsIn K mainGlobals "NoNet" = some (some (.ref C))) (lC : K.lookup C = some (excClassObj nmN qN C NN bsN bmN true snN subN abN colN ddN k0N k1N k2N k3N k5N "ValueError.__new__")) (hbm : PySem.HandSPX.refsVE bmN = true)
    (sa : PySem.W.findIn K (.ref C) "__setattr__" = some (some (.builtin "object.__setattr__"))) (exC : PySem.W.subIn K (.ref C) (.type "BaseException") = some true) (tyC : PySem.W.typeIn K (.ref C) = some (.type "type")) (kC : PySem.W.keepIn K (.ref C) = true)
    (aI : PySem.W.findIn K (.ref C) "__init__" = some (some (.ref fI))) (tI : PySem.W.typeIn K (.ref fI) = some (.type "function"))
    (lI : K.lookup fI = some ⟨ocN, odN, .func (PySem.W.ksFn "__init__" "NoNet.__init__" (defArgs sNoNet) (defBody sNoNet) (defScope sNoNet) .none kVN dcN pmN anN (.ref cda) ctN cc), slN⟩) (cI : PySem.W.codeIn K (.ref cda) "NoNet.__init__" = true)
    (lc : K.lookup cda = some ⟨cclN, cddN, .fields vsN, ccsN⟩) (hvs : vsN[2]? = some (.str fileN tfN)) (hfile : ((l.prog.main.file : Str) == fileN) = true) (htop : (l.prog.main.scope.names.lookup ("super" : Str)).isSome = false)
    (lcell : K.lookup cc = some ⟨clN, cldN, .cell (some (.ref C)), cslN⟩)
    (sub' : PySem.W.mroIn K C (.ref C) = some true) (opq : PySem.W.nsIn K cStatics "thirdparty.any" = some none) (sin : PySem.W.ks_superIn K C C "__init__" = some (some (.builtin "ValueError.__init__"))) (isB : PySem.W.subIn K (.ref C) (.type "ValueError") = some true) (nof : PySem.W.findIn K (.ref C) "row" = some none) (ms : PySem.W.nsIn K mainGlobals "super" = some none)
    (ga : PySem.W.findIn K (.ref C) "__getattribute__" = some (some (.builtin "BaseException.__getattribute__"))) (gg : PySem.W.findIn K (.ref C) "__getattr__" = some none) (hdC : PySem.W.hasDictIn K C = true) (icC : PySem.W.isClsIn K C = true) (sbC : PySem.W.subIn K (.ref C) (.ref C) = some true)
    : ∃ fd : FuncData, (∀ (s : Shared) (v : Value), BindsTo s fd ⟨[v], []⟩ [("_law_script", v)]) ∧ ∀ base : Heap, K.In base → base.Ns mainGlobals mg → FnOk l.prog w K mg base CX0 5 fa fd ["_law_script"] (spLaw K) := by
  have e := hfa.symm.trans (PySem.W.mg_of X G a18)
  cases e
  have F1 := fun_mk (st := topS 9) l1 c1 k1
  have b1 := F1.binds (ps := ["name"]) fun _ _ _ _ _ _ us hl => match us, hl with | [_], _ => rfl
  have F2 := fun_mk (st := topS 10) l2 c2 k2
  have b2 := F2.binds (ps := ["text"]) fun _ _ _ _ _ _ us hl => match us, hl with | [_], _ => rfl
  have F3 := fun_mk (st := topS 11) l3 c3 k3
  have b3 := F3.binds (ps := ["netlist"]) fun _ _ _ _ _ _ us hl => match us, hl with | [_], _ => rfl
  have F4 := fun_mk (st := topS 12) l4 c4 k4
  have b4 := F4.binds (ps := ["thing"]) fun _ _ _ _ _ _ us hl => match us, hl with | [_], _ => rfl
  have F5 := fun_mk (st := topS 13) l5 c5 k5
  have b5 := F5.binds (ps := ["text"]) fun _ _ _ _ _ _ us hl => match us, hl with | [_], _ => rfl
  have F6 := fun_mk (st := topS 14) l6 c6 k6
  have b6 := F6.binds (ps := ["row"]) fun _ _ _ _ _ _ us hl => match us, hl with | [_], _ => rfl
  have F7 := fun_mk (st := topS 16) l7 c7 k7
  have b7 := F7.binds (ps := ["_law_script"]) fun _ _ _ _ _ _ us hl => match us, hl with | [_], _ => rfl
  have F8 := fun_mk (st := topS 17) l8 c8 k8
  have b8 := F8.binds (ps := ["_law_box_here", "_law_many"]) fun _ _ _ _ _ _ us hl => match us, hl with | [_, _], _ => rfl
  have F9 := fun_mk (st := topS 18) l9 c9 k9
  have b9 := F9.binds (ps := ["_law_found", "_law_due"]) fun _ _ _ _ _ _ us hl => match us, hl with | [_, _], _ => rfl
  have F10 := fun_mk (st := topS 19) l10 c10 k10
  have b10 := F10.binds (ps := ["_law_box_here", "_law_sides"]) fun _ _ _ _ _ _ us hl => match us, hl with | [_, _], _ => rfl
  have F11 := fun_mk (st := topS 20) l11 c11 k11
  have b11 := F11.binds (ps := ["_law_box_here", "_law_many"]) fun _ _ _ _ _ _ us hl => match us, hl with | [_, _], _ => rfl
  have F12 := fun_mk (st := topS 21) l12 c12 k12
  have b12 := F12.binds (ps := ["_law_box_here", "_law_most_in", "_law_most_cells", "_law_most_out"]) fun _ _ _ _ _ _ us hl => match us, hl with | [_, _, _, _], _ => rfl
  have F13 := fun_mk (st := topS 22) l13 c13 k13
  have b13 := F13.binds (ps := ["_law_word"]) fun _ _ _ _ _ _ us hl => match us, hl with | [_], _ => rfl
  have F14 := fun_mk (st := topS 23) l14 c14 k14
  have b14 := F14.binds (ps := ["_law_line"]) fun _ _ _ _ _ _ us hl => match us, hl with | [_], _ => rfl
  have F15 := fun_mk (st := topS 24) l15 c15 k15
  have b15 := F15.binds (ps := ["_law_text"]) fun _ _ _ _ _ _ us hl => match us, hl with | [_], _ => rfl
  have F16 := fun_mk (st := topS 25) l16 c16 k16
  have b16 := F16.binds (ps := ["_law_box_here", "_law_text"]) fun _ _ _ _ _ _ us hl => match us, hl with | [_, _], _ => rfl
  have F17 := fun_mk (st := topS 26) l17 c17 k17
  have b17 := F17.binds (ps := ["_law_text"]) fun _ _ _ _ _ _ us hl => match us, hl with | [_], _ => rfl
  have F18 := fun_mk (st := topS 27) l18 c18 k18
  have N := fun {x : Str} (z : PySem.W.nsIn K mainGlobals x = some none) => PySem.W.mg_none_of X G z
  have M := fun {x : Str} {v : Value} (z : PySem.W.nsIn K mainGlobals x = some (some v)) => PySem.W.mg_of X G z
  refine ⟨PySem.W.fnOf "law" "law" (defArgs (topS 27)) (defBody (topS 27)) (defScope (topS 27)) .none kV18 dc18 pm18 an18 cd18 ct18, fun s v => .of_eq rfl, fun base _ _ => ok_law F18 ?_ ?_ ?_⟩
  · exact ⟨f1, _, F1, b1, M a1, f2, _, F2, b2, M a2, f3, _, F3, b3, M a3, f4, _, F4, b4, M a4, f5, _, F5, b5, M a5, f6, _, F6, b6, M a6, f7, _, F7, b7, M a7, f8, _, F8, b8, M a8, f9, _, F9, b9, M a9, f10, _, F10, b10, M a10, f11, _, F11, b11, M a11, f12, _, F12, b12, M a12, f13, _, F13, b13, M a13, f14, _, F14, b14, M a14, f15, _, F15, b15, M a15, f16, _, F16, b16, M a16, f17, _, F17, b17, M a17, N z_ValueError, N z_all, N z_bool, N z_enumerate, N z_int, N z_isinstance, N z_len, N z_list, N z_min, N z_range, N z_str, N z_super, N z_tuple, N z_zip, _, M c_LETTERS, ⟨_, rfl⟩, _, M c_LONGEST_NAME, ⟨_, rfl⟩, _, M c_LONGEST_BITS, ⟨_, rfl⟩⟩
  · exact ⟨aKRANKS, M aK_RANKS, ⟨esKRANKS, nKRANKS, _, lK_RANKS, hK_RANKS, eK_RANKS_in, ⟨_, rfl⟩⟩, ⟨esKRANKS, nKRANKS, _, lK_RANKS, hK_RANKS, eK_RANKS_gate, ⟨_, rfl⟩⟩, ⟨esKRANKS, nKRANKS, _, lK_RANKS, hK_RANKS, eK_RANKS_reg, ⟨_, rfl⟩⟩, ⟨esKRANKS, nKRANKS, _, lK_RANKS, hK_RANKS, eK_RANKS_out, ⟨_, rfl⟩⟩, aKPIN_COUNTS, M aK_PIN_COUNTS, sK_PIN_COUNTS, ⟨_, lK_PIN_COUNTS, rfl, rfl⟩, ⟨tTPIN_COUNTS_in, ⟨esKPIN_COUNTS, nKPIN_COUNTS, _, lK_PIN_COUNTS, hK_PIN_COUNTS, eK_PIN_COUNTS_in, rfl⟩, fun H => .inr ⟨_, _, _, lT_PIN_COUNTS_in, rfl, rfl, by show 1 ≤ sizeLine; decide, (.cons ⟨_, rfl⟩ .nil)⟩⟩, ⟨tTPIN_COUNTS_gate, ⟨esKPIN_COUNTS, nKPIN_COUNTS, _, lK_PIN_COUNTS, hK_PIN_COUNTS, eK_PIN_COUNTS_gate, rfl⟩, fun H => .inr ⟨_, _, _, lT_PIN_COUNTS_gate, rfl, rfl, by show 4 ≤ sizeLine; decide, (.cons ⟨_, rfl⟩ (.cons ⟨_, rfl⟩ (.cons ⟨_, rfl⟩ (.cons ⟨_, rfl⟩ .nil))))⟩⟩, ⟨tTPIN_COUNTS_reg, ⟨esKPIN_COUNTS, nKPIN_COUNTS, _, lK_PIN_COUNTS, hK_PIN_COUNTS, eK_PIN_COUNTS_reg, rfl⟩, fun H => .inr ⟨_, _, _, lT_PIN_COUNTS_reg, rfl, rfl, by show 1 ≤ sizeLine; decide, (.cons ⟨_, rfl⟩ .nil)⟩⟩, ⟨tTPIN_COUNTS_out, ⟨esKPIN_COUNTS, nKPIN_COUNTS, _, lK_PIN_COUNTS, hK_PIN_COUNTS, eK_PIN_COUNTS_out, rfl⟩, fun H => .inr ⟨_, _, _, lT_PIN_COUNTS_out, rfl, rfl, by show 1 ≤ sizeLine; decide, (.cons ⟨_, rfl⟩ .nil)⟩⟩, ⟨esKPIN_COUNTS, nKPIN_COUNTS, lK_PIN_COUNTS, hK_PIN_COUNTS, sK_PIN_COUNTS, mK_PIN_COUNTS⟩, ⟨esKPIN_COUNTS, nKPIN_COUNTS, ⟨lK_PIN_COUNTS, hK_PIN_COUNTS, sK_PIN_COUNTS⟩, fun z hz => ns_miss lK_PIN_COUNTS (xK_PIN_COUNTS z hz).1 (xK_PIN_COUNTS z hz).2⟩⟩
  · exact ⟨C, fI, cda, cc, _, M aC, ⟨⟨⟨nmN, qN, NN, bsN, bmN, snN, subN, abN, colN, ddN, k0N, k1N, k2N, k3N, k5N, lC, hbm⟩, sa, exC, tyC, kC⟩, ⟨cclN, cddN, vsN, ccsN, fileN, tfN, lc, hvs, hfile⟩, htop, ⟨clN, cldN, cslN, lcell⟩, sub', opq, sin, isB, N ms, nof⟩, ⟨ocN, kVN, dcN, pmN, ctN, odN, anN, slN, rfl, lI⟩, cI, aI, tI, ⟨ga, gg, exC, hdC⟩, catches_own exC icC tyC sbC⟩
end Tl
open PySem PySem.W PyProof.Rows
set_option maxHeartbeats 0 in
theorem PySem.Challenge.cw_tracklay_k04_texts_read_or_refused_holds : PySem.Challenge.rw_tracklay_k04_texts_read_or_refused.Holds := by
  w_on; o_law; k_head; (case hw => w_witness2)
  k_fill
  refine L2.walk_of (l := PySem.Challenge.rw_tracklay_k04_texts_read_or_refused) (n := 63) (k := 5) (x := "_law_script") (CX := fun _ => L2.CX0) (sp := fun w => Tl.spLaw _) rfl (by decide) rfl ⟨rfl, by decide, by decide⟩ (fun w h Y => PySem.W.kIn_of Y) ?F (fun _ _ a ns hl _ hS => ⟨a, ns, rfl, hS, hl, fun _ => rfl⟩) (fun _ _ _ _ _ h => h)
  case F =>
    intro w mg fa h KX G hmg
    refine' Tl.all_mk (l := PySem.Challenge.rw_tracklay_k04_texts_read_or_refused) KX G hmg ?a1 ?l1 ?c1 ?k1 ?a2 ?l2 ?c2 ?k2 ?a3 ?l3 ?c3 ?k3 ?a4 ?l4 ?c4 ?k4 ?a5 ?l5 ?c5 ?k5 ?a6 ?l6 ?c6 ?k6 ?a7 ?l7 ?c7 ?k7 ?a8 ?l8 ?c8 ?k8 ?a9 ?l9 ?c9 ?k9 ?a10 ?l10 ?c10 ?k10 ?a11 ?l11 ?c11 ?k11 ?a12 ?l12 ?c12 ?k12 ?a13 ?l13 ?c13 ?k13 ?a14 ?l14 ?c14 ?k14 ?a15 ?l15 ?c15 ?k15 ?a16 ?l16 ?c16 ?k16 ?a17 ?l17 ?c17 ?k17 ?a18 ?l18 ?c18 ?k18 ?z_ValueError ?z_all ?z_bool ?z_enumerate ?z_int ?z_isinstance ?z_len ?z_list ?z_min ?z_range ?z_str ?z_super ?z_tuple ?z_zip ?c_LETTERS ?c_LONGEST_NAME ?c_LONGEST_BITS ?aK_RANKS ?lK_RANKS ?hK_RANKS ?eK_RANKS_in ?eK_RANKS_gate ?eK_RANKS_reg ?eK_RANKS_out ?aK_PIN_COUNTS ?lK_PIN_COUNTS ?hK_PIN_COUNTS ?sK_PIN_COUNTS ?eK_PIN_COUNTS_in ?lT_PIN_COUNTS_in ?eK_PIN_COUNTS_gate ?lT_PIN_COUNTS_gate ?eK_PIN_COUNTS_reg ?lT_PIN_COUNTS_reg ?eK_PIN_COUNTS_out ?lT_PIN_COUNTS_out ?mK_PIN_COUNTS ?xK_PIN_COUNTS ?aC ?lC ?hbm ?sa ?exC ?tyC ?kC ?aI ?tI ?lI ?cI ?lc ?hvs ?hfile ?htop ?lcell ?sub' ?opq ?sin ?isB ?nof ?ms ?ga ?gg ?hdC ?icC ?sbC
    (case a1 => k_is)
    (case l1 => k_is)
    (case c1 => k_is)
    (case k1 => k_is)
    (case a2 => k_is)
    (case l2 => k_is)
    (case c2 => k_is)
    (case k2 => k_is)
    (case a3 => k_is)
    (case l3 => k_is)
    (case c3 => k_is)
    (case k3 => k_is)
    (case a4 => k_is)
    (case l4 => k_is)
    (case c4 => k_is)
    (case k4 => k_is)
    (case a5 => k_is)
    (case l5 => k_is)
    (case c5 => k_is)
    (case k5 => k_is)
    (case a6 => k_is)
    (case l6 => k_is)
    (case c6 => k_is)
    (case k6 => k_is)
    (case a7 => k_is)
    (case l7 => k_is)
    (case c7 => k_is)
    (case k7 => k_is)
    (case a8 => k_is)
    (case l8 => k_is)
    (case c8 => k_is)
    (case k8 => k_is)
    (case a9 => k_is)
    (case l9 => k_is)
    (case c9 => k_is)
    (case k9 => k_is)
    (case a10 => k_is)
    (case l10 => k_is)
    (case c10 => k_is)
    (case k10 => k_is)
    (case a11 => k_is)
    (case l11 => k_is)
    (case c11 => k_is)
    (case k11 => k_is)
    (case a12 => k_is)
    (case l12 => k_is)
    (case c12 => k_is)
    (case k12 => k_is)
    (case a13 => k_is)
    (case l13 => k_is)
    (case c13 => k_is)
    (case k13 => k_is)
    (case a14 => k_is)
    (case l14 => k_is)
    (case c14 => k_is)
    (case k14 => k_is)
    (case a15 => k_is)
    (case l15 => k_is)
    (case c15 => k_is)
    (case k15 => k_is)
    (case a16 => k_is)
    (case l16 => k_is)
    (case c16 => k_is)
    (case k16 => k_is)
    (case a17 => k_is)
    (case l17 => k_is)
    (case c17 => k_is)
    (case k17 => k_is)
    (case a18 => k_is)
    (case l18 => k_is)
    (case c18 => k_is)
    (case k18 => k_is)
    (case z_ValueError => k_is)
    (case z_all => k_is)
    (case z_bool => k_is)
    (case z_enumerate => k_is)
    (case z_int => k_is)
    (case z_isinstance => k_is)
    (case z_len => k_is)
    (case z_list => k_is)
    (case z_min => k_is)
    (case z_range => k_is)
    (case z_str => k_is)
    (case z_super => k_is)
    (case z_tuple => k_is)
    (case z_zip => k_is)
    (case c_LETTERS => k_is)
    (case c_LONGEST_NAME => k_is)
    (case c_LONGEST_BITS => k_is)
    (case aK_RANKS => k_is)
    (case lK_RANKS => k_is)
    (case hK_RANKS => first | exact ⟨⟨_, _, rfl, rfl⟩, ⟨_, _, rfl, rfl⟩, ⟨_, _, rfl, rfl⟩, ⟨_, _, rfl, rfl⟩, trivial⟩ | k_is)
    (case eK_RANKS_in => k_is)
    (case eK_RANKS_gate => k_is)
    (case eK_RANKS_reg => k_is)
    (case eK_RANKS_out => k_is)
    (case aK_PIN_COUNTS => k_is)
    (case lK_PIN_COUNTS => k_is)
    (case hK_PIN_COUNTS => first | exact ⟨⟨_, _, rfl, rfl⟩, ⟨_, _, rfl, rfl⟩, ⟨_, _, rfl, rfl⟩, ⟨_, _, rfl, rfl⟩, trivial⟩ | k_is)
    (case sK_PIN_COUNTS => first | rfl | decide | k_is)
    (case eK_PIN_COUNTS_in => k_is)
    (case lT_PIN_COUNTS_in => k_is)
    (case eK_PIN_COUNTS_gate => k_is)
    (case lT_PIN_COUNTS_gate => k_is)
    (case eK_PIN_COUNTS_reg => k_is)
    (case lT_PIN_COUNTS_reg => k_is)
    (case eK_PIN_COUNTS_out => k_is)
    (case lT_PIN_COUNTS_out => k_is)
    (case mK_PIN_COUNTS => k_is)
    (case xK_PIN_COUNTS => exact fun z hz => Tl.miss_of (by first | rfl | kernel_rfl | simp) hz)
    (case aC => k_is)
    (case lC => k_is)
    (case hbm => first | rfl | decide | k_is)
    (case sa => k_is)
    (case exC => k_is)
    (case tyC => k_is)
    (case kC => k_is)
    (case aI => k_is)
    (case tI => k_is)
    (case lI => k_is)
    (case cI => k_is)
    (case lc => k_is)
    (case hvs => first | rfl | decide | k_is)
    (case hfile => first | rfl | decide +kernel | k_is)
    (case htop => first | rfl | decide +kernel | k_is)
    (case lcell => k_is)
    (case sub' => k_is)
    (case opq => k_is)
    (case sin => ks_is)
    (case isB => k_is)
    (case nof => k_is)
    (case ms => k_is)
    (case ga => k_is)
    (case gg => k_is)
    (case hdC => k_is)
    (case icC => k_is)
    (case sbC => first | rfl | k_is)
