import PyProof.Rows.All
import Wide.All
import OpenK.AllK
import Wide.FinOn
import HandS.Base
import HandS.Call
import HandS.List
import HandS.Ends
import HandS.Exc
import HandS.ExcInit
import HandS.ClsMeth
import HandS.Words
import PyProof.ReprRoads
import HandS.ExcField
import HandS.TryMany
import HandS.Dict
import KE.GoesEnum
import HandS.Iter
import HandS.Strs
import HandS.Style
import HandS.TupAny
import HandS.SortInts
import HandS.Comp
import HandS.ForMost
import HandS.ForExc
import HandS.IsInst
import HandS.Defaults
import HandS.Conv
import KE.KSortedM
import PySem.Challenge.RW_cellyards_k03_orders_and_ranks
set_option Elab.async false
set_option linter.all false
set_option maxRecDepth 100000
set_option maxHeartbeats 8000000
/-! ### the ground of all laws: what is relied on where no repr is under way -/
namespace Cy
open PySem PySem.Spec PyProof.Rows L2
structure FnG (P : Program) (w : World) (K : PySem.W.Frag) (mg : Str → Option Value) (base : Heap) (CX : CXT)
    (k : Nat) (f : Addr) (fd : FuncData) (ps : List Str) (sp : Sp) : Prop where
  len : ∀ vs H Q E, sp vs H Q E → vs.length = ps.length
  run : ∀ (A : Around) (outer : List Env) (s : Shared) (H : Hp) (args : Args) (us : List Value) (vs : List V) (Q : VK) (E : XK),
    A.guards = some [] → Room k A → Env0 P w K mg base A outer s H → BindsTo s fd args (ps.zip us) → Vals vs us →
    sp vs H Q E → codeAny (model P w) A (.call (.ref f) args) (CR CX outer P w H s Q E) s
section
variable {X : Cx} {k : Nat} {f : Addr} {fd : FuncData} {ps : List Str} {sp : Sp} {x : Str} {p pos : Pos} {e : Expr} {es : List Expr} {t : TA}
theorem run_g {pins : List (Addr × Obj)} {σ : L2.St} {H : Hp} {s : Shared} {Q : VK} {us : List Value} {vs : List V}
    (F : FnG X.prog X.w X.K X.mg X.base CX0 k f fd ps sp) (gu : X.A.guards = some []) (hr : Room k X.A)
    (hb : Binds X.K fd ps []) (I : Inv X pins σ H s) (r : Vals vs us) (h : sp vs H Q E0) :
    wpAny (model X.prog X.w) X.A (call (.ref f) us) (EP X pins σ Q) X.xe s := by
  have hl : us.length = ps.length := r.length.symm.trans (F.len _ _ _ _ h)
  have bb := hb s us I.kIn (by rw [List.append_nil]; exact hl)
  rw [List.append_nil] at bb
  have c := F.run X.A X.stack s H ⟨us, []⟩ us vs Q E0 gu hr I.env0 bb r h
  refine wpAny_call (codeAny_mono c ?_)
  intro res s' hq
  match res, hq with
  | .ok (.ret u), hq => exact I.after hq
  | .ok .next, hq => exact hq.elim
  | .ok .brk, hq => exact hq.elim
  | .ok .cont, hq => exact hq.elim
  | .error e, hq => exact hq.elim
/-- f(e, ..), f such a def -/
theorem pe_callG (F : FnG X.prog X.w X.K X.mg X.base CX0 k f fd ps sp) (gu : X.A.guards = some []) (hr : Room k X.A)
    (hg : Gl X x) (hm : X.mg x = some (.ref f)) (hk : PySem.W.keepIn X.K (.ref f) = true) (hb : Binds X.K fd ps [])
    (ha : PA X (e :: es) t) (hdb : (x == ("__debug__" : Str)) = false := by decide)
    (he : starEach (e :: es) X.env = (false, eval e X.env) :: starEach es X.env := by rfl)
    (hpl : (backTo pos (starEach es X.env)).any (·.1) = false := by rfl) :
    PE X (.Call (.Name x p) (e :: es) [] pos) (fun σ H Q => t σ H fun vs H1 => sp vs H1 Q E0) := by
  constructor
  intro pins s σ H Q I h
  apply wpAny_Call_Name_kw
  refine ld_glob I hg hm ?_ hdb
  refine PySem.W.callWith_K (h₀ := X.base) I.ok.mod.kin hk ?_ he hpl
  refine thn (ha.run pos pins s σ H _ I h) ?_
  rintro us s1 ⟨vs, H1, I1, r, q⟩
  exact ⟨I1.kIn, run_g F gu hr hb I1 r q⟩
end
section
variable {P : Program} {w : World} {K : PySem.W.Frag} {mg : Str → Option Value} {base : Heap}
theorem okG {x qual : Str} {st : Stmt} {f : Addr} {fd : FuncData} {N ps : List Str} {k : Nat} {sp : Sp}
    (F : Fun K x qual st f fd) (S : FnScope N ps (defScope st)) (len : ∀ vs H Q E, sp vs H Q E → vs.length = ps.length)
    (hbody : ∀ (cdv : Value) (A : Around) (outer : List Env) (s : Shared) (H : Hp) (vs : List V) (Q : VK) (E : XK),
      (A.deeper (envOfC qual (defScope st) s.heap.objs.size f cdv)).guards = some [] →
      Room k (A.deeper (envOfC qual (defScope st) s.heap.objs.size f cdv)) → sp vs H Q E →
      ∃ t, PSs (cxOf CX0 P w K mg base N qual (defScope st) f cdv A outer s H E).nox (defBody st) t ∧
        t { nx := fun _ H' => Q .non H', rt := Q } (start N vs) H) : FnG P w K mg base CX0 (k + 1) f fd ps sp := by
  obtain ⟨oc, od, kV, doc, pm, an, cdv, ct, osl, rfl, lk, hcd⟩ := F.ex
  refine ⟨len, ?_⟩
  intro A outer s H args us vs Q E gu hr e0 hb r hsp
  have hl := len _ _ _ _ hsp
  have KX : K.In s.heap := e0.mod.kin.keeps (fun b o e => And.left (e0.bs b o e))
  have lim : s.heap.NoLimit := e0.mod.nolimit.keeps (fun b o e => And.left (e0.bs b o e))
  have hkind : ∀ y ∈ ps.zip us, (defScope st).names.lookup y.1 = some .local ∨
      ((defScope st).names.lookup y.1 = some .cell ∧
        ((cellsFrom (s.heap.objs.size + 1) (defScope st).names []).lookup y.1).isSome = true) := by
    rintro ⟨n, v⟩ hy
    cases S.par n (List.of_mem_zip hy).1 with
    | inl q => exact Or.inl q
    | inr q => exact Or.inr ⟨q, PySem.W.cellsFrom_some _ _ _ (Or.inl q)⟩
  apply codeAny_call_function hr.depth (KX _ _ lk) rfl S.co S.gen rfl (PySem.W.codeRec_of KX hcd) (hb _ _ _ _ _)
  apply wpAny_newFunctionEnv_cells S.kind hkind
  rintro env rfl s1 x1
  refine ⟨lim.keeps x1.toInCall.keep, codeAny_func ?_⟩
  obtain ⟨t, ht, hq⟩ := hbody cdv A outer s H vs Q E gu (hr.deeper _) hsp
  have I := inv_start (CX := CX0) (P := P) (w := w) (K := K) (mg := mg) (base := base) (E := E) (f := f) (cd := cdv) (qual := qual) S hr.hd e0 hl r x1
  refine wpAny_mono (ht.nox.run [] s1 (start N vs) H _ I hq) (fun fl s' hs => ?_) (fun e s' hs => hs)
  cases fl with
  | ret u => exact let ⟨v, σ', H', J, rv, q⟩ := hs; ⟨v, H', J.os, J.bare, J.base, J.hok, rv, q⟩
  | next => exact let ⟨σ', H', J, q⟩ := hs; ⟨V.non, H', J.os, J.bare, J.base, J.hok, rfl, q⟩
  | brk => exact let ⟨_, _, _, q⟩ := hs; q.elim
  | cont => exact let ⟨_, _, _, q⟩ := hs; q.elim
end
end Cy
namespace Cy
open PySem PySem.Spec PyProof.Rows L2
/-! ### data that may hold empty dicts; str of it -/
mutual
inductive Dq (K : PySem.W.Frag) (H : Hp) : V → PyData → Prop
  | non : Dq K H .non .none
  | bl (b : Bool) : Dq K H (.bl b) (.bool b)
  | int (i : Int) : Dq K H (.int i) (.int i)
  | str (x : Str) : Dq K H (.str x) (.str x)
  | lst {a : Addr} {xs : List V} {ds : List PyData} (h : SqL K H a xs) (n : a ≠ sysModules) (r : DqAll K H xs ds) : Dq K H (.ref a) (.list ds)
  | tup {a : Addr} {xs : List V} {ds : List PyData} (h : SqT K H a xs) (r : DqAll K H xs ds) : Dq K H (.ref a) (.tuple ds)
  | emp {a : Addr} (h : H a = some (.dK [])) : Dq K H (.ref a) (.dict [])
inductive DqAll (K : PySem.W.Frag) (H : Hp) : List V → List PyData → Prop
  | nil : DqAll K H [] []
  | cons {v : V} {vs : List V} {d : PyData} {ds : List PyData} (h : Dq K H v d) (r : DqAll K H vs ds) : DqAll K H (v :: vs) (d :: ds)
end
section
variable {X : Cx} {pins : List (Addr × Obj)} {σ : L2.St} {H : Hp} {s : Shared}
mutual
theorem Dq.reads (I : Inv X pins σ H s) : ∀ (d : PyData) (v : V) (u : Value), Dq X.K H v d → RelV v u →
    ∃ as, Reads s.heap u d as ∧ sysModules ∉ as
  | .none, _, _, h, r => by cases h; cases r; exact ⟨_, .none, by simp⟩
  | .bool b, _, _, h, r => by cases h; cases r; exact ⟨_, .bool b, by simp⟩
  | .int i, _, _, h, r => by
    cases h
    obtain ⟨t, rfl⟩ := r
    exact ⟨_, .int i t, by simp⟩
  | .str x, _, _, h, r => by
    cases h
    obtain ⟨t, rfl⟩ := r
    exact ⟨_, .str x t, by simp⟩
  | .list ds, _, _, h, r => by
    cases h with
    | lst hs hq ha =>
      cases r
      obtain ⟨its, rv, ⟨o, n, ho, hc, _, hd⟩, _⟩ := I.list hs
      obtain ⟨as, hr, hn⟩ := Dq.readsAll I ds _ its ha rv
      refine ⟨_, Reads.list ho hc hd hr, ?_⟩
      intro hm
      rcases List.mem_cons.mp hm with e | e
      · exact hq e.symm
      · exact hn e
  | .tuple ds, _, _, h, r => by
    cases h with
    | tup hs ha =>
      cases r
      obtain ⟨its, rv, ⟨o, ho, hc, n, hd⟩, _⟩ := I.tuple hs
      obtain ⟨as, hr, hn⟩ := Dq.readsAll I ds _ its ha rv
      exact ⟨_, Reads.tuple ho hc hd hr, hn⟩
  | .dict kvs, _, _, h, r => by
    cases h with
    | @emp a h0 =>
      cases r
      obtain ⟨_, hb, vs, rel, o, es, ep, ho, hx, hd, _, hp, _⟩ := (show ObjOk X.prog X.w H s.heap a (.dK []) from I.hok a _ h0)
      cases rel
      have ee : es.toList = [] := by
        cases q : es.toList with
        | nil => rfl
        | cons x l =>
          rw [q] at hp
          cases hp
      refine ⟨a :: [] ++ [], Reads.dict (kvs := []) ho hx.1 hd (by rw [ee]; exact .nil) (by rw [ee]; exact .nil), ?_⟩
      intro hm
      have z : sysModules = a := by simpa using hm
      rw [z] at hb
      simp at hb
theorem Dq.readsAll (I : Inv X pins σ H s) : ∀ (ds : List PyData) (vs : List V) (us : List Value), DqAll X.K H vs ds → Vals vs us →
    ∃ as, ReadsAll s.heap us ds as ∧ sysModules ∉ as
  | [], _, _, h, r => by cases h; cases r; exact ⟨_, .nil, by simp⟩
  | d :: ds, _, _, h, r => by
    cases h with
    | cons h1 h2 =>
      cases r with
      | cons r1 r2 =>
        obtain ⟨as, q1, n1⟩ := Dq.reads I d _ _ h1 r1
        obtain ⟨bs, q2, n2⟩ := Dq.readsAll I ds _ _ h2 r2
        exact ⟨_, ReadsAll.cons q1 q2, fun z => (List.mem_append.mp z).elim n1 n2⟩
end
end
/-- [e, ..], at an address that is not the table of modules' -/
def tLstB (t : TA) : TE := fun σ H Q => t σ H fun xs H1 => xs.length ≤ sizeLine ∧ ∀ p, H1 p = none → p ≠ sysModules → Q (.ref p) (upd H1 p (.lst xs))
theorem pe_lstB {X : Cx} {es : List Expr} {t : TA} {pos : Pos} (h : PA X es t) : PE X (.List es pos) (tLstB t) := by
  constructor
  intro pins s σ H Q I hq
  apply wpAny_List_spliced
  refine thn (h.run pos pins s σ H _ I hq) ?_
  rintro us s1 ⟨xs, H1, I1, r, z, q⟩
  have hf : H1 s1.heap.objs.size = none := I1.hok.fresh (Nat.le_refl _)
  refine ⟨by rw [← r.length]; exact z, .ref s1.heap.objs.size, upd H1 s1.heap.objs.size (.lst xs), ?_, rfl, q _ hf (Nat.ne_of_gt I1.big)⟩
  refine I1.laid (t' := s1.toks) (fun b u e => Heap.get?_push_of_some _ e) (Nat.le_refl _) ?_
  exact ⟨z, us, 0, r, Heap.get?_push_size _ rfl⟩
/-- str(x), x a list or a tuple of data -/
def rStrD (K : PySem.W.Frag) : List V → Hp → VK → Prop := fun xs H Q => ∃ (a : Addr) (d : PyData), xs = [.ref a] ∧ Dq K H (.ref a) d ∧
  d.showable = true ∧ d.depth ≤ 40 ∧ d.shown.length ≤ sizeLine ∧ Q (.str d.shown) H
theorem call_strD {X : Cx} {k : Nat} (gu : X.A.guards = some []) (hr : Room k X.A) : CallR X (.type "str") (rStrD X.K) := by
  intro pins s σ H xs us Q I r h
  obtain ⟨a, d, rfl, hd, hs, hp, hz, q⟩ := h
  obtain ⟨u, rfl, ru⟩ := vals1 r
  obtain ⟨as, hR, hn⟩ := Dq.reads I d _ u hd ru
  cases (show u = Value.ref a from ru)
  have hu := hr.units
  refine str_of_reads hR hs (fun _ => hn) gu (by omega) (fun _ _ e => e) (fun h' u' tk hk => ?_) hz
  exact ⟨.str d.shown, H, I.kept (t' := tk) hk, ⟨u', rfl⟩, q⟩
/-! ### Y.__init__(self, ..), Y an own class right beneath ValueError without an __init__ -/
theorem pe_ownInit {X : Cx} {yn : Str} {Y : Addr} {mc : Value} {e : Expr} {es : List Expr} {ta : TA} {p1 p2 pos : Pos} {pl : Sem Bool}
    (hg : Gl X yn) (hm : X.mg yn = some (.ref Y)) (r : ClX.CRead X.K Y mc)
    (vV : PySem.W.findCls X.K (.ref Y) mc "__init__" = some (.val (.builtin "ValueError.__init__"))) (ha : PA X (e :: es) ta)
    (hdb : (yn == ("__debug__" : Str)) = false := by decide)
    (hc : eval (.Call (.Attribute (.Name yn p1) "__init__" p2) (e :: es) [] pos) X.env = (do
      let ov ← eval (.Name yn p1) X.env
      standAt p2.atName
      let (f, first) ← holding [ov] (getMethod ov "__init__" pl)
      callWith pos f first (backTo pos (starEach (e :: es) X.env)) (backToKw pos (keywordEach [] X.env))) := by rfl)
    (he : starEach (e :: es) X.env = (false, eval e X.env) :: starEach es X.env := by rfl)
    (hpl : (backTo pos (starEach es X.env)).any (·.1) = false := by rfl) :
    PE X (.Call (.Attribute (.Name yn p1) "__init__" p2) (e :: es) [] pos) (tVeI X.K ta) := by
  constructor
  intro pins s σ H Q I h
  apply PySem.W.methodCall_KW (ld_glob I hg hm ?_ hdb) hc
  apply PySem.W.method_cls I.kIn r.ga
  apply PySem.W.cls_value I.kIn r.rd vV (by decide +kernel)
  show wpAny _ _ (callWith pos (Value.builtin "ValueError.__init__") [] (backTo pos (starEach (e :: es) X.env)) []) _ _ _
  refine PyProof.Rows.callWith_method1 (thn (ha.run pos pins _ σ H _ (I.tok _) h) ?_) he hpl
  rintro us s1 ⟨vs, H1, I1, r1, a, C, ws, rfl, hl, T, ea, q⟩
  cases r1 with
  | @cons _ u0 _ ur ra rw' =>
    cases (show u0 = Value.ref a from ra)
    refine oinit_ok T I1 ea ?_ (fun s' J => ⟨.non, H1, J, rfl, q⟩)
    rw [← Paired.length rw', sizeLine_eq]
    omega
/-! ### big powers -/
theorem op_powB {X : Cx} : OpR X (binaryOp .Pow) (rI (fun i j => 0 ≤ j ∧ (Builtin.Int.intBits i : Int) * j ≤ 2 ^ 27) fun i j => .int (i ^ j.toNat)) :=
  opI fun _ _ _ _ _ _ _ hc q => pow_int hc.1 hc.2 q
end Cy
/-! ### try with several except clauses, with and without a name -/
namespace Cy
open PySem PySem.Spec PyProof.Rows L2
abbrev Clause := Value × Option Nat × (Addr → Value → Option Addr → TS)
def endsAs (D : Ends) (i : Nat) : Ends :=
  { nx := fun τ G => D.nx (τ.set i none) G, rt := D.rt, bk := fun τ G => D.bk (τ.set i none) G, ct := fun τ G => D.ct (τ.set i none) G }
def suiteOf (o : Option Nat) (ts : TS) (D : Ends) (a : Addr) (σ : L2.St) (H : Hp) : Prop :=
  match o with
  | none => ts D σ H
  | some i => ts (endsAs D i) (σ.set i (some (.ref a))) H
def wCl (K : PySem.W.Frag) (Wout : WX) (D : Ends) : List Clause → WX
  | [] => Wout
  | (c, o, ts) :: r => fun cls d σ H => ∃ b, PySem.W.exmOne K cls c = some b ∧
      (b = true → ∀ a, H a = none → suiteOf o (ts a cls d) D a σ H) ∧ (b = false → wCl K Wout D r cls d σ H)
inductive ClOk (X : Cx) : List ExceptHandler → List Clause → Prop
  | nil : ClOk X [] []
  | plain {x : Str} {c : Value} {ts : Addr → Value → Option Addr → TS} {b : Stmt} {bs : List Stmt} {p q : Pos} {hs : List ExceptHandler} {l : List Clause}
      (hc : Names X x c)
      (su : ∀ (a : Addr) (o : Obj) (cls : Value) (d : Option Addr) (pn : List (Addr × Obj)), Zc cls d o → (∃ vs, o.data = .fields vs) →
        PSs (X.suite a ((a, o) :: pn)) (b :: bs) (ts a cls d)) (r : ClOk X hs l) :
      ClOk X (.ExceptHandler (some (.Name x p)) none (b :: bs) q :: hs) ((c, none, ts) :: l)
  | named {x n : Str} {i : Nat} {c : Value} {ts : Addr → Value → Option Addr → TS} {b : Stmt} {bs : List Stmt} {p q : Pos} {hs : List ExceptHandler} {l : List Clause}
      (hi : X.N[i]? = some n) (hl : X.env.kindOf n = some .local) (hc : Names X x c)
      (su : ∀ (a : Addr) (o : Obj) (cls : Value) (d : Option Addr) (pn : List (Addr × Obj)), Zc cls d o → (∃ vs, o.data = .fields vs) →
        PSs (X.suite a ((a, o) :: pn)) (b :: bs) (ts a cls d)) (r : ClOk X hs l) :
      ClOk X (.ExceptHandler (some (.Name x p)) (some n) (b :: bs) q :: hs) ((c, some i, ts) :: l)
section
variable {X : Cx}
/-- the clauses run, the exception having landed -/
theorem cl_go {D : Ends} {Wout : WX} {pins : List (Addr × Obj)} {a : Addr} {B : Heap} {sI s' : Shared} {σ : L2.St} {H : Hp} {cls : Value} {d : Option Addr} {h3 : Heap} {oe3 : Obj} {vs3 : Array Value}
    (st : X.stack = X.env :: X.outer) (ff : X.env.frame = some X.env.locals) (nd : X.N.Nodup) (tk : Takes X Wout) (ok : X.Ok)
    (J : Inv X pins σ H sI) (nb : ∀ b o, sI.heap.get? b = some o → b ∉ frs X.stack → B.get? b = some o)
    (up : sI.heap.UpToSlots h3) (na : H a = none) (os : s'.os = sI.os) (ag : AllBare s'.gens)
    (fl3 : HandSPX.FlyingZ B (X.env :: X.outer) a (Zc cls d) h3) (he3 : h3.get? a = some oe3) (hz3 : Zc cls d oe3) (hd3 : oe3.data = .fields vs3)
    (nL : a ≠ X.env.locals) (nF : a ∉ X.fs) :
    ∀ {hs : List ExceptHandler} {l : List Clause}, ClOk X hs l → wCl X.K Wout D l cls d σ H →
      wpAny (model X.prog X.w) X.A (handleBy (.ref a) X.env hs) (SP X pins D) X.xe { s' with heap := h3 } := by
  have J3 : Inv X pins σ H { s' with heap := h3 } := J.landed nb fl3.1 up os ag
  have S3 := J3.suite he3 hd3 na nL nF
  have LT : PySem.W.Looks (model X.prog X.w) h3 (typeOf (.ref a)) cls := fun A Q E s k q =>
    wpAny_typeOf_ref (k _ _ he3) (by rw [hz3.1]; exact q)
  have test : ∀ {x : Str} {c : Value} {np : Pos} {Q : Value → Shared → Prop} {E : Value → Shared → Prop}, Names X x c → Q c { s' with heap := h3 } →
      wpAny (model X.prog X.w) (X.A.mark (some (.ref a))) (eval (.Name x np) X.env) Q E { s' with heap := h3 } := by
    intro x c np Q E hc q
    obtain ⟨hg, hdbg, hm⟩ := hc
    cases hm with
    | inl hm => exact ld_glob (X := X.suite a ((a, oe3) :: (X.pn ++ pins))) S3 hg hm q hdbg
    | inr hm => exact ld_blt (X := X.suite a ((a, oe3) :: (X.pn ++ pins))) S3 hg hm.1 hm.2.1 q hm.2.2 hdbg
  have land : ∀ {h4 : Heap}, HandSPX.FlyingZ B (X.env :: X.outer) a (Zc cls d) h4 → h3.UpToSlots h4 → Inv X pins σ H { s' with heap := h4 } :=
    fun {h4} fl4 up4 => J.landed nb fl4.1 (up.trans up4) os ag
  intro hs l hk
  induction hk with
  | nil =>
    intro w
    apply wpAny_handleBy_nil
    obtain ⟨k1, k2, k3, oe, vs, T, oT, ts', he, hz, hd, h1, hr⟩ := id fl3
    unfold PySem.passOn
    apply wpAny_bind
    apply wpAny_field he hd h1
    rw [if_neg (by simp : ¬ ((Value.ref T == Value.none) = true))]
    have fin : wpAny (model X.prog X.w) X.A (setFlight (.ref a) X.env.frame)
        (fun _ s4 => wpAny (model X.prog X.w) X.A (throw (.ref a) : Sem Flow) (SP X pins D) X.xe s4) X.xe { s' with heap := h3 } := by
      rw [ff]
      apply HandSPX.setFlight_upZ fl3
      intro h4 hh4 up4
      apply wpAny_throw
      apply tk
      exact ⟨a, B, sI, pins, σ, H, cls, d, rfl, J, nb, up.trans up4, Or.inr (Or.inr (by rw [st]; exact hh4)), na, os, ag, w⟩
    first | exact wpAny_bind (wpAny_pure (wpAny_bind fin)) | exact wpAny_bind fin
  | plain hc su r ih =>
    intro w
    obtain ⟨b, hb1, hyes, hno⟩ := w
    have LM := PySem.W.exm_one (M := model X.prog X.w) (J3.kIn) LT hb1
    apply wpAny_handleBy_cons _ (by intro q; cases q)
    apply codeAny_handlers_test
    refine test hc (LM.here ?_)
    match b, hyes, hno with
    | true, hyes, _ =>
      apply codeAny_handlers_suite
      apply HandSPX.lands_againZ fl3
      intro h4 fl4 up4
      obtain ⟨oe4, vs4, he4, hz4, hd4⟩ := fl4.there
      have S4 := (land fl4 up4).suite he4 hd4 na nL nF
      refine wpAny_mono ((su a oe4 cls d (X.pn ++ pins) hz4 ⟨_, hd4⟩).run [] _ _ H _ S4 (hyes rfl a na)) (fun f s6 hsp => ?_) (fun _ _ z => z.elim)
      cases f with
      | ret u => exact let ⟨v6, τ, G, S6, r6, q6⟩ := hsp; ⟨v6, τ, G, S6.unsuite ok, r6, q6⟩
      | next => exact let ⟨τ, G, S6, q6⟩ := hsp; ⟨τ, G, S6.unsuite ok, q6⟩
      | brk => exact let ⟨τ, G, S6, q6⟩ := hsp; ⟨τ, G, S6.unsuite ok, q6⟩
      | cont => exact let ⟨τ, G, S6, q6⟩ := hsp; ⟨τ, G, S6.unsuite ok, q6⟩
    | false, _, hno => exact ih (hno rfl)
  | @named x n i c ts b0 bs np pos' hs l hi hl hc su r ih =>
    intro w
    obtain ⟨b, hb1, hyes, hno⟩ := w
    have LM := PySem.W.exm_one (M := model X.prog X.w) (J3.kIn) LT hb1
    apply wpAny_handleBy_cons _ (by intro q; cases q)
    apply codeAny_handlers_test
    refine test hc (LM.here ?_)
    match b, hyes, hno with
    | true, hyes, _ =>
      apply codeAny_handlers_suite_as
      apply HandSPX.lands_againZ fl3
      intro h4 fl4 up4
      obtain ⟨oe4, vs4, he4, hz4, hd4⟩ := fl4.there
      have S4 := (land fl4 up4).suite he4 hd4 na nL nF
      refine store_ok (X := X.suite a ((a, oe4) :: (X.pn ++ pins))) (v := .ref a) S4 nd hi (Or.inl hl) rfl ?_ (Or.inr hl)
      intro s5 S5
      refine wpAny_mono ((su a oe4 cls d (X.pn ++ pins) hz4 ⟨_, hd4⟩).run [] s5 _ H _ S5 (hyes rfl a na)) (fun f s6 hsp => ?_) (fun _ _ z => z.elim)
      have fin : ∀ {τ : L2.St} {G : Hp} {Q : Shared → Prop}, Inv (X.suite a ((a, oe4) :: (X.pn ++ pins))) [] τ G s6 →
          (∀ s7, Inv X pins (τ.set i none) G s7 → Q s7) →
          wpAny (model X.prog X.w) X.A (do bindName X.env n .none; unbindBehindTheSuite X.env n pos') (fun _ s7 => Q s7) X.xe s6 := by
        intro τ G Q S6 hq
        exact gone_ok (S6.unsuite ok) nd hi hl hq
      cases f with
      | ret u =>
        obtain ⟨v6, τ, G, S6, r6, q6⟩ := hsp
        apply fin S6
        intro s7 J7
        exact ⟨v6, _, G, J7, r6, q6⟩
      | next =>
        obtain ⟨τ, G, S6, q6⟩ := hsp
        apply fin S6
        intro s7 J7
        exact ⟨_, G, J7, q6⟩
      | brk =>
        obtain ⟨τ, G, S6, q6⟩ := hsp
        apply fin S6
        intro s7 J7
        exact ⟨_, G, J7, q6⟩
      | cont =>
        obtain ⟨τ, G, S6, q6⟩ := hsp
        apply fin S6
        intro s7 J7
        exact ⟨_, G, J7, q6⟩
    | false, _, hno => exact ih (hno rfl)
theorem ps_try_cl {body : List Stmt} {h0 : ExceptHandler} {hs : List ExceptHandler} {l : List Clause} {pos : Pos} {tb : WX → TS} {Wout : WX}
    (st : X.stack = X.env :: X.outer) (ff : X.env.frame = some X.env.locals) (nd : X.N.Nodup) (tk : Takes X Wout)
    (hb : ∀ (W : WX) (pn : List (Addr × Obj)) (xe : Value → Shared → Prop), Takes (X.tr pn xe) W → PassesOwn (model X.prog X.w) X.A X.env xe →
      PSs (X.tr pn xe) body (tb W)) (hh : ClOk X (h0 :: hs) l) :
    PS X (.Try body (h0 :: hs) [] [] pos) (fun D σ H => tb (wCl X.K Wout D l) D σ H) := by
  constructor
  intro pins s σ H D I h
  have ok := I.ok
  have fr : X.A.frames = some (X.env :: X.outer) := ok.frames.trans (by rw [st])
  apply wpAny_Try_except
  let xe : Value → Shared → Prop := fun e s₁ => wpAny (model X.prog X.w) X.A (noteFrame e X.env)
    (fun _ s₂ => wpAny (model X.prog X.w) X.A (setFlight e none)
      (fun _ s₃ => wpAny (model X.prog X.w) X.A (handleBy e X.env (h0 :: hs)) (SP X pins D) X.xe s₃) X.xe s₂) X.xe s₁
  have take : Takes (X.tr (X.pn ++ pins) xe) (wCl X.K Wout D l) := by
    intro u s' xx
    obtain ⟨a, B, sI, pins', σ', H', cls, d, rfl, J', nb, up, sky, na, os, ag, w⟩ := xx
    have J : Inv X pins σ' H' sI := J'.ofTry ok
    have sky2 : Sky B (X.env :: X.outer) a (Zc cls d) X.env.locals s'.heap := by rw [← st]; exact sky
    show wpAny (model X.prog X.w) X.A (noteFrame (.ref a) X.env) _ _ _
    apply Sky.land Zc.steady fr ff sky2
    intro h3 fl3 up3
    obtain ⟨oe3, vs3, he3, hz3, hd3⟩ := fl3.there
    have nfr : a ∉ frs (X.env :: X.outer) := by
      intro hm
      obtain ⟨_, o', e', hnf⟩ := fl3.2.2.1.mem hm
      rw [he3] at e'
      cases e'
      exact hnf _ hd3
    have nL : a ≠ X.env.locals := by
      intro z
      exact nfr (List.mem_filterMap.mpr ⟨X.env, List.mem_cons_self, by rw [ff, z]⟩)
    have nF : a ∉ X.fs := by
      intro hm
      obtain ⟨e, he, q⟩ := List.mem_filterMap.mp hm
      exact nfr (List.mem_filterMap.mpr ⟨e, List.mem_cons_of_mem _ he, q⟩)
    exact cl_go st ff nd tk ok J nb (up.trans up3) na os ag fl3 he3 hz3 hd3 nL nF hh w
  refine wpAny_mono ((hb (wCl X.K Wout D l) (X.pn ++ pins) xe take PassesOwn.looking).run [] s σ H D (I.toTry _) h) (fun f s1 hsp => ?_) (fun _ _ he => he)
  cases f with
  | ret u => exact let ⟨v, τ, G, J, r, q⟩ := hsp; ⟨v, τ, G, J.ofTry ok, r, q⟩
  | next => exact let ⟨τ, G, J, q⟩ := hsp; wpAny_execs_nil ⟨τ, G, J.ofTry ok, q⟩
  | brk => exact let ⟨τ, G, J, q⟩ := hsp; ⟨τ, G, J.ofTry ok, q⟩
  | cont => exact let ⟨τ, G, J, q⟩ := hsp; ⟨τ, G, J.ofTry ok, q⟩
end
end Cy
/-! ### further rules: enumerate, sorted, [::-1], index of tuples -/
namespace Cy
open PySem PySem.Spec PyProof.Rows
section
variable {prog : Program} {w : World} {A : Around} {E : Value → Shared → Prop} {s : Shared}
/-! #### sorted(t) -/
theorem collect_tup {t : Addr} {vs : List Value} {Q : List Value → Shared → Prop} (ht : IsTup s.heap t vs.toArray)
    (h : Q vs { s with heap := (s.heap.push (seqObj "list" #[] 0)).update s.heap.objs.size (Obj.mapSeq (· ++ vs.toArray)) }) (hz : vs.length ≤ sizeLine) :
    wpAny (model prog w) A (collect (.ref t)) Q E s := by
  obtain ⟨o, ho, hc, n, hd⟩ := id ht
  unfold collect
  apply wpAny_bind
  apply wpAny_runValue
  apply codeAny_builtin entry_proto_collect'
  show wpAny _ _ (do again (.builtin "list.__iadd__" ⟨[← newList [], .ref t], []⟩)) _ _ s
  refine wpAny_bind (wpAny_newList (wpAny_pure ?_))
  refine ⟨Code.quiet_builtin _ (by decide +kernel), codeAny_builtin entry_list_iadd' ?_⟩
  show wpAny _ _ (Builtin.List.listExtendWith (.ref s.heap.objs.size) (.ref t) (.ref s.heap.objs.size)) _ _
    { s with heap := s.heap.push (seqObj "list" #[] 0) }
  unfold Builtin.List.listExtendWith
  have ho' : (s.heap.push (seqObj "list" #[] 0)).get? t = some o := Heap.get?_push_of_some _ ho
  apply wpAny_bind
  refine wpAny_typeOf (T := "tuple") ⟨o, ho', hc⟩ ?_
  have ht2 : (Value.type "tuple" == Value.type "tuple") = true := rfl
  rw [if_pos (by rw [ht2]; simp)]
  apply wpAny_bind
  apply listItems_at ho' hd
  apply wpAny_bind
  refine listItems_at (xs := #[]) (n := 0) (Heap.get?_push_size _ rfl) rfl ?_
  rw [if_neg (by simp)]
  apply wpAny_bind
  refine listUpdate_at (xs := #[]) (n := 0) (Heap.get?_push_size _ rfl) rfl ?_ (Nat.zero_le _)
    (by show (#[] ++ vs.toArray).size ≤ sizeLine + 1
        simp only [Array.size_append, List.size_toArray, List.length_nil]
        omega)
  apply wpAny_pure
  show wpAny (model prog w) A (do
      let o ← load s.heap.objs.size
      match o.data with
      | .seq xs _ => pure xs.toList
      | _ => unsupported "internal:collect") Q E
    { s with heap := (s.heap.push (seqObj "list" #[] 0)).update s.heap.objs.size (Obj.mapSeq (· ++ vs.toArray)) }
  apply wpAny_bind
  refine wpAny_load (get?_update_seq (Heap.get?_push_size _ rfl) _) ?_
  show wpAny _ _ (pure ((#[] : Array Value) ++ vs.toArray).toList) Q E _
  have e : ((#[] : Array Value) ++ vs.toArray).toList = vs := by simp
  rw [e]
  exact wpAny_pure h
theorem sorted_tup {t : Addr} {vs : List Value} {ns : List Int} {Q : Value → Shared → Prop} (ht : IsTup s.heap t vs.toArray) (hz : vs.length ≤ sizeLine) (hI : IntsAre vs ns)
    (h : ∀ out : List Value, SrtO.Srtd SrtO.ltIv out → SrtO.Stb SrtO.ltIv out vs → Q (.ref (s.heap.objs.size + 1)) { s with heap := sortedAll s.heap vs out.toArray }) :
    wpAny (model prog w) A (call (.builtin "sorted") [.ref t]) Q E s := by
  apply Calls.call_function_entry kind_sorted plain_sorted entry_sorted (args_sorted1 _)
  unfold Builtin.«sorted»
  apply wpAny_bind (m := checkCount "sorted" 1 1 _)
  apply wpAny_pure
  apply wpAny_bind
  refine collect_tup ht ?_ hz
  apply wpAny_bind
  refine wpAny_newList ?_ hz
  have e1 : ((s.heap.push (seqObj "list" #[] 0)).update s.heap.objs.size (Obj.mapSeq (· ++ vs.toArray))).objs.size = s.heap.objs.size + 1 := by
    rw [Heap.size_update, size_push']
  have e2 : (((s.heap.push (seqObj "list" #[] 0)).update s.heap.objs.size (Obj.mapSeq (· ++ vs.toArray))).push (seqObj "list" vs.toArray 0)).get?
      (s.heap.objs.size + 1) = some (seqObj "list" vs.toArray 0) := by
    rw [← e1]
    exact Heap.get?_push_size _ rfl
  show wpAny _ _ _ _ _ { s with heap := ((s.heap.push (seqObj "list" #[] 0)).update s.heap.objs.size
    (Obj.mapSeq (· ++ vs.toArray))).push (seqObj "list" vs.toArray 0) }
  rw [e1]
  apply wpAny_bind
  apply wpAny_holding
  refine wpAny_call_entry slot_list_sort ⟨_, e2, rfl⟩ entry_list_sort
    (SrtO.list_sort_ord SrtO.swo_int e2 hz (fun h2 => SrtO.ints_sortable hI h2) fun out hs hb => ⟨_, rfl, ?_⟩) (args_list_sort _)
  exact wpAny_pure ⟨_, rfl, h out hs hb⟩
/-! #### enumerate(t) -/
theorem newCall_enum1 (a : Value) : checkBuiltinCall "enumerate.__new__" ⟨[.type "enumerate", a], []⟩ = pure () := F.newCall_enumerate_1 a
set_option maxHeartbeats 4000000 in
theorem meets_enum1 {v : Value} {o : Obj} {G : Heap → Prop} (B : Begins v o G) :
    Meets (Builtin.«enumerate.__new__» ⟨[.type "enumerate", v], []⟩) (fun _ R s => G s.heap ∧
      R (.ok (.ret (.ref (s.heap.push o).objs.size))) { s with heap := (s.heap.push o).push { cls := .type "enumerate", data := .fields #[.none, .bool false, .ref s.heap.objs.size, rawInt 0, .none, .none] } }) :=
  .of_wp fun prog w A R s h => by
    obtain ⟨hp, g, d, tk, os⟩ := s
    obtain ⟨h1, h⟩ := h
    have hsub := sub_enumerate
    have q1 : ∀ {A' : Around} {E : Value → Shared → Prop} {Q : Value → Shared → Prop}, Q (.ref hp.objs.size) ⟨hp.push o, g, d, tk, os⟩ →
        wpAny (model prog w) A' (pyIter v) Q E ⟨hp, g, d, tk, os⟩ := fun q => B.iter prog w _ _ ⟨hp, g, d, tk, os⟩ _ h1 q
    wp_walk using q1
    refine wpAny_stack_any fun st => wpAny_pure ?_
    split
    · rename_i c _ _ _ _ _
      cases (c == Value.type "enumerate")
      · wp_walk using q1
        exact ⟨_, rfl, h⟩
      · wp_walk using q1
        exact ⟨_, rfl, h⟩
    · wp_walk using q1
      exact ⟨_, rfl, h⟩
theorem enum_tup {t : Addr} {items : Array Value} {Q : Value → Shared → Prop} (ht : s.heap.IsTuple t items)
    (h : ∀ h', IsEnum h' (s.heap.objs.size + 1) s.heap.objs.size 0 .none → h'.IsTupleIter s.heap.objs.size t 0 →
      (∀ b o, s.heap.get? b = some o → h'.get? b = some o) → Q (.ref (s.heap.objs.size + 1)) { s with heap := h' }) :
    wpAny (model prog w) A (call (.type "enumerate") [.ref t]) Q E s := by
  have B := begins_tuple t items
  refine callType_new F.called_enumerate (by decide) (F.typeCall_enumerate_1 _) (newCall_enum1 _) (fun obj => F.args_object_init_2 obj _) F.entry_enumerate_new
    (meets_enum1 B) ⟨ht, ?_⟩
  have hz : (s.heap.push { cls := .type "tuple_iterator", data := .fields #[.ref t, .int 0 0] }).objs.size = s.heap.objs.size + 1 := Heap.size_push ..
  show _ ∧ _
  rw [hz]
  have he : IsEnum ((s.heap.push { cls := .type "tuple_iterator", data := .fields #[.ref t, .int 0 0] }).push
      { cls := .type "enumerate", data := .fields #[.none, .bool false, .ref s.heap.objs.size, rawInt 0, .none, .none] })
      (s.heap.objs.size + 1) s.heap.objs.size 0 .none := by
    have q := Heap.get?_push_size (s.heap.push { cls := .type "tuple_iterator", data := .fields #[.ref t, .int 0 0] })
      (o := { cls := .type "enumerate", data := .fields #[.none, .bool false, .ref s.heap.objs.size, rawInt 0, .none, .none] }) rfl
    rw [hz] at q
    exact q
  refine ⟨⟨_, he, rfl⟩, h _ he ⟨{ cls := .type "tuple_iterator", data := .fields #[.ref t, .int 0 0] }, Heap.get?_push_of_some _ (Heap.get?_push_size _ rfl), rfl, rfl⟩ ?_⟩
  intro b o x
  exact Heap.get?_push_of_some _ (Heap.get?_push_of_some _ x)
/-! #### t[::-1] -/
theorem getItem_tup_rev {t sl : Addr} {items : Array Value} {vs : Value} {Q : Value → Shared → Prop} (ht : IsTup s.heap t items)
    (hs : s.heap.IsSliceOf sl .none .none vs) (pv : IsPart vs (some (-1)))
    (h : Q (.ref s.heap.objs.size) { s with heap := s.heap.push { cls := .type "tuple", data := .seq items.toList.reverse.toArray } })
    (hz : items.size ≤ sizeLine) : wpAny (model prog w) A (getItem (.ref t) (.ref sl)) Q E s := by
  obtain ⟨os, hos, hcs, hds⟩ := id hs
  have hTs : s.TypeIs (.ref sl) "slice" := ⟨os, hos, hcs⟩
  have hk : sizeOk (.seq items.toList.reverse.toArray) := by
    show items.toList.reverse.toArray.size ≤ sizeLine
    rw [List.size_toArray, List.length_reverse, Array.length_toList]
    exact hz
  unfold getItem
  try with_reducible refine wpAny_holding ?_
  first | refine wpAny_bind (wpAny_pure ?_) | skip
  apply wpAny_bind
  apply wpAny_sequenceKey ht.typeIs (by decide)
  apply wpAny_bind
  refine wpAny_callSpecial?_slot (name := Str.ofString "__getitem__") ht.typeIs PyProof.Rows.slot_tuple_getitem
    (wpAny_call_entry PyProof.Rows.slot_tuple_getitem ht.typeIs entry_tuple_getitem ?_ (args_tuple_getitem _ _))
  show wpAny _ _ (Builtin.Tuple.tupleItemsOf (.ref t) >>= _) _ _ s
  apply wpAny_bind
  apply tupleItemsOf_ ht
  apply wpAny_bind
  apply wpAny_typeOf hTs
  rw [if_pos (by decide)]
  apply wpAny_bind
  unfold Builtin.Slice.sliceApplied Builtin.Slice.sliceFields
  refine wpAny_bind (wpAny_bind (wpAny_field hos hds (x := .none) rfl (wpAny_bind (wpAny_field hos hds (x := .none) rfl (wpAny_bind (wpAny_field hos hds (x := vs) rfl (wpAny_pure ?_)))))))
  refine wpAny_bind (HT.slicePart_ pv ?_)
  show wpAny _ _ (if ((-1 : Int) == 0) = true then _ else _) _ _ s
  rw [if_neg (by decide)]
  refine wpAny_bind (slicePart_none (wpAny_bind (slicePart_none (wpAny_bind (wpAny_pure ?_)))))
  have hb : Builtin.Slice.sliceAdjust none none (-1) (items.size : Int) = ((items.size : Int) - 1, -1) := rfl
  show wpAny _ _ (match Builtin.Slice.sliceAdjust none none (-1) (items.size : Int) with
    | (lo, hi) => pure (lo, (-1 : Int), Builtin.Slice.slicePlaces lo hi (-1))) _ _ s
  rw [hb]
  have hp : Builtin.Slice.slicePlaces ((items.size : Int) - 1) (-1) (-1) = items.size := by
    unfold Builtin.Slice.slicePlaces
    rw [if_neg (by decide : ¬ ((-1 : Int) > 0))]
    by_cases hn : items.size = 0
    · rw [hn]
      rfl
    · rw [if_pos (by omega : (items.size : Int) - 1 > -1)]
      have e : ((items.size : Int) - 1 - -1 - 1) / (- -1) + 1 = (items.size : Int) := by
        rw [show (- -1 : Int) = 1 by decide, Int.ediv_one]
        omega
      rw [e]
      exact Int.toNat_natCast _
  show wpAny _ _ (pure ((items.size : Int) - 1, (-1 : Int), Builtin.Slice.slicePlaces ((items.size : Int) - 1) (-1) (-1))) _ _ s
  rw [hp]
  apply wpAny_pure
  have hno : ¬ ((((items.size : Int) - 1) == 0 && (-1 : Int) == 1 && items.size == items.size) = true) := by
    intro q
    rw [Bool.and_eq_true, Bool.and_eq_true] at q
    exact absurd q.1.2 (by decide)
  show wpAny _ _ (if (((items.size : Int) - 1) == 0 && (-1 : Int) == 1 && items.size == items.size) = true then _ else _) _ _ s
  rw [if_neg hno]
  have hpick : ((List.range items.size).filterMap fun (k : Nat) => items[((items.size : Int) - 1 + (k : Int) * -1).toNat]?) = items.toList.reverse := by
    have e : (List.range items.size).filterMap (fun (k : Nat) => items[((items.size : Int) - 1 + (k : Int) * -1).toNat]?) =
        ((List.range items.size).map fun k => items.size - 1 - k).filterMap (items[·]?) := by
      rw [List.filterMap_map]
      congr 1
      funext k
      have q : ((items.size : Int) - 1 + (k : Int) * -1).toNat = items.size - 1 - k := by omega
      rw [q]
      rfl
    rw [e, PySem.W.krv_range, List.filterMap_reverse, PySem.W.krv_all]
  rw [hpick]
  first
    | exact wpAny_bind (m := Builtin.Tuple.tupleExact _) (wpAny_newObj_type (wpAny_pure ⟨_, rfl, wpAny_pure h⟩) hk)
    | exact wpAny_bind (wpAny_bind (m := Builtin.Tuple.tupleExact _) (wpAny_newObj_type (wpAny_pure ⟨_, rfl, wpAny_pure h⟩) hk))
end
end Cy
namespace Cy
open PySem PySem.Spec PyProof.Rows L2
/-! ### the same as rules -/
/-- the tuple at a, each item in a new pair with its place -/
def IteT (K : PySem.W.Frag) (a : Addr) : It where
  go := fun i H => ∃ (xs : List V) (x : V), SqT K H a xs ∧ xs[i]? = some x
  yld := fun i H v H' => ∃ T x, v = .ref T ∧ H T = none ∧ H' = upd H T (.tup [.int (i : Nat), x]) ∧ ∀ xs, SqT K H a xs → xs[i]? = some x
  stop := fun i H => ∃ xs : List V, SqT K H a xs ∧ xs.length ≤ i
theorem tup_apart {h : Heap} {a it : Addr} {items : Array Value} {i : Nat} (h1 : h.IsTuple a items) (h2 : h.IsTupleIter it a i) : a ≠ it := by
  intro z
  obtain ⟨o, ho, hc, _⟩ := h1
  obtain ⟨o2, ho2, hc2, _⟩ := h2
  rw [← z, ho] at ho2
  cases ho2
  rw [hc] at hc2
  exact absurd hc2 (by decide)
theorem enum_apart {h : Heap} {a e it : Addr} {items : Array Value} {c : Int} {old : Value} (h1 : h.IsTuple a items) (h2 : IsEnum h e it c old) : e ≠ a := by
  intro z
  obtain ⟨o, ho, hc, _⟩ := h1
  have q : h.get? a = _ := z ▸ h2
  rw [ho] at q
  have q' := Option.some.inj q
  rw [q'] at hc
  exact absurd (show Value.type "enumerate" = Value.type "tuple" from hc) (by decide)
theorem turn_enumT {P : Program} {w : World} {K : PySem.W.Frag} {elts : List Expr} {kk : Nat} {tpos : Pos} (a e it : Addr) :
    Turn P w K (.Tuple elts kk tpos) (IteT K a) [e, it] e
      (fun i h => (∃ old, IsEnum h e it ((i : Nat) : Int) old) ∧ h.IsTupleIter it a i ∧ e ≠ it) where
  mem := List.mem_cons_self
  obj := by
    rintro i h ⟨⟨old, he⟩, ⟨o, ho, hc, hd⟩, _⟩ b hb
    rcases List.mem_cons.mp hb with z | hb
    · rw [z]
      exact ⟨_, he, fun v q => nomatch q⟩
    · rw [List.mem_singleton.mp hb]
      refine ⟨o, ho, fun v q => ?_⟩
      rw [hd] at q
      cases q
  keep := by
    rintro i h h' ⟨⟨old, he⟩, hi, hne⟩ k
    exact ⟨⟨old, k e (by simp) _ he⟩, hi.at fun o q => k it (by simp) o q, hne⟩
  item := by
    intro X hP hw hK hc i pins s σ H E I hf st hg
    subst hP hw hK
    obtain ⟨⟨old, he⟩, hit, hne⟩ := st
    obtain ⟨xs, x, hq, hx⟩ := hg
    obtain ⟨its, rv, p, hz⟩ := I.tuple hq
    obtain ⟨u, hu, ru⟩ := rv.get hx
    have ht : s.heap.IsTuple a its.toArray := p
    have hat := tup_apart ht hit
    have hea := enum_apart ht he
    have hel : e < s.heap.objs.size := Heap.lt_size he
    have hil : it < s.heap.objs.size := let ⟨_, q, _⟩ := hit; Heap.lt_size q
    have hilt : i < its.toArray.size := by
      have := (List.getElem?_eq_some_iff.mp hu).1
      simpa using this
    refine wpAny_pyNext_enum_itemC (Draws.tuple (A := X.A.in1) (I.ok.hd hc) it a hat its.toArray) he ⟨hit, ht⟩ hilt hne
      (fun hm => (List.mem_cons.mp hm).elim hne fun z => hea (List.mem_singleton.mp z)) ?_
    intro x' h' tk hP ho hst hT hsz hk
    obtain ⟨hit', _⟩ := hst
    have ex : x' = u := by
      have q : its[i]? = some x' := by simpa using hP
      rw [hu] at q
      exact (Option.some.inj q).symm
    subst ex
    refine ⟨_, rfl, wpAny_letOwnedTupleGo_enum (s := { s with heap := h', toks := tk + 1 }) ho ?_⟩
    intro h'' he' sb
    have hT2 := (sb.2 _ (Nat.ne_of_gt hel)).trans hT
    have new : ObjOk X.prog X.w (upd H s.heap.objs.size (.tup [.int (i : Nat), x])) h'' s.heap.objs.size (.tup [.int (i : Nat), x]) :=
      ⟨by show 2 ≤ sizeLine; decide, [.int i tk, x'], .cons ⟨_, rfl⟩ (.cons ru .nil), ⟨_, hT2, rfl, _, rfl⟩⟩
    have I1 : Inv X pins σ (upd H s.heap.objs.size (.tup [.int (i : Nat), x])) { s with heap := h'', toks := tk + 1 } := by
      refine I.turnedNew (ch := [e, it]) ?_ hf (Nat.le_refl _) new
      intro b ob hb q
      have n1 : b ≠ e := fun z => hb (by simp [z])
      have n2 : b ≠ it := fun z => hb (by simp [z])
      exact (sb.2 b n1).trans (hk b ob n1 n2 q)
    refine ⟨.ref s.heap.objs.size, _, I1, rfl, ⟨_, x, rfl, I.hok.fresh (Nat.le_refl _), rfl, ?_⟩, ⟨⟨x', ?_⟩, hit'.at fun o q => (sb.2 it (Ne.symm hne)).trans q, hne⟩, ?_⟩
    · intro ys hy
      rw [I.tuple_inj hy hq]
      exact hx
    · have e1 : ((i + 1 : Nat) : Int) = (i : Int) + 1 := by omega
      rw [e1]
      exact he'
    · intro b hb
      have hlt : b < s.heap.objs.size := by
        rcases List.mem_cons.mp hb with z | hb
        · rw [z]; exact hel
        · rw [List.mem_singleton.mp hb]; exact hil
      rw [upd_ne (Nat.ne_of_lt hlt)]
      exact (hf b hb).1
  done := by
    intro X hP hw hK hc i pins s σ H E I hf st hg
    subst hP hw hK
    obtain ⟨⟨old, he⟩, hit, hne⟩ := st
    obtain ⟨xs, hq, hx⟩ := hg
    obtain ⟨its, rv, p, hz⟩ := I.tuple hq
    obtain ⟨f0, f1, f2, f3, f4, f5⟩ := hf it (by simp)
    have ht : s.heap.IsTuple a its.toArray := p
    have hl := rv.length
    have T : s.TypeIs (.ref e) "enumerate" := ⟨_, he, rfl⟩
    unfold pyNext
    apply wpAny_bind
    apply wpAny_attempt
    refine wpAny_callSpecial?_slot (name := Str.ofString "__next__") T F.slot_enumerate_next (wpAny_call_entry F.slot_enumerate_next T F.entry_enumerate_next ?_ (F.args_enumerate_next_1 _))
    show wpAny _ _ (field (.ref e) 2 >>= _) _ _ _
    apply wpAny_bind
    refine wpAny_field he rfl (x := .ref it) rfl ?_
    apply wpAny_bind
    refine wpAny_nextOf_tuple_end (I.ok.hd hc) hit ht (by simp; omega) ?_
    intro h' z eb hz'
    obtain ⟨o, ho, hcl⟩ := hz'
    apply wpAny_bind
    refine wpAny_isInstance (T := "StopIteration") (b := true) ⟨o, ho, hcl⟩ isSubtype_stop ?_
    exact wpAny_pure ⟨rfl, I.turned (t' := s.toks) (fun b o hb q => eb b o hb q) f0 f1 f3 f4 f5⟩
  self := by
    rintro A i s Q E ⟨⟨_, he⟩, _⟩ h
    exact wpAny_pyIter_enum he h
def iEnumT (K : PySem.W.Frag) (ta : TA) : TI := fun σ H R => ta σ H fun vs H1 => ∃ a xs, vs = [.ref a] ∧ SqT K H1 a xs ∧ R (IteT K a) H1
theorem pi_enumT {X : Cx} {e : Expr} {ta : TA} {p pos tpos : Pos} {elts : List Expr} {kk : Nat} (hg : Gl X "enumerate") (hm : X.mg "enumerate" = none)
    (ha : PA X [e] ta) (hs : starEach [e] X.env = [(false, eval e X.env)] := by rfl) :
    PI X (.Tuple elts kk tpos) (.Call (.Name "enumerate" p) [e] [] pos) (iEnumT X.K ta) := by
  constructor
  intro pins s σ H R I h
  refine Call_ (ld_blt I hg hm boot_enumerate (PyProof.Rows.callWith_type1 (thn (ha.run pos pins s σ H _ I h) ?_) hs rfl))
  rintro us s1 ⟨vs, H1, I1, r1, a, xs, rfl, hq, q⟩
  cases r1 with
  | cons r rr =>
    cases rr
    cases r
    obtain ⟨its, rv, p', hz⟩ := I1.tuple hq
    refine enum_tup (show s1.heap.IsTuple a its.toArray from p') ?_
    intro h' he hit hk
    refine wpAny_pyIter_enum he ?_
    have I2 : Inv X pins σ H1 { s1 with heap := h' } := I1.kept (t' := s1.toks) hk
    refine ⟨s1.heap.objs.size + 1, [s1.heap.objs.size + 1, s1.heap.objs.size], _, _, H1, rfl, I2,
      turn_enumT a (s1.heap.objs.size + 1) s1.heap.objs.size, ⟨⟨.none, he⟩, hit, Nat.succ_ne_self _⟩, ?_, q⟩
    intro b hb
    have hle : s1.heap.objs.size ≤ b := by
      rcases List.mem_cons.mp hb with z | hb
      · rw [z]; exact Nat.le_succ _
      · rw [List.mem_singleton.mp hb]; exact Nat.le_refl _
    exact I1.fpOk hle (I1.hok.fresh hle)
/-- a loop over enumerate(a tuple) -/
theorem for_enumT {K : PySem.W.Frag} {a : Addr} {xs : List V} {g : TG} {tb : TS} {D : Ends} {σ : L2.St} {H : Hp} (Pv : Nat → L2.St → Hp → Prop)
    (h0 : Pv 0 σ H) (hl : ∀ i σ H, i ≤ xs.length → Pv i σ H → SqT K H a xs)
    (hs : ∀ i x T σ H, xs[i]? = some x → Pv i σ H → H T = none →
      g (.ref T) σ (upd H T (.tup [.int (i : Nat), x])) fun σ2 H2 => tb { D with nx := Pv (i + 1), ct := Pv (i + 1), bk := D.nx } σ2 H2)
    (hd : ∀ σ H, Pv xs.length σ H → D.nx σ H) :
    ∃ W : Nat → Nat → L2.St → Hp → Prop, (∃ m, W 0 m σ H) ∧ ∀ i m σ H, W i m σ H →
      ((IteT K a).stop i H ∧ D.nx σ H) ∨ ((IteT K a).go i H ∧ ∃ N : L2.St → Hp → Prop, (∀ σ' H', N σ' H' → ∃ m', m' < m ∧ W (i + 1) m' σ' H') ∧
        ∀ v H', (IteT K a).yld i H v H' → g v σ H' fun σ2 H2 => tb { D with nx := N, ct := N, bk := D.nx } σ2 H2) := by
  refine ⟨fun i m σ H => m = xs.length - i ∧ i ≤ xs.length ∧ Pv i σ H, ⟨xs.length, rfl, Nat.zero_le _, h0⟩, ?_⟩
  rintro i m σ H ⟨rfl, hi, p⟩
  have q := hl i σ H hi p
  by_cases hlt : i < xs.length
  · right
    refine ⟨⟨xs, xs[i], q, List.getElem?_eq_getElem hlt⟩, Pv (i + 1), fun σ' H' p' => ⟨xs.length - (i + 1), by omega, rfl, hlt, p'⟩, ?_⟩
    rintro v H' ⟨T, x, rfl, nT, rfl, hx⟩
    exact hs i x T σ H (hx xs q) p nT
  · have e : i = xs.length := by omega
    subst e
    exact .inl ⟨⟨xs, q, Nat.le_refl _⟩, hd σ H p⟩
/-- a comprehension over enumerate(a tuple) -/
theorem lc_enumT {K : PySem.W.Frag} {a : Addr} {xs : List V} {g : TG} {tt : TT} {te : TE} {vs : List Nat} {σ : L2.St} {H1 : Hp} {D : Addr} {Qd : Hp → Prop}
    (Pv : Nat → Hp → Prop) (h0 : Pv 0 (upd H1 D (.lst []))) (hl : ∀ i H, i ≤ xs.length → Pv i H → SqT K H a xs)
    (hs : ∀ i x T H, xs[i]? = some x → Pv i H → H T = none →
      g (.ref T) (wipe σ vs) (upd H T (.tup [.int (i : Nat), x])) fun σ2 H2 => wipe σ2 vs = wipe σ vs ∧ tt σ2 H2 fun b H3 =>
        if b = true then te σ2 H3 fun y H4 => ∃ acc, H4 D = some (.lst acc) ∧ acc.length < sizeLine ∧ Pv (i + 1) (upd H4 D (.lst (acc ++ [y]))) else Pv (i + 1) H3)
    (hd : ∀ H, Pv xs.length H → Qd H) :
    ∃ W : Nat → Nat → Hp → Prop, (∃ m, W 0 m (upd H1 D (.lst []))) ∧ ∀ i m H, W i m H →
      ((IteT K a).stop i H ∧ Qd H) ∨ ((IteT K a).go i H ∧ ∃ Nx : Hp → Prop, (∀ H', Nx H' → ∃ m', m' < m ∧ W (i + 1) m' H') ∧
        ∀ x H', (IteT K a).yld i H x H' → g x (wipe σ vs) H' fun σ2 H2 => wipe σ2 vs = wipe σ vs ∧ tt σ2 H2 fun b H3 =>
          if b = true then te σ2 H3 fun y H4 => ∃ acc, H4 D = some (.lst acc) ∧ acc.length < sizeLine ∧ Nx (upd H4 D (.lst (acc ++ [y]))) else Nx H3) := by
  refine ⟨fun i m H => m = xs.length - i ∧ i ≤ xs.length ∧ Pv i H, ⟨xs.length, rfl, Nat.zero_le _, h0⟩, ?_⟩
  rintro i m H ⟨rfl, hi, p⟩
  have q := hl i H hi p
  by_cases hlt : i < xs.length
  · right
    refine ⟨⟨xs, xs[i], q, List.getElem?_eq_getElem hlt⟩, Pv (i + 1), fun H' p' => ⟨xs.length - (i + 1), by omega, rfl, hlt, p'⟩, ?_⟩
    rintro v H' ⟨T, x, rfl, nT, rfl, hx⟩
    exact hs i x T H (hx xs q) p nT
  · have e : i = xs.length := by omega
    subst e
    exact .inl ⟨⟨xs, q, Nat.le_refl _⟩, hd H p⟩
/-- sorted(t), a tuple of ints -/
def rSortedTI (K : PySem.W.Frag) : List V → Hp → VK → Prop := fun vs H Q => ∃ (a : Addr) (ns : List Int), vs = [V.ref a] ∧ SqT K H a (ns.map V.int) ∧
  ∀ (ms : List Int) (p : Addr), ms.Perm ns → ms.Pairwise (· ≤ ·) → H p = none → Q (.ref p) (upd H p (.lst (ms.map V.int)))
theorem cr_sortedTI {X : Cx} : CallR X (.builtin "sorted") (rSortedTI X.K) := by
  intro pins s σ H vs us Q I r h
  obtain ⟨a, ns, rfl, hs, q⟩ := h
  obtain ⟨its, rv, ht, hz⟩ := I.tuple hs
  rw [Vals.ref1 r]
  have hi := rv.ints
  refine sorted_tup ht (by rw [← rv.length]; exact hz) hi ?_
  intro out h1 h2
  obtain ⟨k1, k2, k3⟩ := SrtO.ints_out hi h1 h2
  obtain ⟨ep, he'⟩ := PyProof.Rows.sortedAll_at s.heap its out.toArray
  have hlen : ((out.map SrtO.iv).map V.int).length ≤ sizeLine := by
    rw [List.length_map, k2.length_eq, ← List.length_map (f := V.int)]
    exact hz
  refine ⟨.ref _, upd H (s.heap.objs.size + 1) (.lst ((out.map SrtO.iv).map V.int)), ?_, rfl, q _ _ k2 k3 (I.hok.fresh (Nat.le_succ _))⟩
  exact I.laid (t' := s.toks) (fun _ _ => PyProof.Rows.sortedAll_old) (Nat.le_succ _) ⟨hlen, out, ep, vals_of_ints k1, he'⟩
/-- t[::-1], a tuple -/
def tRevT (K : PySem.W.Frag) (te : TE) : TE := fun σ H Q => te σ H fun x H1 => ∃ a xs, x = .ref a ∧ SqT K H1 a xs ∧ ∀ p, H1 p = none → Q (.ref p) (upd H1 p (.tup xs.reverse))
theorem pe_revT {X : Cx} {e : Expr} {te : TE} {k : Nat} {p1 p2 p3 pos : Pos} (he : PE X e te) :
    PE X (.Subscript e (.Slice none none (some (.UnaryOp .USub (.Constant (.int 1) k p1) p2)) p3) pos) (tRevT X.K te) := by
  constructor
  intro pins s σ H Q I h
  refine Subscript_ (thn (he.run pins s σ H _ I h) ?_)
  rintro v s1 ⟨x, H1, I1, r1, a, xs, rfl, hx, q⟩
  cases r1
  have hst : PO X (some (.UnaryOp .USub (.Constant (.int 1) k p1) p2)) (tPart (tUn (rU fun i => .int (-i)) (tC (.int 1)))) := po_some (pe_un un_neg pe_int)
  refine wpAny_Slice (thn (po_none.run pins s1 σ H1 (fun o H2 => o = none ∧ H2 = H1) I1 ⟨rfl, rfl⟩) ?_)
  rintro vl s2 ⟨l, H2, I2, pl, rfl, rfl⟩
  refine thn (po_none.run pins s2 σ H2 (fun o H3 => o = none ∧ H3 = H2) I2 ⟨rfl, rfl⟩) ?_
  rintro vu s3 ⟨u, H3, I3, pu, rfl, rfl⟩
  refine thn (hst.run pins s3 σ H3 (fun o H4 => o = some (-1) ∧ H4 = H3) I3 ⟨1, rfl, -1, rfl, rfl, rfl⟩) ?_
  rintro vs s4 ⟨o, H4, I4, ps, rfl, rfl⟩
  have I5 : Inv X pins σ H4 { s4 with heap := s4.heap.push { cls := .type "slice", data := .fields #[vl, vu, vs] } } :=
    I4.kept (t' := s4.toks) fun b ob q => Heap.get?_push_of_some _ q
  obtain ⟨its, r, ht, hz⟩ := I5.tuple hx
  have hlen := r.length
  cases pl
  cases pu
  show wpAny (model X.prog X.w) X.A (subscriptTail e (.Slice none none (some (.UnaryOp .USub (.Constant (.int 1) k p1) p2)) p3) (.ref a) (.ref s4.heap.objs.size))
    (EP X pins σ Q) X.xe { s4 with heap := s4.heap.push { cls := .type "slice", data := .fields #[.none, .none, vs] } }
  refine tail_any (ops := [.ref a, .ref s4.heap.objs.size]) ht.typeIs (PyProof.Rows.slot_tuple_getitem.lookup) ?_ (by with_unfolding_all rfl)
  refine getItem_tup_rev ht (Heap.IsSliceOf.new _ .none .none vs) ps ?_ (by rw [List.size_toArray]; omega)
  refine ⟨.ref _, _, I5.laid (t' := s4.toks) (o := .tup xs.reverse) (fun b ob q => Heap.get?_push_of_some _ q) (Nat.le_refl _) ?_, rfl, q _ (I5.hok.fresh (Nat.le_refl _))⟩
  exact ⟨by rw [List.length_reverse]; exact hz, _, r.reverse, ⟨_, Heap.get?_push_size _ rfl, rfl, _, rfl⟩⟩
/-- t.index(k), a tuple of ints -/
theorem flat_ints (ns : List Int) : (ns.map V.int).all flatV = true := by
  rw [List.all_map]
  exact List.all_eq_true.mpr fun _ _ => rfl
def rTupIx (K : PySem.W.Frag) : V → List V → Hp → VK → Prop := fun x xs H Q => ∃ (p : Addr) (ns : List Int) (z : Int) (j : Nat), x = .ref p ∧ xs = [.int z] ∧
    SqT K H p (ns.map V.int) ∧ ns[j]? = some z ∧ (∀ m, m < j → ns[m]? ≠ some z) ∧ Q (.int (j : Nat)) H
/-- len of a list or a tuple, the written part named -/
def rLen (K : PySem.W.Frag) : List V → Hp → VK → Prop := fun xs H Q => ∃ p ys, xs = [V.ref p] ∧ (SqL K H p ys ∨ SqT K H p ys) ∧ Q (.int (ys.length : Nat)) H
theorem call_lenK {X : Cx} : CallR X (.builtin "len") (rLen X.K) := call_len_seq
theorem mt_tupIndexI {X : Cx} : MtR X "tuple.index" (rTupIx X.K) := by
  intro pins s σ H x xs v us Q I rx rs h
  obtain ⟨p, ns, z, j, rfl, rfl, hq, hy, hno, q⟩ := h
  cases rx
  obtain ⟨u, rfl, t, rfl⟩ := vals1 rs
  obtain ⟨its, r, pl, hz⟩ := I.tuple hq
  obtain ⟨⟨cls, dd, dt, sl⟩, ho, hc, n, hd⟩ := pl
  simp only at hc hd
  subst hc
  subst hd
  have hl : its.toArray.size = ns.length := by rw [List.size_toArray, ← r.length, List.length_map]
  have hj : j < its.toArray.size := by rw [hl]; exact (List.getElem?_eq_some_iff.mp hy).1
  have at' : ∀ (m : Nat) (hm : m < its.toArray.size), ∃ y t', ns[m]? = some y ∧ its.toArray[m] = Value.int y t' := by
    intro m hm
    have hm' : m < ns.length := by rw [← hl]; exact hm
    obtain ⟨w, hw, t', hw'⟩ := r.get (i := m) (x := .int ns[m]) (by simp [hm'])
    refine ⟨ns[m], t', List.getElem?_eq_getElem hm', ?_⟩
    have e := (List.getElem?_eq_some_iff.mp hw).2
    rw [← hw', ← e]
    simp
  refine call_meets PySem.F.slot_tuple_index ⟨_, ho, rfl⟩ PySem.F.entry_tuple_index (PySem.F.args_tuple_index_2 _ _)
    (TI.tuple_indexAt p its.toArray n dd sl (.int z t) (eqU (.int z)) j hj ?_ ?_)
    ⟨ho, fun w hw => mem_eqAt (x := .int z) ⟨t, rfl⟩ rfl r (flat_ints ns) w (by simpa using hw), ⟨.int (j : Nat), H, I.tok _, ⟨_, rfl⟩, q⟩⟩
  · obtain ⟨y, t', h1, h2⟩ := at' j hj
    rw [hy] at h1
    cases h1
    rw [h2]
    show (z == z) = true
    exact beq_self_eq_true z
  · intro m hm hmj
    obtain ⟨y, t', h1, h2⟩ := at' m hm
    rw [h2]
    show (y == z) = false
    exact beq_eq_false_iff_ne.mpr fun e => hno m hmj (e ▸ h1)
end Cy
/-! ### tuples whose object is known: new ones, and their methods -/
namespace Cy
open PySem PySem.Spec PyProof.Rows L2
/-- a tuple whose object is known, and has no dict -/
def Tf (H : Hp) (a : Addr) (xs : List V) : Prop := ∃ o : Obj, H a = some (.frz o (.tup xs)) ∧ o.dict = none
theorem Tf.rd {H : Hp} {a : Addr} {xs : List V} (h : Tf H a xs) : Rd H a (.tup xs) := let ⟨o, e, _⟩ := h; .inr ⟨o, e⟩
theorem Rd.same {H H' : Hp} (e : Same H H') {a : Addr} {u : HO} (h : Rd H a u) : Rd H' a u := h.imp (e _ _) fun ⟨o, q⟩ => ⟨o, e _ _ q⟩
theorem Tf.same {H H' : Hp} (e : Same H H') {a : Addr} {xs : List V} (h : Tf H a xs) : Tf H' a xs := let ⟨o, q, d⟩ := h; ⟨o, e _ _ q, d⟩
theorem Tf.ne {H : Hp} {a b : Addr} {xs : List V} {u : HO} (h : Tf H a xs) (h2 : H b = some u) (n : ∀ o, u ≠ .frz o (.tup xs)) : a ≠ b := by
  obtain ⟨o, e, _⟩ := h
  exact ne_of e h2 fun z => n o z.symm
section
variable {X : Cx} {e : Expr} {es : List Expr} {t : TA} {pos : Pos}
/-- (e, ..) -/
def tTupF (t : TA) : TE := fun σ H Q => t σ H fun xs H1 => xs.length ≤ sizeLine ∧ ∀ p o, H1 p = none → o.dict = none → Q (.ref p) (upd H1 p (.frz o (.tup xs)))
theorem pe_tupF {x1} (h : PA X es t) : PE X (.Tuple es x1 pos) (tTupF t) := by
  constructor
  intro pins s σ H Q I hq
  apply wpAny_Tuple_spliced
  refine thn (h.run pos pins s σ H _ I hq) ?_
  rintro us s1 ⟨xs, H1, I1, r, z, q⟩
  have hf : H1 s1.heap.objs.size = none := I1.hok.fresh (Nat.le_refl _)
  have e := Heap.get?_push_size s1.heap (o := { cls := .type "tuple", data := .seq us.toArray }) rfl
  refine ⟨by rw [← r.length]; exact z, .ref s1.heap.objs.size, upd H1 s1.heap.objs.size (.frz { cls := .type "tuple", data := .seq us.toArray } (.tup xs)), ?_, rfl, q _ _ hf rfl⟩
  refine I1.laid (t' := s1.toks) (fun b u e => Heap.get?_push_of_some _ e) (Nat.le_refl _) ?_
  exact ⟨e, z, us, r, ⟨_, e, rfl, _, rfl⟩⟩
/-- tuple(xs), a list -/
theorem call_tupleF : CallR X (.type "tuple") (fun xs H Q => ∃ p ys, xs = [.ref p] ∧ SqL X.K H p ys ∧ ∀ l o, H l = none → o.dict = none → Q (.ref l) (upd H l (.frz o (.tup ys)))) := by
  intro pins s σ H xs us Q I r h
  obtain ⟨p, ys, rfl, hq, q⟩ := h
  obtain ⟨u, rfl, rx⟩ := vals1 r
  cases rx
  obtain ⟨its, r', pl, hz⟩ := I.list hq
  have hlen := r'.length
  refine call_tuple_list pl.isList (fun h' kp => ?_) (by simp only [List.size_toArray] <;> omega)
  have I1 : Inv X pins σ H { s with heap := h' } := I.kept (t' := s.toks) kp
  have e := Heap.get?_push_size h' (o := { cls := .type "tuple", data := .seq its.toArray }) rfl
  have I2 : Inv X pins σ (upd H h'.objs.size (.frz { cls := .type "tuple", data := .seq its.toArray } (.tup ys))) { s with heap := h'.push { cls := .type "tuple", data := .seq its.toArray } } :=
    I1.laid (t' := s.toks) (fun b o e => Heap.get?_push_of_some _ e) (Nat.le_refl _) ⟨e, hz, its, r', IsTup.new _ _⟩
  exact ⟨.ref h'.objs.size, _, I2, rfl, q _ _ (I1.hok.fresh (Nat.le_refl _)) rfl⟩
/-- t.m(e, ..), t such a tuple -/
def tBMF (r : V → List V → Hp → VK → Prop) (to : TE) (t : TA) : TE := fun σ H Q => to σ H fun x H1 => (∃ a xs, x = .ref a ∧ Tf H1 a xs) ∧ t σ H1 fun zs H2 => r x zs H2 Q
theorem pe_bmF {o : Expr} {to : TE} {name : Str} {apos cpos : Pos} {id : String} {r : V → List V → Hp → VK → Prop}
    (slot : Slot "tuple" name id) (hty : typeOf (.builtin id) = pure (.type "method_descriptor")) (hm : MtR X id r) (ho : PE X o to) (ha : PA X (e :: es) t)
    (hbase : attributeBase o name X.env (eval o X.env) = eval o X.env := by rfl)
    (hfew : ((backTo cpos (starEach (e :: es) X.env)).all (fun x => !x.1) && (backToKw cpos (keywordEach [] X.env)).all (fun x => x.1.isSome) &&
      decide ((e :: es).length + ([] : List Keyword).length + (if ([] : List Keyword).isEmpty then 0 else 1) < 30)) = true := by rfl)
    (hline : (apos.endLine == cpos.line) = true := by rfl)
    (hs : starEach (e :: es) X.env = (false, eval e X.env) :: starEach es X.env := by rfl)
    (hplain : (backTo cpos (starEach es X.env)).any (·.1) = false := by rfl) :
    PE X (.Call (.Attribute o name apos) (e :: es) [] cpos) (tBMF r to t) := by
  constructor
  intro pins s σ H Q I h
  refine wpAny_Call_method_late hbase hfew hline rfl (thn (ho.run pins s σ H _ I h) ?_)
  rintro v s1 ⟨x, H1, I1, r1, ⟨a, xs, rfl, ob, hf, hd⟩, q1⟩
  have ok : ObjOk X.prog X.w H1 s1.heap a (.frz ob (.tup xs)) := I1.hok a _ hf
  obtain ⟨eo, _, its, _, o2, e2, hc, _⟩ := ok
  rw [eo] at e2
  cases e2
  have hr1 := r1
  cases r1
  refine ⟨"tuple", id, PySem.F.plainAttrs_tuple, slot, hty, ⟨ob, eo, hc⟩, ?_, ?_⟩
  · intro b z
    cases z
    exact ⟨ob, eo, hd⟩
  have hA := ha.run cpos pins s1 σ H1 _ I1 q1
  rw [hs] at hA ⊢
  refine Calls.callWith_builtin ?_ (Calls.evalArgs_plain (thn hA ?_))
  · show (false || (backTo cpos (starEach es X.env)).any (·.1)) = false
    rw [hplain]
    rfl
  rintro us s2 ⟨vs, H2, I2, r2, q2⟩
  exact hm pins s2 σ H2 (.ref a) vs _ us Q I2 hr1 r2 q2
end
end Cy
/-! ### callees, types, kept heaps -/
namespace Cy
open PySem PySem.Spec PyProof.Rows L2
/-- a def that may be called by its name -/
def Cal (P : Program) (w : World) (K : PySem.W.Frag) (mg : Str → Option Value) (base : Heap) (CX : CXT) (k : Nat) (x : Str) (ps : List Str) (sp : Sp) : Prop :=
  ∃ f fd, FnOk P w K mg base CX k f fd ps sp ∧ mg x = some (.ref f) ∧ PySem.W.keepIn K (.ref f) = true ∧ Binds K fd ps []
section
variable {X : Cx} {CX : CXT} {k : Nat} {x : Str} {ps : List Str} {sp : Sp} {p pos : Pos} {e : Expr} {es : List Expr} {t : TA} {E : XK}
theorem pe_cal (C : Cal X.prog X.w X.K X.mg X.base CX k x ps sp) (hr : Room k X.A) (hx : Passes CX X E) (hg : Gl X x) (ha : PA X (e :: es) t)
    (hdb : (x == ("__debug__" : Str)) = false := by decide)
    (he : starEach (e :: es) X.env = (false, eval e X.env) :: starEach es X.env := by rfl)
    (hpl : (backTo pos (starEach es X.env)).any (·.1) = false := by rfl) :
    PE X (.Call (.Name x p) (e :: es) [] pos) (tCall sp [] E t) := by
  obtain ⟨f, fd, F, hm, hk, hb⟩ := C
  exact pe_call F hr hg hm hk hb .nil hx ha hdb he hpl
end
/-- a def that may be called by keywords alone -/
def CalK (P : Program) (w : World) (K : PySem.W.Frag) (mg : Str → Option Value) (base : Heap) (CX : CXT) (k : Nat) (x : Str) (ps ks : List Str) (gV : List V → List V) (sp : Sp) : Prop :=
  ∃ (f : Addr) (fd : FuncData) (g : List Value → List Value), FnOk P w K mg base CX k f fd ps sp ∧ mg x = some (.ref f) ∧ PySem.W.keepIn K (.ref f) = true ∧ KBn K fd ps 0 ks (fun _ ws => g ws) (fun _ zs => gV zs)
section
variable {X : Cx} {CX : CXT} {k : Nat} {x : Str} {ps ks : List Str} {sp : Sp} {p pos : Pos} {kws : List Keyword} {tk : TA} {E : XK} {gV : List V → List V}
theorem pe_calK (C : CalK X.prog X.w X.K X.mg X.base CX k x ps ks gV sp) (hr : Room k X.A) (hx : Passes CX X E) (hg : Gl X x) (hkw : PK X kws tk)
    (hall : (backToKw pos (keywordEach kws X.env)).all (·.1.isSome) = true := by rfl)
    (hks : (backToKw pos (keywordEach kws X.env)).filterMap (·.1) = ks := by rfl) (hdb : (x == ("__debug__" : Str)) = false := by decide)
    (hpl : ((backTo pos (starEach [] X.env)).any (·.1) || (backToKw pos (keywordEach kws X.env)).any (·.1.isNone)) = false := by rfl) :
    PE X (.Call (.Name x p) [] kws pos) (fun σ H Q => tk σ H fun zs H2 => zs.length = ks.length ∧ sp (gV zs) H2 Q E) := by
  obtain ⟨f, fd, g, F, hm, hk, hb⟩ := C
  constructor
  intro pins s σ H Q I h
  apply wpAny_Call_Name_kw
  refine ld_glob I hg hm ?_ hdb
  refine PySem.W.callWith_KW0 (h₀ := X.base) I.ok.mod.kin hk hall ?_ hpl
  refine thn (hkw.run pos pins s σ H _ I h) ?_
  rintro ws s2 ⟨zs, H2, I2, rz, l2, q2⟩
  refine ⟨I2.kIn, ?_⟩
  rw [hks]
  exact run_fnN (us := []) (vs := []) F hr hb hx I2 .nil rz rfl l2 q2
end
/-! types stay -/
theorem TyX.same {K : PySem.W.Frag} {H H' : Hp} (e : Same H H') {x : V} {t : Value} (h : TyX K H x t) : TyX K H' x t := by
  cases h with
  | base b =>
    cases b with
    | non => exact .base .non
    | bl y => exact .base (.bl y)
    | int i => exact .base (.int i)
    | str y => exact .base (.str y)
    | flt y => exact .base (.flt y)
    | lst q => exact .base (.lst (e _ _ q))
    | frz q => exact .base (.frz (e _ _ q))
    | tup q => exact .base (.tup (e _ _ q))
    | dK q => exact .base (.dK (e _ _ q))
    | dT q => exact .base (.dT (e _ _ q))
    | ins q cl ha hn htk hm => exact .base (.ins (e _ _ q) cl ha hn htk hm)
  | byt b => exact .byt b
  | set q => exact .set (e _ _ q)
  | kList q c => exact .kList q c
  | kTuple q c => exact .kTuple q c
  | kDict q c => exact .kDict q c
  | fTuple q => exact .fTuple (e _ _ q)
  | fDict q => exact .fDict (e _ _ q)
theorem Same.tupq {K : PySem.W.Frag} {H H' : Hp} {a : Addr} {xs : List V} (e : Same H H') (h : SqT K H a xs) : SqT K H' a xs := by
  rcases h with (h | ⟨o, h⟩) | h
  · exact .inl (.inl (e _ _ h))
  · exact .inl (.inr ⟨o, e _ _ h⟩)
  · exact .inr h
theorem Same.upd {H : Hp} {p : Addr} {o : HO} (h : H p = none) : Same H (upd H p o) := fun b x e => by
  rw [upd_ne (ne_of_none e h)]
  exact e
/-- all but the object at p -/
def But (p : Addr) (H H' : Hp) : Prop := ∀ b o, b ≠ p → H b = some o → H' b = some o
theorem Same.but {p : Addr} {H H' : Hp} (e : Same H H') : But p H H' := fun b o _ h => e b o h
theorem But.trans {p : Addr} {H H1 H2 : Hp} (a : But p H H1) (b : But p H1 H2) : But p H H2 := fun c o n h => b c o n (a c o n h)
theorem But.of_upd {p : Addr} {H : Hp} {o : HO} : But p H (L2.upd H p o) := fun b x n e => by
  rw [upd_ne n]
  exact e
/-- the answers of isinstance(x, int) and not isinstance(x, bool) -/
def IsI (K : PySem.W.Frag) (H : Hp) (x : V) (b : Bool) : Prop :=
  ∃ t b1 b2, TyX K H x t ∧ PySem.W.kitOne K t (.type "int") = some b1 ∧ (b1 = true → PySem.W.kitOne K t (.type "bool") = some b2) ∧ b = (b1 && !b2)
theorem IsI.same {K : PySem.W.Frag} {H H' : Hp} (e : Same H H') {x : V} {b : Bool} (h : IsI K H x b) : IsI K H' x b := by
  obtain ⟨t, b1, b2, h1, h2, h3, h4⟩ := h
  exact ⟨t, b1, b2, TyX.same e h1, h2, h3, h4⟩
section
variable {K : PySem.W.Frag} {H : Hp}
theorem IsI.int (i : Int) : IsI K H (.int i) true := ⟨_, true, false, .base (.int i), kit_ty (by decide +kernel), fun _ => kit_ty (by decide +kernel), rfl⟩
theorem IsI.bl (i : Bool) : IsI K H (.bl i) false := ⟨_, true, true, .base (.bl i), kit_ty (by decide +kernel), fun _ => kit_ty (by decide +kernel), rfl⟩
theorem IsI.no {x : V} {t : String} (h : TyX K H x (.type t)) (k : kitB t "int" = some false) : IsI K H x false :=
  ⟨_, false, false, h, kit_ty k, fun z => (nomatch z), rfl⟩
theorem IsI.non : IsI K H .non false := .no (.base .non) (by decide +kernel)
theorem IsI.str (x : Str) : IsI K H (.str x) false := .no (.base (.str x)) (by decide +kernel)
theorem IsI.lst {a : Addr} {xs : List V} (e : H a = some (.lst xs)) : IsI K H (.ref a) false := .no (.base (.lst e)) (by decide +kernel)
theorem rd_ty {a : Addr} {xs : List V} (e : Rd H a (.tup xs)) : TyX K H (.ref a) (.type "tuple") := by
  rcases e with e | ⟨o, e⟩
  · exact .base (.tup e)
  · exact .fTuple e
theorem IsI.tup {a : Addr} {xs : List V} (e : Rd H a (.tup xs)) : IsI K H (.ref a) false := .no (rd_ty e) (by decide +kernel)
theorem IsI.dk {a : Addr} {xs : List (Key × V)} (e : H a = some (.dK xs)) : IsI K H (.ref a) false := .no (.base (.dK e)) (by decide +kernel)
end
end Cy
/-! ### orders and ranks, in plain Lean -/
namespace Cy
def iota (n : Nat) : List Int := (List.range n).map fun (i : Nat) => ((i : Int) + 1)
theorem iota_length (n : Nat) : (iota n).length = n := by simp [iota]
theorem iota_get {n i : Nat} (h : i < n) : (iota n)[i]? = some ((i : Int) + 1) := by simp [iota, h]
theorem iota_mem {n : Nat} {x : Int} : x ∈ iota n ↔ 1 ≤ x ∧ x ≤ n := by
  unfold iota
  rw [List.mem_map]
  constructor
  · rintro ⟨a, h, rfl⟩
    have := List.mem_range.mp h
    omega
  · rintro ⟨h1, h2⟩
    exact ⟨(x - 1).toNat, List.mem_range.mpr (by omega), by omega⟩
theorem iota_pw (n : Nat) : (iota n).Pairwise (· < ·) := by
  unfold iota
  rw [List.pairwise_map]
  refine List.Pairwise.imp ?_ (List.pairwise_lt_range (n := n))
  intro a b h
  omega
theorem nodup_of_pw {l : List Int} (h : l.Pairwise (· < ·)) : l.Nodup := by
  refine List.Pairwise.imp ?_ h
  intro a b h e
  omega
theorem iota_nodup (n : Nat) : (iota n).Nodup := nodup_of_pw (iota_pw n)
theorem iota_succ (n : Nat) : iota (n + 1) = iota n ++ [(n : Int) + 1] := by
  simp [iota, List.range_succ]
def Ord (ns : List Int) : Prop := ns.Perm (iota ns.length)
def ordB (ns : List Int) : Bool := ns.isPerm (iota ns.length)
theorem ordB_iff {ns : List Int} : ordB ns = true ↔ Ord ns := List.isPerm_iff
theorem Ord.nodup {ns : List Int} (h : Ord ns) : ns.Nodup := h.nodup_iff.mpr (iota_nodup _)
theorem Ord.mem {ns : List Int} (h : Ord ns) {x : Int} : x ∈ ns ↔ 1 ≤ x ∧ x ≤ ns.length := by
  rw [h.mem_iff, iota_mem]
/-- what is_order compares -/
theorem ord_sorted {ns ms : List Int} (h1 : ms.Perm ns) (h2 : ms.Pairwise (· ≤ ·)) : decide (ms = iota ns.length) = ordB ns := by
  by_cases h : Ord ns
  · rw [ordB_iff.mpr h]
    refine decide_eq_true (PySem.W.ksm_same (h1.trans h) h2 ?_)
    exact List.Pairwise.imp (fun {a b} h => Int.le_of_lt h) (iota_pw _)
  · have e : ordB ns = false := by
      cases q : ordB ns with
      | false => rfl
      | true => exact absurd (ordB_iff.mp q) h
    rw [e]
    refine decide_eq_false ?_
    intro z
    exact h (h1.symm.trans (by rw [z]))
/-! ranks -/
def less (x : Int) (r : List Int) : List Int := r.filter fun y => decide (y < x)
def ranks : List Int → List Int
  | [] => []
  | x :: r => (1 + ((less x r).length : Int)) :: ranks r
theorem ranks_length : ∀ ns : List Int, (ranks ns).length = ns.length
  | [] => rfl
  | x :: r => congrArg Nat.succ (ranks_length r)
theorem ranks_get : ∀ (ns : List Int) (i : Nat) (x : Int), ns[i]? = some x → (ranks ns)[i]? = some (1 + ((less x (ns.drop (i + 1))).length : Int))
  | [], _, _, h => by simp at h
  | y :: r, 0, x, h => by
    have e : y = x := by simpa using h
    subst e
    rfl
  | y :: r, i + 1, x, h => by
    have q := ranks_get r i x (by simpa using h)
    show (ranks r)[i]? = some (1 + ((less x (r.drop (i + 1))).length : Int))
    exact q
theorem ranks_ok (ns : List Int) (i : Nat) (x : Int) (h : (ranks ns)[i]? = some x) : 1 ≤ x ∧ x ≤ (ns.length : Int) - i := by
  have hi : i < ns.length := by
    have := (List.getElem?_eq_some_iff.mp h).1
    rwa [ranks_length] at this
  have q := ranks_get ns i ns[i] (List.getElem?_eq_getElem hi)
  rw [h] at q
  have e := Option.some.inj q
  have l : (less ns[i] (ns.drop (i + 1))).length ≤ (ns.drop (i + 1)).length := List.length_filter_le _ _
  rw [List.length_drop] at l
  omega
def goOrd : List Int → List Int → List Int
  | _, [] => []
  | W, r :: rs => W.getD (r - 1).toNat 0 :: goOrd (W.eraseIdx (r - 1).toNat) rs
theorem goOrd_length : ∀ (rs W : List Int), (goOrd W rs).length = rs.length
  | [], _ => rfl
  | _ :: rs, _ => congrArg Nat.succ (goOrd_length rs _)
theorem at_less : ∀ (W : List Int) (x : Int), W.Pairwise (· < ·) → x ∈ W → W[(less x W).length]? = some x ∧ (x :: W.eraseIdx (less x W).length).Perm W
  | [], x, _, h => by simp at h
  | w :: W, x, pw, h => by
    rw [List.pairwise_cons] at pw
    obtain ⟨p1, p2⟩ := pw
    by_cases e : x = w
    · subst e
      have z : less x (x :: W) = [] := by
        unfold less
        rw [List.filter_eq_nil_iff]
        intro a ha
        rcases List.mem_cons.mp ha with q | q
        · simp [q]
        · have := p1 a q
          simp
          omega
      rw [z]
      exact ⟨rfl, List.Perm.refl _⟩
    · have hm : x ∈ W := by
        rcases List.mem_cons.mp h with q | q
        · exact absurd q e
        · exact q
      have hl : w < x := p1 x hm
      have z : less x (w :: W) = w :: less x W := by
        unfold less
        rw [List.filter_cons_of_pos (by simpa using hl)]
      obtain ⟨i1, i2⟩ := at_less W x p2 hm
      rw [z]
      refine ⟨by simpa using i1, ?_⟩
      show (x :: w :: W.eraseIdx (less x W).length).Perm (w :: W)
      exact (List.Perm.swap _ _ _).trans (i2.cons w)
theorem go_ranks : ∀ (ns W : List Int), W.Pairwise (· < ·) → W.Perm ns → goOrd W (ranks ns) = ns
  | [], _, _, _ => rfl
  | x :: r, W, pw, hp => by
    have hx : x ∈ W := hp.mem_iff.mpr List.mem_cons_self
    obtain ⟨i1, i2⟩ := at_less W x pw hx
    have e : (less x W).length = (less x r).length := by
      have q := (hp.filter (fun y => decide (y < x))).length_eq
      have z : List.filter (fun y => decide (y < x)) (x :: r) = List.filter (fun y => decide (y < x)) r := by
        rw [List.filter_cons_of_neg (by simp)]
      rw [z] at q
      exact q
    rw [e] at i1 i2
    have t : (1 + ((less x r).length : Int) - 1).toNat = (less x r).length := by omega
    show W.getD (1 + ((less x r).length : Int) - 1).toNat 0 :: goOrd (W.eraseIdx (1 + ((less x r).length : Int) - 1).toNat) (ranks r) = x :: r
    rw [t]
    have g : W.getD (less x r).length 0 = x := by
      rw [List.getD_eq_getElem?_getD, i1]
      rfl
    rw [g]
    congr 1
    refine go_ranks r _ (pw.eraseIdx _) ?_
    exact (List.perm_cons x).mp (i2.trans hp)
theorem order_ranks {ns : List Int} (h : Ord ns) : goOrd (iota ns.length) (ranks ns) = ns := go_ranks ns _ (iota_pw _) h.symm
/-! inverse and turned about -/
def inv (ns : List Int) : List Int := (iota ns.length).map fun w => (ns.idxOf w : Int) + 1
theorem inv_length (ns : List Int) : (inv ns).length = ns.length := by simp [inv, iota_length]
theorem idx_map {ns : List Int} (h : ns.Nodup) : (ns.map fun w => (ns.idxOf w : Int) + 1) = iota ns.length := by
  apply List.ext_getElem
  · simp [iota_length]
  · intro i h1 h2
    have hi : i < ns.length := by simpa using h1
    simp only [List.getElem_map, iota, List.getElem_range]
    rw [h.idxOf_getElem i hi]
theorem inv_ord {ns : List Int} (h : Ord ns) : Ord (inv ns) := by
  unfold Ord
  rw [inv_length]
  have q := h.symm.map fun w => (ns.idxOf w : Int) + 1
  rw [idx_map h.nodup] at q
  exact q
theorem inv_get {ns : List Int} {i : Nat} (hi : i < ns.length) : (inv ns)[i]? = some ((ns.idxOf ((i : Int) + 1) : Int) + 1) := by
  unfold inv
  rw [List.getElem?_map, iota_get hi]
  rfl
theorem inv_at {ns : List Int} (h : Ord ns) {k : Nat} {v : Int} (hk : ns[k]? = some v) : 1 ≤ v ∧ v ≤ ns.length ∧ (inv ns)[(v - 1).toNat]? = some ((k : Int) + 1) := by
  obtain ⟨hlt, e⟩ := List.getElem?_eq_some_iff.mp hk
  have hm : v ∈ ns := List.mem_of_getElem? hk
  obtain ⟨b1, b2⟩ := h.mem.mp hm
  refine ⟨b1, b2, ?_⟩
  have hv : (v - 1).toNat < ns.length := by omega
  rw [inv_get hv]
  have e2 : (((v - 1).toNat : Nat) : Int) + 1 = v := by omega
  rw [e2, ← e, h.nodup.idxOf_getElem k hlt]
theorem eq_of_inv {ns ms : List Int} (hn : Ord ns) (hm : Ord ms) (hl : ns.length = ms.length) (h : ∀ (k : Nat) (v : Int), ns[k]? = some v → (inv ms)[(v - 1).toNat]? = some ((k : Int) + 1)) : ns = ms := by
  apply List.ext_getElem hl
  intro i h1 h2
  have q := h i ns[i] (List.getElem?_eq_getElem h1)
  obtain ⟨b1, b2⟩ := hn.mem.mp (List.getElem_mem h1)
  have hv : (ns[i] - 1).toNat < ms.length := by omega
  rw [inv_get hv] at q
  have e := Option.some.inj q
  have e2 : ((((ns[i] - 1).toNat : Nat) : Int) + 1) = ns[i] := by omega
  rw [e2] at e
  have e3 : ms.idxOf ns[i] = i := by omega
  have hlt : ms.idxOf ns[i] < ms.length := by omega
  have g := List.getElem_idxOf hlt
  have g1 : ms[ms.idxOf ns[i]]? = some ns[i] := by
    rw [List.getElem?_eq_getElem hlt, g]
  have g2 : ms[i]? = some ns[i] := by
    rw [e3] at g1
    exact g1
  rw [List.getElem?_eq_getElem h2] at g2
  exact (Option.some.inj g2).symm
theorem inv_inv {ns : List Int} (h : Ord ns) : inv (inv ns) = ns := by
  symm
  refine eq_of_inv h (inv_ord (inv_ord h)) (by rw [inv_length, inv_length]) ?_
  intro k v hk
  obtain ⟨b1, b2, q⟩ := inv_at h hk
  have q2 := inv_at (inv_ord h) q
  obtain ⟨c1, c2, q3⟩ := q2
  have e : ((k : Int) + 1 - 1).toNat = k := by omega
  rw [e] at q3
  have e4 : ((((v - 1).toNat : Nat)) : Int) + 1 = v := by omega
  rw [e4] at q3
  have q5 := inv_at (inv_ord (inv_ord h)) q3
  exact q5.2.2
/-- turned about -/
def trn (ns : List Int) : List Int := (inv ns).reverse.map fun p => (ns.length : Int) + 1 - p
theorem trn_length (ns : List Int) : (trn ns).length = ns.length := by simp [trn, inv_length]
theorem iota_rev (n : Nat) : (iota n).map (fun p => (n : Int) + 1 - p) = (iota n).reverse := by
  apply List.ext_getElem
  · simp
  · intro i h1 h2
    have hi : i < n := by simpa [iota_length] using h1
    simp only [List.getElem_map, List.getElem_reverse, iota, List.getElem_range, List.length_map, List.length_range]
    omega
theorem trn_ord {ns : List Int} (h : Ord ns) : Ord (trn ns) := by
  unfold Ord
  rw [trn_length]
  have q0 : (inv ns).reverse.Perm (iota ns.length) := by
    have z := inv_ord h
    unfold Ord at z
    rw [inv_length] at z
    exact (List.reverse_perm _).trans z
  have q := q0.map fun p => (ns.length : Int) + 1 - p
  rw [iota_rev] at q
  exact q.trans (List.reverse_perm _)
theorem trn_get {ns : List Int} {i : Nat} {v : Int} (hi : i < ns.length) (h : (inv ns)[ns.length - 1 - i]? = some v) : (trn ns)[i]? = some ((ns.length : Int) + 1 - v) := by
  unfold trn
  rw [List.getElem?_map, List.getElem?_reverse (by rw [inv_length]; exact hi), inv_length, h]
  rfl
theorem trn_trn {ns : List Int} (h : Ord ns) : trn (trn ns) = ns := by
  symm
  refine eq_of_inv h (trn_ord (trn_ord h)) (by rw [trn_length, trn_length]) ?_
  intro k v hk
  -- trn (trn ns) at k is v: so its inverse at v is k
  obtain ⟨hlt, _⟩ := List.getElem?_eq_some_iff.mp hk
  obtain ⟨b1, b2, q⟩ := inv_at h hk
  -- (trn ns) at n - v is n - k
  have s1 : (trn ns)[ns.length - 1 - (v - 1).toNat]? = some ((ns.length : Int) + 1 - ((k : Int) + 1)) := by
    refine trn_get (by omega) ?_
    have e : ns.length - 1 - (ns.length - 1 - (v - 1).toNat) = (v - 1).toNat := by omega
    rw [e]
    exact q
  obtain ⟨c1, c2, q2⟩ := inv_at (trn_ord h) s1
  have s2 : (trn (trn ns))[k]? = some ((ns.length : Int) + 1 - (((ns.length - 1 - (v - 1).toNat : Nat) : Int) + 1)) := by
    have hk2 : k < (trn ns).length := by rw [trn_length]; exact hlt
    have z := trn_get (ns := trn ns) (i := k) (v := ((ns.length - 1 - (v - 1).toNat : Nat) : Int) + 1) hk2 (by
      have e : (trn ns).length - 1 - k = ((ns.length : Int) + 1 - ((k : Int) + 1) - 1).toNat := by
        rw [trn_length]
        omega
      rw [e]
      exact q2)
    rw [trn_length] at z
    exact z
  have e5 : (ns.length : Int) + 1 - (((ns.length - 1 - (v - 1).toNat : Nat) : Int) + 1) = v := by omega
  rw [e5] at s2
  exact (inv_at (trn_ord (trn_ord h)) s2).2.2
/-- the list of places, made by stores -/
theorem places_done {ns ps : List Int} (h : Ord ns) (hl : ps.length = ns.length) (hp : ∀ (k : Nat) (v : Int), ns[k]? = some v → ps[(v - 1).toNat]? = some ((k : Int) + 1)) : ps = inv ns := by
  apply List.ext_getElem (by rw [inv_length]; exact hl)
  intro i h1 h2
  have hi : i < ns.length := by omega
  have hm : ((i : Int) + 1) ∈ ns := h.mem.mpr (by omega)
  obtain ⟨k, hk⟩ := List.getElem?_of_mem hm
  have q := hp k _ hk
  have q2 := (inv_at h hk).2.2
  have e : ((i : Int) + 1 - 1).toNat = i := by omega
  rw [e] at q q2
  rw [List.getElem?_eq_getElem h1] at q
  rw [List.getElem?_eq_getElem h2] at q2
  rw [Option.some.inj q, Option.some.inj q2]
/-- a wagon put in -/
theorem put_perm {fs : List Int} {m : Nat} (h : fs.Perm (iota m)) (k : Nat) : (fs.take k ++ [(m : Int) + 1] ++ fs.drop k).Perm (iota (m + 1)) := by
  rw [iota_succ]
  have q : (fs.take k ++ [(m : Int) + 1] ++ fs.drop k).Perm (((m : Int) + 1) :: (fs.take k ++ fs.drop k)) := by
    rw [List.append_assoc]
    exact List.perm_middle
  rw [List.take_append_drop] at q
  refine q.trans ((h.cons _).trans ?_)
  exact (List.perm_append_comm (l₁ := [(m : Int) + 1]) (l₂ := iota m))
/-- left out -/
def lessened (g : Int) (l : List Int) : List Int := l.map fun v => if g < v then v - 1 else v
end Cy
/-! ### own errors with one field -/
namespace Cy
open PySem PySem.Spec PyProof.Rows L2
/-- what C.__init__(self, x) keeps: base's __init__, self.f = x -/
def spErr (C : Addr) (f : Str) : Sp := fun vs H Q _ => ∃ a x, vs = [.ref a, x] ∧ H a = some (exo a C none) ∧
  ∀ d, H d = none → d ≠ a → Q .non (upd (upd H d (exd d [(f, x)])) a (exo a C (some d)))
structure Err (P : Program) (w : World) (K : PySem.W.Frag) (mg : Str → Option Value) (base : Heap) (k : Nat) (xn : Str) (C : Addr) (f g : Str) : Prop where
  gC : mg xn = some (.ref C)
  ox : OexC K C
  xf : XfC K C
  no : PySem.W.findIn K (.ref C) f = some none
  ex : ∃ fI fd, PySem.W.findIn K (.ref C) "__init__" = some (some (.ref fI)) ∧ PySem.W.typeIn K (.ref fI) = some (.type "function") ∧
    FnOk P w K mg base CX0 k fI fd ["self", g] (spErr C f) ∧ Binds K fd ["self", g] []
/-- what a def that raises C with the field f says -/
def Rz (C : Addr) (f : Str) (x : V) (H : Hp) (E : XK) : Prop := ∀ d H', Same H H' → H d = none → H' d = some (.xd [(f, x)]) → E (.ref C) (some d) H'
theorem Rz.of {C : Addr} {f : Str} {x : V} {H H1 : Hp} {E : XK} (r : Rz C f x H E) (e : Same H H1) : Rz C f x H1 E :=
  fun d H' s n h => r d H' (e.trans s) (e.free n) h
section
variable {X : Cx} {k : Nat} {xn f g : Str} {C : Addr} {W : WX} {e : Expr} {te : TE} {p pos pos' : Pos}
theorem ps_raiseE (R : Err X.prog X.w X.K X.mg X.base k xn C f g) (hc : X.calm = true) (tk : Takes X W) (hr : Room (k + 1) X.A) (hg : Gl X xn) (he : PE X e te)
    (hdb : (xn == ("__debug__" : Str)) = false := by decide) (hs : starEach [e] X.env = (false, eval e X.env) :: starEach [] X.env := by rfl)
    (hpl : (backTo pos (starEach [] X.env)).any (·.1) = false := by rfl) :
    PS X (.Raise (some (.Call (.Name xn p) [e] [] pos)) none pos') (fun _ σ H => tMkO C (spErr C f) [] (tCons te tNil) σ H fun cls d H' => W cls d σ H') := by
  obtain ⟨fI, fd, iC, tI, F1, hb⟩ := R.ex
  exact ps_raise (pos := pos') hc tk (pmk_oex (p := p) (pos := pos) R.ox iC tI F1 hr hb .nil pass0 hg R.gC (pa_cons he pa_nil hs) hdb hs hpl)
end
/-- the answer to it -/
theorem mkE {C : Addr} {f : Str} {H : Hp} {x : V} {Q : XK} (q : ∀ d, H d = none → Q (.ref C) (some d) (upd H d (.xd [(f, x)]))) :
    ([x] : List V).length ≤ 1000 ∧ ∀ a, H a = none → spErr C f (.ref a :: ([x] ++ [])) (upd H a (exo a C none))
      (fun v H2 => v = .non ∧ ∃ (d : Addr) (fs : List (Str × V)), H2 a = some (exo a C (some d)) ∧ H2 d = some (exd d fs) ∧ H d = none ∧
        Q (.ref C) (some d) (upd (del H2 a) d (.xd fs))) (fun _ _ _ => False) := by
  refine ⟨by show 1 ≤ 1000; decide, fun a ha => ⟨a, x, rfl, upd_same, fun d hd ne => ⟨rfl, d, _, upd_same, Eq.trans (upd_ne ne) upd_same, ?_, ?_⟩⟩⟩
  · rw [upd_ne ne] at hd
    exact hd
  · have hd1 : H d = none := by
      rw [upd_ne ne] at hd
      exact hd
    have e : upd (del (upd (upd (upd H a (exo a C none)) d (exd d [(f, x)])) a (exo a C (some d))) a) d (.xd [(f, x)]) = upd H d (.xd [(f, x)]) := by
      funext b
      by_cases hb : b = d
      · rw [hb, upd_same, upd_same]
      · rw [upd_ne hb, upd_ne hb]
        by_cases hba : b = a
        · rw [hba, del_same, ha]
        · rw [del_ne hba, upd_ne hba, upd_ne hb, upd_ne hba]
    rw [e]
    exact q d hd1
theorem Rz.go {C : Addr} {f : Str} {x : V} {H : Hp} {E : XK} (r : Rz C f x H E) : ∀ d, H d = none → E (.ref C) (some d) (upd H d (.xd [(f, x)])) :=
  fun d n => r d _ (Same.upd n) n upd_same
end Cy
/-! ### data of ints -/
namespace Cy
open PySem PySem.Spec PyProof.Rows L2
theorem rgV_iota (n : Nat) : rgV 1 ((n : Int) + 1) = (iota n).map V.int := by
  unfold rgV iota
  have e : ((n : Int) + 1 - 1).toNat = n := by omega
  rw [e, List.map_map]
  apply List.map_congr_left
  intro a _
  show V.int (1 + (a : Int)) = V.int ((a : Int) + 1)
  congr 1
  omega
theorem dp_ints {K : PySem.W.Frag} {H : Hp} : ∀ ns : List Int, DpAll K H (ns.map V.int) (ns.map PyData.int)
  | [] => .nil
  | n :: ns => .cons (.int n) (dp_ints ns)
theorem eqvAll_ints : ∀ (a b : List Int), PyData.eqvAll (a.map PyData.int) (b.map PyData.int) = decide (a = b)
  | [], [] => by simp [PyData.eqvAll]
  | [], _ :: _ => by simp [PyData.eqvAll]
  | _ :: _, [] => by simp [PyData.eqvAll]
  | x :: a, y :: b => by
    rw [List.map_cons, List.map_cons, PyData.eqvAll, eqvAll_ints a b, PyData.eqv]
    by_cases h : x = y <;> simp [h]
theorem eqv_lints (a b : List Int) : PyData.eqv (.list (a.map PyData.int)) (.list (b.map PyData.int)) = decide (a = b) := by
  rw [PyData.eqv, eqvAll_ints]
theorem eqv_tints (a b : List Int) : PyData.eqv (.tuple (a.map PyData.int)) (.tuple (b.map PyData.int)) = decide (a = b) := by
  rw [PyData.eqv, eqvAll_ints]
theorem depth_ints : ∀ a : List Int, PyData.depthAll (a.map PyData.int) = 0
  | [] => rfl
  | x :: a => by rw [List.map_cons, PyData.depthAll, depth_ints a]; rfl
theorem lay_ints : ∀ a : List Int, PyData.canLayAll0 (a.map PyData.int) = true
  | [] => rfl
  | x :: a => by rw [List.map_cons, PyData.canLayAll0, lay_ints a]; rfl
theorem sh_lints (a : List Int) : SeqAt.shaped (.list (a.map PyData.int)) = true := by
  unfold SeqAt.shaped
  rw [PyData.canLay0, lay_ints, PyData.depth, depth_ints]
  rfl
theorem sh_tints (a : List Int) : SeqAt.shaped (.tuple (a.map PyData.int)) = true := by
  unfold SeqAt.shaped
  rw [PyData.canLay0, lay_ints, PyData.depth, depth_ints]
  rfl
theorem cut_all {xs : List V} {lo hi : Option Int} (h : HT.sIx xs.length 0 lo = 0 ∧ HT.sIx xs.length xs.length hi = xs.length) : cutV xs lo hi = xs := by
  unfold cutV
  rw [h.1, h.2, List.drop_zero, Nat.sub_zero, List.take_length]
theorem cut_from (xs : List V) (k : Nat) : cutV xs (some (k : Int)) none = xs.drop k := by
  unfold cutV
  rw [HT.sIx_nat, HT.sIx_none]
  by_cases h : k ≤ xs.length
  · rw [Nat.min_eq_left h, ← List.length_drop, List.take_length]
  · have e1 : min k xs.length = xs.length := by omega
    rw [e1, Nat.sub_self, List.take_zero, List.drop_eq_nil_of_le (by omega)]
theorem cut_to (xs : List V) (k : Nat) : cutV xs none (some (k : Int)) = xs.take k := by
  unfold cutV
  rw [HT.sIx_nat, HT.sIx_none, List.drop_zero, Nat.sub_zero]
  by_cases h : k ≤ xs.length
  · rw [Nat.min_eq_left h]
  · have e1 : min k xs.length = xs.length := by omega
    rw [e1, List.take_length, List.take_of_length_le (by omega)]
theorem slA {K : PySem.W.Frag} {H : Hp} {a : Addr} {xs : List V} {lo hi : Option Int} {Q : VK} (h : Rd H a (.tup xs))
    (q : ∀ p H', Same H H' → Rd H' p (.tup (cutV xs lo hi)) → Q (.ref p) H') : rSlA K (.ref a) lo hi H Q :=
  ⟨a, xs, rfl, .inl h, fun z => q a H (Same.refl H) (by rw [cut_all z]; exact h), fun _ p n => q p _ (Same.upd n) (.inl upd_same)⟩
theorem catA {K : PySem.W.Frag} {H : Hp} {a b : Addr} {xs ys : List V} {Q : VK} (h1 : Rd H a (.tup xs)) (h2 : Rd H b (.tup ys)) (hz : xs.length + ys.length ≤ sizeLine)
    (q : ∀ p H', Same H H' → Rd H' p (.tup (xs ++ ys)) → Q (.ref p) H') : rCatA K (.ref a) (.ref b) H Q :=
  ⟨a, b, xs, ys, rfl, rfl, .inl h1, .inl h2, hz, fun z => q b H (Same.refl H) (by rw [z]; exact h2),
    fun _ z => q a H (Same.refl H) (by rw [z, List.append_nil]; exact h1), fun _ _ p n => q p _ (Same.upd n) (.inl upd_same)⟩
/-- a new object beside what is kept -/
theorem Same.put {H H1 : Hp} {D : Addr} {o : HO} (hD : H D = none) (s : Same H H1) : Same H (L2.upd H1 D o) := by
  intro b x e
  have hb : b ≠ D := fun z => by
    rw [z, hD] at e
    cases e
  rw [upd_ne hb]
  exact s _ _ e
end Cy
namespace Cy
open PySem PySem.Spec PyProof.Rows L2
def top (i : Nat) : Stmt := PySem.Challenge.pw_cellyards_k03_orders_and_ranks.main.body.getD i (.Pass ⟨0, 0, 0, 0⟩)
abbrev sIsInt : Stmt := top 6
abbrev sBtw : Stmt := top 7
section
variable {P : Program} {w : World} {K : PySem.W.Frag} {mg : Str → Option Value} {base : Heap}
/-! ### is_integer -/
def spIsInt (K : PySem.W.Frag) : Sp := fun vs H Q _ => ∃ x b, vs = [x] ∧ IsI K H x b ∧ Q (.bl b) H
theorem scIsInt : FnScope ["thing"] ["thing"] (defScope sIsInt) := ⟨rfl, rfl, rfl, by decide +kernel, rfl, by decide +kernel, by decide +kernel⟩
theorem ok_isInt {f : Addr} {fd : FuncData} (F : Fun K "is_integer" "is_integer" sIsInt f fd) (mi : mg "isinstance" = none) (mt : mg "int" = none) (mb : mg "bool" = none) :
    FnOk P w K mg base CX0 1 f fd ["thing"] (spIsInt K) := by
  refine F.ok scIsInt ?_ ?_
  · rintro vs H Q E ⟨x, b, rfl, _⟩
    rfl
  rintro cdv A outer s H vs Q E hr ⟨x, b, rfl, ⟨t, b1, b2, ty, k1, k2, rfl⟩, q⟩
  refine ⟨_, pss_one (ps_ret (pe_and (pe_callB call_isi (by rfl) mi boot_isinstance (pa_cons (pv 0) (pa_cons (pe_bltn (v := .ty "int") (by rfl) mt (by decide +kernel) rfl) pa_nil)))
    (pe_one (pe_not (pe_callB call_isi (by rfl) mi boot_isinstance (pa_cons (pv 0) (pa_cons (pe_bltn (v := .ty "bool") (by rfl) mb (by decide +kernel) rfl) pa_nil))))))), ?_⟩
  refine ⟨_, rfl, _, _, _, _, b1, rfl, .ty _, ty, k1, b1, rfl, ?_⟩
  cases b1 with
  | false => exact q
  | true => exact ⟨_, rfl, _, _, _, _, b2, rfl, .ty _, ty, k2 rfl, b2, rfl, q⟩
/-! ### is_between -/
def Btw (K : PySem.W.Frag) (H : Hp) (x : V) (lo hi : Int) (b : Bool) : Prop :=
  (∃ i, x = .int i ∧ b = (decide (lo ≤ i) && decide (i ≤ hi))) ∨ (IsI K H x false ∧ b = false)
def spBtw (K : PySem.W.Frag) : Sp := fun vs H Q _ => ∃ x lo hi b, vs = [x, .int lo, .int hi] ∧ Btw K H x lo hi b ∧ Q (.bl b) H
theorem scBtw : FnScope ["thing", "least", "most"] ["thing", "least", "most"] (defScope sBtw) := ⟨rfl, rfl, rfl, by decide +kernel, rfl, by decide +kernel, by decide +kernel⟩
theorem ok_btw {f : Addr} {fd : FuncData} (F : Fun K "is_between" "is_between" sBtw f fd) (G : Cal P w K mg base CX0 1 "is_integer" ["thing"] (spIsInt K)) :
    FnOk P w K mg base CX0 2 f fd ["thing", "least", "most"] (spBtw K) := by
  refine F.ok scBtw ?_ ?_
  · rintro vs H Q E ⟨x, lo, hi, b, rfl, _⟩
    rfl
  rintro cdv A outer s H vs Q E hr ⟨x, lo, hi, b, rfl, h, q⟩
  refine ⟨_, pss_one (ps_ret (pe_and (pe_cal G hr pass0 (by rfl) (pa_cons (pv 0) pa_nil)) (pe_one (pe_chain op_le op_le (pv 1) (pv 0) (pv 2))))), ?_⟩
  rcases h with ⟨i, rfl, rfl⟩ | ⟨h, rfl⟩
  · refine ⟨_, rfl, _, true, rfl, .int i, true, rfl, ?_⟩
    refine ⟨_, rfl, _, rfl, _, _, rfl, rfl, _, rfl, ?_⟩
    by_cases hl : lo ≤ i
    · rw [decide_eq_true hl]
      refine iteT ⟨_, rfl, _, _, rfl, rfl, ?_⟩
      rw [decide_eq_true hl] at q
      exact q
    · rw [decide_eq_false hl]
      rw [decide_eq_false hl] at q
      exact iteF q
  · exact ⟨_, rfl, _, false, rfl, h, false, rfl, q⟩
abbrev sErrN : Stmt := inClass (top 2) 0
theorem scErrN : FnScope ["self", "thing"] ["self", "thing"] (defScope sErrN) := ⟨rfl, rfl, rfl, by decide +kernel, rfl, by decide +kernel, by decide +kernel⟩
theorem ok_ErrN {C Y : Addr} {mc : Value} {f : Addr} {fd : FuncData} (F : Fun K "__init__" "InvalidNumber.__init__" sErrN f fd) (ox : OexC K C)
    (no : PySem.W.findIn K (.ref C) "thing" = some none) (gY : mg "YardError" = some (.ref Y)) (rY : ClX.CRead K Y mc)
    (vY : PySem.W.findCls K (.ref Y) mc "__init__" = some (.val (.builtin "ValueError.__init__"))) : FnOk P w K mg base CX0 1 f fd ["self", "thing"] (spErr C "thing") := by
  refine F.ok scErrN ?_ ?_
  · rintro vs H Q E ⟨a, x, rfl, _⟩
    rfl
  rintro cdv A outer s H vs Q E hr ⟨a, x, rfl, ha, q⟩
  refine ⟨_, pss_cons (ps_expr (pe_ownInit (by rfl) gY rY vY (pa_cons (pv 0) (pa_cons pe_str pa_nil)))) (pss_one (ps_ost (pv 0) (pv 1))), ?_⟩
  refine ⟨_, rfl, a, C, _, rfl, (by show 1 ≤ 1000; decide), ox, ha, ?_⟩
  exact ⟨_, rfl, _, rfl, a, C, rfl, ox, no, .inl ⟨ha, fun d hd ne => q d hd ne⟩⟩
abbrev sErrO : Stmt := inClass (top 3) 0
theorem scErrO : FnScope ["self", "thing"] ["self", "thing"] (defScope sErrO) := ⟨rfl, rfl, rfl, by decide +kernel, rfl, by decide +kernel, by decide +kernel⟩
theorem ok_ErrO {C Y : Addr} {mc : Value} {f : Addr} {fd : FuncData} (F : Fun K "__init__" "InvalidOrder.__init__" sErrO f fd) (ox : OexC K C)
    (no : PySem.W.findIn K (.ref C) "thing" = some none) (gY : mg "YardError" = some (.ref Y)) (rY : ClX.CRead K Y mc)
    (vY : PySem.W.findCls K (.ref Y) mc "__init__" = some (.val (.builtin "ValueError.__init__"))) : FnOk P w K mg base CX0 1 f fd ["self", "thing"] (spErr C "thing") := by
  refine F.ok scErrO ?_ ?_
  · rintro vs H Q E ⟨a, x, rfl, _⟩
    rfl
  rintro cdv A outer s H vs Q E hr ⟨a, x, rfl, ha, q⟩
  refine ⟨_, pss_cons (ps_expr (pe_ownInit (by rfl) gY rY vY (pa_cons (pv 0) (pa_cons pe_str pa_nil)))) (pss_one (ps_ost (pv 0) (pv 1))), ?_⟩
  refine ⟨_, rfl, a, C, _, rfl, (by show 1 ≤ 1000; decide), ox, ha, ?_⟩
  exact ⟨_, rfl, _, rfl, a, C, rfl, ox, no, .inl ⟨ha, fun d hd ne => q d hd ne⟩⟩
abbrev sErrR : Stmt := inClass (top 4) 0
theorem scErrR : FnScope ["self", "thing"] ["self", "thing"] (defScope sErrR) := ⟨rfl, rfl, rfl, by decide +kernel, rfl, by decide +kernel, by decide +kernel⟩
theorem ok_ErrR {C Y : Addr} {mc : Value} {f : Addr} {fd : FuncData} (F : Fun K "__init__" "InvalidRanks.__init__" sErrR f fd) (ox : OexC K C)
    (no : PySem.W.findIn K (.ref C) "thing" = some none) (gY : mg "YardError" = some (.ref Y)) (rY : ClX.CRead K Y mc)
    (vY : PySem.W.findCls K (.ref Y) mc "__init__" = some (.val (.builtin "ValueError.__init__"))) : FnOk P w K mg base CX0 1 f fd ["self", "thing"] (spErr C "thing") := by
  refine F.ok scErrR ?_ ?_
  · rintro vs H Q E ⟨a, x, rfl, _⟩
    rfl
  rintro cdv A outer s H vs Q E hr ⟨a, x, rfl, ha, q⟩
  refine ⟨_, pss_cons (ps_expr (pe_ownInit (by rfl) gY rY vY (pa_cons (pv 0) (pa_cons pe_str pa_nil)))) (pss_one (ps_ost (pv 0) (pv 1))), ?_⟩
  refine ⟨_, rfl, a, C, _, rfl, (by show 1 ≤ 1000; decide), ox, ha, ?_⟩
  exact ⟨_, rfl, _, rfl, a, C, rfl, ox, no, .inl ⟨ha, fun d hd ne => q d hd ne⟩⟩
end
end Cy
namespace Cy
open PySem PySem.Spec PyProof.Rows L2
abbrev sOrd : Stmt := top 9
section
variable {P : Program} {w : World} {K : PySem.W.Frag} {mg : Str → Option Value} {base : Heap}
theorem Paired.imp2 {α β : Type} {F G : α → β → Prop} : ∀ {l : List α} {m : List β}, Paired F l m → (∀ a b, F a b → G a b) → Paired G l m
  | _, _, .nil, _ => .nil
  | _, _, .cons h t, q => .cons (q _ _ h) (Paired.imp2 t q)
theorem Paired.at2 {α β : Type} {F : α → β → Prop} : ∀ {l : List α} {m : List β} {i : Nat} {x : α}, Paired F l m → l[i]? = some x → ∃ y, m[i]? = some y ∧ F x y
  | _, _, _, _, .nil, h => by simp at h
  | _, _, 0, _, .cons h t, e => by
    have e' := Option.some.inj (show some _ = some _ from e)
    subst e'
    exact ⟨_, rfl, h⟩
  | _, _, i + 1, _, .cons h t, e => by
    obtain ⟨y, h1, h2⟩ := Paired.at2 (i := i) t (by simpa using e)
    exact ⟨y, by simpa using h1, h2⟩
/-- what is_order is asked of, and its answer -/
def IsOrd (K : PySem.W.Frag) (H : Hp) (x : V) (b : Bool) : Prop :=
  (∃ t, TyX K H x (.type t) ∧ kitB t "tuple" = some false ∧ b = false) ∨
  (∃ a xs bs, x = .ref a ∧ Rd H a (.tup xs) ∧ xs.length ≤ 1000 ∧ Paired (IsI K H) xs bs ∧
    ((bs.all id = false ∧ b = false) ∨ (bs.all id = true ∧ ∃ ns : List Int, xs = ns.map V.int ∧ b = ordB ns)))
theorem IsOrd.same {H H' : Hp} (e : Same H H') {x : V} {b : Bool} (h : IsOrd K H x b) : IsOrd K H' x b := by
  rcases h with ⟨t, h1, h2, h3⟩ | ⟨a, xs, bs, h1, h2, h3, h4, h5⟩
  · exact .inl ⟨t, TyX.same e h1, h2, h3⟩
  · exact .inr ⟨a, xs, bs, h1, Rd.same e h2, h3, Paired.imp2 h4 fun _ _ q => q.same e, h5⟩
def spOrd (K : PySem.W.Frag) : Sp := fun vs H Q _ => ∃ x b, vs = [x] ∧ IsOrd K H x b ∧ ∀ H', Same H H' → Q (.bl b) H'
theorem scOrd : FnScope ["thing", "wagon"] ["thing"] (defScope sOrd) := ⟨rfl, rfl, rfl, by decide +kernel, rfl, by decide +kernel, by decide +kernel⟩
theorem ok_ord {f : Addr} {fd : FuncData} (F : Fun K "is_order" "is_order" sOrd f fd) (G : Cal P w K mg base CX0 1 "is_integer" ["thing"] (spIsInt K))
    (mi : mg "isinstance" = none) (mt : mg "tuple" = none) (ma : mg "all" = none) (ms : mg "sorted" = none) (ml : mg "list" = none) (mr : mg "range" = none) (mn : mg "len" = none) :
    FnOk P w K mg base CX0 2 f fd ["thing"] (spOrd K) := by
  refine F.ok scOrd ?_ ?_
  · rintro vs H Q E ⟨x, b, rfl, _⟩
    rfl
  rintro cdv A outer s H vs Q E hr ⟨x, b, rfl, hx, q⟩
  refine ⟨_, pss_cons (ps_if (PW.pt (pw_or (pt_not (pt_val (pe_callB call_isi (by rfl) mi boot_isinstance (pa_cons (pv 0) (pa_cons (pe_bltn (v := .ty "tuple") (by rfl) mt (by decide +kernel) rfl) pa_nil)))))
      (pw_or1 (pt_not (pt_val (pe_callB (cr_all rfl) (by rfl) ma (by decide +kernel) (pa_cons (pe_lc (own := [("wagon", 1)]) (g := gName 1) (by rfl) scOrd.nd (pi_tup (pv 0))
        (blkOk_by (own := [("wagon", 1)]) (N := ["thing", "wagon"]) (sc := defScope sOrd) (by decide +kernel)) (fun _ _ _ _ _ => pg_name (i := 1) scOrd.nd rfl (Or.inl rfl)) (fun _ _ _ _ _ => pts_nil)
        (fun _ _ _ _ _ => pe_cal G hr pass0 (by rfl) (pa_cons (pv 1) pa_nil))) pa_nil)))))))
      (pss_one (ps_ret pe_bl)) pss_nil)
    (pss_one (ps_ret (pe_cmpR (op_eqD hr.units) (pe_callB cr_sortedTI (by rfl) ms (by decide +kernel) (pa_cons (pv 0) pa_nil))
      (pe_listRg rfl (by rfl) ml (prg_2 (by rfl) mr pe_int (pe_op op_add (pe_callB call_len_seq (by rfl) mn PySem.boot_len (pa_cons (pv 0) pa_nil)) pe_int))) (nomark _)))), ?_⟩
  rcases hx with ⟨t, ty, kb, rfl⟩ | ⟨a, xs, bs, rfl, ha, hlen, hI, hb⟩
  · refine ⟨_, rfl, _, _, _, _, false, rfl, .ty _, ty, kit_ty kb, false, rfl, ?_⟩
    exact iteT (iteT (q _ (Same.refl _)))
  · refine ⟨_, rfl, _, _, _, _, true, rfl, .ty _, rd_ty ha, kit_ty (by decide +kernel), true, rfl, ?_⟩
    refine iteF ?_
    refine ⟨_, rfl, a, rfl, ⟨_, .inl ha⟩, fun D hD => ?_⟩
    have s0 : Same H (L2.upd H D (.lst [])) := Same.upd hD
    refine lc_tup (K := K) (a := a) (xs := xs) (fun i H1 => ∃ acc : List Bool, Same H H1 ∧ H1 D = some (.lst (acc.map V.bl)) ∧ acc = bs.take i)
      ⟨[], s0, upd_same, rfl⟩ (fun i H1 _ ⟨_, s1, _⟩ => .inl (Rd.same s1 ha)) ?_ ?_
    · rintro i x H1 hi ⟨acc, s1, hd1, rfl⟩
      obtain ⟨y, hy, hxy⟩ := Paired.at2 hI hi
      refine ⟨rfl, ?_⟩
      show tCall (spIsInt K) [] E0 (tCons (tVar 1) tNil) _ _ _
      refine ⟨x, rfl, x, y, rfl, hxy.same s1, _, hd1, ?_, bs.take (i + 1), ?_, ?_, rfl⟩
      · rw [List.length_map, List.length_take]
        have hl := (List.getElem?_eq_some_iff.mp hi).1
        exact small1000 (by omega)
      · intro b o e
        by_cases hb : b = D
        · rw [hb, hD] at e
          cases e
        · rw [upd_ne hb]
          exact s1 _ _ e
      · rw [upd_same]
        have z : bs.take (i + 1) = bs.take i ++ [y] := by
          rw [List.take_add_one, hy]
          rfl
        rw [z, List.map_append]
        rfl
    · rintro H1 ⟨acc, s1, hd1, rfl⟩
      have hlb : bs.length = xs.length := (Paired.length hI).symm
      rw [← hlb, List.take_length] at hd1
      refine ⟨D, bs, rfl, .inl (.inl hd1), bs.all id, rfl, ?_⟩
      rcases hb with ⟨e1, rfl⟩ | ⟨e1, ns, rfl, rfl⟩
      · rw [e1]
        exact iteT (q _ s1)
      · rw [e1]
        refine iteF ?_
        have ha1 := Rd.same s1 ha
        refine ⟨_, rfl, a, ns, rfl, .inl ha1, fun ms p hp hs np => ?_⟩
        refine ⟨_, rfl, a, _, rfl, .inr (.inl (Rd.same (Same.upd np) ha1)), _, _, rfl, rfl, ?_⟩
        have hl : (ns.map V.int).length = ns.length := List.length_map ..
        refine ⟨_, _, rfl, rfl, ?_⟩
        rw [hl]
        refine ⟨RgOk.of_le (by decide) (by omega) (by decide) (by omega), fun r nr => ?_⟩
        have npr : p ≠ r := fun z => by
          rw [z, upd_same] at nr
          cases nr
        refine ⟨.list (ms.map PyData.int), .list ((iota ns.length).map PyData.int), .lst (.inl (.inl ?_)) (dp_ints ms), .lst (.inl (.inl ?_)) (dp_ints _), sh_lints _, sh_lints _, ?_⟩
        · rw [upd_ne npr, upd_same]
        · rw [upd_same, rgV_iota]
        · rw [eqv_lints, ord_sorted hp hs]
          refine q _ (s1.trans ((Same.upd np).trans (Same.upd nr)))
end
end Cy
namespace Cy
open PySem PySem.Spec PyProof.Rows L2
abbrev sRnk : Stmt := top 10
abbrev sCkO : Stmt := top 11
abbrev sCkR : Stmt := top 12
section
variable {P : Program} {w : World} {K : PySem.W.Frag} {mg : Str → Option Value} {base : Heap}
theorem Btw.same {H H' : Hp} (e : Same H H') {x : V} {lo hi : Int} {b : Bool} (h : Btw K H x lo hi b) : Btw K H' x lo hi b :=
  h.imp id fun ⟨q, r⟩ => ⟨q.same e, r⟩
/-- what is_ranks is asked of, and its answer -/
def IsRnk (K : PySem.W.Frag) (H : Hp) (x : V) (b : Bool) : Prop :=
  (∃ t, TyX K H x (.type t) ∧ kitB t "tuple" = some false ∧ b = false) ∨
  (∃ (a : Addr) (xs : List V) (bs : List Bool), x = .ref a ∧ Rd H a (.tup xs) ∧ xs.length ≤ 1000 ∧ bs.length = xs.length ∧
    (∀ i x, xs[i]? = some x → ∃ y, bs[i]? = some y ∧ Btw K H x 1 ((xs.length : Int) - (i : Nat)) y) ∧ b = bs.all id)
theorem IsRnk.same {H H' : Hp} (e : Same H H') {x : V} {b : Bool} (h : IsRnk K H x b) : IsRnk K H' x b := by
  rcases h with ⟨t, h1, h2, h3⟩ | ⟨a, xs, bs, h1, h2, h3, h4, h5, h6⟩
  · exact .inl ⟨t, TyX.same e h1, h2, h3⟩
  · exact .inr ⟨a, xs, bs, h1, Rd.same e h2, h3, h4, fun i x hx => let ⟨y, a1, a2⟩ := h5 i x hx; ⟨y, a1, a2.same e⟩, h6⟩
def spRnk (K : PySem.W.Frag) : Sp := fun vs H Q _ => ∃ x b, vs = [x] ∧ IsRnk K H x b ∧ ∀ H', Same H H' → Q (.bl b) H'
theorem scRnk : FnScope ["thing", "n", "place", "rank"] ["thing"] (defScope sRnk) := ⟨rfl, rfl, rfl, by decide +kernel, rfl, by decide +kernel, by decide +kernel⟩
theorem ok_rnk {f : Addr} {fd : FuncData} (F : Fun K "is_ranks" "is_ranks" sRnk f fd) (G : Cal P w K mg base CX0 2 "is_between" ["thing", "least", "most"] (spBtw K))
    (mi : mg "isinstance" = none) (mt : mg "tuple" = none) (ma : mg "all" = none) (me : mg "enumerate" = none) (mn : mg "len" = none) :
    FnOk P w K mg base CX0 3 f fd ["thing"] (spRnk K) := by
  refine F.ok scRnk ?_ ?_
  · rintro vs H Q E ⟨x, b, rfl, _⟩
    rfl
  rintro cdv A outer s H vs Q E hr ⟨x, b, rfl, hx, q⟩
  refine ⟨_, pss_cons (ps_if (pt_not (pt_val (pe_callB call_isi (by rfl) mi boot_isinstance (pa_cons (pv 0) (pa_cons (pe_bltn (v := .ty "tuple") (by rfl) mt (by decide +kernel) rfl) pa_nil)))))
      (pss_one (ps_ret pe_bl)) pss_nil)
    (pss_cons (ps_set (i := 1) scRnk.nd rfl (Or.inr rfl) (pe_callB call_len_seq (by rfl) mn PySem.boot_len (pa_cons (pv 0) pa_nil)))
    (pss_one (ps_ret (pe_callB (cr_all rfl) (by rfl) ma (by decide +kernel) (pa_cons (pe_lc (own := [("place", 2), ("rank", 3)]) (g := gTup K 2 (gCons (gName 2) (gCons (gName 3) gNil))) (by rfl) scRnk.nd (pi_enumT (by rfl) me (pa_cons (pv 0) pa_nil))
        (blkOk_by (own := [("place", 2), ("rank", 3)]) (N := ["thing", "n", "place", "rank"]) (sc := defScope sRnk) (by decide +kernel))
        (fun _ _ _ _ _ => pg_tup rfl (pgs_cons (pg_name (i := 2) scRnk.nd rfl (Or.inl rfl)) (pgs_cons (pg_name (i := 3) scRnk.nd rfl (Or.inl rfl)) pgs_nil))) (fun _ _ _ _ _ => pts_nil)
        (fun _ _ _ _ _ => pe_cal G hr pass0 (by rfl) (pa_cons (pv 3) (pa_cons pe_int (pa_cons (pe_op op_sub (pv 1) (pv 2)) pa_nil))))) pa_nil))))), ?_⟩
  rcases hx with ⟨t, ty, kb, rfl⟩ | ⟨a, xs, bs, rfl, ha, hlen, hbl, hI, rfl⟩
  · refine ⟨_, rfl, _, _, _, _, false, rfl, .ty _, ty, kit_ty kb, false, rfl, ?_⟩
    exact iteT (q _ (Same.refl _))
  · refine ⟨_, rfl, _, _, _, _, true, rfl, .ty _, rd_ty ha, kit_ty (by decide +kernel), true, rfl, ?_⟩
    refine iteF ?_
    refine ⟨_, rfl, a, _, rfl, .inr (.inl ha), ?_⟩
    refine ⟨_, rfl, a, xs, rfl, .inl ha, fun D hD => ?_⟩
    refine lc_enumT (K := K) (a := a) (xs := xs) (fun i H1 => Same H H1 ∧ H1 D = some (.lst ((bs.take i).map V.bl)))
      ⟨Same.upd hD, upd_same⟩ (fun i H1 _ ⟨s1, _⟩ => .inl (Rd.same s1 ha)) ?_ ?_
    · rintro i x T H1 hi ⟨s1, hd1⟩ nT
      obtain ⟨y, hy, hxy⟩ := hI i x hi
      have s2 : Same H (L2.upd H1 T (.tup [.int (i : Nat), x])) := s1.trans (Same.upd nT)
      have nTD : D ≠ T := ne_of_none hd1 nT
      refine ⟨T, _, rfl, .inl (.inl upd_same), rfl, _, _, rfl, _, _, rfl, rfl, ?_⟩
      refine ⟨rfl, ?_⟩
      show tCall (spBtw K) [] E0 (tCons (tVar 3) (tCons (tC (.int 1)) (tCons (tOp (rI0 fun i j => .int (i - j)) (tVar 1) (tVar 2)) tNil))) _ _ _
      refine ⟨_, rfl, _, rfl, _, rfl, _, _, rfl, rfl, x, 1, _, y, rfl, hxy.same s2, _, by rw [upd_ne nTD]; exact hd1, ?_, ?_, ?_⟩
      · rw [List.length_map, List.length_take]
        have hl := (List.getElem?_eq_some_iff.mp hi).1
        exact small1000 (by omega)
      · exact Same.put hD s2
      · rw [upd_same, List.take_add_one, hy, List.map_append]
        rfl
    · rintro H1 ⟨s1, hd1⟩
      rw [← hbl, List.take_length] at hd1
      exact ⟨D, bs, rfl, .inl (.inl hd1), q _ s1⟩
/-! ### check_order, check_ranks -/
def spCkO (K : PySem.W.Frag) (C : Addr) : Sp := fun vs H Q E => ∃ x b, vs = [x] ∧ IsOrd K H x b ∧ (b = true → ∀ H', Same H H' → Q .non H') ∧ (b = false → Rz C "thing" x H E)
theorem scCkO : FnScope ["order"] ["order"] (defScope sCkO) := ⟨rfl, rfl, rfl, by decide +kernel, rfl, by decide +kernel, by decide +kernel⟩
theorem ok_ckO {C : Addr} {f : Addr} {fd : FuncData} (F : Fun K "check_order" "check_order" sCkO f fd) (G : Cal P w K mg base CX0 2 "is_order" ["thing"] (spOrd K))
    (R : Err P w K mg base 1 "InvalidOrder" C "thing" "thing") : FnOk P w K mg base (L2.CX P w) 3 f fd ["order"] (spCkO K C) := by
  refine F.okX scCkO ?_ ?_
  · rintro vs H Q E ⟨x, b, rfl, _⟩
    rfl
  rintro cdv A outer s H vs Q E hr ⟨x, b, rfl, hx, q1, q2⟩
  refine ⟨_, pss_one (ps_if (pt_not (pt_val (pe_cal G hr pass0 (by rfl) (pa_cons (pv 0) pa_nil))))
    (pss_one (ps_raiseE R rfl (takes_of rfl rfl rfl rfl) hr (by rfl) (pv 0))) pss_nil), ?_⟩
  refine ⟨x, rfl, x, b, rfl, hx, fun H1 s1 => ⟨_, rfl, ?_⟩⟩
  cases b with
  | true => exact iteF (q1 rfl _ s1)
  | false =>
    refine iteT ⟨x, rfl, mkE ?_⟩
    exact ((q2 rfl).of s1).go
def spCkR (K : PySem.W.Frag) (C : Addr) : Sp := fun vs H Q E => ∃ x b, vs = [x] ∧ IsRnk K H x b ∧ (b = true → ∀ H', Same H H' → Q .non H') ∧ (b = false → Rz C "thing" x H E)
theorem scCkR : FnScope ["ranks"] ["ranks"] (defScope sCkR) := ⟨rfl, rfl, rfl, by decide +kernel, rfl, by decide +kernel, by decide +kernel⟩
theorem ok_ckR {C : Addr} {f : Addr} {fd : FuncData} (F : Fun K "check_ranks" "check_ranks" sCkR f fd) (G : Cal P w K mg base CX0 3 "is_ranks" ["thing"] (spRnk K))
    (R : Err P w K mg base 1 "InvalidRanks" C "thing" "thing") : FnOk P w K mg base (L2.CX P w) 4 f fd ["ranks"] (spCkR K C) := by
  refine F.okX scCkR ?_ ?_
  · rintro vs H Q E ⟨x, b, rfl, _⟩
    rfl
  rintro cdv A outer s H vs Q E hr ⟨x, b, rfl, hx, q1, q2⟩
  refine ⟨_, pss_one (ps_if (pt_not (pt_val (pe_cal G hr pass0 (by rfl) (pa_cons (pv 0) pa_nil))))
    (pss_one (ps_raiseE R rfl (takes_of rfl rfl rfl rfl) (hr.mono (by decide)) (by rfl) (pv 0))) pss_nil), ?_⟩
  refine ⟨x, rfl, x, b, rfl, hx, fun H1 s1 => ⟨_, rfl, ?_⟩⟩
  cases b with
  | true => exact iteF (q1 rfl _ s1)
  | false =>
    refine iteT ⟨x, rfl, mkE ?_⟩
    exact ((q2 rfl).of s1).go
end
end Cy
namespace Cy
open PySem PySem.Spec PyProof.Rows L2
abbrev sRanks : Stmt := top 13
abbrev sRankAt : Stmt := top 14
/-- a new tuple of ints is handed back -/
def NewT (H : Hp) (Q : VK) (ns : List Int) : Prop := ∀ p H', Same H H' → H p = none → Tf H' p (ns.map V.int) → Q (.ref p) H'
section
variable {P : Program} {w : World} {K : PySem.W.Frag} {mg : Str → Option Value} {base : Heap}
theorem ints_isI {H : Hp} : ∀ ns : List Int, Paired (IsI K H) (ns.map V.int) (ns.map fun _ => true)
  | [] => .nil
  | n :: ns => .cons (IsI.int n) (ints_isI ns)
theorem IsOrd.ints {H : Hp} {a : Addr} {ns : List Int} (h : Rd H a (.tup (ns.map V.int))) (hl : ns.length ≤ 1000) : IsOrd K H (.ref a) (ordB ns) :=
  .inr ⟨a, _, _, rfl, h, by rw [List.length_map]; exact hl, ints_isI ns, .inr ⟨by simp [List.all_map], ns, rfl, rfl⟩⟩
theorem map_get {ns : List Int} {i : Nat} {v : V} (h : (ns.map V.int)[i]? = some v) : ∃ n, ns[i]? = some n ∧ v = .int n := by
  rw [List.getElem?_map] at h
  cases e : ns[i]? with
  | none => rw [e] at h; cases h
  | some n => rw [e] at h; exact ⟨n, rfl, (Option.some.inj h).symm⟩
/-! ### _rank_at -/
def spRankAt : Sp := fun vs H Q _ => ∃ (a : Addr) (ns : List Int) (k : Nat) (x : Int), vs = [.ref a, .int (k : Nat)] ∧ Rd H a (.tup (ns.map V.int)) ∧ ns.length ≤ 1000 ∧ ns[k]? = some x ∧
  ∀ H', Same H H' → Q (.int (1 + ((less x (ns.drop (k + 1))).length : Int))) H'
theorem scRankAt : FnScope ["order", "place", "wagon", "later"] ["order", "place"] (defScope sRankAt) := ⟨rfl, rfl, rfl, by decide +kernel, rfl, by decide +kernel, by decide +kernel⟩
theorem ok_rankAt {f : Addr} {fd : FuncData} (F : Fun K "_rank_at" "_rank_at" sRankAt f fd) (mn : mg "len" = none) : FnOk P w K mg base CX0 1 f fd ["order", "place"] spRankAt := by
  refine F.ok scRankAt ?_ ?_
  · rintro vs H Q E ⟨a, ns, k, x, rfl, _⟩
    rfl
  rintro cdv A outer s H vs Q E hr ⟨a, ns, k, x, rfl, ha, hl, hk, q⟩
  refine ⟨_, pss_cons (ps_set (i := 2) scRankAt.nd rfl (Or.inr rfl) (pe_ix ix_tup (pv 0) (pv 1) (fun _ _ => rfl)))
    (pss_one (ps_ret (pe_op op_add pe_int (pe_callB call_len_seq (by rfl) mn PySem.boot_len (pa_cons (pe_lc (own := [("later", 3)]) (g := gName 3) rfl scRankAt.nd
      (pi_tup (pe_slice sl_tupA (pv 0) (po_some (pe_op op_add (pv 1) pe_int)) po_none))
      (blkOk_by (own := [("later", 3)]) (N := ["order", "place", "wagon", "later"]) (sc := defScope sRankAt) (by decide +kernel))
      (fun _ _ _ _ _ => pg_name (i := 3) scRankAt.nd rfl (Or.inl rfl)) (fun _ _ _ _ _ => pts_one (pt_cmpR op_lt (pv 3) (pv 2) (nomark _))) (fun _ _ _ _ _ => pv 3)) pa_nil))))), ?_⟩
  have hx : (ns.map V.int)[k]? = some (.int x) := by rw [List.getElem?_map, hk]; rfl
  refine ⟨_, rfl, _, rfl, a, _, _, _, rfl, rfl, .inl ha, atI_nat hx, ?_⟩
  refine ⟨_, rfl, _, rfl, _, _, rfl, rfl, _, rfl, ?_⟩
  dsimp only [tNoPart]
  refine slA (K := K) ha ?_
  intro p H1 s1 hp
  have e1 : cutV (ns.map V.int) (some ((k : Int) + 1)) none = (ns.drop (k + 1)).map V.int := by
    have := cut_from (ns.map V.int) (k + 1)
    rw [List.map_drop, ← this]
    rfl
  rw [e1] at hp
  refine ⟨p, rfl, ⟨_, .inl hp⟩, fun D hD => ?_⟩
  refine lc_tup (K := K) (a := p) (xs := (ns.drop (k + 1)).map V.int) (fun i H2 => Same H1 H2 ∧ H2 D = some (.lst ((less x ((ns.drop (k + 1)).take i)).map V.int)))
    ⟨Same.upd hD, upd_same⟩ (fun i H2 _ ⟨s2, _⟩ => .inl (Rd.same s2 hp)) ?_ ?_
  · rintro i v H2 hi ⟨s2, hd2⟩
    obtain ⟨n, hn, rfl⟩ := map_get hi
    have et : (ns.drop (k + 1)).take (i + 1) = (ns.drop (k + 1)).take i ++ [n] := by
      rw [List.take_add_one, hn]
      rfl
    refine ⟨rfl, ?_⟩
    refine ⟨_, rfl, _, rfl, _, _, rfl, rfl, _, rfl, ?_⟩
    show if decide (n < x) = true then _ else _
    by_cases hlt : n < x
    · rw [decide_eq_true hlt]
      refine iteT ⟨_, rfl, _, hd2, ?_, Same.put hD s2, ?_⟩
      · rw [List.length_map]
        have q1 : (less x ((ns.drop (k + 1)).take i)).length ≤ ((ns.drop (k + 1)).take i).length := List.length_filter_le _ _
        rw [List.length_take, List.length_drop] at q1
        exact small1000 (by omega)
      · rw [upd_same, et]
        unfold less
        rw [List.filter_append, List.filter_cons_of_pos (by simpa using hlt), List.filter_nil, List.map_append]
        rfl
    · rw [decide_eq_false hlt]
      refine iteF ⟨s2, ?_⟩
      rw [hd2, et]
      unfold less
      rw [List.filter_append, List.filter_cons_of_neg (by simpa using hlt), List.filter_nil, List.append_nil]
  · rintro H2 ⟨s2, hd2⟩
    rw [List.length_map, List.take_length] at hd2
    refine ⟨D, _, rfl, .inl (.inl (.inl hd2)), _, _, rfl, rfl, ?_⟩
    rw [List.length_map]
    exact q _ (s1.trans s2)
/-! ### ranks_of -/
def spRanks (K : PySem.W.Frag) (C : Addr) : Sp := fun vs H Q E => ∃ x, vs = [x] ∧
  ((∃ (a : Addr) (ns : List Int), x = .ref a ∧ Rd H a (.tup (ns.map V.int)) ∧ ns.length ≤ 40 ∧ Ord ns ∧ NewT H Q (ranks ns)) ∨ (IsOrd K H x false ∧ Rz C "thing" x H E))
theorem scRanks : FnScope ["order", "place"] ["order"] (defScope sRanks) := ⟨rfl, rfl, rfl, by decide +kernel, rfl, by decide +kernel, by decide +kernel⟩
theorem ok_ranks {C : Addr} {f : Addr} {fd : FuncData} (F : Fun K "ranks_of" "ranks_of" sRanks f fd) (G : Cal P w K mg base (L2.CX P w) 3 "check_order" ["order"] (spCkO K C))
    (G2 : Cal P w K mg base CX0 1 "_rank_at" ["order", "place"] spRankAt) (mt : mg "tuple" = none) (mr : mg "range" = none) (mn : mg "len" = none) :
    FnOk P w K mg base (L2.CX P w) 4 f fd ["order"] (spRanks K C) := by
  refine F.okX scRanks ?_ ?_
  · rintro vs H Q E ⟨x, rfl, _⟩
    rfl
  rintro cdv A outer s H vs Q E hr ⟨x, rfl, h⟩
  have hr1 : Room 1 _ := hr.mono (by decide)
  refine ⟨_, pss_cons (ps_expr (pe_cal (E := E) G hr (passes_call (takes_of rfl rfl rfl rfl) (fun _ _ _ _ h => h)) (by rfl) (pa_cons (pv 0) pa_nil)))
    (pss_one (ps_ret (pe_callTy call_tupleF (by rfl) mt (by decide +kernel) (pa_cons (pe_lc (own := [("place", 1)]) (g := gName 1) rfl scRanks.nd
      (pi_range1 (by rfl) mr (pa_cons (pe_callB call_len_seq (by rfl) mn PySem.boot_len (pa_cons (pv 0) pa_nil)) pa_nil))
      (blkOk_by (own := [("place", 1)]) (N := ["order", "place"]) (sc := defScope sRanks) (by decide +kernel))
      (fun _ _ _ _ _ => pg_name (i := 1) scRanks.nd rfl (Or.inl rfl)) (fun _ _ _ _ _ => pts_nil) (fun _ _ _ _ _ => pe_cal G2 hr1 pass0 (by rfl) (pa_cons (pv 0) (pa_cons (pv 1) pa_nil)))) pa_nil)))), ?_⟩
  rcases h with ⟨a, ns, rfl, ha, hl, ho, q⟩ | ⟨hx, hz⟩
  · refine ⟨_, rfl, _, ordB ns, rfl, IsOrd.ints ha (by omega), fun _ H1 s1 => ?_, fun z => ?_⟩
    · have ha1 := Rd.same s1 ha
      have hlm : (ns.map V.int).length = ns.length := List.length_map ..
      refine ⟨_, rfl, a, _, rfl, .inr (.inl ha1), _, rfl, ?_, ?_, fun D hD => ?_⟩
      · rw [hlm]; omega
      · rw [hlm]; omega
      refine lc_range (lo := 0) (n := (ns.map V.int).length) (fun i H2 => Same H1 H2 ∧ H2 D = some (.lst (((ranks ns).take i).map V.int)))
        ⟨Same.upd hD, upd_same⟩ ?_ ?_
      · rintro i H2 hi ⟨s2, hd2⟩
        rw [hlm] at hi
        have hg := ranks_get ns i _ (List.getElem?_eq_getElem hi)
        refine ⟨rfl, ?_⟩
        show tCall spRankAt [] E0 (tCons (tVar 0) (tCons (tVar 1) tNil)) _ _ _
        refine ⟨_, rfl, _, rfl, a, ns, i, _, ?_, Rd.same s2 ha1, by omega, List.getElem?_eq_getElem hi, fun H3 s3 => ?_⟩
        · show [V.ref a, V.int (0 + (i : Int))] ++ [] = _
          rw [Int.zero_add]
          rfl
        · refine ⟨_, s3 _ _ hd2, ?_, Same.put hD (s2.trans s3), ?_⟩
          · rw [List.length_map, List.length_take, ranks_length]
            exact small1000 (by omega)
          · rw [upd_same, List.take_add_one, hg, List.map_append]
            rfl
      · rintro H2 ⟨s2, hd2⟩
        rw [hlm, ← ranks_length, List.take_length] at hd2
        refine ⟨D, _, rfl, .inl (.inl hd2), fun l o hn ho => ?_⟩
        exact q l _ (s1.trans (s2.trans (Same.upd hn))) ((s1.trans s2).free hn) ⟨o, upd_same, ho⟩
    · rw [ordB_iff.mpr ho] at z
      cases z
  · exact ⟨_, rfl, x, false, rfl, hx, fun z => (nomatch z), fun _ => hz⟩
end
end Cy
namespace Cy
open PySem PySem.Spec PyProof.Rows L2
abbrev sOrderOf : Stmt := top 15
abbrev sLeft : Stmt := top 16
abbrev sInv : Stmt := top 17
abbrev sTrn : Stmt := top 18
section
variable {P : Program} {w : World} {K : PySem.W.Frag} {mg : Str → Option Value} {base : Heap}
/-! ### order_of -/
theorem erase_map : ∀ (l : List Int) (i : Nat), (l.map V.int).eraseIdx i = (l.eraseIdx i).map V.int
  | [], _ => rfl
  | _ :: _, 0 => rfl
  | x :: l, i + 1 => congrArg (V.int x :: ·) (erase_map l i)
def RksOk (rs : List Int) : Prop := ∀ i x, rs[i]? = some x → 1 ≤ x ∧ x ≤ (rs.length : Int) - (i : Nat)
theorem IsRnk.ints {H : Hp} {a : Addr} {rs : List Int} (h : Rd H a (.tup (rs.map V.int))) (hl : rs.length ≤ 1000) (ok : RksOk rs) : IsRnk K H (.ref a) true := by
  refine .inr ⟨a, _, rs.map fun _ => true, rfl, h, by rw [List.length_map]; exact hl, by simp, ?_, by simp [List.all_map]⟩
  intro i x hx
  obtain ⟨n, hn, rfl⟩ := map_get hx
  obtain ⟨h1, h2⟩ := ok i n hn
  refine ⟨true, by rw [List.getElem?_map, hn]; rfl, .inl ⟨n, rfl, ?_⟩⟩
  rw [List.length_map, decide_eq_true h1, decide_eq_true h2]
  rfl
def spOrderOf (K : PySem.W.Frag) (C : Addr) : Sp := fun vs H Q E => ∃ x, vs = [x] ∧
  ((∃ (a : Addr) (rs : List Int), x = .ref a ∧ Rd H a (.tup (rs.map V.int)) ∧ rs.length ≤ 40 ∧ RksOk rs ∧ NewT H Q (goOrd (iota rs.length) rs)) ∨ (IsRnk K H x false ∧ Rz C "thing" x H E))
theorem scOrderOf : FnScope ["ranks", "waiting", "order", "rank"] ["ranks"] (defScope sOrderOf) := ⟨rfl, rfl, rfl, by decide +kernel, rfl, by decide +kernel, by decide +kernel⟩
theorem ok_orderOf {C : Addr} {f : Addr} {fd : FuncData} (F : Fun K "order_of" "order_of" sOrderOf f fd) (G : Cal P w K mg base (L2.CX P w) 4 "check_ranks" ["ranks"] (spCkR K C))
    (mt : mg "tuple" = none) (mr : mg "range" = none) (mn : mg "len" = none) (ml : mg "list" = none) :
    FnOk P w K mg base (L2.CX P w) 5 f fd ["ranks"] (spOrderOf K C) := by
  refine F.okX scOrderOf ?_ ?_
  · rintro vs H Q E ⟨x, rfl, _⟩
    rfl
  rintro cdv A outer s H vs Q E hr ⟨x, rfl, h⟩
  refine ⟨_, pss_cons (ps_expr (pe_cal (E := E) G hr (passes_call (takes_of rfl rfl rfl rfl) (fun _ _ _ _ h => h)) (by rfl) (pa_cons (pv 0) pa_nil)))
    (pss_cons (ps_set (i := 1) scOrderOf.nd rfl (Or.inl rfl) (pe_listRg rfl (by rfl) ml (prg_2 (by rfl) mr pe_int (pe_op op_add (pe_callB call_len_seq (by rfl) mn PySem.boot_len (pa_cons (pv 0) pa_nil)) pe_int))))
    (pss_cons (ps_set (i := 2) scOrderOf.nd rfl (Or.inl rfl) (pe_lst pa_nil))
    (pss_cons (ps_for (passes_of rfl) rfl (pi_tup (pv 0)) (pg_name (i := 3) scOrderOf.nd rfl (Or.inl rfl))
      (pss_one (ps_expr (pe_bm PySem.F.plainAttrs_list PySem.F.slot_list_append PySem.F.type_list_append mt_append (pv 2)
        (pa_cons (pe_bm PySem.F.plainAttrs_list PySem.F.slot_list_pop PySem.F.type_list_pop mt_popAt (pv 1) (pa_cons (pe_op op_sub (pv 3) pe_int) pa_nil)) pa_nil)))))
    (pss_one (ps_ret (pe_callTy call_tupleF (by rfl) mt (by decide +kernel) (pa_cons (pv 2) pa_nil))))))), ?_⟩
  rcases h with ⟨a, rs, rfl, ha, hl, ok, q⟩ | ⟨hx, hz⟩
  · refine ⟨_, rfl, _, true, rfl, IsRnk.ints ha (by omega) ok, fun _ H1 s1 => ?_, fun z => (nomatch z)⟩
    have ha1 := Rd.same s1 ha
    have hlm : (rs.map V.int).length = rs.length := List.length_map ..
    refine ⟨_, rfl, a, _, rfl, .inr (.inl ha1), _, _, rfl, rfl, _, _, rfl, rfl, ?_⟩
    rw [hlm]
    refine ⟨RgOk.of_le (by decide) (by omega) (by decide) (by omega), fun W nW => ?_⟩
    rw [rgV_iota]
    refine ⟨Nat.zero_le _, fun O nO => ?_⟩
    have nWO : W ≠ O := fun z => by
      rw [z, upd_same] at nO
      cases nO
    have s2 : Same H (L2.upd (L2.upd H1 W (.lst ((iota rs.length).map V.int))) O (.lst [])) := s1.trans ((Same.upd nW).trans (Same.upd nO))
    refine ⟨_, rfl, a, rfl, ⟨_, .inl (Rd.same s2 ha)⟩, ?_⟩
    refine for_tup (K := K) (a := a) (xs := rs.map V.int) (fun i σ H3 => ∃ (v : Option V) (Ws acc : List Int), σ = [some (.ref a), some (.ref W), some (.ref O), v] ∧ Same H H3 ∧ H W = none ∧ H O = none ∧
        H3 W = some (.lst (Ws.map V.int)) ∧ H3 O = some (.lst (acc.map V.int)) ∧ acc.length = i ∧ Ws.length = rs.length - i ∧ acc ++ goOrd Ws (rs.drop i) = goOrd (iota rs.length) rs)
      ⟨none, iota rs.length, [], rfl, s2, s1.free nW, s1.free ((Same.upd nW).free nO), by rw [upd_ne nWO, upd_same], upd_same, rfl, by rw [iota_length]; omega, rfl⟩
      (fun i σ H3 _ h => let ⟨_, _, _, _, s3, _⟩ := h; .inl (Rd.same s3 ha)) ?_ ?_
    · rintro i x σ H3 hi ⟨v, Ws, acc, rfl, s3, fW, fO, hW, hO, la, lW, ih⟩
      obtain ⟨r, hrk, rfl⟩ := map_get hi
      obtain ⟨b1, b2⟩ := ok i r hrk
      have hi2 : i < rs.length := (List.getElem?_eq_some_iff.mp hrk).1
      have hk : (r - 1).toNat < Ws.length := by omega
      have hWm : (Ws.map V.int).length = Ws.length := List.length_map ..
      refine ⟨_, rfl, .inl ⟨rfl, _, .inl (.inl hO)⟩, _, rfl, .inl ⟨rfl, _, .inl (.inl hW)⟩, _, rfl, _, _, rfl, rfl, ?_⟩
      refine ⟨W, _, r - 1, (r - 1).toNat, .int Ws[(r - 1).toNat], rfl, rfl, hW, by omega, by omega, ?_, ?_, ?_⟩
      · rw [hWm]
        exact seqIndex_of (by omega) (by omega)
      · rw [List.getElem?_map, List.getElem?_eq_getElem hk]
        rfl
      · have nOW : O ≠ W := fun z => by
          rw [z, hW] at hO
          have e := Option.some.inj hO
          have e2 := congrArg (fun u => match u with | HO.lst xs => xs.length | _ => 0) e
          simp only [List.length_map] at e2
          exact nWO z.symm
        refine ⟨O, _, _, rfl, rfl, by rw [upd_ne nOW]; exact hO, by rw [List.length_map]; exact small1000 (by omega), ?_⟩
        refine ⟨some (.int r), Ws.eraseIdx (r - 1).toNat, acc ++ [Ws[(r - 1).toNat]], rfl, Same.put fO (Same.put fW s3), fW, fO, ?_, ?_, ?_, ?_, ?_⟩
        · rw [upd_ne nOW.symm, upd_same, erase_map]
        · rw [upd_same, List.map_append]
          rfl
        · rw [List.length_append, la]
          rfl
        · rw [List.length_eraseIdx, if_pos hk]
          omega
        · have hd : rs.drop i = r :: rs.drop (i + 1) := by
            rw [List.drop_eq_getElem_cons hi2]
            congr 1
            exact (List.getElem?_eq_some_iff.mp hrk).2
          rw [hd] at ih
          have e2 : goOrd Ws (r :: rs.drop (i + 1)) = Ws[(r - 1).toNat] :: goOrd (Ws.eraseIdx (r - 1).toNat) (rs.drop (i + 1)) := by
            show Ws.getD (r - 1).toNat 0 :: _ = _
            rw [List.getD_eq_getElem?_getD, List.getElem?_eq_getElem hk]
            rfl
          rw [e2] at ih
          rw [List.append_assoc]
          exact ih
    · rintro σ H3 ⟨v, Ws, acc, rfl, s3, fW, fO, hW, hO, la, lW, ih⟩
      rw [hlm, List.drop_length] at ih
      have e : acc = goOrd (iota rs.length) rs := by
        rw [← ih]
        show acc = acc ++ []
        rw [List.append_nil]
      rw [e] at hO
      refine ⟨_, rfl, O, _, rfl, .inl (.inl hO), fun l o nl ho => ?_⟩
      exact q l _ (s3.trans (Same.upd nl)) (s3.free nl) ⟨o, upd_same, ho⟩
  · exact ⟨_, rfl, x, false, rfl, hx, fun z => (nomatch z), fun _ => hz⟩
end
end Cy
namespace Cy
open PySem PySem.Spec PyProof.Rows L2
section
variable {P : Program} {w : World} {K : PySem.W.Frag} {mg : Str → Option Value} {base : Heap}
/-! ### left_out -/
def spLeft (K : PySem.W.Frag) (CO CN : Addr) : Sp := fun vs H Q E => ∃ x y, vs = [x, y] ∧
  ((∃ (a : Addr) (ns : List Int), x = .ref a ∧ Rd H a (.tup (ns.map V.int)) ∧ ns.length ≤ 40 ∧ Ord ns ∧
      ((∃ (k : Nat) (g : Int), y = .int (k : Nat) ∧ ns[k]? = some g ∧ NewT H Q (lessened g (ns.take k ++ ns.drop (k + 1)))) ∨
       (Btw K H y 0 ((ns.length : Int) - 1) false ∧ Rz CN "thing" y H E))) ∨ (IsOrd K H x false ∧ Rz CO "thing" x H E))
theorem scLeft : FnScope ["order", "place", "gone", "others", "wagon"] ["order", "place"] (defScope sLeft) := ⟨rfl, rfl, rfl, by decide +kernel, rfl, by decide +kernel, by decide +kernel⟩
theorem ok_left {CO CN : Addr} {f : Addr} {fd : FuncData} (F : Fun K "left_out" "left_out" sLeft f fd) (G : Cal P w K mg base (L2.CX P w) 3 "check_order" ["order"] (spCkO K CO))
    (G2 : Cal P w K mg base CX0 2 "is_between" ["thing", "least", "most"] (spBtw K)) (R : Err P w K mg base 1 "InvalidNumber" CN "thing" "thing")
    (mt : mg "tuple" = none) (mn : mg "len" = none) :
    FnOk P w K mg base (L2.CX P w) 4 f fd ["order", "place"] (spLeft K CO CN) := by
  refine F.okX scLeft ?_ ?_
  · rintro vs H Q E ⟨x, y, rfl, _⟩
    rfl
  rintro cdv A outer s H vs Q E hr ⟨x, y, rfl, h⟩
  have hr2 : Room 2 _ := hr.mono (by decide)
  refine ⟨_, pss_cons (ps_expr (pe_cal (E := E) G hr (passes_call (takes_of rfl rfl rfl rfl) (fun _ _ _ _ h => h)) (by rfl) (pa_cons (pv 0) pa_nil)))
    (pss_cons (ps_if (pt_not (pt_val (pe_cal G2 hr2 pass0 (by rfl) (pa_cons (pv 1) (pa_cons pe_int (pa_cons (pe_op op_sub (pe_callB call_len_seq (by rfl) mn PySem.boot_len (pa_cons (pv 0) pa_nil)) pe_int) pa_nil))))))
      (pss_one (ps_raiseE R rfl (takes_of rfl rfl rfl rfl) hr2 (by rfl) (pv 1))) pss_nil)
    (pss_cons (ps_set (i := 2) scLeft.nd rfl (Or.inr rfl) (pe_ix ix_tup (pv 0) (pv 1) (fun _ _ => rfl)))
    (pss_cons (ps_set (i := 3) scLeft.nd rfl (Or.inl rfl) (pe_op op_catA (pe_slice sl_tupA (pv 0) po_none (po_some (pv 1))) (pe_slice sl_tupA (pv 0) (po_some (pe_op op_add (pv 1) pe_int)) po_none)))
    (pss_one (ps_ret (pe_callTy call_tupleF (by rfl) mt (by decide +kernel) (pa_cons (pe_lc (own := [("wagon", 4)]) (g := gName 4) rfl scLeft.nd (pi_tup (pv 3))
      (blkOk_by (own := [("wagon", 4)]) (N := ["order", "place", "gone", "others", "wagon"]) (sc := defScope sLeft) (by decide +kernel))
      (fun _ _ _ _ _ => pg_name (i := 4) scLeft.nd rfl (Or.inl rfl)) (fun _ _ _ _ _ => pts_nil)
      (fun _ _ _ _ _ => pe_ifExp (pt_cmpR op_gt (pv 4) (pv 2) (nomark _)) (pe_op op_sub (pv 4) pe_int) (pv 4))) pa_nil))))))), ?_⟩
  rcases h with ⟨a, ns, rfl, ha, hl, ho, h⟩ | ⟨hx, hz⟩
  · refine ⟨_, rfl, _, ordB ns, rfl, IsOrd.ints ha (by omega), fun _ H1 s1 => ?_, fun z => by rw [ordB_iff.mpr ho] at z; cases z⟩
    have ha1 := Rd.same s1 ha
    have hlm : (ns.map V.int).length = ns.length := List.length_map ..
    refine ⟨_, rfl, _, rfl, a, _, rfl, .inr (.inl ha1), _, _, rfl, rfl, ?_⟩
    rw [hlm]
    rcases h with ⟨k, g, rfl, hk, q⟩ | ⟨hb, hz⟩
    · have hk2 : k < ns.length := (List.getElem?_eq_some_iff.mp hk).1
      refine ⟨_, _, _, true, rfl, .inl ⟨_, rfl, ?_⟩, true, rfl, ?_⟩
      · rw [decide_eq_true (by omega : (0 : Int) ≤ (k : Int)), decide_eq_true (by omega : (k : Int) ≤ (ns.length : Int) - 1)]
        rfl
      refine iteF ?_
      have hg : (ns.map V.int)[k]? = some (.int g) := by rw [List.getElem?_map, hk]; rfl
      refine ⟨_, rfl, _, rfl, a, _, _, _, rfl, rfl, .inl ha1, atI_nat hg, ?_⟩
      refine ⟨_, rfl, ?_⟩
      dsimp only [tNoPart]
      refine ⟨_, rfl, _, rfl, ?_⟩
      refine slA (K := K) ha1 ?_
      intro p1 H2 s2 hp1
      refine ⟨_, rfl, _, rfl, _, _, rfl, rfl, _, rfl, ?_⟩
      dsimp only [tNoPart]
      refine slA (K := K) (Rd.same s2 ha1) ?_
      intro p2 H3 s3 hp2
      rw [cut_to] at hp1
      have e1 : cutV (ns.map V.int) (some ((k : Int) + 1)) none = (ns.drop (k + 1)).map V.int := by
        have := cut_from (ns.map V.int) (k + 1)
        rw [List.map_drop, ← this]
        rfl
      rw [e1] at hp2
      rw [← List.map_take] at hp1
      refine catA (K := K) (Rd.same s3 hp1) hp2 ?_ ?_
      · rw [List.length_map, List.length_map, List.length_take, List.length_drop]
        exact Nat.le_trans (by omega : _ ≤ 1000) (by decide)
      intro p3 H4 s4 hp3
      rw [← List.map_append] at hp3
      refine ⟨_, rfl, p3, rfl, ⟨_, .inl hp3⟩, fun D hD => ?_⟩
      have hR : ((ns.take k ++ ns.drop (k + 1)).map V.int).length = (ns.take k ++ ns.drop (k + 1)).length := List.length_map ..
      refine lc_tup (K := K) (a := p3) (xs := (ns.take k ++ ns.drop (k + 1)).map V.int) (fun i H5 => Same H4 H5 ∧ H5 D = some (.lst ((lessened g ((ns.take k ++ ns.drop (k + 1)).take i)).map V.int)))
        ⟨Same.upd hD, upd_same⟩ (fun i H5 _ ⟨s5, _⟩ => .inl (Rd.same s5 hp3)) ?_ ?_
      · rintro i v H5 hi ⟨s5, hd5⟩
        obtain ⟨n, hn, rfl⟩ := map_get hi
        have et : (ns.take k ++ ns.drop (k + 1)).take (i + 1) = (ns.take k ++ ns.drop (k + 1)).take i ++ [n] := by
          rw [List.take_add_one, hn]
          rfl
        have hs : ((lessened g ((ns.take k ++ ns.drop (k + 1)).take i)).map V.int).length < sizeLine := by
          unfold lessened
          rw [List.length_map, List.length_map, List.length_take, List.length_append, List.length_take, List.length_drop]
          exact small1000 (by omega)
        refine ⟨rfl, ?_⟩
        refine ⟨_, rfl, _, rfl, _, _, rfl, rfl, _, rfl, ?_⟩
        show if decide (n > g) = true then _ else _
        by_cases hlt : n > g
        · rw [decide_eq_true hlt]
          refine iteT ⟨_, rfl, _, _, rfl, rfl, _, hd5, hs, Same.put hD s5, ?_⟩
          rw [upd_same, et]
          unfold lessened
          rw [List.map_append, List.map_append, List.map_singleton, if_pos hlt]
          rfl
        · rw [decide_eq_false hlt]
          refine iteF ⟨_, rfl, _, hd5, hs, Same.put hD s5, ?_⟩
          rw [upd_same, et]
          unfold lessened
          rw [List.map_append, List.map_append, List.map_singleton, if_neg hlt]
          rfl
      · rintro H5 ⟨s5, hd5⟩
        rw [hR, List.take_length] at hd5
        have sa : Same H H5 := s1.trans (s2.trans (s3.trans (s4.trans s5)))
        refine ⟨D, _, rfl, .inl (.inl hd5), fun l o nl hob => ?_⟩
        exact q l _ (sa.trans (Same.upd nl)) (sa.free nl) ⟨o, upd_same, hob⟩
    · refine ⟨_, _, _, false, rfl, hb.same s1, false, rfl, ?_⟩
      refine iteT ⟨_, rfl, mkE ?_⟩
      exact (hz.of s1).go
  · exact ⟨_, rfl, x, false, rfl, hx, fun z => (nomatch z), fun _ => hz⟩
/-! ### inverse -/
def spInv (K : PySem.W.Frag) (C : Addr) : Sp := fun vs H Q E => ∃ x, vs = [x] ∧
  ((∃ (a : Addr) (ns : List Int), x = .ref a ∧ Tf H a (ns.map V.int) ∧ ns.length ≤ 40 ∧ Ord ns ∧ NewT H Q (inv ns)) ∨ (IsOrd K H x false ∧ Rz C "thing" x H E))
theorem scInv : FnScope ["order", "wagon"] ["order"] (defScope sInv) := ⟨rfl, rfl, rfl, by decide +kernel, rfl, by decide +kernel, by decide +kernel⟩
theorem ok_inv {C : Addr} {f : Addr} {fd : FuncData} (F : Fun K "inverse" "inverse" sInv f fd) (G : Cal P w K mg base (L2.CX P w) 3 "check_order" ["order"] (spCkO K C))
    (mt : mg "tuple" = none) (mr : mg "range" = none) (mn : mg "len" = none) : FnOk P w K mg base (L2.CX P w) 4 f fd ["order"] (spInv K C) := by
  refine F.okX scInv ?_ ?_
  · rintro vs H Q E ⟨x, rfl, _⟩
    rfl
  rintro cdv A outer s H vs Q E hr ⟨x, rfl, h⟩
  refine ⟨_, pss_cons (ps_expr (pe_cal (E := E) G hr (passes_call (takes_of rfl rfl rfl rfl) (fun _ _ _ _ h => h)) (by rfl) (pa_cons (pv 0) pa_nil)))
    (pss_one (ps_ret (pe_callTy call_tupleF (by rfl) mt (by decide +kernel) (pa_cons (pe_lc (own := [("wagon", 1)]) (g := gName 1) rfl scInv.nd
      (pi_range2 (by rfl) mr (pa_cons pe_int (pa_cons (pe_op op_add (pe_callB call_len_seq (by rfl) mn PySem.boot_len (pa_cons (pv 0) pa_nil)) pe_int) pa_nil)))
      (blkOk_by (own := [("wagon", 1)]) (N := ["order", "wagon"]) (sc := defScope sInv) (by decide +kernel))
      (fun _ _ _ _ _ => pg_name (i := 1) scInv.nd rfl (Or.inl rfl)) (fun _ _ _ _ _ => pts_nil)
      (fun _ _ _ _ _ => pe_op op_add (pe_bmF (r := rTupIx K) PySem.F.slot_tuple_index PySem.F.type_tuple_index mt_tupIndexI (pv 0) (pa_cons (pv 1) pa_nil)) pe_int)) pa_nil)))), ?_⟩
  rcases h with ⟨a, ns, rfl, ha, hl, ho, q⟩ | ⟨hx, hz⟩
  · refine ⟨_, rfl, _, ordB ns, rfl, IsOrd.ints ha.rd (by omega), fun _ H1 s1 => ?_, fun z => by rw [ordB_iff.mpr ho] at z; cases z⟩
    have ha1 := Tf.same s1 ha
    have hlm : (ns.map V.int).length = ns.length := List.length_map ..
    refine ⟨_, rfl, a, _, rfl, .inr (.inl ha1.rd), _, _, rfl, rfl, ?_⟩
    rw [hlm]
    refine ⟨_, _, rfl, ⟨by decide, by decide, by omega, by omega⟩, fun D hD => ?_⟩
    refine lc_range (lo := 1) (n := ((ns.length : Int) + 1 - 1).toNat) (fun i H2 => Same H1 H2 ∧ H2 D = some (.lst (((inv ns).take i).map V.int)))
      ⟨Same.upd hD, upd_same⟩ ?_ ?_
    · rintro i H2 hi ⟨s2, hd2⟩
      have hi2 : i < ns.length := by omega
      have hm : ((i : Int) + 1) ∈ ns := ho.mem.mpr (by omega)
      have hj := List.idxOf_lt_length_iff.mpr hm
      refine ⟨rfl, ?_⟩
      show tOp (rI0 fun i j => .int (i + j)) (tBMF _ (tVar 0) (tCons (tVar 1) tNil)) (tC (.int 1)) _ _ _
      refine ⟨_, rfl, ⟨a, _, rfl, Tf.same s2 ha1⟩, _, rfl, a, ns, (i : Int) + 1, ns.idxOf ((i : Int) + 1), rfl, ?_, .inl (Tf.same s2 ha1).rd, ?_, ?_, ?_⟩
      · rw [Int.add_comm]
      · rw [List.getElem?_eq_getElem hj, List.getElem_idxOf hj]
      · intro m hmj hmm
        obtain ⟨hlt, e⟩ := List.getElem?_eq_some_iff.mp hmm
        have z := ho.nodup.idxOf_getElem m hlt
        rw [e] at z
        omega
      refine ⟨_, _, rfl, rfl, _, hd2, ?_, Same.put hD s2, ?_⟩
      · rw [List.length_map, List.length_take, inv_length]
        exact small1000 (by omega)
      · rw [upd_same, List.take_add_one, inv_get hi2, List.map_append]
        rfl
    · rintro H2 ⟨s2, hd2⟩
      have e : ((ns.length : Int) + 1 - 1).toNat = (inv ns).length := by
        rw [inv_length]
        omega
      rw [e, List.take_length] at hd2
      refine ⟨D, _, rfl, .inl (.inl hd2), fun l o nl hob => ?_⟩
      exact q l _ (s1.trans (s2.trans (Same.upd nl))) ((s1.trans s2).free nl) ⟨o, upd_same, hob⟩
  · exact ⟨_, rfl, x, false, rfl, hx, fun z => (nomatch z), fun _ => hz⟩
/-! ### turned_about -/
def spTrn (K : PySem.W.Frag) (C : Addr) : Sp := fun vs H Q E => ∃ x, vs = [x] ∧
  ((∃ (a : Addr) (ns : List Int), x = .ref a ∧ Tf H a (ns.map V.int) ∧ ns.length ≤ 40 ∧ Ord ns ∧ NewT H Q (trn ns)) ∨ (IsOrd K H x false ∧ Rz C "thing" x H E))
theorem scTrn : FnScope ["order", "places", "place"] ["order"] (defScope sTrn) := ⟨rfl, rfl, rfl, by decide +kernel, rfl, by decide +kernel, by decide +kernel⟩
theorem ok_trn {C : Addr} {f : Addr} {fd : FuncData} (F : Fun K "turned_about" "turned_about" sTrn f fd) (G : Cal P w K mg base (L2.CX P w) 4 "inverse" ["order"] (spInv K C))
    (mt : mg "tuple" = none) (mn : mg "len" = none) : FnOk P w K mg base (L2.CX P w) 5 f fd ["order"] (spTrn K C) := by
  refine F.okX scTrn ?_ ?_
  · rintro vs H Q E ⟨x, rfl, _⟩
    rfl
  rintro cdv A outer s H vs Q E hr ⟨x, rfl, h⟩
  refine ⟨_, pss_cons (ps_set (i := 1) scTrn.nd rfl (Or.inr rfl) (pe_cal (E := E) G hr (passes_call (takes_of rfl rfl rfl rfl) (fun _ _ _ _ h => h)) (by rfl) (pa_cons (pv 0) pa_nil)))
    (pss_one (ps_ret (pe_callTy call_tupleF (by rfl) mt (by decide +kernel) (pa_cons (pe_lc (own := [("place", 2)]) (g := gName 2) rfl scTrn.nd (pi_tup (pe_revT (pv 1)))
      (blkOk_by (own := [("place", 2)]) (N := ["order", "places", "place"]) (sc := defScope sTrn) (by decide +kernel))
      (fun _ _ _ _ _ => pg_name (i := 2) scTrn.nd rfl (Or.inl rfl)) (fun _ _ _ _ _ => pts_nil)
      (fun _ _ _ _ _ => pe_op op_sub (pe_op op_add (pe_callB (r := rLen K) call_lenK (by rfl) mn PySem.boot_len (pa_cons (pv 1) pa_nil)) pe_int) (pv 2))) pa_nil)))), ?_⟩
  rcases h with ⟨a, ns, rfl, ha, hl, ho, q⟩ | ⟨hx, hz⟩
  · refine ⟨_, rfl, _, rfl, .inl ⟨a, ns, rfl, ha, hl, ho, fun p H1 s1 np hp => ?_⟩⟩
    refine ⟨_, rfl, p, _, rfl, .inl hp.rd, fun r nr => ?_⟩
    have hr' : Rd (L2.upd H1 r (.tup ((inv ns).map V.int).reverse)) r (.tup ((inv ns).reverse.map V.int)) := by
      rw [List.map_reverse]
      exact .inl upd_same
    have s2 := Same.upd (o := .tup ((inv ns).map V.int).reverse) nr
    refine ⟨_, rfl, ⟨_, .inl hr'⟩, fun D hD => ?_⟩
    have hlm : ((inv ns).reverse.map V.int).length = ns.length := by rw [List.length_map, List.length_reverse, inv_length]
    refine lc_tup (K := K) (a := r) (xs := (inv ns).reverse.map V.int) (fun i H3 => Same H1 H3 ∧ Rd H3 r (.tup ((inv ns).reverse.map V.int)) ∧ H1 D = none ∧ H3 D = some (.lst (((trn ns).take i).map V.int)))
      ⟨s2.trans (Same.upd hD), Rd.same (Same.upd hD) hr', s2.free hD, upd_same⟩ (fun i H3 _ ⟨_, h, _⟩ => .inl h) ?_ ?_
    · rintro i v H3 hi ⟨s3, hr3, fD, hd3⟩
      obtain ⟨n, hn, rfl⟩ := map_get hi
      have ht : (trn ns)[i]? = some ((ns.length : Int) + 1 - n) := by
        unfold trn
        rw [List.getElem?_map, hn]
        rfl
      have hit : i < ns.length := by
        have := (List.getElem?_eq_some_iff.mp ht).1
        rwa [trn_length] at this
      refine ⟨rfl, ?_⟩
      show tOp (rI0 fun i j => .int (i - j)) (tOp (rI0 fun i j => .int (i + j)) (tCB (rLen K) (tCons (tVar 1) tNil)) (tC (.int 1))) (tVar 2) _ _ _
      refine ⟨_, rfl, p, _, rfl, .inr (.inl (Rd.same s3 hp.rd)), _, _, rfl, rfl, _, rfl, _, _, rfl, rfl, _, hd3, ?_, Same.put fD s3, ?_, fD, ?_⟩
      · rw [List.length_map, List.length_take, trn_length]
        exact small1000 (by omega)
      · have nrD : r ≠ D := by
          intro z
          rcases hr3 with e | ⟨o, e⟩
          · rw [z, hd3] at e
            cases e
          · rw [z, hd3] at e
            cases e
        rcases hr3 with e | ⟨o, e⟩
        · exact .inl (by rw [upd_ne nrD]; exact e)
        · exact .inr ⟨o, by rw [upd_ne nrD]; exact e⟩
      · rw [upd_same, List.take_add_one, ht, List.map_append]
        have e : (inv ns).length = ns.length := inv_length ns
        show some (HO.lst (List.map V.int (List.take i (trn ns)) ++ [V.int (((((inv ns).map V.int).length : Nat) : Int) + 1 - n)])) = _
        rw [List.length_map, e]
        rfl
    · rintro H3 ⟨s3, _, fD, hd3⟩
      rw [hlm, ← trn_length, List.take_length] at hd3
      refine ⟨D, _, rfl, .inl (.inl hd3), fun l o nl hob => ?_⟩
      exact q l _ (s1.trans (s3.trans (Same.upd nl))) ((s1.trans s3).free nl) ⟨o, upd_same, hob⟩
  · exact ⟨_, rfl, x, rfl, .inr ⟨hx, hz⟩⟩
end
end Cy
namespace Cy
open PySem PySem.Spec PyProof.Rows L2
abbrev sMixed : Stmt := top 20
abbrev sPurse : Stmt := top 21
abbrev sDraw : Stmt := top 22
abbrev sLOrder : Stmt := top 24
abbrev sLRanks : Stmt := top 25
section
variable {P : Program} {w : World} {K : PySem.W.Frag} {mg : Str → Option Value} {base : Heap}
/-! ### _law_mixed -/
def spMixed : Sp := fun vs H Q _ => ∃ c k : Int, vs = [.int c, .int k] ∧ 0 ≤ c ∧ c < 2147483647 ∧ 0 ≤ k ∧ k ≤ 1000000 ∧ ∀ r : Int, 0 ≤ r → Q (.int r) H
theorem scMixed : FnScope ["cell", "k", "stirred"] ["cell", "k"] (defScope sMixed) := ⟨rfl, rfl, rfl, by decide +kernel, rfl, by decide +kernel, by decide +kernel⟩
theorem ok_mixed {f : Addr} {fd : FuncData} (F : Fun K "_law_mixed" "_law_mixed" sMixed f fd) (mi : mg "int" = none) : FnOk P w K mg base CX0 1 f fd ["cell", "k"] spMixed := by
  refine F.ok scMixed ?_ ?_
  · rintro vs H Q E ⟨c, k, rfl, _⟩
    rfl
  rintro cdv A outer s H vs Q E hr ⟨c, k, rfl, h1, h2, h3, h4, q⟩
  refine ⟨_, pss_cons (ps_set (i := 2) scMixed.nd rfl (Or.inl rfl) (pe_op op_mod (pe_callTy call_int1 (by rfl) mi (by decide +kernel) (pa_cons
      (pe_op op_add (pe_op op_add (pe_op op_add (pe_op op_mul (pv 0) pe_int) (pe_op op_mul (pe_op op_mul pe_int (pv 1)) (pv 1))) (pe_op op_mul pe_int (pv 1))) pe_int) pa_nil)) pe_int))
    (pss_one (ps_ret (pe_op op_fdiv (pe_op op_mod (pe_callTy call_int1 (by rfl) mi (by decide +kernel) (pa_cons
      (pe_op op_add (pe_op op_add (pe_op op_mul (pv 2) (pv 2)) (pe_op op_mul pe_int (pv 2))) pe_int) pa_nil)) pe_int) pe_int))), ?_⟩
  refine ⟨_, rfl, _, _, rfl, rfl, .inl ⟨by omega, by omega⟩, ?_⟩
  refine ⟨_, rfl, _, _, rfl, rfl, .inr ⟨by omega, by omega⟩, _, rfl, _, _, rfl, rfl, .inr ⟨by omega, by omega⟩, ?_⟩
  refine ⟨_, _, rfl, rfl, _, rfl, _, _, rfl, rfl, .inr ⟨by omega, by omega⟩, _, _, rfl, rfl, _, _, rfl, rfl, .inl ⟨_, rfl, ?_⟩⟩
  refine ⟨_, _, rfl, rfl, (by show (0 : Int) < 2147483647; decide), ?_⟩
  generalize hst : (c * 2654435761 + 40503 * k * k + 97 * k + 13) % 2147483647 = st
  have b1 : 0 ≤ st := by rw [← hst]; exact Int.emod_nonneg _ (by decide)
  have b2 : st < 2147483647 := by rw [← hst]; exact Int.emod_lt_of_pos _ (by decide)
  refine ⟨_, rfl, _, rfl, _, _, rfl, rfl, .inl ⟨by omega, by omega⟩, _, rfl, _, _, rfl, rfl, .inr ⟨by omega, by omega⟩, _, _, rfl, rfl, _, _, rfl, rfl, .inl ⟨_, rfl, ?_⟩⟩
  refine ⟨_, _, rfl, rfl, (by show (0 : Int) < 2147483629; decide), _, _, rfl, rfl, ⟨by decide, by decide⟩, ?_⟩
  refine q _ ?_
  have c1 : 0 ≤ (st * st + 7 * st + 11) % 2147483629 := Int.emod_nonneg _ (by decide)
  omega
/-! ### purses -/
def Purse (H : Hp) (p : Addr) (n : Int) : Prop := ∃ a b c : Int, H p = some (.lst [.int a, .int b, .int c]) ∧ 0 ≤ a ∧ 0 ≤ b ∧ b < 2147483647 ∧ 0 ≤ c ∧ c ≤ n
theorem Purse.mono {H : Hp} {p : Addr} {n m : Int} (h : Purse H p n) (e : n ≤ m) : Purse H p m := by
  obtain ⟨a, b, c, h1, h2, h3, h4, h5, h6⟩ := h
  exact ⟨a, b, c, h1, h2, h3, h4, h5, by omega⟩
theorem Purse.same {H H' : Hp} {p : Addr} {n : Int} (h : Purse H p n) (e : Same H H') : Purse H' p n := by
  obtain ⟨a, b, c, h1, h2⟩ := h
  exact ⟨a, b, c, e _ _ h1, h2⟩
def spPurse (K : PySem.W.Frag) : Sp := fun vs H Q _ => ∃ (a : Addr) (ns : List Int) (k : Nat), vs = [.ref a, .int (k : Nat)] ∧ SqL K H a (ns.map V.int) ∧ ns.length ≤ 63 ∧ k ≤ 8 ∧
  ∀ p H', Same H H' → H p = none → Purse H' p 8000 → Q (.ref p) H'
theorem scPurse : FnScope ["cells", "at", "cell"] ["cells", "at"] (defScope sPurse) := ⟨rfl, rfl, rfl, by decide +kernel, rfl, by decide +kernel, by decide +kernel⟩
theorem big_pos : (0 : Int) < ((10 : Int) ^ (60 : Int).toNat) ^ (8 : Int).toNat := by decide +kernel
theorem ok_purse {f : Addr} {fd : FuncData} (F : Fun K "_law_purse" "_law_purse" sPurse f fd) (mi : mg "int" = none) (mn : mg "len" = none) (mm : mg "max" = none) :
    FnOk P w K mg base CX0 1 f fd ["cells", "at"] (spPurse K) := by
  refine F.ok scPurse ?_ ?_
  · rintro vs H Q E ⟨a, ns, k, rfl, _⟩
    rfl
  rintro cdv A outer s H vs Q E hr ⟨a, ns, k, rfl, hS, hl, hk, q⟩
  refine ⟨_, pss_cons (ps_set (i := 2) scPurse.nd rfl (Or.inl rfl) pe_int)
    (pss_cons (ps_if (pt_cmpR op_lt (pv 1) (pe_callB call_len_seq (by rfl) mn PySem.boot_len (pa_cons (pv 0) pa_nil)) (nomark _))
      (pss_one (ps_set (i := 2) scPurse.nd rfl (Or.inl rfl) (pe_ix ix_list (pv 0) (pv 1) (fun _ _ => rfl)))) pss_nil)
    (pss_one (ps_ret (pe_lst (pa_cons (pe_op op_mod (pe_callTy call_int1 (by rfl) mi (by decide +kernel) (pa_cons (pe_callB (call_max2 rfl) (by rfl) mm (by decide +kernel)
        (pa_cons (pe_op op_sub (pv 2) (pe_op op_powB pe_int pe_int)) (pa_cons pe_int pa_nil))) pa_nil)) (pe_op op_powB (pe_op op_powB pe_int pe_int) pe_int))
      (pa_cons (pe_op op_mod (pe_callTy call_int1 (by rfl) mi (by decide +kernel) (pa_cons (pv 2) pa_nil)) pe_int) (pa_cons (pe_op op_mul pe_int (pv 1)) pa_nil))))))), ?_⟩
  have rest : ∀ cell : Int, tRet (tLst (tCons (tOp (rI (fun _ j => 0 < j) fun i j => .int (i % j)) (tCB (fun xs H Q => (∃ i, xs = [.int i] ∧ Q (.int i) H) ∨ ∃ k, xs = [.bl k] ∧ Q (.int (if k then 1 else 0)) H)
        (tCons (tCB (fun xs H Q => ∃ i j, xs = [.int i, .int j] ∧ Q (.int (if j > i then j else i)) H) (tCons (tOp (rI0 fun i j => .int (i - j)) (tVar 2) (tOp (rI (fun i j => 0 ≤ j ∧ (Builtin.Int.intBits i : Int) * j ≤ 2 ^ 27) fun i j => .int (i ^ j.toNat)) (tC (.int 10)) (tC (.int 18)))) (tCons (tC (.int 0)) tNil))) tNil))
        (tOp (rI (fun i j => 0 ≤ j ∧ (Builtin.Int.intBits i : Int) * j ≤ 2 ^ 27) fun i j => .int (i ^ j.toNat)) (tOp (rI (fun i j => 0 ≤ j ∧ (Builtin.Int.intBits i : Int) * j ≤ 2 ^ 27) fun i j => .int (i ^ j.toNat)) (tC (.int 10)) (tC (.int 60))) (tC (.int 8))))
      (tCons (tOp (rI (fun _ j => 0 < j) fun i j => .int (i % j)) (tCB (fun xs H Q => (∃ i, xs = [.int i] ∧ Q (.int i) H) ∨ ∃ k, xs = [.bl k] ∧ Q (.int (if k then 1 else 0)) H) (tCons (tVar 2) tNil)) (tC (.int 2147483647)))
      (tCons (tOp (rI CMul fun i j => .int (i * j)) (tC (.int 1000)) (tVar 1)) tNil)))) { nx := fun _ H' => Q .non H', rt := Q } [some (.ref a), some (.int (k : Nat)), some (.int cell)] H := by
    intro cell
    refine ⟨_, rfl, _, _, rfl, rfl, ⟨by decide, by decide⟩, _, _, rfl, rfl, _, _, rfl, .inl ⟨_, rfl, ?_⟩⟩
    refine ⟨_, _, rfl, rfl, ⟨by decide, by decide⟩, _, _, rfl, rfl, ⟨by decide, by decide +kernel⟩, _, _, rfl, rfl, big_pos, ?_⟩
    refine ⟨_, rfl, .inl ⟨_, rfl, _, _, rfl, rfl, (by show (0 : Int) < 2147483647; decide), ?_⟩⟩
    refine ⟨_, rfl, _, _, rfl, rfl, .inl ⟨by decide, by decide⟩, ?_⟩
    refine ⟨by show 3 ≤ sizeLine; decide, fun p np => ?_⟩
    refine q p _ (Same.upd np) np ⟨_, _, _, upd_same, Int.emod_nonneg _ (Int.ne_of_gt big_pos), Int.emod_nonneg _ (by decide), Int.emod_lt_of_pos _ (by decide), by omega, by omega⟩
  refine ⟨_, rfl, _, rfl, a, _, rfl, .inl hS, _, _, rfl, rfl, _, rfl, ?_⟩
  have hlm : (ns.map V.int).length = ns.length := List.length_map ..
  rw [hlm]
  by_cases hlt : (k : Int) < ((ns.length : Nat) : Int)
  · rw [decide_eq_true hlt]
    have hk2 : k < ns.length := by omega
    have hg : (ns.map V.int)[k]? = some (.int ns[k]) := by rw [List.getElem?_map, List.getElem?_eq_getElem hk2]; rfl
    refine iteT ⟨_, rfl, _, rfl, a, _, _, _, rfl, rfl, hS, atI_nat hg, ?_⟩
    exact rest _
  · rw [decide_eq_false hlt]
    exact iteF (rest 0)
/-! ### _law_draw -/
def spDraw : Sp := fun vs H Q _ => ∃ (p : Addr) (m n : Int), vs = [.ref p, .int m] ∧ Purse H p n ∧ n ≤ 100000 ∧ 0 < m ∧ m ≤ 1000 ∧
  ∀ r H', 0 ≤ r → r < m → But p H H' → Purse H' p (n + 1) → Q (.int r) H'
theorem scDraw : FnScope ["purse", "out_of", "drawn"] ["purse", "out_of"] (defScope sDraw) := ⟨rfl, rfl, rfl, by decide +kernel, rfl, by decide +kernel, by decide +kernel⟩
theorem ok_draw {f : Addr} {fd : FuncData} (F : Fun K "_law_draw" "_law_draw" sDraw f fd) (G : Cal P w K mg base CX0 1 "_law_mixed" ["cell", "k"] spMixed) (mi : mg "int" = none) :
    FnOk P w K mg base CX0 2 f fd ["purse", "out_of"] spDraw := by
  refine F.ok scDraw ?_ ?_
  · rintro vs H Q E ⟨p, m, n, rfl, _⟩
    rfl
  rintro cdv A outer s H vs Q E hr ⟨p, m, n, rfl, ⟨a, b, c, hp, ha, hb, hb2, hc, hcn⟩, hn, hm, hm2, q⟩
  refine ⟨_, pss_cons (ps_if (pt_cmpR op_gt (pe_ix ix_list (pv 0) pe_int (fun _ _ => rfl)) pe_int (nomark _))
      (pss_cons (ps_set (i := 2) scDraw.nd rfl (Or.inl rfl) (pe_op op_mod (pe_callTy call_int1 (by rfl) mi (by decide +kernel) (pa_cons (pe_ix ix_list (pv 0) pe_int (fun _ _ => rfl)) pa_nil)) (pv 1)))
      (pss_cons (ps_asg (pe_op op_fdiv (pe_ix ix_list (pv 0) pe_int (fun _ _ => rfl)) (pv 1)) (pg_sub (pv 0) pe_int set_list))
      (pss_one (ps_ret (pv 2))))) pss_nil)
    (pss_cons (ps_asg (pe_op op_add (pe_ix ix_list (pv 0) pe_int (fun _ _ => rfl)) pe_int) (pg_sub (pv 0) pe_int set_list))
    (pss_one (ps_ret (pe_op op_mod (pe_callTy call_int1 (by rfl) mi (by decide +kernel) (pa_cons (pe_cal G hr pass0 (by rfl)
      (pa_cons (pe_ix ix_list (pv 0) pe_int (fun _ _ => rfl)) (pa_cons (pe_ix ix_list (pv 0) pe_int (fun _ _ => rfl)) pa_nil))) pa_nil)) (pv 1))))), ?_⟩
  have S0 : SqL K H p [.int a, .int b, .int c] := .inl (.inl hp)
  refine ⟨_, rfl, p, _, _, _, rfl, rfl, S0, (by rfl), _, _, rfl, rfl, _, rfl, ?_⟩
  by_cases hpos : a > 0
  · rw [decide_eq_true hpos]
    refine iteT ⟨_, rfl, p, _, _, _, rfl, rfl, S0, (by rfl), .inl ⟨_, rfl, _, rfl, _, _, rfl, rfl, hm, ?_⟩⟩
    refine ⟨_, rfl, p, _, _, _, rfl, rfl, S0, (by rfl), _, rfl, _, _, rfl, rfl, ⟨hm, by omega⟩, ?_⟩
    refine ⟨_, rfl, p, _, _, 0, rfl, rfl, hp, (by rfl), ?_⟩
    refine ⟨_, rfl, q _ _ (Int.emod_nonneg _ (by omega)) (Int.emod_lt_of_pos _ hm) But.of_upd ?_⟩
    exact ⟨a / m, b, c, upd_same, Int.ediv_nonneg ha (by omega), hb, hb2, hc, by omega⟩
  · rw [decide_eq_false hpos]
    refine iteF ⟨_, rfl, p, _, _, _, rfl, rfl, S0, (by rfl), _, _, rfl, rfl, ?_⟩
    refine ⟨_, rfl, p, _, _, 2, rfl, rfl, hp, (by rfl), ?_⟩
    have S1 : SqL K (L2.upd H p (.lst [.int a, .int b, .int (c + 1)])) p [.int a, .int b, .int (c + 1)] := .inl (.inl upd_same)
    refine ⟨_, rfl, p, _, _, _, rfl, rfl, S1, (by rfl), _, rfl, p, _, _, _, rfl, rfl, S1, (by rfl), ?_⟩
    refine ⟨b, c + 1, rfl, hb, hb2, by omega, by omega, fun r hr0 => .inl ⟨_, rfl, ?_⟩⟩
    refine ⟨_, rfl, _, _, rfl, rfl, hm, ?_⟩
    refine q _ _ (Int.emod_nonneg _ (by omega)) (Int.emod_lt_of_pos _ hm) But.of_upd ?_
    exact ⟨a, b, c + 1, upd_same, ha, hb, hb2, by omega, by omega⟩
end
end Cy
namespace Cy
open PySem PySem.Spec PyProof.Rows L2
section
variable {P : Program} {w : World} {K : PySem.W.Frag} {mg : Str → Option Value} {base : Heap}
/-! ### _law_order -/
def spLOrder : Sp := fun vs H Q _ => ∃ (p : Addr) (m : Nat) (n : Int), vs = [.ref p, .int (m : Nat)] ∧ Purse H p n ∧ n ≤ 90000 ∧ m ≤ 40 ∧
  ∀ t (ns : List Int) H', ns.length = m → Ord ns → But p H H' → H t = none → Tf H' t (ns.map V.int) → Purse H' p (n + 41) → Q (.ref t) H'
theorem scLOrder : FnScope ["purse", "many", "found", "wagon", "at"] ["purse", "many"] (defScope sLOrder) := ⟨rfl, rfl, rfl, by decide +kernel, rfl, by decide +kernel, by decide +kernel⟩
theorem ok_lorder {f : Addr} {fd : FuncData} (F : Fun K "_law_order" "_law_order" sLOrder f fd) (G : Cal P w K mg base CX0 2 "_law_draw" ["purse", "out_of"] spDraw)
    (mr : mg "range" = none) (mt : mg "tuple" = none) : FnOk P w K mg base CX0 3 f fd ["purse", "many"] spLOrder := by
  refine F.ok scLOrder ?_ ?_
  · rintro vs H Q E ⟨p, m, n, rfl, _⟩
    rfl
  rintro cdv A outer s H vs Q E hr ⟨p, m, n, rfl, hp, hn, hm, q⟩
  refine ⟨_, pss_cons (ps_set (i := 2) scLOrder.nd rfl (Or.inl rfl) (pe_lst pa_nil))
    (pss_cons (ps_for PassesOwn.never rfl (pi_range2 (by rfl) mr (pa_cons pe_int (pa_cons (pe_op op_add (pv 1) pe_int) pa_nil))) (pg_name (i := 3) scLOrder.nd rfl (Or.inl rfl))
      (pss_cons (ps_set (i := 4) scLOrder.nd rfl (Or.inl rfl) (pe_cal G hr pass0 (by rfl) (pa_cons (pv 0) (pa_cons (pv 3) pa_nil))))
      (pss_one (ps_set (i := 2) scLOrder.nd rfl (Or.inl rfl) (pe_op op_cat (pe_op op_cat (pe_slice sl_list (pv 2) po_none (po_some (pv 4))) (pe_lst (pa_cons (pv 3) pa_nil))) (pe_slice sl_list (pv 2) (po_some (pv 4)) po_none))))))
    (pss_one (ps_ret (pe_callTy call_tupleF (by rfl) mt (by decide +kernel) (pa_cons (pv 2) pa_nil))))), ?_⟩
  obtain ⟨a0, b0, c0, hp0, hrest⟩ := id hp
  refine ⟨Nat.zero_le _, fun D hD => ?_⟩
  have npD : p ≠ D := ne_of_none hp0 hD
  refine ⟨_, rfl, _, _, rfl, rfl, _, _, rfl, ⟨by decide, by decide, by omega, by omega⟩, ?_⟩
  refine for_range (lo := 1) (n := ((m : Int) + 1 - 1).toNat) (fun i σ H1 => ∃ (v u : Option V) (d : Addr) (fs : List Int), σ = [some (.ref p), some (.int (m : Nat)), some (.ref d), v, u] ∧ But p H H1 ∧
      Purse H1 p (n + (i : Nat)) ∧ H d = none ∧ H1 d = some (.lst (fs.map V.int)) ∧ fs.Perm (iota i))
    ⟨none, none, D, [], rfl, Same.but (Same.upd hD), by simpa using hp.same (Same.upd hD), hD, upd_same, List.Perm.refl _⟩ ?_ ?_
  · rintro i σ H1 hi ⟨v, u, d, fs, rfl, s1, hp1, hd0, hd, hf⟩
    have hfl : fs.length = i := by rw [hf.length_eq, iota_length]
    refine ⟨_, rfl, _, rfl, p, 1 + (i : Int), n + (i : Nat), rfl, hp1, by omega, by omega, by omega, fun r H2 r0 r1 s2 hp2 => ?_⟩
    obtain ⟨a1, b1, c1, hpp, _⟩ := id hp1
    have ndp : d ≠ p := fun z => by
      rw [z, hp0] at hd0
      cases hd0
    have hd2 : H2 d = some (.lst (fs.map V.int)) := s2 _ _ ndp hd
    obtain ⟨k, rfl⟩ : ∃ k : Nat, r = (k : Int) := ⟨r.toNat, by omega⟩
    refine ⟨_, rfl, ?_⟩
    dsimp only [tNoPart]
    refine ⟨_, rfl, _, rfl, d, _, rfl, .inl (.inl hd2), fun e1 n1 => ?_⟩
    have sA := Same.upd (o := .lst (cutV (fs.map V.int) none (some (k : Int)))) n1
    refine ⟨_, rfl, by show 1 ≤ sizeLine; decide, fun e2 n2 => ?_⟩
    have sB := sA.trans (Same.upd (o := .lst [.int (1 + (i : Int))]) n2)
    have n12 : e1 ≠ e2 := ne_of_none upd_same n2
    refine ⟨e1, e2, _, _, rfl, rfl, by rw [upd_ne n12]; exact upd_same, upd_same, ?_, fun e3 n3 => ?_⟩
    · rw [cut_to, ← List.map_take, List.length_map, List.length_take]
      exact Nat.le_trans (by show _ ≤ 1000; simp only [List.length_singleton]; omega) (by decide)
    have sC := sB.trans (Same.upd (o := .lst (cutV (fs.map V.int) none (some (k : Int)) ++ [.int (1 + (i : Int))])) n3)
    refine ⟨_, rfl, _, rfl, _, rfl, ?_⟩
    dsimp only [tNoPart]
    refine ⟨d, _, rfl, .inl (.inl (sC _ _ hd2)), fun e4 n4 => ?_⟩
    have sD := sC.trans (Same.upd (o := .lst (cutV (fs.map V.int) (some (k : Int)) none)) n4)
    have n34 : e3 ≠ e4 := ne_of_none upd_same n4
    refine ⟨e3, e4, _, _, rfl, rfl, by rw [upd_ne n34]; exact upd_same, upd_same, ?_, fun e5 n5 => ?_⟩
    · rw [cut_to, cut_from, ← List.map_take, ← List.map_drop, List.length_append, List.length_map, List.length_map, List.length_take, List.length_drop]
      exact Nat.le_trans (by show _ ≤ 1000; simp only [List.length_singleton]; omega) (by decide)
    have sE := sD.trans (Same.upd (o := .lst (cutV (fs.map V.int) none (some (k : Int)) ++ [.int (1 + (i : Int))] ++ cutV (fs.map V.int) (some (k : Int)) none)) n5)
    refine ⟨_, _, e5, fs.take k ++ [(i : Int) + 1] ++ fs.drop k, rfl, s1.trans (s2.trans (Same.but sE)), ?_, ?_, ?_, put_perm hf k⟩
    · have q2 := hp2.same sE
      have ee : n + (i : Nat) + 1 = n + ((i + 1 : Nat) : Int) := by omega
      rw [← ee]
      exact q2
    · by_cases h : H e5 = none
      · exact h
      · exfalso
        cases e : H e5 with
        | none => exact h e
        | some o =>
          by_cases z : e5 = p
          · obtain ⟨_, _, _, hpx, _⟩ := hp2.same sD
            rw [z, hpx] at n5
            cases n5
          · have y := sD _ _ (s2 _ _ z (s1 _ _ z e))
            rw [y] at n5
            cases n5
    · rw [upd_same, cut_to, cut_from, List.map_append, List.map_append, List.map_take, List.map_drop]
      show some (HO.lst (List.take k (List.map V.int fs) ++ [V.int (1 + (i : Int))] ++ List.drop k (List.map V.int fs))) = some (HO.lst (List.take k (List.map V.int fs) ++ [V.int ((i : Int) + 1)] ++ List.drop k (List.map V.int fs)))
      rw [Int.add_comm 1 (i : Int)]
  · rintro σ H1 ⟨v, u, d, fs, rfl, s1, hp1, hd0, hd, hf⟩
    have hfl : fs.length = m := by
      rw [hf.length_eq, iota_length]
      omega
    refine ⟨_, rfl, d, _, rfl, .inl (.inl hd), fun l o nl hob => ?_⟩
    have nlp : H l = none := by
      cases e : H l with
      | none => rfl
      | some o2 =>
        by_cases z : l = p
        · obtain ⟨_, _, _, hpx, _⟩ := hp1
          rw [z, hpx] at nl
          cases nl
        · rw [s1 _ _ z e] at nl
          cases nl
    refine q l fs _ hfl ?_ (s1.trans (Same.but (Same.upd nl))) nlp ⟨o, upd_same, hob⟩ ((hp1.same (Same.upd nl)).mono (by omega))
    unfold Ord
    rw [hfl]
    have e : ((m : Int) + 1 - 1).toNat = m := by omega
    rw [e] at hf
    exact hf
/-! ### _law_ranks -/
def spLRanks : Sp := fun vs H Q _ => ∃ (a : Addr) (ns : List Int), vs = [.ref a] ∧ Rd H a (.tup (ns.map V.int)) ∧ ns.length ≤ 40 ∧ NewT H Q (ranks ns)
theorem scLRanks : FnScope ["lot", "found", "spot_at", "wagon", "one"] ["lot"] (defScope sLRanks) := ⟨rfl, rfl, rfl, by decide +kernel, rfl, by decide +kernel, by decide +kernel⟩
theorem ok_lranks {f : Addr} {fd : FuncData} (F : Fun K "_law_ranks" "_law_ranks" sLRanks f fd) (me : mg "enumerate" = none) (mn : mg "len" = none) (mt : mg "tuple" = none) :
    FnOk P w K mg base CX0 1 f fd ["lot"] spLRanks := by
  refine F.ok scLRanks ?_ ?_
  · rintro vs H Q E ⟨a, ns, rfl, _⟩
    rfl
  rintro cdv A outer s H vs Q E hr ⟨a, ns, rfl, ha, hl, q⟩
  refine ⟨_, pss_cons (ps_set (i := 1) scLRanks.nd rfl (Or.inl rfl) (pe_lst pa_nil))
    (pss_cons (ps_for PassesOwn.never rfl (pi_enumT (by rfl) me (pa_cons (pv 0) pa_nil)) (pg_tup rfl (pgs_cons (pg_name (i := 2) scLRanks.nd rfl (Or.inl rfl)) (pgs_cons (pg_name (i := 3) scLRanks.nd rfl (Or.inr rfl)) pgs_nil)))
      (pss_one (ps_expr (pe_bm PySem.F.plainAttrs_list PySem.F.slot_list_append PySem.F.type_list_append mt_append (pv 1) (pa_cons (pe_op op_add pe_int (pe_callB call_len_seq (by rfl) mn PySem.boot_len (pa_cons
        (pe_lc (own := [("one", 4)]) (g := gName 4) rfl scLRanks.nd (pi_tup (pe_slice sl_tupA (pv 0) (po_some (pe_op op_add (pv 2) pe_int)) po_none))
          (blkOk_by (own := [("one", 4)]) (N := ["lot", "found", "spot_at", "wagon", "one"]) (sc := defScope sLRanks) (by decide +kernel))
          (fun _ _ _ _ _ => pg_name (i := 4) scLRanks.nd rfl (Or.inl rfl)) (fun _ _ _ _ _ => pts_one (pt_cmpR op_lt (pv 4) (pv 3) (nomark _))) (fun _ _ _ _ _ => pv 4)) pa_nil))) pa_nil)))))
    (pss_one (ps_ret (pe_callTy call_tupleF (by rfl) mt (by decide +kernel) (pa_cons (pv 1) pa_nil))))), ?_⟩
  refine ⟨Nat.zero_le _, fun O nO => ?_⟩
  have s0 := Same.upd (o := .lst []) nO
  refine ⟨_, rfl, a, _, rfl, .inl (Rd.same s0 ha), ?_⟩
  have hlm : (ns.map V.int).length = ns.length := List.length_map ..
  refine for_enumT (K := K) (a := a) (xs := ns.map V.int) (fun i σ H1 => ∃ (v u x : Option V), σ = [some (.ref a), some (.ref O), v, u, x] ∧ Same H H1 ∧ H1 O = some (.lst (((ranks ns).take i).map V.int)))
    ⟨none, none, none, rfl, s0, upd_same⟩ (fun i σ H1 _ h => let ⟨_, _, _, _, s1, _⟩ := h; .inl (Rd.same s1 ha)) ?_ ?_
  · rintro i x T σ H1 hi ⟨v, u, x0, rfl, s1, hO⟩ nT
    obtain ⟨n, hn, rfl⟩ := map_get hi
    have hi2 : i < ns.length := (List.getElem?_eq_some_iff.mp hn).1
    have nOT : O ≠ T := ne_of_none hO nT
    have s2 : Same H (L2.upd H1 T (.tup [.int (i : Nat), .int n])) := s1.trans (Same.upd nT)
    have hO2 : (L2.upd H1 T (.tup [.int (i : Nat), .int n])) O = some (.lst (((ranks ns).take i).map V.int)) := by rw [upd_ne nOT]; exact hO
    refine ⟨T, _, rfl, .inl (.inl upd_same), rfl, _, _, rfl, _, _, rfl, rfl, ?_⟩
    refine ⟨_, rfl, .inl ⟨rfl, _, .inl (.inl hO2)⟩, ?_⟩
    refine ⟨_, rfl, _, rfl, _, _, rfl, rfl, _, rfl, ?_⟩
    dsimp only [tNoPart]
    refine slA (K := K) (Rd.same s2 ha) ?_
    intro p H3 s3 hp
    have e1 : cutV (ns.map V.int) (some ((i : Int) + 1)) none = (ns.drop (i + 1)).map V.int := by
      have := cut_from (ns.map V.int) (i + 1)
      rw [List.map_drop, ← this]
      rfl
    rw [e1] at hp
    refine ⟨p, rfl, ⟨_, .inl hp⟩, fun D hD => ?_⟩
    refine lc_tup (K := K) (a := p) (xs := (ns.drop (i + 1)).map V.int) (fun j H4 => Same H3 H4 ∧ H4 D = some (.lst ((less n ((ns.drop (i + 1)).take j)).map V.int)))
      ⟨Same.upd hD, upd_same⟩ (fun j H4 _ ⟨s4, _⟩ => .inl (Rd.same s4 hp)) ?_ ?_
    · rintro j v2 H4 hj ⟨s4, hd4⟩
      obtain ⟨z, hz, rfl⟩ := map_get hj
      have et : (ns.drop (i + 1)).take (j + 1) = (ns.drop (i + 1)).take j ++ [z] := by
        rw [List.take_add_one, hz]
        rfl
      refine ⟨rfl, ?_⟩
      refine ⟨_, rfl, _, rfl, _, _, rfl, rfl, _, rfl, ?_⟩
      show if decide (z < n) = true then _ else _
      by_cases hlt : z < n
      · rw [decide_eq_true hlt]
        refine iteT ⟨_, rfl, _, hd4, ?_, Same.put hD s4, ?_⟩
        · rw [List.length_map]
          have q1 : (less n ((ns.drop (i + 1)).take j)).length ≤ ((ns.drop (i + 1)).take j).length := List.length_filter_le _ _
          rw [List.length_take, List.length_drop] at q1
          exact small1000 (by omega)
        · rw [upd_same, et]
          unfold less
          rw [List.filter_append, List.filter_cons_of_pos (by simpa using hlt), List.filter_nil, List.map_append]
          rfl
      · rw [decide_eq_false hlt]
        refine iteF ⟨s4, ?_⟩
        rw [hd4, et]
        unfold less
        rw [List.filter_append, List.filter_cons_of_neg (by simpa using hlt), List.filter_nil, List.append_nil]
    · rintro H4 ⟨s4, hd4⟩
      rw [List.length_map, List.take_length] at hd4
      refine ⟨D, _, rfl, .inl (.inl (.inl hd4)), _, _, rfl, rfl, ?_⟩
      have hO4 := s4 _ _ (s3 _ _ hO2)
      refine ⟨O, _, _, rfl, rfl, hO4, ?_, ?_⟩
      · rw [List.length_map, List.length_take, ranks_length]
        exact small1000 (by omega)
      have hg := ranks_get ns i n hn
      refine ⟨_, _, _, rfl, Same.put nO (s2.trans (s3.trans s4)), ?_⟩
      rw [upd_same, List.take_add_one, hg, List.map_append, List.length_map]
      rfl
  · rintro σ H1 ⟨v, u, x0, rfl, s1, hO⟩
    rw [hlm, ← ranks_length, List.take_length] at hO
    refine ⟨_, rfl, O, _, rfl, .inl (.inl hO), fun l o nl hob => ?_⟩
    exact q l _ (s1.trans (Same.upd nl)) (s1.free nl) ⟨o, upd_same, hob⟩
end
end Cy
namespace Cy
open PySem PySem.Spec PyProof.Rows L2
abbrev sAsked : Stmt := top 26
abbrev sCaught : Stmt := top 27
section
variable {X : Cx} {CX : CXT} {k : Nat} {x : Str} {ps : List Str} {sp : Sp} {p pos : Pos} {e : Expr} {es : List Expr} {t : TA} {E : L2.St → XK}
theorem pe_calS (C : Cal X.prog X.w X.K X.mg X.base CX k x ps sp) (hr : Room k X.A) (hx : ∀ σ, PassesAt CX X σ (E σ)) (hg : Gl X x) (ha : PA X (e :: es) t)
    (hdb : (x == ("__debug__" : Str)) = false := by decide)
    (he : starEach (e :: es) X.env = (false, eval e X.env) :: starEach es X.env := by rfl)
    (hpl : (backTo pos (starEach es X.env)).any (·.1) = false := by rfl) :
    PE X (.Call (.Name x p) (e :: es) [] pos) (tCallS sp E t) := by
  obtain ⟨f, fd, F, hm, hk, hb⟩ := C
  exact pe_callS F hr hg hm hk hb hx ha hdb he hpl
end
section
variable {P : Program} {w : World} {K : PySem.W.Frag} {mg : Str → Option Value} {base : Heap}
/-- what is asked wrongly: the error's class, its name in the law, its field -/
def Ask (K : PySem.W.Frag) (CO CR CN : Addr) (H : Hp) (k : Int) (x y : V) (C : Addr) (nm : Str) (v : V) : Prop :=
  ((k = 0 ∨ k = 2 ∨ k = 3 ∨ k = 4) ∧ IsOrd K H x false ∧ C = CO ∧ nm = "order" ∧ v = x) ∨ (k = 1 ∧ IsRnk K H x false ∧ C = CR ∧ nm = "ranks" ∧ v = x) ∨
  (k = 2 ∧ (∃ (a : Addr) (ns : List Int), x = .ref a ∧ Rd H a (.tup (ns.map V.int)) ∧ ns.length ≤ 40 ∧ Ord ns ∧ Btw K H y 0 ((ns.length : Int) - 1) false) ∧ C = CN ∧ nm = "number" ∧ v = y)
/-! ### _law_asked -/
def spAsked (K : PySem.W.Frag) (CO CR CN : Addr) : Sp := fun vs H _ E => ∃ k x y C nm v, vs = [.int k, x, y] ∧ Ask K CO CR CN H k x y C nm v ∧ Rz C "thing" v H E
theorem scAsked : FnScope ["kind", "one", "second"] ["kind", "one", "second"] (defScope sAsked) := ⟨rfl, rfl, rfl, by decide +kernel, rfl, by decide +kernel, by decide +kernel⟩
theorem dec_int (a b : Int) : decide (V.int a = V.int b) = decide (a = b) := by
  by_cases h : a = b
  · subst h; simp
  · rw [decide_eq_false h]
    exact decide_eq_false fun z => h (by cases z; rfl)
theorem ok_asked {CO CR CN : Addr} {f : Addr} {fd : FuncData} (F : Fun K "_law_asked" "_law_asked" sAsked f fd)
    (G0 : Cal P w K mg base (L2.CX P w) 4 "ranks_of" ["order"] (spRanks K CO)) (G1 : Cal P w K mg base (L2.CX P w) 5 "order_of" ["ranks"] (spOrderOf K CR))
    (G2 : Cal P w K mg base (L2.CX P w) 4 "left_out" ["order", "place"] (spLeft K CO CN)) (G3 : Cal P w K mg base (L2.CX P w) 4 "inverse" ["order"] (spInv K CO))
    (G4 : Cal P w K mg base (L2.CX P w) 5 "turned_about" ["order"] (spTrn K CO)) :
    FnOk P w K mg base (L2.CX P w) 6 f fd ["kind", "one", "second"] (spAsked K CO CR CN) := by
  refine F.okX scAsked ?_ ?_
  · rintro vs H Q E ⟨k, x, y, C, nm, v, rfl, _⟩
    rfl
  rintro cdv A outer s H vs Q E hr ⟨k, x, y, C, nm, v, rfl, hA, hz⟩
  have hr4 : Room 4 _ := hr.mono (by decide)
  have ps := passes_call (X := cxOf (L2.CX P w) P w K mg base ["kind", "one", "second"] "_law_asked" (defScope sAsked) f cdv A outer s H E) (takes_of rfl rfl rfl rfl) (fun _ _ _ _ h => h)
  refine ⟨_, pss_cons (ps_if (pt_cmpR op_eq (pv 0) pe_int (nomark _)) (pss_one (ps_ret (pe_cal (E := E) G0 hr4 ps (by rfl) (pa_cons (pv 1) pa_nil)))) pss_nil)
    (pss_cons (ps_if (pt_cmpR op_eq (pv 0) pe_int (nomark _)) (pss_one (ps_ret (pe_cal (E := E) G1 hr ps (by rfl) (pa_cons (pv 1) pa_nil)))) pss_nil)
    (pss_cons (ps_if (pt_cmpR op_eq (pv 0) pe_int (nomark _)) (pss_one (ps_ret (pe_cal (E := E) G2 hr4 ps (by rfl) (pa_cons (pv 1) (pa_cons (pv 2) pa_nil))))) pss_nil)
    (pss_one (ps_ret (pe_ifExp (pt_cmpR op_eq (pv 0) pe_int (nomark _)) (pe_cal (E := E) G3 hr4 ps (by rfl) (pa_cons (pv 1) pa_nil)) (pe_cal (E := E) G4 hr ps (by rfl) (pa_cons (pv 1) pa_nil))))))), ?_⟩
  refine ⟨_, rfl, rfl, _, rfl, ?_⟩
  rw [dec_int]
  rcases hA with ⟨hk, hx, rfl, rfl, rfl⟩ | ⟨rfl, hx, rfl, rfl, rfl⟩ | ⟨rfl, ⟨a, ns, rfl, ha, hl, ho, hb⟩, rfl, rfl, rfl⟩
  · rcases hk with rfl | rfl | rfl | rfl
    · exact iteT ⟨_, rfl, v, rfl, .inr ⟨hx, hz⟩⟩
    · refine iteF ⟨_, rfl, rfl, _, rfl, ?_⟩
      rw [dec_int]
      refine iteF ⟨_, rfl, rfl, _, rfl, ?_⟩
      rw [dec_int]
      exact iteT ⟨_, rfl, _, rfl, v, y, rfl, .inr ⟨hx, hz⟩⟩
    · refine iteF ⟨_, rfl, rfl, _, rfl, ?_⟩
      rw [dec_int]
      refine iteF ⟨_, rfl, rfl, _, rfl, ?_⟩
      rw [dec_int]
      refine iteF ⟨_, rfl, rfl, _, rfl, ?_⟩
      rw [dec_int]
      exact iteT ⟨_, rfl, v, rfl, .inr ⟨hx, hz⟩⟩
    · refine iteF ⟨_, rfl, rfl, _, rfl, ?_⟩
      rw [dec_int]
      refine iteF ⟨_, rfl, rfl, _, rfl, ?_⟩
      rw [dec_int]
      refine iteF ⟨_, rfl, rfl, _, rfl, ?_⟩
      rw [dec_int]
      exact iteF ⟨_, rfl, v, rfl, .inr ⟨hx, hz⟩⟩
  · refine iteF ⟨_, rfl, rfl, _, rfl, ?_⟩
    rw [dec_int]
    exact iteT ⟨_, rfl, v, rfl, .inr ⟨hx, hz⟩⟩
  · refine iteF ⟨_, rfl, rfl, _, rfl, ?_⟩
    rw [dec_int]
    refine iteF ⟨_, rfl, rfl, _, rfl, ?_⟩
    rw [dec_int]
    exact iteT ⟨_, rfl, _, rfl, _, v, rfl, .inl ⟨a, ns, rfl, ha, hl, ho, .inr ⟨hb, hz⟩⟩⟩
/-! ### _law_caught -/
structure Sees (K : PySem.W.Frag) (CO CR CN : Addr) : Prop where
  oo : PySem.W.exmOne K (.ref CO) (.ref CO) = some true
  ro : PySem.W.exmOne K (.ref CR) (.ref CO) = some false
  rr : PySem.W.exmOne K (.ref CR) (.ref CR) = some true
  no : PySem.W.exmOne K (.ref CN) (.ref CO) = some false
  nr : PySem.W.exmOne K (.ref CN) (.ref CR) = some false
  nn : PySem.W.exmOne K (.ref CN) (.ref CN) = some true
def spCaught (K : PySem.W.Frag) (CO CR CN : Addr) : Sp := fun vs H Q _ => ∃ k x y C nm v, vs = [.int k, x, y] ∧ Ask K CO CR CN H k x y C nm v ∧
  ∀ p H', Same H H' → H p = none → p ≠ sysModules → H' p = some (.lst [.str nm, v]) → Q (.ref p) H'
theorem scCaught : FnScope ["kind", "one", "second", "caught", "error"] ["kind", "one", "second"] (defScope sCaught) := ⟨rfl, rfl, rfl, by decide +kernel, rfl, by decide +kernel, by decide +kernel⟩
def suiteT (nm : Str) (C : Addr) : Addr → Value → Option Addr → TS := fun a cls d => tAsg (tLstB (tCons (tC (.str nm)) (tCons (tXf a cls d C "thing" (tVar 4)) tNil))) (gName 3)
def suiteO : Addr → Value → Option Addr → TS := fun _ _ _ => tAsg (tLst (tCons (tC (.str "other")) tNil)) (gName 3)
theorem ok_caught {Y CO CR CN : Addr} {f : Addr} {fd : FuncData} (F : Fun K "_law_caught" "_law_caught" sCaught f fd)
    (G : Cal P w K mg base (L2.CX P w) 6 "_law_asked" ["kind", "one", "second"] (spAsked K CO CR CN)) (S : Sees K CO CR CN)
    (RO : Err P w K mg base 1 "InvalidOrder" CO "thing" "thing") (RR : Err P w K mg base 1 "InvalidRanks" CR "thing" "thing") (RN : Err P w K mg base 1 "InvalidNumber" CN "thing" "thing")
    (gY : mg "YardError" = some (.ref Y)) : FnOk P w K mg base CX0 7 f fd ["kind", "one", "second"] (spCaught K CO CR CN) := by
  refine F.ok scCaught ?_ ?_
  · rintro vs H Q E ⟨k, x, y, C, nm, v, rfl, _⟩
    rfl
  rintro cdv A outer s H vs Q E hr ⟨k, x, y, C, nm, v, rfl, hA, q⟩
  refine ⟨_, pss_cons (ps_set (i := 3) scCaught.nd rfl (Or.inl rfl) pe_non)
    (pss_cons (ps_try_cl (l := [(.ref CO, some 4, suiteT "order" CO), (.ref CR, some 4, suiteT "ranks" CR), (.ref CN, some 4, suiteT "number" CN), (.ref Y, none, suiteO)])
        (tb := fun W => tDrop (tCallS (spAsked K CO CR CN) (WE W) (tCons (tVar 0) (tCons (tVar 1) (tCons (tVar 2) tNil))))) (Wout := fun _ _ _ _ => False) rfl rfl scCaught.nd takes0
        (fun W pn xe tk _ => pss_one (ps_expr (pe_calS G hr (fun σ => passAt tk σ) (by rfl) (pa_cons (pv 0) (pa_cons (pv 1) (pa_cons (pv 2) pa_nil))))))
        (ClOk.named rfl rfl ⟨rfl, by decide, .inl RO.gC⟩ (fun a o cls d pn hz hf => pss_one (ps_set (i := 3) scCaught.nd rfl (Or.inl rfl) (pe_lstB (pa_cons pe_str (pa_cons (pe_xf RO.xf RO.no hz hf (pv 4)) pa_nil)))))
        (ClOk.named rfl rfl ⟨rfl, by decide, .inl RR.gC⟩ (fun a o cls d pn hz hf => pss_one (ps_set (i := 3) scCaught.nd rfl (Or.inl rfl) (pe_lstB (pa_cons pe_str (pa_cons (pe_xf RR.xf RR.no hz hf (pv 4)) pa_nil)))))
        (ClOk.named rfl rfl ⟨rfl, by decide, .inl RN.gC⟩ (fun a o cls d pn hz hf => pss_one (ps_set (i := 3) scCaught.nd rfl (Or.inl rfl) (pe_lstB (pa_cons pe_str (pa_cons (pe_xf RN.xf RN.no hz hf (pv 4)) pa_nil)))))
        (ClOk.plain ⟨rfl, by decide, .inl gY⟩ (fun a o cls d pn hz hf => pss_one (ps_set (i := 3) scCaught.nd rfl (Or.inl rfl) (pe_lst (pa_cons pe_str pa_nil)))) ClOk.nil)))))
    (pss_one (ps_ret (pv 3)))), ?_⟩
  have suite : ∀ {a d : Addr} {H1 : Hp} (C : Addr) (nm : Str) (v : V), Same H H1 → H d = none → H1 d = some (.xd [("thing", v)]) →
      (∀ p H', Same H H' → H p = none → p ≠ sysModules → H' p = some (.lst [.str nm, v]) → Q (.ref p) H') →
      suiteT nm C a (.ref C) (some d) (endsAs { nx := tRet (tVar 3) { nx := fun _ H' => Q .non H', rt := Q }, rt := Q } 4) [some (.int k), some x, some y, some .non, some (.ref a)] H1 := by
    intro a d H1 C nm v s1 hd0 hd qq
    refine ⟨_, rfl, rfl, rfl, d, _, v, rfl, hd, by simp [List.lookup], ?_⟩
    refine ⟨by show 2 ≤ sizeLine; decide, fun p np sy => ?_⟩
    exact ⟨_, rfl, qq p _ (s1.trans (Same.upd np)) (s1.free np) sy upd_same⟩
  refine ⟨_, rfl, _, rfl, _, rfl, k, x, y, C, nm, v, rfl, hA, fun d H1 s1 hd0 hd => ?_⟩
  rcases hA with ⟨_, _, rfl, rfl, rfl⟩ | ⟨_, _, rfl, rfl, rfl⟩ | ⟨_, _, rfl, rfl, rfl⟩
  · exact ⟨true, S.oo, fun _ a na => suite C "order" v s1 hd0 hd q, fun z => (nomatch z)⟩
  · exact ⟨false, S.ro, fun z => (nomatch z), fun _ => ⟨true, S.rr, fun _ a na => suite C "ranks" v s1 hd0 hd q, fun z => (nomatch z)⟩⟩
  · exact ⟨false, S.no, fun z => (nomatch z), fun _ => ⟨false, S.nr, fun z => (nomatch z), fun _ => ⟨true, S.nn, fun _ a na => suite C "number" v s1 hd0 hd q, fun z => (nomatch z)⟩⟩⟩
end
end Cy
/-! ### written values -/
namespace Cy
open PySem PySem.Spec PyProof.Rows L2
inductive Lit where
  | non | bl (b : Bool) | int (i : Int) | str (s : Str) | lst (xs : List Lit) | tup (xs : List Lit) | emp
mutual
/-- N: where its lists may stand -/
inductive LitAt (N : Addr → Prop) (H : Hp) : V → Lit → Prop
  | non : LitAt N H .non .non
  | bl (b : Bool) : LitAt N H (.bl b) (.bl b)
  | int (i : Int) : LitAt N H (.int i) (.int i)
  | str (s : Str) : LitAt N H (.str s) (.str s)
  | lst {a : Addr} {vs : List V} {ls : List Lit} (e : H a = some (.lst vs)) (n : N a) (r : LitsAt N H vs ls) : LitAt N H (.ref a) (.lst ls)
  | tup {a : Addr} {vs : List V} {ls : List Lit} (e : Rd H a (.tup vs)) (r : LitsAt N H vs ls) : LitAt N H (.ref a) (.tup ls)
  | emp {a : Addr} (e : H a = some (.dK [])) : LitAt N H (.ref a) .emp
inductive LitsAt (N : Addr → Prop) (H : Hp) : List V → List Lit → Prop
  | nil : LitsAt N H [] []
  | cons {v : V} {vs : List V} {l : Lit} {ls : List Lit} (h : LitAt N H v l) (r : LitsAt N H vs ls) : LitsAt N H (v :: vs) (l :: ls)
end
mutual
theorem LitAt.mov {N N' : Addr → Prop} {H H' : Hp} (hN : ∀ a, N a → N' a) (h1 : ∀ a vs, N a → H a = some (.lst vs) → H' a = some (.lst vs))
    (h2 : ∀ a vs, Rd H a (.tup vs) → Rd H' a (.tup vs)) (h3 : ∀ a, H a = some (.dK []) → H' a = some (.dK [])) : ∀ (l : Lit) (v : V), LitAt N H v l → LitAt N' H' v l
  | .non, _, h => by cases h; exact .non
  | .bl b, _, h => by cases h; exact .bl b
  | .int i, _, h => by cases h; exact .int i
  | .str x, _, h => by cases h; exact .str x
  | .lst ls, _, h => by
    cases h with
    | lst e n r => exact .lst (h1 _ _ n e) (hN _ n) (LitsAt.mov hN h1 h2 h3 ls _ r)
  | .tup ls, _, h => by
    cases h with
    | tup e r => exact .tup (h2 _ _ e) (LitsAt.mov hN h1 h2 h3 ls _ r)
  | .emp, _, h => by
    cases h with
    | emp e => exact .emp (h3 _ e)
theorem LitsAt.mov {N N' : Addr → Prop} {H H' : Hp} (hN : ∀ a, N a → N' a) (h1 : ∀ a vs, N a → H a = some (.lst vs) → H' a = some (.lst vs))
    (h2 : ∀ a vs, Rd H a (.tup vs) → Rd H' a (.tup vs)) (h3 : ∀ a, H a = some (.dK []) → H' a = some (.dK [])) : ∀ (ls : List Lit) (vs : List V), LitsAt N H vs ls → LitsAt N' H' vs ls
  | [], _, h => by cases h; exact .nil
  | l :: ls, _, h => by
    cases h with
    | cons h r => exact .cons (LitAt.mov hN h1 h2 h3 l _ h) (LitsAt.mov hN h1 h2 h3 ls _ r)
end
section
variable {N N' : Addr → Prop} {H H' : Hp} {l : Lit} {v : V} {ls : List Lit} {vs : List V}
theorem LitAt.same (s : Same H H') (hN : ∀ a, N a → N' a) (h : LitAt N H v l) : LitAt N' H' v l :=
  LitAt.mov hN (fun _ _ _ e => s _ _ e) (fun _ _ e => Rd.same s e) (fun _ e => s _ _ e) _ _ h
theorem LitsAt.same (s : Same H H') (hN : ∀ a, N a → N' a) (h : LitsAt N H vs ls) : LitsAt N' H' vs ls :=
  LitsAt.mov hN (fun _ _ _ e => s _ _ e) (fun _ _ e => Rd.same s e) (fun _ e => s _ _ e) _ _ h
/-- all but the list at p, which is none of these -/
theorem LitAt.but {p : Addr} {zs : List V} (s : But p H H') (hp : H p = some (.lst zs)) (hn : ¬ N p) (h : LitAt N H v l) : LitAt N H' v l := by
  refine LitAt.mov (fun _ n => n) (fun a vs n e => s _ _ (fun z => hn (z ▸ n)) e) (fun a vs e => ?_) (fun a e => s _ _ ?_ e) _ _ h
  · rcases e with e | ⟨o, e⟩
    · refine .inl (s _ _ ?_ e)
      intro z
      subst z
      cases hp.symm.trans e
    · refine .inr ⟨o, s _ _ ?_ e⟩
      intro z
      subst z
      cases hp.symm.trans e
  · intro z
    rw [z, hp] at e
    cases e
end
theorem LitsAt.length {N : Addr → Prop} {H : Hp} : ∀ {ls : List Lit} {vs : List V}, LitsAt N H vs ls → vs.length = ls.length
  | [], _, h => by cases h; rfl
  | _ :: _, _, h => by
    cases h with
    | cons _ r => exact congrArg Nat.succ (LitsAt.length r)
theorem LitsAt.get {N : Addr → Prop} {H : Hp} : ∀ {ls : List Lit} {vs : List V} {i : Nat} {l : Lit}, LitsAt N H vs ls → ls[i]? = some l → ∃ v, vs[i]? = some v ∧ LitAt N H v l
  | [], _, _, _, _, e => by simp at e
  | _ :: _, _, 0, _, h, e => by
    cases h with
    | cons h _ =>
      have z := Option.some.inj (show some _ = some _ from e)
      subst z
      exact ⟨_, rfl, h⟩
  | _ :: _, _, i + 1, _, h, e => by
    cases h with
    | cons _ r =>
      obtain ⟨v, h1, h2⟩ := LitsAt.get (i := i) r (by simpa using e)
      exact ⟨v, by simpa using h1, h2⟩
/-- a written value's reading -/
def New (H : Hp) : Addr → Prop := fun a => a ≠ sysModules ∧ H a = none
theorem New.back {H H1 : Hp} (s : Same H H1) : ∀ a, New H1 a → New H a := fun _ n => ⟨n.1, s.free n.2⟩
def tLit (l : Lit) : TE := fun _ H Q => ∀ v H', Same H H' → LitAt (New H) H' v l → Q v H'
def tLits (ls : List Lit) : TA := fun _ H Q => ∀ vs H', Same H H' → LitsAt (New H) H' vs ls → Q vs H'
section
variable {X : Cx} {e : Expr} {es : List Expr} {pos : Pos}
theorem pe_imp {t t' : TE} (h : PE X e t) (i : ∀ σ H Q, t' σ H Q → t σ H Q) : PE X e t' := ⟨fun pins s σ H Q I w => h.run pins s σ H Q I (i σ H Q w)⟩
theorem pa_imp {t t' : TA} (h : PA X es t) (i : ∀ σ H Q, t' σ H Q → t σ H Q) : PA X es t' := ⟨fun pos pins s σ H Q I w => h.run pos pins s σ H Q I (i σ H Q w)⟩
theorem lit_non (h : PE X e (tC .non)) : PE X e (tLit .non) := pe_imp h fun _ H _ q => q _ H (Same.refl H) .non
theorem lit_bl {b : Bool} (h : PE X e (tC (.bl b))) : PE X e (tLit (.bl b)) := pe_imp h fun _ H _ q => q _ H (Same.refl H) (.bl b)
theorem lit_int {i : Int} (h : PE X e (tC (.int i))) : PE X e (tLit (.int i)) := pe_imp h fun _ H _ q => q _ H (Same.refl H) (.int i)
theorem lit_str {x : Str} (h : PE X e (tC (.str x))) : PE X e (tLit (.str x)) := pe_imp h fun _ H _ q => q _ H (Same.refl H) (.str x)
theorem lit_neg {i : Int} (h : PE X e (tUn (rU fun i => .int (-i)) (tC (.int i)))) : PE X e (tLit (.int (-i))) :=
  pe_imp h fun _ H _ q => ⟨i, rfl, q _ H (Same.refl H) (.int _)⟩
theorem lit_emp (h : PE X e tDNewK) : PE X e (tLit .emp) := pe_imp h fun _ H _ q d hd => q _ _ (Same.upd hd) (.emp upd_same)
theorem lits_nil : PA X [] (tLits []) := pa_imp pa_nil fun _ H _ q => q _ H (Same.refl H) .nil
theorem lits_cons {l : Lit} {ls : List Lit} (h : PE X e (tLit l)) (r : PA X es (tLits ls)) (hs : starEach (e :: es) X.env = (false, eval e X.env) :: starEach es X.env := by rfl) : PA X (e :: es) (tLits (l :: ls)) :=
  pa_imp (pa_cons h r hs) fun _ H _ q v H1 s1 h1 vs H2 s2 h2 => q _ H2 (s1.trans s2) (.cons (h1.same s2 fun _ n => n) (h2.same (Same.refl _) (New.back s1)))
theorem lit_lst {ls : List Lit} (r : PA X es (tLits ls)) (hl : ls.length ≤ 1000 := by decide) : PE X (.List es pos) (tLit (.lst ls)) :=
  pe_imp (pe_lstB r) fun _ H _ q vs H1 s1 h1 => ⟨by rw [h1.length]; exact Nat.le_of_lt (small1000 hl), fun p np sy =>
    q _ _ (s1.trans (Same.upd np)) (.lst upd_same ⟨sy, s1.free np⟩ (h1.same (Same.upd np) fun _ n => n))⟩
theorem lit_tup {x1} {ls : List Lit} (r : PA X es (tLits ls)) (hl : ls.length ≤ 1000 := by decide) : PE X (.Tuple es x1 pos) (tLit (.tup ls)) :=
  pe_imp (pe_tup r) fun _ H _ q vs H1 s1 h1 => ⟨by rw [h1.length]; exact Nat.le_of_lt (small1000 hl), fun p np =>
    q _ _ (s1.trans (Same.upd np)) (.tup (.inl upd_same) (h1.same (Same.upd np) fun _ n => n))⟩
end
/-! what they are as data, as orders, as ranks -/
mutual
def dat : Lit → PyData
  | .non => .none
  | .bl b => .bool b
  | .int i => .int i
  | .str s => .str s
  | .lst xs => .list (dats xs)
  | .tup xs => .tuple (dats xs)
  | .emp => .dict []
def dats : List Lit → List PyData
  | [] => []
  | x :: xs => dat x :: dats xs
end
mutual
theorem LitAt.dq {K : PySem.W.Frag} {N : Addr → Prop} {H : Hp} (hN : ∀ a, N a → a ≠ sysModules) : ∀ (l : Lit) (v : V), LitAt N H v l → Dq K H v (dat l)
  | .non, _, h => by cases h; exact .non
  | .bl b, _, h => by cases h; exact .bl b
  | .int i, _, h => by cases h; exact .int i
  | .str x, _, h => by cases h; exact .str x
  | .lst ls, _, h => by
    cases h with
    | lst e n r => exact .lst (.inl (.inl e)) (hN _ n) (LitsAt.dq hN ls _ r)
  | .tup ls, _, h => by
    cases h with
    | tup e r => exact .tup (.inl e) (LitsAt.dq hN ls _ r)
  | .emp, _, h => by
    cases h with
    | emp e => exact .emp e
theorem LitsAt.dq {K : PySem.W.Frag} {N : Addr → Prop} {H : Hp} (hN : ∀ a, N a → a ≠ sysModules) : ∀ (ls : List Lit) (vs : List V), LitsAt N H vs ls → DqAll K H vs (dats ls)
  | [], _, h => by cases h; exact .nil
  | l :: ls, _, h => by
    cases h with
    | cons h r => exact .cons (LitAt.dq hN l _ h) (LitsAt.dq hN ls _ r)
end
def litI : Lit → Bool
  | .int _ => true
  | _ => false
def litN : Lit → Int
  | .int i => i
  | _ => 0
theorem LitAt.isI {K : PySem.W.Frag} {N : Addr → Prop} {H : Hp} {l : Lit} {v : V} (h : LitAt N H v l) : IsI K H v (litI l) := by
  cases h with
  | non => exact .non
  | bl b => exact .bl b
  | int i => exact .int i
  | str x => exact .str x
  | lst e n r => exact .lst e
  | tup e r => exact .tup e
  | emp e => exact .dk e
theorem LitsAt.isI {K : PySem.W.Frag} {N : Addr → Prop} {H : Hp} : ∀ {ls : List Lit} {vs : List V}, LitsAt N H vs ls → Paired (IsI K H) vs (ls.map litI)
  | [], _, h => by cases h; exact .nil
  | _ :: _, _, h => by
    cases h with
    | cons h r => exact .cons h.isI (LitsAt.isI r)
theorem LitsAt.ints {N : Addr → Prop} {H : Hp} : ∀ {ls : List Lit} {vs : List V}, LitsAt N H vs ls → (ls.map litI).all id = true → vs = (ls.map litN).map V.int
  | [], _, h, _ => by cases h; rfl
  | l :: ls, _, h, e => by
    cases h with
    | cons h r =>
      rw [List.map_cons, List.all_cons, Bool.and_eq_true] at e
      have q := LitsAt.ints r e.2
      cases h with
      | int i => rw [q]; rfl
      | _ => exact absurd (show false = true from e.1) Bool.false_ne_true
def ordLit : Lit → Bool
  | .tup xs => (xs.map litI).all id && ordB (xs.map litN)
  | _ => false
theorem LitAt.isOrd {K : PySem.W.Frag} {N : Addr → Prop} {H : Hp} {l : Lit} {v : V} (h : LitAt N H v l) (hl : ∀ xs, l = .tup xs → xs.length ≤ 1000) : IsOrd K H v (ordLit l) := by
  cases h with
  | non => exact .inl ⟨_, .base .non, by decide +kernel, rfl⟩
  | bl b => exact .inl ⟨_, .base (.bl b), by decide +kernel, rfl⟩
  | int i => exact .inl ⟨_, .base (.int i), by decide +kernel, rfl⟩
  | str x => exact .inl ⟨_, .base (.str x), by decide +kernel, rfl⟩
  | lst e n r => exact .inl ⟨_, .base (.lst e), by decide +kernel, rfl⟩
  | emp e => exact .inl ⟨_, .base (.dK e), by decide +kernel, rfl⟩
  | @tup a vs ls e r =>
    refine .inr ⟨a, vs, ls.map litI, rfl, e, by rw [r.length]; exact hl _ rfl, r.isI, ?_⟩
    cases q : (ls.map litI).all id with
    | false => exact .inl ⟨rfl, by show ((ls.map litI).all id && ordB (ls.map litN)) = false; rw [q]; rfl⟩
    | true => exact .inr ⟨rfl, ls.map litN, r.ints q, by show ((ls.map litI).all id && ordB (ls.map litN)) = _; rw [q]; rfl⟩
def btwL (x : Lit) (lo hi : Int) : Bool :=
  match x with
  | .int i => decide (lo ≤ i) && decide (i ≤ hi)
  | _ => false
theorem LitAt.btw {K : PySem.W.Frag} {N : Addr → Prop} {H : Hp} {l : Lit} {v : V} (h : LitAt N H v l) (lo hi : Int) : Btw K H v lo hi (btwL l lo hi) := by
  have z := h.isI (K := K)
  cases h with
  | int i => exact .inl ⟨i, rfl, rfl⟩
  | non => exact .inr ⟨z, rfl⟩
  | bl b => exact .inr ⟨z, rfl⟩
  | str x => exact .inr ⟨z, rfl⟩
  | lst e n r => exact .inr ⟨z, rfl⟩
  | tup e r => exact .inr ⟨z, rfl⟩
  | emp e => exact .inr ⟨z, rfl⟩
def rnkBits : List Lit → List Bool
  | [] => []
  | x :: r => btwL x 1 ((r.length : Int) + 1) :: rnkBits r
theorem rnkBits_length : ∀ ls, (rnkBits ls).length = ls.length
  | [] => rfl
  | _ :: r => congrArg Nat.succ (rnkBits_length r)
theorem rnkBits_get : ∀ (ls : List Lit) (i : Nat) (l : Lit), ls[i]? = some l → (rnkBits ls)[i]? = some (btwL l 1 ((ls.length : Int) - (i : Nat)))
  | [], _, _, h => by simp at h
  | x :: r, 0, l, h => by
    have z : x = l := by simpa using h
    subst z
    show some (btwL x 1 ((r.length : Int) + 1)) = _
    have e : ((r.length : Int) + 1) = (((x :: r).length : Nat) : Int) - ((0 : Nat) : Int) := by
      rw [List.length_cons]
      omega
    rw [e]
  | x :: r, i + 1, l, h => by
    have q := rnkBits_get r i l (by simpa using h)
    show (rnkBits r)[i]? = _
    rw [q]
    have e : ((r.length : Nat) : Int) - (i : Nat) = (((x :: r).length : Nat) : Int) - ((i + 1 : Nat) : Int) := by
      rw [List.length_cons]
      omega
    rw [e]
def rnkLit : Lit → Bool
  | .tup xs => (rnkBits xs).all id
  | _ => false
theorem LitAt.isRnk {K : PySem.W.Frag} {N : Addr → Prop} {H : Hp} {l : Lit} {v : V} (h : LitAt N H v l) (hl : ∀ xs, l = .tup xs → xs.length ≤ 1000) : IsRnk K H v (rnkLit l) := by
  cases h with
  | non => exact .inl ⟨_, .base .non, by decide +kernel, rfl⟩
  | bl b => exact .inl ⟨_, .base (.bl b), by decide +kernel, rfl⟩
  | int i => exact .inl ⟨_, .base (.int i), by decide +kernel, rfl⟩
  | str x => exact .inl ⟨_, .base (.str x), by decide +kernel, rfl⟩
  | lst e n r => exact .inl ⟨_, .base (.lst e), by decide +kernel, rfl⟩
  | emp e => exact .inl ⟨_, .base (.dK e), by decide +kernel, rfl⟩
  | @tup a vs ls e r =>
    refine .inr ⟨a, vs, rnkBits ls, rfl, e, by rw [r.length]; exact hl _ rfl, by rw [rnkBits_length, r.length], ?_, rfl⟩
    intro i x hx
    have hi : i < ls.length := by
      have := (List.getElem?_eq_some_iff.mp hx).1
      rwa [r.length] at this
    obtain ⟨v, h1, h2⟩ := r.get (List.getElem?_eq_getElem hi)
    rw [hx] at h1
    cases h1
    refine ⟨_, rnkBits_get ls i _ (List.getElem?_eq_getElem hi), ?_⟩
    rw [r.length]
    exact h2.btw _ _
end Cy
namespace Cy
open PySem PySem.Spec PyProof.Rows L2
abbrev sDoors : Stmt := top 28
def oddA : List Lit := [.non, .int 1, .str "12", .lst [.int 1], .tup [.int 0], .tup [.int 2], .tup [.int 1, .int 1], .tup [.int 1, .int 3], .tup [.int 1, .bl true], .tup [.int (-1)], .tup [.str "1"], .tup [.int 1, .non], .emp, .tup [.tup [.int 1]], .tup [.int 3, .int 1]]
def oddB : List Lit := [.tup [.lst [.int 1]], .tup [.int 1, .lst [.int 2]]]
def rowM : List Lit := [.non, .int 1, .lst [.int 1], .tup [.int 0], .tup [.int 2], .tup [.int 1, .int 2], .tup [.int 3, .int 1, .int 1, .int 2], .tup [.bl true], .tup [.str "1"], .emp, .tup [.int (-1), .int 1], .tup [.int 1, .int 1, .non]]
def spotR : List Lit := [.non, .bl true, .str "0", .tup [.int 0]]
def spotM (n : Int) : List Lit := .int (-1) :: .int n :: spotR
def okD (d : PyData) : Bool := d.showable && decide (d.depth ≤ 40) && decide (d.shown.length ≤ sizeLine)
theorem okD_of {d : PyData} (h : okD d = true) : d.showable = true ∧ d.depth ≤ 40 ∧ d.shown.length ≤ sizeLine := by
  unfold okD at h
  rw [Bool.and_eq_true, Bool.and_eq_true] at h
  exact ⟨h.1.1, of_decide_eq_true h.1.2, of_decide_eq_true h.2⟩
def smallL : Lit → Bool
  | .tup xs => decide (xs.length ≤ 1000)
  | _ => true
theorem smallL_of {l : Lit} (h : smallL l = true) : ∀ xs, l = .tup xs → xs.length ≤ 1000 := fun xs e => by subst e; exact of_decide_eq_true h
theorem all_get {p : Lit → Bool} {ls : List Lit} (h : ls.all p = true) {i : Nat} (hi : i < ls.length) : ∃ l, ls[i]? = some l ∧ p l = true :=
  ⟨ls[i], List.getElem?_eq_getElem hi, List.all_eq_true.mp h _ (List.getElem_mem hi)⟩
theorem odd_ok : (oddA ++ oddB).all (fun l => (!ordLit l) && okD (.list [.str "order", dat l]) && smallL l) = true := by decide +kernel
def toldD (r s : Lit) : PyData := .list [.list [.str "ranks", dat r], .list [.str "number", dat s]]
theorem row_ok : rowM.all (fun l => (!rnkLit l) && smallL l) = true := by decide +kernel
theorem told_ok : ((List.range 41).all fun n => rowM.all fun r => (spotM (n : Int)).all fun s => okD (toldD r s) && !btwL s 0 ((n : Int) - 1)) = true := by decide +kernel
end Cy
namespace Cy
open PySem PySem.Spec PyProof.Rows L2
section
variable {P : Program} {w : World} {K : PySem.W.Frag} {mg : Str → Option Value} {base : Heap}
theorem dec_str (x : Str) : decide (V.str x = V.str x) = true := decide_eq_true rfl
/-- what stays at the doors -/
structure At (H0 H : Hp) (p a : Addr) (ns : List Int) (n : Int) : Prop where
  but : But p H0 H
  pur : Purse H p n
  mad : Rd H a (.tup (ns.map V.int))
theorem At.same {H0 H H' : Hp} {p a : Addr} {ns : List Int} {n : Int} (h : At H0 H p a ns n) (s : Same H H') : At H0 H' p a ns n :=
  ⟨h.but.trans (Same.but s), h.pur.same s, Rd.same s h.mad⟩
theorem At.draw {H0 H H' : Hp} {p a : Addr} {ns : List Int} {n : Int} (h : At H0 H p a ns n) (s : But p H H') (q : Purse H' p (n + 1)) : At H0 H' p a ns (n + 1) := by
  refine ⟨h.but.trans s, q, ?_⟩
  obtain ⟨_, _, _, hp, _⟩ := h.pur
  rcases h.mad with e | ⟨o, e⟩
  · refine .inl (s _ _ ?_ e)
    intro z
    rw [z, hp] at e
    cases e
  · refine .inr ⟨o, s _ _ ?_ e⟩
    intro z
    rw [z, hp] at e
    cases e
theorem At.fresh {H0 H : Hp} {p a : Addr} {ns : List Int} {n : Int} (h : At H0 H p a ns n) {q : Addr} (e : H q = none) : H0 q = none := by
  cases z : H0 q with
  | none => rfl
  | some o =>
    exfalso
    by_cases hq : q = p
    · obtain ⟨_, _, _, hp, _⟩ := h.pur
      rw [hq, hp] at e
      cases e
    · rw [h.but _ _ hq z] at e
      cases e
theorem At.new {H0 H : Hp} {p a : Addr} {ns : List Int} {n : Int} (h : At H0 H p a ns n) : ∀ q, New H q → New H0 q := fun _ z => ⟨z.1, h.fresh z.2⟩
theorem At.lit {H0 H H' : Hp} {p a : Addr} {ns : List Int} {n m : Int} {v : V} {l : Lit} (hp0 : ∃ o, H0 p = some o) (h : At H0 H p a ns n) (s : But p H H') (q : LitAt (New H0) H v l) : LitAt (New H0) H' v l := by
  obtain ⟨_, _, _, hp, _⟩ := h.pur
  refine q.but s hp ?_
  rintro ⟨_, z⟩
  obtain ⟨o, e⟩ := hp0
  rw [e] at z
  cases z
theorem At.lits {H0 H H' : Hp} {p a : Addr} {ns : List Int} {n m : Int} (hp0 : ∃ o, H0 p = some o) (h : At H0 H p a ns n) (s : But p H H') : ∀ {ls : List Lit} {vs : List V}, LitsAt (New H0) H vs ls → LitsAt (New H0) H' vs ls
  | [], _, q => by cases q; exact .nil
  | l :: ls, _, q => by
    cases q with
    | cons q r => exact .cons (At.lit (m := m) hp0 h s q) (At.lits (m := m) hp0 h s r)
theorem LitsAt.app {N : Addr → Prop} {H : Hp} : ∀ {l1 l2 : List Lit} {v1 v2 : List V}, LitsAt N H v1 l1 → LitsAt N H v2 l2 → LitsAt N H (v1 ++ v2) (l1 ++ l2)
  | [], _, _, _, h, r => by cases h; exact r
  | _ :: _, _, _, _, h, r => by
    cases h with
    | cons h t => exact .cons h (LitsAt.app t r)
def spDoors : Sp := fun vs H Q _ => ∃ (p a : Addr) (ns : List Int) (n : Int), vs = [.ref p, .ref a] ∧ Purse H p n ∧ n ≤ 90000 ∧ Rd H a (.tup (ns.map V.int)) ∧ ns.length ≤ 40 ∧ Ord ns ∧
  ∀ H', But p H H' → Purse H' p (n + 3) → Q (.bl true) H'
theorem scDoors : FnScope ["purse", "made", "odd", "kind", "row", "spot_at", "told"] ["purse", "made"] (defScope sDoors) := ⟨rfl, rfl, rfl, by decide +kernel, rfl, by decide +kernel, by decide +kernel⟩
theorem ok_doors {CO CR CN : Addr} {f : Addr} {fd : FuncData} (F : Fun K "_law_doors_right" "_law_doors_right" sDoors f fd)
    (GD : Cal P w K mg base CX0 2 "_law_draw" ["purse", "out_of"] spDraw) (GO : Cal P w K mg base CX0 2 "is_order" ["thing"] (spOrd K))
    (GOk : CalK P w K mg base CX0 2 "is_order" ["thing"] ["thing"] (fun zs => zs) (spOrd K))
    (GC : Cal P w K mg base CX0 7 "_law_caught" ["kind", "one", "second"] (spCaught K CO CR CN))
    (ml : mg "list" = none) (ms : mg "str" = none) (mn : mg "len" = none) : FnG P w K mg base CX0 8 f fd ["purse", "made"] spDoors := by
  refine okG F scDoors ?_ ?_
  · rintro vs H Q E ⟨p, a, ns, n, rfl, _⟩
    rfl
  rintro cdv A outer s H vs Q E gu hr ⟨p, a, ns, n, rfl, hp, hn, ha, hl, ho, q⟩
  have hr2 : Room 2 _ := hr.mono (by decide)
  refine ⟨_, pss_cons (ps_set (i := 2) scDoors.nd rfl (Or.inl rfl) (lit_lst (ls := oddA) (lits_cons (lit_non pe_non) (lits_cons (lit_int pe_int) (lits_cons (lit_str pe_str) (lits_cons (lit_lst (lits_cons (lit_int pe_int) lits_nil))
      (lits_cons (lit_tup (lits_cons (lit_int pe_int) lits_nil)) (lits_cons (lit_tup (lits_cons (lit_int pe_int) lits_nil)) (lits_cons (lit_tup (lits_cons (lit_int pe_int) (lits_cons (lit_int pe_int) lits_nil)))
      (lits_cons (lit_tup (lits_cons (lit_int pe_int) (lits_cons (lit_int pe_int) lits_nil))) (lits_cons (lit_tup (lits_cons (lit_int pe_int) (lits_cons (lit_bl pe_bl) lits_nil))) (lits_cons (lit_tup (lits_cons (lit_neg (pe_un un_neg pe_int)) lits_nil))
      (lits_cons (lit_tup (lits_cons (lit_str pe_str) lits_nil)) (lits_cons (lit_tup (lits_cons (lit_int pe_int) (lits_cons (lit_non pe_non) lits_nil))) (lits_cons (lit_emp pe_dnewK) (lits_cons (lit_tup (lits_cons (lit_tup (lits_cons (lit_int pe_int) lits_nil)) lits_nil))
      (lits_cons (lit_tup (lits_cons (lit_int pe_int) (lits_cons (lit_int pe_int) lits_nil))) lits_nil)))))))))))))))))
    (pss_cons (ps_set (i := 2) scDoors.nd rfl (Or.inl rfl) (pe_ix ix_list (pe_op op_cat (pv 2) (lit_lst (ls := oddB) (lits_cons (lit_tup (lits_cons (lit_lst (lits_cons (lit_int pe_int) lits_nil)) lits_nil))
      (lits_cons (lit_tup (lits_cons (lit_int pe_int) (lits_cons (lit_lst (lits_cons (lit_int pe_int) lits_nil)) lits_nil))) lits_nil))))
      (pe_cal GD hr2 pass0 (by rfl) (pa_cons (pv 0) (pa_cons pe_int pa_nil))) (fun _ _ => rfl)))
    (pss_cons (ps_if (PW.pt (pw_or (pt_cmpR op_notBl (pe_cal GO hr2 pass0 (by rfl) (pa_cons (pv 2) pa_nil)) pe_bl (nomark _))
      (pw_or1 (pt_cmpR op_notBl (pe_calK GOk hr2 pass0 (by rfl) (pk_cons (pe_callTy call_list_of (by rfl) ml (by decide +kernel) (pa_cons (pv 1) pa_nil)) pk_nil)) pe_bl (nomark _))))) (pss_one (ps_ret pe_bl)) pss_nil)
    (pss_cons (ps_for PassesOwn.never rfl (pi_tup (pe_tup (pa_cons pe_int (pa_cons pe_int (pa_cons pe_int (pa_cons pe_int pa_nil)))))) (pg_name (i := 3) scDoors.nd rfl (Or.inl rfl))
      (pss_one (ps_if (pt_cmpR op_ne (pe_callTy (call_strD gu hr) (by rfl) ms (by decide +kernel) (pa_cons (pe_cal GC hr pass0 (by rfl) (pa_cons (pv 3) (pa_cons (pv 2) (pa_cons pe_non pa_nil)))) pa_nil))
        (pe_callTy (call_strD gu hr) (by rfl) ms (by decide +kernel) (pa_cons (pe_lstB (pa_cons pe_str (pa_cons (pv 2) pa_nil))) pa_nil)) (nomark _)) (pss_one (ps_ret pe_bl)) pss_nil)))
    (pss_cons (ps_set (i := 4) scDoors.nd rfl (Or.inl rfl) (lit_lst (ls := rowM) (lits_cons (lit_non pe_non) (lits_cons (lit_int pe_int) (lits_cons (lit_lst (lits_cons (lit_int pe_int) lits_nil)) (lits_cons (lit_tup (lits_cons (lit_int pe_int) lits_nil))
      (lits_cons (lit_tup (lits_cons (lit_int pe_int) lits_nil)) (lits_cons (lit_tup (lits_cons (lit_int pe_int) (lits_cons (lit_int pe_int) lits_nil))) (lits_cons (lit_tup (lits_cons (lit_int pe_int) (lits_cons (lit_int pe_int) (lits_cons (lit_int pe_int) (lits_cons (lit_int pe_int) lits_nil)))))
      (lits_cons (lit_tup (lits_cons (lit_bl pe_bl) lits_nil)) (lits_cons (lit_tup (lits_cons (lit_str pe_str) lits_nil)) (lits_cons (lit_emp pe_dnewK) (lits_cons (lit_tup (lits_cons (lit_neg (pe_un un_neg pe_int)) (lits_cons (lit_int pe_int) lits_nil)))
      (lits_cons (lit_tup (lits_cons (lit_int pe_int) (lits_cons (lit_int pe_int) (lits_cons (lit_non pe_non) lits_nil)))) lits_nil))))))))))))))
    (pss_cons (ps_set (i := 4) scDoors.nd rfl (Or.inl rfl) (pe_ix ix_list (pv 4) (pe_cal GD hr2 pass0 (by rfl) (pa_cons (pv 0) (pa_cons pe_int pa_nil))) (fun _ _ => rfl)))
    (pss_cons (ps_set (i := 5) scDoors.nd rfl (Or.inl rfl) (pe_ix ix_list (pe_lstB (pa_cons (lit_neg (pe_un un_neg pe_int)) (pa_cons (pe_callB call_len_seq (by rfl) mn PySem.boot_len (pa_cons (pv 1) pa_nil))
      (lits_cons (lit_non pe_non) (lits_cons (lit_bl pe_bl) (lits_cons (lit_str pe_str) (lits_cons (lit_tup (lits_cons (lit_int pe_int) lits_nil)) lits_nil))))))) (pe_cal GD hr2 pass0 (by rfl) (pa_cons (pv 0) (pa_cons pe_int pa_nil))) (fun _ _ => rfl)))
    (pss_cons (ps_set (i := 6) scDoors.nd rfl (Or.inl rfl) (pe_lstB (pa_cons (pe_cal GC hr pass0 (by rfl) (pa_cons pe_int (pa_cons (pv 4) (pa_cons pe_non pa_nil)))) (pa_cons (pe_cal GC hr pass0 (by rfl) (pa_cons pe_int (pa_cons (pv 1) (pa_cons (pv 5) pa_nil)))) pa_nil))))
    (pss_one (ps_ret (pe_cmpR op_eq (pe_callTy (call_strD gu hr) (by rfl) ms (by decide +kernel) (pa_cons (pv 6) pa_nil))
      (pe_callTy (call_strD gu hr) (by rfl) ms (by decide +kernel) (pa_cons (pe_lstB (pa_cons (pe_lstB (pa_cons pe_str (pa_cons (pv 4) pa_nil))) (pa_cons (pe_lstB (pa_cons pe_str (pa_cons (pv 5) pa_nil))) pa_nil))) pa_nil)) (nomark _))))))))))), ?_⟩
  have hp0 : ∃ o, H p = some o := let ⟨_, _, _, e, _⟩ := hp; ⟨_, e⟩
  have A0 : At H H p a ns n := ⟨fun _ _ _ e => e, hp, ha⟩
  have nsy : ∀ q, New H q → q ≠ sysModules := fun _ z => z.1
  -- odd
  intro v1 H1 s1 h1
  cases h1 with
  | @lst a1 vs1 _ e1 n1 r1 =>
  have A1 := A0.same s1
  refine ⟨_, rfl, ?_⟩
  intro v2 H2 s2 h2
  cases h2 with
  | @lst a2 vs2 _ e2 n2 r2 =>
  have A2 := A1.same s2
  have l1 := r1.length
  have l2 := r2.length
  refine ⟨a1, a2, vs1, vs2, rfl, rfl, s2 _ _ e1, e2, ?_, fun b nb => ?_⟩
  · rw [l1, l2]
    decide
  have sb : Same H2 (L2.upd H2 b (.lst (vs1 ++ vs2))) := Same.upd nb
  have A3 := A2.same sb
  refine ⟨_, rfl, p, 17, n, rfl, A3.pur, by omega, by decide, by decide, fun r H4 r0 r1' s4 hp4 => ?_⟩
  have A4 := A3.draw s4 hp4
  have hbp : b ≠ p := by
    obtain ⟨_, _, _, hpx, _⟩ := A2.pur
    intro z
    rw [z, hpx] at nb
    cases nb
  have hb4 : H4 b = some (.lst (vs1 ++ vs2)) := s4 _ _ hbp upd_same
  have R : LitsAt (New H) H4 (vs1 ++ vs2) (oddA ++ oddB) :=
    At.lits (m := n) hp0 A3 s4 (LitsAt.app (r1.same (s2.trans sb) fun _ z => z) (r2.same sb fun q z => New.back s1 q z))
  obtain ⟨k, rfl⟩ : ∃ k : Nat, r = (k : Int) := ⟨r.toNat, by omega⟩
  obtain ⟨l, hl0, hlp⟩ := all_get odd_ok (i := k) (by show k < 17; omega)
  rw [Bool.and_eq_true, Bool.and_eq_true] at hlp
  obtain ⟨⟨lo, ld⟩, ls⟩ := hlp
  have lo' : ordLit l = false := by simpa using lo
  obtain ⟨d1, d2, d3⟩ := okD_of ld
  obtain ⟨v, hv0, hv⟩ := R.get hl0
  refine ⟨b, _, _, _, rfl, rfl, .inl (.inl hb4), atI_nat hv0, ?_⟩
  -- is_order says no
  have io := hv.isOrd (K := K) (smallL_of ls)
  rw [lo'] at io
  refine ⟨_, rfl, v, false, rfl, io, fun H5 s5 => ?_⟩
  have A5 := A4.same s5
  refine ⟨_, _, rfl, rfl, _, rfl, ?_⟩
  refine iteF ?_
  refine ⟨_, rfl, a, _, rfl, .inr (.inl A5.mad), fun c nc => ?_⟩
  have sc : Same H5 (L2.upd H5 c (.lst (ns.map V.int))) := Same.upd nc
  refine ⟨rfl, _, false, rfl, .inl ⟨_, .base (.lst upd_same), by decide +kernel, rfl⟩, fun H6 s6 => ?_⟩
  have A6 := (A5.same sc).same s6
  have hv6 := hv.same (s5.trans (sc.trans s6)) fun _ z => z
  refine ⟨_, _, rfl, rfl, _, rfl, ?_⟩
  refine iteF ?_
  -- the kinds
  refine ⟨by show 4 ≤ sizeLine; decide, fun t nt => ?_⟩
  have st : Same H6 (L2.upd H6 t (.tup [.int 0, .int 2, .int 3, .int 4])) := Same.upd nt
  refine ⟨t, rfl, ⟨_, .inl (.inl upd_same)⟩, ?_⟩
  refine for_tup (K := K) (a := t) (xs := [.int 0, .int 2, .int 3, .int 4]) (fun i σ H7 => ∃ u : Option V, σ = [some (.ref p), some (.ref a), some v, u, none, none, none] ∧
      At H H7 p a ns (n + 1) ∧ LitAt (New H) H7 v l ∧ H7 t = some (.tup [.int 0, .int 2, .int 3, .int 4]))
    ⟨none, rfl, A6.same st, hv6.same st fun _ z => z, upd_same⟩ (fun i σ H7 _ ⟨_, _, _, _, e⟩ => .inl (.inl e)) ?_ ?_
  · rintro i x σ H7 hi ⟨u, rfl, A7, hv7, ht7⟩
    obtain ⟨kk, hkk, rfl⟩ : ∃ kk : Int, (kk = 0 ∨ kk = 2 ∨ kk = 3 ∨ kk = 4) ∧ x = .int kk := by
      match i, hi with
      | 0, hi => exact ⟨0, .inl rfl, (Option.some.inj hi).symm⟩
      | 1, hi => exact ⟨2, .inr (.inl rfl), (Option.some.inj hi).symm⟩
      | 2, hi => exact ⟨3, .inr (.inr (.inl rfl)), (Option.some.inj hi).symm⟩
      | 3, hi => exact ⟨4, .inr (.inr (.inr rfl)), (Option.some.inj hi).symm⟩
      | i + 4, hi => exact absurd hi (by simp)
    have io7 := hv7.isOrd (K := K) (smallL_of ls)
    rw [lo'] at io7
    refine ⟨_, rfl, _, rfl, kk, v, .non, CO, "order", v, rfl, .inl ⟨hkk, io7, rfl, rfl, rfl⟩, fun q1 H8 s8 nq1 sy1 hq1 => ?_⟩
    have hv8 := hv7.same s8 fun _ z => z
    refine ⟨q1, .list [.str "order", dat l], rfl, .lst (.inl (.inl hq1)) sy1 (.cons (.str _) (.cons (LitAt.dq nsy _ _ hv8) .nil)), d1, d2, d3, ?_⟩
    refine ⟨_, rfl, by show 2 ≤ sizeLine; decide, fun q2 nq2 sy2 => ?_⟩
    have s9 : Same H8 (L2.upd H8 q2 (.lst [.str "order", v])) := Same.upd nq2
    refine ⟨q2, .list [.str "order", dat l], rfl, .lst (.inl (.inl upd_same)) sy2 (.cons (.str _) (.cons (LitAt.dq nsy _ _ (hv8.same s9 fun _ z => z)) .nil)), d1, d2, d3, ?_⟩
    refine ⟨rfl, _, rfl, ?_⟩
    refine iteNS rfl ?_
    exact ⟨_, rfl, (A7.same s8).same s9, hv8.same s9 fun _ z => z, s9 _ _ (s8 _ _ ht7)⟩
  · rintro σ H7 ⟨u, rfl, A7, _, _⟩
    -- row
    intro v5 H9 s9 h9
    cases h9 with
    | @lst a5 vs5 _ e5 n5 r5 =>
    have A9 := A7.same s9
    have h5p : a5 ≠ p := by
      intro z
      obtain ⟨_, n0⟩ := n5
      obtain ⟨_, _, _, hpx, _⟩ := A7.pur
      rw [z, hpx] at n0
      cases n0
    refine ⟨_, rfl, _, rfl, p, 12, n + 1, rfl, A9.pur, by omega, by decide, by decide, fun r2' H10 r20 r21 s10 hp10 => ?_⟩
    have A10 := A9.draw s10 hp10
    have R5 : LitsAt (New H) H10 vs5 rowM := At.lits (m := n) hp0 A9 s10 (r5.same (Same.refl _) fun q z => A7.new q z)
    obtain ⟨k2, rfl⟩ : ∃ k2 : Nat, r2' = (k2 : Int) := ⟨r2'.toNat, by omega⟩
    obtain ⟨lr, hlr0, hlrp⟩ := all_get row_ok (i := k2) (by show k2 < 12; omega)
    rw [Bool.and_eq_true] at hlrp
    have lr' : rnkLit lr = false := by simpa using hlrp.1
    obtain ⟨vr, hvr0, hvr⟩ := R5.get hlr0
    refine ⟨a5, _, _, _, rfl, rfl, .inl (.inl (s10 _ _ h5p e5)), atI_nat hvr0, ?_⟩
    -- spot_at
    intro va Ha sa ha'
    have Aa := A10.same sa
    refine ⟨_, rfl, a, _, rfl, .inr (.inl Aa.mad), ?_⟩
    intro vb Hb sbb hb'
    have Ab := Aa.same sbb
    have lb := hb'.length
    refine ⟨by show (va :: _ :: vb).length ≤ sizeLine; rw [List.length_cons, List.length_cons, lb]; decide, fun c2 nc2 sy2 => ?_⟩
    have sc2 := Same.upd (o := .lst (va :: .int ((ns.map V.int).length : Nat) :: vb)) nc2
    have Ac := Ab.same sc2
    have hc2p : c2 ≠ p := by
      obtain ⟨_, _, _, hpx, _⟩ := Ab.pur
      intro z
      rw [z, hpx] at nc2
      cases nc2
    have hlm : (ns.map V.int).length = ns.length := List.length_map ..
    have Rs0 : LitsAt (New H) (L2.upd Hb c2 (.lst (va :: .int ((ns.map V.int).length : Nat) :: vb))) (va :: .int ((ns.map V.int).length : Nat) :: vb) (spotM (ns.length : Nat)) := by
      refine .cons (ha'.same (sbb.trans sc2) fun q z => A10.new q z) (.cons ?_ (hb'.same sc2 fun q z => Aa.new q z))
      rw [hlm]
      exact .int _
    refine ⟨_, rfl, p, 6, n + 1 + 1, rfl, Ac.pur, by omega, by decide, by decide, fun r3 H11 r30 r31 s11 hp11 => ?_⟩
    have A11 := Ac.draw s11 hp11
    have Rs : LitsAt (New H) H11 (va :: .int ((ns.map V.int).length : Nat) :: vb) (spotM (ns.length : Nat)) := At.lits (m := n) hp0 Ac s11 Rs0
    obtain ⟨k3, rfl⟩ : ∃ k3 : Nat, r3 = (k3 : Int) := ⟨r3.toNat, by omega⟩
    have hk3 : k3 < (spotM ((ns.length : Nat) : Int)).length := by show k3 < 6; omega
    obtain ⟨vs3, hvs0, hvs⟩ := Rs.get (List.getElem?_eq_getElem hk3)
    have T := told_ok
    have T1 := List.all_eq_true.mp T ns.length (List.mem_range.mpr (by omega))
    have T2 := List.all_eq_true.mp T1 lr (List.mem_of_getElem? hlr0)
    have T3 := List.all_eq_true.mp T2 _ (List.getElem_mem hk3)
    generalize hsl : (spotM ((ns.length : Nat) : Int))[k3] = sl at T3 hvs
    rw [Bool.and_eq_true] at T3
    obtain ⟨t1, t2, t3⟩ := okD_of T3.1
    have hb3 : btwL sl 0 ((ns.length : Int) - 1) = false := by simpa using T3.2
    refine ⟨c2, _, _, _, rfl, rfl, .inl (.inl (s11 _ _ hc2p upd_same)), atI_nat hvs0, ?_⟩
    have hvr11 : LitAt (New H) H11 vr lr := At.lit (m := n) hp0 Ac s11 (hvr.same (sa.trans (sbb.trans sc2)) fun _ z => z)
    have ir := hvr11.isRnk (K := K) (smallL_of hlrp.2)
    rw [lr'] at ir
    -- told
    refine ⟨_, rfl, 1, vr, .non, CR, "ranks", vr, rfl, .inr (.inl ⟨rfl, ir, rfl, rfl, rfl⟩), fun q1 H12 s12 nq1 sy1 hq1 => ?_⟩
    have A12 := A11.same s12
    have hvs12 := hvs.same s12 fun _ z => z
    have ib := hvs12.btw (K := K) 0 ((ns.length : Int) - 1)
    rw [hb3] at ib
    refine ⟨_, rfl, _, rfl, 2, .ref a, vs3, CN, "number", vs3, rfl, .inr (.inr ⟨rfl, ⟨a, ns, rfl, A12.mad, hl, ho, ib⟩, rfl, rfl, rfl⟩), fun q2 H13 s13 nq2 syq2 hq2 => ?_⟩
    refine ⟨by show 2 ≤ sizeLine; decide, fun q3 nq3 sy3 => ?_⟩
    have s14 : Same H13 (L2.upd H13 q3 (.lst [.ref q1, .ref q2])) := Same.upd nq3
    have hr14 := hvr11.same (s12.trans (s13.trans s14)) fun _ z => z
    have hs14 := hvs12.same (s13.trans s14) fun _ z => z
    have hq1' := s14 _ _ (s13 _ _ hq1)
    have hq2' := s14 _ _ hq2
    have A14 := (A12.same s13).same s14
    refine ⟨_, rfl, q3, toldD lr sl, rfl, .lst (.inl (.inl upd_same)) sy3 (.cons (.lst (.inl (.inl hq1')) sy1 (.cons (.str _) (.cons (LitAt.dq nsy _ _ hr14) .nil)))
      (.cons (.lst (.inl (.inl hq2')) syq2 (.cons (.str _) (.cons (LitAt.dq nsy _ _ hs14) .nil))) .nil)), t1, t2, t3, ?_⟩
    refine ⟨_, rfl, by show 2 ≤ sizeLine; decide, fun b1 nb1 syb1 => ?_⟩
    have s15 := Same.upd (o := .lst [.str "ranks", vr]) nb1
    refine ⟨_, rfl, by show 2 ≤ sizeLine; decide, fun b2 nb2 syb2 => ?_⟩
    have s16 := Same.upd (o := .lst [.str "number", vs3]) nb2
    refine ⟨by show 2 ≤ sizeLine; decide, fun b3 nb3 syb3 => ?_⟩
    have s17 := Same.upd (o := .lst [.ref b1, .ref b2]) nb3
    have hr17 := hr14.same (s15.trans (s16.trans s17)) fun _ z => z
    have hs17 := hs14.same (s15.trans (s16.trans s17)) fun _ z => z
    refine ⟨b3, toldD lr sl, rfl, .lst (.inl (.inl upd_same)) syb3 (.cons (.lst (.inl (.inl (s17 _ _ (s16 _ _ upd_same)))) syb1 (.cons (.str _) (.cons (LitAt.dq nsy _ _ hr17) .nil)))
      (.cons (.lst (.inl (.inl (s17 _ _ upd_same))) syb2 (.cons (.str _) (.cons (LitAt.dq nsy _ _ hs17) .nil))) .nil)), t1, t2, t3, ?_⟩
    refine ⟨rfl, ?_⟩
    have A17 := ((A14.same s15).same s16).same s17
    have e3 : n + 1 + 1 + 1 = n + 3 := by omega
    show Q (.bl (decide (V.str _ = V.str _))) _
    rw [dec_str]
    exact q _ A17.but (e3 ▸ A17.pur)
end
end Cy
namespace Cy
open PySem PySem.Spec PyProof.Rows L2
abbrev sRight : Stmt := top 29
def CalG (P : Program) (w : World) (K : PySem.W.Frag) (mg : Str → Option Value) (base : Heap) (k : Nat) (x : Str) (ps : List Str) (sp : Sp) : Prop :=
  ∃ f fd, FnG P w K mg base CX0 k f fd ps sp ∧ mg x = some (.ref f) ∧ PySem.W.keepIn K (.ref f) = true ∧ Binds K fd ps []
section
variable {X : Cx} {k : Nat} {x : Str} {ps : List Str} {sp : Sp} {p pos : Pos} {e : Expr} {es : List Expr} {t : TA}
theorem pe_calG (C : CalG X.prog X.w X.K X.mg X.base k x ps sp) (gu : X.A.guards = some []) (hr : Room k X.A) (hg : Gl X x) (ha : PA X (e :: es) t)
    (hdb : (x == ("__debug__" : Str)) = false := by decide)
    (he : starEach (e :: es) X.env = (false, eval e X.env) :: starEach es X.env := by rfl)
    (hpl : (backTo pos (starEach es X.env)).any (·.1) = false := by rfl) :
    PE X (.Call (.Name x p) (e :: es) [] pos) (fun σ H Q => t σ H fun vs H1 => sp vs H1 Q E0) := by
  obtain ⟨f, fd, F, hm, hk, hb⟩ := C
  exact pe_callG F gu hr hg hm hk hb ha hdb he hpl
end
section
variable {P : Program} {w : World} {K : PySem.W.Frag} {mg : Str → Option Value} {base : Heap}
theorem neT {H : Hp} {a b : Addr} {ns : List Int} {Q : VK} (h1 : Rd H a (.tup (ns.map V.int))) (h2 : Rd H b (.tup (ns.map V.int))) (q : Q (.bl false) H) : rNeD K (.ref a) (.ref b) H Q := by
  refine ⟨.tuple (ns.map PyData.int), .tuple (ns.map PyData.int), .tup (.inl h1) (dp_ints ns), .tup (.inl h2) (dp_ints ns), sh_tints _, sh_tints _, ?_⟩
  rw [eqv_tints, decide_eq_true rfl]
  exact q
theorem Tf.but {H H' : Hp} {p a : Addr} {xs zs : List V} (s : But p H H') (hp : H p = some (.lst zs)) (h : Tf H a xs) : Tf H' a xs := by
  obtain ⟨o, e, d⟩ := h
  refine ⟨o, s _ _ ?_ e, d⟩
  intro z
  subst z
  cases hp.symm.trans e
theorem zeros (n : Nat) : (List.replicate n [V.int 0]).flatten = (List.replicate n (0 : Int)).map V.int := by
  induction n with
  | zero => rfl
  | succ n ih =>
    rw [List.replicate_succ, List.flatten_cons, ih, List.replicate_succ, List.map_cons]
    rfl
theorem set_map (l : List Int) (i : Nat) (x : Int) : (l.map V.int).set i (.int x) = (l.set i x).map V.int := by
  rw [List.map_set]
def spRight : Sp := fun vs H Q _ => ∃ (p : Addr) (n : Int), vs = [.ref p] ∧ Purse H p n ∧ n ≤ 80000 ∧ ∀ H', But p H H' → Purse H' p (n + 50) → Q (.bl true) H'
theorem scRight : FnScope ["purse", "made", "row", "places", "spot_at", "wagon", "turned", "at", "spot", "rest", "due"] ["purse"] (defScope sRight) := ⟨rfl, rfl, rfl, by decide +kernel, rfl, by decide +kernel, by decide +kernel⟩
def swap2 : List V → List V
  | [a, b] => [b, a]
  | l => l
theorem ok_right {CO CR CN : Addr} {f : Addr} {fd : FuncData} (F : Fun K "_law_right" "_law_right" sRight f fd)
    (GD : Cal P w K mg base CX0 2 "_law_draw" ["purse", "out_of"] spDraw) (GL : Cal P w K mg base CX0 3 "_law_order" ["purse", "many"] spLOrder) (GK : Cal P w K mg base CX0 1 "_law_ranks" ["lot"] spLRanks)
    (GO : Cal P w K mg base CX0 2 "is_order" ["thing"] (spOrd K))
    (G0 : Cal P w K mg base (L2.CX P w) 4 "ranks_of" ["order"] (spRanks K CO)) (G1 : Cal P w K mg base (L2.CX P w) 5 "order_of" ["ranks"] (spOrderOf K CR))
    (G2 : Cal P w K mg base (L2.CX P w) 4 "left_out" ["order", "place"] (spLeft K CO CN)) (G3 : Cal P w K mg base (L2.CX P w) 4 "inverse" ["order"] (spInv K CO))
    (G4 : Cal P w K mg base (L2.CX P w) 5 "turned_about" ["order"] (spTrn K CO))
    (G0k : CalK P w K mg base (L2.CX P w) 4 "ranks_of" ["order"] ["order"] (fun zs => zs) (spRanks K CO)) (G1k : CalK P w K mg base (L2.CX P w) 5 "order_of" ["ranks"] ["ranks"] (fun zs => zs) (spOrderOf K CR))
    (G2k : CalK P w K mg base (L2.CX P w) 4 "left_out" ["order", "place"] ["place", "order"] swap2 (spLeft K CO CN)) (G3k : CalK P w K mg base (L2.CX P w) 4 "inverse" ["order"] ["order"] (fun zs => zs) (spInv K CO))
    (G4k : CalK P w K mg base (L2.CX P w) 5 "turned_about" ["order"] ["order"] (fun zs => zs) (spTrn K CO))
    (GG : CalG P w K mg base 8 "_law_doors_right" ["purse", "made"] spDoors)
    (mt : mg "tuple" = none) (mn : mg "len" = none) (mr : mg "range" = none) (me : mg "enumerate" = none) (mm : mg "min" = none) (mi : mg "int" = none) :
    FnG P w K mg base CX0 10 f fd ["purse"] spRight := by
  refine okG F scRight ?_ ?_
  · rintro vs H Q E ⟨p, n, rfl, _⟩
    rfl
  rintro cdv A outer s H vs Q E gu hr ⟨p, n, rfl, hp, hn, q⟩
  have hr1 : Room 1 _ := hr.mono (by decide)
  have hr2 : Room 2 _ := hr.mono (by decide)
  have hr3 : Room 3 _ := hr.mono (by decide)
  have hr4 : Room 4 _ := hr.mono (by decide)
  have hr5 : Room 5 _ := hr.mono (by decide)
  refine ⟨_, pss_cons (ps_set (i := 1) scRight.nd rfl (Or.inr rfl) (pe_cal GL hr3 pass0 (by rfl) (pa_cons (pv 0) (pa_cons (pe_cal GD hr2 pass0 (by rfl) (pa_cons (pv 0) (pa_cons pe_int pa_nil))) pa_nil))))
    (pss_cons (ps_set (i := 2) scRight.nd rfl (Or.inl rfl) (pe_cal GK hr1 pass0 (by rfl) (pa_cons (pv 1) pa_nil)))
    (pss_cons (ps_if (PW.pt (pw_or (pt_cmpR op_notBl (pe_cal GO hr2 pass0 (by rfl) (pa_cons (pv 1) pa_nil)) pe_bl (nomark _)) (pw_or (pt_cmpR (op_neD hr.units) (pe_cal G0 hr4 passL (by rfl) (pa_cons (pv 1) pa_nil)) (pv 2) (nomark _))
      (pw_or1 (pt_cmpR (op_neD hr.units) (pe_calK G0k hr4 passL (by rfl) (pk_cons (pv 1) pk_nil)) (pv 2) (nomark _)))))) (pss_one (ps_ret pe_bl)) pss_nil)
    (pss_cons (ps_if (PW.pt (pw_or (pt_cmpR (op_neD hr.units) (pe_cal G1 hr5 passL (by rfl) (pa_cons (pv 2) pa_nil)) (pv 1) (nomark _))
      (pw_or1 (pt_cmpR (op_neD hr.units) (pe_calK G1k hr5 passL (by rfl) (pk_cons (pv 2) pk_nil)) (pv 1) (nomark _))))) (pss_one (ps_ret pe_bl)) pss_nil)
    (pss_cons (ps_set (i := 3) scRight.nd rfl (Or.inl rfl) (pe_op op_rep (pe_lst (pa_cons pe_int pa_nil)) (pe_callB call_len_seq (by rfl) mn PySem.boot_len (pa_cons (pv 1) pa_nil))))
    (pss_cons (ps_for PassesOwn.never rfl (pi_enumT (by rfl) me (pa_cons (pv 1) pa_nil)) (pg_tup rfl (pgs_cons (pg_name (i := 4) scRight.nd rfl (Or.inl rfl)) (pgs_cons (pg_name (i := 5) scRight.nd rfl (Or.inl rfl)) pgs_nil)))
      (pss_one (ps_asg (pe_op op_add (pv 4) pe_int) (pg_sub (pv 3) (pe_op op_sub (pv 5) pe_int) set_list))))
    (pss_cons (ps_if (PW.pt (pw_or (pt_cmpR (op_neD hr.units) (pe_cal G3 hr4 passL (by rfl) (pa_cons (pv 1) pa_nil)) (pe_callTy call_tupleF (by rfl) mt (by decide +kernel) (pa_cons (pv 3) pa_nil)) (nomark _))
      (pw_or1 (pt_cmpR (op_neD hr.units) (pe_calK G3k hr4 passL (by rfl) (pk_cons (pe_cal G3 hr4 passL (by rfl) (pa_cons (pv 1) pa_nil)) pk_nil)) (pv 1) (nomark _))))) (pss_one (ps_ret pe_bl)) pss_nil)
    (pss_cons (ps_set (i := 6) scRight.nd rfl (Or.inl rfl) (pe_callTy call_tupleF (by rfl) mt (by decide +kernel) (pa_cons (pe_lc (own := [("spot_at", 4)]) (g := gName 4) rfl scRight.nd (pi_list (pe_revL (pv 3)))
      (blkOk_by (own := [("spot_at", 4)]) (N := ["purse", "made", "row", "places", "spot_at", "wagon", "turned", "at", "spot", "rest", "due"]) (sc := defScope sRight) (by decide +kernel))
      (fun _ _ _ _ _ => pg_name (i := 4) scRight.nd rfl (Or.inl rfl)) (fun _ _ _ _ _ => pts_nil)
      (fun _ _ _ _ _ => pe_op op_sub (pe_op op_add (pe_callB (r := rLen K) call_lenK (by rfl) mn PySem.boot_len (pa_cons (pv 1) pa_nil)) pe_int) (pv 4))) pa_nil)))
    (pss_cons (ps_if (PW.pt (pw_or (pt_cmpR (op_neD hr.units) (pe_cal G4 hr5 passL (by rfl) (pa_cons (pv 1) pa_nil)) (pv 6) (nomark _))
      (pw_or1 (pt_cmpR (op_neD hr.units) (pe_calK G4k hr5 passL (by rfl) (pk_cons (pv 6) pk_nil)) (pv 1) (nomark _))))) (pss_one (ps_ret pe_bl)) pss_nil)
    (pss_cons (ps_for PassesOwn.never rfl (pi_range1 (by rfl) mr (pa_cons (pe_callB (call_min2 rfl) (by rfl) mm (by decide +kernel) (pa_cons pe_int (pa_cons (pe_callB call_len_seq (by rfl) mn PySem.boot_len (pa_cons (pv 1) pa_nil)) pa_nil))) pa_nil))
      (pg_name (i := 7) scRight.nd rfl (Or.inl rfl))
      (pss_cons (ps_set (i := 8) scRight.nd rfl (Or.inr rfl) (pe_cal GD hr2 pass0 (by rfl) (pa_cons (pv 0) (pa_cons (pe_callB call_len_seq (by rfl) mn PySem.boot_len (pa_cons (pv 1) pa_nil)) pa_nil))))
      (pss_cons (ps_set (i := 9) scRight.nd rfl (Or.inl rfl) (pe_op op_catA (pe_slice sl_tupA (pv 1) po_none (po_some (pv 8))) (pe_slice sl_tupA (pv 1) (po_some (pe_op op_add (pv 8) pe_int)) po_none)))
      (pss_cons (ps_set (i := 10) scRight.nd rfl (Or.inl rfl) (pe_callTy call_tupleF (by rfl) mt (by decide +kernel) (pa_cons (pe_lc (own := [("wagon", 5)]) (g := gName 5) rfl scRight.nd (pi_tup (pv 9))
        (blkOk_by (own := [("wagon", 5)]) (N := ["purse", "made", "row", "places", "spot_at", "wagon", "turned", "at", "spot", "rest", "due"]) (sc := defScope sRight) (by decide +kernel))
        (fun _ _ _ _ _ => pg_name (i := 5) scRight.nd rfl (Or.inl rfl)) (fun _ _ _ _ _ => pts_nil)
        (fun _ _ _ _ _ => pe_op op_sub (pv 5) (pe_callTy call_int1 (by rfl) mi (by decide +kernel) (pa_cons (pe_cmpR op_gt (pv 5) (pe_ix (r := rIxT K) ix_tup (pv 1) (pv 8) (fun _ _ => rfl)) (nomark _)) pa_nil)))) pa_nil)))
      (pss_one (ps_if (PW.pt (pw_or (pt_cmpR (op_neD hr.units) (pe_cal G2 hr4 passL (by rfl) (pa_cons (pv 1) (pa_cons (pv 8) pa_nil))) (pv 10) (nomark _))
        (pw_or1 (pt_cmpR (op_neD hr.units) (pe_calK G2k hr4 passL (by rfl) (pk_cons (pv 8) (pk_cons (pv 1) pk_nil))) (pv 10) (nomark _))))) (pss_one (ps_ret pe_bl)) pss_nil))))))
    (pss_one (ps_ret (pe_calG GG gu (hr.mono (by decide)) (by rfl) (pa_cons (pv 0) (pa_cons (pv 1) pa_nil)))))))))))))), ?_⟩
  have nfz : ∀ {H0 H1 : Hp} {t : Addr} {xs : List V}, Tf H0 t xs → Same H0 H1 → Tf H1 t xs := fun h s => Tf.same s h
  -- made
  refine ⟨_, rfl, _, rfl, p, 41, n, rfl, hp, by omega, by decide, by decide, fun r0 H1 r00 r01 s1 hp1 => ?_⟩
  obtain ⟨m, rfl⟩ : ∃ m : Nat, r0 = (m : Int) := ⟨r0.toNat, by omega⟩
  refine ⟨p, m, n + 1, rfl, hp1, by omega, by omega, fun a ns H2 hlen ho s2 na ha hp2 => ?_⟩
  have hlm : (ns.map V.int).length = ns.length := List.length_map ..
  have hl40 : ns.length ≤ 40 := by omega
  have b2 : But p H H2 := s1.trans s2
  -- row
  refine ⟨_, rfl, a, ns, rfl, ha.rd, hl40, fun b H3 s3 nb hb => ?_⟩
  have ha3 := Tf.same s3 ha
  -- is_order, ranks_of
  refine ⟨_, rfl, .ref a, ordB ns, rfl, IsOrd.ints ha3.rd (by omega), fun H4 s4 => ?_⟩
  rw [ordB_iff.mpr ho]
  refine ⟨_, _, rfl, rfl, _, rfl, ?_⟩
  refine iteF ?_
  have ha4 := Tf.same s4 ha3
  have hb4 := Tf.same s4 hb
  refine ⟨_, rfl, .ref a, rfl, .inl ⟨a, ns, rfl, ha4.rd, hl40, ho, fun c H5 s5 nc hc => ?_⟩⟩
  refine ⟨_, rfl, ?_⟩
  refine neT (K := K) hc.rd (Tf.same s5 hb4).rd ⟨_, rfl, ?_⟩
  refine iteF ?_
  have ha5 := Tf.same s5 ha4
  have hb5 := Tf.same s5 hb4
  refine ⟨_, rfl, rfl, .ref a, rfl, .inl ⟨a, ns, rfl, ha5.rd, hl40, ho, fun c6 H6 s6 nc6 hc6 => ?_⟩⟩
  refine ⟨_, rfl, ?_⟩
  refine neT (K := K) hc6.rd (Tf.same s6 hb5).rd ⟨_, rfl, ?_⟩
  refine iteF ?_
  have ha6 := Tf.same s6 ha5
  have hb6 := Tf.same s6 hb5
  -- order_of
  have eo : goOrd (iota (ranks ns).length) (ranks ns) = ns := by rw [ranks_length]; exact order_ranks ho
  have rok : RksOk (ranks ns) := fun i x hx => by
    have := ranks_ok ns i x hx
    rw [ranks_length]
    exact this
  have hr40 : (ranks ns).length ≤ 40 := by rw [ranks_length]; exact hl40
  refine ⟨_, rfl, .ref b, rfl, .inl ⟨b, ranks ns, rfl, hb6.rd, hr40, rok, fun c7 H7 s7 nc7 hc7 => ?_⟩⟩
  rw [eo] at hc7
  refine ⟨_, rfl, ?_⟩
  have ha7 := Tf.same s7 ha6
  have hb7 := Tf.same s7 hb6
  refine neT (K := K) hc7.rd ha7.rd ⟨_, rfl, ?_⟩
  refine iteF ?_
  refine ⟨_, rfl, rfl, .ref b, rfl, .inl ⟨b, ranks ns, rfl, hb7.rd, hr40, rok, fun c8 H8 s8 nc8 hc8 => ?_⟩⟩
  rw [eo] at hc8
  refine ⟨_, rfl, ?_⟩
  have ha8 := Tf.same s8 ha7
  refine neT (K := K) hc8.rd ha8.rd ⟨_, rfl, ?_⟩
  refine iteF ?_
  have S8 : Same H2 H8 := s3.trans (s4.trans (s5.trans (s6.trans (s7.trans s8))))
  -- places
  refine ⟨by show 1 ≤ sizeLine; decide, fun z nz => ?_⟩
  have sz : Same H8 (L2.upd H8 z (.lst [.int 0])) := Same.upd nz
  refine ⟨_, rfl, a, _, rfl, .inr (.inl (Tf.same sz ha8).rd), ?_⟩
  refine ⟨z, _, _, rfl, rfl, upd_same, by omega, by rw [hlm]; omega, ?_, fun D nD => ?_⟩
  · rw [hlm]
    exact Nat.le_trans (by show 1 * _ ≤ 1000; omega) (by decide)
  rw [hlm, Int.toNat_natCast, zeros]
  have h9 : H8 D = none := sz.free nD
  have s9 : Same H8 (L2.upd (L2.upd H8 z (.lst [.int 0])) D (.lst ((List.replicate ns.length (0 : Int)).map V.int))) := sz.trans (Same.upd nD)
  refine ⟨_, rfl, a, _, rfl, .inl (Tf.same s9 ha8).rd, ?_⟩
  refine for_enumT (K := K) (a := a) (xs := ns.map V.int) (fun i σ Hx => ∃ (v u : Option V) (ps : List Int), σ = [some (.ref p), some (.ref a), some (.ref b), some (.ref D), v, u, none, none, none, none, none] ∧
      Same H8 Hx ∧ Hx D = some (.lst (ps.map V.int)) ∧ ps.length = ns.length ∧ ∀ (j : Nat) (y : Int), j < i → ns[j]? = some y → ps[(y - 1).toNat]? = some ((j : Int) + 1))
    ⟨none, none, List.replicate ns.length 0, rfl, s9, upd_same, by simp, fun j y hj => absurd hj (Nat.not_lt_zero _)⟩
    (fun i σ Hx _ h => let ⟨_, _, _, _, sx, _⟩ := h; .inl (Tf.same sx ha8).rd) ?_ ?_
  · rintro i x T σ Hx hi ⟨v, u, ps, rfl, sx, hD, hpl, hps⟩ nT
    obtain ⟨y, hy, rfl⟩ := map_get hi
    obtain ⟨y1, y2, _⟩ := inv_at ho hy
    have nDT : D ≠ T := ne_of_none hD nT
    refine ⟨T, _, rfl, .inl (.inl upd_same), rfl, _, _, rfl, _, _, rfl, rfl, ?_⟩
    refine ⟨_, rfl, _, _, rfl, rfl, _, rfl, _, rfl, _, _, rfl, rfl, ?_⟩
    refine ⟨D, ps.map V.int, _, (y - 1).toNat, rfl, rfl, by rw [upd_ne nDT]; exact hD, ?_, ?_⟩
    · rw [List.length_map]
      unfold ixN
      rw [if_pos (by omega : 0 ≤ y - 1), if_pos (by omega : y - 1 < (ps.length : Int))]
    · refine ⟨_, _, ps.set (y - 1).toNat ((i : Int) + 1), rfl, ?_, ?_, ?_, ?_⟩
      · have s' := sx.trans (Same.upd (o := .tup [.int (i : Nat), .int y]) nT)
        exact Same.put h9 s'
      · rw [upd_same, set_map]
      · rw [List.length_set]
        exact hpl
      · intro j w hj hw
        by_cases hji : j = i
        · subst hji
          rw [hy] at hw
          cases hw
          rw [List.getElem?_set_self (by omega)]
        · have old := hps j w (by omega) hw
          obtain ⟨w1, w2, _⟩ := inv_at ho hw
          have ne : (y - 1).toNat ≠ (w - 1).toNat := by
            intro z2
            have e : y = w := by omega
            subst e
            obtain ⟨l1, e1⟩ := List.getElem?_eq_some_iff.mp hy
            obtain ⟨l2, e2⟩ := List.getElem?_eq_some_iff.mp hw
            have i1 := ho.nodup.idxOf_getElem i l1
            have i2 := ho.nodup.idxOf_getElem j l2
            rw [e1] at i1
            rw [e2] at i2
            omega
          rw [List.getElem?_set_ne ne]
          exact old
  rintro σ Hx ⟨v4, u5, ps, rfl, sx, hD, hpl, hps⟩
  have epl : ps = inv ns := places_done ho hpl fun j y hy => hps j y (by
    have := (List.getElem?_eq_some_iff.mp hy).1
    rw [hlm]
    exact this) hy
  subst epl
  have hax := Tf.same sx ha8
  -- inverse
  refine ⟨_, rfl, .ref a, rfl, .inl ⟨a, ns, rfl, hax, hl40, ho, fun d1 Hy1 t1 nd1 hd1 => ?_⟩⟩
  refine ⟨_, rfl, D, _, rfl, .inl (.inl (t1 _ _ hD)), fun d2 o2 nd2 ho2 => ?_⟩
  have t2 := Same.upd (o := .frz o2 (.tup ((inv ns).map V.int))) nd2
  refine neT (K := K) (Tf.same t2 hd1).rd (.inr ⟨o2, upd_same⟩) ⟨_, rfl, ?_⟩
  refine iteF ?_
  have ha2 := Tf.same t2 (Tf.same t1 hax)
  refine ⟨_, rfl, .ref a, rfl, .inl ⟨a, ns, rfl, ha2, hl40, ho, fun d3 Hy3 t3 nd3 hd3 => ?_⟩⟩
  refine ⟨rfl, .ref d3, rfl, .inl ⟨d3, inv ns, rfl, hd3, by rw [inv_length]; exact hl40, inv_ord ho, fun d4 Hy4 t4 nd4 hd4 => ?_⟩⟩
  rw [inv_inv ho] at hd4
  refine ⟨_, rfl, ?_⟩
  have ha4' := Tf.same t4 (Tf.same t3 ha2)
  refine neT (K := K) hd4.rd ha4'.rd ⟨_, rfl, ?_⟩
  refine iteF ?_
  have Sy : Same Hx Hy4 := t1.trans (t2.trans (t3.trans t4))
  have hDy := Sy _ _ hD
  -- turned
  refine ⟨_, rfl, D, _, rfl, .inl (.inl hDy), fun e1 ne1 => ?_⟩
  have u1 := Same.upd (o := .lst ((inv ns).map V.int).reverse) ne1
  refine ⟨e1, rfl, ⟨_, .inl (.inl upd_same)⟩, fun L nL => ?_⟩
  rw [← List.map_reverse]
  have hlr : ((inv ns).reverse.map V.int).length = ns.length := by rw [List.length_map, List.length_reverse, inv_length]
  have he1 : (L2.upd Hy4 e1 (.lst ((inv ns).reverse.map V.int))) e1 = some (.lst ((inv ns).reverse.map V.int)) := upd_same
  have u1' := Same.upd (o := .lst ((inv ns).reverse.map V.int)) ne1
  have nL' : (L2.upd Hy4 e1 (.lst ((inv ns).reverse.map V.int))) L = none := by
    rw [List.map_reverse]
    exact nL
  have u2 := Same.upd (o := .lst []) nL'
  have fL : Hy4 L = none := u1'.free nL'
  refine lc_list (K := K) (a := e1) (xs := (inv ns).reverse.map V.int) (fun i Hz => Same Hy4 Hz ∧ Hz e1 = some (.lst ((inv ns).reverse.map V.int)) ∧ Hz L = some (.lst (((trn ns).take i).map V.int)))
    ⟨u1'.trans u2, u2 _ _ he1, upd_same⟩ (fun i Hz _ ⟨_, h, _⟩ => .inl (.inl h)) ?_ ?_
  · rintro i x Hz hi ⟨sz', hz1, hz2⟩
    obtain ⟨y, hy, rfl⟩ := map_get hi
    have ht : (trn ns)[i]? = some ((ns.length : Int) + 1 - y) := by
      unfold trn
      rw [List.getElem?_map, hy]
      rfl
    have hit : i < ns.length := by
      have := (List.getElem?_eq_some_iff.mp ht).1
      rwa [trn_length] at this
    refine ⟨rfl, ?_⟩
    show tOp (rI0 fun i j => .int (i - j)) (tOp (rI0 fun i j => .int (i + j)) (tCB (rLen K) (tCons (tVar 1) tNil)) (tC (.int 1))) (tVar 4) _ _ _
    refine ⟨_, rfl, a, _, rfl, .inr (.inl (Tf.same sz' ha4').rd), _, _, rfl, rfl, _, rfl, _, _, rfl, rfl, _, hz2, ?_, Same.put fL sz', ?_, ?_⟩
    · rw [List.length_map, List.length_take, trn_length]
      exact small1000 (by omega)
    · have nLe : e1 ≠ L := ne_of_none he1 nL'
      rw [upd_ne nLe]
      exact hz1
    · rw [upd_same, List.take_add_one, ht, List.map_append, hlm]
      rfl
  rintro Hz ⟨sz', hz1, hz2⟩
  rw [hlr, ← trn_length ns, List.take_length] at hz2
  refine ⟨L, _, rfl, .inl (.inl hz2), fun td o3 ntd ho3 => ?_⟩
  have u3 := Same.upd (o := .frz o3 (.tup ((trn ns).map V.int))) ntd
  have htd : Tf (L2.upd Hz td (.frz o3 (.tup ((trn ns).map V.int)))) td ((trn ns).map V.int) := ⟨o3, upd_same, ho3⟩
  have ha9 := Tf.same u3 (Tf.same sz' ha4')
  -- turned_about
  refine ⟨_, rfl, .ref a, rfl, .inl ⟨a, ns, rfl, ha9, hl40, ho, fun f1 Hf1 w1 nf1 hf1 => ?_⟩⟩
  refine ⟨_, rfl, ?_⟩
  have htd1 := Tf.same w1 htd
  refine neT (K := K) hf1.rd htd1.rd ⟨_, rfl, ?_⟩
  refine iteF ?_
  refine ⟨_, rfl, rfl, .ref td, rfl, .inl ⟨td, trn ns, rfl, htd1, by rw [trn_length]; exact hl40, trn_ord ho, fun f2 Hf2 w2 nf2 hf2 => ?_⟩⟩
  rw [trn_trn ho] at hf2
  refine ⟨_, rfl, ?_⟩
  have haf := Tf.same w2 (Tf.same w1 ha9)
  refine neT (K := K) hf2.rd haf.rd ⟨_, rfl, ?_⟩
  refine iteF ?_
  have Sf : Same H2 Hf2 := S8.trans (sx.trans (Sy.trans (sz'.trans (u3.trans (w1.trans w2)))))
  have bf : But p H Hf2 := b2.trans (Same.but Sf)
  have hpf := hp2.same Sf
  -- left out
  refine ⟨_, rfl, a, _, rfl, .inr (.inl haf.rd), ?_⟩
  rw [hlm]
  refine ⟨_, _, rfl, ?_⟩
  refine ⟨_, rfl, ?_, ?_, ?_⟩
  · split <;> omega
  · split <;> omega
  refine for_range (lo := 0) (n := (if (((ns.length : Nat) : Int) < 3) then ((ns.length : Nat) : Int) else 3).toNat) (fun i σ Hg => ∃ (v7 v8 v9 v10 : Option V), σ = [some (.ref p), some (.ref a), some (.ref b), some (.ref D), v4, u5, some (.ref td), v7, v8, v9, v10] ∧
      But p H Hg ∧ Purse Hg p (n + 42 + (i : Nat)) ∧ Tf Hg a (ns.map V.int))
    ⟨none, none, none, none, rfl, bf, by
      have e : n + 1 + 41 = n + 42 + ((0 : Nat) : Int) := by omega
      rw [← e]
      exact hpf, haf⟩ ?_ ?_
  · rintro i σ Hg hi ⟨v7, v8, v9, v10, rfl, bg, hpg, hag⟩
    have hi3 : i < 3 ∧ i < ns.length := by
      split at hi <;> omega
    refine ⟨_, rfl, _, rfl, a, _, rfl, .inr (.inl hag.rd), ?_⟩
    rw [hlm]
    refine ⟨p, (ns.length : Nat), n + 42 + (i : Nat), rfl, hpg, by omega, by omega, by omega, fun rr Hh rr0 rr1 x1 hph => ?_⟩
    obtain ⟨k, rfl⟩ : ∃ k : Nat, rr = (k : Int) := ⟨rr.toNat, by omega⟩
    obtain ⟨_, _, _, hpq, _⟩ := id hpg
    have hah := Tf.but x1 hpq hag
    have hk2 : k < ns.length := by omega
    have hkg : ns[k]? = some ns[k] := List.getElem?_eq_getElem hk2
    have hgv : (ns.map V.int)[k]? = some (.int ns[k]) := by rw [List.getElem?_map, hkg]; rfl
    -- rest
    refine ⟨_, rfl, ?_⟩
    dsimp only [tNoPart]
    refine ⟨_, rfl, _, rfl, ?_⟩
    refine slA (K := K) hah.rd ?_
    intro p1 Hi y1 hp1'
    refine ⟨_, rfl, _, rfl, _, _, rfl, rfl, _, rfl, ?_⟩
    dsimp only [tNoPart]
    refine slA (K := K) (Tf.same y1 hah).rd ?_
    intro p2 Hj y2 hp2'
    rw [cut_to, ← List.map_take] at hp1'
    have e1' : cutV (ns.map V.int) (some ((k : Int) + 1)) none = (ns.drop (k + 1)).map V.int := by
      have := cut_from (ns.map V.int) (k + 1)
      rw [List.map_drop, ← this]
      rfl
    rw [e1'] at hp2'
    refine catA (K := K) (Rd.same y2 hp1') hp2' ?_ ?_
    · rw [List.length_map, List.length_map, List.length_take, List.length_drop]
      exact Nat.le_trans (by omega : _ ≤ 1000) (by decide)
    intro p3 Hk y3 hp3'
    rw [← List.map_append] at hp3'
    have hak := Tf.same y3 (Tf.same y2 (Tf.same y1 hah))
    -- due
    refine ⟨_, rfl, p3, rfl, ⟨_, .inl hp3'⟩, fun W nW => ?_⟩
    have hR : ((ns.take k ++ ns.drop (k + 1)).map V.int).length = (ns.take k ++ ns.drop (k + 1)).length := List.length_map ..
    refine lc_tup (K := K) (a := p3) (xs := (ns.take k ++ ns.drop (k + 1)).map V.int) (fun i H5 => Same Hk H5 ∧ H5 W = some (.lst ((lessened ns[k] ((ns.take k ++ ns.drop (k + 1)).take i)).map V.int)))
      ⟨Same.upd nW, upd_same⟩ (fun i H5 _ ⟨s5, _⟩ => .inl (Rd.same s5 hp3')) ?_ ?_
    · rintro j v H5 hj ⟨s5, hd5⟩
      obtain ⟨w, hw, rfl⟩ := map_get hj
      have et : (ns.take k ++ ns.drop (k + 1)).take (j + 1) = (ns.take k ++ ns.drop (k + 1)).take j ++ [w] := by
        rw [List.take_add_one, hw]
        rfl
      have hs : ((lessened ns[k] ((ns.take k ++ ns.drop (k + 1)).take j)).map V.int).length < sizeLine := by
        unfold lessened
        rw [List.length_map, List.length_map, List.length_take, List.length_append, List.length_take, List.length_drop]
        exact small1000 (by omega)
      refine ⟨rfl, ?_⟩
      refine ⟨_, rfl, _, rfl, _, rfl, _, rfl, a, _, _, _, rfl, rfl, .inl (Tf.same s5 hak).rd, atI_nat hgv, ?_⟩
      refine ⟨_, _, rfl, rfl, .inr ⟨_, rfl, ?_⟩⟩
      refine ⟨_, _, rfl, rfl, _, hd5, hs, Same.put nW s5, ?_⟩
      rw [upd_same, et]
      unfold lessened
      rw [List.map_append, List.map_append, List.map_singleton]
      by_cases hlt : w > ns[k]
      · rw [decide_eq_true hlt, if_pos hlt]
        rfl
      · rw [decide_eq_false hlt, if_neg hlt]
        show some (HO.lst (_ ++ [V.int (w - 0)])) = _
        rw [Int.sub_zero]
        rfl
    rintro H5 ⟨s5, hd5⟩
    rw [hR, List.take_length] at hd5
    refine ⟨W, _, rfl, .inl (.inl hd5), fun dd od ndd hod => ?_⟩
    have s6' := Same.upd (o := .frz od (.tup ((lessened ns[k] (ns.take k ++ ns.drop (k + 1))).map V.int))) ndd
    have ha7' := Tf.same s6' (Tf.same s5 hak)
    -- left_out
    refine ⟨_, rfl, _, rfl, .ref a, .int (k : Nat), rfl, .inl ⟨a, ns, rfl, ha7'.rd, hl40, ho, .inl ⟨k, ns[k], rfl, hkg, fun g1 Hm z1 ng1 hg1 => ?_⟩⟩⟩
    refine ⟨_, rfl, ?_⟩
    refine neT (K := K) hg1.rd (.inr ⟨od, z1 _ _ upd_same⟩) ⟨_, rfl, ?_⟩
    refine iteF ?_
    have ha8' := Tf.same z1 ha7'
    refine ⟨_, rfl, _, rfl, rfl, .ref a, .int (k : Nat), rfl, .inl ⟨a, ns, rfl, ha8'.rd, hl40, ho, .inl ⟨k, ns[k], rfl, hkg, fun g2 Hn z2 ng2 hg2 => ?_⟩⟩⟩
    refine ⟨_, rfl, ?_⟩
    refine neT (K := K) hg2.rd (.inr ⟨od, z2 _ _ (z1 _ _ upd_same)⟩) ⟨_, rfl, ?_⟩
    refine iteF ?_
    have Sn : Same Hh Hn := y1.trans (y2.trans (y3.trans (s5.trans (s6'.trans (z1.trans z2)))))
    refine ⟨_, _, _, _, rfl, (bg.trans x1).trans (Same.but Sn), ?_, Tf.same z2 ha8'⟩
    have e : n + 42 + (i : Nat) + 1 = n + 42 + ((i + 1 : Nat) : Int) := by omega
    rw [← e]
    exact hph.same Sn
  -- the doors
  rintro σ Hg ⟨v7, v8, v9, v10, rfl, bg, hpg, hag⟩
  have hpg2 : Purse Hg p (n + 45) := hpg.mono (by split <;> omega)
  refine ⟨_, rfl, _, rfl, p, a, ns, n + 45, rfl, hpg2, by omega, hag.rd, hl40, ho, fun Hh x1 hph => ?_⟩
  exact q _ (bg.trans x1) (hph.mono (by omega))
end
end Cy
/-! ### the end of a law whose defs lean on «no repr is under way» -/
namespace Cy
open PySem PySem.Spec PyProof.Rows L2
section
variable {P : Program} {w : World} {K : PySem.W.Frag} {mg mb : Str → Option Value} {k : Nat} {fa a : Addr} {fd : FuncData} {x : Str} {sp : Sp} {s : Shared} {vs : List Value} {ns : List Int}
/-- what a law's call hands back -/
def LawEnd (s : Shared) (r : Result) (s' : Shared) : Prop := r = .ok (.ret (.bool true)) ∧ OldK s.heap s'.heap ∧ s'.os = s.os ∧ AllBare s'.gens
/-- the heap H tracks nothing but the script at a, if that -/
structure Lone (H : Hp) (a : Addr) (K : PySem.W.Frag) : Prop where
  only : Only H
  at_ : ∀ b, H b ≠ none → b = a
  out : H a ≠ none → K.lookup a = none
theorem law_core (KX : K.In s.heap) (hns : s.heap.Ns mainGlobals mg) (hb : s.heap.Ns builtinsNs mb)
    (hbb : ∀ y : Str, y ≠ "__name__" → mb y = bootBuiltins y) (hlim : s.heap.NoLimit) (hg : s.gens = #[])
    (ha : s.heap.get? a = some { cls := .type "list", data := .seq vs.toArray }) (hr : Room k callerA)
    (F : ∀ base : Heap, K.In base → base.Ns mainGlobals mg → FnG P w K mg base CX0 k fa fd [x] sp)
    (hbind : ∀ (s : Shared) (u : Value), BindsTo s fd ⟨[u], []⟩ [(x, u)])
    {H : Hp} (lone : Lone H a K) (hS : SqL K H a (ns.map V.int)) (hok : HOk P w H s.heap) (hsp : sp [.ref a] H (fun v _ => v = .bl true) E0) :
    codeAny (model P w) callerA (.call (.ref fa) ⟨[.ref a], []⟩) (LawEnd s) s := by
  have low : ∀ {b : Addr} {o : Obj}, s.heap.get? b = some o → H b = none → (hidT s.heap H).get? b = some o := fun e n => hidT_get e n
  have free : ∀ {b : Addr} {o : Obj} {es : Array DictEntry} {ep : Nat}, s.heap.get? b = some o → o.data = .dict es ep → H b = none := by
    intro b o es ep e d
    cases q : H b with
    | none => rfl
    | some u =>
      have hba := lone.at_ b (by rw [q]; simp)
      rw [hba, ha] at e
      cases e
      have d2 : Data.seq vs.toArray _ = Data.dict es ep := d
      cases d2
  have nsL : ∀ {b : Addr} {m : Str → Option Value}, s.heap.Ns b m → (hidT s.heap H).Ns b m := by
    rintro b m ⟨o, es, ep, e, d, r⟩
    exact ⟨o, es, ep, low e (free e d), d, r⟩
  have kin : K.In (hidT s.heap H) := by
    intro b o e
    refine low (KX b o e) ?_
    cases q : H b with
    | none => rfl
    | some u =>
      have hba := lone.at_ b (by rw [q]; simp)
      rw [hba] at e q
      rw [lone.out (by rw [q]; simp)] at e
      cases e
  have hM : Mod K mg (hidT s.heap H) := by
    obtain ⟨mc, h1, h2⟩ := hlim
    exact ⟨kin, nsL hns, ⟨mb, nsL hb, hbb⟩, ⟨mc, nsL h1, h2⟩⟩
  have e0 : Env0 P w K mg (hidT s.heap H) callerA [] s H := {
    frames := rfl
    mod := hM
    bs := fun b o e => of_hidT e
    bsz := Nat.le_of_eq (hidT_size _ _)
    funs := trivial
    frf := fun b hb => nomatch hb
    hok := hok
    bare := .of_eq hg }
  have run := (F _ kin (nsL hns)).run callerA [] s H ⟨[.ref a], []⟩ [.ref a] [.ref a] _ _ rfl hr e0 (hbind s (.ref a)) (.cons rfl .nil) hsp
  refine codeAny_mono run ?_
  intro r s' h
  match r, h with
  | .error e, h => exact h.elim
  | .ok .next, h => exact h.elim
  | .ok .brk, h => exact h.elim
  | .ok .cont, h => exact h.elim
  | .ok (.ret u), ⟨v, H', os, bare, un, hok', r', q⟩ =>
    have q' : v = .bl true := q
    subst q'
    cases (show u = Value.bool true from r')
    refine ⟨rfl, OldK.of_keep ?_, os, bare⟩
    intro b o e
    rcases lone.only b with z | ⟨ob, xs, z⟩
    · exact un.keep b o e z (fun y => nomatch y) (fun y => nomatch y)
    · obtain ⟨e1, _⟩ := hok b _ z
      obtain ⟨e2, _⟩ := hok' b _ (un.frzs b ob _ z)
      rw [e] at e1
      cases e1
      exact e2
theorem law_callG (KX : K.In s.heap) (hns : s.heap.Ns mainGlobals mg) (hb : s.heap.Ns builtinsNs mb)
    (hbb : ∀ y : Str, y ≠ "__name__" → mb y = bootBuiltins y) (hlim : s.heap.NoLimit) (hg : s.gens = #[])
    (ha : s.heap.get? a = some { cls := .type "list", data := .seq vs.toArray }) (hi : IntsAre vs ns) (hl : ns.length ≤ sizeLine) (hr : Room k callerA)
    (F : ∀ base : Heap, K.In base → base.Ns mainGlobals mg → FnG P w K mg base CX0 k fa fd [x] sp)
    (hbind : ∀ (s : Shared) (u : Value), BindsTo s fd ⟨[u], []⟩ [(x, u)])
    (hsp : ∀ H : Hp, Only H → SqL K H a (ns.map V.int) → sp [.ref a] H (fun v _ => v = .bl true) E0) :
    codeAny (model P w) callerA (.call (.ref fa) ⟨[.ref a], []⟩) (LawEnd s) s := by
  have rv := vals_ints hi
  have lenV := hi.length
  cases hk : K.lookup a with
  | some o =>
    have e := KX a o hk
    rw [ha] at e
    cases e
    have hS : SqL K (fun _ => none) a (ns.map V.int) :=
      .inr ⟨_, vs.toArray, _, hk, rfl, rfl, rfl, by rw [List.size_toArray, lenV]; exact hl, by simpa using rv⟩
    have lone : Lone (fun _ => none) a K := ⟨fun _ => .inl rfl, fun b z => absurd rfl z, fun z => absurd rfl z⟩
    exact law_core KX hns hb hbb hlim hg ha hr F hbind lone hS (fun b u z => by cases (show (none : Option HO) = some u from z)) (hsp _ lone.only hS)
  | none =>
    have hS : SqL K (fun b => if b = a then some (.frz { cls := .type "list", data := .seq vs.toArray } (.lst (ns.map V.int))) else none) a (ns.map V.int) :=
      .inl (.inr ⟨{ cls := .type "list", data := .seq vs.toArray }, if_pos rfl⟩)
    have lone : Lone (fun b => if b = a then some (.frz { cls := .type "list", data := .seq vs.toArray } (.lst (ns.map V.int))) else none) a K := by
      refine ⟨fun b => ?_, fun b z => ?_, fun _ => hk⟩
      · by_cases hba : b = a
        · exact .inr ⟨_, _, if_pos hba⟩
        · exact .inl (if_neg hba)
      · by_cases hba : b = a
        · exact hba
        · exact absurd (if_neg hba) z
    refine law_core KX hns hb hbb hlim hg ha hr F hbind lone hS ?_ (hsp _ lone.only hS)
    intro b u z
    by_cases hba : b = a
    · have z' := (if_pos hba).symm.trans z
      cases z'
      subst hba
      exact ⟨ha, by rw [List.length_map]; exact hl, vs, _, rv, ha⟩
    · have z' := (if_neg hba).symm.trans z
      cases z'
end
theorem walk_G {l : PySem.W.OpenLaw} {n k : Nat} {q : Program} {loose : List Str} {XP : (Str → Option Value) → Heap → Prop} {YP : World → Heap → Prop} {d : DefRec}
    {K : Params → PySem.W.Frag} {sp : World → Sp} {x : Str}
    (hn : l.most = some n) (hn2 : n ≤ sizeLine) (hdf : d.params.defaults = []) (hr : Room k callerA)
    (hY : ∀ (w : World) (h : Heap), YP w h → (K w.params).In h)
    (F : ∀ (w : World) (mg : Str → Option Value) (fa : Addr) (h : Heap), (K w.params).In h → h.Ns mainGlobals mg → mg d.name = some (.ref fa) →
      ∃ fd : FuncData, (∀ (s : Shared) (u : Value), BindsTo s fd ⟨[u], []⟩ [(x, u)]) ∧
        ∀ base : Heap, (K w.params).In base → base.Ns mainGlobals mg → FnG l.prog w (K w.params) mg base CX0 k fa fd [x] (sp w))
    (hsp : ∀ (w : World) (H : Hp) (a : Addr) (ns : List Int), ns.length ≤ n → Only H → SqL (K w.params) H a (ns.map V.int) → sp w [.ref a] H (fun v _ => v = .bl true) E0) :
    PySem.W.WalkO q loose XP YP l.row.toRowW d [] (fun f vs => PySem.call f vs) := by
  apply Att.attach_call hn hdf
  intro w s₀ s₁ mg mb fa o pm cd doc a vs ns G Y ho hd hcd hmg hobj hints hlen hg
  obtain ⟨fd, hb, hF⟩ := F w mg fa _ (hY w _ Y) G.T.g hmg
  exact law_callG (hY w _ Y) G.T.g G.T.b G.T.builtins G.T.nolimit hg hobj hints (Nat.le_trans hlen hn2) hr hF hb (fun H hO hS => hsp w H a ns hlen hO hS)
end Cy
namespace Cy
open PySem PySem.Spec PyProof.Rows L2
abbrev sLaw : Stmt := top 30
section
variable {P : Program} {w : World} {K : PySem.W.Frag} {mg : Str → Option Value} {base : Heap}
def spLaw (K : PySem.W.Frag) : Sp := fun vs H Q _ => ∃ (a : Addr) (ns : List Int), vs = [.ref a] ∧ SqL K H a (ns.map V.int) ∧ ns.length ≤ 63 ∧ ∀ H', Q (.bl true) H'
theorem scLaw : FnScope ["script", "at", "purse", "turn"] ["script"] (defScope sLaw) := ⟨rfl, rfl, rfl, by decide +kernel, rfl, by decide +kernel, by decide +kernel⟩
theorem eqT {H : Hp} {a b : Addr} {ns : List Int} {Q : VK} (h1 : Rd H a (.tup (ns.map V.int))) (h2 : Rd H b (.tup (ns.map V.int))) (q : Q (.bl true) H) : rEqD K (.ref a) (.ref b) H Q := by
  refine ⟨.tuple (ns.map PyData.int), .tuple (ns.map PyData.int), .tup (.inl h1) (dp_ints ns), .tup (.inl h2) (dp_ints ns), sh_tints _, sh_tints _, ?_⟩
  rw [eqv_tints, decide_eq_true rfl]
  exact q
theorem ok_law {CO CR CN : Addr} {f : Addr} {fd : FuncData} (F : Fun K "law" "law" sLaw f fd)
    (GP : Cal P w K mg base CX0 1 "_law_purse" ["cells", "at"] (spPurse K)) (GR : CalG P w K mg base 10 "_law_right" ["purse"] spRight)
    (GO : Cal P w K mg base CX0 2 "is_order" ["thing"] (spOrd K))
    (G0 : Cal P w K mg base (L2.CX P w) 4 "ranks_of" ["order"] (spRanks K CO)) (G1 : Cal P w K mg base (L2.CX P w) 5 "order_of" ["ranks"] (spOrderOf K CR))
    (G2 : Cal P w K mg base (L2.CX P w) 4 "left_out" ["order", "place"] (spLeft K CO CN)) (G4 : Cal P w K mg base (L2.CX P w) 5 "turned_about" ["order"] (spTrn K CO))
    (mn : mg "len" = none) (mr : mg "range" = none) (mm : mg "min" = none) : FnG P w K mg base CX0 11 f fd ["script"] (spLaw K) := by
  refine okG F scLaw ?_ ?_
  · rintro vs H Q E ⟨a, ns, rfl, _⟩
    rfl
  rintro cdv A outer s H vs Q E gu hr ⟨a, ns, rfl, hS, hlen, q⟩
  have hr1 : Room 1 _ := hr.mono (by decide)
  have hr2 : Room 2 _ := hr.mono (by decide)
  have hr4 : Room 4 _ := hr.mono (by decide)
  have hr5 : Room 5 _ := hr.mono (by decide)
  refine ⟨_, pss_cons (ps_for PassesOwn.never rfl (pi_range1 (by rfl) mr (pa_cons (pe_op op_add pe_int (pe_callB (call_min2 rfl) (by rfl) mm (by decide +kernel) (pa_cons pe_int (pa_cons (pe_callB call_len_seq (by rfl) mn PySem.boot_len (pa_cons (pv 0) pa_nil)) pa_nil)))) pa_nil))
      (pg_name (i := 1) scLaw.nd rfl (Or.inl rfl))
      (pss_cons (ps_set (i := 2) scLaw.nd rfl (Or.inl rfl) (pe_cal GP hr1 pass0 (by rfl) (pa_cons (pv 0) (pa_cons (pv 1) pa_nil))))
      (pss_one (ps_for PassesOwn.never rfl (pi_range1 (by rfl) mr (pa_cons pe_int pa_nil)) (pg_name (i := 3) scLaw.nd rfl (Or.inl rfl))
        (pss_one (ps_if (pt_not (pt_val (pe_calG GR gu hr (by rfl) (pa_cons (pv 2) pa_nil)))) (pss_one (ps_ret pe_bl)) pss_nil))))))
    (pss_cons (ps_if (PW.pt (pw_or (pt_cmpR (op_neD hr.units) (pe_cal G0 hr4 passL (by rfl) (pa_cons (pe_tupF (pa_cons pe_int (pa_cons pe_int (pa_cons pe_int (pa_cons pe_int pa_nil))))) pa_nil)) (pe_tupF (pa_cons pe_int (pa_cons pe_int (pa_cons pe_int (pa_cons pe_int pa_nil))))) (nomark _))
      (pw_or1 (pt_cmpR (op_neD hr.units) (pe_cal G1 hr5 passL (by rfl) (pa_cons (pe_tupF (pa_cons pe_int (pa_cons pe_int (pa_cons pe_int pa_nil)))) pa_nil)) (pe_tupF (pa_cons pe_int (pa_cons pe_int (pa_cons pe_int pa_nil)))) (nomark _))))) (pss_one (ps_ret pe_bl)) pss_nil)
    (pss_cons (ps_if (PW.pt (pw_or (pt_cmpR (op_neD hr.units) (pe_cal G2 hr4 passL (by rfl) (pa_cons (pe_tupF (pa_cons pe_int (pa_cons pe_int (pa_cons pe_int (pa_cons pe_int pa_nil))))) (pa_cons pe_int pa_nil))) (pe_tupF (pa_cons pe_int (pa_cons pe_int (pa_cons pe_int pa_nil)))) (nomark _))
      (pw_or1 (pt_cmpR (op_neD hr.units) (pe_cal G4 hr5 passL (by rfl) (pa_cons (pe_tupF (pa_cons pe_int (pa_cons pe_int (pa_cons pe_int (pa_cons pe_int (pa_cons pe_int pa_nil)))))) pa_nil)) (pe_tupF (pa_cons pe_int (pa_cons pe_int (pa_cons pe_int (pa_cons pe_int (pa_cons pe_int pa_nil)))))) (nomark _))))) (pss_one (ps_ret pe_bl)) pss_nil)
    (pss_one (ps_ret (pe_and (pe_cmpR op_isBl (pe_cal GO hr2 pass0 (by rfl) (pa_cons (pe_tupF pa_nil) pa_nil)) pe_bl (nomark _)) (pe_and (pe_cmpR (op_eqD hr.units) (pe_cal G0 hr4 passL (by rfl) (pa_cons (pe_tupF pa_nil) pa_nil)) (pe_tupF pa_nil) (nomark _))
      (pe_one (pe_cmpR (op_eqD hr.units) (pe_cal G1 hr5 passL (by rfl) (pa_cons (pe_tupF pa_nil) pa_nil)) (pe_tupF pa_nil) (nomark _))))))))), ?_⟩
  have hlm : (ns.map V.int).length = ns.length := List.length_map ..
  refine ⟨_, rfl, a, _, rfl, .inl hS, ?_⟩
  rw [hlm]
  refine ⟨_, _, rfl, _, _, rfl, rfl, ?_⟩
  refine ⟨_, rfl, ?_, ?_, ?_⟩
  · split <;> omega
  · split <;> omega
  refine for_range (lo := 0) (n := (1 + if (((ns.length : Nat) : Int) < 8) then ((ns.length : Nat) : Int) else 8).toNat) (fun i σ H1 => ∃ (u v x : Option V), σ = [some (.ref a), u, v, x] ∧ Same H H1)
    ⟨none, none, none, rfl, Same.refl _⟩ ?_ ?_
  · rintro i σ H1 hi ⟨u, v, x, rfl, s1⟩
    have hi9 : i ≤ 8 := by split at hi <;> omega
    refine ⟨_, rfl, _, rfl, a, ns, i, ?_, s1.seq hS, hlen, hi9, fun p H2 s2 np hp => ?_⟩
    · show [V.ref a, V.int (0 + (i : Int))] ++ [] = _
      rw [Int.zero_add]
      rfl
    have fp : H p = none := s1.free np
    refine ⟨3, rfl, by decide, by decide, ?_⟩
    refine for_range (lo := 0) (n := 3) (fun j σ H3 => ∃ (y : Option V), σ = [some (.ref a), some (.int (0 + (i : Int))), some (.ref p), y] ∧ Same H H3 ∧ Purse H3 p (8000 + 50 * (j : Nat)))
      ⟨x, rfl, s1.trans s2, by simpa using hp⟩ ?_ ?_
    · rintro j σ H3 hj ⟨y, rfl, s3, hp3⟩
      refine ⟨_, rfl, p, 8000 + 50 * (j : Nat), rfl, hp3, by omega, fun H4 b4 hp4 => ?_⟩
      refine ⟨_, rfl, ?_⟩
      refine iteF ⟨_, rfl, ?_, ?_⟩
      · intro b o e
        have nbp : b ≠ p := by
          intro z
          subst z
          cases fp.symm.trans e
        exact b4 _ _ nbp (s3 _ _ e)
      · have e : 8000 + 50 * (j : Nat) + 50 = 8000 + 50 * ((j + 1 : Nat) : Int) := by omega
        rw [← e]
        exact hp4
    · rintro σ H3 ⟨y, rfl, s3, _⟩
      exact ⟨_, _, _, rfl, s3⟩
  rintro σ H1 ⟨u, v, x, rfl, s1⟩
  clear s1 hS
  have o1 : Ord [3, 1, 4, 2] := ordB_iff.mp (by decide +kernel)
  have o2 : Ord [3, 2, 5, 1, 4] := ordB_iff.mp (by decide +kernel)
  have e1 : ranks [3, 1, 4, 2] = [3, 1, 2, 1] := by decide +kernel
  have e2 : goOrd (iota 3) [2, 2, 1] = [2, 3, 1] := by decide +kernel
  have e3 : trn [3, 2, 5, 1, 4] = [3, 1, 5, 4, 2] := by decide +kernel
  have e4 : lessened 3 (([3, 1, 4, 2] : List Int).take 0 ++ ([3, 1, 4, 2] : List Int).drop 1) = [1, 3, 2] := by decide +kernel
  have rk : RksOk [2, 2, 1] := by
    intro i x hx
    match i, hx with
    | 0, hx => cases (Option.some.inj hx); exact ⟨by decide, by decide⟩
    | 1, hx => cases (Option.some.inj hx); exact ⟨by decide, by decide⟩
    | 2, hx => cases (Option.some.inj hx); exact ⟨by decide, by decide⟩
    | i + 3, hx => exact absurd hx (by simp)
  -- ranks_of((3, 1, 4, 2))
  refine ⟨by show 4 ≤ sizeLine; decide, fun t1 o1' nt1 ho1 => ?_⟩
  refine ⟨_, rfl, .inl ⟨t1, [3, 1, 4, 2], rfl, .inr ⟨o1', upd_same⟩, by decide, o1, fun c1 H2 s2 nc1 hc1 => ?_⟩⟩
  rw [e1] at hc1
  refine ⟨by show 4 ≤ sizeLine; decide, fun t2 o2' nt2 ho2 => ?_⟩
  refine neT (K := K) (ns := [3, 1, 2, 1]) (Tf.same (Same.upd nt2) hc1).rd (.inr ⟨o2', upd_same⟩) ⟨_, rfl, ?_⟩
  refine iteF ?_
  -- order_of((2, 2, 1))
  refine ⟨by show 3 ≤ sizeLine; decide, fun t3 o3' nt3 ho3 => ?_⟩
  refine ⟨_, rfl, .inl ⟨t3, [2, 2, 1], rfl, .inr ⟨o3', upd_same⟩, by decide, rk, fun c2 H3 s3 nc2 hc2 => ?_⟩⟩
  have hc2' : Tf H3 c2 (([2, 3, 1] : List Int).map V.int) := by
    have z : goOrd (iota ([2, 2, 1] : List Int).length) [2, 2, 1] = [2, 3, 1] := e2
    rw [z] at hc2
    exact hc2
  refine ⟨by show 3 ≤ sizeLine; decide, fun t4 o4' nt4 ho4 => ?_⟩
  refine neT (K := K) (ns := [2, 3, 1]) (Tf.same (Same.upd nt4) hc2').rd (.inr ⟨o4', upd_same⟩) ⟨_, rfl, ?_⟩
  refine iteF ?_
  -- left_out((3, 1, 4, 2), 0)
  refine ⟨by show 4 ≤ sizeLine; decide, fun t5 o5' nt5 ho5 => ?_⟩
  refine ⟨_, _, rfl, .inl ⟨t5, [3, 1, 4, 2], rfl, .inr ⟨o5', upd_same⟩, by decide, o1, .inl ⟨0, 3, rfl, rfl, fun c3 H4 s4 nc3 hc3 => ?_⟩⟩⟩
  have hc3' : Tf H4 c3 (([1, 3, 2] : List Int).map V.int) := by
    rw [← e4]
    exact hc3
  refine ⟨by show 3 ≤ sizeLine; decide, fun t6 o6' nt6 ho6 => ?_⟩
  refine neT (K := K) (ns := [1, 3, 2]) (Tf.same (Same.upd nt6) hc3').rd (.inr ⟨o6', upd_same⟩) ⟨_, rfl, ?_⟩
  refine iteF ?_
  -- turned_about((3, 2, 5, 1, 4))
  refine ⟨by show 5 ≤ sizeLine; decide, fun t7 o7' nt7 ho7 => ?_⟩
  refine ⟨_, rfl, .inl ⟨t7, [3, 2, 5, 1, 4], rfl, ⟨o7', upd_same, ho7⟩, by decide, o2, fun c4 H5 s5 nc4 hc4 => ?_⟩⟩
  rw [e3] at hc4
  refine ⟨by show 5 ≤ sizeLine; decide, fun t8 o8' nt8 ho8 => ?_⟩
  refine neT (K := K) (ns := [3, 1, 5, 4, 2]) (Tf.same (Same.upd nt8) hc4).rd (.inr ⟨o8', upd_same⟩) ⟨_, rfl, ?_⟩
  refine iteF ?_
  -- ()
  refine ⟨Nat.zero_le _, fun t9 o9' nt9 ho9 => ?_⟩
  refine ⟨_, true, rfl, .inr ⟨t9, [], [], rfl, .inr ⟨o9', upd_same⟩, by decide, .nil, .inr ⟨rfl, [], rfl, by decide +kernel⟩⟩, fun H6 s6 => ?_⟩
  refine ⟨true, true, rfl, rfl, _, rfl, ?_⟩
  refine ⟨Nat.zero_le _, fun ta oa nta hoa => ?_⟩
  refine ⟨_, rfl, .inl ⟨ta, [], rfl, .inr ⟨oa, upd_same⟩, by decide, ordB_iff.mp (by decide +kernel), fun c5 H7 s7 nc5 hc5 => ?_⟩⟩
  refine ⟨Nat.zero_le _, fun tb ob ntb hob => ?_⟩
  refine eqT (K := K) (ns := []) (Tf.same (Same.upd ntb) hc5).rd (.inr ⟨ob, upd_same⟩) ⟨_, rfl, ?_⟩
  refine ⟨Nat.zero_le _, fun tc oc ntc hoc => ?_⟩
  refine ⟨_, rfl, .inl ⟨tc, [], rfl, .inr ⟨oc, upd_same⟩, by decide, fun i x hx => absurd hx (by simp), fun c6 H8 s8 nc6 hc6 => ?_⟩⟩
  refine ⟨Nat.zero_le _, fun td od ntd hod => ?_⟩
  exact eqT (K := K) (ns := []) (Tf.same (Same.upd ntd) hc6).rd (.inr ⟨od, upd_same⟩) (q _)
end
end Cy
namespace Cy
open PySem PySem.Spec PyProof.Rows L2
/-- a def of the top -/
def DefG (K : PySem.W.Frag) (x : Str) (st : Stmt) (f : Addr) : Prop := PySem.W.nsIn K mainGlobals x = some (some (.ref f)) ∧ ∃ fd, Fun K x x st f fd
theorem def_in {K : PySem.W.Frag} {x : Str} {st : Stmt} {f : Addr} {oc : Value} {od an : Option Addr} {osl : Array (Option Value)} {kV doc pm cdv ct : Value}
    (g : PySem.W.nsIn K mainGlobals x = some (some (.ref f)))
    (l : K.lookup f = some ⟨oc, od, .func (PySem.W.fnOf x x (defArgs st) (defBody st) (defScope st) .none kV doc pm an cdv ct), osl⟩)
    (c : PySem.W.codeIn K cdv x = true) (k : PySem.W.keepIn K (.ref f) = true) : DefG K x st f := ⟨g, _, fun_mk l c k⟩
theorem cal_of {P : Program} {w : World} {K : PySem.W.Frag} {mg : Str → Option Value} {base : Heap} {CX : CXT} {k : Nat} {x : Str} {st : Stmt} {f : Addr} {fd : FuncData} {ps : List Str} {sp : Sp}
    (hm : mg x = some (.ref f)) (F : Fun K x x st f fd) (b : Binds K fd ps []) (ok : FnOk P w K mg base CX k f fd ps sp) : Cal P w K mg base CX k x ps sp :=
  ⟨f, fd, ok, hm, F.kp, b⟩
theorem calG_of {P : Program} {w : World} {K : PySem.W.Frag} {mg : Str → Option Value} {base : Heap} {k : Nat} {x : Str} {st : Stmt} {f : Addr} {fd : FuncData} {ps : List Str} {sp : Sp}
    (hm : mg x = some (.ref f)) (F : Fun K x x st f fd) (b : Binds K fd ps []) (ok : FnG P w K mg base CX0 k f fd ps sp) : CalG P w K mg base k x ps sp :=
  ⟨f, fd, ok, hm, F.kp, b⟩
theorem kbn1 {K : PySem.W.Frag} {x qual a : Str} {st : Stmt} {f : Addr} {fd : FuncData} (F : Fun K x qual st f fd)
    (h : ∀ (kV doc pm : Value) (an : Option Addr) (cdv ct v : Value), bindArgs (PySem.W.fnOf x qual (defArgs st) (defBody st) (defScope st) .none kV doc pm an cdv ct) ⟨[], [(a, v)]⟩ = pure [(a, v)]) :
    KBn K fd [a] 0 [a] (fun _ ws => ws) (fun _ zs => zs) := by
  obtain ⟨oc, od, kV, doc, pm, an, cdv, ct, osl, rfl, lk, hcd⟩ := F.ex
  refine ⟨fun s us ws X l1 l2 => ?_, fun _ r => r⟩
  match us, ws, l1, l2 with
  | [], [v], _, _ => exact .of_eq (h kV doc pm an cdv ct v)
def swapV : List Value → List Value
  | [a, b] => [b, a]
  | l => l
theorem kbn2 {K : PySem.W.Frag} {x qual a b : Str} {st : Stmt} {f : Addr} {fd : FuncData} (F : Fun K x qual st f fd)
    (h : ∀ (kV doc pm : Value) (an : Option Addr) (cdv ct u v : Value), bindArgs (PySem.W.fnOf x qual (defArgs st) (defBody st) (defScope st) .none kV doc pm an cdv ct) ⟨[], [(b, u), (a, v)]⟩ = pure [(a, v), (b, u)]) :
    KBn K fd [a, b] 0 [b, a] (fun _ ws => swapV ws) (fun _ zs => swap2 zs) := by
  obtain ⟨oc, od, kV, doc, pm, an, cdv, ct, osl, rfl, lk, hcd⟩ := F.ex
  refine ⟨fun s us ws X l1 l2 => ?_, fun {vs us zs ws} _ r => ?_⟩
  · match us, ws, l1, l2 with
    | [], [u, v], _, _ => exact .of_eq (h kV doc pm an cdv ct u v)
  · match zs, ws, r with
    | [], [], r => exact r
    | [_], [_], r => exact r
    | [_, _], [_, _], .cons r1 (.cons r2 .nil) => exact .cons r2 (.cons r1 .nil)
    | _ :: _ :: _ :: _, _ :: _ :: _ :: _, r => exact r
theorem calK_of {P : Program} {w : World} {K : PySem.W.Frag} {mg : Str → Option Value} {base : Heap} {CX : CXT} {k : Nat} {x : Str} {st : Stmt} {f : Addr} {fd : FuncData} {ps ks : List Str} {gV : List V → List V} {g : List Value → List Value} {sp : Sp}
    (hm : mg x = some (.ref f)) (F : Fun K x x st f fd) (b : KBn K fd ps 0 ks (fun _ ws => g ws) (fun _ zs => gV zs)) (ok : FnOk P w K mg base CX k f fd ps sp) : CalK P w K mg base CX k x ps ks gV sp :=
  ⟨f, fd, g, ok, hm, F.kp, b⟩
/-- what the written part says of an error's class -/
structure ErrF (K : PySem.W.Frag) (xn qual : Str) (C : Addr) (st : Stmt) : Prop where
  g : PySem.W.nsIn K mainGlobals xn = some (some (.ref C))
  ox : OexC K C
  xf : XfC K C
  no : PySem.W.findIn K (.ref C) "thing" = some none
  ini : ∃ fI fd, PySem.W.findIn K (.ref C) "__init__" = some (some (.ref fI)) ∧ PySem.W.typeIn K (.ref fI) = some (.type "function") ∧ Fun K "__init__" qual st fI fd
theorem err_in {K : PySem.W.Frag} {xn qual : Str} {C Y fI : Addr} {st : Stmt} {nm q : Str} {N : Addr} {bs : List Value} {sn : List Str} {sub : List Value} {ab : Bool} {col : Option Bool} {dd : Option Addr} {m0 m1 m2 m3 m5 : Option Value}
    {oc : Value} {od an : Option Addr} {osl : Array (Option Value)} {kV doc pm cdv ct : Value}
    (g : PySem.W.nsIn K mainGlobals xn = some (some (.ref C)))
    (xL : K.lookup C = some (excClassObj nm q C N bs [.ref Y, .type "ValueError", .type "Exception", .type "BaseException", .type "object"] true sn sub ab col dd m0 m1 m2 m3 m5 "ValueError.__new__"))
    (sa : PySem.W.findIn K (.ref C) "__setattr__" = some (some (.builtin "object.__setattr__"))) (exC : PySem.W.subIn K (.ref C) (.type "BaseException") = some true)
    (tyC : PySem.W.typeIn K (.ref C) = some (.type "type")) (kC : PySem.W.keepIn K (.ref C) = true)
    (ga : PySem.W.findIn K (.ref C) "__getattribute__" = some (some (.builtin "BaseException.__getattribute__"))) (gg : PySem.W.findIn K (.ref C) "__getattr__" = some none)
    (hdC : PySem.W.hasDictIn K C = true) (no : PySem.W.findIn K (.ref C) "thing" = some none) (iC : PySem.W.findIn K (.ref C) "__init__" = some (some (.ref fI)))
    (tI : PySem.W.typeIn K (.ref fI) = some (.type "function"))
    (l : K.lookup fI = some ⟨oc, od, .func (PySem.W.fnOf "__init__" qual (defArgs st) (defBody st) (defScope st) .none kV doc pm an cdv ct), osl⟩)
    (c : PySem.W.codeIn K cdv qual = true) (k : PySem.W.keepIn K (.ref fI) = true) : ErrF K xn qual C st :=
  ⟨g, ⟨⟨nm, q, N, bs, _, sn, sub, ab, col, dd, m0, m1, m2, m3, m5, xL, rfl⟩, sa, exC, tyC, kC⟩, ⟨ga, gg, exC, hdC⟩, no, fI, _, iC, tI, fun_mk l c k⟩
theorem exm_in {K : PySem.W.Frag} {S C : Addr} {b : Bool} (h1 : PySem.W.subIn K (.ref C) (.type "BaseException") = some true) (h2 : PySem.W.isClsIn K C = true) (h3 : PySem.W.typeIn K (.ref C) = some (.type "type"))
    (h4 : PySem.W.subIn K (.ref S) (.ref C) = some b) : PySem.W.exmOne K (.ref S) (.ref C) = some b := by
  have e1 : (PySem.W.subIn K (.ref C) (.type "BaseException") == some true) = true := by rw [h1]; rfl
  have e2 : ((PySem.W.clsIn K C).isSome && PySem.W.typeIn K (.ref C) == some (.type "type")) = true := by
    have q : (PySem.W.clsIn K C).isSome = true := h2
    rw [q, h3]
    rfl
  unfold PySem.W.exmOne
  rw [if_pos e1]
  exact (if_pos e2).trans h4
theorem sees_of {K : PySem.W.Frag} {CO CR CN : Addr} (o1 : PySem.W.subIn K (.ref CO) (.type "BaseException") = some true) (o2 : PySem.W.isClsIn K CO = true) (o3 : PySem.W.typeIn K (.ref CO) = some (.type "type"))
    (r1 : PySem.W.subIn K (.ref CR) (.type "BaseException") = some true) (r2 : PySem.W.isClsIn K CR = true) (r3 : PySem.W.typeIn K (.ref CR) = some (.type "type"))
    (n1 : PySem.W.subIn K (.ref CN) (.type "BaseException") = some true) (n2 : PySem.W.isClsIn K CN = true) (n3 : PySem.W.typeIn K (.ref CN) = some (.type "type"))
    (oo : PySem.W.subIn K (.ref CO) (.ref CO) = some true) (ro : PySem.W.subIn K (.ref CR) (.ref CO) = some false) (rr : PySem.W.subIn K (.ref CR) (.ref CR) = some true)
    (no : PySem.W.subIn K (.ref CN) (.ref CO) = some false) (nr : PySem.W.subIn K (.ref CN) (.ref CR) = some false) (nn : PySem.W.subIn K (.ref CN) (.ref CN) = some true) : Sees K CO CR CN :=
  ⟨exm_in o1 o2 o3 oo, exm_in o1 o2 o3 ro, exm_in r1 r2 r3 rr, exm_in o1 o2 o3 no, exm_in r1 r2 r3 nr, exm_in n1 n2 n3 nn⟩
theorem all_mk {l : PySem.W.OpenLaw} {w : World} {K : PySem.W.Frag} {h : Heap} {mg : Str → Option Value} {fa Y CN CO CR : Addr} (X : K.In h) (G : h.Ns mainGlobals mg) (hfa : mg "law" = some (.ref fa))
    (d0 : ∃ f, DefG K "is_integer" sIsInt f)
    (d1 : ∃ f, DefG K "is_between" sBtw f)
    (d2 : ∃ f, DefG K "is_order" sOrd f)
    (d3 : ∃ f, DefG K "is_ranks" sRnk f)
    (d4 : ∃ f, DefG K "check_order" sCkO f)
    (d5 : ∃ f, DefG K "check_ranks" sCkR f)
    (d6 : ∃ f, DefG K "ranks_of" sRanks f)
    (d7 : ∃ f, DefG K "_rank_at" sRankAt f)
    (d8 : ∃ f, DefG K "order_of" sOrderOf f)
    (d9 : ∃ f, DefG K "left_out" sLeft f)
    (d10 : ∃ f, DefG K "inverse" sInv f)
    (d11 : ∃ f, DefG K "turned_about" sTrn f)
    (d12 : ∃ f, DefG K "_law_mixed" sMixed f)
    (d13 : ∃ f, DefG K "_law_purse" sPurse f)
    (d14 : ∃ f, DefG K "_law_draw" sDraw f)
    (d15 : ∃ f, DefG K "_law_order" sLOrder f)
    (d16 : ∃ f, DefG K "_law_ranks" sLRanks f)
    (d17 : ∃ f, DefG K "_law_asked" sAsked f)
    (d18 : ∃ f, DefG K "_law_caught" sCaught f)
    (d19 : ∃ f, DefG K "_law_doors_right" sDoors f)
    (d20 : ∃ f, DefG K "_law_right" sRight f)
    (d21 : ∃ f, DefG K "law" sLaw f)
    (z_isinstance : PySem.W.nsIn K mainGlobals "isinstance" = some none)
    (z_int : PySem.W.nsIn K mainGlobals "int" = some none)
    (z_bool : PySem.W.nsIn K mainGlobals "bool" = some none)
    (z_tuple : PySem.W.nsIn K mainGlobals "tuple" = some none)
    (z_all : PySem.W.nsIn K mainGlobals "all" = some none)
    (z_sorted : PySem.W.nsIn K mainGlobals "sorted" = some none)
    (z_list : PySem.W.nsIn K mainGlobals "list" = some none)
    (z_range : PySem.W.nsIn K mainGlobals "range" = some none)
    (z_len : PySem.W.nsIn K mainGlobals "len" = some none)
    (z_enumerate : PySem.W.nsIn K mainGlobals "enumerate" = some none)
    (z_max : PySem.W.nsIn K mainGlobals "max" = some none)
    (z_min : PySem.W.nsIn K mainGlobals "min" = some none)
    (z_str : PySem.W.nsIn K mainGlobals "str" = some none)
    (gY : PySem.W.nsIn K mainGlobals "YardError" = some (some (.ref Y))) (rY : PySem.W.readsIn K Y (.type "type") = true) (aY : PySem.W.specialIn K (.ref Y) "__getattribute__" = some (some (.builtin "type.__getattribute__")))
    (vY : PySem.W.findCls K (.ref Y) (.type "type") "__init__" = some (.val (.builtin "ValueError.__init__")))
    (eN : ErrF K "InvalidNumber" "InvalidNumber.__init__" CN sErrN) (eO : ErrF K "InvalidOrder" "InvalidOrder.__init__" CO sErrO) (eR : ErrF K "InvalidRanks" "InvalidRanks.__init__" CR sErrR) (S : Sees K CO CR CN) :
    ∃ fd : FuncData, (∀ (s : Shared) (v : Value), BindsTo s fd ⟨[v], []⟩ [("script", v)]) ∧ ∀ base : Heap, K.In base → base.Ns mainGlobals mg → FnG l.prog w K mg base CX0 11 fa fd ["script"] (spLaw K) := by
  obtain ⟨f0, g0, fd0, F0⟩ := d0
  have m0 := PySem.W.mg_of X G g0
  have b0 := F0.binds (ps := ["thing"]) fun _ _ _ _ _ _ us hl => match us, hl with | [_], _ => rfl
  obtain ⟨f1, g1, fd1, F1⟩ := d1
  have m1 := PySem.W.mg_of X G g1
  have b1 := F1.binds (ps := ["thing", "least", "most"]) fun _ _ _ _ _ _ us hl => match us, hl with | [_, _, _], _ => rfl
  obtain ⟨f2, g2, fd2, F2⟩ := d2
  have m2 := PySem.W.mg_of X G g2
  have b2 := F2.binds (ps := ["thing"]) fun _ _ _ _ _ _ us hl => match us, hl with | [_], _ => rfl
  obtain ⟨f3, g3, fd3, F3⟩ := d3
  have m3 := PySem.W.mg_of X G g3
  have b3 := F3.binds (ps := ["thing"]) fun _ _ _ _ _ _ us hl => match us, hl with | [_], _ => rfl
  obtain ⟨f4, g4, fd4, F4⟩ := d4
  have m4 := PySem.W.mg_of X G g4
  have b4 := F4.binds (ps := ["order"]) fun _ _ _ _ _ _ us hl => match us, hl with | [_], _ => rfl
  obtain ⟨f5, g5, fd5, F5⟩ := d5
  have m5 := PySem.W.mg_of X G g5
  have b5 := F5.binds (ps := ["ranks"]) fun _ _ _ _ _ _ us hl => match us, hl with | [_], _ => rfl
  obtain ⟨f6, g6, fd6, F6⟩ := d6
  have m6 := PySem.W.mg_of X G g6
  have b6 := F6.binds (ps := ["order"]) fun _ _ _ _ _ _ us hl => match us, hl with | [_], _ => rfl
  obtain ⟨f7, g7, fd7, F7⟩ := d7
  have m7 := PySem.W.mg_of X G g7
  have b7 := F7.binds (ps := ["order", "place"]) fun _ _ _ _ _ _ us hl => match us, hl with | [_, _], _ => rfl
  obtain ⟨f8, g8, fd8, F8⟩ := d8
  have m8 := PySem.W.mg_of X G g8
  have b8 := F8.binds (ps := ["ranks"]) fun _ _ _ _ _ _ us hl => match us, hl with | [_], _ => rfl
  obtain ⟨f9, g9, fd9, F9⟩ := d9
  have m9 := PySem.W.mg_of X G g9
  have b9 := F9.binds (ps := ["order", "place"]) fun _ _ _ _ _ _ us hl => match us, hl with | [_, _], _ => rfl
  obtain ⟨f10, g10, fd10, F10⟩ := d10
  have m10 := PySem.W.mg_of X G g10
  have b10 := F10.binds (ps := ["order"]) fun _ _ _ _ _ _ us hl => match us, hl with | [_], _ => rfl
  obtain ⟨f11, g11, fd11, F11⟩ := d11
  have m11 := PySem.W.mg_of X G g11
  have b11 := F11.binds (ps := ["order"]) fun _ _ _ _ _ _ us hl => match us, hl with | [_], _ => rfl
  obtain ⟨f12, g12, fd12, F12⟩ := d12
  have m12 := PySem.W.mg_of X G g12
  have b12 := F12.binds (ps := ["cell", "k"]) fun _ _ _ _ _ _ us hl => match us, hl with | [_, _], _ => rfl
  obtain ⟨f13, g13, fd13, F13⟩ := d13
  have m13 := PySem.W.mg_of X G g13
  have b13 := F13.binds (ps := ["cells", "at"]) fun _ _ _ _ _ _ us hl => match us, hl with | [_, _], _ => rfl
  obtain ⟨f14, g14, fd14, F14⟩ := d14
  have m14 := PySem.W.mg_of X G g14
  have b14 := F14.binds (ps := ["purse", "out_of"]) fun _ _ _ _ _ _ us hl => match us, hl with | [_, _], _ => rfl
  obtain ⟨f15, g15, fd15, F15⟩ := d15
  have m15 := PySem.W.mg_of X G g15
  have b15 := F15.binds (ps := ["purse", "many"]) fun _ _ _ _ _ _ us hl => match us, hl with | [_, _], _ => rfl
  obtain ⟨f16, g16, fd16, F16⟩ := d16
  have m16 := PySem.W.mg_of X G g16
  have b16 := F16.binds (ps := ["lot"]) fun _ _ _ _ _ _ us hl => match us, hl with | [_], _ => rfl
  obtain ⟨f17, g17, fd17, F17⟩ := d17
  have m17 := PySem.W.mg_of X G g17
  have b17 := F17.binds (ps := ["kind", "one", "second"]) fun _ _ _ _ _ _ us hl => match us, hl with | [_, _, _], _ => rfl
  obtain ⟨f18, g18, fd18, F18⟩ := d18
  have m18 := PySem.W.mg_of X G g18
  have b18 := F18.binds (ps := ["kind", "one", "second"]) fun _ _ _ _ _ _ us hl => match us, hl with | [_, _, _], _ => rfl
  obtain ⟨f19, g19, fd19, F19⟩ := d19
  have m19 := PySem.W.mg_of X G g19
  have b19 := F19.binds (ps := ["purse", "made"]) fun _ _ _ _ _ _ us hl => match us, hl with | [_, _], _ => rfl
  obtain ⟨f20, g20, fd20, F20⟩ := d20
  have m20 := PySem.W.mg_of X G g20
  have b20 := F20.binds (ps := ["purse"]) fun _ _ _ _ _ _ us hl => match us, hl with | [_], _ => rfl
  obtain ⟨f21, g21, fd21, F21⟩ := d21
  have m21 := PySem.W.mg_of X G g21
  have b21 := F21.binds (ps := ["script"]) fun _ _ _ _ _ _ us hl => match us, hl with | [_], _ => rfl
  have zisinstance := PySem.W.mg_none_of X G z_isinstance
  have zint := PySem.W.mg_none_of X G z_int
  have zbool := PySem.W.mg_none_of X G z_bool
  have ztuple := PySem.W.mg_none_of X G z_tuple
  have zall := PySem.W.mg_none_of X G z_all
  have zsorted := PySem.W.mg_none_of X G z_sorted
  have zlist := PySem.W.mg_none_of X G z_list
  have zrange := PySem.W.mg_none_of X G z_range
  have zlen := PySem.W.mg_none_of X G z_len
  have zenumerate := PySem.W.mg_none_of X G z_enumerate
  have zmax := PySem.W.mg_none_of X G z_max
  have zmin := PySem.W.mg_none_of X G z_min
  have zstr := PySem.W.mg_none_of X G z_str
  have e := hfa.symm.trans m21
  cases e
  refine ⟨fd21, ?_, fun base _ _ => ?_⟩
  · obtain ⟨_, _, _, _, _, _, _, _, _, rfl, _, _⟩ := F21.ex
    exact fun s v => .of_eq rfl
  have RN : Err l.prog w K mg base 1 "InvalidNumber" CN "thing" "thing" := by
    obtain ⟨fI, fdI, iC, tI, FI⟩ := eN.ini
    exact ⟨PySem.W.mg_of X G eN.g, eN.ox, eN.xf, eN.no, fI, fdI, iC, tI, ok_ErrN FI eN.ox eN.no (PySem.W.mg_of X G gY) ⟨rY, aY⟩ vY, FI.binds (ps := ["self", "thing"]) fun _ _ _ _ _ _ us hl => match us, hl with | [_, _], _ => rfl⟩
  have RO : Err l.prog w K mg base 1 "InvalidOrder" CO "thing" "thing" := by
    obtain ⟨fI, fdI, iC, tI, FI⟩ := eO.ini
    exact ⟨PySem.W.mg_of X G eO.g, eO.ox, eO.xf, eO.no, fI, fdI, iC, tI, ok_ErrO FI eO.ox eO.no (PySem.W.mg_of X G gY) ⟨rY, aY⟩ vY, FI.binds (ps := ["self", "thing"]) fun _ _ _ _ _ _ us hl => match us, hl with | [_, _], _ => rfl⟩
  have RR : Err l.prog w K mg base 1 "InvalidRanks" CR "thing" "thing" := by
    obtain ⟨fI, fdI, iC, tI, FI⟩ := eR.ini
    exact ⟨PySem.W.mg_of X G eR.g, eR.ox, eR.xf, eR.no, fI, fdI, iC, tI, ok_ErrR FI eR.ox eR.no (PySem.W.mg_of X G gY) ⟨rY, aY⟩ vY, FI.binds (ps := ["self", "thing"]) fun _ _ _ _ _ _ us hl => match us, hl with | [_, _], _ => rfl⟩
  have o0 := ok_isInt (P := l.prog) (w := w) (base := base) F0 zisinstance zint zbool
  have G0 := cal_of m0 F0 b0 o0
  have G1 := cal_of m1 F1 b1 (ok_btw F1 G0)
  have o2 := ok_ord F2 G0 zisinstance ztuple zall zsorted zlist zrange zlen
  have G2 := cal_of m2 F2 b2 o2
  have G2k : CalK l.prog w K mg base CX0 2 "is_order" ["thing"] ["thing"] (fun zs => zs) (spOrd K) := calK_of (g := fun ws => ws) m2 F2 (kbn1 F2 fun _ _ _ _ _ _ _ => rfl) o2
  have G3 := cal_of m3 F3 b3 (ok_rnk F3 G1 zisinstance ztuple zall zenumerate zlen)
  have G4 := cal_of m4 F4 b4 (ok_ckO F4 G2 RO)
  have G5 := cal_of m5 F5 b5 (ok_ckR F5 G3 RR)
  have G7 := cal_of m7 F7 b7 (ok_rankAt (P := l.prog) (w := w) (base := base) F7 zlen)
  have o6 := ok_ranks F6 G4 G7 ztuple zrange zlen
  have G6 := cal_of m6 F6 b6 o6
  have G6k : CalK l.prog w K mg base (L2.CX l.prog w) 4 "ranks_of" ["order"] ["order"] (fun zs => zs) (spRanks K CO) := calK_of (g := fun ws => ws) m6 F6 (kbn1 F6 fun _ _ _ _ _ _ _ => rfl) o6
  have o8 := ok_orderOf F8 G5 ztuple zrange zlen zlist
  have G8 := cal_of m8 F8 b8 o8
  have G8k : CalK l.prog w K mg base (L2.CX l.prog w) 5 "order_of" ["ranks"] ["ranks"] (fun zs => zs) (spOrderOf K CR) := calK_of (g := fun ws => ws) m8 F8 (kbn1 F8 fun _ _ _ _ _ _ _ => rfl) o8
  have o9 := ok_left F9 G4 G1 RN ztuple zlen
  have G9 := cal_of m9 F9 b9 o9
  have G9k : CalK l.prog w K mg base (L2.CX l.prog w) 4 "left_out" ["order", "place"] ["place", "order"] swap2 (spLeft K CO CN) := calK_of (g := swapV) m9 F9 (kbn2 F9 fun _ _ _ _ _ _ _ _ => rfl) o9
  have o10 := ok_inv F10 G4 ztuple zrange zlen
  have G10 := cal_of m10 F10 b10 o10
  have G10k : CalK l.prog w K mg base (L2.CX l.prog w) 4 "inverse" ["order"] ["order"] (fun zs => zs) (spInv K CO) := calK_of (g := fun ws => ws) m10 F10 (kbn1 F10 fun _ _ _ _ _ _ _ => rfl) o10
  have o11 := ok_trn F11 G10 ztuple zlen
  have G11 := cal_of m11 F11 b11 o11
  have G11k : CalK l.prog w K mg base (L2.CX l.prog w) 5 "turned_about" ["order"] ["order"] (fun zs => zs) (spTrn K CO) := calK_of (g := fun ws => ws) m11 F11 (kbn1 F11 fun _ _ _ _ _ _ _ => rfl) o11
  have G12 := cal_of m12 F12 b12 (ok_mixed (P := l.prog) (w := w) (base := base) F12 zint)
  have G13 := cal_of m13 F13 b13 (ok_purse (P := l.prog) (w := w) (base := base) F13 zint zlen zmax)
  have G14 := cal_of m14 F14 b14 (ok_draw F14 G12 zint)
  have G15 := cal_of m15 F15 b15 (ok_lorder F15 G14 zrange ztuple)
  have G16 := cal_of m16 F16 b16 (ok_lranks (P := l.prog) (w := w) (K := K) (base := base) F16 zenumerate zlen ztuple)
  have G17 := cal_of m17 F17 b17 (ok_asked F17 G6 G8 G9 G10 G11)
  have G18 := cal_of m18 F18 b18 (ok_caught F18 G17 S RO RR RN (PySem.W.mg_of X G gY))
  have G19 := calG_of m19 F19 b19 (ok_doors F19 G14 G2 G2k G18 zlist zstr zlen)
  have G20 := calG_of m20 F20 b20 (ok_right F20 G14 G15 G16 G2 G6 G8 G9 G10 G11 G6k G8k G9k G10k G11k G19 ztuple zlen zrange zenumerate zmin zint)
  exact ok_law F21 G13 G20 G2 G6 G8 G9 G11 zlen zrange zmin
end Cy
open PySem PySem.W PyProof.Rows in
set_option maxRecDepth 100000 in
set_option maxHeartbeats 0 in
theorem PySem.Challenge.cw_cellyards_k03_orders_and_ranks_holds : PySem.Challenge.rw_cellyards_k03_orders_and_ranks.Holds := by
  w_on; o_law; k_head; (case hw => w_witness2)
  k_fill
  refine Cy.walk_G (l := PySem.Challenge.rw_cellyards_k03_orders_and_ranks) (n := 63) (k := 11) (x := "script") (sp := fun w => Cy.spLaw _) rfl (by decide) rfl ⟨rfl, by decide, by decide⟩ (fun w h Y => PySem.W.kIn_of Y) ?F (fun w H a ns hl _ hS => ⟨a, ns, rfl, hS, hl, fun _ => rfl⟩)
  case F =>
    intro w mg fa h KX G hmg
    refine' Cy.all_mk KX G hmg ?d0 ?d1 ?d2 ?d3 ?d4 ?d5 ?d6 ?d7 ?d8 ?d9 ?d10 ?d11 ?d12 ?d13 ?d14 ?d15 ?d16 ?d17 ?d18 ?d19 ?d20 ?d21 ?z0 ?z1 ?z2 ?z3 ?z4 ?z5 ?z6 ?z7 ?z8 ?z9 ?z10 ?z11 ?z12 ?gY ?rY ?aY ?vY ?eN ?eO ?eR ?S
    (case d0 => (refine' ⟨_, Cy.def_in ?g ?l ?c ?k⟩; (case g => k_is); (case l => k_is); (case c => k_is); (case k => k_is)))
    (case d1 => (refine' ⟨_, Cy.def_in ?g ?l ?c ?k⟩; (case g => k_is); (case l => k_is); (case c => k_is); (case k => k_is)))
    (case d2 => (refine' ⟨_, Cy.def_in ?g ?l ?c ?k⟩; (case g => k_is); (case l => k_is); (case c => k_is); (case k => k_is)))
    (case d3 => (refine' ⟨_, Cy.def_in ?g ?l ?c ?k⟩; (case g => k_is); (case l => k_is); (case c => k_is); (case k => k_is)))
    (case d4 => (refine' ⟨_, Cy.def_in ?g ?l ?c ?k⟩; (case g => k_is); (case l => k_is); (case c => k_is); (case k => k_is)))
    (case d5 => (refine' ⟨_, Cy.def_in ?g ?l ?c ?k⟩; (case g => k_is); (case l => k_is); (case c => k_is); (case k => k_is)))
    (case d6 => (refine' ⟨_, Cy.def_in ?g ?l ?c ?k⟩; (case g => k_is); (case l => k_is); (case c => k_is); (case k => k_is)))
    (case d7 => (refine' ⟨_, Cy.def_in ?g ?l ?c ?k⟩; (case g => k_is); (case l => k_is); (case c => k_is); (case k => k_is)))
    (case d8 => (refine' ⟨_, Cy.def_in ?g ?l ?c ?k⟩; (case g => k_is); (case l => k_is); (case c => k_is); (case k => k_is)))
    (case d9 => (refine' ⟨_, Cy.def_in ?g ?l ?c ?k⟩; (case g => k_is); (case l => k_is); (case c => k_is); (case k => k_is)))
    (case d10 => (refine' ⟨_, Cy.def_in ?g ?l ?c ?k⟩; (case g => k_is); (case l => k_is); (case c => k_is); (case k => k_is)))
    (case d11 => (refine' ⟨_, Cy.def_in ?g ?l ?c ?k⟩; (case g => k_is); (case l => k_is); (case c => k_is); (case k => k_is)))
    (case d12 => (refine' ⟨_, Cy.def_in ?g ?l ?c ?k⟩; (case g => k_is); (case l => k_is); (case c => k_is); (case k => k_is)))
    (case d13 => (refine' ⟨_, Cy.def_in ?g ?l ?c ?k⟩; (case g => k_is); (case l => k_is); (case c => k_is); (case k => k_is)))
    (case d14 => (refine' ⟨_, Cy.def_in ?g ?l ?c ?k⟩; (case g => k_is); (case l => k_is); (case c => k_is); (case k => k_is)))
    (case d15 => (refine' ⟨_, Cy.def_in ?g ?l ?c ?k⟩; (case g => k_is); (case l => k_is); (case c => k_is); (case k => k_is)))
    (case d16 => (refine' ⟨_, Cy.def_in ?g ?l ?c ?k⟩; (case g => k_is); (case l => k_is); (case c => k_is); (case k => k_is)))
    (case d17 => (refine' ⟨_, Cy.def_in ?g ?l ?c ?k⟩; (case g => k_is); (case l => k_is); (case c => k_is); (case k => k_is)))
    (case d18 => (refine' ⟨_, Cy.def_in ?g ?l ?c ?k⟩; (case g => k_is); (case l => k_is); (case c => k_is); (case k => k_is)))
    (case d19 => (refine' ⟨_, Cy.def_in ?g ?l ?c ?k⟩; (case g => k_is); (case l => k_is); (case c => k_is); (case k => k_is)))
    (case d20 => (refine' ⟨_, Cy.def_in ?g ?l ?c ?k⟩; (case g => k_is); (case l => k_is); (case c => k_is); (case k => k_is)))
    (case d21 => (refine' ⟨_, Cy.def_in ?g ?l ?c ?k⟩; (case g => k_is); (case l => k_is); (case c => k_is); (case k => k_is)))
    (case z0 => k_is)
    (case z1 => k_is)
    (case z2 => k_is)
    (case z3 => k_is)
    (case z4 => k_is)
    (case z5 => k_is)
    (case z6 => k_is)
    (case z7 => k_is)
    (case z8 => k_is)
    (case z9 => k_is)
    (case z10 => k_is)
    (case z11 => k_is)
    (case z12 => k_is)
    (case gY => k_is)
    (case rY => k_is)
    (case aY => k_is)
    (case vY => k_is)
    (case eN => (refine' Cy.err_in ?g ?xL ?sa ?exC ?tyC ?kC ?ga ?gg ?hdC ?no ?iC ?tI ?l ?c ?k; (case g => k_is); (case xL => k_is); (case sa => k_is); (case exC => k_is); (case tyC => k_is); (case kC => k_is); (case ga => k_is); (case gg => k_is); (case hdC => k_is); (case no => k_is); (case iC => k_is); (case tI => k_is); (case l => k_is); (case c => k_is); (case k => k_is)))
    (case eO => (refine' Cy.err_in ?g ?xL ?sa ?exC ?tyC ?kC ?ga ?gg ?hdC ?no ?iC ?tI ?l ?c ?k; (case g => k_is); (case xL => k_is); (case sa => k_is); (case exC => k_is); (case tyC => k_is); (case kC => k_is); (case ga => k_is); (case gg => k_is); (case hdC => k_is); (case no => k_is); (case iC => k_is); (case tI => k_is); (case l => k_is); (case c => k_is); (case k => k_is)))
    (case eR => (refine' Cy.err_in ?g ?xL ?sa ?exC ?tyC ?kC ?ga ?gg ?hdC ?no ?iC ?tI ?l ?c ?k; (case g => k_is); (case xL => k_is); (case sa => k_is); (case exC => k_is); (case tyC => k_is); (case kC => k_is); (case ga => k_is); (case gg => k_is); (case hdC => k_is); (case no => k_is); (case iC => k_is); (case tI => k_is); (case l => k_is); (case c => k_is); (case k => k_is)))
    (case S => (refine' Cy.sees_of ?o1 ?o2 ?o3 ?r1 ?r2 ?r3 ?n1 ?n2 ?n3 ?oo ?ro ?rr ?no ?nr ?nn; (case o1 => first | rfl | k_is); (case o2 => first | rfl | k_is); (case o3 => first | rfl | k_is); (case r1 => first | rfl | k_is); (case r2 => first | rfl | k_is); (case r3 => first | rfl | k_is); (case n1 => first | rfl | k_is); (case n2 => first | rfl | k_is); (case n3 => first | rfl | k_is); (case oo => first | rfl | k_is); (case ro => first | rfl | k_is); (case rr => first | rfl | k_is); (case no => first | rfl | k_is); (case nr => first | rfl | k_is); (case nn => first | rfl | k_is)))
