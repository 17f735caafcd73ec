import PyProof.Rows.All
import Wide.All
import OpenK.AllK
import Wide.FinOn
import HandS.ForMost
import HandS.ForExc
import HandS.ExcSuper
import HandS.TryMany
import HandS.IsInst
import HandS.Style
import HandS.TupAny
import HandS.Zip
import PyProof.ReprBulk
import HandS.Ends
import HandS.TryOnly
import PyProof.ReprText
import HandS.Wide
import HandS.Gcd
import HandS.WideBits
import HandS.HotCalls
import HandS.ExcCtx
import KE.GoesMore
import HandS.ExcOwn
import KE.KTryMore
import HandS.List
import HandS.Iter
import HandS.Rev
import PyProof.WalksMore
import HandS.Conv
import HandS.TupSets
import HandS.Text
import HandS.Codes
import HandS.Defaults
import HandS.MakeKwOnly
import HandS.DictComp
import HandS.SortInts
import HandS.SortOrd
import HandS.Comp
import KE.GoesRaise
import HandS.OwnEq
import HandS.DeepEq
import HandS.More
import HandS.WordsDict
import HandS.NoneIn
import HandS.SetKeys
import HandS.ListItems
import HandS.SortRule
import KE.KSortTupAny
import PyProof.StrBlock2
import PyProof.Rows.StrMul
import PyProof.AutoSeq1
import KE.KDictPairs
import KE.KeyNested
import PySem.Challenge.RW_everygrain_k18_rules_and_their_grains
import PyProof.EqAt
import PyProof.EqKinds
import PyProof.TupleCall
import Open.SpecLaws
import KE.OsGo
import HandS.ForSpec
import HandS.ExcIs
/-! EgExc -/
set_option Elab.async false
set_option linter.all false
set_option maxRecDepth 100000
set_option maxHeartbeats 2000000
/-! ## Own errors: class C(G) over class G(Exception), with __init__(self, given): self.given = given -/
namespace PySem
namespace EgX
open Builtin Builtin.ObjectAttr
open PySem.W PySem.Calls PyProof.Rows PySem.HandSPX

abbrev mroG (C G : Addr) : List Value := .ref C :: .ref G :: PySem.ESX.exTail
theorem mroG_con (C G : Addr) (Y : String) : (mroG C G).contains (.type Y) = PySem.ESX.exTail.contains (.type Y) := by
  show List.contains (Value.ref C :: Value.ref G :: PySem.ESX.exTail) (.type Y) = _
  rw [List.contains_cons, List.contains_cons]
  rfl
theorem tailG_con (G : Addr) (Y : String) : (Value.ref G :: PySem.ESX.exTail).contains (.type Y) = PySem.ESX.exTail.contains (.type Y) := by
  rw [List.contains_cons]
  rfl
section
variable {prog : Program} {w : World} {A : Around} {E : Value → Shared → Prop} {R : Result → Shared → Prop} {hp : Heap} {g : Array GenState} {d : Drawn} {t : Nat} {os : OsState}
theorem osaG {K : W.Frag} {nam : Str} {u1 : Tok} {vv : Value} {x C G : Addr} {fv : Array Value} {cd : ClassData}
    (kin : K.In hp) (hx : hp.get? x = some { cls := .ref C, data := .fields fv }) (hcd : W.clsIn K C = some cd) (hm : cd.mro = mroG C G) (hh : cd.hasDict = true) (ha : W.findIn K (.ref C) nam = some none)
    (fin : ∀ h2 tk2 dx, (∀ b o, b ≠ x → hp.get? b = some o → h2.get? b = some o) → hp.objs.size ≤ dx → dx ≠ x →
      h2.get? x = some { cls := .ref C, dict := some dx, data := .fields fv } →
      h2.Ns1 dx (fun y => if y = nam then some vv else none) → R (.ok (.ret .none)) ⟨h2, g, d, tk2, os⟩) :
    codeAny (model prog w) A (.call (.builtin "object.__setattr__") ⟨[.ref x, .str nam u1, vv], []⟩) R ⟨hp, g, d, t, os⟩ := by
  have inst : W.InstAt hp x { cls := .ref C, data := .fields fv } C none := ⟨hx, rfl, rfl, trivial⟩
  have xs : x ≠ hp.objs.size := Nat.ne_of_lt (Heap.lt_size hx)
  have fo := F.store_object
  have has : W.mroIn K C (.type "object") = some true := by
    unfold W.mroIn
    rw [hcd, Option.bind_some, hm, if_neg (show ¬ (List.isEmpty (mroG C G) = true) from Bool.false_ne_true), mroG_con]
    decide +kernel
  have isob : W.Looks (model prog w) hp (isInstance (.ref x) (.type "object")) true := inst.type.andThen (W.looks_mroIn kin has)
  refine codeAny_call_builtin fo.slot.plain fo.entry (@W.check_slot (model prog w) _ _ ⟨hp, g, d, t, os⟩ "object.__setattr__" "object" "__setattr__" (.ref x) [.str nam u1, vv] [] _ fo.kind fo.split isob (fo.args (.ref x) (.str nam u1) vv) ?_)
  have lm : W.Looks (model prog w) hp (mroOf (.ref C)) cd.mro := (W.looks_clsIn kin hcd).andThen .now
  have ln : W.Looks (model prog w) hp (storeTaker? none) none := .now
  have lc : W.Looks (model prog w) hp (classData C) cd := W.looks_clsIn kin hcd
  have pass : refuseLoop (.ref x) "__setattr__" cd.mro = pure () := by
    rw [hm, refuseLoop_ref, refuseLoop_ref]
    exact F.store_Exception.passes _
  rw [W.osa_eq, refuse_eq]
  refine wpAny_bind (wpAny_bind (inst.type.at (wpAny_bind (lm.at ?_))))
  rw [pass]
  refine wpAny_pure (wpAny_bind (inst.type.at (wpAny_bind ((W.looks_findIn kin ha).at (wpAny_bind (ln.at ?_))))))
  show wpAny _ _ (storeInOwnDict (.ref x) (.ref C) (.str nam u1) nam vv false) _ _ _
  obtain ⟨nm, bs, mro, ns, qn, hd, sn, sb, ab, col, del⟩ := cd
  dsimp only at hh
  subst hh
  unfold storeInOwnDict ownDictForStores
  repeat (first | with_reducible refine store_in_new ?_ ?_ | with_reducible refine wpAny_loadPart_at hx ?_ | with_reducible refine lc.at ?_ | wp_step)
  · exact ⟨_, #[], _, (Heap.get?_update_ne _ _ _ _ xs.symm).trans (Heap.get?_push_at rfl rfl), rfl, fun e he => absurd he (by simp), fun _ => rfl⟩
  · intro h2 tk2 hn2 same
    have hx1 : (hp.push { cls := .type "dict", data := .dict #[] }).get? x = some { cls := .ref C, data := .fields fv } := Heap.get?_push_of_some _ hx
    refine fin h2 tk2 hp.objs.size (fun b o hb ho => ?_) (Nat.le_refl _) xs.symm ?_ hn2
    · exact (same.2 b (Nat.ne_of_lt (Heap.lt_size ho))).trans ((Heap.get?_update_ne _ _ _ _ hb).trans (Heap.get?_push_of_some _ ho))
    · exact (same.2 x xs).trans (Heap.get?_update_self _ hx1 rfl)
end
end EgX
end PySem

/-! EgLow -/
set_option Elab.async false
set_option linter.all false
set_option maxRecDepth 100000
set_option maxHeartbeats 2000000
/-! ### an own error with the field given -/
namespace PySem
namespace EgX
open PySem.W PySem.Calls PyProof.Rows PySem.HandSPX
def iA_given (p1 p2 : Pos) : Arguments :=
  { posonlyargs := [], args := [{ arg := "self", annotation := none, pos := p1 }, { arg := "given", annotation := none, pos := p2 }],
    vararg := none, kwonlyargs := [], kw_defaults := [], kwarg := none, defaults := [] }
def iB_given (q1 q2 q3 q4 : Pos) : List Stmt := [.Assign [.Attribute (.Name "self" q1) "given" q2] (.Name "given" q3) q4]
def iS_given : Scope :=
  { kind := .function, names := [(PySem.Str.ofString "self", .local), (PySem.Str.ofString "given", .local)], isGenerator := false, isCoroutine := false, more := [] }
/-- the class cn at C under G, its __init__ at fI -/
structure Low_given (K : Frag) (mg : Str → Option Value) (cn qn : Str) (C G fI : Addr) : Prop where
  gC : mg cn = some (.ref C)
  cls : ∃ nm q N bs sn sub ab col dd k0 k1 k2 k3 k5, K.lookup C = some (excClassObj nm q C N bs (.ref G :: PySem.ESX.exTail) true sn sub ab col dd k0 k1 k2 k3 k5 "Exception.__new__")
  sa : findIn K (.ref C) "__setattr__" = some (some (.builtin "object.__setattr__"))
  ga : findIn K (.ref C) "__getattribute__" = some (some (.builtin "BaseException.__getattribute__"))
  gg : findIn K (.ref C) "__getattr__" = some none
  noN : findIn K (.ref C) "given" = some none
  iC : findIn K (.ref C) "__init__" = some (some (.ref fI))
  tC : typeIn K (.ref fI) = some (.type "function")
  kC : keepIn K (.ref C) = true
  exC : subIn K (.ref C) (.type "BaseException") = some true
  tyC : typeIn K (.ref C) = some (.type "type")
  hdC : hasDictIn K C = true
  te : exmOne K (.ref C) (.ref C) = some true
  fn : ∃ (oc : Value) (od : Option Addr) (doc pm : Value) (an : Option Addr) (cdv ct : Value) (osl : Array (Option Value)) (p1 p2 q1 q2 q3 q4 : Pos),
    K.lookup fI = some ⟨oc, od, .func (fnOf "__init__" qn (iA_given p1 p2) (iB_given q1 q2 q3 q4) iS_given .none .none doc pm an cdv ct), osl⟩ ∧ codeIn K cdv qn = true
structure InitEnd_given (h h' : Heap) (x C dx t1 : Addr) (v : Value) : Prop where
  keep : ∀ b o, b ≠ x → h.get? b = some o → h'.get? b = some o
  obj : h'.get? x = some { cls := .ref C, dict := some dx, data := .fields #[.ref t1, .none, .none, .none, .bool false, .none] }
  dbig : h.objs.size ≤ dx
  dne : dx ≠ x
  ns : h'.Ns1 dx (fun y => if y = "given" then some v else none)
structure Made_given (h h' : Heap) (e C d : Addr) (v : Value) : Prop where
  keep : ∀ b o, h.get? b = some o → h'.get? b = some o
  new : h.objs.size ≤ e
  obj : ∃ oe vs, h'.get? e = some oe ∧ oe.cls = .ref C ∧ oe.dict = some d ∧ oe.data = .fields vs ∧ vs[1]? = some .none
  dbig : h.objs.size ≤ d
  dne : d ≠ e
  ns : h'.Ns1 d (fun y => if y = "given" then some v else none)
section
variable {prog : Program} {w : World} {A : Around} {E : Value → Shared → Prop} {R : Result → Shared → Prop} {s : Shared} {K : Frag} {mg : Str → Option Value} {C G fI : Addr} {cn qn : Str}
end
end EgX
end PySem
namespace L2
open PySem PySem.Spec PyProof.Rows
section
variable {X : Cx} {C G fI : Addr} {cn qn : Str}
end
end L2

/-! EgCall -/
set_option Elab.async false
set_option linter.all false
set_option maxRecDepth 100000
set_option maxHeartbeats 2000000
/-! ## Defs whose calls carry what is known of the guards (repr of a list asks it) -/
namespace L2
open PySem PySem.Spec PyProof.Rows
abbrev Gd (A : Around) : Prop := A.guards = some []
/-- the def at f keeps sp, wherever nothing is being told by repr -/
structure FnG (P : Program) (w : World) (K : PySem.W.Frag) (mg : Str → Option Value) (base : Heap) (CX : CXT) (k : Nat) (f : Addr) (fd : FuncData) (ps : List Str) (sp : Sp) : Prop where
  len : ∀ vs H Q E, sp vs H Q E → vs.length = ps.length
  run : ∀ (A : Around) (outer : List Env) (s : Shared) (H : Hp) (args : Args) (us : List Value) (vs : List V) (Q : VK) (E : XK), Room k A → Gd A → Env0 P w K mg base A outer s H →
    BindsTo s fd args (ps.zip us) → Vals vs us → sp vs H Q E → codeAny (model P w) A (.call (.ref f) args) (CR CX outer P w H s Q E) s
section
variable {X : Cx} {CX : CXT} {k : Nat} {f : Addr} {fd : FuncData} {ps ks : List Str} {sp : Sp} {E : St → XK} {x : Str} {p pos : Pos} {e : Expr} {es : List Expr} {kws : List Keyword} {t tk : TA}
theorem run_g {pins : List (Addr × Obj)} {σ : St} {H : Hp} {s : Shared} {Q : VK} {us ws : List Value} {vs : List V} {kw : List (Str × Value)} (F : FnG X.prog X.w X.K X.mg X.base CX k f fd ps sp) (hr : Room k X.A) (hgd : Gd X.A)
    (hb : BindsTo s fd ⟨us, kw⟩ (ps.zip ws)) (hx : PassesAt CX X σ (E σ)) (I : Inv X pins σ H s) (r : Vals vs ws) (h : sp vs H Q (E σ)) :
    wpAny (model X.prog X.w) X.A (call (.ref f) us kw) (EP X pins σ Q) X.xe s := by
  refine wpAny_call (codeAny_mono (F.run X.A X.stack s H ⟨us, kw⟩ ws vs Q (E σ) hr hgd I.env0 hb r h) fun r s' hq => ?_)
  cases r with
  | error e => exact hx pins H s e s' I hq
  | ok fl =>
    cases fl with
    | ret u => exact I.after hq
    | next => exact False.elim hq
    | brk => exact False.elim hq
    | cont => exact False.elim hq
/-- the arguments' values put in the parameters' order -/
def tCallG (sp : Sp) (E : St → XK) (t : TA) : TE := fun σ H Q => t σ H fun vs H1 => sp vs H1 Q (E σ)
theorem pe_callG (F : FnG X.prog X.w X.K X.mg X.base CX k f fd ps sp) (hr : Room k X.A) (hgd : Gd X.A) (hg : Gl X x) (hm : X.mg x = some (.ref f)) (hk : PySem.W.keepIn X.K (.ref f) = true) (hb : Binds X.K fd ps [])
    (hx : ∀ σ, PassesAt CX X σ (E σ)) (ha : PA X (e :: es) t) (hdb : (x == ("__debug__" : Str)) = false := by decide)
    (he : starEach (e :: es) X.env = (false, eval e X.env) :: starEach es X.env := by rfl) (hpl : (backTo pos (starEach es X.env)).any (·.1) = false := by rfl) :
    PE X (.Call (.Name x p) (e :: es) [] pos) (tCallG sp E t) := by
  refine ⟨fun pins s σ H Q I h => ?_⟩
  refine wpAny_Call_Name_kw (ld_glob I hg hm ?_ hdb)
  refine PySem.W.callWith_K (h₀ := X.base) I.ok.mod.kin hk (thn (ha.run pos pins s σ H _ I h) fun us s1 ⟨vs, H1, I1, r, q⟩ => ⟨I1.kIn, ?_⟩) he hpl
  have hl : us.length = ps.length := by rw [← r.length]; exact F.len _ _ _ _ q
  have b := hb s1 us I1.kIn (by rw [List.append_nil]; exact hl)
  rw [List.append_nil] at b
  exact run_g F hr hgd b (hx σ) I1 r q
/-- how a call with the keywords ks binds: gV puts the positional values and the keywords' values in the parameters' order -/
structure KB (fd : FuncData) (ps ks : List Str) (n : Nat) (g : List Value → List Value → List Value) (gV : List V → List V → List V) : Prop where
  to : ∀ (s : Shared) (us ws : List Value), us.length = n → ws.length = ks.length → BindsTo s fd ⟨us, ks.zip ws⟩ (ps.zip (g us ws))
  rel : ∀ {vs : List V} {us : List Value} {zs : List V} {ws : List Value}, Vals vs us → Vals zs ws → us.length = n → ws.length = ks.length → Vals (gV vs zs) (g us ws)
variable {n : Nat} {g : List Value → List Value → List Value} {gV : List V → List V → List V}
end
section
variable {P : Program} {w : World} {K : PySem.W.Frag} {mg : Str → Option Value} {base : Heap} {CX : CXT}
/-- a def by its body -/
theorem fng_of {k : Nat} {f : Addr} {name qual : Str} {params : Arguments} {body : List Stmt} {scope : Scope} {dV kV doc pm cdv ct oc : Value} {an od : Option Addr}
    {osl : Array (Option Value)} {N ps : List Str} {sp : Sp} (lk : K.lookup f = some ⟨oc, od, .func (PySem.W.fnOf name qual params body scope dV kV doc pm an cdv ct), osl⟩) (hcd : PySem.W.codeIn K cdv qual = true) (S : FnScope N ps scope)
    (len : ∀ vs H Q E, sp vs H Q E → vs.length = ps.length)
    (hbody : ∀ (A : Around) (outer : List Env) (s : Shared) (H : Hp) (vs : List V) (Q : VK) (E : XK), Room k (A.deeper (envOfC qual scope s.heap.objs.size f cdv)) → Gd A → sp vs H Q E →
      ∃ t, PSs (cxOf CX P w K mg base N qual scope f cdv A outer s H E) body t ∧ t { nx := fun _ H' => Q .non H', rt := Q } (start N vs) H) :
    FnG P w K mg base CX (k + 1) f (PySem.W.fnOf name qual params body scope dV kV doc pm an cdv ct) ps sp := by
  refine ⟨len, fun A outer s H args us vs Q E hr hgd e0 hb r hsp => ?_⟩
  have hl := len _ _ _ _ hsp
  have kx : K.In s.heap := e0.mod.kin.keeps fun b o e => (e0.bs b o e).1
  have lim : s.heap.NoLimit := e0.mod.nolimit.keeps fun b o e => (e0.bs b o e).1
  have hkind : ∀ y ∈ ps.zip us, scope.names.lookup y.1 = some .local ∨ (scope.names.lookup y.1 = some .cell ∧ ((cellsFrom (s.heap.objs.size + 1) scope.names []).lookup y.1).isSome = true) := by
    rintro ⟨n, v⟩ hy
    rcases S.par n (List.of_mem_zip hy).1 with q | q
    · exact .inl q
    · exact .inr ⟨q, PySem.W.cellsFrom_some _ _ _ (.inl q)⟩
  refine codeAny_call_function hr.depth (kx _ _ lk) rfl S.co S.gen rfl (PySem.W.codeRec_of kx hcd) (hb _ _ _ _ ?_)
  refine wpAny_newFunctionEnv_cells S.kind hkind fun env he s1 x => ?_
  subst he
  refine ⟨lim.keeps x.toInCall.keep, codeAny_func ?_⟩
  obtain ⟨t, ht, hq⟩ := hbody A outer s H vs Q E (hr.deeper _) hgd hsp
  have inv : Inv (cxOf CX P w K mg base N qual scope f cdv A outer s H E) [] (start N vs) H s1 := inv_start S hr.hd e0 hl r x
  refine wpAny_mono (ht.run [] s1 (start N vs) H _ inv hq) (fun fl s' hs => ?_) fun e s' hs => hs
  cases fl with
  | ret u =>
    obtain ⟨v, σ', H', J, rv, q⟩ := hs
    exact ⟨v, H', J.os, J.bare, J.base, J.hok, rv, q⟩
  | next =>
    obtain ⟨σ', H', J, q⟩ := hs
    exact ⟨V.non, H', J.os, J.bare, J.base, J.hok, rfl, q⟩
  | brk =>
    obtain ⟨_, _, _, q⟩ := hs
    exact False.elim q
  | cont =>
    obtain ⟨_, _, _, q⟩ := hs
    exact False.elim q
/-- every def of the text is taken as one that may raise -/
theorem Fun.okG {x qual : Str} {st : Stmt} {f : Addr} {fd : FuncData} {N ps : List Str} {k : Nat} {sp : Sp} (F : Fun K x qual st f fd) (S : FnScope N ps (defScope st)) (len : ∀ vs H Q E, sp vs H Q E → vs.length = ps.length)
    (hbody : ∀ (cdv : Value) (A : Around) (outer : List Env) (s : Shared) (H : Hp) (vs : List V) (Q : VK) (E : XK), Room k (A.deeper (envOfC qual (defScope st) s.heap.objs.size f cdv)) → Gd (A.deeper (envOfC qual (defScope st) s.heap.objs.size f cdv)) → sp vs H Q E →
      ∃ t, PSs (cxOf (L2.CX P w) P w K mg base N qual (defScope st) f cdv A outer s H E) (defBody st) t ∧ t { nx := fun _ H' => Q .non H', rt := Q } (start N vs) H) : FnG P w K mg base (L2.CX P w) (k + 1) f fd ps sp := by
  obtain ⟨oc, od, kV, doc, pm, an, cdv, ct, osl, rfl, lk, hcd⟩ := F.ex
  exact fng_of lk hcd S len fun A outer s H vs Q E hr hgd hsp => hbody cdv A outer s H vs Q E hr hgd hsp
theorem FnG.mono {j k : Nat} {f : Addr} {fd : FuncData} {ps : List Str} {sp : Sp} (F : FnG P w K mg base CX j f fd ps sp) (h : j ≤ k) : FnG P w K mg base CX k f fd ps sp :=
  ⟨F.len, fun A outer s H args us vs Q E hr => F.run A outer s H args us vs Q E (hr.mono h)⟩
end
end L2

/-! EgData -/
set_option Elab.async false
set_option linter.all false
set_option maxRecDepth 100000
set_option maxHeartbeats 2000000
/-! ## Data as read at a known part of the heap -/
namespace Eg
open PySem L2
def keyD : Key → PyData
  | .inl i => .int i
  | .inr x => .str x
/-- an object as such, whatever stands there -/
def ptrD (p : Addr) : PyData := .dict [(.none, .int ((2 : Int) ^ 3000 + (p : Nat)))]
mutual
inductive Rp (G : Hp) : V → PyData → Prop
  | non : Rp G .non .none
  | bl (b : Bool) : Rp G (.bl b) (.bool b)
  | int (i : Int) : Rp G (.int i) (.int i)
  | str (x : Str) : Rp G (.str x) (.str x)
  | lst {a : Addr} {xs : List V} {ds : List PyData} : G a = some (.lst xs) → RpL G xs ds → Rp G (.ref a) (.list ds)
  | tup {a : Addr} {xs : List V} {ds : List PyData} : G a = some (.tup xs) → RpL G xs ds → Rp G (.ref a) (.tuple ds)
  | dct {a : Addr} {kvs : List (Key × V)} {es : List (PyData × PyData)} : G a = some (.dK kvs) → RpK G kvs es → Rp G (.ref a) (.dict es)
  | ptr (p : Addr) : Rp G (.ref p) (ptrD p)
inductive RpL (G : Hp) : List V → List PyData → Prop
  | nil : RpL G [] []
  | cons {v : V} {vs : List V} {d : PyData} {ds : List PyData} : Rp G v d → RpL G vs ds → RpL G (v :: vs) (d :: ds)
inductive RpK (G : Hp) : List (Key × V) → List (PyData × PyData) → Prop
  | nil : RpK G [] []
  | cons {k : Key} {v : V} {kvs : List (Key × V)} {d : PyData} {es : List (PyData × PyData)} : Rp G v d → RpK G kvs es → RpK G ((k, v) :: kvs) ((keyD k, d) :: es)
end
/-- all that is tracked stays -/
def Ex (H H' : Hp) : Prop := ∀ a o, H a = some o → H' a = some o
theorem Ex.refl (H : Hp) : Ex H H := fun _ _ h => h
theorem Ex.trans {H H1 H2 : Hp} (a : Ex H H1) (b : Ex H1 H2) : Ex H H2 := fun x o h => b x o (a x o h)
theorem Ex.new {H : Hp} {p : Addr} {o : HO} (h : H p = none) : Ex H (upd H p o) := fun a u e => by
  rw [upd_ne (ne_of_none e h)]
  exact e
mutual
theorem Rp.mono {G G' : Hp} (e : Ex G G') : ∀ (d : PyData) (v : V), Rp G v d → Rp G' v d
  | .none, _, h => by cases h; exact .non
  | .bool b, _, h => by cases h; exact .bl b
  | .int i, _, h => by cases h; exact .int i
  | .str x, _, h => by cases h; exact .str x
  | .list ds, _, h => by
    cases h with
    | lst h1 h2 => exact .lst (e _ _ h1) (RpL.mono e ds _ h2)
  | .tuple ds, _, h => by
    cases h with
    | tup h1 h2 => exact .tup (e _ _ h1) (RpL.mono e ds _ h2)
  | .dict es, _, h => by
    cases h with
    | dct h1 h2 => exact .dct (e _ _ h1) (RpK.mono e es _ h2)
    | ptr p => exact .ptr p
theorem RpL.mono {G G' : Hp} (e : Ex G G') : ∀ (ds : List PyData) (vs : List V), RpL G vs ds → RpL G' vs ds
  | [], _, h => by cases h; exact .nil
  | d :: ds, _, h => by
    cases h with
    | cons h1 h2 => exact .cons (Rp.mono e d _ h1) (RpL.mono e ds _ h2)
theorem RpK.mono {G G' : Hp} (e : Ex G G') : ∀ (ds : List (PyData × PyData)) (vs : List (Key × V)), RpK G vs ds → RpK G' vs ds
  | [], _, h => by cases h; exact .nil
  | (k, d) :: ds, _, h => by
    cases h with
    | cons h1 h2 => exact .cons (Rp.mono e d _ h1) (RpK.mono e ds _ h2)
end
theorem RpL.len {G : Hp} : ∀ {vs : List V} {ds : List PyData}, RpL G vs ds → vs.length = ds.length
  | [], _, h => by cases h; rfl
  | v :: vs, _, h => by
    cases h with
    | cons h1 h2 =>
      rw [List.length_cons, List.length_cons, RpL.len h2]
theorem RpL.get {G : Hp} : ∀ {vs : List V} {ds : List PyData} {i : Nat} {d : PyData}, RpL G vs ds → ds[i]? = some d → ∃ v, vs[i]? = some v ∧ Rp G v d
  | [], _, _, _, h, e => by cases h; simp at e
  | v :: vs, _, 0, _, h, e => by
    cases h with
    | cons h1 h2 =>
      simp at e
      subst e
      exact ⟨v, by simp, h1⟩
  | v :: vs, _, i + 1, _, h, e => by
    cases h with
    | cons h1 h2 =>
      obtain ⟨w, q1, q2⟩ := RpL.get (i := i) h2 (by simpa using e)
      exact ⟨w, by simpa using q1, q2⟩
theorem RpL.app {G : Hp} : ∀ {vs ws : List V} {ds es : List PyData}, RpL G vs ds → RpL G ws es → RpL G (vs ++ ws) (ds ++ es)
  | [], _, _, _, h, k => by cases h; exact k
  | v :: vs, _, _, _, h, k => by
    cases h with
    | cons h1 h2 => exact .cons h1 (RpL.app h2 k)
theorem RpL.take {G : Hp} : ∀ {vs : List V} {ds : List PyData} (n : Nat), RpL G vs ds → RpL G (vs.take n) (ds.take n)
  | [], _, n, h => by cases h; simp; exact .nil
  | v :: vs, _, 0, h => by simp; exact .nil
  | v :: vs, _, n + 1, h => by
    cases h with
    | cons h1 h2 => simpa using RpL.cons h1 (RpL.take n h2)
theorem RpL.drop {G : Hp} : ∀ {vs : List V} {ds : List PyData} (n : Nat), RpL G vs ds → RpL G (vs.drop n) (ds.drop n)
  | [], _, n, h => by cases h; simp; exact .nil
  | v :: vs, _, 0, h => by simpa using h
  | v :: vs, _, n + 1, h => by
    cases h with
    | cons h1 h2 => simpa using RpL.drop n h2
theorem RpL.set {G : Hp} {x : V} {d : PyData} (r : Rp G x d) : ∀ {vs : List V} {ds : List PyData} (n : Nat), RpL G vs ds → RpL G (vs.set n x) (ds.set n d)
  | [], _, n, h => by cases h; simp; exact .nil
  | v :: vs, _, 0, h => by
    cases h with
    | cons h1 h2 => simpa using RpL.cons r h2
  | v :: vs, _, n + 1, h => by
    cases h with
    | cons h1 h2 => simpa using RpL.cons h1 (RpL.set r n h2)
theorem RpL.rev {G : Hp} : ∀ {vs : List V} {ds : List PyData}, RpL G vs ds → RpL G vs.reverse ds.reverse
  | [], _, h => by cases h; exact .nil
  | v :: vs, _, h => by
    cases h with
    | cons h1 h2 =>
      rw [List.reverse_cons, List.reverse_cons]
      exact RpL.app (RpL.rev h2) (.cons h1 .nil)
/-- lists of plain ints, bools, texts -/
theorem RpL.ints {G : Hp} : ∀ {vs : List V} {ns : List Int}, RpL G vs (ns.map .int) → vs = ns.map V.int
  | [], [], _ => rfl
  | [], n :: ns, h => by cases h
  | v :: vs, [], h => by cases h
  | v :: vs, n :: ns, h => by
    cases h with
    | cons h1 h2 =>
      cases h1
      rw [RpL.ints h2]
      rfl
theorem RpL.of_ints {G : Hp} : ∀ (ns : List Int), RpL G (ns.map V.int) (ns.map .int)
  | [] => .nil
  | n :: ns => .cons (.int n) (RpL.of_ints ns)
theorem RpL.bools {G : Hp} : ∀ {vs : List V} {ns : List Bool}, RpL G vs (ns.map .bool) → vs = ns.map V.bl
  | [], [], _ => rfl
  | [], n :: ns, h => by cases h
  | v :: vs, [], h => by cases h
  | v :: vs, n :: ns, h => by
    cases h with
    | cons h1 h2 =>
      cases h1
      rw [RpL.bools h2]
      rfl
/-! ### the layer's own relation, and the library's -/
mutual
theorem Rp.dp {K : PySem.W.Frag} {G : Hp} : ∀ (d : PyData) (v : V), Rp G v d → d.hasDict = false → Dp K G v d
  | .none, _, h, _ => by cases h; exact .non
  | .bool b, _, h, _ => by cases h; exact .bl b
  | .int i, _, h, _ => by cases h; exact .int i
  | .str x, _, h, _ => by cases h; exact .str x
  | .list ds, _, h, e => by
    cases h with
    | lst h1 h2 => exact .lst (SqL.of h1) (RpL.dp ds _ h2 (by simpa [PyData.hasDict] using e))
  | .tuple ds, _, h, e => by
    cases h with
    | tup h1 h2 => exact .tup (SqT.of h1) (RpL.dp ds _ h2 (by simpa [PyData.hasDict] using e))
  | .dict es, _, h, e => by simp [PyData.hasDict] at e
theorem RpL.dp {K : PySem.W.Frag} {G : Hp} : ∀ (ds : List PyData) (vs : List V), RpL G vs ds → PyData.hasDictAll ds = false → DpAll K G vs ds
  | [], _, h, _ => by cases h; exact .nil
  | d :: ds, _, h, e => by
    cases h with
    | cons h1 h2 =>
      simp [PyData.hasDictAll] at e
      exact .cons (Rp.dp d _ h1 e.1) (RpL.dp ds _ h2 e.2)
end
section
variable {X : Cx} {pins : List (Addr × Obj)} {σ : St} {H : Hp} {s : Shared}
/-- the module's table of modules stands in the written part: nothing that is tracked is it -/
theorem nosys (I : Inv X pins σ H s) (hs : ∃ o, X.base.get? sysModules = some o) {a : Addr} {o : HO} (e : H a = some o) : sysModules ≠ a := by
  intro z
  obtain ⟨o1, h1⟩ := hs
  have h2 := (I.bs _ _ h1).2
  rw [z, e] at h2
  cases h2
mutual
theorem Rp.reads (I : Inv X pins σ H s) (hs : ∃ o, X.base.get? sysModules = some o) : ∀ (d : PyData) (v : V) (u : Value), Rp H v d → d.showable = true → RelV v u → ∃ as, Reads s.heap u d as ∧ sysModules ∉ as
  | .none, _, _, h, _, r => by
    cases h
    cases r
    exact ⟨_, .none, by simp⟩
  | .bool b, _, _, h, _, r => by
    cases h
    cases r
    exact ⟨_, .bool b, by simp⟩
  | .int i, _, _, h, _, r => by
    cases h
    obtain ⟨t, rfl⟩ := r
    exact ⟨_, .int i t, by simp⟩
  | .str x, _, _, h, _, r => by
    cases h
    obtain ⟨t, rfl⟩ := r
    exact ⟨_, .str x t, by simp⟩
  | .list ds, _, _, h, sh, r => by
    cases h with
    | lst h1 h2 =>
      cases r
      obtain ⟨its, rv, ⟨o, n, ho, hc, _, hd⟩, _⟩ := I.list (SqL.of h1)
      obtain ⟨as, hr, ha⟩ := RpL.reads I hs ds _ its h2 (by simpa [PyData.showable] using sh) rv
      refine ⟨_, .list ho hc hd hr, ?_⟩
      rw [List.mem_cons, not_or]
      exact ⟨nosys I hs h1, ha⟩
  | .tuple ds, _, _, h, sh, r => by
    cases h with
    | tup h1 h2 =>
      cases r
      obtain ⟨its, rv, ⟨o, ho, hc, n, hd⟩, _⟩ := I.tuple (SqT.of h1)
      obtain ⟨as, hr, ha⟩ := RpL.reads I hs ds _ its h2 (by simpa [PyData.showable] using sh) rv
      exact ⟨_, .tuple ho hc hd hr, ha⟩
  | .dict es, _, _, h, sh, r => by
    cases h with
    | dct h1 h2 =>
      cases r
      obtain ⟨z, hsy, vs, rel, o, e1, ep, ho, hx, hd, _, hp, _⟩ := dk_of I.hok h1
      obtain ⟨bs, r1, r2, n2⟩ := RpK.reads I hs es _ vs e1.toList h2 (by simpa [PyData.showable] using sh) rel hp
      refine ⟨_, .dict ho hx.1 hd r1 r2, ?_⟩
      rw [List.mem_append, List.mem_singleton, not_or]
      exact ⟨nosys I hs h1, n2⟩
    | ptr p =>
      exfalso
      have z : (((2 : Int) ^ 3000 + (p : Nat)).natAbs.log2 < 1920) := by simpa [ptrD, PyData.showable, PyData.showableKv] using sh
      have z2 : (2 : Nat) ^ 3000 ≤ ((2 : Int) ^ 3000 + (p : Nat)).natAbs := by
        have e : ((2 : Int) ^ 3000 + (p : Nat)) = (((2 : Nat) ^ 3000 + p : Nat) : Int) := by
          rw [Int.natCast_add, Int.natCast_pow]
          rfl
        rw [e, Int.natAbs_natCast]
        exact Nat.le_add_right _ _
      have z3 := (Nat.le_log2 (n := ((2 : Int) ^ 3000 + (p : Nat)).natAbs) (k := 3000) (by
        have : 0 < (2 : Nat) ^ 3000 := Nat.two_pow_pos 3000
        omega)).mpr z2
      omega
theorem RpL.reads (I : Inv X pins σ H s) (hs : ∃ o, X.base.get? sysModules = some o) : ∀ (ds : List PyData) (vs : List V) (us : List Value), RpL H vs ds → PyData.showableAll ds = true → Vals vs us → ∃ as, ReadsAll s.heap us ds as ∧ sysModules ∉ as
  | [], _, _, h, _, r => by
    cases h
    cases r
    exact ⟨_, .nil, by simp⟩
  | d :: ds, _, _, h, sh, r => by
    cases h with
    | cons h1 h2 =>
      cases r with
      | cons r1 r2 =>
        obtain ⟨as, q1, n1⟩ := Rp.reads I hs d _ _ h1 (by simp [PyData.showableAll] at sh; exact sh.1) r1
        obtain ⟨bs, q2, n2⟩ := RpL.reads I hs ds _ _ h2 (by simp [PyData.showableAll] at sh; exact sh.2) r2
        refine ⟨_, .cons q1 q2, ?_⟩
        rw [List.mem_append, not_or]
        exact ⟨n1, n2⟩
theorem RpK.reads (I : Inv X pins σ H s) (hs : ∃ o, X.base.get? sysModules = some o) : ∀ (es : List (PyData × PyData)) (kvs : List (Key × V)) (us : List (Key × Value)) (l : List DictEntry), RpK H kvs es → PyData.showableKv es = true → KV kvs us → Pairs (mixKind X.prog X.w) l us →
    ∃ bs : List Addr, ReadsAll s.heap (l.map (·.key)) (es.map (·.1)) [] ∧ ReadsAll s.heap (l.map (·.val)) (es.map (·.2)) bs ∧ sysModules ∉ bs
  | [], _, _, _, h, _, r, p => by
    cases h
    cases r
    cases p
    exact ⟨_, .nil, .nil, by simp⟩
  | (k, d) :: ds, _, _, _, h, sh, r, p => by
    cases h with
    | @cons k v kv d _ h1 h2 =>
      cases r with
      | cons r1 r2 =>
        cases p with
        | @cons e kv2 es2 us2 p0 p1 p2 =>
          obtain ⟨as, q1, n1⟩ := Rp.reads I hs d _ _ h1 (by simp [PyData.showableKv] at sh; exact sh.1.2) r1.2
          obtain ⟨bs, q0, q2, n2⟩ := RpK.reads I hs ds _ _ _ h2 (by simp [PyData.showableKv] at sh; exact sh.2) r2 p2
          have hk : Reads s.heap e.key (keyD k) [] := by
            have p0' := p0
            rw [← r1.1] at p0'
            rcases keyIs_shape p0' with ⟨i, t, e1, e2⟩ | ⟨x, t, e1, e2⟩
            · subst e1
              rw [e2]
              exact .int i t
            · subst e1
              rw [e2]
              exact .str x t
          refine ⟨as ++ bs, .cons hk q0, .cons (by show Reads s.heap e.val d as; rw [p1]; exact q1) q2, ?_⟩
          rw [List.mem_append, not_or]
          exact ⟨n1, n2⟩
end
/-- repr of data: of a size that is told, not too deep -/
def rRepr : List V → Hp → VK → Prop := fun xs H Q => ∃ v d, xs = [v] ∧ Rp H v d ∧ d.showable = true ∧ d.depth ≤ 50 ∧ d.shown.length ≤ sizeLine ∧ Q (.str d.shown) H
theorem call_reprD (hs : ∃ o, X.base.get? sysModules = some o) (hgd : Gd X.A) (hu : X.A.units + 64 < cLine) : CallR X (.builtin "repr") rRepr := by
  intro pins s σ H xs us Q I r h
  obtain ⟨v, d, rfl, hd, h1, h2, h3, q⟩ := h
  obtain ⟨u, rfl, ru⟩ := vals1 r
  obtain ⟨as, rd, hn⟩ := Rp.reads I hs d v u hd h1 ru
  have fin : ∀ h' u tk, (∀ b o, s.heap.get? b = some o → h'.get? b = some o) → EP X pins σ Q (.str d.shown u) { s with heap := h', toks := tk } := fun h' u tk k => ⟨.str d.shown, H, I.kept k, ⟨u, rfl⟩, q⟩
  cases rd with
  | none => exact PySem.P.repr_of_none ⟨.str _, H, I.tok _, ⟨_, rfl⟩, q⟩
  | bool b => exact PySem.P.repr_of_bool ⟨.str _, H, I.tok _, ⟨_, rfl⟩, q⟩
  | int i t => exact PySem.P.repr_of_int (by simpa [PyData.showable] using h1) ⟨.str _, H, I.tok _, ⟨_, rfl⟩, q⟩
  | str x t => exact PySem.P.repr_of_str ⟨.str _, H, I.tok _, ⟨_, rfl⟩, q⟩ h3
  | list a b c e => exact repr_of_reads' (.list a b c e) h1 (fun _ => hn) hgd (by omega) (fun _ _ z => z) fin h3
  | tuple a b c e => exact repr_of_reads' (.tuple a b c e) h1 (fun _ => hn) hgd (by omega) (fun _ _ z => z) fin h3
  | dict a b c e f => exact repr_of_reads' (.dict a b c e f) h1 (fun _ => hn) hgd (by omega) (fun _ _ z => z) fin h3
end
end Eg

/-! EgWp -/
set_option Elab.async false
set_option linter.all false
set_option maxRecDepth 100000
set_option maxHeartbeats 2000000
/-! ## What a reading does, said of data alone -/
namespace Eg
open PySem L2
/-- what a slot holds: anything; data; a list of its own, that nothing else holds; the box of draws; an error that a suite holds -/
inductive SD where
  | u | d (x : PyData) | own (xs : List PyData) | bx | exn (a C dd : Addr) (fld : Str) (x : PyData) | both (x : PyData) (p : Addr) | scr (K : PySem.W.Frag) (ns : List Int)
/-- the ints of a script, where it stands -/
def ScrAt (K : PySem.W.Frag) (G : Hp) (a : Addr) (ns : List Int) : Prop := (∃ o, G a = some (.frz o (.lst (ns.map V.int)))) ∨ ∀ H : Hp, SqL K H a (ns.map V.int)
theorem ScrAt.mono {K : PySem.W.Frag} {G G' : Hp} {a : Addr} {ns : List Int} (e : Ex G G') (h : ScrAt K G a ns) : ScrAt K G' a ns := h.elim (fun ⟨o, q⟩ => .inl ⟨o, e _ _ q⟩) .inr
theorem ScrAt.sq {K : PySem.W.Frag} {G H : Hp} {a : Addr} {ns : List Int} (e : Ex G H) (h : ScrAt K G a ns) : SqL K H a (ns.map V.int) := h.elim (fun ⟨o, q⟩ => .inl (.inr ⟨o, e _ _ q⟩)) fun q => q H
/-- which objects are boxes of draws -/
abbrev Bx := Addr → Prop
abbrev draws : Int := 1000000000000
structure Wd (b : Bx) (G H : Hp) (φ : Nat) : Prop where
  ex : Ex G H
  bx : ∀ p, b p → G p = none ∧ ∃ (g : Int) (f : Bool) (c n : Int), H p = some (.lst [.int g, .bl f, .int c, .int n]) ∧ 0 ≤ g ∧ 0 ≤ c ∧ c < 2147483647 ∧ 0 ≤ n ∧ n + φ ≤ draws
structure Go (b : Bx) (G H G' H' : Hp) : Prop where
  ex : Ex G G'
  keep : ∀ a o, ¬ b a → H a = some o → H' a = some o
  priv : ∀ a, ¬ b a → H a ≠ none → G a = none → G' a = none
theorem Go.refl (b : Bx) (G H : Hp) : Go b G H G H := ⟨Ex.refl _, fun _ _ _ h => h, fun _ _ _ h => h⟩
theorem Go.trans {b : Bx} {G H G1 H1 G2 H2 : Hp} (x : Go b G H G1 H1) (y : Go b G1 H1 G2 H2) : Go b G H G2 H2 :=
  ⟨x.ex.trans y.ex, fun a o hb h => y.keep a o hb (x.keep a o hb h), fun a hb h n => y.priv a hb (fun z => by
    cases e : H a with
    | none => exact h e
    | some o => rw [x.keep a o hb e] at z; cases z) (x.priv a hb h n)⟩
theorem Wd.ne {b : Bx} {G H : Hp} {φ : Nat} {p : Addr} (w : Wd b G H φ) (hp : H p = none) : ¬ b p := fun z => by
  obtain ⟨_, g, f, c, n, e, _⟩ := w.bx p z
  rw [hp] at e
  cases e
theorem Wd.gn {b : Bx} {G H : Hp} {φ : Nat} {p : Addr} (w : Wd b G H φ) (hp : H p = none) : G p = none := by
  cases e : G p with
  | none => rfl
  | some o => rw [w.ex p o e] at hp; cases hp
theorem Wd.less {b : Bx} {G H : Hp} {φ φ' : Nat} (w : Wd b G H φ) (h : φ' ≤ φ) : Wd b G H φ' := ⟨w.ex, fun p e => by
  obtain ⟨g0, g, f, c, n, e, h1, h2, h3, h4, h5⟩ := w.bx p e
  exact ⟨g0, g, f, c, n, e, h1, h2, h3, h4, by omega⟩⟩
/-- a new object that is known from now on -/
theorem Wd.laid {b : Bx} {G H : Hp} {φ : Nat} {p : Addr} {o : HO} (w : Wd b G H φ) (hp : H p = none) : Wd b (upd G p o) (upd H p o) φ := ⟨fun a u e => by
    by_cases h : a = p
    · subst h; rw [upd_same] at e ⊢; exact e
    · rw [upd_ne h] at e ⊢; exact w.ex a u e, fun q e => by
    obtain ⟨g0, g, f, c, n, e1, r⟩ := w.bx q e
    have hn : q ≠ p := fun z => by subst z; exact w.ne hp e
    exact ⟨by rw [upd_ne hn]; exact g0, g, f, c, n, by rw [upd_ne hn]; exact e1, r⟩⟩
theorem Go.laid {b : Bx} {G H : Hp} {φ : Nat} {p : Addr} {o : HO} (w : Wd b G H φ) (hp : H p = none) : Go b G H (upd G p o) (upd H p o) :=
  ⟨Ex.new (w.gn hp), fun a u _ e => by rw [upd_ne (ne_of_none e hp)]; exact e, fun a _ h n => by
    have hn : a ≠ p := fun z => h (by rw [z]; exact hp)
    rw [upd_ne hn]; exact n⟩
/-- a new object that is nobody's yet -/
theorem Wd.aside {b : Bx} {G H : Hp} {φ : Nat} {p : Addr} {o : HO} (w : Wd b G H φ) (hp : H p = none) : Wd b G (upd H p o) φ :=
  ⟨fun a u e => by rw [upd_ne (ne_of_none (w.ex a u e) hp)]; exact w.ex a u e, fun q e => by
    obtain ⟨g0, g, f, c, n, e1, r⟩ := w.bx q e
    have hn : q ≠ p := fun z => by subst z; exact w.ne hp e
    exact ⟨g0, g, f, c, n, by rw [upd_ne hn]; exact e1, r⟩⟩
theorem Go.aside {b : Bx} {G H : Hp} {φ : Nat} {p : Addr} {o : HO} (w : Wd b G H φ) (hp : H p = none) : Go b G H G (upd H p o) :=
  ⟨Ex.refl _, fun a u _ e => by rw [upd_ne (ne_of_none e hp)]; exact e, fun a _ h n => n⟩
/-- an own object is changed -/
theorem Wd.put {b : Bx} {G H : Hp} {φ : Nat} {p : Addr} {o : HO} (w : Wd b G H φ) (hp : G p = none) (hb : ¬ b p) : Wd b G (upd H p o) φ :=
  ⟨fun a u e => by rw [upd_ne (ne_of_none e hp)]; exact w.ex a u e, fun q e => by
    obtain ⟨g0, g, f, c, n, e1, r⟩ := w.bx q e
    have hn : q ≠ p := fun z => by subst z; exact hb e
    exact ⟨g0, g, f, c, n, by rw [upd_ne hn]; exact e1, r⟩⟩
/-- an own object becomes known -/
theorem Wd.know {b : Bx} {G H : Hp} {φ : Nat} {p : Addr} {o : HO} (w : Wd b G H φ) (hp : H p = some o) (hb : ¬ b p) : Wd b (upd G p o) H φ :=
  ⟨fun a u e => by
    by_cases h : a = p
    · subst h; rw [upd_same] at e; cases e; exact hp
    · rw [upd_ne h] at e; exact w.ex a u e, fun q e => by
    obtain ⟨g0, r⟩ := w.bx q e
    have hn : q ≠ p := fun z => by subst z; exact hb e
    exact ⟨by rw [upd_ne hn]; exact g0, r⟩⟩

inductive SlR (b : Bx) (H0 G H : Hp) : Option V → SD → Prop
  | u {o : Option V} : SlR b H0 G H o .u
  | d {v : V} {x : PyData} : Rp G v x → SlR b H0 G H (some v) (.d x)
  | own {p : Addr} {xs : List PyData} {vs : List V} : H p = some (.lst vs) → G p = none → H0 p = none → ¬ b p → RpL G vs xs → SlR b H0 G H (some (.ref p)) (.own xs)
  | bx {p : Addr} : b p → SlR b H0 G H (some (.ref p)) .bx
  | exn {a C dd : Addr} {fld : Str} {x : PyData} {v : V} : G dd = some (.xd [(fld, v)]) → Rp G v x → SlR b H0 G H (some (.ref a)) (.exn a C dd fld x)
  | both {p : Addr} {x : PyData} : Rp G (.ref p) x → SlR b H0 G H (some (.ref p)) (.both x p)
  | scr {K : PySem.W.Frag} {a : Addr} {ns : List Int} : ScrAt K G a ns → SlR b H0 G H (some (.ref a)) (.scr K ns)
structure Sl (b : Bx) (H0 G H : Hp) (σ : L2.St) (δ : List SD) : Prop where
  len : σ.length = δ.length
  at_ : ∀ (i : Nat) (o : Option V) (s : SD), σ[i]? = some o → δ[i]? = some s → SlR b H0 G H o s
  apart : ∀ (i j : Nat) (p : Addr) (xs ys : List PyData), i ≠ j → σ[i]? = some (some (.ref p)) → δ[i]? = some (.own xs) → δ[j]? = some (.own ys) → σ[j]? ≠ some (some (.ref p))
section
variable {b : Bx} {H0 G H G' H' : Hp} {σ : L2.St} {δ : List SD} {φ : Nat}
theorem SlR.go {o : Option V} {s : SD} (g : Go b G H G' H') (h : SlR b H0 G H o s) : SlR b H0 G' H' o s := by
  cases h with
  | u => exact .u
  | d r => exact .d (Rp.mono g.ex _ _ r)
  | own h1 h2 h3 h4 h5 => exact .own (g.keep _ _ h4 h1) (g.priv _ h4 (by rw [h1]; simp) h2) h3 h4 (RpL.mono g.ex _ _ h5)
  | bx e => exact .bx e
  | exn e r => exact .exn (g.ex _ _ e) (Rp.mono g.ex _ _ r)
  | both r => exact .both (Rp.mono g.ex _ _ r)
  | scr r => exact .scr (r.mono g.ex)
theorem Sl.go (g : Go b G H G' H') (h : Sl b H0 G H σ δ) : Sl b H0 G' H' σ δ := ⟨h.len, fun i o s e1 e2 => (h.at_ i o s e1 e2).go g, h.apart⟩
theorem Sl.get (h : Sl b H0 G H σ δ) {i : Nat} {s : SD} (e : δ[i]? = some s) : ∃ o, σ[i]? = some o ∧ SlR b H0 G H o s := by
  have hi : i < δ.length := (List.getElem?_eq_some_iff.mp e).1
  have hi2 : i < σ.length := by rw [h.len]; exact hi
  exact ⟨σ[i], List.getElem?_eq_getElem hi2, h.at_ i _ s (List.getElem?_eq_getElem hi2) e⟩
/-- a slot is set to what no slot owns -/
theorem Sl.set (h : Sl b H0 G H σ δ) {i : Nat} {o : Option V} {s : SD} (r : SlR b H0 G H o s) (hs : ∀ xs, s ≠ .own xs) : Sl b H0 G H (σ.set i o) (δ.set i s) := by
  refine ⟨by rw [List.length_set, List.length_set, h.len], fun j q t e1 e2 => ?_, fun j k p xs ys hjk e1 e2 e3 e4 => ?_⟩
  · by_cases hij : i = j
    · subst hij
      have hl : i < σ.length := by simpa using (List.getElem?_eq_some_iff.mp e1).1
      rw [List.getElem?_set_self hl] at e1
      rw [List.getElem?_set_self (by rw [← h.len]; exact hl)] at e2
      cases e1; cases e2; exact r
    · rw [List.getElem?_set_ne hij] at e1 e2
      exact h.at_ j q t e1 e2
  · by_cases hij : i = j
    · subst hij
      have hl : i < δ.length := by simpa using (List.getElem?_eq_some_iff.mp e2).1
      rw [List.getElem?_set_self hl] at e2
      cases e2; exact hs _ rfl
    · by_cases hik : i = k
      · subst hik
        have hl : i < δ.length := by simpa using (List.getElem?_eq_some_iff.mp e3).1
        rw [List.getElem?_set_self hl] at e3
        cases e3; exact hs _ rfl
      · rw [List.getElem?_set_ne hij] at e1 e2
        rw [List.getElem?_set_ne hik] at e3 e4
        exact h.apart j k p xs ys hjk e1 e2 e3 e4
/-- a slot is set to a new list of its own -/
theorem Sl.setOwn (h : Sl b H0 G H σ δ) {i : Nat} {p : Addr} {xs : List PyData} (r : SlR b H0 G H (some (.ref p)) (.own xs)) (hp : ∀ j ys, j ≠ i → δ[j]? = some (.own ys) → σ[j]? ≠ some (some (.ref p))) :
    Sl b H0 G H (σ.set i (some (.ref p))) (δ.set i (.own xs)) := by
  refine ⟨by rw [List.length_set, List.length_set, h.len], fun j q t e1 e2 => ?_, fun j k p' xs' ys hjk e1 e2 e3 e4 => ?_⟩
  · by_cases hij : i = j
    · subst hij
      have hl : i < σ.length := by simpa using (List.getElem?_eq_some_iff.mp e1).1
      rw [List.getElem?_set_self hl] at e1
      rw [List.getElem?_set_self (by rw [← h.len]; exact hl)] at e2
      cases e1; cases e2; exact r
    · rw [List.getElem?_set_ne hij] at e1 e2
      exact h.at_ j q t e1 e2
  · by_cases hij : i = j
    · subst hij
      have hl : i < σ.length := by simpa using (List.getElem?_eq_some_iff.mp e1).1
      rw [List.getElem?_set_self hl] at e1
      cases e1
      rw [List.getElem?_set_ne hjk] at e3 e4
      exact hp k ys (Ne.symm hjk) e3 e4
    · by_cases hik : i = k
      · subst hik
        have hl : i < σ.length := by simpa using (List.getElem?_eq_some_iff.mp e4).1
        rw [List.getElem?_set_self hl] at e4
        cases e4
        rw [List.getElem?_set_ne hij] at e1 e2
        exact hp j xs' (Ne.symm hij) e2 e1
      · rw [List.getElem?_set_ne hij] at e1 e2
        rw [List.getElem?_set_ne hik] at e3 e4
        exact h.apart j k p' xs' ys hjk e1 e2 e3 e4
/-- the own lists of a frame are apart from what is new -/
theorem Sl.newOwn (h : Sl b H0 G H σ δ) {p : Addr} (hp : H p = none) (j : Nat) (ys : List PyData) (e : δ[j]? = some (.own ys)) : σ[j]? ≠ some (some (.ref p)) := fun z => by
  have r := h.at_ j _ _ z e
  cases r with
  | own h1 _ _ _ _ => rw [hp] at h1; cases h1
end

/-! ### expressions -/
abbrev XC := Addr → Str → PyData → Nat → Prop
abbrev X0 : XC := fun _ _ _ _ => False
/-- arguments: data, or the box -/
inductive AV where
  | d (x : PyData) | bx | both (x : PyData) (p : Addr) | scr (K : PySem.W.Frag) (ns : List Int)
inductive ArgR (b : Bx) (G : Hp) : V → AV → Prop
  | d {v : V} {x : PyData} : Rp G v x → ArgR b G v (.d x)
  | bx {p : Addr} : b p → ArgR b G (.ref p) .bx
  | both {p : Addr} {x : PyData} : Rp G (.ref p) x → ArgR b G (.ref p) (.both x p)
  | scr {K : PySem.W.Frag} {a : Addr} {ns : List Int} : ScrAt K G a ns → ArgR b G (.ref a) (.scr K ns)
inductive ArgsR (b : Bx) (G : Hp) : List V → List AV → Prop
  | nil : ArgsR b G [] []
  | cons {v : V} {a : AV} {vs : List V} {as : List AV} : ArgR b G v a → ArgsR b G vs as → ArgsR b G (v :: vs) (a :: as)
/-- an operation on two values, on one, on a list of values -/
def RD (r : R2) (x y : PyData) (φ : Nat) (K : PyData → Nat → Prop) : Prop :=
  ∀ (b : Bx) (G H : Hp) (v w : V) (Q : VK), Wd b G H φ → Rp G v x → Rp G w y → (∀ z d φ' G' H', Wd b G' H' φ' → Go b G H G' H' → Rp G' z d → K d φ' → Q z H') → r v w H Q
def RU (r : V → Hp → VK → Prop) (x : PyData) (φ : Nat) (K : PyData → Nat → Prop) : Prop :=
  ∀ (b : Bx) (G H : Hp) (v : V) (Q : VK), Wd b G H φ → Rp G v x → (∀ z d φ' G' H', Wd b G' H' φ' → Go b G H G' H' → Rp G' z d → K d φ' → Q z H') → r v H Q
def RL (r : List V → Hp → VK → Prop) (as : List AV) (φ : Nat) (K : PyData → Nat → Prop) : Prop :=
  ∀ (b : Bx) (G H : Hp) (vs : List V) (Q : VK), Wd b G H φ → ArgsR b G vs as → (∀ z d φ' G' H', Wd b G' H' φ' → Go b G H G' H' → Rp G' z d → K d φ' → Q z H') → r vs H Q
theorem ArgR.mono {b : Bx} {G G' : Hp} {v : V} {a : AV} (e : Ex G G') (h : ArgR b G v a) : ArgR b G' v a := by
  cases h with
  | d r => exact .d (Rp.mono e _ _ r)
  | bx e => exact .bx e
  | both r => exact .both (Rp.mono e _ _ r)
  | scr r => exact .scr (r.mono e)
section
variable {W : WX} {δ : List SD} {φ : Nat} {K : PyData → Nat → Prop} {XK : XC} {te ta tb tc : TE} {t u : TT}
/-! tests -/
/-! arguments -/
theorem ArgsR.data {b : Bx} {G : Hp} : ∀ {vs : List V} {xs : List PyData}, ArgsR b G vs (xs.map .d) → RpL G vs xs
  | [], [], _ => .nil
  | [], _ :: _, h => by cases h
  | _ :: _, [], h => by cases h
  | v :: vs, x :: xs, h => by
    cases h with
    | cons h1 h2 =>
      cases h1 with
      | d r => exact .cons r (ArgsR.data h2)
/-! displays -/
/-! calls of built-ins by values, calls of defs -/
/-- a def's promise, by data: what it hands back (K), a new list that it hands back (F), an error that it lets out -/
abbrev PD := List AV → Nat → (PyData → Nat → Prop) → (List PyData → Nat → Prop) → XC → Prop
/-- what was new behind g1 was new ahead of it -/
theorem Go.was {b : Bx} {G H G' H' : Hp} {φ : Nat} {p : Addr} (g : Go b G H G' H') (w : Wd b G' H' φ) (h : H' p = none) : H p = none := by
  cases z : H p with
  | none => rfl
  | some o =>
    rw [g.keep p o (w.ne h) z] at h
    cases h
theorem ArgsR.len {b : Bx} {G : Hp} {vs : List V} {as : List AV} (h : ArgsR b G vs as) : vs.length = as.length := by
  induction h with
  | nil => rfl
  | cons _ _ ih => rw [List.length_cons, List.length_cons, ih]
theorem ArgsR.mono {b : Bx} {G G' : Hp} {vs : List V} {as : List AV} (e : Ex G G') (h : ArgsR b G vs as) : ArgsR b G' vs as := by
  induction h with
  | nil => exact .nil
  | cons h1 _ ih => exact .cons (h1.mono e) ih
end
end Eg

/-! EgWs -/
set_option Elab.async false
set_option linter.all false
set_option maxRecDepth 100000
set_option maxHeartbeats 2000000
namespace Eg
open PySem L2
/-! ## statements -/
structure DE where
  nx : List SD → Nat → Prop
  bk : List SD → Nat → Prop
  ct : List SD → Nat → Prop
  rt : PyData → Nat → Prop
  rf : List PyData → Nat → Prop
  xx : Addr → Str → PyData → List SD → Nat → Prop
/-- from a def's entry on; b0: the boxes at the entry -/
structure St (b0 : Bx) (G0 H0 : Hp) (b : Bx) (G H : Hp) : Prop where
  go : Go b0 G0 H0 G H
  sub : ∀ p, b0 p → b p
  new : ∀ p, b p → ¬ b0 p → H0 p = none
theorem St.step {b0 b : Bx} {G0 H0 G H G' H' : Hp} (s : St b0 G0 H0 b G H) (g : Go b G H G' H') : St b0 G0 H0 b G' H' := by
  have nb : ∀ a o, ¬ b0 a → H0 a = some o → ¬ b a := fun a o h e z => by
    rw [s.new a z h] at e
    cases e
  refine ⟨⟨s.go.ex.trans g.ex, fun a o h e => g.keep a o (nb a o h e) (s.go.keep a o h e), fun a h hn gn => ?_⟩, s.sub, s.new⟩
  cases e : H0 a with
  | none => exact absurd e hn
  | some o =>
    refine g.priv a (nb a o h e) ?_ (s.go.priv a h hn gn)
    rw [s.go.keep a o h e]
    simp
theorem St.refl (b : Bx) (G H : Hp) : St b G H b G H := ⟨Go.refl _ _ _, fun _ h => h, fun _ h n => absurd h n⟩
theorem Wd.sub {b0 b : Bx} {G H : Hp} {φ : Nat} (w : Wd b G H φ) (h : ∀ p, b0 p → b p) : Wd b0 G H φ := ⟨w.ex, fun p e => w.bx p (h p e)⟩
/-- what stands behind a statement -/
structure Behind (W : WX) (b0 : Bx) (G0 H0 : Hp) (D : Ends) (de : DE) : Prop where
  nx : ∀ b δ φ G H σ, Wd b G H φ → St b0 G0 H0 b G H → Sl b H0 G H σ δ → de.nx δ φ → D.nx σ H
  bk : ∀ b δ φ G H σ, Wd b G H φ → St b0 G0 H0 b G H → Sl b H0 G H σ δ → de.bk δ φ → D.bk σ H
  ct : ∀ b δ φ G H σ, Wd b G H φ → St b0 G0 H0 b G H → Sl b H0 G H σ δ → de.ct δ φ → D.ct σ H
  rt : ∀ b v d φ G H, Wd b G H φ → St b0 G0 H0 b G H → Rp G v d → de.rt d φ → D.rt v H
  rf : ∀ b p vs ds φ G H, Wd b G H φ → St b0 G0 H0 b G H → H0 p = none → H p = some (.lst vs) → G p = none → ¬ b p → RpL G vs ds → de.rf ds φ → D.rt (.ref p) H
  xx : ∀ b C fld dd v d δ φ G H σ, Wd b G H φ → St b0 G0 H0 b G H → Sl b H0 G H σ δ → G dd = some (.xd [(fld, v)]) → Rp G v d → de.xx C fld d δ φ → W (.ref C) (some dd) σ H
section
variable {W : WX} {δ : List SD} {φ : Nat} {de : DE} {te : TE} {ts tu tw : TS} {t : TT}
theorem exc {b0 b : Bx} {G0 H0 G H : Hp} {σ : L2.St} {D : Ends} (g : St b0 G0 H0 b G H) (s : Sl b H0 G H σ δ) (B : Behind W b0 G0 H0 D de) :
    ∀ C fld dd v d φ' G' H', Wd b G' H' φ' → Go b G H G' H' → G' dd = some (.xd [(fld, v)]) → Rp G' v d → (fun C f d φ => de.xx C f d δ φ) C fld d φ' → W (.ref C) (some dd) σ H' :=
  fun C f dd v d φ' G' H' w' g' e r k => B.xx b C f dd v d δ φ' G' H' σ w' (g.step g') (s.go g') e r k
/-- what is new now was new at the entry -/
theorem St.was {b0 b : Bx} {G0 H0 G H : Hp} {φ : Nat} {p : Addr} (g : St b0 G0 H0 b G H) (w : Wd b G H φ) (h : H p = none) : H0 p = none := by
  cases z : H0 p with
  | none => rfl
  | some o =>
    have hb : ¬ b0 p := fun q => w.ne h (g.sub p q)
    rw [g.go.keep p o hb z] at h
    cases h
/-! ### targets -/
end
end Eg

/-! EgOps -/
set_option Elab.async false
set_option linter.all false
set_option maxRecDepth 100000
set_option maxHeartbeats 2000000
namespace L2
open PySem PySem.Spec PyProof.Rows
/-- + of ints, lists, tuples, texts -/
def rAddI : R2 := rI0 fun i j => .int (i + j)
def rAddS : R2 := fun x y H Q => ∃ i j, x = .str i ∧ y = .str j ∧ i.length + j.length ≤ sizeLine ∧ Q (.str (i ++ j)) H
def rPlus (K : PySem.W.Frag) : R2 := fun x y H Q => rAddI x y H Q ∨ (rCat x y H Q ∨ (rCatA K x y H Q ∨ rAddS x y H Q))
theorem op_plus {X : Cx} : OpR X (binaryOp .Add) (rPlus X.K) := op_add.or (op_cat.or (op_catA.or op_add_str))
/-- * of ints, of a list and an int -/
def rMulI : R2 := rI CMul fun i j => .int (i * j)
def rTimes (K : PySem.W.Frag) : R2 := fun x y H Q => rMulI x y H Q ∨ rRep x y H Q
def rEqU (K : PySem.W.Frag) : R2 := fun x y H Q => rEq x y H Q ∨ rEqD K x y H Q
theorem op_eqU {X : Cx} (hu : X.A.units + 64 < cLine) : OpR X (compareOp .Eq) (rEqU X.K) := op_eq.or (op_eqD hu)
def rNeU (K : PySem.W.Frag) : R2 := fun x y H Q => rNe x y H Q ∨ rNeD K x y H Q
theorem op_neU {X : Cx} (hu : X.A.units + 64 < cLine) : OpR X (compareOp .NotEq) (rNeU X.K) := op_ne.or (op_neD hu)
def rSlU (K : PySem.W.Frag) : V → Option Int → Option Int → Hp → VK → Prop := fun x lo hi H Q => rSlL K x lo hi H Q ∨ (rSlA K x lo hi H Q ∨ rSlS x lo hi H Q)
theorem sl_any {X : Cx} : SlR X (rSlU X.K) := sl_list.or (sl_tupA.or sl_str)
/-- a loop over a list or a tuple -/
def iSeq (K : PySem.W.Frag) (tl : TE) : TI := fun σ H R => tl σ H fun x H1 => ∃ a, x = .ref a ∧ (((∃ xs, SqL K H1 a xs) ∧ R (Itl K a) H1) ∨ ((∃ xs, SqT K H1 a xs) ∧ R (Itt K a) H1))
theorem pi_seq {X : Cx} {tg l : Expr} {tl : TE} (hl : PE X l tl) : PI X tg l (iSeq X.K tl) := by
  refine ⟨fun pins s σ H R I h => ?_⟩
  refine thn (hl.run pins s σ H _ I h) fun v s1 ⟨x, H1, I1, r1, q1⟩ => ?_
  obtain ⟨a, rfl, q⟩ := q1
  cases r1
  have fp : ∀ b ∈ [s1.heap.objs.size], FpOk X pins H1 b := fun b hb => by
    have e : b = s1.heap.objs.size := by simpa using hb
    subst e
    exact I1.fpOk (Nat.le_refl _) (I1.hok.fresh (Nat.le_refl _))
  rcases q with ⟨⟨xs, hq⟩, q⟩ | ⟨⟨xs, hq⟩, q⟩
  · obtain ⟨its, rv, p, hz⟩ := I1.list hq
    exact wpAny_pyIter_list p.isList ⟨s1.heap.objs.size, [s1.heap.objs.size], _, _, H1, rfl, I1.kept (t' := s1.toks) fun b o e => Heap.get?_push_of_some _ e, turn_list a _, ⟨_, Heap.get?_push_size _ rfl, rfl, rfl⟩, fp, q⟩
  · obtain ⟨its, rv, p, hz⟩ := I1.tuple hq
    exact wpAny_pyIter_tuple (show s1.heap.IsTuple a its.toArray from p) ⟨s1.heap.objs.size, [s1.heap.objs.size], _, _, H1, rfl, I1.kept (t' := s1.toks) fun b o e => Heap.get?_push_of_some _ e, turn_tuple a _, ⟨_, Heap.get?_push_size _ rfl, rfl, rfl⟩, fp, q⟩
end L2
namespace Eg
open PySem L2
section
variable {W : WX} {δ : List SD} {φ : Nat} {K : PyData → Nat → Prop} {XK : XC} {te ta tb tc : TE} {t u : TT} {KF : PySem.W.Frag}
/-- an operation that leaves the heap alone -/
theorem rd_pure {r : R2} {x y z : PyData} (h : ∀ (b : Bx) (G H : Hp) (v w : V) (Q : VK), Wd b G H φ → Rp G v x → Rp G w y → (∀ zv, Rp G zv z → Q zv H) → r v w H Q) (k : K z φ) : RD r x y φ K :=
  fun b G H v w Q wd rx ry q => h b G H v w Q wd rx ry fun zv rz => q zv z φ G H wd (Go.refl _ _ _) rz k
theorem rd_plus_int {i j : Int} (k : K (.int (i + j)) φ) : RD (rPlus KF) (.int i) (.int j) φ K := rd_pure (fun b G H v w Q wd rx ry q => by
  cases rx; cases ry; exact .inl ⟨i, j, rfl, rfl, q _ (.int _)⟩) k
theorem rd_plus_str {i j : Str} (hl : i.length + j.length ≤ 10000000) (k : K (.str (i ++ j)) φ) : RD (rPlus KF) (.str i) (.str j) φ K := rd_pure (fun b G H v w Q wd rx ry q => by
  cases rx; cases ry; exact .inr (.inr (.inr ⟨i, j, rfl, rfl, Nat.le_trans hl (by decide), q _ (.str _)⟩))) k
theorem rd_plus_list {xs ys : List PyData} (hl : xs.length + ys.length ≤ 10000000) (k : K (.list (xs ++ ys)) φ) : RD (rPlus KF) (.list xs) (.list ys) φ K := fun b G H v w Q wd rx ry q => by
  cases rx with
  | lst a1 a2 =>
    cases ry with
    | lst b1 b2 =>
      refine .inr (.inl ⟨_, _, _, _, rfl, rfl, wd.ex _ _ a1, wd.ex _ _ b1, by rw [a2.len, b2.len]; exact Nat.le_trans hl (by decide), fun p hp => ?_⟩)
      exact q _ _ φ _ _ (wd.laid hp) (Go.laid wd hp) (.lst upd_same (RpL.mono (Ex.new (wd.gn hp)) _ _ (RpL.app a2 b2))) k
theorem rd_plus_tup {xs ys : List PyData} (hl : xs.length + ys.length ≤ 10000000) (k : K (.tuple (xs ++ ys)) φ) : RD (rPlus KF) (.tuple xs) (.tuple ys) φ K := fun b G H v w Q wd rx ry q => by
  cases rx with
  | tup a1 a2 =>
    cases ry with
    | tup b1 b2 =>
      refine .inr (.inr (.inl ⟨_, _, _, _, rfl, rfl, SqT.of (wd.ex _ _ a1), SqT.of (wd.ex _ _ b1), by rw [a2.len, b2.len]; exact Nat.le_trans hl (by decide), fun e => ?_, fun e e' => ?_, fun e e' p hp => ?_⟩))
      · have z := a2.len
        rw [e] at z
        have z2 : xs = [] := List.eq_nil_of_length_eq_zero z.symm
        subst z2
        exact q _ _ φ _ _ wd (Go.refl _ _ _) (.tup b1 b2) k
      · have z := b2.len
        rw [e'] at z
        have z2 : ys = [] := List.eq_nil_of_length_eq_zero z.symm
        subst z2
        rw [List.append_nil] at k
        exact q _ _ φ _ _ wd (Go.refl _ _ _) (.tup a1 a2) k
      · exact q _ _ φ _ _ (wd.laid hp) (Go.laid wd hp) (.tup upd_same (RpL.mono (Ex.new (wd.gn hp)) _ _ (RpL.app a2 b2))) k
theorem rd_sub {i j : Int} (k : K (.int (i - j)) φ) : RD (rI0 fun i j => .int (i - j)) (.int i) (.int j) φ K := rd_pure (fun b G H v w Q wd rx ry q => by
  cases rx; cases ry; exact ⟨i, j, rfl, rfl, q _ (.int _)⟩) k
theorem rd_rep {xs : List PyData} {n : Nat} (h : xs.length * n ≤ 10000000) (hn : n ≤ 1000000) (k : K (.list (List.replicate n xs).flatten) φ) : RD (rTimes KF) (.list xs) (.int n) φ K := fun b G H v w Q wd rx ry q => by
  cases rx with
  | lst a1 a2 =>
    cases ry
    have fl : ∀ m : Nat, RpL G (List.replicate m _).flatten (List.replicate m xs).flatten := fun m => by
      induction m with
      | zero => exact .nil
      | succ m ih =>
        rw [List.replicate_succ, List.replicate_succ, List.flatten_cons, List.flatten_cons]
        exact RpL.app a2 ih
    refine .inr ⟨_, _, _, rfl, rfl, wd.ex _ _ a1, by omega, by omega, by rw [a2.len, Int.toNat_natCast]; exact Nat.le_trans h (by decide), fun p hp => ?_⟩
    rw [Int.toNat_natCast]
    exact q _ _ φ _ _ (wd.laid hp) (Go.laid wd hp) (.lst upd_same (RpL.mono (Ex.new (wd.gn hp)) _ _ (fl n))) k
theorem rd_mod {i j : Int} (h : 0 < j) (k : K (.int (i % j)) φ) : RD (rI (fun _ j => 0 < j) fun i j => .int (i % j)) (.int i) (.int j) φ K := rd_pure (fun b G H v w Q wd rx ry q => by
  cases rx; cases ry; exact ⟨i, j, rfl, rfl, h, q _ (.int _)⟩) k
theorem rd_pow {i : Int} {j : Nat} (h : j ≤ 1000000 ∧ i.natAbs < 2 ^ 64) (k : K (.int (i ^ j)) φ) : RD (rI CPow fun i j => .int (i ^ j.toNat)) (.int i) (.int j) φ K := rd_pure (fun b G H v w Q wd rx ry q => by
  cases rx; cases ry; exact ⟨i, j, rfl, rfl, ⟨by omega, by omega, h.2⟩, q _ (.int _)⟩) k
theorem rd_cmp {p : Int → Int → Bool} {i j : Int} (k : K (.bool (p i j)) φ) : RD (rI0 fun i j => .bl (p i j)) (.int i) (.int j) φ K := rd_pure (fun b G H v w Q wd rx ry q => by
  cases rx; cases ry; exact ⟨i, j, rfl, rfl, q _ (.bl _)⟩) k
theorem rd_eq_int {i j : Int} (k : K (.bool (decide (i = j))) φ) : RD (rEqU KF) (.int i) (.int j) φ K := rd_pure (fun b G H v w Q wd rx ry q => by
  cases rx; cases ry
  refine .inl ⟨rfl, q _ ?_⟩
  have e : decide (V.int i = V.int j) = decide (i = j) := by
    by_cases h : i = j
    · subst h; simp
    · rw [decide_eq_false h, decide_eq_false (fun z => h (V.int.inj z))]
  rw [e]
  exact .bl _) k
theorem rd_ne_int {i j : Int} (k : K (.bool (!decide (i = j))) φ) : RD (rNeU KF) (.int i) (.int j) φ K := rd_pure (fun b G H v w Q wd rx ry q => by
  cases rx; cases ry
  refine .inl ⟨rfl, q _ ?_⟩
  have e : decide (V.int i = V.int j) = decide (i = j) := by
    by_cases h : i = j
    · subst h; simp
    · rw [decide_eq_false h, decide_eq_false (fun z => h (V.int.inj z))]
  rw [e]
  exact .bl _) k
theorem rd_eq_str {i j : Str} (k : K (.bool (decide (i = j))) φ) : RD (rEqU KF) (.str i) (.str j) φ K := rd_pure (fun b G H v w Q wd rx ry q => by
  cases rx; cases ry
  refine .inl ⟨rfl, q _ ?_⟩
  have e : decide (V.str i = V.str j) = decide (i = j) := by
    by_cases h : i = j
    · subst h; simp
    · rw [decide_eq_false h, decide_eq_false (fun z => h (V.str.inj z))]
  rw [e]
  exact .bl _) k
theorem rd_ne_str {i j : Str} (k : K (.bool (!decide (i = j))) φ) : RD (rNeU KF) (.str i) (.str j) φ K := rd_pure (fun b G H v w Q wd rx ry q => by
  cases rx; cases ry
  refine .inl ⟨rfl, q _ ?_⟩
  have e : decide (V.str i = V.str j) = decide (i = j) := by
    by_cases h : i = j
    · subst h; simp
    · rw [decide_eq_false h, decide_eq_false (fun z => h (V.str.inj z))]
  rw [e]
  exact .bl _) k
theorem rd_eqD {x y : PyData} (hx : x.hasDict = false) (hy : y.hasDict = false) (sx : SeqAt.shaped x = true) (sy : SeqAt.shaped y = true) (k : K (.bool (PyData.eqv x y)) φ) : RD (rEqU KF) x y φ K := rd_pure (fun b G H v w Q wd rx ry q =>
  .inr ⟨x, y, (Rp.mono wd.ex _ _ rx).dp x v hx, (Rp.mono wd.ex _ _ ry).dp y w hy, sx, sy, q _ (.bl _)⟩) k
theorem rd_neD {x y : PyData} (hx : x.hasDict = false) (hy : y.hasDict = false) (sx : SeqAt.shaped x = true) (sy : SeqAt.shaped y = true) (k : K (.bool (!PyData.eqv x y)) φ) : RD (rNeU KF) x y φ K := rd_pure (fun b G H v w Q wd rx ry q =>
  .inr ⟨x, y, (Rp.mono wd.ex _ _ rx).dp x v hx, (Rp.mono wd.ex _ _ ry).dp y w hy, sx, sy, q _ (.bl _)⟩) k
def isNone : PyData → Bool
  | .none => true
  | _ => false
theorem Rp.isNone {G : Hp} {v : V} {d : PyData} (h : Rp G v d) : decide (v = .non) = isNone d := by
  cases h <;> first | rfl | (exact decide_eq_false (fun z => nomatch z))
theorem rd_isN {x : PyData} (k : K (.bool (isNone x)) φ) : RD (fun x y H Q => y = .non ∧ Q (.bl (decide (x = .non))) H) x .none φ K := rd_pure (fun b G H v w Q wd rx ry q => by
  cases ry
  refine ⟨rfl, q _ ?_⟩
  rw [rx.isNone]
  exact .bl _) k
theorem rd_notN {x : PyData} (k : K (.bool (!isNone x)) φ) : RD (fun x y H Q => y = .non ∧ Q (.bl (!decide (x = .non))) H) x .none φ K := rd_pure (fun b G H v w Q wd rx ry q => by
  cases ry
  refine ⟨rfl, q _ ?_⟩
  rw [rx.isNone]
  exact .bl _) k
theorem atI_rp {G : Hp} {vs : List V} {ds : List PyData} {i : Int} {d : PyData} (h : RpL G vs ds) (e : atI ds i = some d) : ∃ v, atI vs i = some v ∧ Rp G v d := by
  unfold atI at e ⊢
  rw [h.len]
  cases z : ixN ds.length i with
  | none => rw [z] at e; cases e
  | some j =>
    rw [z] at e
    exact h.get e
theorem rd_ix_list {ds : List PyData} {i : Int} {d : PyData} (e : atI ds i = some d) (k : K d φ) : RD (rIx KF) (.list ds) (.int i) φ K := rd_pure (fun b G H v w Q wd rx ry q => by
  cases ry
  cases rx with
  | lst a1 a2 =>
    obtain ⟨v, e1, r⟩ := atI_rp a2 e
    exact .inl ⟨_, _, i, v, rfl, rfl, SqL.of (wd.ex _ _ a1), e1, q _ r⟩) k
theorem rd_ix_tup {ds : List PyData} {i : Int} {d : PyData} (e : atI ds i = some d) (k : K d φ) : RD (rIx KF) (.tuple ds) (.int i) φ K := rd_pure (fun b G H v w Q wd rx ry q => by
  cases ry
  cases rx with
  | tup a1 a2 =>
    obtain ⟨v, e1, r⟩ := atI_rp a2 e
    exact .inr (.inl ⟨_, _, i, v, rfl, rfl, SqT.of (wd.ex _ _ a1), e1, q _ r⟩)) k
theorem ru_neg {i : Int} (k : K (.int (-i)) φ) : RU (rU fun i => .int (-i)) (.int i) φ K := fun b G H v Q wd rx q => by
  cases rx
  exact ⟨i, rfl, q _ _ _ _ _ wd (Go.refl _ _ _) (.int _) k⟩
/-! slices -/
def cutD (xs : List PyData) (lo hi : Option Int) : List PyData := (xs.drop (HT.sIx xs.length 0 lo)).take (HT.sIx xs.length xs.length hi - HT.sIx xs.length 0 lo)
theorem RpL.cut {G : Hp} {vs : List V} {ds : List PyData} (lo hi : Option Int) (h : RpL G vs ds) : RpL G (cutV vs lo hi) (cutD ds lo hi) := by
  unfold cutV cutD
  rw [h.len]
  exact (h.drop _).take _
/-- what a slice of data is -/
def sliced (x : PyData) (lo hi : Option Int) : Option PyData := match x with
  | .list xs => some (.list (cutD xs lo hi))
  | .tuple xs => some (.tuple (cutD xs lo hi))
  | _ => none
theorem cutD_whole {xs : List PyData} {lo hi : Option Int} (h : HT.sIx xs.length 0 lo = 0 ∧ HT.sIx xs.length xs.length hi = xs.length) : cutD xs lo hi = xs := by
  unfold cutD
  rw [h.1, h.2]
  simp
end
end Eg

/-! EgLoop -/
set_option Elab.async false
set_option linter.all false
set_option maxRecDepth 100000
set_option maxHeartbeats 2000000
namespace Eg
open PySem L2
/-- the items of a list or a tuple -/
def itemsOf : PyData → Option (List PyData)
  | .list xs => some xs
  | .tuple xs => some xs
  | _ => none
section
variable {W : WX} {δ : List SD} {φ : Nat} {de : DE} {tl : TE} {tb : TS} {g : TG} {KF : PySem.W.Frag}
theorem back_to {b0 b b1 : Bx} {G0 H0 G1 H1 G H : Hp} (g1 : St b0 G0 H0 b1 G1 H1) (g2 : St b0 G1 H0 b G H) : St b0 G0 H0 b G H :=
  ⟨⟨g1.go.ex.trans g2.go.ex, g2.go.keep, fun a hb ha hn => g2.go.priv a hb ha (g1.go.priv a hb ha hn)⟩, g2.sub, g2.new⟩
theorem start_at {b0 b1 : Bx} {G0 H0 G1 H1 : Hp} (g1 : St b0 G0 H0 b1 G1 H1) : St b0 G1 H0 b1 G1 H1 := ⟨⟨Ex.refl _, g1.go.keep, fun _ _ _ h => h⟩, g1.sub, g1.new⟩
theorem Behind.from {b0 b1 : Bx} {G0 H0 G1 H1 : Hp} {D : Ends} {de de' : DE} {N : L2.St → Hp → Prop} (g1 : St b0 G0 H0 b1 G1 H1) (B : Behind W b0 G0 H0 D de)
    (hN : ∀ b δ φ G H σ, Wd b G H φ → St b0 G1 H0 b G H → Sl b H0 G H σ δ → de'.nx δ φ → N σ H) (hC : ∀ b δ φ G H σ, Wd b G H φ → St b0 G1 H0 b G H → Sl b H0 G H σ δ → de'.ct δ φ → N σ H) (hb : de'.bk = de.nx) (hr : de'.rt = de.rt) (hf : de'.rf = de.rf) (hx : de'.xx = de.xx) :
    Behind W b0 G1 H0 { D with nx := N, ct := N, bk := D.nx } de' :=
  ⟨hN, fun b δ φ G H σ w g s k => B.nx b δ φ G H σ w (back_to g1 g) s (by rw [← hb]; exact k), hC, fun b v d φ G H w g r k => B.rt b v d φ G H w (back_to g1 g) r (by rw [← hr]; exact k),
    fun b p vs ds φ G H w g h0 h1 h2 h3 r k => B.rf b p vs ds φ G H w (back_to g1 g) h0 h1 h2 h3 r (by rw [← hf]; exact k),
    fun b C f dd v d δ φ G H σ w g s e r k => B.xx b C f dd v d δ φ G H σ w (back_to g1 g) s e r (by rw [← hx]; exact k)⟩
end
/-! ## comprehensions -/
def wipeD (δ : List SD) : List Nat → List SD
  | [] => δ
  | v :: vs => (wipeD δ vs).set v .u
theorem Sl.wipe {b : Bx} {H0 G H : Hp} {σ : L2.St} {δ : List SD} (s : Sl b H0 G H σ δ) : ∀ vs : List Nat, Sl b H0 G H (L2.wipe σ vs) (wipeD δ vs)
  | [] => s
  | v :: vs => (Sl.wipe s vs).set .u (fun _ z => nomatch z)
section
variable {W : WX} {δ : List SD} {φ : Nat} {te tl : TE} {tt : TT} {g : TG} {KF : PySem.W.Frag} {XK : XC}
/-- the ints below n, as data -/
def upto (n : Nat) : List PyData := (List.range n).map fun (i : Nat) => PyData.int (i : Int)
theorem upto_get {n i : Nat} (h : i < n) : (upto n)[i]? = some (.int (i : Int)) := by
  unfold upto
  rw [List.getElem?_map, List.getElem?_range h]
  rfl
theorem upto_len (n : Nat) : (upto n).length = n := by unfold upto; rw [List.length_map, List.length_range]
/-- the pairs of zip -/
def zipD (xs ys : List PyData) : List PyData := List.zipWith (fun x y => PyData.tuple [x, y]) xs ys
theorem zipD_len (xs ys : List PyData) : (zipD xs ys).length = min xs.length ys.length := by unfold zipD; rw [List.length_zipWith]
end
end Eg

/-! EgTry -/
set_option Elab.async false
set_option linter.all false
set_option maxRecDepth 100000
set_option maxHeartbeats 2000000
/-! ## try with several clauses, each with its name -/
namespace L2
open PySem PySem.Spec PyProof.Rows
abbrev Suite := Addr → Value → Option Addr → TS
/-- the ends of a suite whose name is unbound behind it -/
def unb (i : Nat) (D : Ends) : Ends := { nx := fun σ H => D.nx (σ.set i none) H, rt := D.rt, bk := fun σ H => D.bk (σ.set i none) H, ct := fun σ H => D.ct (σ.set i none) H }
def wTry (K : PySem.W.Frag) (Wo : WX) (D : Ends) : List (Value × Nat × Suite) → WX
  | [] => Wo
  | (c, i, ts) :: r => fun cls d σ H => ∃ b, PySem.W.exmOne K cls c = some b ∧ (b = true → ∀ a, H a = none → ts a cls d (unb i D) (σ.set i (some (.ref a))) H) ∧ (b = false → wTry K Wo D r cls d σ H)
inductive HdsA (X : Cx) : List ExceptHandler → List (Value × Nat × Suite) → Prop
  | nil : HdsA X [] []
  | cons {x n : Str} {c : Value} {i : Nat} {ts : Suite} {s0 : Stmt} {suite : List Stmt} {np pos' : Pos} {hds : List ExceptHandler} {l : List (Value × Nat × Suite)} (hc : Names X x c) (hi : X.N[i]? = some n) (hln : X.env.kindOf n = some .local)
      (hsu : ∀ (a : Addr) (oe : Obj) (cls : Value) (d : Option Addr) (pn : List (Addr × Obj)), Zc cls d oe → (∃ vs, oe.data = .fields vs) → PSs (X.suite a ((a, oe) :: pn)) (s0 :: suite) (ts a cls d)) (r : HdsA X hds l) :
      HdsA X (.ExceptHandler (some (.Name x np)) (some n) (s0 :: suite) pos' :: hds) ((c, i, ts) :: l)
section
variable {X : Cx} {body : List Stmt} {h₀ : ExceptHandler} {hds : List ExceptHandler} {l : List (Value × Nat × Suite)} {pos : Pos} {tb : WX → TS} {Wo : WX}
theorem ps_try_named (hs : X.stack = X.env :: X.outer) (hf : X.env.frame = some X.env.locals) (hN : X.N.Nodup) (tk : Takes X Wo)
    (hb : ∀ (W : WX) (pn : List (Addr × Obj)) (xe : Value → Shared → Prop), Takes (X.tr pn xe) W → PassesOwn (model X.prog X.w) X.A X.env xe → PSs (X.tr pn xe) body (tb W))
    (hh : HdsA X (h₀ :: hds) l) : PS X (.Try body (h₀ :: hds) [] [] pos) (fun D σ H => tb (wTry X.K Wo D l) D σ H) := by
  refine ⟨fun pins s σ H D inv h => ?_⟩
  have ok := inv.ok
  have fr : X.A.frames = some (X.env :: X.outer) := by
    rw [ok.frames, hs]
  refine wpAny_Try_except ?_
  refine wpAny_mono ((hb (wTry X.K Wo D l) (X.pn ++ pins) (fun e s₁ => wpAny (model X.prog X.w) X.A (noteFrame e X.env) (fun _ s₂ => wpAny (model X.prog X.w) X.A (setFlight e none)
    (fun _ s₃ => wpAny (model X.prog X.w) X.A (handleBy e X.env (h₀ :: hds)) (SP X pins D) X.xe s₃) X.xe s₂) X.xe s₁) (fun u s' air => ?_) PassesOwn.looking).run [] s σ H D (inv.toTry _) h) (fun f s1 done => ?_) (fun e s1 he => he)
  · obtain ⟨a, B, sI, pins', σ', H', cls, d, rfl, J', nb, up, sky, na, os, ag, wish⟩ := air
    have J : Inv X pins σ' H' sI := J'.ofTry ok
    have sky' : Sky B (X.env :: X.outer) a (Zc cls d) X.env.locals s'.heap := by
      rw [← hs]
      exact sky
    show wpAny (model X.prog X.w) X.A (noteFrame (.ref a) X.env) _ _ _
    refine Sky.land Zc.steady fr hf sky' fun h3 fl3 up3 => ?_
    have J3 : Inv X pins σ' H' { s' with heap := h3 } := J.landed nb fl3.1 (up.trans up3) os ag
    obtain ⟨oe3, vs3, he3, hz3, hd3⟩ := fl3.there
    have nfr : a ∉ frs (X.env :: X.outer) := fun hm => by
      obtain ⟨_, o', e', hnf⟩ := fl3.2.2.1.mem hm
      rw [he3] at e'
      cases e'
      exact hnf _ hd3
    have nL : a ≠ X.env.locals := fun z => nfr (List.mem_filterMap.mpr ⟨X.env, List.mem_cons_self, by rw [hf, z]⟩)
    have nF : a ∉ X.fs := fun hm => by
      obtain ⟨e, he, q⟩ := List.mem_filterMap.mp hm
      exact nfr (List.mem_filterMap.mpr ⟨e, List.mem_cons_of_mem _ he, q⟩)
    have S3 := J3.suite he3 hd3 na nL nF
    have go : ∀ {hds' : List ExceptHandler} {l' : List (Value × Nat × Suite)}, HdsA X hds' l' → wTry X.K Wo D l' cls d σ' H' →
        wpAny (model X.prog X.w) X.A (handleBy (.ref a) X.env hds') (SP X pins D) X.xe { s' with heap := h3 } := by
      intro hds' l' hk
      induction hk with
      | nil =>
        intro w
        refine wpAny_handleBy_nil ?_
        obtain ⟨k1, k2, k3, oe, vs, T, oT, ts', he, hz, hd, h1, hr⟩ := id fl3
        unfold PySem.passOn
        refine wpAny_bind (wpAny_field he hd h1 ?_)
        rw [if_neg (show ¬ ((Value.ref T == Value.none) = true) from by simp)]
        have fin : wpAny (model X.prog X.w) X.A (setFlight (.ref a) X.env.frame) (fun _ s4 => wpAny (model X.prog X.w) X.A (throw (.ref a) : Sem Flow) (SP X pins D) X.xe s4) X.xe { s' with heap := h3 } := by
          rw [hf]
          refine HandSPX.setFlight_upZ fl3 fun h4 hh4 up4 => wpAny_throw (tk _ _ ?_)
          refine ⟨a, B, sI, pins, σ', H', cls, d, rfl, J, nb, (up.trans up3).trans up4, .inr (.inr ?_), na, os, ag, w⟩
          rw [hs]
          exact hh4
        first
          | exact wpAny_bind (wpAny_pure (wpAny_bind fin))
          | exact wpAny_bind fin
      | @cons x n c i ts s0 suite np pos' hds2 l2 hc hi hln hsu r ih =>
        intro w
        obtain ⟨b, hb1, hyes, hno⟩ := w
        refine wpAny_handleBy_cons (codeAny_handlers_test ?_) (by intro q; cases q)
        have LT : PySem.W.Looks (model X.prog X.w) h3 (typeOf (.ref a)) cls := fun A Q E s k q => wpAny_typeOf_ref (k _ _ he3) (by rw [hz3.1]; exact q)
        have LM := PySem.W.exm_one (M := model X.prog X.w) (J3.kIn) LT hb1
        have test : ∀ {Q : Value → Shared → Prop} {E : Value → Shared → Prop}, Q c { s' with heap := h3 } →
            wpAny (model X.prog X.w) (X.A.mark (some (.ref a))) (eval (.Name x np) X.env) Q E { s' with heap := h3 } := fun {Q E} q => by
          obtain ⟨hg, hdbg, hm | ⟨hm, hv, hnn⟩⟩ := hc
          · exact ld_glob (X := X.suite a ((a, oe3) :: (X.pn ++ pins))) S3 hg hm q hdbg
          · exact ld_blt (X := X.suite a ((a, oe3) :: (X.pn ++ pins))) S3 hg hm hv q hnn hdbg
        refine test (LM.here ?_)
        cases b with
        | true =>
          refine codeAny_handlers_suite_as ?_
          refine HandSPX.lands_againZ fl3 fun h4 fl4 up4 => ?_
          have J4 : Inv X pins σ' H' { s' with heap := h4 } := J.landed nb fl4.1 ((up.trans up3).trans up4) os ag
          obtain ⟨oe4, vs4, he4, hz4, hd4⟩ := fl4.there
          have S4 := J4.suite he4 hd4 na nL nF
          refine store_ok (X := X.suite a ((a, oe4) :: (X.pn ++ pins))) (v := .ref a) S4 hN hi (.inl hln) rfl (fun s5 S5 => ?_) (.inr hln)
          refine wpAny_mono ((hsu a oe4 cls d (X.pn ++ pins) hz4 ⟨_, hd4⟩).run [] s5 _ H' _ S5 (hyes rfl a na)) (fun f s6 hsp => ?_) (fun _ _ z => False.elim z)
          have shut : ∀ {σ6 : St} {H6 : Hp} {Q : Shared → Prop}, Inv (X.suite a ((a, oe4) :: (X.pn ++ pins))) [] σ6 H6 s6 → (∀ s7, Inv X pins (σ6.set i none) H6 s7 → Q s7) →
              wpAny (model X.prog X.w) X.A (do bindName X.env n .none; unbindBehindTheSuite X.env n pos') (fun _ s7 => Q s7) X.xe s6 := fun {σ6 H6 Q} S6 hq => gone_ok (S6.unsuite ok) hN hi hln hq
          cases f with
          | next =>
            obtain ⟨σ6, H6, S6, q6⟩ := hsp
            exact shut S6 fun s7 J7 => ⟨_, _, J7, q6⟩
          | brk =>
            obtain ⟨σ6, H6, S6, q6⟩ := hsp
            exact shut S6 fun s7 J7 => ⟨_, _, J7, q6⟩
          | cont =>
            obtain ⟨σ6, H6, S6, q6⟩ := hsp
            exact shut S6 fun s7 J7 => ⟨_, _, J7, q6⟩
          | ret u =>
            obtain ⟨v6, σ6, H6, S6, r6, q6⟩ := hsp
            exact shut S6 fun s7 J7 => ⟨_, _, _, J7, r6, q6⟩
        | false =>
          show wpAny _ X.A (handleBy (.ref a) X.env hds2) _ _ _
          exact ih (hno rfl)
    exact go hh wish
  · cases f with
    | next =>
      obtain ⟨σ', H', J', q⟩ := done
      exact wpAny_execs_nil ⟨σ', H', J'.ofTry ok, q⟩
    | brk =>
      obtain ⟨σ', H', J', q⟩ := done
      exact ⟨σ', H', J'.ofTry ok, q⟩
    | cont =>
      obtain ⟨σ', H', J', q⟩ := done
      exact ⟨σ', H', J'.ofTry ok, q⟩
    | ret u =>
      obtain ⟨v, σ', H', J', r, q⟩ := done
      exact ⟨v, σ', H', J'.ofTry ok, r, q⟩
end
end L2
namespace Eg
open PySem L2
section
variable {W : WX} {δ : List SD} {φ : Nat} {de : DE} {KF : PySem.W.Frag} {tb : WX → TS} {l : List (Value × Nat × Suite)}
end
/-! ## a def by its body -/
def sdOf : AV → SD
  | .d x => .d x
  | .bx => .bx
  | .both x p => .both x p
  | .scr K ns => .scr K ns
theorem start_sl {b : Bx} {G H : Hp} {vs : List V} {as : List AV} (h : ArgsR b G vs as) (m : Nat) : Sl b H G H (vs.map some ++ List.replicate m none) (as.map sdOf ++ List.replicate m .u) := by
  have hl : vs.length = as.length := by
    clear m
    induction h with
    | nil => rfl
    | cons _ _ ih => rw [List.length_cons, List.length_cons, ih]
  have own : ∀ (j : Nat) ys, (as.map sdOf ++ List.replicate m SD.u)[j]? ≠ some (.own ys) := fun j ys z => by
    rw [List.getElem?_append] at z
    split at z
    · rw [List.getElem?_map] at z
      cases q : as[j]? with
      | none => rw [q] at z; cases z
      | some a => rw [q] at z; cases a <;> cases z
    · rw [List.getElem?_replicate] at z
      split at z <;> cases z
  refine ⟨by simp [hl], fun i o s e1 e2 => ?_, fun i j p xs ys _ _ e2 _ => absurd e2 (own i xs)⟩
  have get : ∀ {vs : List V} {as : List AV} {i : Nat} {v : V} {a : AV}, ArgsR b G vs as → vs[i]? = some v → as[i]? = some a → ArgR b G v a := by
    intro vs as i v a h
    induction h generalizing i with
    | nil => intro e; simp at e
    | cons h1 _ ih =>
      intro e1 e2
      cases i with
      | zero => simp at e1 e2; subst e1; subst e2; exact h1
      | succ i => exact ih (by simpa using e1) (by simpa using e2)
  by_cases hi : i < vs.length
  · rw [List.getElem?_append_left (by simpa using hi), List.getElem?_map, List.getElem?_eq_getElem hi] at e1
    rw [List.getElem?_append_left (by simpa [← hl] using hi), List.getElem?_map, List.getElem?_eq_getElem (by rw [← hl]; exact hi)] at e2
    cases e1; cases e2
    have r := get h (List.getElem?_eq_getElem hi) (List.getElem?_eq_getElem (by rw [← hl]; exact hi))
    show SlR b H G H (some vs[i]) (sdOf as[i])
    generalize vs[i] = v at r
    generalize as[i] = a at r
    cases r with
    | d r => exact .d r
    | bx e => exact .bx e
    | both r => exact .both r
    | scr r => exact .scr r
  · rw [List.getElem?_append_right (by simpa [← hl] using hi), List.getElem?_replicate] at e2
    split at e2
    · cases e2; exact .u
    · cases e2
section
variable {P : Program} {w : World} {K : PySem.W.Frag} {mg : Str → Option Value} {base : Heap}
end
end Eg

/-! EgBuilt -/
set_option Elab.async false
set_option linter.all false
set_option maxRecDepth 100000
set_option maxHeartbeats 2000000
/-! ## built-ins, said of data -/
namespace Eg
open PySem L2
def isInt : PyData → Bool
  | .int _ => true | .bool _ => true | _ => false
def isBool : PyData → Bool
  | .bool _ => true | _ => false
def isStr : PyData → Bool
  | .str _ => true | _ => false
def isLst : PyData → Bool
  | .list _ => true | _ => false
def isTup : PyData → Bool
  | .tuple _ => true | _ => false
def isDct : PyData → Bool
  | .dict _ => true | _ => false
/-- an object as such -/
def isPtr : PyData → Bool
  | .dict ((.none, _) :: _) => true
  | _ => false
def tyN : PyData → String
  | .none => "NoneType" | .bool _ => "bool" | .int _ => "int" | .str _ => "str" | .list _ => "list" | .tuple _ => "tuple" | .dict _ => "dict"
theorem Rp.ty {KF : PySem.W.Frag} {G H : Hp} {v : V} {d : PyData} (r : Rp G v d) (e : Ex G H) (hp : isPtr d = false) : TyX KF H v (.type (tyN d)) := by
  cases r with
  | non => exact .base .non
  | bl b => exact .base (.bl b)
  | int i => exact .base (.int i)
  | str x => exact .base (.str x)
  | lst h _ => exact .base (.lst (e _ _ h))
  | tup h _ => exact .base (.tup (e _ _ h))
  | dct h _ => exact .base (.dK (e _ _ h))
  | ptr p => cases hp
section
variable {W : WX} {δ : List SD} {φ : Nat} {K : PyData → Nat → Prop} {XK : XC} {te ta tb tc : TE} {t u : TT} {KF : PySem.W.Frag}
theorem isi_int (d : PyData) : kitB (tyN d) "int" = some (isInt d) := by cases d <;> (simp only [tyN, isInt]; decide +kernel)
theorem isi_bool (d : PyData) : kitB (tyN d) "bool" = some (isBool d) := by cases d <;> (simp only [tyN, isBool]; decide +kernel)
theorem isi_list (d : PyData) : kitB (tyN d) "list" = some (isLst d) := by cases d <;> (simp only [tyN, isLst]; decide +kernel)
theorem isi_tuple (d : PyData) : kitB (tyN d) "tuple" = some (isTup d) := by cases d <;> (simp only [tyN, isTup]; decide +kernel)
theorem kit2 {KF : PySem.W.Frag} {a n m : String} {b1 b2 : Bool} (h1 : kitB a n = some b1) (h2 : kitB a m = some b2) : PySem.W.kitAny KF (.type a) [.type n, .type m] = some (b1 || b2) := by
  refine kitAny_cons (kit_ty h1) (fun e => ?_) (fun e => ?_)
  · refine kitAny_cons (kit_ty h2) (fun e2 => ?_) (fun e2 => ?_)
    · rw [e, e2]; rfl
    · rw [e, e2]; rfl
  · rw [e]; rfl
theorem rl_pure {r : List V → Hp → VK → Prop} {as : List AV} {z : PyData} (h : ∀ (b : Bx) (G H : Hp) (vs : List V) (Q : VK), Wd b G H φ → ArgsR b G vs as → (∀ zv, Rp G zv z → Q zv H) → r vs H Q) (k : K z φ) : RL r as φ K :=
  fun b G H vs Q wd ra q => h b G H vs Q wd ra fun zv rz => q zv z φ G H wd (Go.refl _ _ _) rz k
theorem args1 {b : Bx} {G : Hp} {vs : List V} {x : PyData} (h : ArgsR b G vs [.d x]) : ∃ v, vs = [v] ∧ Rp G v x := by
  cases h with
  | cons h1 h2 =>
    cases h2
    cases h1 with
    | d r => exact ⟨_, rfl, r⟩
theorem args2 {b : Bx} {G : Hp} {vs : List V} {x y : PyData} (h : ArgsR b G vs [.d x, .d y]) : ∃ v w, vs = [v, w] ∧ Rp G v x ∧ Rp G w y := by
  cases h with
  | cons h1 h2 =>
    cases h2 with
    | cons h2 h3 =>
      cases h3
      cases h1 with
      | d r1 => cases h2 with
        | d r2 => exact ⟨_, _, rfl, r1, r2⟩
def rLenU (K : PySem.W.Frag) : List V → Hp → VK → Prop := fun xs H Q => ∃ x n, xs = [x] ∧ LenV K x H n ∧ Q (.int n) H
def rListU (K : PySem.W.Frag) : List V → Hp → VK → Prop := fun xs H Q => ∃ p ys, xs = [.ref p] ∧ (SqL K H p ys ∨ SqT K H p ys) ∧ ∀ l, H l = none → Q (.ref l) (upd H l (.lst ys))
def rTupleU (K : PySem.W.Frag) : List V → Hp → VK → Prop := fun xs H Q => ∃ p ys, xs = [.ref p] ∧ ((SqL K H p ys ∧ ∀ l, H l = none → Q (.ref l) (upd H l (.tup ys))) ∨ (SqT K H p ys ∧ Q (.ref p) H))
def lenD : PyData → Option Nat
  | .list xs => some xs.length
  | .tuple xs => some xs.length
  | .str s => if s.length ≤ 10000000 then some s.length else none
  | _ => none
theorem rl_abs {i : Int} (k : K (.int (if i < 0 then -i else i)) φ) : RL (fun xs H Q => ∃ i, xs = [.int i] ∧ Q (.int (if i < 0 then -i else i)) H) [.d (.int i)] φ K := rl_pure (fun b G H vs Q wd ra q => by
  obtain ⟨v, rfl, r⟩ := args1 ra
  cases r
  exact ⟨i, rfl, q _ (.int _)⟩) k
theorem rl_int {i : Int} (k : K (.int i) φ) : RL (fun xs H Q => (∃ i, xs = [.int i] ∧ Q (.int i) H) ∨ ∃ k, xs = [.bl k] ∧ Q (.int (if k then 1 else 0)) H) [.d (.int i)] φ K := rl_pure (fun b G H vs Q wd ra q => by
  obtain ⟨v, rfl, r⟩ := args1 ra
  cases r
  exact .inl ⟨i, rfl, q _ (.int _)⟩) k
theorem rl_intB {i : Bool} (k : K (.int (if i then 1 else 0)) φ) : RL (fun xs H Q => (∃ i, xs = [.int i] ∧ Q (.int i) H) ∨ ∃ k, xs = [.bl k] ∧ Q (.int (if k then 1 else 0)) H) [.d (.bool i)] φ K := rl_pure (fun b G H vs Q wd ra q => by
  obtain ⟨v, rfl, r⟩ := args1 ra
  cases r
  exact .inr ⟨i, rfl, q _ (.int _)⟩) k
theorem rl_max2 {i j : Int} (k : K (.int (if j > i then j else i)) φ) : RL (fun xs H Q => ∃ i j, xs = [.int i, .int j] ∧ Q (.int (if j > i then j else i)) H) [.d (.int i), .d (.int j)] φ K := rl_pure (fun b G H vs Q wd ra q => by
  obtain ⟨v, w, rfl, r1, r2⟩ := args2 ra
  cases r1; cases r2
  exact ⟨i, j, rfl, q _ (.int _)⟩) k
theorem rl_min2 {i j : Int} (k : K (.int (if j < i then j else i)) φ) : RL (fun xs H Q => ∃ i j, xs = [.int i, .int j] ∧ Q (.int (if j < i then j else i)) H) [.d (.int i), .d (.int j)] φ K := rl_pure (fun b G H vs Q wd ra q => by
  obtain ⟨v, w, rfl, r1, r2⟩ := args2 ra
  cases r1; cases r2
  exact ⟨i, j, rfl, q _ (.int _)⟩) k
theorem ints_of {b : Bx} {G H : Hp} {v : V} {ns : List Int} (wd : Wd b G H φ) (r : Rp G v (.list (ns.map .int))) : ∃ a, v = .ref a ∧ SqL KF H a (ns.map V.int) := by
  cases r with
  | lst h1 h2 =>
    have e := RpL.ints h2
    subst e
    exact ⟨_, rfl, SqL.of (wd.ex _ _ h1)⟩
theorem rl_sum {ns : List Int} (k : K (.int ns.sum) φ) : RL (rSum KF) [.d (.list (ns.map .int))] φ K := rl_pure (fun b G H vs Q wd ra q => by
  obtain ⟨v, rfl, r⟩ := args1 ra
  obtain ⟨a, rfl, h⟩ := ints_of (KF := KF) wd r
  exact ⟨a, ns, rfl, h, q _ (.int _)⟩) k
theorem rl_all {bs : List Bool} (k : K (.bool (bs.all id)) φ) : RL (rAll KF) [.d (.list (bs.map .bool))] φ K := rl_pure (fun b G H vs Q wd ra q => by
  obtain ⟨v, rfl, r⟩ := args1 ra
  cases r with
  | lst h1 h2 =>
    have e := RpL.bools h2
    subst e
    exact ⟨_, bs, rfl, SqL.of (wd.ex _ _ h1), q _ (.bl _)⟩) k
theorem rl_str {i : Int} (h : i.natAbs.log2 < 1920) (k : K (.str (toString i)) φ) : RL (fun xs H Q => ∃ i, xs = [.int i] ∧ i.natAbs.log2 < 1920 ∧ Q (.str (toString i)) H) [.d (.int i)] φ K := rl_pure (fun b G H vs Q wd ra q => by
  obtain ⟨v, rfl, r⟩ := args1 ra
  cases r
  exact ⟨i, rfl, h, q _ (.str _)⟩) k
end
end Eg

/-! EgOwn -/
set_option Elab.async false
set_option linter.all false
set_option maxRecDepth 100000
set_option maxHeartbeats 2000000
/-! ## own lists and boxes, read and changed in place -/
namespace Eg
open PySem L2
theorem set_same {σ : L2.St} {i : Nat} {o : Option V} (e : σ[i]? = some o) : σ.set i o = σ := by
  have hl : i < σ.length := (List.getElem?_eq_some_iff.mp e).1
  apply List.ext_getElem?
  intro j
  by_cases hij : i = j
  · subst hij; rw [List.getElem?_set_self hl, e]
  · rw [List.getElem?_set_ne hij]
section
variable {W : WX} {δ : List SD} {φ : Nat} {de : DE} {te : TE} {ts : TS} {KF : PySem.W.Frag} {XK : XC} {K : PyData → Nat → Prop}
/-! boxes -/
/-! dicts that are displayed, lists turned round -/
end
end Eg

/-! EgPlain -/
set_option Elab.async false
set_option linter.all false
namespace Eg
open PySem L2
mutual
/-- nothing in it stands for an object as such -/
def plain : PyData → Bool
  | .list xs => decide (xs.length ≤ 1000000) && plainAll xs
  | .tuple xs => decide (xs.length ≤ 1000000) && plainAll xs
  | .dict es => plainKv es
  | .str s => decide (s.length ≤ 1000000)
  | _ => true
def plainAll : List PyData → Bool
  | [] => true
  | x :: xs => plain x && plainAll xs
def plainKv : List (PyData × PyData) → Bool
  | [] => true
  | (k, v) :: r => !isNone k && plain v && plainKv r
end
section
variable {W : WX} {δ : List SD} {φ : Nat} {te tl : TE} {KF : PySem.W.Frag} {XK : XC} {K : PyData → Nat → Prop}
end
end Eg
namespace Eg
open PySem L2
end Eg

/-! EgMore -/
set_option Elab.async false
set_option linter.all false
set_option maxRecDepth 100000
set_option maxHeartbeats 2000000
namespace L2
open PySem PySem.Spec PyProof.Rows
def tTryN (K : PySem.W.Frag) (Wo : WX) (l : List (Value × Nat × Suite)) (tb : WX → TS) : TS := fun D σ H => tb (wTry K Wo D l) D σ H
theorem ps_try_n {X : Cx} {body : List Stmt} {h₀ : ExceptHandler} {hds : List ExceptHandler} {l : List (Value × Nat × Suite)} {pos : Pos} {tb : WX → TS} {Wo : WX} (hs : X.stack = X.env :: X.outer) (hf : X.env.frame = some X.env.locals) (hN : X.N.Nodup) (tk : Takes X Wo)
    (hb : ∀ (W : WX) (pn : List (Addr × Obj)) (xe : Value → Shared → Prop), Takes (X.tr pn xe) W → PassesOwn (model X.prog X.w) X.A X.env xe → PSs (X.tr pn xe) body (tb W))
    (hh : HdsA X (h₀ :: hds) l) : PS X (.Try body (h₀ :: hds) [] [] pos) (tTryN X.K Wo l tb) := ps_try_named hs hf hN tk hb hh
end L2
namespace Eg
open PySem L2
section
variable {W : WX} {δ : List SD} {φ : Nat} {de : DE} {te : TE} {ts : TS} {KF : PySem.W.Frag} {XK : XC} {K : PyData → Nat → Prop}
/-! a script, as it stands -/
end
end Eg

/-! EgTame -/
set_option Elab.async false
set_option linter.all false
/-! ## data that is short enough to be shown -/
namespace Eg
open PySem L2
structure Tame (d : PyData) (k m : Nat) : Prop where
  sh : d.showable = true
  ls : d.leavesShort 40 = true
  dp : d.depth ≤ k
  bk : d.bulk ≤ m
theorem Tame.mono {d : PyData} {k m k' m' : Nat} (h : Tame d k m) (h1 : k ≤ k') (h2 : m ≤ m') : Tame d k' m' := ⟨h.sh, h.ls, Nat.le_trans h.dp h1, Nat.le_trans h.bk h2⟩
theorem Tame.fits {d : PyData} (h : Tame d 50 300000) : d.shown.length ≤ sizeLine := by
  have := PyData.shown_le_bulk 40 (by decide) d h.ls
  have hb := h.bk
  have hs : sizeLine = 16777216 := by decide
  rw [hs]; omega
section
variable {φ : Nat} {K : PyData → Nat → Prop}
end
end Eg

/-! EgEnd -/
set_option Elab.async false
set_option linter.all false
set_option maxRecDepth 100000
set_option maxHeartbeats 2000000
/-! ## The end: a law's def whose promise asks for what is known of the guards -/
namespace Eg
open PySem PySem.Spec PyProof.Rows L2
/-- what is wanted of the call of a law's def -/
abbrev Told (s₁ : Shared) (r : Result) (s' : Shared) : Prop := r = .ok (.ret (.bool true)) ∧ OldK s₁.heap s'.heap ∧ s'.os = s₁.os ∧ AllBare s'.gens
section
variable {P : Program} {w : World} {K : PySem.W.Frag} {mg mb : Str → Option Value} {k : Nat} {fa a : Addr} {fd : FuncData} {x : Str} {sp : Sp} {s₁ : Shared} {vs : List Value} {ns : List Int}
end
end Eg

/-! EgGrow -/
set_option Elab.async false
set_option linter.all false
set_option maxRecDepth 100000
set_option maxHeartbeats 2000000
/-! ## a list that is handed to a call and grows behind it; the call told it as such -/
namespace Eg
open PySem L2
theorem ptr_inv {G : Hp} {v : V} {p : Addr} (h : Rp G v (ptrD p)) : v = .ref p := by
  generalize hx : ptrD p = x at h
  cases h with
  | dct h1 h2 =>
    unfold ptrD at hx
    injection hx with hx
    rw [← hx] at h2
    generalize hk : PyData.none = kk at h2
    cases h2 with
    | @cons k _ _ _ _ _ _ => cases k <;> cases hk
  | ptr q =>
    unfold ptrD at hx
    injection hx with hx
    injection hx with hx _
    injection hx with _ hx
    injection hx with hx
    have : (p : Int) = q := Int.add_left_cancel hx
    rw [Int.ofNat_inj.mp this]
  | _ => unfold ptrD at hx; cases hx
section
variable {W : WX} {δ : List SD} {φ : Nat} {de : DE} {te : TE} {rest : TS} {KF : PySem.W.Frag}
end
end Eg

/-! EgLowTime -/
set_option Elab.async false
set_option linter.all false
set_option maxRecDepth 100000
set_option maxHeartbeats 2000000
/-! ### an own error with the field time -/
namespace PySem
namespace EgX
open PySem.W PySem.Calls PyProof.Rows PySem.HandSPX
def iA_time (p1 p2 : Pos) : Arguments :=
  { posonlyargs := [], args := [{ arg := "self", annotation := none, pos := p1 }, { arg := "time", annotation := none, pos := p2 }],
    vararg := none, kwonlyargs := [], kw_defaults := [], kwarg := none, defaults := [] }
def iB_time (q1 q2 q3 q4 : Pos) : List Stmt := [.Assign [.Attribute (.Name "self" q1) "time" q2] (.Name "time" q3) q4]
def iS_time : Scope :=
  { kind := .function, names := [(PySem.Str.ofString "self", .local), (PySem.Str.ofString "time", .local)], isGenerator := false, isCoroutine := false, more := [] }
/-- the class cn at C under G, its __init__ at fI -/
structure Low_time (K : Frag) (mg : Str → Option Value) (cn qn : Str) (C G fI : Addr) : Prop where
  gC : mg cn = some (.ref C)
  cls : ∃ nm q N bs sn sub ab col dd k0 k1 k2 k3 k5, K.lookup C = some (excClassObj nm q C N bs (.ref G :: PySem.ESX.exTail) true sn sub ab col dd k0 k1 k2 k3 k5 "Exception.__new__")
  sa : findIn K (.ref C) "__setattr__" = some (some (.builtin "object.__setattr__"))
  ga : findIn K (.ref C) "__getattribute__" = some (some (.builtin "BaseException.__getattribute__"))
  gg : findIn K (.ref C) "__getattr__" = some none
  noN : findIn K (.ref C) "time" = some none
  iC : findIn K (.ref C) "__init__" = some (some (.ref fI))
  tC : typeIn K (.ref fI) = some (.type "function")
  kC : keepIn K (.ref C) = true
  exC : subIn K (.ref C) (.type "BaseException") = some true
  tyC : typeIn K (.ref C) = some (.type "type")
  hdC : hasDictIn K C = true
  te : exmOne K (.ref C) (.ref C) = some true
  fn : ∃ (oc : Value) (od : Option Addr) (doc pm : Value) (an : Option Addr) (cdv ct : Value) (osl : Array (Option Value)) (p1 p2 q1 q2 q3 q4 : Pos),
    K.lookup fI = some ⟨oc, od, .func (fnOf "__init__" qn (iA_time p1 p2) (iB_time q1 q2 q3 q4) iS_time .none .none doc pm an cdv ct), osl⟩ ∧ codeIn K cdv qn = true
structure InitEnd_time (h h' : Heap) (x C dx t1 : Addr) (v : Value) : Prop where
  keep : ∀ b o, b ≠ x → h.get? b = some o → h'.get? b = some o
  obj : h'.get? x = some { cls := .ref C, dict := some dx, data := .fields #[.ref t1, .none, .none, .none, .bool false, .none] }
  dbig : h.objs.size ≤ dx
  dne : dx ≠ x
  ns : h'.Ns1 dx (fun y => if y = "time" then some v else none)
structure Made_time (h h' : Heap) (e C d : Addr) (v : Value) : Prop where
  keep : ∀ b o, h.get? b = some o → h'.get? b = some o
  new : h.objs.size ≤ e
  obj : ∃ oe vs, h'.get? e = some oe ∧ oe.cls = .ref C ∧ oe.dict = some d ∧ oe.data = .fields vs ∧ vs[1]? = some .none
  dbig : h.objs.size ≤ d
  dne : d ≠ e
  ns : h'.Ns1 d (fun y => if y = "time" then some v else none)
section
variable {prog : Program} {w : World} {A : Around} {E : Value → Shared → Prop} {R : Result → Shared → Prop} {s : Shared} {K : Frag} {mg : Str → Option Value} {C G fI : Addr} {cn qn : Str}
end
end EgX
end PySem
namespace L2
open PySem PySem.Spec PyProof.Rows
section
variable {X : Cx} {C G fI : Addr} {cn qn : Str}
end
end L2

/-! EgNew -/
set_option Elab.async false
set_option linter.all false
set_option maxRecDepth 100000
set_option maxHeartbeats 2000000
/-! ## more rules, said of data -/
namespace Eg
open PySem L2
def swap2 {α : Type} (_ : List α) : List α → List α
  | [x, y] => [y, x]
  | z => z
section
variable {W : WX} {δ : List SD} {φ : Nat} {K : PyData → Nat → Prop} {XK : XC} {te ta tb tc : TE} {t u : TT} {KF : PySem.W.Frag} {de : DE}
theorem flat_ints (ns : List Int) : (ns.map V.int).all flatV = true := by
  induction ns with
  | nil => rfl
  | cons m ns ih => rw [List.map_cons, List.all_cons, ih]; rfl
end
end Eg
namespace Eg
open PySem L2
/-! ## two values are put into a list, both are handed to a call; one of them, a new list, grows behind it -/
section
variable {W : WX} {δ : List SD} {φ : Nat} {de : DE} {rest : TS} {KF : PySem.W.Frag}
end
end Eg
namespace Eg
open PySem L2
section
variable {φ : Nat} {K : PyData → Nat → Prop} {KF : PySem.W.Frag}
end
end Eg

/-! EgEnts -/
set_option Elab.async false
set_option linter.all false
set_option maxRecDepth 100000
set_option maxHeartbeats 2000000
namespace L2
open PySem PySem.Spec PyProof.Rows
/-- a dict of these keys and values stands at p -/
def EntsOf (p : Addr) (ks vs : List V) (h : Heap) : Prop := (p == sysModules) = false ∧ ∃ o es ep us ws, h.get? p = some o ∧ o.ExactDict ∧ o.data = .dict es ep ∧ es.size ≤ sizeLine ∧ es.toList.map (·.key) = us ∧ es.toList.map (·.val) = ws ∧ Vals ks us ∧ Vals vs ws
end L2

/-! MiCore -/
set_option Elab.async false
set_option linter.all false
set_option maxRecDepth 100000
set_option maxHeartbeats 2000000
/-! ## Mirrors: what a def does, as a function of data; cells are the objects that change -/
namespace Mi
open PySem L2 Eg
inductive Cell where
  | lst (xs : List PyData)
  | ins (C : Addr) (fs : List (Str × PyData))
  | dct (es : List (Key × PyData))
  /-- a dict while it is walked over; a dict with any keys, that never changes -/
  | dcl (o : Obj) (vs : List (Key × V)) (es : List (Key × PyData)) | opq (es : List (PyData × PyData))
abbrev Sg := Addr → Option Cell
def put (φ : Sg) (p : Addr) (c : Cell) : Sg := fun a => if a = p then some c else φ a
theorem put_same {φ : Sg} {p : Addr} {c : Cell} : put φ p c p = some c := if_pos rfl
theorem put_ne {φ : Sg} {p q : Addr} {c : Cell} (h : q ≠ p) : put φ p c q = φ q := if_neg h
theorem put_put {φ : Sg} {p : Addr} {c e : Cell} : put (put φ p c) p e = put φ p e := by
  funext a
  unfold put
  split <;> rfl
def rid (φ : Sg) (p : Addr) : Sg := fun a => if a = p then none else φ a
inductive M (α : Type) where
  | ret (a : α) | exc (C : String) (fs : List (Str × PyData)) | bad
  | new (c : Cell) (k : Addr → M α) | get (p : Addr) (k : Cell → M α) | put (p : Addr) (c : Cell) (k : M α)
  /-- whatever the object is, and what it holds -/
  | any (k : Obj → List (Key × V) → M α)
abbrev XC := String → List (Str × PyData) → Sg → Prop
namespace M
variable {α β γ : Type}
def bind : M α → (α → M β) → M β
  | ret a, f => f a
  | exc C fs, _ => exc C fs
  | bad, _ => bad
  | new c k, f => new c fun p => (k p).bind f
  | get p k, f => get p fun c => (k c).bind f
  | put p c k, f => put p c (k.bind f)
  | any k, f => any fun o vs => (k o vs).bind f
def wp : M α → Sg → (α → Sg → Prop) → XC → Prop
  | ret a, φ, K, _ => K a φ
  | exc C fs, φ, _, X => X C fs φ
  | bad, _, _, _ => False
  | new c k, φ, K, X => ∀ p, φ p = none → (k p).wp (Mi.put φ p c) K X
  | get p k, φ, K, X => ∃ c, φ p = some c ∧ (k c).wp φ K X
  | put p c k, φ, K, X => φ p ≠ none ∧ k.wp (Mi.put φ p c) K X
  | any k, φ, K, X => ∀ o vs, (k o vs).wp φ K X
theorem wp_bind {f : α → M β} {K : β → Sg → Prop} {X : XC} : ∀ (m : M α) (φ : Sg), (m.bind f).wp φ K X ↔ m.wp φ (fun a φ1 => (f a).wp φ1 K X) X
  | ret a, φ => Iff.rfl
  | exc C fs, φ => Iff.rfl
  | bad, φ => Iff.rfl
  | new c k, φ => ⟨fun h p hp => (wp_bind (k p) _).mp (h p hp), fun h p hp => (wp_bind (k p) _).mpr (h p hp)⟩
  | get p k, φ => ⟨fun ⟨c, e, h⟩ => ⟨c, e, (wp_bind (k c) _).mp h⟩, fun ⟨c, e, h⟩ => ⟨c, e, (wp_bind (k c) _).mpr h⟩⟩
  | put p c k, φ => ⟨fun ⟨e, h⟩ => ⟨e, (wp_bind k _).mp h⟩, fun ⟨e, h⟩ => ⟨e, (wp_bind k _).mpr h⟩⟩
  | any k, φ => ⟨fun h o vs => (wp_bind (k o vs) _).mp (h o vs), fun h o vs => (wp_bind (k o vs) _).mpr (h o vs)⟩
theorem wp_mono {K K' : α → Sg → Prop} {X X' : XC} (hk : ∀ a φ, K a φ → K' a φ) (hx : ∀ C fs φ, X C fs φ → X' C fs φ) : ∀ (m : M α) (φ : Sg), m.wp φ K X → m.wp φ K' X'
  | ret a, φ, h => hk _ _ h
  | exc C fs, φ, h => hx _ _ _ h
  | bad, φ, h => h
  | new c k, φ, h => fun p hp => wp_mono hk hx (k p) _ (h p hp)
  | get p k, φ, ⟨c, e, h⟩ => ⟨c, e, wp_mono hk hx (k c) _ h⟩
  | put p c k, φ, ⟨e, h⟩ => ⟨e, wp_mono hk hx k _ h⟩
  | any k, φ, h => fun o vs => wp_mono hk hx (k o vs) _ (h o vs)
@[simp] theorem ret_bind {a : α} {f : α → M β} : (ret a).bind f = f a := rfl
@[simp] theorem exc_bind {C : String} {fs : List (Str × PyData)} {f : α → M β} : (exc C fs : M α).bind f = exc C fs := rfl
@[simp] theorem bad_bind {f : α → M β} : (bad : M α).bind f = bad := rfl
/-- what may fail, as an M -/
def of : Option α → M α
  | some a => ret a
  | none => bad
end M
/-! ### the world -/
inductive RpF (G : Hp) : List (Str × V) → List (Str × PyData) → Prop
  | nil : RpF G [] []
  | cons {f : Str} {v : V} {x : PyData} {vs : List (Str × V)} {xs : List (Str × PyData)} : Rp G v x → RpF G vs xs → RpF G ((f, v) :: vs) ((f, x) :: xs)
theorem RpF.mono {G G' : Hp} (e : Ex G G') {vs : List (Str × V)} {xs : List (Str × PyData)} (h : RpF G vs xs) : RpF G' vs xs := by
  induction h with
  | nil => exact .nil
  | cons r _ ih => exact .cons (Rp.mono e _ _ r) ih
theorem RpF.lk {G : Hp} {f : Str} {x : PyData} : ∀ {vs : List (Str × V)} {xs : List (Str × PyData)}, RpF G vs xs → xs.lookup f = some x → ∃ v, vs.lookup f = some v ∧ Rp G v x
  | _, _, .nil, e => nomatch e
  | _, _, .cons (f := g) r h, e => by
    rw [List.lookup_cons] at e ⊢
    cases hb : (f == g) with
    | true => rw [hb] at e; cases e; exact ⟨_, rfl, r⟩
    | false => rw [hb] at e; exact h.lk e
/-- an error's dict d and its fields -/
def XdR (G : Hp) (d : Option Addr) (fs : List (Str × PyData)) : Prop := fs = [] ∨ ∃ dd vs, d = some dd ∧ G dd = some (.xd vs) ∧ RpF G vs fs
theorem XdR.mono {G G' : Hp} (e : Ex G G') {d : Option Addr} {fs : List (Str × PyData)} : XdR G d fs → XdR G' d fs
  | .inl h => .inl h
  | .inr ⟨dd, vs, a, b, r⟩ => .inr ⟨dd, vs, a, e _ _ b, r.mono e⟩
/-- a dict's keys and what they hold -/
inductive RpD (G : Hp) : List (Key × V) → List (Key × PyData) → Prop
  | nil : RpD G [] []
  | cons {k : Key} {v : V} {x : PyData} {vs : List (Key × V)} {xs : List (Key × PyData)} : Rp G v x → RpD G vs xs → RpD G ((k, v) :: vs) ((k, x) :: xs)
theorem RpD.mono {G G' : Hp} (e : Ex G G') {vs : List (Key × V)} {xs : List (Key × PyData)} (h : RpD G vs xs) : RpD G' vs xs := by
  induction h with
  | nil => exact .nil
  | cons r _ ih => exact .cons (Rp.mono e _ _ r) ih
def CellR (G H : Hp) (p : Addr) : Cell → Prop
  | .dcl o vs es => H p = some (.frz o (.dK vs)) ∧ RpD G vs es
  | .opq es => ∃ ks vs, H p = some (.ext (EntsOf p ks vs)) ∧ RpL G ks (es.map (·.1)) ∧ RpL G vs (es.map (·.2))
  | .dct es => ∃ vs, H p = some (.dK vs) ∧ RpD G vs es
  | .lst xs => ∃ vs, H p = some (.lst vs) ∧ RpL G vs xs
  | .ins C fs => ∃ dx vs, H p = some (.ins C dx vs) ∧ RpF G vs fs
theorem CellR.mono {G G' H : Hp} {p : Addr} (e : Ex G G') : ∀ {c : Cell}, CellR G H p c → CellR G' H p c
  | .lst _, ⟨vs, a, b⟩ => ⟨vs, a, RpL.mono e _ _ b⟩
  | .ins _ _, ⟨dx, vs, a, b⟩ => ⟨dx, vs, a, b.mono e⟩
  | .dct _, ⟨vs, a, b⟩ => ⟨vs, a, b.mono e⟩
  | .dcl _ _ _, ⟨a, b⟩ => ⟨a, b.mono e⟩
  | .opq _, ⟨ks, vs, a, b, c⟩ => ⟨ks, vs, a, RpL.mono e _ _ b, RpL.mono e _ _ c⟩
theorem CellR.same {G H H' : Hp} {p : Addr} (e : H' p = H p) : ∀ {c : Cell}, CellR G H p c → CellR G H' p c
  | .lst _, ⟨vs, a, b⟩ => ⟨vs, by rw [e]; exact a, b⟩
  | .ins _ _, ⟨dx, vs, a, b⟩ => ⟨dx, vs, by rw [e]; exact a, b⟩
  | .dct _, ⟨vs, a, b⟩ => ⟨vs, by rw [e]; exact a, b⟩
  | .dcl _ _ _, ⟨a, b⟩ => ⟨by rw [e]; exact a, b⟩
  | .opq _, ⟨ks, vs, a, b, c⟩ => ⟨ks, vs, by rw [e]; exact a, b, c⟩
theorem CellR.there {G H : Hp} {p : Addr} : ∀ {c : Cell}, CellR G H p c → H p ≠ none
  | .lst _, ⟨vs, a, b⟩ => by rw [a]; exact fun z => nomatch z
  | .ins _ _, ⟨dx, vs, a, b⟩ => by rw [a]; exact fun z => nomatch z
  | .dct _, ⟨vs, a, b⟩ => by rw [a]; exact fun z => nomatch z
  | .dcl _ _ _, ⟨a, b⟩ => by rw [a]; exact fun z => nomatch z
  | .opq _, ⟨ks, vs, a, b, c⟩ => by rw [a]; exact fun z => nomatch z
/-- a cell that may change is none of the things known -/
def CellG (G : Hp) (p : Addr) : Cell → Prop
  | .lst _ => G p = none
  | .ins _ _ => G p = none
  | .dct _ => G p = none
  | .opq _ => G p = none
  | .dcl _ _ _ => G p = none
def Cell.open_ (_ : Cell) : Bool := true
theorem CellG.nn {G : Hp} {p : Addr} {c : Cell} (h : CellG G p c) (ho : c.open_ = true) : G p = none := by
  cases c <;> exact h
theorem CellG.of {G : Hp} {p : Addr} {c : Cell} (h : G p = none) : CellG G p c := by
  cases c <;> exact h
theorem CellG.to {G G' : Hp} {p : Addr} {c : Cell} (h : CellG G p c) (e : G p = none → G' p = none) : CellG G' p c := by
  cases c <;> exact e h
structure Wd (τ : Sg) (G H : Hp) : Prop where
  ex : Ex G H
  cell : ∀ p c, τ p = some c → CellG G p c ∧ CellR G H p c
def Le (φ τ : Sg) : Prop := ∀ p c, φ p = some c → τ p = some c
structure Go (φ τ : Sg) (G : Hp) (φ' τ' : Sg) (G' : Hp) : Prop where
  ex : Ex G G'
  le : Le φ' τ'
  kept : ∀ p c, τ p = some c → φ p = none → τ' p = some c ∧ φ' p = none
  stay : ∀ p, τ p ≠ none → τ' p ≠ none ∨ G' p ≠ none
theorem Go.refl {φ τ : Sg} {G : Hp} (h : Le φ τ) : Go φ τ G φ τ G := ⟨Ex.refl _, h, fun _ _ a b => ⟨a, b⟩, fun _ h => .inl h⟩
theorem Go.trans {φ τ φ1 τ1 φ2 τ2 : Sg} {G G1 G2 : Hp} (a : Go φ τ G φ1 τ1 G1) (b : Go φ1 τ1 G1 φ2 τ2 G2) : Go φ τ G φ2 τ2 G2 :=
  ⟨a.ex.trans b.ex, b.le, fun p c h1 h2 => b.kept p c (a.kept p c h1 h2).1 (a.kept p c h1 h2).2, fun p h => (a.stay p h).elim (b.stay p) fun q => .inr (by
    cases e : G1 p with
    | none => exact absurd e q
    | some o => rw [b.ex p o e]; exact fun z => nomatch z)⟩
section
variable {τ φ : Sg} {G H : Hp} {p : Addr}
theorem Wd.gn (w : Wd τ G H) (hp : H p = none) : G p = none := by
  cases e : G p with
  | none => rfl
  | some o => rw [w.ex p o e] at hp; cases hp
theorem Wd.tn (w : Wd τ G H) (hp : H p = none) : τ p = none := by
  cases e : τ p with
  | none => rfl
  | some c => exact absurd hp (w.cell p c e).2.there
theorem Le.none (h : Le φ τ) (e : τ p = none) : φ p = none := by
  cases z : φ p with
  | none => rfl
  | some c => rw [h p c z] at e; cases e
/-- a new object that is known from now on -/
theorem Wd.laid {o : HO} (w : Wd τ G H) (hp : H p = none) : Wd τ (upd G p o) (upd H p o) := ⟨fun a u e => by
    by_cases h : a = p
    · subst h; rw [upd_same] at e ⊢; exact e
    · rw [upd_ne h] at e ⊢; exact w.ex a u e, fun q c e => by
    have hn : q ≠ p := fun z => by rw [z, w.tn hp] at e; cases e
    obtain ⟨g0, r⟩ := w.cell q c e
    exact ⟨g0.to fun z => by rw [upd_ne hn]; exact z, (r.same (upd_ne hn)).mono (Ex.new (w.gn hp))⟩⟩
theorem Go.laid {o : HO} (w : Wd τ G H) (l : Le φ τ) (hp : H p = none) : Go φ τ G φ τ (upd G p o) := ⟨Ex.new (w.gn hp), l, fun _ _ a b => ⟨a, b⟩, fun _ h => .inl h⟩
/-- a new list that changes -/
theorem Wd.fresh {vs : List V} {xs : List PyData} (w : Wd τ G H) (hp : H p = none) (r : RpL G vs xs) : Wd (put τ p (.lst xs)) G (upd H p (.lst vs)) := ⟨fun a u e => by
    rw [upd_ne (ne_of_none (w.ex a u e) hp)]; exact w.ex a u e, fun q c e => by
    by_cases h : q = p
    · subst h; rw [put_same] at e; cases e; exact ⟨w.gn hp, vs, upd_same, r⟩
    · rw [put_ne h] at e; obtain ⟨g0, r⟩ := w.cell q c e; exact ⟨g0, r.same (upd_ne h)⟩⟩
theorem Go.fresh {c : Cell} (w : Wd τ G H) (l : Le φ τ) (hp : H p = none) : Go φ τ G φ (put τ p c) G := ⟨Ex.refl _, fun q d e => by
    have h : q ≠ p := fun z => by rw [z, l.none (w.tn hp)] at e; cases e
    rw [put_ne h]; exact l q d e, fun q d a b => ⟨by
    have h : q ≠ p := fun z => by rw [z, w.tn hp] at a; cases a
    rw [put_ne h]; exact a, b⟩, fun q h => .inl (by
    by_cases hq : q = p
    · rw [hq, put_same]; exact fun z => nomatch z
    · rw [put_ne hq]; exact h)⟩
/-- something nobody looks at -/
theorem Wd.aside {o : HO} (w : Wd τ G H) (hp : H p = none) : Wd τ G (upd H p o) := ⟨fun a u e => by
    rw [upd_ne (ne_of_none (w.ex a u e) hp)]; exact w.ex a u e, fun q c e => by
    have hn : q ≠ p := fun z => by rw [z, w.tn hp] at e; cases e
    obtain ⟨g0, r⟩ := w.cell q c e
    exact ⟨g0, r.same (upd_ne hn)⟩⟩
/-- a cell changes -/
theorem Wd.poke {vs : List V} {xs : List PyData} {c : Cell} (w : Wd τ G H) (hp : τ p = some c) (r : RpL G vs xs) (ho : c.open_ = true := by rfl) : Wd (put τ p (.lst xs)) G (upd H p (.lst vs)) := ⟨fun a u e => by
    rw [upd_ne (ne_of_none e ((w.cell p c hp).1.nn ho))]; exact w.ex a u e, fun q d e => by
    by_cases h : q = p
    · subst h; rw [put_same] at e; cases e; exact ⟨(w.cell q c hp).1.nn ho, vs, upd_same, r⟩
    · rw [put_ne h] at e; obtain ⟨g0, r⟩ := w.cell q d e; exact ⟨g0, r.same (upd_ne h)⟩⟩
/-- a list that changes no more is known -/
theorem Wd.know {vs : List V} {xs : List PyData} (w : Wd τ G H) (hp : τ p = some (.lst xs)) (hh : H p = some (.lst vs)) : Wd (rid τ p) (upd G p (.lst vs)) H := ⟨fun a u e => by
    by_cases h : a = p
    · subst h; rw [upd_same] at e; cases e; exact hh
    · rw [upd_ne h] at e; exact w.ex a u e, fun q d e => by
    unfold rid at e
    by_cases h : q = p
    · rw [if_pos h] at e; cases e
    · rw [if_neg h] at e; obtain ⟨g0, r⟩ := w.cell q d e; exact ⟨g0.to fun z => by rw [upd_ne h]; exact z, r.mono (Ex.new (show G p = none from (w.cell p _ hp).1))⟩⟩
end
/-! ### slots -/
inductive SD where
  | u | d (x : PyData) | own (xs : List PyData) | exn (C : String) (fs : List (Str × PyData)) | scr (ns : List Int)
/-- what stands fixed: the classes' addresses; the errors that suites hold (slot, error, its dict) -/
structure Cn where
  K : PySem.W.Frag
  cl : String → Addr
  ec : Nat → Option (Addr × Addr × Option Addr)
inductive SlR (c : Cn) (τ0 φ τ : Sg) (G : Hp) (i : Nat) : Option V → SD → Prop
  | u {o : Option V} : SlR c τ0 φ τ G i o .u
  | d {v : V} {x : PyData} : Rp G v x → SlR c τ0 φ τ G i (some v) (.d x)
  | own {p : Addr} {xs : List PyData} : τ p = some (.lst xs) → φ p = none → τ0 p = none → SlR c τ0 φ τ G i (some (.ref p)) (.own xs)
  | exn {a : Addr} {d : Option Addr} {C : String} {fs : List (Str × PyData)} : c.ec i = some (a, c.cl C, d) → XdR G d fs → SlR c τ0 φ τ G i (some (.ref a)) (.exn C fs)
  | scr {a : Addr} {ns : List Int} : ScrAt c.K G a ns → SlR c τ0 φ τ G i (some (.ref a)) (.scr ns)
structure Sl (c : Cn) (τ0 φ τ : Sg) (G : Hp) (σ : L2.St) (δ : List SD) : Prop where
  len : σ.length = δ.length
  at_ : ∀ (i : Nat) (o : Option V) (s : SD), σ[i]? = some o → δ[i]? = some s → SlR c τ0 φ τ G i o s
  apart : ∀ (i j : Nat) (p : Addr) (xs ys : List PyData), i ≠ j → σ[i]? = some (some (.ref p)) → δ[i]? = some (.own xs) → δ[j]? = some (.own ys) → σ[j]? ≠ some (some (.ref p))
section
variable {c : Cn} {τ0 φ τ φ' τ' : Sg} {G G' H H' : Hp} {σ : L2.St} {δ : List SD} {i : Nat}
theorem SlR.go {o : Option V} {s : SD} (g : Go φ τ G φ' τ' G') (h : SlR c τ0 φ τ G i o s) : SlR c τ0 φ' τ' G' i o s := by
  cases h with
  | u => exact .u
  | d r => exact .d (Rp.mono g.ex _ _ r)
  | own h1 h2 h3 => exact .own (g.kept _ _ h1 h2).1 (g.kept _ _ h1 h2).2 h3
  | exn h1 h2 => exact .exn h1 (h2.mono g.ex)
  | scr r => exact .scr (r.mono g.ex)
theorem Sl.go (g : Go φ τ G φ' τ' G') (h : Sl c τ0 φ τ G σ δ) : Sl c τ0 φ' τ' G' σ δ := ⟨h.len, fun i o s e1 e2 => (h.at_ i o s e1 e2).go g, h.apart⟩
theorem Sl.get (h : Sl c τ0 φ τ G σ δ) {s : SD} (e : δ[i]? = some s) : ∃ o, σ[i]? = some o ∧ SlR c τ0 φ τ G i o s := by
  have hi : i < δ.length := (List.getElem?_eq_some_iff.mp e).1
  have hi2 : i < σ.length := by rw [h.len]; exact hi
  exact ⟨σ[i], List.getElem?_eq_getElem hi2, h.at_ i _ s (List.getElem?_eq_getElem hi2) e⟩
theorem Sl.set (h : Sl c τ0 φ τ G σ δ) {o : Option V} {s : SD} (r : SlR c τ0 φ τ G i o s) (hs : ∀ (p : Addr) (xs : List PyData) (j : Nat) (ys : List PyData), o = some (V.ref p) → s = SD.own xs → j ≠ i → δ[j]? = some (SD.own ys) → σ[j]? ≠ some (some (V.ref p))) : Sl c τ0 φ τ G (σ.set i o) (δ.set i s) := by
  refine ⟨by rw [List.length_set, List.length_set, h.len], fun j q t e1 e2 => ?_, fun j k p xs ys hjk e1 e2 e3 e4 => ?_⟩
  · by_cases hij : i = j
    · subst hij
      have hl : i < σ.length := by simpa using (List.getElem?_eq_some_iff.mp e1).1
      rw [List.getElem?_set_self hl] at e1
      rw [List.getElem?_set_self (by rw [← h.len]; exact hl)] at e2
      cases e1; cases e2; exact r
    · rw [List.getElem?_set_ne hij] at e1 e2
      exact h.at_ j q t e1 e2
  · by_cases hij : i = j
    · subst hij
      have hl : i < σ.length := by simpa using (List.getElem?_eq_some_iff.mp e1).1
      rw [List.getElem?_set_self hl] at e1
      rw [List.getElem?_set_self (by rw [← h.len]; exact hl)] at e2
      rw [List.getElem?_set_ne hjk] at e3 e4
      cases e1; cases e2
      exact hs p xs k ys rfl rfl (Ne.symm hjk) e3 e4
    · by_cases hik : i = k
      · subst hik
        have hl : i < σ.length := by simpa using (List.getElem?_eq_some_iff.mp e4).1
        rw [List.getElem?_set_self hl] at e4
        rw [List.getElem?_set_self (by rw [← h.len]; exact hl)] at e3
        rw [List.getElem?_set_ne hij] at e1 e2
        cases e3; cases e4
        exact hs p ys j xs rfl rfl (Ne.symm hij) e2 e1
      · rw [List.getElem?_set_ne hij] at e1 e2
        rw [List.getElem?_set_ne hik] at e3 e4
        exact h.apart j k p xs ys hjk e1 e2 e3 e4
theorem Sl.setD (h : Sl c τ0 φ τ G σ δ) {v : V} {x : PyData} (r : Rp G v x) : Sl c τ0 φ τ G (σ.set i (some v)) (δ.set i (.d x)) := h.set (.d r) fun _ _ _ _ _ e => nomatch e
theorem Sl.setU (h : Sl c τ0 φ τ G σ δ) {o : Option V} : Sl c τ0 φ τ G (σ.set i o) (δ.set i .u) := h.set .u fun _ _ _ _ _ e => nomatch e
theorem Sl.setOwn (h : Sl c τ0 φ τ G σ δ) {p : Addr} {xs : List PyData} (h1 : τ p = some (.lst xs)) (h2 : φ p = none) (h3 : τ0 p = none) (hn : ∀ (j : Nat) (ys : List PyData), δ[j]? = some (SD.own ys) → σ[j]? ≠ some (some (V.ref p))) : Sl c τ0 φ τ G (σ.set i (some (.ref p))) (δ.set i (.own xs)) :=
  h.set (.own h1 h2 h3) fun q _ j ys e _ _ e2 => by cases e; exact hn j ys e2
/-- an own list is none that was not there -/
theorem Sl.newOwn (h : Sl c τ0 φ τ G σ δ) {p : Addr} (hp : τ p = none) (j : Nat) (ys : List PyData) (e : δ[j]? = some (.own ys)) : σ[j]? ≠ some (some (.ref p)) := fun z => by
  have r := h.at_ j _ _ z e
  cases r with
  | own h1 _ _ => rw [hp] at h1; cases h1
end
/-! ### judgements: te does what m tells -/
section
variable (c : Cn) (W : WX)
def Xq (c : Cn) (W : WX) (φ τ : Sg) (G : Hp) (σ : L2.St) : XC := fun C fs φ' => ∀ d τ' G' H', Wd τ' G' H' → Go φ τ G φ' τ' G' → XdR G' d fs → W (.ref (c.cl C)) d σ H'
def ME (te : TE) (m : List SD → M PyData) : Prop := ∀ (τ0 φ τ : Sg) (δ : List SD) (G H : Hp) (σ : L2.St) (Q : VK), Wd τ G H → Le φ τ → Sl c τ0 φ τ G σ δ →
  (m δ).wp φ (fun d φ' => ∀ v τ' G' H', Wd τ' G' H' → Go φ τ G φ' τ' G' → Rp G' v d → Q v H') (Xq c W φ τ G σ) → te σ H Q
/-- a new list -/
def MF (te : TE) (m : List SD → M (List PyData)) : Prop := ∀ (τ0 φ τ : Sg) (δ : List SD) (G H : Hp) (σ : L2.St) (Q : VK), Wd τ G H → Le φ τ → Sl c τ0 φ τ G σ δ →
  (m δ).wp φ (fun xs φ' => ∀ p τ' G' H', Wd τ' G' H' → Go φ τ G φ' τ' G' → τ p = none → τ' p = some (.lst xs) → φ' p = none → Q (.ref p) H') (Xq c W φ τ G σ) → te σ H Q
def MT (te : TT) (m : List SD → M Bool) : Prop := ∀ (τ0 φ τ : Sg) (δ : List SD) (G H : Hp) (σ : L2.St) (Q : Bool → Hp → Prop), Wd τ G H → Le φ τ → Sl c τ0 φ τ G σ δ →
  (m δ).wp φ (fun b φ' => ∀ τ' G' H', Wd τ' G' H' → Go φ τ G φ' τ' G' → Q b H') (Xq c W φ τ G σ) → te σ H Q
inductive AV where
  | d (x : PyData) | scr (ns : List Int)
inductive ArgR (K : PySem.W.Frag) (G : Hp) : V → AV → Prop
  | d {v : V} {x : PyData} : Rp G v x → ArgR K G v (.d x)
  | scr {a : Addr} {ns : List Int} : ScrAt K G a ns → ArgR K G (.ref a) (.scr ns)
inductive ArgsR (K : PySem.W.Frag) (G : Hp) : List V → List AV → Prop
  | nil : ArgsR K G [] []
  | cons {v : V} {a : AV} {vs : List V} {as : List AV} : ArgR K G v a → ArgsR K G vs as → ArgsR K G (v :: vs) (a :: as)
def MA (ta : TA) (m : List SD → M (List AV)) : Prop := ∀ (τ0 φ τ : Sg) (δ : List SD) (G H : Hp) (σ : L2.St) (Q : List V → Hp → Prop), Wd τ G H → Le φ τ → Sl c τ0 φ τ G σ δ →
  (m δ).wp φ (fun as φ' => ∀ vs τ' G' H', Wd τ' G' H' → Go φ τ G φ' τ' G' → ArgsR c.K G' vs as → Q vs H') (Xq c W φ τ G σ) → ta σ H Q
end
inductive Fl where
  | nx (δ : List SD) | bk (δ : List SD) | ct (δ : List SD) | rt (x : PyData) | rf (xs : List PyData) | xx (C : String) (fs : List (Str × PyData)) (δ : List SD)
def FlR (c : Cn) (W : WX) (D : Ends) (φ0 τ0 : Sg) (G0 : Hp) : Fl → Sg → Prop
  | .nx δ', φ' => ∀ σ' τ' G' H', Wd τ' G' H' → Go φ0 τ0 G0 φ' τ' G' → Sl c τ0 φ' τ' G' σ' δ' → D.nx σ' H'
  | .bk δ', φ' => ∀ σ' τ' G' H', Wd τ' G' H' → Go φ0 τ0 G0 φ' τ' G' → Sl c τ0 φ' τ' G' σ' δ' → D.bk σ' H'
  | .ct δ', φ' => ∀ σ' τ' G' H', Wd τ' G' H' → Go φ0 τ0 G0 φ' τ' G' → Sl c τ0 φ' τ' G' σ' δ' → D.ct σ' H'
  | .rt x, φ' => ∀ v τ' G' H', Wd τ' G' H' → Go φ0 τ0 G0 φ' τ' G' → Rp G' v x → D.rt v H'
  | .rf xs, φ' => ∀ p τ' G' H', Wd τ' G' H' → Go φ0 τ0 G0 φ' τ' G' → τ0 p = none → τ' p = some (.lst xs) → φ' p = none → D.rt (.ref p) H'
  | .xx C fs δ', φ' => ∀ σ' d τ' G' H', Wd τ' G' H' → Go φ0 τ0 G0 φ' τ' G' → Sl c τ0 φ' τ' G' σ' δ' → XdR G' d fs → W (.ref (c.cl C)) d σ' H'
def MS (c : Cn) (W : WX) (ts : TS) (m : List SD → M Fl) : Prop := ∀ (φ0 τ0 : Sg) (G0 : Hp) (φ τ : Sg) (δ : List SD) (G H : Hp) (σ : L2.St) (D : Ends), Wd τ G H → Go φ0 τ0 G0 φ τ G → Sl c τ0 φ τ G σ δ →
  (m δ).wp φ (FlR c W D φ0 τ0 G0) (fun _ _ _ => False) → ts D σ H
/-- an expression's error, as a way out of a statement -/
def catch_ {α : Type} : M α → List SD → (α → M Fl) → M Fl
  | .ret a, _, k => k a
  | .exc C fs, δ, _ => .ret (.xx C fs δ)
  | .bad, _, _ => .bad
  | .new e k0, δ, k => .new e fun p => catch_ (k0 p) δ k
  | .get p k0, δ, k => .get p fun e => catch_ (k0 e) δ k
  | .put p e k0, δ, k => .put p e (catch_ k0 δ k)
  | .any k0, δ, k => .any fun o vs => catch_ (k0 o vs) δ k
theorem wp_catch {α : Type} {δ : List SD} {k : α → M Fl} {K : Fl → Sg → Prop} {X : XC} : ∀ (m : M α) (φ : Sg), (catch_ m δ k).wp φ K X → m.wp φ (fun a φ1 => (k a).wp φ1 K X) (fun C fs φ1 => K (.xx C fs δ) φ1)
  | .ret a, φ, h => h
  | .exc C fs, φ, h => h
  | .bad, φ, h => h
  | .new c k, φ, h => fun p hp => wp_catch (k p) _ (h p hp)
  | .get p k, φ, ⟨c, e, h⟩ => ⟨c, e, wp_catch (k c) _ h⟩
  | .put p c k, φ, ⟨e, h⟩ => ⟨e, wp_catch k _ h⟩
  | .any k, φ, h => fun o vs => wp_catch (k o vs) _ (h o vs)
/-- the value of a def: data, or a new list -/
inductive Rt where
  | d (x : PyData) | f (xs : List PyData)
def Rt.data : Rt → PyData
  | .d x => x
  | .f xs => .list xs
/-- what a def's caller wants, of each kind of value -/
def RtR (Q : VK) (φ τ : Sg) (G : Hp) (φ' : Sg) : Rt → Prop
  | .d x => ∀ v τ' G' H', Wd τ' G' H' → Go φ τ G φ' τ' G' → Rp G' v x → Q v H'
  | .f xs => ∀ p τ' G' H', Wd τ' G' H' → Go φ τ G φ' τ' G' → τ p = none → τ' p = some (.lst xs) → φ' p = none → Q (.ref p) H'
/-- a def's promise: its mirror -/
def SpM (K : PySem.W.Frag) (cl : String → Addr) (m : List AV → M Rt) : Sp := fun vs H Q E => ∃ (φ τ : Sg) (G : Hp) (as : List AV), Wd τ G H ∧ Le φ τ ∧ ArgsR K G vs as ∧
  (m as).wp φ (fun r φ' => RtR Q φ τ G φ' r)
   (fun C fs φ' => ∀ d τ' G' H', Wd τ' G' H' → Go φ τ G φ' τ' G' → XdR G' d fs → E (.ref (cl C)) d H')
end Mi

/-! MiEx -/
set_option Elab.async false
set_option linter.all false
set_option maxRecDepth 100000
set_option maxHeartbeats 2000000
namespace Mi
open PySem L2 Eg
abbrev noB : Bx := fun _ => False
theorem eWd {τ : Sg} {G H : Hp} (w : Wd τ G H) : Eg.Wd noB G H 0 := ⟨w.ex, fun _ h => h.elim⟩
theorem bridge {τ : Sg} {G H G' H' : Hp} {n : Nat} (w : Wd τ G H) (w' : Eg.Wd noB G' H' n) (g : Eg.Go noB G H G' H') : Wd τ G' H' := ⟨w'.ex, fun p c e => by
  obtain ⟨g0, r⟩ := w.cell p c e
  have z : H p ≠ none := r.there
  cases eh : H p with
  | none => exact absurd eh z
  | some o => exact ⟨g0.to fun g0 => g.priv p (fun h => h) z g0, (r.same (by rw [g.keep p o (fun h => h) eh, eh])).mono g.ex⟩⟩
theorem bridgeGo {φ τ : Sg} {G H G' H' : Hp} (l : Le φ τ) (g : Eg.Go noB G H G' H') : Go φ τ G φ τ G' := ⟨g.ex, l, fun _ _ a b => ⟨a, b⟩, fun _ h => .inl h⟩
theorem Xq.go {c : Cn} {W : WX} {φ τ φ1 τ1 : Sg} {G G1 : Hp} {σ : L2.St} {C : String} {fs : List (Str × PyData)} {φ' : Sg} (g : Go φ τ G φ1 τ1 G1) (h : Xq c W φ τ G σ C fs φ') : Xq c W φ1 τ1 G1 σ C fs φ' :=
  fun d τ' G' H' w' g' r => h d τ' G' H' w' (g.trans g') r
abbrev E := List SD → M PyData
abbrev B := List SD → M Bool
abbrev As := List SD → M (List AV)
/-! mirrors of expressions -/
def xC (x : PyData) : E := fun _ => .ret x
def xV (i : Nat) : E := fun δ => match δ[i]? with
  | some (.d x) => .ret x
  | _ => .bad
def x2 (f : PyData → PyData → Option PyData) (a b : E) : E := fun δ => (a δ).bind fun x => (b δ).bind fun y => M.of (f x y)
def x1 (f : PyData → Option PyData) (a : E) : E := fun δ => (a δ).bind fun x => M.of (f x)
def xIf (t : B) (a b : E) : E := fun δ => (t δ).bind fun c => if c = true then a δ else b δ
def asB : PyData → M Bool
  | .bool c => .ret c
  | _ => .bad
def xAnd (a b : E) : E := fun δ => (a δ).bind fun x => (asB x).bind fun c => if c = true then b δ else .ret (.bool false)
def xOr (a b : E) : E := fun δ => (a δ).bind fun x => (asB x).bind fun c => if c = true then .ret (.bool true) else b δ
def xNot (a : E) : E := fun δ => (a δ).bind fun x => (asB x).bind fun c => .ret (.bool (!c))
def tV (a : E) : B := fun δ => (a δ).bind asB
def tAn (a b : B) : B := fun δ => (a δ).bind fun c => if c = true then b δ else .ret false
def tOrr (a b : B) : B := fun δ => (a δ).bind fun c => if c = true then .ret true else b δ
def tNo (a : B) : B := fun δ => (a δ).bind fun c => .ret (!c)
def aNil : As := fun _ => .ret []
def aC (a : E) (r : As) : As := fun δ => (a δ).bind fun x => (r δ).bind fun as => .ret (.d x :: as)
def aScr (i : Nat) (r : As) : As := fun δ => match δ[i]? with
  | some (.scr ns) => (r δ).bind fun as => .ret (.scr ns :: as)
  | _ => .bad
def dat : List AV → Option (List PyData)
  | [] => some []
  | .d x :: as => (dat as).map (x :: ·)
  | .scr _ :: _ => none
def short (as : List AV) : Option (List PyData) := match dat as with
  | some xs => if xs.length ≤ 10000000 then some xs else none
  | none => none
def xTup (a : As) : E := fun δ => (a δ).bind fun as => (M.of (short as)).bind fun xs => .ret (.tuple xs)
def fLst (a : As) : List SD → M (List PyData) := fun δ => (a δ).bind fun as => M.of (short as)
def ofF (m : List SD → M (List PyData)) : E := fun δ => (m δ).bind fun xs => .ret (.list xs)
section
variable {c : Cn} {W : WX} {te ta tb tc : TE} {t u : TT} {a b e : E}
theorem me_c {v : V} {x : PyData} (h : ∀ G, Rp G v x) : ME c W (tC v) (xC x) := fun τ0 φ τ δ G H σ Q w l s k => k v τ G H w (Go.refl l) (h G)
theorem me_int {i : Int} : ME c W (tC (.int i)) (xC (.int i)) := me_c fun _ => .int i
theorem me_bl {i : Bool} : ME c W (tC (.bl i)) (xC (.bool i)) := me_c fun _ => .bl i
theorem me_str {i : Str} : ME c W (tC (.str i)) (xC (.str i)) := me_c fun _ => .str i
theorem me_non : ME c W (tC .non) (xC .none) := me_c fun _ => .non
theorem me_v {i : Nat} : ME c W (tVar i) (xV i) := fun τ0 φ τ δ G H σ Q w l s k => by
  unfold xV at k
  cases e : δ[i]? with
  | none => rw [e] at k; exact k.elim
  | some sd =>
    rw [e] at k
    cases sd with
    | d x =>
      obtain ⟨o, e1, r⟩ := s.get e
      cases r with
      | d r => exact ⟨_, e1, k _ τ G H w (Go.refl l) r⟩
    | _ => exact k.elim
theorem wp_of {α : Type} {o : Option α} {φ : Sg} {K : α → Sg → Prop} {X : XC} (h : (M.of o).wp φ K X) : ∃ a, o = some a ∧ K a φ := by
  cases o with
  | none => exact h.elim
  | some a => exact ⟨a, rfl, h⟩
theorem wp_asB {x : PyData} {φ : Sg} {K : Bool → Sg → Prop} {X : XC} (h : (asB x).wp φ K X) : ∃ c, x = .bool c ∧ K c φ := by
  cases x with
  | bool c => exact ⟨c, rfl, h⟩
  | _ => exact h.elim
theorem me_2 {r : R2} {f : PyData → PyData → Option PyData} (hr : ∀ x y z, f x y = some z → ∀ K : PyData → Nat → Prop, K z 0 → RD r x y 0 K) (ha : ME c W ta a) (hb : ME c W tb b) : ME c W (tOp r ta tb) (x2 f a b) := fun τ0 φ τ δ G H σ Q w l s k => by
  refine ha τ0 φ τ δ G H σ _ w l s (M.wp_mono (fun x φ1 k1 v τ1 G1 H1 w1 g1 r1 => ?_) (fun C fs φ1 k1 => k1) _ _ ((M.wp_bind _ _).mp k))
  refine hb τ0 φ1 τ1 δ G1 H1 σ _ w1 g1.le (s.go g1) (M.wp_mono (fun y φ2 k2 v2 τ2 G2 H2 w2 g2 r2 => ?_) (fun C fs φ2 k2 => Xq.go g1 k2) _ _ ((M.wp_bind _ _).mp k1))
  obtain ⟨z, hz, k3⟩ := wp_of k2
  exact hr x y z hz (fun d _ => d = z) rfl noB G2 H2 v v2 Q (eWd w2) (Rp.mono g2.ex _ _ r1) r2 fun zv d n G3 H3 w3 g3 r3 e => by
    subst e
    exact k3 zv τ2 G3 H3 (bridge w2 w3 g3) ((g1.trans g2).trans (bridgeGo g2.le g3)) r3
theorem me_1 {r : V → Hp → VK → Prop} {f : PyData → Option PyData} (hr : ∀ x z, f x = some z → ∀ K : PyData → Nat → Prop, K z 0 → RU r x 0 K) (ha : ME c W ta a) : ME c W (tUn r ta) (x1 f a) := fun τ0 φ τ δ G H σ Q w l s k => by
  refine ha τ0 φ τ δ G H σ _ w l s (M.wp_mono (fun x φ1 k1 v τ1 G1 H1 w1 g1 r1 => ?_) (fun C fs φ1 k1 => k1) _ _ ((M.wp_bind _ _).mp k))
  obtain ⟨z, hz, k3⟩ := wp_of k1
  exact hr x z hz (fun d _ => d = z) rfl noB G1 H1 v Q (eWd w1) r1 fun zv d n G3 H3 w3 g3 r3 e => by
    subst e
    exact k3 zv τ1 G3 H3 (bridge w1 w3 g3) (g1.trans (bridgeGo g1.le g3)) r3
theorem me_if (ht : MT c W t (m)) (ha : ME c W ta a) (hb : ME c W tb b) : ME c W (tIf t ta tb) (xIf m a b) := fun τ0 φ τ δ G H σ Q w l s k => by
  refine ht τ0 φ τ δ G H σ _ w l s (M.wp_mono (fun x φ1 k1 τ1 G1 H1 w1 g1 => ?_) (fun C fs φ1 k1 => k1) _ _ ((M.wp_bind _ _).mp k))
  cases x with
  | true =>
    rw [if_pos rfl] at k1
    exact ha τ0 φ1 τ1 δ G1 H1 σ _ w1 g1.le (s.go g1) (M.wp_mono (fun y φ2 k2 v2 τ2 G2 H2 w2 g2 r2 => k2 v2 τ2 G2 H2 w2 (g1.trans g2) r2) (fun C fs φ2 k2 => Xq.go g1 k2) _ _ k1)
  | false =>
    rw [if_neg (by decide)] at k1
    exact hb τ0 φ1 τ1 δ G1 H1 σ _ w1 g1.le (s.go g1) (M.wp_mono (fun y φ2 k2 v2 τ2 G2 H2 w2 g2 r2 => k2 v2 τ2 G2 H2 w2 (g1.trans g2) r2) (fun C fs φ2 k2 => Xq.go g1 k2) _ _ k1)
theorem me_and (ha : ME c W ta a) (hb : ME c W tb b) : ME c W (tAndV ta tb) (xAnd a b) := fun τ0 φ τ δ G H σ Q w l s k => by
  refine ha τ0 φ τ δ G H σ _ w l s (M.wp_mono (fun x φ1 k1 v τ1 G1 H1 w1 g1 r1 => ?_) (fun C fs φ1 k1 => k1) _ _ ((M.wp_bind _ _).mp k))
  obtain ⟨cc, rfl, k2⟩ := wp_asB ((M.wp_bind _ _).mp k1)
  cases r1
  refine ⟨cc, rfl, ?_⟩
  cases cc with
  | true =>
    rw [if_pos rfl] at k2
    exact hb τ0 φ1 τ1 δ G1 H1 σ _ w1 g1.le (s.go g1) (M.wp_mono (fun y φ2 k2 v2 τ2 G2 H2 w2 g2 r2 => k2 v2 τ2 G2 H2 w2 (g1.trans g2) r2) (fun C fs φ2 k2 => Xq.go g1 k2) _ _ k2)
  | false => exact k2 _ τ1 G1 H1 w1 g1 (.bl false)
theorem me_or (ha : ME c W ta a) (hb : ME c W tb b) : ME c W (tOrV ta tb) (xOr a b) := fun τ0 φ τ δ G H σ Q w l s k => by
  refine ha τ0 φ τ δ G H σ _ w l s (M.wp_mono (fun x φ1 k1 v τ1 G1 H1 w1 g1 r1 => ?_) (fun C fs φ1 k1 => k1) _ _ ((M.wp_bind _ _).mp k))
  obtain ⟨cc, rfl, k2⟩ := wp_asB ((M.wp_bind _ _).mp k1)
  cases r1
  refine ⟨cc, rfl, ?_⟩
  cases cc with
  | true => exact k2 _ τ1 G1 H1 w1 g1 (.bl true)
  | false =>
    rw [if_neg (by decide)] at k2
    exact hb τ0 φ1 τ1 δ G1 H1 σ _ w1 g1.le (s.go g1) (M.wp_mono (fun y φ2 k2 v2 τ2 G2 H2 w2 g2 r2 => k2 v2 τ2 G2 H2 w2 (g1.trans g2) r2) (fun C fs φ2 k2 => Xq.go g1 k2) _ _ k2)
theorem me_not (ha : ME c W ta a) : ME c W (tNotV ta) (xNot a) := fun τ0 φ τ δ G H σ Q w l s k => by
  refine ha τ0 φ τ δ G H σ _ w l s (M.wp_mono (fun x φ1 k1 v τ1 G1 H1 w1 g1 r1 => ?_) (fun C fs φ1 k1 => k1) _ _ ((M.wp_bind _ _).mp k))
  obtain ⟨cc, rfl, k2⟩ := wp_asB ((M.wp_bind _ _).mp k1)
  cases r1
  exact ⟨cc, rfl, k2 _ τ1 G1 H1 w1 g1 (.bl _)⟩
theorem mt_B (ha : ME c W ta a) : MT c W (tB ta) (tV a) := fun τ0 φ τ δ G H σ Q w l s k => by
  refine ha τ0 φ τ δ G H σ _ w l s (M.wp_mono (fun x φ1 k1 v τ1 G1 H1 w1 g1 r1 => ?_) (fun C fs φ1 k1 => k1) _ _ ((M.wp_bind _ _).mp k))
  obtain ⟨cc, rfl, k2⟩ := wp_asB k1
  cases r1
  exact ⟨cc, rfl, k2 τ1 G1 H1 w1 g1⟩
theorem mt_test (ha : ME c W ta a) : MT c W (tTest ta) (tV a) := mt_B ha
theorem mt_and {m n : B} (ha : MT c W t m) (hb : MT c W u n) : MT c W (tAnd t u) (tAn m n) := fun τ0 φ τ δ G H σ Q w l s k => by
  refine ha τ0 φ τ δ G H σ _ w l s (M.wp_mono (fun x φ1 k1 τ1 G1 H1 w1 g1 => ?_) (fun C fs φ1 k1 => k1) _ _ ((M.wp_bind _ _).mp k))
  cases x with
  | true =>
    rw [if_pos rfl] at k1
    exact hb τ0 φ1 τ1 δ G1 H1 σ _ w1 g1.le (s.go g1) (M.wp_mono (fun y φ2 k2 τ2 G2 H2 w2 g2 => k2 τ2 G2 H2 w2 (g1.trans g2)) (fun C fs φ2 k2 => Xq.go g1 k2) _ _ k1)
  | false => exact k1 τ1 G1 H1 w1 g1
theorem mt_or {m n : B} (ha : MT c W t m) (hb : MT c W u n) : MT c W (tOr t u) (tOrr m n) := fun τ0 φ τ δ G H σ Q w l s k => by
  refine ha τ0 φ τ δ G H σ _ w l s (M.wp_mono (fun x φ1 k1 τ1 G1 H1 w1 g1 => ?_) (fun C fs φ1 k1 => k1) _ _ ((M.wp_bind _ _).mp k))
  cases x with
  | true => exact k1 τ1 G1 H1 w1 g1
  | false =>
    rw [if_neg (by decide)] at k1
    exact hb τ0 φ1 τ1 δ G1 H1 σ _ w1 g1.le (s.go g1) (M.wp_mono (fun y φ2 k2 τ2 G2 H2 w2 g2 => k2 τ2 G2 H2 w2 (g1.trans g2)) (fun C fs φ2 k2 => Xq.go g1 k2) _ _ k1)
theorem mt_not {m : B} (ha : MT c W t m) : MT c W (tNot t) (tNo m) := fun τ0 φ τ δ G H σ Q w l s k => by
  refine ha τ0 φ τ δ G H σ _ w l s (M.wp_mono (fun x φ1 k1 τ1 G1 H1 w1 g1 => k1 τ1 G1 H1 w1 g1) (fun C fs φ1 k1 => k1) _ _ ((M.wp_bind _ _).mp k))
theorem ArgR.mono {K : PySem.W.Frag} {G G' : Hp} {v : V} {a : AV} (e : Ex G G') (h : ArgR K G v a) : ArgR K G' v a := by
  cases h with
  | d r => exact .d (Rp.mono e _ _ r)
  | scr r => exact .scr (r.mono e)
theorem ArgsR.len {K : PySem.W.Frag} {G : Hp} {vs : List V} {as : List AV} (h : ArgsR K G vs as) : vs.length = as.length := by
  induction h with
  | nil => rfl
  | cons _ _ ih => rw [List.length_cons, List.length_cons, ih]
theorem ma_nil : MA c W tNil aNil := fun τ0 φ τ δ G H σ Q w l s k => k [] τ G H w (Go.refl l) .nil
theorem ma_cons {tr : TA} {r : As} (ha : ME c W ta a) (hr : MA c W tr r) : MA c W (tCons ta tr) (aC a r) := fun τ0 φ τ δ G H σ Q w l s k => by
  refine ha τ0 φ τ δ G H σ _ w l s (M.wp_mono (fun x φ1 k1 v τ1 G1 H1 w1 g1 r1 => ?_) (fun C fs φ1 k1 => k1) _ _ ((M.wp_bind _ _).mp k))
  exact hr τ0 φ1 τ1 δ G1 H1 σ _ w1 g1.le (s.go g1) (M.wp_mono (fun as φ2 k2 vs τ2 G2 H2 w2 g2 r2 => k2 (v :: vs) τ2 G2 H2 w2 (g1.trans g2) (.cons (.d (Rp.mono g2.ex _ _ r1)) r2)) (fun C fs φ2 k2 => Xq.go g1 k2) _ _ ((M.wp_bind _ _).mp k1))
theorem ma_scr {tr : TA} {r : As} {i : Nat} (hr : MA c W tr r) : MA c W (tCons (tVar i) tr) (aScr i r) := fun τ0 φ τ δ G H σ Q w l s k => by
  unfold aScr at k
  cases e : δ[i]? with
  | none => rw [e] at k; exact k.elim
  | some sd =>
    rw [e] at k
    cases sd with
    | scr ns =>
      obtain ⟨o, e1, rr⟩ := s.get e
      cases rr with
      | scr rr =>
        refine ⟨_, e1, hr τ0 φ τ δ G H σ _ w l s (M.wp_mono (fun as φ2 k2 => ?_) (fun C fs φ2 k2 => k2) _ _ ((M.wp_bind _ _).mp k))⟩
        intro vs τ2 G2 H2 w2 g2 r2
        exact k2 (_ :: vs) τ2 G2 H2 w2 g2 (.cons (.scr (rr.mono g2.ex)) r2)
    | _ => exact k.elim
theorem ArgsR.data {K : PySem.W.Frag} {G : Hp} : ∀ {vs : List V} {as : List AV} {xs : List PyData}, ArgsR K G vs as → dat as = some xs → RpL G vs xs
  | _, _, _, .nil, e => by cases (show some [] = some _ from e); exact .nil
  | _ :: _, .d x :: as, xs, .cons (.d r) h, e => by
    have e' : (dat as).map (x :: ·) = some xs := e
    cases z : dat as with
    | none => rw [z] at e'; cases e'
    | some ys => rw [z] at e'; cases e'; exact .cons r (h.data z)
  | _, _, _, .cons (.scr _) h, e => nomatch e
theorem short_some {as : List AV} {xs : List PyData} (h : short as = some xs) : dat as = some xs ∧ xs.length ≤ 10000000 := by
  unfold short at h
  cases e : dat as with
  | none => rw [e] at h; cases h
  | some ys =>
    rw [e] at h
    dsimp only at h
    by_cases hl : ys.length ≤ 10000000
    · rw [if_pos hl] at h; cases h; exact ⟨rfl, hl⟩
    · rw [if_neg hl] at h; cases h
theorem me_tup {ta : TA} {r : As} (ha : MA c W ta r) : ME c W (tTup ta) (xTup r) := fun τ0 φ τ δ G H σ Q w l s k => by
  refine ha τ0 φ τ δ G H σ _ w l s (M.wp_mono (fun as φ1 k1 vs τ1 G1 H1 w1 g1 r1 => ?_) (fun C fs φ1 k1 => k1) _ _ ((M.wp_bind _ _).mp k))
  obtain ⟨xs, hx, k2⟩ := wp_of ((M.wp_bind _ _).mp k1)
  obtain ⟨hd, hl⟩ := short_some hx
  have rl := r1.data hd
  refine ⟨by rw [rl.len]; exact Nat.le_trans hl (by decide), fun p hp => ?_⟩
  exact k2 _ τ1 _ _ (w1.laid hp) (g1.trans (Go.laid w1 g1.le hp)) (.tup upd_same (RpL.mono (Ex.new (w1.gn hp)) _ _ rl))
/-- what is new behind g was new ahead of it -/
theorem Go.tn {φ τ φ1 τ1 : Sg} {G G1 H1 : Hp} {p : Addr} (w : Wd τ1 G1 H1) (g : Go φ τ G φ1 τ1 G1) (hp : H1 p = none) : τ p = none := by
  cases e : τ p with
  | none => rfl
  | some cc =>
    rcases g.stay p (by rw [e]; exact fun z => nomatch z) with h | h
    · exact absurd (w.tn hp) h
    · exact absurd (w.gn hp) h
/-- a list that changed is known from now on -/
theorem Go.know {φ τ φ1 τ1 : Sg} {G G1 H1 : Hp} {p : Addr} {o : HO} (w : Wd τ1 G1 H1) (g : Go φ τ G φ1 τ1 G1) (hp : τ p = none) (hf : φ1 p = none) (hg : G1 p = none) : Go φ τ G φ1 (rid τ1 p) (upd G1 p o) :=
  ⟨g.ex.trans (Ex.new hg), fun q d e => by
    unfold rid
    rw [if_neg (fun z => by rw [z, hf] at e; cases e)]
    exact g.le q d e, fun q d a b => by
    unfold rid
    rw [if_neg (fun z => by rw [z, hp] at a; cases a)]
    exact g.kept q d a b, fun q h => by
    by_cases hq : q = p
    · rw [hq]; exact .inr (by rw [upd_same]; exact fun z => nomatch z)
    · unfold rid
      rw [if_neg hq, upd_ne hq]
      exact g.stay q h⟩
theorem me_of_mf {m : List SD → M (List PyData)} (h : MF c W te m) : ME c W te (ofF m) := fun τ0 φ τ δ G H σ Q w l s k => by
  refine h τ0 φ τ δ G H σ _ w l s (M.wp_mono (fun xs φ1 k1 p τ1 G1 H1 w1 g1 h1 h2 h3 => ?_) (fun C fs φ1 k1 => k1) _ _ ((M.wp_bind _ _).mp k))
  obtain ⟨g0, vs, hh, rl⟩ := w1.cell p _ h2
  exact k1 _ _ _ _ (w1.know h2 hh) (g1.know w1 h1 h3 g0) (.lst upd_same (RpL.mono (Ex.new g0) _ _ rl))
theorem mf_lst {ta : TA} {r : As} (ha : MA c W ta r) : MF c W (tLst ta) (fLst r) := fun τ0 φ τ δ G H σ Q w l s k => by
  refine ha τ0 φ τ δ G H σ _ w l s (M.wp_mono (fun as φ1 k1 vs τ1 G1 H1 w1 g1 r1 => ?_) (fun C fs φ1 k1 => k1) _ _ ((M.wp_bind _ _).mp k))
  obtain ⟨xs, hx, k2⟩ := wp_of k1
  obtain ⟨hd, hl⟩ := short_some hx
  have rl := r1.data hd
  refine ⟨by rw [rl.len]; exact Nat.le_trans hl (by decide), fun p hp => ?_⟩
  exact k2 p _ _ _ (w1.fresh hp rl) (g1.trans (Go.fresh w1 g1.le hp)) (Go.tn w1 g1 hp) put_same (g1.le.none (w1.tn hp))
end
end Mi

/-! MiLoop -/
set_option Elab.async false
set_option linter.all false
set_option maxRecDepth 100000
set_option maxHeartbeats 2000000
namespace Mi
open PySem L2 Eg
/-! ### targets -/
inductive Tg where
  | n (i : Nat) | t (is : List Nat) | l (is : List Nat)
def setAll : List Nat → List PyData → List SD → Option (List SD)
  | [], [], δ => some δ
  | i :: is, x :: xs, δ => setAll is xs (δ.set i (.d x))
  | _, _, _ => none
def setT : Tg → PyData → List SD → Option (List SD)
  | .n i, x, δ => some (δ.set i (.d x))
  | .t is, .tuple xs, δ => setAll is xs δ
  | .l is, .list xs, δ => setAll is xs δ
  | _, _, _ => none
def gNames : List Nat → TGs
  | [] => gNil
  | i :: is => gCons (gName i) (gNames is)
def gOf (K : PySem.W.Frag) : Tg → TG
  | .n i => gName i
  | .t is => gTup K is.length (gNames is)
  | .l is => gLst K is.length (gNames is)
theorem setAll_len : ∀ {is : List Nat} {xs : List PyData} {δ δ2 : List SD}, setAll is xs δ = some δ2 → xs.length = is.length
  | [], [], _, _, _ => rfl
  | _ :: is, _ :: xs, _, _, h => by rw [List.length_cons, List.length_cons, setAll_len (is := is) h]
  | [], _ :: _, _, _, h => nomatch h
  | _ :: _, [], _, _, h => nomatch h
section
variable {c : Cn} {τ0 φ τ : Sg} {G H : Hp}
/-- what a target leaves: only the slots named in it change -/
def Only (σ σ2 : L2.St) (is : List Nat) : Prop := σ2.length = σ.length ∧ ∀ j, j ∉ is → σ2[j]? = σ[j]?
theorem gNames_ok : ∀ {is : List Nat} {xs : List PyData} {vs : List V} {σ : L2.St} {δ δ2 : List SD} {Q : L2.St → Hp → Prop}, Sl c τ0 φ τ G σ δ → RpL G vs xs → setAll is xs δ = some δ2 → (∀ σ2, Only σ σ2 is → Sl c τ0 φ τ G σ2 δ2 → Q σ2 H) → gNames is vs σ H Q
  | [], [], _, σ, δ, _, Q, s, .nil, h, k => ⟨rfl, by cases (show some δ = some _ from h); exact k σ ⟨rfl, fun _ _ => rfl⟩ s⟩
  | i :: is, x :: xs, _, σ, δ, _, Q, s, .cons r rs, h, k => ⟨_, _, rfl, gNames_ok (s.setD r) rs h fun σ2 ho s2 => k σ2 ⟨by rw [ho.1, List.length_set], fun j hj => by
      rw [ho.2 j (fun z => hj (List.mem_cons_of_mem _ z)), List.getElem?_set_ne (fun z => hj (by rw [z]; exact List.mem_cons_self))]⟩ s2⟩
  | [], _ :: _, _, _, _, _, _, _, _, h, _ => nomatch h
  | _ :: _, [], _, _, _, _, _, _, _, h, _ => nomatch h
def Tg.ix : Tg → List Nat
  | .n i => [i]
  | .t is => is
  | .l is => is
theorem gOf_ok {KF : PySem.W.Frag} {tg : Tg} {x : PyData} {v : V} {σ : L2.St} {δ δ2 : List SD} {Q : L2.St → Hp → Prop} (w : Wd τ G H) (s : Sl c τ0 φ τ G σ δ) (r : Rp G v x) (h : setT tg x δ = some δ2) (k : ∀ σ2, Only σ σ2 tg.ix → Sl c τ0 φ τ G σ2 δ2 → Q σ2 H) : gOf KF tg v σ H Q := by
  cases tg with
  | n i =>
    cases (show some _ = some _ from h)
    exact k _ ⟨by rw [List.length_set], fun j hj => List.getElem?_set_ne (fun z => hj (by rw [z]; exact List.mem_cons_self))⟩ (s.setD r)
  | t is =>
    cases r with
    | tup h1 h2 => exact ⟨_, _, rfl, SqT.of (w.ex _ _ h1), by rw [h2.len]; exact setAll_len h, gNames_ok s h2 h k⟩
    | _ => exact nomatch h
  | l is =>
    cases r with
    | lst h1 h2 => exact ⟨_, _, rfl, SqL.of (w.ex _ _ h1), by rw [h2.len]; exact setAll_len h, gNames_ok s h2 h k⟩
    | _ => exact nomatch h
theorem wipe_at (σ : L2.St) : ∀ (vs : List Nat) (j : Nat), (L2.wipe σ vs)[j]? = if j ∈ vs then (σ[j]?).map (fun _ => none) else σ[j]?
  | [], j => by rw [if_neg (List.not_mem_nil)]; rfl
  | v :: vs, j => by
    show ((L2.wipe σ vs).set v none)[j]? = _
    by_cases hj : v = j
    · subst hj
      rw [if_pos List.mem_cons_self]
      cases e : σ[v]? with
      | none =>
        have : σ.length ≤ v := List.getElem?_eq_none_iff.mp e
        rw [List.getElem?_eq_none_iff.mpr (by rw [List.length_set, L2.wipe_length]; exact this)]
        rfl
      | some o =>
        have : v < σ.length := (List.getElem?_eq_some_iff.mp e).1
        rw [List.getElem?_set_self (by rw [L2.wipe_length]; exact this)]
        rfl
    · rw [List.getElem?_set_ne hj, wipe_at σ vs j]
      by_cases hm : j ∈ vs
      · rw [if_pos hm, if_pos (List.mem_cons_of_mem _ hm)]
      · rw [if_neg hm, if_neg (fun z => by cases z with | head => exact hj rfl | tail _ z => exact hm z)]
theorem wipe_only {σ σ2 : L2.St} {is vs : List Nat} (h : Only (L2.wipe σ vs) σ2 is) (hs : ∀ j, j ∈ is → j ∈ vs) : L2.wipe σ2 vs = L2.wipe σ vs := by
  apply List.ext_getElem?
  intro j
  rw [wipe_at, wipe_at]
  by_cases hm : j ∈ vs
  · rw [if_pos hm, if_pos hm]
    have hl : σ2.length = σ.length := by rw [h.1, L2.wipe_length]
    by_cases hj : j < σ.length
    · rw [List.getElem?_eq_getElem hj, List.getElem?_eq_getElem (by omega : j < σ2.length)]; rfl
    · rw [show σ2[j]? = none from List.getElem?_eq_none_iff.mpr (by omega), show σ[j]? = none from List.getElem?_eq_none_iff.mpr (by omega)]
  · rw [if_neg hm, if_neg hm, h.2 j (fun z => hm (hs j z)), wipe_at, if_neg hm]
def wipeD (δ : List SD) : List Nat → List SD
  | [] => δ
  | v :: vs => (wipeD δ vs).set v .u
theorem Sl.wipe {σ : L2.St} {δ : List SD} (s : Sl c τ0 φ τ G σ δ) : ∀ vs : List Nat, Sl c τ0 φ τ G (L2.wipe σ vs) (wipeD δ vs)
  | [] => s
  | v :: vs => (Sl.wipe s vs).setU
end
/-! ### what is walked over -/
/-- J yields ds, whatever else happens -/
def ItR (G : Hp) (J : It) (ds : List PyData) : Prop := ∀ (τ : Sg) (G' H' : Hp), Wd τ G' H' → Ex G G' → J.stop ds.length H' ∧ ∀ (i : Nat) (x : PyData), ds[i]? = some x → J.go i H' ∧ ∀ v H2, J.yld i H' v H2 → ∃ G2, Wd τ G2 H2 ∧ Ex G' G2 ∧ Rp G2 v x
def MI (c : Cn) (W : WX) (wi : TI) (m : List SD → M (List PyData)) : Prop := ∀ (τ0 φ τ : Sg) (δ : List SD) (G H : Hp) (σ : L2.St) (R : It → Hp → Prop), Wd τ G H → Le φ τ → Sl c τ0 φ τ G σ δ →
  (m δ).wp φ (fun ds φ' => ∀ J τ' G' H', Wd τ' G' H' → Go φ τ G φ' τ' G' → ItR G' J ds → R J H') (Xq c W φ τ G σ) → wi σ H R
def iSeqM (a : E) : List SD → M (List PyData) := fun δ => (a δ).bind fun x => M.of (itemsOf x)
def iRng1M (a : As) : List SD → M (List PyData) := fun δ => (a δ).bind fun as => M.of (match as with
  | [.d (.int n)] => if -(2 ^ 62) ≤ n ∧ n < 2 ^ 62 then some (upto n.toNat) else none
  | _ => none)
def span (i j : Int) : List PyData := (List.range (j - i).toNat).map fun k : Nat => PyData.int (i + k)
def iRng2M (a : As) : List SD → M (List PyData) := fun δ => (a δ).bind fun as => M.of (match as with
  | [.d (.int i), .d (.int j)] => if -(2 ^ 62) ≤ i ∧ i < 2 ^ 62 ∧ -(2 ^ 62) ≤ j ∧ j < 2 ^ 62 then some (span i j) else none
  | _ => none)
def iZipM (a : As) : List SD → M (List PyData) := fun δ => (a δ).bind fun as => M.of (match as with
  | [.d (.list xs), .d (.list ys)] => some (zipD xs ys)
  | [.d (.tuple xs), .d (.tuple ys)] => some (zipD xs ys)
  | _ => none)
section
variable {c : Cn} {W : WX} {te ta tb tc : TE} {t u : TT} {a b e : E} {KF : PySem.W.Frag}
theorem itr_lst {G : Hp} {a : Addr} {vs : List V} {ds : List PyData} (h : G a = some (.lst vs)) (r : RpL G vs ds) : ItR G (Itl KF a) ds := fun τ G' H' w ex => by
  have q : SqL KF H' a vs := SqL.of (w.ex _ _ (ex _ _ h))
  refine ⟨⟨vs, q, by rw [r.len]; exact Nat.le_refl _⟩, fun i x hx => ?_⟩
  obtain ⟨v, e, rv⟩ := r.get hx
  refine ⟨⟨vs, v, q, e⟩, fun v2 H2 ⟨e1, e2⟩ => ?_⟩
  subst e1
  have e3 := e2 vs q
  rw [e] at e3
  cases e3
  exact ⟨G', w, Ex.refl _, Rp.mono ex _ _ rv⟩
theorem itr_tup {G : Hp} {a : Addr} {vs : List V} {ds : List PyData} (h : G a = some (.tup vs)) (r : RpL G vs ds) : ItR G (Itt KF a) ds := fun τ G' H' w ex => by
  have q : SqT KF H' a vs := SqT.of (w.ex _ _ (ex _ _ h))
  refine ⟨⟨vs, q, by rw [r.len]; exact Nat.le_refl _⟩, fun i x hx => ?_⟩
  obtain ⟨v, e, rv⟩ := r.get hx
  refine ⟨⟨vs, v, q, e⟩, fun v2 H2 ⟨e1, e2⟩ => ?_⟩
  subst e1
  have e3 := e2 vs q
  rw [e] at e3
  cases e3
  exact ⟨G', w, Ex.refl _, Rp.mono ex _ _ rv⟩
theorem mi_seq (ha : ME c W ta a) : MI c W (iSeq KF ta) (iSeqM a) := fun τ0 φ τ δ G H σ R w l s k => by
  refine ha τ0 φ τ δ G H σ _ w l s (M.wp_mono (fun x φ1 k1 v τ1 G1 H1 w1 g1 r1 => ?_) (fun C fs φ1 k1 => k1) _ _ ((M.wp_bind _ _).mp k))
  obtain ⟨ds, hd, k2⟩ := wp_of k1
  cases r1 with
  | @lst a xs ds' h1 h2 =>
    cases (show some ds' = some ds from hd)
    exact ⟨a, rfl, .inl ⟨⟨xs, SqL.of (w1.ex _ _ h1)⟩, k2 _ τ1 G1 H1 w1 g1 (itr_lst h1 h2)⟩⟩
  | @tup a xs ds' h1 h2 =>
    cases (show some ds' = some ds from hd)
    exact ⟨a, rfl, .inr ⟨⟨xs, SqT.of (w1.ex _ _ h1)⟩, k2 _ τ1 G1 H1 w1 g1 (itr_tup h1 h2)⟩⟩
  | _ => exact nomatch hd
theorem mi_rng1 {ta : TA} {r : As} (ha : MA c W ta r) : MI c W (iRng1 ta) (iRng1M r) := fun τ0 φ τ δ G H σ R w l s k => by
  refine ha τ0 φ τ δ G H σ _ w l s (M.wp_mono (fun as φ1 k1 vs τ1 G1 H1 w1 g1 r1 => ?_) (fun C fs φ1 k1 => k1) _ _ ((M.wp_bind _ _).mp k))
  obtain ⟨ds, hd, k2⟩ := wp_of k1
  match as, r1, hd with
  | [.d (.int n)], .cons (.d (.int _)) .nil, hd =>
    dsimp only at hd
    by_cases hn : -(2 ^ 62) ≤ n ∧ n < 2 ^ 62
    · rw [if_pos hn] at hd
      cases hd
      refine ⟨n, rfl, hn.1, hn.2, k2 _ τ1 G1 H1 w1 g1 fun τ G' H' w ex => ⟨by rw [upto_len]; exact Nat.le_refl _, fun i x hx => ?_⟩⟩
      have hi : i < n.toNat := by rw [← upto_len n.toNat]; exact (List.getElem?_eq_some_iff.mp hx).1
      rw [upto_get hi] at hx
      cases hx
      refine ⟨hi, fun v H2 ⟨e1, e2⟩ => ?_⟩
      subst e1; subst e2
      exact ⟨G', w, Ex.refl _, by rw [Int.zero_add]; exact .int _⟩
    · rw [if_neg hn] at hd; cases hd
theorem mi_rng2 {ta : TA} {r : As} (ha : MA c W ta r) : MI c W (iRng2 ta) (iRng2M r) := fun τ0 φ τ δ G H σ R w l s k => by
  refine ha τ0 φ τ δ G H σ _ w l s (M.wp_mono (fun as φ1 k1 vs τ1 G1 H1 w1 g1 r1 => ?_) (fun C fs φ1 k1 => k1) _ _ ((M.wp_bind _ _).mp k))
  obtain ⟨ds, hd, k2⟩ := wp_of k1
  match as, r1, hd with
  | [.d (.int n), .d (.int m)], .cons (.d (.int _)) (.cons (.d (.int _)) .nil), hd =>
    dsimp only at hd
    by_cases hn : -(2 ^ 62) ≤ n ∧ n < 2 ^ 62 ∧ -(2 ^ 62) ≤ m ∧ m < 2 ^ 62
    · rw [if_pos hn] at hd
      cases hd
      refine ⟨n, m, rfl, hn, k2 _ τ1 G1 H1 w1 g1 fun τ G' H' w ex => ⟨by unfold span; rw [List.length_map, List.length_range]; exact Nat.le_refl _, fun i x hx => ?_⟩⟩
      have hi : i < (m - n).toNat := by
        have := (List.getElem?_eq_some_iff.mp hx).1
        unfold span at this
        rwa [List.length_map, List.length_range] at this
      unfold span at hx
      rw [List.getElem?_map, List.getElem?_range hi] at hx
      cases hx
      refine ⟨hi, fun v H2 ⟨e1, e2⟩ => ?_⟩
      subst e1; subst e2
      exact ⟨G', w, Ex.refl _, .int _⟩
    · rw [if_neg hn] at hd; cases hd
end
/-! ### for -/
abbrev S := List SD → M Fl
def forGo (tg : Tg) (b : S) : List PyData → List SD → M Fl
  | [], δ => .ret (.nx δ)
  | x :: xs, δ => (M.of (setT tg x δ)).bind fun δ2 => (b δ2).bind fun fl => match fl with
    | .nx δ3 => forGo tg b xs δ3
    | .ct δ3 => forGo tg b xs δ3
    | .bk δ3 => .ret (.nx δ3)
    | .rt x => .ret (.rt x)
    | .rf x => .ret (.rf x)
    | .xx C fs δ3 => .ret (.xx C fs δ3)
def sFor (it : List SD → M (List PyData)) (tg : Tg) (b : S) : S := fun δ => catch_ (it δ) δ fun ds => forGo tg b ds δ
/-- a statement's ways out, from what is known at the entry -/
theorem FlR.xq {c : Cn} {W : WX} {D : Ends} {φ0 τ0 : Sg} {G0 : Hp} {φ τ : Sg} {G : Hp} {δ : List SD} {σ : L2.St} {C : String} {fs : List (Str × PyData)} {φ' : Sg} (g : Go φ0 τ0 G0 φ τ G) (s : Sl c τ0 φ τ G σ δ) (h : FlR c W D φ0 τ0 G0 (.xx C fs δ) φ') : Xq c W φ τ G σ C fs φ' :=
  fun d τ' G' H' w' g' r => h σ d τ' G' H' w' (g.trans g') (s.go g') r
theorem Go.rebase {φ0 τ0 φ τ : Sg} {G0 G1 G : Hp} (e : Ex G0 G1) (g : Go φ0 τ0 G1 φ τ G) : Go φ0 τ0 G0 φ τ G := ⟨e.trans g.ex, g.le, g.kept, g.stay⟩
theorem Go.at {φ0 τ0 φ τ : Sg} {G0 G1 G : Hp} (e : Ex G1 G) (g : Go φ0 τ0 G0 φ τ G) : Go φ0 τ0 G1 φ τ G := ⟨e, g.le, g.kept, g.stay⟩
theorem FlR.rebase {c : Cn} {W : WX} {D : Ends} {φ0 τ0 : Sg} {G0 G1 : Hp} (e : Ex G0 G1) {fl : Fl} {φ' : Sg} (h : FlR c W D φ0 τ0 G0 fl φ') : FlR c W D φ0 τ0 G1 fl φ' := by
  cases fl with
  | nx δ => exact fun σ τ G H w g s => h σ τ G H w (g.rebase e) s
  | bk δ => exact fun σ τ G H w g s => h σ τ G H w (g.rebase e) s
  | ct δ => exact fun σ τ G H w g s => h σ τ G H w (g.rebase e) s
  | rt x => exact fun v τ G H w g r => h v τ G H w (g.rebase e) r
  | rf x => exact fun p τ G H w g a b d => h p τ G H w (g.rebase e) a b d
  | xx C fs δ => exact fun σ d τ G H w g s a => h σ d τ G H w (g.rebase e) s a
theorem ms_for {c : Cn} {W : WX} {KF : PySem.W.Frag} {wi : TI} {it : List SD → M (List PyData)} {tg : Tg} {tb : TS} {b : S} (hi : MI c W wi it) (hb : MS c W tb b) : MS c W (tFor wi (gOf KF tg) tb) (sFor it tg b) := fun φ0 τ0 G0 φ τ δ G H σ D w g s k => by
  refine hi τ0 φ τ δ G H σ _ w g.le s (M.wp_mono (fun ds φ1 k1 J τ1 G1 H1 w1 g1 hJ => ?_) (fun C fs φ1 k1 => FlR.xq g s k1) _ _ (wp_catch _ _ k))
  have e01 : Ex G0 G1 := (g.trans g1).ex
  let P : Nat → L2.St → Hp → Prop := fun i σ' H' => ∃ φ' τ' δ' G', i ≤ ds.length ∧ Wd τ' G' H' ∧ Go φ0 τ0 G1 φ' τ' G' ∧ Sl c τ0 φ' τ' G' σ' δ' ∧ (forGo tg b (ds.drop i) δ').wp φ' (FlR c W D φ0 τ0 G1) (fun _ _ _ => False)
  refine ⟨fun i m σ' H' => m = ds.length - i ∧ P i σ' H', ⟨_, rfl, φ1, τ1, δ, G1, Nat.zero_le _, w1, (g.trans g1).at (Ex.refl _), s.go g1, M.wp_mono (fun fl φ h => h.rebase e01) (fun _ _ _ h => h) _ _ k1⟩, ?_⟩
  rintro i m σ' H' ⟨rfl, φ', τ', δ', G', hl, w', g', s', k'⟩
  obtain ⟨hst, hgo⟩ := hJ τ' G' H' w' g'.ex
  cases hx : ds[i]? with
  | none =>
    have e : i = ds.length := Nat.le_antisymm hl (List.getElem?_eq_none_iff.mp hx)
    subst e
    rw [List.drop_length] at k'
    exact .inl ⟨hst, k' σ' τ' G' H' w' g' s'⟩
  | some x =>
    obtain ⟨h1, h2⟩ := hgo i x hx
    have hil : i < ds.length := (List.getElem?_eq_some_iff.mp hx).1
    have hd : ds.drop i = x :: ds.drop (i + 1) := (List.drop_eq_getElem?_toList_append (l := ds) (i := i)).trans (by rw [hx]; rfl)
    refine .inr ⟨h1, P (i + 1), fun σ2 H2 p => ⟨ds.length - (i + 1), by omega, rfl, p⟩, fun v H2 y => ?_⟩
    obtain ⟨G2, w2, ex2, r2⟩ := h2 v H2 y
    rw [hd] at k'
    obtain ⟨δ2, hs, k2⟩ := wp_of ((M.wp_bind _ _).mp k')
    have g2 : Go φ' τ' G' φ' τ' G2 := ⟨ex2, g'.le, fun _ _ a b => ⟨a, b⟩, fun _ h => .inl h⟩
    refine gOf_ok (KF := KF) w2 (s'.go g2) r2 hs fun σ2 _ s2 => ?_
    refine hb φ0 τ0 G1 φ' τ' δ2 G2 H2 σ2 _ w2 (g'.trans g2) s2 (M.wp_mono (fun fl φ3 k3 => ?_) (fun _ _ _ h => h) _ _ ((M.wp_bind _ _).mp k2))
    cases fl with
    | nx δ3 => exact fun σ3 τ3 G3 H3 w3 g3 s3 => ⟨φ3, τ3, δ3, G3, hil, w3, g3, s3, k3⟩
    | ct δ3 => exact fun σ3 τ3 G3 H3 w3 g3 s3 => ⟨φ3, τ3, δ3, G3, hil, w3, g3, s3, k3⟩
    | bk δ3 => exact k3
    | rt x => exact k3
    | rf x => exact k3
    | xx C fs δ3 => exact k3
/-! ### comprehensions -/
namespace M
/-- nothing may be raised -/
def nox {α : Type} : M α → M α
  | ret a => ret a
  | exc _ _ => bad
  | bad => bad
  | new c k => new c fun p => nox (k p)
  | get p k => get p fun c => nox (k c)
  | put p c k => put p c (nox k)
  | any k => any fun o vs => nox (k o vs)
theorem wp_nox {α : Type} {K : α → Sg → Prop} {X X' : XC} : ∀ (m : M α) (φ : Sg), (nox m).wp φ K X → m.wp φ K X'
  | ret a, φ, h => h
  | exc C fs, φ, h => h.elim
  | bad, φ, h => h
  | new c k, φ, h => fun p hp => wp_nox (k p) _ (h p hp)
  | get p k, φ, ⟨c, e, h⟩ => ⟨c, e, wp_nox (k c) _ h⟩
  | put p c k, φ, ⟨e, h⟩ => ⟨e, wp_nox k _ h⟩
  | any k, φ, h => fun o vs => wp_nox (k o vs) _ (h o vs)
end M
def lcGo (tg : Tg) (t : B) (e : E) (δ : List SD) : List PyData → M (List PyData)
  | [] => .ret []
  | x :: xs => (M.of (setT tg x δ)).bind fun δ2 => (t δ2).nox.bind fun b => if b = true then (e δ2).nox.bind fun y => (lcGo tg t e δ xs).bind fun ys => .ret (y :: ys) else lcGo tg t e δ xs
def fLc (it : List SD → M (List PyData)) (tg : Tg) (t : B) (e : E) (vs : List Nat) : List SD → M (List PyData) := fun δ => (it δ).bind fun ds => if ds.length ≤ 1000000 then lcGo tg t e (wipeD δ vs) ds else .bad
def tTrue : B := fun _ => .ret true
theorem mt_yes {c : Cn} {W : WX} : MT c W tYes tTrue := fun τ0 φ τ δ G H σ Q w l s k => k τ G H w (Go.refl l)
theorem Go.poke {φ τ φ1 τ1 : Sg} {G G1 : Hp} {p : Addr} {c : Cell} (g : Go φ τ G φ1 τ1 G1) (hp : τ p = none) (hf : φ1 p = none) : Go φ τ G φ1 (put τ1 p c) G1 :=
  ⟨g.ex, fun q d e => by
    have h : q ≠ p := fun z => by rw [z, hf] at e; cases e
    rw [put_ne h]; exact g.le q d e, fun q d a b => by
    have h : q ≠ p := fun z => by rw [z, hp] at a; cases a
    rw [put_ne h]; exact g.kept q d a b, fun q h => by
    by_cases hq : q = p
    · rw [hq, put_same]; exact .inl fun z => nomatch z
    · rw [put_ne hq]; exact g.stay q h⟩
theorem mf_lc {c : Cn} {W : WX} {KF : PySem.W.Frag} {wi : TI} {it : List SD → M (List PyData)} {tg : Tg} {tt : TT} {te : TE} {t : B} {e : E} {vs : List Nat} (hv : tg.ix = vs) (hi : MI c W wi it) (ht : MT c W tt t) (he : ME c W te e) : MF c W (tLc wi (gOf KF tg) tt te vs) (fLc it tg t e vs) := fun τ0 φ τ δ G H σ Q w l s k => by
  refine hi τ0 φ τ δ G H σ _ w l s (M.wp_mono (fun ds φ1 k1 J τ1 G1 H1 w1 g1 hJ => ?_) (fun C fs φ1 k1 => k1) _ _ ((M.wp_bind _ _).mp k))
  by_cases hn : ¬ ds.length ≤ 1000000
  · rw [if_neg hn] at k1; exact k1.elim
  have hn := Decidable.of_not_not hn
  rw [if_pos hn] at k1
  intro D hD
  have tD : τ D = none := Go.tn w1 g1 hD
  have fD : φ1 D = none := g1.le.none (w1.tn hD)
  let P : Nat → Hp → Prop := fun i H' => ∃ φ' τ' G' acc, i ≤ ds.length ∧ acc.length ≤ i ∧ Wd τ' G' H' ∧ Go φ τ G φ' τ' G' ∧ Ex G1 G' ∧ τ' D = some (.lst acc) ∧ φ' D = none ∧
    (lcGo tg t e (wipeD δ vs) (ds.drop i)).wp φ' (fun ys φ2 => ∀ p τ' G' H', Wd τ' G' H' → Go φ τ G φ2 τ' G' → τ p = none → τ' p = some (.lst (acc ++ ys)) → φ2 p = none → Q (.ref p) H') (Xq c W φ τ G σ)
  refine ⟨fun i m H' => m = ds.length - i ∧ P i H', ⟨_, rfl, φ1, put τ1 D (.lst []), G1, [], Nat.zero_le _, Nat.le_refl _, w1.fresh hD .nil, g1.trans (Go.fresh w1 g1.le hD), Ex.refl _, put_same, fD, k1⟩, ?_⟩
  rintro i m H' ⟨rfl, φ', τ', G', acc, hl, ha, w', g', ex', hT, hF, k'⟩
  obtain ⟨hst, hgo⟩ := hJ τ' G' H' w' ex'
  cases hx : ds[i]? with
  | none =>
    have ei : i = ds.length := Nat.le_antisymm hl (List.getElem?_eq_none_iff.mp hx)
    subst ei
    rw [List.drop_length] at k'
    exact .inl ⟨hst, k' D τ' G' H' w' g' tD (by rw [List.append_nil]; exact hT) hF⟩
  | some x =>
    obtain ⟨h1, h2⟩ := hgo i x hx
    have hil : i < ds.length := (List.getElem?_eq_some_iff.mp hx).1
    have hd : ds.drop i = x :: ds.drop (i + 1) := (List.drop_eq_getElem?_toList_append (l := ds) (i := i)).trans (by rw [hx]; rfl)
    refine .inr ⟨h1, P (i + 1), fun H2 p => ⟨ds.length - (i + 1), by omega, rfl, p⟩, fun v H2 y => ?_⟩
    obtain ⟨G2, w2, ex2, r2⟩ := h2 v H2 y
    rw [hd] at k'
    obtain ⟨δ2, hs, k2⟩ := wp_of ((M.wp_bind _ _).mp k')
    have g2 : Go φ' τ' G' φ' τ' G2 := ⟨ex2, g'.le, fun _ _ a b => ⟨a, b⟩, fun _ h => .inl h⟩
    have s2 := ((s.go g').go g2).wipe vs
    refine gOf_ok (KF := KF) w2 s2 r2 hs fun σ2 ho s3 => ?_
    refine ⟨wipe_only ho (fun j hj => by rw [hv] at hj; exact hj), ?_⟩
    refine ht τ0 φ' τ' δ2 G2 H2 σ2 _ w2 g'.le s3 (M.wp_mono (fun b φ3 k3 τ3 G3 H3 w3 g3 => ?_) (fun _ _ _ h => h.elim) _ _ (M.wp_nox (X' := fun _ _ _ => False) _ _ ((M.wp_bind _ _).mp k2)))
    have hT3 := g3.kept D _ hT hF
    have gg3 := (g'.trans g2).trans g3
    have ex3 : Ex G1 G3 := (ex'.trans ex2).trans g3.ex
    cases b with
    | false =>
      rw [if_neg (by decide)] at k3
      exact ⟨φ3, τ3, G3, acc, hil, Nat.le_succ_of_le ha, w3, gg3, ex3, hT3.1, hT3.2, k3⟩
    | true =>
      rw [if_pos rfl] at k3
      refine he τ0 φ3 τ3 δ2 G3 H3 σ2 _ w3 g3.le (s3.go g3) (M.wp_mono (fun z φ4 k4 u τ4 G4 H4 w4 g4 r4 => ?_) (fun _ _ _ h => h.elim) _ _ (M.wp_nox (X' := fun _ _ _ => False) _ _ ((M.wp_bind _ _).mp k3)))
      have hT4 := g4.kept D _ hT3.1 hT3.2
      obtain ⟨g0, vs4, hh, rl⟩ := w4.cell D _ hT4.1
      refine ⟨vs4, hh, by rw [rl.len]; exact Nat.lt_of_le_of_lt ha (Nat.lt_of_lt_of_le hil (Nat.le_trans hn (by decide))), φ4, put τ4 D (.lst (acc ++ [z])), G4, acc ++ [z], hil, by rw [List.length_append]; exact Nat.add_le_add_right ha 1, w4.poke hT4.1 (RpL.app rl (.cons r4 .nil)), (gg3.trans g4).poke tD hT4.2, ex3.trans g4.ex, put_same, hT4.2, ?_⟩
      refine M.wp_mono (fun ys φ5 k5 => ?_) (fun _ _ _ h => h) _ _ ((M.wp_bind _ _).mp k4)
      intro p τ5 G5 H5 w5 g5 h5 h6 h7
      exact k5 p τ5 G5 H5 w5 g5 h5 (by rw [h6, List.append_assoc]; rfl) h7
end Mi

/-! MiSt -/
set_option Elab.async false
set_option linter.all false
set_option maxRecDepth 100000
set_option maxHeartbeats 2000000
namespace Mi
open PySem L2 Eg
/-! ### calls of defs -/
def xCall (m : List AV → M Rt) (r : As) : E := fun δ => (r δ).bind fun as => (m as).bind fun z => .ret z.data
/-- .. of a def that lets nothing out -/
def xCall0 (m : List AV → M Rt) (r : As) : E := fun δ => (r δ).bind fun as => (m as).nox.bind fun z => .ret z.data
section
variable {c : Cn} {W : WX} {te ta tb tc : TE} {a b e : E} {KF : PySem.W.Frag} {ts tu tw : TS} {t : TT}
theorem ArgsR.mono {K : PySem.W.Frag} {G G' : Hp} {vs : List V} {as : List AV} (e : Ex G G') (h : ArgsR K G vs as) : ArgsR K G' vs as := by
  induction h with
  | nil => exact .nil
  | cons h1 _ ih => exact .cons (h1.mono e) ih
/-- a def's value, as an expression's -/
theorem ret_data {φ τ φ1 τ1 φ2 : Sg} {G G1 : Hp} {Q : VK} {r : Rt} (g1 : Go φ τ G φ1 τ1 G1) (k : ∀ v τ' G' H', Wd τ' G' H' → Go φ τ G φ2 τ' G' → Rp G' v r.data → Q v H') :
    RtR Q φ1 τ1 G1 φ2 r := by
  cases r with
  | d x => exact fun v τ' G' H' w' g' r' => k v τ' G' H' w' (g1.trans g') r'
  | f xs =>
    intro p τ' G' H' w' g' h1 h2 h3
    obtain ⟨g0, vs, hh, rl⟩ := w'.cell p _ h2
    refine k _ _ _ _ (w'.know h2 hh) (g1.trans (g'.know w' h1 h3 g0)) (.lst upd_same (RpL.mono (Ex.new g0) _ _ rl))
theorem me_callA {m : List AV → M Rt} {ta : TA} {r : As} (ha : MA c W ta r) : ME c W (tCallG (SpM c.K c.cl m) (WE W) ta) (xCall m r) := fun τ0 φ τ δ G H σ Q w l s k => by
  refine ha τ0 φ τ δ G H σ _ w l s (M.wp_mono (fun as φ1 k1 vs τ1 G1 H1 w1 g1 r1 => ?_) (fun C fs φ1 k1 => k1) _ _ ((M.wp_bind _ _).mp k))
  refine ⟨φ1, τ1, G1, as, w1, g1.le, r1, M.wp_mono (fun z φ2 k2 => ?_) (fun C fs φ2 k2 => fun d τ' G' H' w' g' r => k2 d τ' G' H' w' (g1.trans g') r) _ _ ((M.wp_bind _ _).mp k1)⟩
  exact ret_data g1 k2
theorem me_call0A {m : List AV → M Rt} {ta : TA} {r : As} (ha : MA c W ta r) : ME c W (tCallG (SpM c.K c.cl m) (fun _ => E0) ta) (xCall0 m r) := fun τ0 φ τ δ G H σ Q w l s k => by
  refine ha τ0 φ τ δ G H σ _ w l s (M.wp_mono (fun as φ1 k1 vs τ1 G1 H1 w1 g1 r1 => ?_) (fun C fs φ1 k1 => k1) _ _ ((M.wp_bind _ _).mp k))
  refine ⟨φ1, τ1, G1, as, w1, g1.le, r1, M.wp_mono (fun z φ2 k2 => ?_) (fun C fs φ2 k2 => k2.elim) _ _ (M.wp_nox (X' := fun _ _ _ => False) _ _ ((M.wp_bind _ _).mp k1))⟩
  exact ret_data g1 k2
/-- keywords: gV puts the values in order, gA what they are -/
structure Reorder (gV : List V → List V → List V) (gA : List AV → List AV → List AV) : Prop where
  to : ∀ {K : PySem.W.Frag} {G : Hp} {vs : List V} {as : List AV} {zs : List V} {bs : List AV}, ArgsR K G vs as → ArgsR K G zs bs → ArgsR K G (gV vs zs) (gA as bs)
def aKw (n k : Nat) (gA : List AV → List AV → List AV) (r q : As) : As := fun δ => (r δ).bind fun as => (q δ).bind fun bs => if as.length = n ∧ bs.length = k then .ret (gA as bs) else .bad
/-! ### statements -/
def sNext : S := fun δ => .ret (.nx δ)
def sSeq (a b : S) : S := fun δ => (a δ).bind fun fl => match fl with
  | .nx δ1 => b δ1
  | fl => .ret fl
def sRet (e : E) : S := fun δ => catch_ (e δ) δ fun x => .ret (.rt x)
def sRetF (e : List SD → M (List PyData)) : S := fun δ => catch_ (e δ) δ fun x => .ret (.rf x)
def sRetN : S := fun δ => .ret (.rt .none)
def sDrop (e : E) : S := fun δ => catch_ (e δ) δ fun _ => .ret (.nx δ)
def sIf (t : B) (a b : S) : S := fun δ => catch_ (t δ) δ fun c => if c = true then a δ else b δ
def sAsg (tg : Tg) (e : E) : S := fun δ => catch_ (e δ) δ fun x => (M.of (setT tg x δ)).bind fun δ2 => .ret (.nx δ2)
def sAsgF (i : Nat) (e : List SD → M (List PyData)) : S := fun δ => catch_ (e δ) δ fun xs => .ret (.nx (δ.set i (.own xs)))
theorem ms_next : MS c W tNext sNext := fun φ0 τ0 G0 φ τ δ G H σ D w g s k => k σ τ G H w g s
theorem ms_seq {x y : S} (ha : MS c W ts x) (hb : MS c W tu y) : MS c W (tSeq ts tu) (sSeq x y) := fun φ0 τ0 G0 φ τ δ G H σ D w g s k => by
  refine ha φ0 τ0 G0 φ τ δ G H σ _ w g s (M.wp_mono (fun fl φ1 k1 => ?_) (fun _ _ _ h => h) _ _ ((M.wp_bind _ _).mp k))
  cases fl with
  | nx δ1 => exact fun σ1 τ1 G1 H1 w1 g1 s1 => hb φ0 τ0 G0 φ1 τ1 δ1 G1 H1 σ1 D w1 g1 s1 k1
  | bk δ1 => exact k1
  | ct δ1 => exact k1
  | rt x => exact k1
  | rf x => exact k1
  | xx C fs δ1 => exact k1
theorem ms_ret (he : ME c W te e) : MS c W (tRet te) (sRet e) := fun φ0 τ0 G0 φ τ δ G H σ D w g s k =>
  he τ0 φ τ δ G H σ _ w g.le s (M.wp_mono (fun x φ1 k1 v τ1 G1 H1 w1 g1 r1 => k1 v τ1 G1 H1 w1 (g.trans g1) r1) (fun C fs φ1 k1 => FlR.xq g s k1) _ _ (wp_catch _ _ k))
/-- what was not there at the entry -/
theorem ms_retF {f : List SD → M (List PyData)} (he : MF c W te f) (hn : True := trivial) : MS c W (tRet te) (sRetF f) := fun φ0 τ0 G0 φ τ δ G H σ D w g s k => by
  refine he τ0 φ τ δ G H σ _ w g.le s (M.wp_mono (fun xs φ1 k1 p τ1 G1 H1 w1 g1 h1 h2 h3 => ?_) (fun C fs φ1 k1 => FlR.xq g s k1) _ _ (wp_catch _ _ k))
  have h0 : τ0 p = none := by
    cases z : τ0 p with
    | none => rfl
    | some cc =>
      rcases g.stay p (by rw [z]; exact fun q => nomatch q) with q | q
      · exact absurd h1 q
      · have this : G1 p = none := (w1.cell p _ h2).1
        cases zg : G p with
        | none => exact absurd zg q
        | some o => rw [g1.ex p o zg] at this; cases this
  exact k1 p τ1 G1 H1 w1 (g.trans g1) h0 h2 h3
theorem ms_drop (he : ME c W te e) : MS c W (tDrop te) (sDrop e) := fun φ0 τ0 G0 φ τ δ G H σ D w g s k =>
  he τ0 φ τ δ G H σ _ w g.le s (M.wp_mono (fun x φ1 k1 v τ1 G1 H1 w1 g1 r1 => k1 σ τ1 G1 H1 w1 (g.trans g1) (s.go g1)) (fun C fs φ1 k1 => FlR.xq g s k1) _ _ (wp_catch _ _ k))
theorem ms_if {m : B} {x y : S} (ht : MT c W t m) (ha : MS c W tu x) (hb : MS c W tw y) : MS c W (tIfS t tu tw) (sIf m x y) := fun φ0 τ0 G0 φ τ δ G H σ D w g s k =>
  ht τ0 φ τ δ G H σ _ w g.le s (M.wp_mono (fun b φ1 k1 τ1 G1 H1 w1 g1 => by
    cases b with
    | true =>
      rw [if_pos rfl] at k1
      exact ha φ0 τ0 G0 φ1 τ1 δ G1 H1 σ D w1 (g.trans g1) (s.go g1) k1
    | false =>
      rw [if_neg (by decide)] at k1
      exact hb φ0 τ0 G0 φ1 τ1 δ G1 H1 σ D w1 (g.trans g1) (s.go g1) k1) (fun C fs φ1 k1 => FlR.xq g s k1) _ _ (wp_catch _ _ k))
theorem ms_asg {tg : Tg} (he : ME c W te e) : MS c W (tAsg te (gOf KF tg)) (sAsg tg e) := fun φ0 τ0 G0 φ τ δ G H σ D w g s k =>
  he τ0 φ τ δ G H σ _ w g.le s (M.wp_mono (fun x φ1 k1 v τ1 G1 H1 w1 g1 r1 => by
    obtain ⟨δ2, hs, k2⟩ := wp_of ((M.wp_bind _ _).mp k1)
    exact gOf_ok w1 (s.go g1) r1 hs fun σ2 _ s2 => k2 σ2 τ1 G1 H1 w1 (g.trans g1) s2) (fun C fs φ1 k1 => FlR.xq g s k1) _ _ (wp_catch _ _ k))
theorem entry_none {φ0 τ0 φ τ φ1 τ1 : Sg} {G0 G G1 H1 : Hp} {p : Addr} {cc : Cell} (g : Go φ0 τ0 G0 φ τ G) (w1 : Wd τ1 G1 H1) (g1 : Go φ τ G φ1 τ1 G1) (h1 : τ p = none) (h2 : τ1 p = some cc) (ho : cc.open_ = true := by rfl) : τ0 p = none := by
  cases z : τ0 p with
  | none => rfl
  | some c2 =>
    rcases g.stay p (by rw [z]; exact fun q => nomatch q) with q | q
    · exact absurd h1 q
    · have := (w1.cell p _ h2).1.nn ho
      cases zg : G p with
      | none => exact absurd zg q
      | some o => rw [g1.ex p o zg] at this; cases this
theorem ms_asgF {i : Nat} {f : List SD → M (List PyData)} (he : MF c W te f) : MS c W (tAsg te (gName i)) (sAsgF i f) := fun φ0 τ0 G0 φ τ δ G H σ D w g s k =>
  he τ0 φ τ δ G H σ _ w g.le s (M.wp_mono (fun xs φ1 k1 => by
    intro p τ1 G1 H1 w1 g1 h1 h2 h3
    exact k1 _ τ1 G1 H1 w1 (g.trans g1) ((s.go g1).setOwn h2 h3 (entry_none g w1 g1 h1 h2) (s.newOwn h1))) (fun C fs φ1 k1 => FlR.xq g s k1) _ _ (wp_catch _ _ k))
/-- x = f(..): data or a list of one's own -/
def sAsgC (i : Nat) (m : List AV → M Rt) (r : As) : S := fun δ => catch_ ((r δ).bind m) δ fun z => match z with
  | .d x => .ret (.nx (δ.set i (.d x)))
  | .f xs => .ret (.nx (δ.set i (.own xs)))
def sAsgC0 (i : Nat) (m : List AV → M Rt) (r : As) : S := fun δ => catch_ ((r δ).bind fun as => (m as).nox) δ fun z => match z with
  | .d x => .ret (.nx (δ.set i (.d x)))
  | .f xs => .ret (.nx (δ.set i (.own xs)))
/-- an own list is given out: it is data from now on -/
def sFrz (i : Nat) (b : S) : S := fun δ => match δ[i]? with
  | some (.own xs) => b (δ.set i (.d (.list xs)))
  | _ => b δ
theorem ms_frz {i : Nat} {x : S} (h : MS c W ts x) : MS c W ts (sFrz i x) := fun φ0 τ0 G0 φ τ δ G H σ D w g s k => by
  unfold sFrz at k
  cases e : δ[i]? with
  | none => rw [e] at k; exact h φ0 τ0 G0 φ τ δ G H σ D w g s k
  | some sd =>
    rw [e] at k
    cases sd with
    | own xs =>
      obtain ⟨o, eo, r⟩ := s.get e
      cases r with
      | @own p _ h1 h2 h3 =>
        obtain ⟨g0, vs, hh, rl⟩ := w.cell p _ h1
        have hx : Ex G (upd G p (.lst vs)) := Ex.new g0
        have g' : Go φ0 τ0 G0 φ (rid τ p) (upd G p (.lst vs)) := g.know w h3 h2 g0
        have hl : i < σ.length := (List.getElem?_eq_some_iff.mp eo).1
        have no : ∀ q, q ≠ p → rid τ p q = τ q := fun q hq => if_neg hq
        refine h φ0 τ0 G0 φ (rid τ p) (δ.set i (.d (.list xs))) (upd G p (.lst vs)) H σ D (w.know h1 hh) g' ⟨by rw [s.len, List.length_set], fun j q t e1 e2 => ?_, fun j k p' xs' ys hjk e1 e2 e3 e4 => ?_⟩ k
        · by_cases hij : i = j
          · subst hij
            rw [List.getElem?_set_self (by rw [← s.len]; exact hl)] at e2
            rw [eo] at e1
            cases e1; cases e2
            exact .d (.lst upd_same (RpL.mono hx _ _ rl))
          · rw [List.getElem?_set_ne hij] at e2
            have r2 := s.at_ j q t e1 e2
            cases r2 with
            | u => exact .u
            | d r => exact .d (Rp.mono hx _ _ r)
            | own k1 k2 k3 => exact .own (by rw [no _ (fun z => by subst z; exact s.apart i j _ _ _ hij eo e e2 e1)]; exact k1) k2 k3
            | exn k1 k2 => exact .exn k1 (k2.mono hx)
            | scr r => exact .scr (r.mono hx)
        · by_cases hij : i = j
          · subst hij
            rw [List.getElem?_set_self (by rw [← s.len]; exact hl)] at e2
            cases e2
          · by_cases hik : i = k
            · subst hik
              rw [List.getElem?_set_self (by rw [← s.len]; exact hl)] at e3
              cases e3
            · rw [List.getElem?_set_ne hij] at e2
              rw [List.getElem?_set_ne hik] at e3
              exact s.apart j k p' xs' ys hjk e1 e2 e3 e4
    | u => exact h φ0 τ0 G0 φ τ δ G H σ D w g s k
    | d _ => exact h φ0 τ0 G0 φ τ δ G H σ D w g s k
    | exn _ _ => exact h φ0 τ0 G0 φ τ δ G H σ D w g s k
    | scr _ => exact h φ0 τ0 G0 φ τ δ G H σ D w g s k
end
/-! ### pointers as data -/
def big : Int := (2 : Int) ^ 3000
def ptrOf : PyData → Option Addr
  | .dict [(.none, .int i)] => if big ≤ i then some (i - big).toNat else none
  | _ => none
theorem ptrOf_ptr (p : Addr) : ptrOf (ptrD p) = some p := by
  show (if big ≤ big + (p : Int) then some (big + (p : Int) - big).toNat else none) = some p
  rw [if_pos (Int.le_add_of_nonneg_right (Int.natCast_nonneg p))]
  congr 1
  rw [show big + (p : Int) - big = (p : Int) from by generalize big = b; omega]
  exact Int.toNat_natCast p
theorem ptrOf_some {x : PyData} {p : Addr} (h : ptrOf x = some p) : x = ptrD p := by
  unfold ptrOf at h
  split at h
  · rename_i i
    by_cases hb : big ≤ i
    · rw [if_pos hb] at h
      cases h
      show _ = PyData.dict [(.none, .int (big + ((i - big).toNat : Int)))]
      congr 4
      generalize big = b at hb ⊢
      omega
    · rw [if_neg hb] at h; cases h
  · cases h
theorem Rp.ptr_of {G : Hp} {v : V} {x : PyData} {p : Addr} (r : Rp G v x) (h : ptrOf x = some p) : v = .ref p := by
  rw [ptrOf_some h] at r
  exact Eg.ptr_inv r
/-- the list that is seen by all at p -/
def getL {α : Type} (p : Addr) (k : List PyData → M α) : M α := .get p fun c => match c with
  | .lst xs => k xs
  | _ => .bad
theorem wp_getL {α : Type} {p : Addr} {k : List PyData → M α} {φ : Sg} {K : α → Sg → Prop} {X : XC} (h : (getL p k).wp φ K X) : ∃ xs, φ p = some (.lst xs) ∧ (k xs).wp φ K X := by
  obtain ⟨c, e, h⟩ := h
  cases c with
  | lst xs => exact ⟨xs, e, h⟩
  | ins _ _ => exact h.elim
  | dct _ => exact h.elim
  | dcl _ _ _ => exact h.elim
  | opq _ => exact h.elim
section
variable {c : Cn} {W : WX} {te ta tb tc : TE} {a b e : E} {KF : PySem.W.Frag} {ts tu tw : TS} {t : TT}
/-- x, an own list, or a cell that all see, grows -/
def sApp (i : Nat) (e : E) : S := fun δ => match δ[i]? with
  | some (.own xs) => catch_ (e δ) δ fun x => if xs.length < 10000000 then .ret (.nx (δ.set i (.own (xs ++ [x])))) else .bad
  | some (.d y) => match ptrOf y with
    | some p => getL p fun _ => catch_ (e δ) δ fun x => getL p fun xs => if xs.length < 10000000 then .put p (.lst (xs ++ [x])) (.ret (.nx δ)) else .bad
    | none => .bad
  | _ => .bad
theorem own_poke {τ0 φ τ : Sg} {G : Hp} {σ : L2.St} {δ : List SD} {i : Nat} {p : Addr} {xs ys : List PyData} (s : Sl c τ0 φ τ G σ δ) (eo : σ[i]? = some (some (.ref p))) (e : δ[i]? = some (.own xs)) (h2 : φ p = none) (h3 : τ0 p = none) : Sl c τ0 φ (put τ p (.lst ys)) G σ (δ.set i (.own ys)) := by
  have hl : i < σ.length := (List.getElem?_eq_some_iff.mp eo).1
  refine ⟨by rw [s.len, List.length_set], fun j q t e1 e2 => ?_, fun j k p' xs' zs hjk e1 e2 e3 e4 => ?_⟩
  · by_cases hij : i = j
    · subst hij
      rw [List.getElem?_set_self (by rw [← s.len]; exact hl)] at e2
      rw [eo] at e1
      cases e1; cases e2
      exact .own put_same h2 h3
    · rw [List.getElem?_set_ne hij] at e2
      have r2 := s.at_ j q t e1 e2
      cases r2 with
      | u => exact .u
      | d r => exact .d r
      | own k1 k2 k3 => exact .own (by rw [put_ne (fun z => by subst z; exact s.apart i j _ _ _ hij eo e e2 e1)]; exact k1) k2 k3
      | exn k1 k2 => exact .exn k1 k2
      | scr r => exact .scr r
  · by_cases hij : i = j
    · subst hij
      rw [List.getElem?_set_self (by rw [← s.len]; exact hl)] at e2
      cases e2
      rw [List.getElem?_set_ne hjk] at e3
      exact s.apart i k p' xs zs hjk e1 e e3 e4
    · by_cases hik : i = k
      · subst hik
        rw [List.getElem?_set_ne hij] at e2
        exact s.apart j i p' xs' xs hjk e1 e2 e e4
      · rw [List.getElem?_set_ne hij] at e2
        rw [List.getElem?_set_ne hik] at e3
        exact s.apart j k p' xs' zs hjk e1 e2 e3 e4
theorem ms_app {i : Nat} (he : ME c W te e) : MS c W (tDrop (tBM KF "list" rAppend (tVar i) (tCons te tNil))) (sApp i e) := fun φ0 τ0 G0 φ τ δ G H σ D w g s k => by
  unfold sApp at k
  cases e1 : δ[i]? with
  | none => rw [e1] at k; exact k.elim
  | some sd =>
    rw [e1] at k
    cases sd with
    | own xs =>
      obtain ⟨o, eo, r⟩ := s.get e1
      cases r with
      | @own p _ h1 h2 h3 =>
        obtain ⟨g0, vs, hh, rl⟩ := w.cell p _ h1
        refine ⟨_, eo, .inl ⟨rfl, _, SqL.of hh⟩, he τ0 φ τ δ G H σ _ w g.le s (M.wp_mono (fun x φ1 k1 v τ1 G1 H1 w1 g1 r1 => ?_) (fun C fs φ1 k1 => FlR.xq g s k1) _ _ (wp_catch _ _ k))⟩
        have hk := g1.kept p _ h1 h2
        obtain ⟨_, vs1, hh1, rl1⟩ := w1.cell p _ hk.1
        by_cases hl : xs.length < 10000000
        · rw [if_pos hl] at k1
          refine ⟨p, vs1, v, rfl, rfl, hh1, by rw [rl1.len]; exact Nat.lt_trans hl (by decide), ?_⟩
          refine k1 σ (put τ1 p (.lst (xs ++ [x]))) G1 _ (w1.poke hk.1 (RpL.app rl1 (.cons r1 .nil))) ((g.trans g1).poke h3 hk.2) (own_poke (s.go g1) eo e1 hk.2 h3)
        · rw [if_neg hl] at k1; exact k1.elim
    | d y =>
      dsimp only at k
      cases ep : ptrOf y with
      | none => rw [ep] at k; exact k.elim
      | some p =>
        rw [ep] at k
        obtain ⟨xs0, hx0, k⟩ := wp_getL k
        obtain ⟨o, eo, r⟩ := s.get e1
        cases r with
        | d r =>
          have hv := Rp.ptr_of r ep
          subst hv
          obtain ⟨g0, vs, hh, rl⟩ := w.cell p _ (g.le _ _ hx0)
          refine ⟨_, eo, .inl ⟨rfl, _, SqL.of hh⟩, he τ0 φ τ δ G H σ _ w g.le s (M.wp_mono (fun x φ1 k1 v τ1 G1 H1 w1 g1 r1 => ?_) (fun C fs φ1 k1 => FlR.xq g s k1) _ _ (wp_catch _ _ k))⟩
          obtain ⟨xs, hx, k2⟩ := wp_getL k1
          have ht := g1.le _ _ hx
          obtain ⟨_, vs1, hh1, rl1⟩ := w1.cell p _ ht
          by_cases hl : xs.length < 10000000
          · rw [if_pos hl] at k2
            refine ⟨p, vs1, v, rfl, rfl, hh1, by rw [rl1.len]; exact Nat.lt_trans hl (by decide), ?_⟩
            have g2 : Go φ1 τ1 G1 (put φ1 p (.lst (xs ++ [x]))) (put τ1 p (.lst (xs ++ [x]))) G1 := ⟨Ex.refl _, fun q d eq => by
                by_cases hq : q = p
                · subst hq; rw [put_same] at eq ⊢; exact eq
                · rw [put_ne hq] at eq ⊢; exact g1.le q d eq, fun q d a b => by
                have hq : q ≠ p := fun z => by rw [z, hx] at b; cases b
                exact ⟨by rw [put_ne hq]; exact a, by rw [put_ne hq]; exact b⟩, fun q hq => .inl (by
                by_cases hqp : q = p
                · rw [hqp, put_same]; exact fun z => nomatch z
                · rw [put_ne hqp]; exact hq)⟩
            exact k2.2 σ _ G1 _ (w1.poke ht (RpL.app rl1 (.cons r1 .nil))) ((g.trans g1).trans g2) ((s.go g1).go g2)
          · rw [if_neg hl] at k2; exact k2.elim
    | u => exact k.elim
    | exn _ _ => exact k.elim
    | scr _ => exact k.elim
/-! ### errors -/
def sRaise (C : String) (flds : List Str) (r : As) : S := fun δ => catch_ (r δ) δ fun as => (M.of (dat as)).bind fun xs => if xs.length = flds.length then .ret (.xx C (flds.zip xs) δ) else .bad
/-- e.f, of an error with one field -/
def xBy (i : Nat) (f : Str) : E := fun δ => match δ[i]? with
  | some (.exn _ fs) => match fs with
    | [(g, x)] => if g = f then .ret x else .bad
    | _ => .bad
  | _ => .bad
theorem by_one {f : Str} {i : Nat} {φ τ τ0 : Sg} {G : Hp} {σ : L2.St} {δ : List SD} {K : PyData → Sg → Prop} {X : XC} {ar ca : Addr} {d : Option Addr} (hc : c.ec i = some (ar, ca, d)) (s : Sl c τ0 φ τ G σ δ) (k : (xBy i f δ).wp φ K X) : ∃ dd x v, d = some dd ∧ σ[i]? = some (some (.ref ar)) ∧ G dd = some (.xd [(f, v)]) ∧ Rp G v x ∧ K x φ := by
  unfold xBy at k
  cases e1 : δ[i]? with
  | none => rw [e1] at k; exact k.elim
  | some sd =>
    rw [e1] at k
    cases sd with
    | exn C2 fs =>
      obtain ⟨o, eo, r⟩ := s.get e1
      cases r with
      | @exn a2 d2 _ _ q1 q2 =>
        rw [hc] at q1
        obtain ⟨ea, ed⟩ : ar = a2 ∧ d = d2 := by
          have := Option.some.inj q1
          exact ⟨congrArg Prod.fst this, congrArg (fun z => z.2.2) this⟩
        subst ea; subst ed
        rcases q2 with q2 | ⟨dd, vs, edd, q2, q3⟩
        · subst q2; exact k.elim
        cases q3 with
        | nil => exact k.elim
        | @cons g v x vs fs r q3 =>
          cases q3 with
          | nil =>
            dsimp only at k
            by_cases hf : g = f
            · subst hf; rw [if_pos rfl] at k; exact ⟨dd, x, v, edd, eo, q2, r, k⟩
            · rw [if_neg hf] at k; exact k.elim
          | cons _ _ => exact k.elim
    | u => exact k.elim
    | d _ => exact k.elim
    | own _ => exact k.elim
    | scr _ => exact k.elim
/-! ### try -/
def unF (i : Nat) : Fl → Fl
  | .nx δ => .nx (δ.set i .u)
  | .bk δ => .bk (δ.set i .u)
  | .ct δ => .ct (δ.set i .u)
  | .xx C fs δ => .xx C fs (δ.set i .u)
  | fl => fl
def hGo (C : String) (fs : List (Str × PyData)) (δ : List SD) : List (String × Nat × S) → M Fl
  | [] => .ret (.xx C fs δ)
  | (n, i, s) :: r => if C = n then (s (δ.set i (.exn C fs))).bind fun fl => .ret (unF i fl) else hGo C fs δ r
def sTry (L : List String) (b : S) (hs : List (String × Nat × S)) : S := fun δ => (b δ).bind fun fl => match fl with
  | .xx C fs δ1 => if C ∈ L then hGo C fs δ1 hs else .bad
  | fl => .ret fl
def Cn.at (c : Cn) (i : Nat) (z : Addr × Addr × Option Addr) : Cn := { c with ec := fun j => if j = i then some z else c.ec j }
inductive Hds (c : Cn) (W : WX) : List (Value × Nat × Suite) → List (String × Nat × S) → Prop
  | nil : Hds c W [] []
  | cons {n : String} {i : Nat} {ts : Suite} {s : S} {l : List (Value × Nat × Suite)} {r : List (String × Nat × S)} : (∀ a d, MS (c.at i (a, c.cl n, d)) W (ts a (.ref (c.cl n)) d) s) → Hds c W l r → Hds c W ((.ref (c.cl n), i, ts) :: l) ((n, i, s) :: r)
theorem Sl.leave {i : Nat} {z : Addr × Addr × Option Addr} {τ0 φ τ : Sg} {G : Hp} {σ : L2.St} {δ : List SD} (s : Sl (c.at i z) τ0 φ τ G σ δ) (o : Option V) : Sl c τ0 φ τ G (σ.set i o) (δ.set i .u) := by
  refine ⟨by rw [List.length_set, List.length_set, s.len], fun j q t e1 e2 => ?_, fun j k p xs ys hjk e1 e2 e3 e4 => ?_⟩
  · by_cases hij : i = j
    · subst hij
      have hl : i < δ.length := by simpa using (List.getElem?_eq_some_iff.mp e2).1
      rw [List.getElem?_set_self hl] at e2
      cases e2; exact .u
    · rw [List.getElem?_set_ne hij] at e1 e2
      have r := s.at_ j q t e1 e2
      cases r with
      | u => exact .u
      | d r => exact .d r
      | own k1 k2 k3 => exact .own k1 k2 k3
      | exn k1 k2 =>
        refine .exn (c := c) (i := j) ?_ k2
        have k1' : (if j = i then some z else c.ec j) = _ := k1
        rwa [if_neg (Ne.symm hij)] at k1'
      | scr r => exact .scr r
  · by_cases hij : i = j
    · subst hij
      have hl : i < δ.length := by simpa using (List.getElem?_eq_some_iff.mp e2).1
      rw [List.getElem?_set_self hl] at e2
      cases e2
    · by_cases hik : i = k
      · subst hik
        have hl : i < δ.length := by simpa using (List.getElem?_eq_some_iff.mp e3).1
        rw [List.getElem?_set_self hl] at e3
        cases e3
      · rw [List.getElem?_set_ne hij] at e1 e2
        rw [List.getElem?_set_ne hik] at e3 e4
        exact s.apart j k p xs ys hjk e1 e2 e3 e4
theorem Sl.stay {i : Nat} {z : Addr × Addr × Option Addr} {τ0 φ τ : Sg} {G : Hp} {σ : L2.St} {δ : List SD} (s : Sl (c.at i z) τ0 φ τ G σ δ) : Sl c τ0 φ τ G σ (δ.set i .u) := by
  cases e : σ[i]? with
  | none =>
    have := s.leave none
    have hl : σ.length ≤ i := List.getElem?_eq_none_iff.mp e
    rwa [List.set_eq_of_length_le hl] at this
  | some o =>
    have := s.leave o
    rwa [Eg.set_same e] at this
theorem Sl.enter {i : Nat} {a : Addr} {d : Option Addr} {C : String} {τ0 φ τ : Sg} {G : Hp} {σ : L2.St} {δ : List SD} {fs : List (Str × PyData)} (s : Sl c τ0 φ τ G σ δ) (h1 : XdR G d fs) : Sl (c.at i (a, c.cl C, d)) τ0 φ τ G (σ.set i (some (.ref a))) (δ.set i (.exn C fs)) := by
  refine ⟨by rw [List.length_set, List.length_set, s.len], fun j q t e1 e2 => ?_, fun j k p xs ys hjk e1 e2 e3 e4 => ?_⟩
  · by_cases hij : i = j
    · subst hij
      have hl : i < δ.length := by simpa using (List.getElem?_eq_some_iff.mp e2).1
      rw [List.getElem?_set_self hl] at e2
      rw [List.getElem?_set_self (by rw [s.len]; exact hl)] at e1
      cases e2; cases e1
      exact .exn (c := c.at i (a, c.cl C, d)) (if_pos rfl) h1
    · rw [List.getElem?_set_ne hij] at e1 e2
      have r := s.at_ j q t e1 e2
      cases r with
      | u => exact .u
      | d r => exact .d r
      | own k1 k2 k3 => exact .own k1 k2 k3
      | exn k1 k2 => exact .exn (c := c.at i (a, c.cl C, d)) ((if_neg (Ne.symm hij)).trans k1) k2
      | scr r => exact .scr r
  · by_cases hij : i = j
    · subst hij
      have hl : i < δ.length := by simpa using (List.getElem?_eq_some_iff.mp e2).1
      rw [List.getElem?_set_self hl] at e2
      cases e2
    · by_cases hik : i = k
      · subst hik
        have hl : i < δ.length := by simpa using (List.getElem?_eq_some_iff.mp e3).1
        rw [List.getElem?_set_self hl] at e3
        cases e3
      · rw [List.getElem?_set_ne hij] at e1 e2
        rw [List.getElem?_set_ne hik] at e3 e4
        exact s.apart j k p xs ys hjk e1 e2 e3 e4
theorem wtry_ok {D : Ends} {φ0 τ0 : Sg} {G0 : Hp} {C : String} {fs : List (Str × PyData)} {δ : List SD} {φ τ : Sg} {G H : Hp} {σ : L2.St} {d : Option Addr} (w : Wd τ G H) (g : Go φ0 τ0 G0 φ τ G) (s : Sl c τ0 φ τ G σ δ) (hd : XdR G d fs) :
    ∀ {l : List (Value × Nat × Suite)} {r : List (String × Nat × S)}, Hds c W l r → (∀ n, n ∈ r.map (·.1) → PySem.W.exmOne c.K (.ref (c.cl C)) (.ref (c.cl n)) = some (decide (C = n))) → (hGo C fs δ r).wp φ (FlR c W D φ0 τ0 G0) (fun _ _ _ => False) → wTry c.K W D l (.ref (c.cl C)) d σ H
  | _, _, .nil, _, k => k σ d τ G H w g s hd
  | _, _, .cons (n := n) (i := i) (ts := ts) (s := sm) hs hr, hx, k => by
    refine ⟨_, hx n List.mem_cons_self, fun hb a ha => ?_, fun hb => ?_⟩
    · have hb := of_decide_eq_true hb
      subst hb
      have k2 : ((sm (δ.set i (.exn C fs))).bind fun fl => .ret (unF i fl)).wp φ (FlR c W D φ0 τ0 G0) (fun _ _ _ => False) := by
        have k' : (if C = C then (sm (δ.set i (.exn C fs))).bind fun fl => M.ret (unF i fl) else _ : M Fl).wp φ (FlR c W D φ0 τ0 G0) (fun _ _ _ => False) := k
        rwa [if_pos rfl] at k'
      refine hs a d φ0 τ0 G0 φ τ _ G H _ _ w g (s.enter hd) (M.wp_mono (fun fl φ1 k1 => ?_) (fun _ _ _ h => h) _ _ ((M.wp_bind _ _).mp k2))
      cases fl with
      | nx δ1 => exact fun σ1 τ1 G1 H1 w1 g1 s1 => k1 _ τ1 G1 H1 w1 g1 (s1.leave none)
      | bk δ1 => exact fun σ1 τ1 G1 H1 w1 g1 s1 => k1 _ τ1 G1 H1 w1 g1 (s1.leave none)
      | ct δ1 => exact fun σ1 τ1 G1 H1 w1 g1 s1 => k1 _ τ1 G1 H1 w1 g1 (s1.leave none)
      | rt x => exact k1
      | rf x => exact k1
      | xx C2 fs2 δ1 => exact fun σ1 d1 τ1 G1 H1 w1 g1 s1 => k1 _ d1 τ1 G1 H1 w1 g1 s1.stay
    · have hb := of_decide_eq_false hb
      refine wtry_ok w g s hd hr (fun m hm => hx m (List.mem_cons_of_mem _ hm)) ?_
      have k' : (if C = n then (sm (δ.set i (.exn C fs))).bind fun fl => M.ret (unF i fl) else hGo C fs δ _ : M Fl).wp φ (FlR c W D φ0 τ0 G0) (fun _ _ _ => False) := k
      rwa [if_neg hb] at k'
theorem ms_try {L : List String} {tb : WX → TS} {l : List (Value × Nat × Suite)} {b : S} {r : List (String × Nat × S)} (hx : ∀ C, C ∈ L → ∀ n, n ∈ L → PySem.W.exmOne c.K (.ref (c.cl C)) (.ref (c.cl n)) = some (decide (C = n))) (hs : ∀ n, n ∈ r.map (·.1) → n ∈ L) (hb : ∀ W', MS c W' (tb W') b) (hh : Hds c W l r) : MS c W (tTryN c.K W l tb) (sTry L b r) := fun φ0 τ0 G0 φ τ δ G H σ D w g s k => by
  refine hb (wTry c.K W D l) φ0 τ0 G0 φ τ δ G H σ D w g s (M.wp_mono (fun fl φ1 k1 => ?_) (fun _ _ _ h => h) _ _ ((M.wp_bind _ _).mp k))
  cases fl with
  | nx δ1 => exact k1
  | bk δ1 => exact k1
  | ct δ1 => exact k1
  | rt x => exact k1
  | rf x => exact k1
  | xx C fs δ1 =>
    dsimp only at k1
    by_cases hC : C ∈ L
    · rw [if_pos hC] at k1
      exact fun σ1 d τ1 G1 H1 w1 g1 s1 hd => wtry_ok w1 g1 s1 hd hh (fun n hn => hx C hC n (hs n hn)) k1
    · rw [if_neg hC] at k1; exact k1.elim
/-! ### a def -/
def sdOf : AV → SD
  | .d x => .d x
  | .scr ns => .scr ns
def toRt (δ : List SD) : Fl → M Rt
  | .nx _ => .ret (.d .none)
  | .rt x => .ret (.d x)
  | .rf xs => .ret (.f xs)
  | .xx C fs _ => .exc C fs
  | _ => .bad
/-- a def's mirror: n slots, j parameters -/
def mDef (n j : Nat) (b : S) : List AV → M Rt := fun as => if as.length = j then (b (as.map sdOf ++ List.replicate (n - as.length) .u)).nox.bind (toRt []) else .bad
end
theorem start_kind {m : Nat} {s : SD} : ∀ (as : List AV) (i : Nat), (as.map sdOf ++ List.replicate m .u)[i]? = some s → s = .u ∨ (∃ x, s = .d x) ∨ ∃ ns, s = .scr ns
  | [], i, e => by
    rw [List.map_nil, List.nil_append, List.getElem?_replicate] at e
    split at e
    · cases e; exact .inl rfl
    · cases e
  | a :: as, 0, e => by
    cases e
    cases a with
    | d x => exact .inr (.inl ⟨x, rfl⟩)
    | scr ns => exact .inr (.inr ⟨ns, rfl⟩)
  | a :: as, i + 1, e => start_kind as i (by simpa using e)
theorem start_at {K : PySem.W.Frag} {c : Cn} {τ0 φ τ : Sg} {G : Hp} (hK : c.K = K) {vs : List V} {as : List AV} (h : ArgsR K G vs as) (m : Nat) : ∀ (i j : Nat) (o : Option V) (s : SD), (vs.map some ++ List.replicate m none)[i]? = some o → (as.map sdOf ++ List.replicate m .u)[i]? = some s → SlR c τ0 φ τ G j o s := by
  induction h with
  | nil =>
    intro i j o s e1 e2
    rw [List.map_nil, List.nil_append, List.getElem?_replicate] at e2
    split at e2
    · cases e2; exact .u
    · cases e2
  | @cons v a vs as r _ ih =>
    intro i j o s e1 e2
    cases i with
    | zero =>
      cases e1
      cases e2
      cases r with
      | d r => exact .d r
      | scr r => exact .scr (by rw [hK]; exact r)
    | succ i => exact ih i j o s (by simpa using e1) (by simpa using e2)
theorem start_sl {c : Cn} {φ τ : Sg} {G : Hp} {vs : List V} {as : List AV} (h : ArgsR c.K G vs as) (m : Nat) : Sl c τ φ τ G (vs.map some ++ List.replicate m none) (as.map sdOf ++ List.replicate m .u) := by
  refine ⟨by simp [h.len], fun i o s e1 e2 => start_at rfl h m i i o s e1 e2, fun i j p xs ys hij e1 e2 e3 e4 => ?_⟩
  rcases start_kind as i e2 with q | ⟨_, q⟩ | ⟨_, q⟩ <;> cases q
section
variable {P : Program} {w : World} {K : PySem.W.Frag} {mg : Str → Option Value} {base : Heap}
end
end Mi

/-! MiOps -/
set_option Elab.async false
set_option linter.all false
set_option maxRecDepth 100000
set_option maxHeartbeats 2000000
namespace L2
open PySem PySem.Spec PyProof.Rows
/-- // by anything but 0, of fewer than 9000 bits -/
def CDivZ (_ j : Int) : Prop := j ≠ 0 ∧ j.natAbs.log2 < 9000
theorem op_fdivZ {X : Cx} : OpR X (binaryOp .FloorDiv) (rI CDivZ fun i j => .int (i.fdiv j)) := opI fun i j _ _ _ _ _ hc q => floordiv_int hc.1 q (.inl (PyProof.noPylong_of_log2 hc.2))
def rTimesZ (K : PySem.W.Frag) : R2 := fun x y H Q => (rI CMulW fun i j => .int (i * j)) x y H Q ∨ rRep x y H Q
theorem op_timesZ {X : Cx} : OpR X (binaryOp .Mult) (rTimesZ X.K) := op_mulW.or op_rep
end L2
namespace Mi
open PySem L2 Eg
abbrev MulOk (i j : Int) : Prop := i.natAbs.log2 + j.natAbs.log2 < 1000000
def fAdd : PyData → PyData → Option PyData
  | .int i, .int j => some (.int (i + j))
  | .str i, .str j => if i.length + j.length ≤ 10000000 then some (.str (i ++ j)) else none
  | .list xs, .list ys => if xs.length + ys.length ≤ 10000000 then some (.list (xs ++ ys)) else none
  | .tuple xs, .tuple ys => if xs.length + ys.length ≤ 10000000 then some (.tuple (xs ++ ys)) else none
  | _, _ => none
def fSub : PyData → PyData → Option PyData
  | .int i, .int j => some (.int (i - j))
  | _, _ => none
def fMul : PyData → PyData → Option PyData
  | .int i, .int j => if MulOk i j then some (.int (i * j)) else none
  | .list xs, .int n => if 0 ≤ n ∧ n ≤ 1000000 ∧ xs.length * n.toNat ≤ 10000000 then some (.list (List.replicate n.toNat xs).flatten) else none
  | _, _ => none
def fMod : PyData → PyData → Option PyData
  | .int i, .int j => if 0 < j then some (.int (i % j)) else none
  | _, _ => none
def fDiv : PyData → PyData → Option PyData
  | .int i, .int j => if j ≠ 0 ∧ j.natAbs.log2 < 9000 then some (.int (i.fdiv j)) else none
  | _, _ => none
def fPow : PyData → PyData → Option PyData
  | .int i, .int j => if 0 ≤ j ∧ j ≤ 1000000 ∧ i.natAbs < 2 ^ 64 then some (.int (i ^ j.toNat)) else none
  | _, _ => none
def fCmp (p : Int → Int → Bool) : PyData → PyData → Option PyData
  | .int i, .int j => some (.bool (p i j))
  | _, _ => none
def eqOk (x : PyData) : Bool := !x.hasDict && SeqAt.shaped x
def fEq : PyData → PyData → Option PyData
  | .int i, .int j => some (.bool (decide (i = j)))
  | .str i, .str j => some (.bool (decide (i = j)))
  | x, y => if eqOk x = true ∧ eqOk y = true then some (.bool (PyData.eqv x y)) else none
def fNe : PyData → PyData → Option PyData
  | .int i, .int j => some (.bool (!decide (i = j)))
  | .str i, .str j => some (.bool (!decide (i = j)))
  | x, y => if eqOk x = true ∧ eqOk y = true then some (.bool (!PyData.eqv x y)) else none
def fIsN : PyData → PyData → Option PyData
  | x, .none => some (.bool (isNone x))
  | _, _ => none
def fNotN : PyData → PyData → Option PyData
  | x, .none => some (.bool (!isNone x))
  | _, _ => none
def ints? : List PyData → Option (List Int)
  | [] => some []
  | .int i :: xs => (ints? xs).map (i :: ·)
  | _ :: _ => none
def bools? : List PyData → Option (List Bool)
  | [] => some []
  | .bool i :: xs => (bools? xs).map (i :: ·)
  | _ :: _ => none
theorem ints_eq : ∀ {xs : List PyData} {ns : List Int}, ints? xs = some ns → xs = ns.map .int
  | [], _, h => by cases (show some [] = some _ from h); rfl
  | .int i :: xs, _, h => by
    have h' : (ints? xs).map (i :: ·) = some _ := h
    cases e : ints? xs with
    | none => rw [e] at h'; cases h'
    | some ms => rw [e] at h'; cases h'; rw [ints_eq e]; rfl
theorem bools_eq : ∀ {xs : List PyData} {ns : List Bool}, bools? xs = some ns → xs = ns.map .bool
  | [], _, h => by cases (show some [] = some _ from h); rfl
  | .bool i :: xs, _, h => by
    have h' : (bools? xs).map (i :: ·) = some _ := h
    cases e : bools? xs with
    | none => rw [e] at h'; cases h'
    | some ms => rw [e] at h'; cases h'; rw [bools_eq e]; rfl
theorem ints_of_map (ns : List Int) : ints? (ns.map .int) = some ns := by
  induction ns with
  | nil => rfl
  | cons n ns ih => show (ints? (ns.map .int)).map (n :: ·) = _; rw [ih]; rfl
theorem bools_of_map (ns : List Bool) : bools? (ns.map .bool) = some ns := by
  induction ns with
  | nil => rfl
  | cons n ns ih => show (bools? (ns.map .bool)).map (n :: ·) = _; rw [ih]; rfl
def fIn (neg : Bool) : PyData → PyData → Option PyData
  | .int n, .list xs => (ints? xs).map fun ns => .bool (if neg then !ns.contains n else ns.contains n)
  | _, _ => none
def fIx : PyData → PyData → Option PyData
  | .list xs, .int i => atI xs i
  | .tuple xs, .int i => atI xs i
  | _, _ => none
def fNeg : PyData → Option PyData
  | .int i => some (.int (-i))
  | _ => none
abbrev R2Ok (r : R2) (f : PyData → PyData → Option PyData) : Prop := ∀ x y z, f x y = some z → ∀ K : PyData → Nat → Prop, K z 0 → RD r x y 0 K
section
variable {KF : PySem.W.Frag}
theorem ok_add : R2Ok (rPlus KF) fAdd := fun x y z h K k => by
  unfold fAdd at h
  split at h
  · cases h; exact rd_plus_int k
  · split at h
    · rename_i hl; cases h; exact rd_plus_str hl k
    · cases h
  · split at h
    · rename_i hl; cases h; exact rd_plus_list hl k
    · cases h
  · split at h
    · rename_i hl; cases h; exact rd_plus_tup hl k
    · cases h
  · cases h
theorem ok_sub : R2Ok (rI0 fun i j => .int (i - j)) fSub := fun x y z h K k => by
  unfold fSub at h
  split at h
  · cases h; exact rd_sub k
  · cases h
theorem ok_mul : R2Ok (rTimesZ KF) fMul := fun x y z h K k => by
  unfold fMul at h
  split at h
  · split at h
    · rename_i hl; cases h
      exact rd_pure (fun b G H v w Q wd rx ry q => by cases rx; cases ry; exact .inl ⟨_, _, rfl, rfl, hl, q _ (.int _)⟩) k
    · cases h
  · split at h
    · rename_i xs n hl
      cases h
      obtain ⟨m, rfl⟩ := Int.eq_ofNat_of_zero_le hl.1
      rw [Int.toNat_natCast] at hl k
      have hr := rd_rep (KF := KF) (xs := xs) (n := m) (φ := 0) hl.2.2 (by omega) k
      exact fun b G H v w Q wd rx ry q => (hr b G H v w Q wd rx ry q).elim (fun ⟨i, j, e, _⟩ => by cases rx; cases e) .inr
    · cases h
  · cases h
theorem ok_mod : R2Ok (rI (fun _ j => 0 < j) fun i j => .int (i % j)) fMod := fun x y z h K k => by
  unfold fMod at h
  split at h
  · split at h
    · rename_i hl; cases h; exact rd_mod hl k
    · cases h
  · cases h
theorem ok_div : R2Ok (rI CDivZ fun i j => .int (i.fdiv j)) fDiv := fun x y z h K k => by
  unfold fDiv at h
  split at h
  · split at h
    · rename_i hl; cases h
      exact rd_pure (fun b G H v w Q wd rx ry q => by cases rx; cases ry; exact ⟨_, _, rfl, rfl, hl, q _ (.int _)⟩) k
    · cases h
  · cases h
theorem ok_pow : R2Ok (rI CPow fun i j => .int (i ^ j.toNat)) fPow := fun x y z h K k => by
  unfold fPow at h
  split at h
  · split at h
    · rename_i i j hl; cases h
      obtain ⟨m, rfl⟩ := Int.eq_ofNat_of_zero_le hl.1
      rw [Int.toNat_natCast] at k
      exact rd_pow ⟨by omega, hl.2.2⟩ k
    · cases h
  · cases h
theorem ok_cmp {p : Int → Int → Bool} : R2Ok (rI0 fun i j => .bl (p i j)) (fCmp p) := fun x y z h K k => by
  unfold fCmp at h
  split at h
  · cases h; exact rd_cmp k
  · cases h
theorem eqOk_iff {x : PyData} (h : eqOk x = true) : x.hasDict = false ∧ SeqAt.shaped x = true := by
  unfold eqOk at h
  simpa using h
theorem ok_eq : R2Ok (rEqU KF) fEq := fun x y z h K k => by
  unfold fEq at h
  split at h
  · cases h; exact rd_eq_int k
  · cases h; exact rd_eq_str k
  · split at h
    · rename_i hl; cases h
      exact rd_eqD (eqOk_iff hl.1).1 (eqOk_iff hl.2).1 (eqOk_iff hl.1).2 (eqOk_iff hl.2).2 k
    · cases h
theorem ok_ne : R2Ok (rNeU KF) fNe := fun x y z h K k => by
  unfold fNe at h
  split at h
  · cases h; exact rd_ne_int k
  · cases h; exact rd_ne_str k
  · split at h
    · rename_i hl; cases h
      exact rd_neD (eqOk_iff hl.1).1 (eqOk_iff hl.2).1 (eqOk_iff hl.1).2 (eqOk_iff hl.2).2 k
    · cases h
theorem ok_isN : R2Ok (fun x y H Q => y = .non ∧ Q (.bl (decide (x = .non))) H) fIsN := fun x y z h K k => by
  unfold fIsN at h
  split at h
  · cases h; exact rd_isN k
  · cases h
theorem ok_notN : R2Ok (fun x y H Q => y = .non ∧ Q (.bl (!decide (x = .non))) H) fNotN := fun x y z h K k => by
  unfold fNotN at h
  split at h
  · cases h; exact rd_notN k
  · cases h
theorem ok_ix : R2Ok (rIx KF) fIx := fun x y z h K k => by
  unfold fIx at h
  split at h
  · exact rd_ix_list h k
  · exact rd_ix_tup h k
  · cases h
theorem ok_neg : ∀ x z, fNeg x = some z → ∀ K : PyData → Nat → Prop, K z 0 → RU (rU fun i => .int (-i)) x 0 K := fun x z h K k => by
  unfold fNeg at h
  split at h
  · cases h; exact ru_neg k
  · cases h
end
/-! ### built-ins -/
abbrev R1Ok (r : List V → Hp → VK → Prop) (f : PyData → Option PyData) : Prop := ∀ x z, f x = some z → ∀ K : PyData → Nat → Prop, K z 0 → RL r [.d x] 0 K
abbrev RbOk (r : List V → Hp → VK → Prop) (f : PyData → PyData → Option PyData) : Prop := ∀ x y z, f x y = some z → ∀ K : PyData → Nat → Prop, K z 0 → RL r [.d x, .d y] 0 K
section
variable {c : Cn} {W : WX} {te ta tb tc : TE} {a b e : E} {KF : PySem.W.Frag}
theorem me_b1 {r : List V → Hp → VK → Prop} {f : PyData → Option PyData} (hr : R1Ok r f) (ha : ME c W ta a) : ME c W (tCB r (tCons ta tNil)) (x1 f a) := fun τ0 φ τ δ G H σ Q w l s k => by
  refine ha τ0 φ τ δ G H σ _ w l s (M.wp_mono (fun x φ1 k1 v τ1 G1 H1 w1 g1 r1 => ?_) (fun C fs φ1 k1 => k1) _ _ ((M.wp_bind _ _).mp k))
  obtain ⟨z, hz, k3⟩ := wp_of k1
  exact hr x z hz (fun d _ => d = z) rfl noB G1 H1 [v] Q (eWd w1) (.cons (.d r1) .nil) fun zv d n G3 H3 w3 g3 r3 e => by
    subst e
    exact k3 zv τ1 G3 H3 (bridge w1 w3 g3) (g1.trans (bridgeGo g1.le g3)) r3
theorem me_b2 {r : List V → Hp → VK → Prop} {f : PyData → PyData → Option PyData} (hr : RbOk r f) (ha : ME c W ta a) (hb : ME c W tb b) : ME c W (tCB r (tCons ta (tCons tb tNil))) (x2 f a b) := fun τ0 φ τ δ G H σ Q w l s k => by
  refine ha τ0 φ τ δ G H σ _ w l s (M.wp_mono (fun x φ1 k1 v τ1 G1 H1 w1 g1 r1 => ?_) (fun C fs φ1 k1 => k1) _ _ ((M.wp_bind _ _).mp k))
  refine hb τ0 φ1 τ1 δ G1 H1 σ _ w1 g1.le (s.go g1) (M.wp_mono (fun y φ2 k2 v2 τ2 G2 H2 w2 g2 r2 => ?_) (fun C fs φ2 k2 => Xq.go g1 k2) _ _ ((M.wp_bind _ _).mp k1))
  obtain ⟨z, hz, k3⟩ := wp_of k2
  exact hr x y z hz (fun d _ => d = z) rfl noB G2 H2 [v, v2] Q (eWd w2) (.cons (.d (Rp.mono g2.ex _ _ r1)) (.cons (.d r2) .nil)) fun zv d n G3 H3 w3 g3 r3 e => by
    subst e
    exact k3 zv τ2 G3 H3 (bridge w2 w3 g3) ((g1.trans g2).trans (bridgeGo g2.le g3)) r3
end
def fLen : PyData → Option PyData := fun x => (lenD x).map fun n => .int n
def fAbs : PyData → Option PyData
  | .int i => some (.int (if i < 0 then -i else i))
  | _ => none
def fInt : PyData → Option PyData
  | .int i => some (.int i)
  | .bool b => some (.int (if b then 1 else 0))
  | _ => none
def lstI (f : List Int → Option PyData) : PyData → Option PyData
  | .list xs => (ints? xs).bind f
  | _ => none
def fSum : PyData → Option PyData := lstI fun ns => some (.int ns.sum)
def fAll : PyData → Option PyData
  | .list xs => (bools? xs).map fun bs => .bool (bs.all id)
  | _ => none
def fMax2 : PyData → PyData → Option PyData
  | .int i, .int j => some (.int (if j > i then j else i))
  | _, _ => none
def fMin2 : PyData → PyData → Option PyData
  | .int i, .int j => some (.int (if j < i then j else i))
  | _, _ => none
def fGcd : PyData → PyData → Option PyData
  | .int i, .int j => some (.int ((Nat.gcd i.natAbs j.natAbs : Nat) : Int))
  | _, _ => none
def fStr : PyData → Option PyData
  | .int i => if i.natAbs.log2 < 1920 then some (.str (toString i : String)) else none
  | _ => none
section
variable {KF : PySem.W.Frag}
theorem ok_abs : R1Ok (fun xs H Q => ∃ i, xs = [.int i] ∧ Q (.int (if i < 0 then -i else i)) H) fAbs := fun x z h K k => by
  unfold fAbs at h
  split at h
  · cases h; exact rl_abs k
  · cases h
theorem ok_int : R1Ok (fun xs H Q => (∃ i, xs = [.int i] ∧ Q (.int i) H) ∨ ∃ k, xs = [.bl k] ∧ Q (.int (if k then 1 else 0)) H) fInt := fun x z h K k => by
  unfold fInt at h
  split at h
  · cases h; exact rl_int k
  · cases h; exact rl_intB k
  · cases h
theorem lstI_some {f : List Int → Option PyData} {x z : PyData} (h : lstI f x = some z) : ∃ ns : List Int, x = .list (ns.map .int) ∧ f ns = some z := by
  unfold lstI at h
  split at h
  · rename_i xs
    cases e : ints? xs with
    | none => rw [e] at h; cases h
    | some ns => rw [e] at h; exact ⟨ns, by rw [ints_eq e], h⟩
  · cases h
theorem ok_sum : R1Ok (rSum KF) fSum := fun x z h K k => by
  obtain ⟨ns, rfl, e⟩ := lstI_some h
  cases e
  exact rl_sum k
theorem ok_all : R1Ok (rAll KF) fAll := fun x z h K k => by
  unfold fAll at h
  split at h
  · rename_i xs
    cases e : bools? xs with
    | none => rw [e] at h; cases h
    | some bs => rw [e] at h; cases h; rw [bools_eq e]; exact rl_all k
  · cases h
theorem ok_max2 : RbOk (fun xs H Q => ∃ i j, xs = [.int i, .int j] ∧ Q (.int (if j > i then j else i)) H) fMax2 := fun x y z h K k => by
  unfold fMax2 at h
  split at h
  · cases h; exact rl_max2 k
  · cases h
theorem ok_min2 : RbOk (fun xs H Q => ∃ i j, xs = [.int i, .int j] ∧ Q (.int (if j < i then j else i)) H) fMin2 := fun x y z h K k => by
  unfold fMin2 at h
  split at h
  · cases h; exact rl_min2 k
  · cases h
theorem ok_str : R1Ok (fun xs H Q => ∃ i, xs = [.int i] ∧ i.natAbs.log2 < 1920 ∧ Q (.str (toString i)) H) fStr := fun x z h K k => by
  unfold fStr at h
  split at h
  · split at h
    · rename_i hl; cases h; exact rl_str hl k
    · cases h
  · cases h
end
end Mi

/-! MiMore -/
set_option Elab.async false
set_option linter.all false
set_option maxRecDepth 100000
set_option maxHeartbeats 2000000
namespace Mi
open PySem L2 Eg
/-- data, or what stands now in the cell that it points to -/
def seen {α : Type} (x : PyData) (k : PyData → M α) : M α := match ptrOf x with
  | some p => getL p fun xs => k (.list xs)
  | none => if isPtr x = true then .bad else k x
theorem wp_seen {α : Type} {x : PyData} {k : PyData → M α} {φ τ : Sg} {G H : Hp} {v : V} {K : α → Sg → Prop} {X : XC} (w : Wd τ G H) (l : Le φ τ) (r : Rp G v x) (h : (seen x k).wp φ K X) :
    ∃ y, (k y).wp φ K X ∧ Rp H v y ∧ isPtr y = false ∧ (isPtr x = false → y = x) := by
  unfold seen at h
  cases e : ptrOf x with
  | some p =>
    rw [e] at h
    obtain ⟨xs, hx, h⟩ := wp_getL h
    have hv := Rp.ptr_of r e
    subst hv
    obtain ⟨g0, vs, hh, rl⟩ := w.cell p _ (l _ _ hx)
    refine ⟨.list xs, h, .lst hh (RpL.mono w.ex _ _ rl), rfl, fun z => ?_⟩
    rw [ptrOf_some e] at z
    cases z
  | none =>
    rw [e] at h
    cases hp : isPtr x with
    | true => dsimp only at h; rw [if_pos hp] at h; exact h.elim
    | false => dsimp only at h; rw [if_neg (by rw [hp]; decide)] at h; exact ⟨x, h, Rp.mono w.ex _ _ r, hp, fun _ => rfl⟩
/-! isinstance -/
def xIsi (p : PyData → Bool) (a : E) : E := fun δ => (a δ).bind fun x => seen x fun y => .ret (.bool (p y))
section
variable {c : Cn} {W : WX} {te ta tb tc : TE} {t : TT} {a b e : E} {KF : PySem.W.Frag} {ts tu tw : TS}
/-! len, items -/
def xLen (a : E) : E := fun δ => (a δ).bind fun x => seen x fun y => M.of (fLen y)
theorem lenV_of {H : Hp} {v : V} {y : PyData} {n : Nat} (r : Rp H v y) (h : lenD y = some n) : LenV KF v H n := by
  cases r with
  | str s =>
    have h' : (if s.length ≤ 10000000 then some s.length else none) = some n := h
    by_cases hs : s.length ≤ 10000000
    · rw [if_pos hs] at h'
      cases h'
      exact ⟨Nat.le_trans hs (by decide), rfl⟩
    · rw [if_neg hs] at h'; cases h'
  | lst h1 h2 => cases (show some _ = some n from h); exact .inl ⟨_, SqL.of h1, h2.len.symm⟩
  | tup h1 h2 => cases (show some _ = some n from h); exact .inr ⟨_, SqT.of h1, h2.len.symm⟩
  | _ => cases h
theorem me_len (ha : ME c W ta a) : ME c W (tCB (rLenU KF) (tCons ta tNil)) (xLen a) := fun τ0 φ τ δ G H σ Q w l s k => by
  refine ha τ0 φ τ δ G H σ _ w l s (M.wp_mono (fun x φ1 k1 v τ1 G1 H1 w1 g1 r1 => ?_) (fun C fs φ1 k1 => k1) _ _ ((M.wp_bind _ _).mp k))
  obtain ⟨y, k2, r2, hy, _⟩ := wp_seen w1 g1.le r1 k1
  obtain ⟨z, hz, k3⟩ := wp_of k2
  unfold fLen at hz
  cases e : lenD y with
  | none => rw [e] at hz; cases hz
  | some n =>
    rw [e] at hz
    cases hz
    exact ⟨v, n, rfl, lenV_of r2 e, k3 _ τ1 G1 H1 w1 g1 (.int _)⟩
/-- len of an own list, of the script, of data in a slot -/
def xLenV (i : Nat) : E := fun δ => match δ[i]? with
  | some (.own xs) => .ret (.int xs.length)
  | some (.scr ns) => .ret (.int ns.length)
  | _ => xLen (xV i) δ
theorem me_lenV {i : Nat} : ME c W (tCB (rLenU c.K) (tCons (tVar i) tNil)) (xLenV i) := fun τ0 φ τ δ G H σ Q w l s k => by
  unfold xLenV at k
  cases e : δ[i]? with
  | none => rw [e] at k; exact me_len (KF := c.K) me_v τ0 φ τ δ G H σ Q w l s k
  | some sd =>
    rw [e] at k
    cases sd with
    | own xs =>
      obtain ⟨o, eo, r⟩ := s.get e
      cases r with
      | own h1 h2 h3 =>
        obtain ⟨g0, vs, hh, rl⟩ := w.cell _ _ h1
        exact ⟨_, eo, _, vs.length, rfl, .inl ⟨_, SqL.of hh, rfl⟩, by rw [rl.len]; exact k _ τ G H w (Go.refl l) (.int _)⟩
    | scr ns =>
      obtain ⟨o, eo, r⟩ := s.get e
      cases r with
      | scr r => exact ⟨_, eo, _, ns.length, rfl, .inl ⟨_, r.sq w.ex, by rw [List.length_map]⟩, k _ τ G H w (Go.refl l) (.int _)⟩
    | u => exact me_len (KF := c.K) me_v τ0 φ τ δ G H σ Q w l s k
    | d _ => exact me_len (KF := c.K) me_v τ0 φ τ δ G H σ Q w l s k
    | exn _ _ => exact me_len (KF := c.K) me_v τ0 φ τ δ G H σ Q w l s k
/-! items -/
theorem ints_atI {ns : List Int} {k z : Int} (hz : atI ns k = some z) : atI (ns.map V.int) k = some (.int z) := by
  unfold atI at hz ⊢
  rw [List.length_map]
  cases hx : ixN ns.length k with
  | none => rw [hx] at hz; cases hz
  | some j =>
    rw [hx] at hz
    show (ns.map V.int)[j]? = some (.int z)
    rw [List.getElem?_map, show ns[j]? = some z from hz]
    rfl
/-- x[k], x data or a pointer -/
def xIx (a b : E) : E := fun δ => (a δ).bind fun x => (b δ).bind fun y => match ptrOf x with
  | some p => getL p fun xs => M.of (fIx (.list xs) y)
  | none => M.of (fIx x y)
theorem me_ix (ha : ME c W ta a) (hb : ME c W tb b) : ME c W (tOp (rIx KF) ta tb) (xIx a b) := fun τ0 φ τ δ G H σ Q w l s k => by
  refine ha τ0 φ τ δ G H σ _ w l s (M.wp_mono (fun x φ1 k1 v τ1 G1 H1 w1 g1 r1 => ?_) (fun C fs φ1 k1 => k1) _ _ ((M.wp_bind _ _).mp k))
  refine hb τ0 φ1 τ1 δ G1 H1 σ _ w1 g1.le (s.go g1) (M.wp_mono (fun y φ2 k2 v2 τ2 G2 H2 w2 g2 r2 => ?_) (fun C fs φ2 k2 => Xq.go g1 k2) _ _ ((M.wp_bind _ _).mp k1))
  cases e : ptrOf x with
  | none =>
    rw [e] at k2
    obtain ⟨z, hz, k3⟩ := wp_of k2
    exact ok_ix x y z hz (fun d _ => d = z) rfl noB G2 H2 v v2 Q (eWd w2) (Rp.mono g2.ex _ _ r1) r2 fun zv d n G3 H3 w3 g3 r3 e => by
      subst e
      exact k3 zv τ2 G3 H3 (bridge w2 w3 g3) ((g1.trans g2).trans (bridgeGo g2.le g3)) r3
  | some p =>
    rw [e] at k2
    obtain ⟨xs, hx, k2⟩ := wp_getL k2
    obtain ⟨z, hz, k3⟩ := wp_of k2
    have hv := Rp.ptr_of r1 e
    subst hv
    obtain ⟨g0, vs, hh, rl⟩ := w2.cell p _ (g2.le _ _ hx)
    cases y with
    | int i =>
      cases r2
      obtain ⟨u, e1, r⟩ := atI_rp rl (show atI xs i = some z from hz)
      exact .inl ⟨_, _, i, u, rfl, rfl, SqL.of hh, e1, k3 u τ2 G2 H2 w2 (g1.trans g2) r⟩
    | _ => exact nomatch hz
/-- x[k], x an own list, the script, or data in a slot -/
def xIxV (i : Nat) (b : E) : E := fun δ => match δ[i]? with
  | some (.own xs) => (b δ).bind fun y => M.of (fIx (.list xs) y)
  | some (.scr ns) => (b δ).bind fun y => M.of (match y with
    | .int k => (atI ns k).map PyData.int
    | _ => none)
  | _ => xIx (xV i) b δ
theorem me_ixV {i : Nat} (hb : ME c W tb b) : ME c W (tOp (rIx c.K) (tVar i) tb) (xIxV i b) := fun τ0 φ τ δ G H σ Q w l s k => by
  unfold xIxV at k
  cases e : δ[i]? with
  | none => rw [e] at k; exact me_ix (KF := c.K) me_v hb τ0 φ τ δ G H σ Q w l s k
  | some sd =>
    rw [e] at k
    cases sd with
    | own xs =>
      obtain ⟨o, eo, r⟩ := s.get e
      cases r with
      | own h1 h2 h3 =>
        refine ⟨_, eo, hb τ0 φ τ δ G H σ _ w l s (M.wp_mono (fun y φ1 k1 v τ1 G1 H1 w1 g1 r1 => ?_) (fun C fs φ1 k1 => k1) _ _ ((M.wp_bind _ _).mp k))⟩
        obtain ⟨z, hz, k3⟩ := wp_of k1
        obtain ⟨g0, vs, hh, rl⟩ := w1.cell _ _ (g1.kept _ _ h1 h2).1
        cases y with
        | int j =>
          cases r1
          obtain ⟨u, e1, r⟩ := atI_rp rl (show atI xs j = some z from hz)
          exact .inl ⟨_, _, j, u, rfl, rfl, SqL.of hh, e1, k3 u τ1 G1 H1 w1 g1 r⟩
        | _ => exact nomatch hz
    | scr ns =>
      obtain ⟨o, eo, r⟩ := s.get e
      cases r with
      | scr r =>
        refine ⟨_, eo, hb τ0 φ τ δ G H σ _ w l s (M.wp_mono (fun y φ1 k1 v τ1 G1 H1 w1 g1 r1 => ?_) (fun C fs φ1 k1 => k1) _ _ ((M.wp_bind _ _).mp k))⟩
        obtain ⟨z, hz, k3⟩ := wp_of k1
        cases y with
        | int j =>
          cases r1
          dsimp only at hz
          cases ej : atI ns j with
          | none => rw [ej] at hz; cases hz
          | some n =>
            rw [ej] at hz
            cases hz
            exact .inl ⟨_, _, j, .int n, rfl, rfl, (r.mono g1.ex).sq w1.ex, ints_atI ej, k3 _ τ1 G1 H1 w1 g1 (.int n)⟩
        | _ => exact nomatch hz
    | u => exact me_ix (KF := c.K) me_v hb τ0 φ τ δ G H σ Q w l s k
    | d _ => exact me_ix (KF := c.K) me_v hb τ0 φ τ δ G H σ Q w l s k
    | exn _ _ => exact me_ix (KF := c.K) me_v hb τ0 φ τ δ G H σ Q w l s k
/-! list(..), tuple(..), a list that all see -/
def fList (a : E) : List SD → M (List PyData) := fun δ => (a δ).bind fun x => seen x fun y => M.of (itemsOf y)
theorem mf_list (ha : ME c W ta a) : MF c W (tCB (rListU KF) (tCons ta tNil)) (fList a) := fun τ0 φ τ δ G H σ Q w l s k => by
  refine ha τ0 φ τ δ G H σ _ w l s (M.wp_mono (fun x φ1 k1 v τ1 G1 H1 w1 g1 r1 => ?_) (fun C fs φ1 k1 => k1) _ _ ((M.wp_bind _ _).mp k))
  cases e : ptrOf x with
  | some p =>
    unfold seen at k1
    rw [e] at k1
    obtain ⟨xs, hx, k1⟩ := wp_getL k1
    have hv := Rp.ptr_of r1 e
    subst hv
    obtain ⟨g0, vs, hh, rl⟩ := w1.cell p _ (g1.le _ _ hx)
    exact ⟨p, vs, rfl, .inl (SqL.of hh), fun q hq => k1 q _ _ _ (w1.fresh hq rl) (g1.trans (Go.fresh w1 g1.le hq)) (Go.tn w1 g1 hq) put_same (g1.le.none (w1.tn hq))⟩
  | none =>
    obtain ⟨y, k2, _, hy, hxy⟩ := wp_seen w1 g1.le r1 k1
    obtain ⟨ds, hd, k3⟩ := wp_of k2
    have hp : isPtr x = false := by
      unfold seen at k1
      rw [e] at k1
      cases hp : isPtr x with
      | false => rfl
      | true => dsimp only at k1; rw [if_pos hp] at k1; exact k1.elim
    have := hxy hp
    subst this
    cases r1 with
    | @lst a xs ds' h1 h2 =>
      cases (show some ds' = some ds from hd)
      exact ⟨a, xs, rfl, .inl (SqL.of (w1.ex _ _ h1)), fun q hq => k3 q _ _ _ (w1.fresh hq h2) (g1.trans (Go.fresh w1 g1.le hq)) (Go.tn w1 g1 hq) put_same (g1.le.none (w1.tn hq))⟩
    | @tup a xs ds' h1 h2 =>
      cases (show some ds' = some ds from hd)
      exact ⟨a, xs, rfl, .inr (SqT.of (w1.ex _ _ h1)), fun q hq => k3 q _ _ _ (w1.fresh hq h2) (g1.trans (Go.fresh w1 g1.le hq)) (Go.tn w1 g1 hq) put_same (g1.le.none (w1.tn hq))⟩
    | _ => cases hd
/-- a new list that all see -/
def xNew (f : List SD → M (List PyData)) : E := fun δ => (f δ).bind fun xs => .new (.lst xs) fun p => .ret (ptrD p)
theorem me_new {f : List SD → M (List PyData)} (h : MF c W te f) : ME c W te (xNew f) := fun τ0 φ τ δ G H σ Q w l s k => by
  refine h τ0 φ τ δ G H σ _ w l s (M.wp_mono (fun xs φ1 k1 p τ1 G1 H1 w1 g1 h1 h2 h3 => ?_) (fun C fs φ1 k1 => k1) _ _ ((M.wp_bind _ _).mp k))
  refine k1 p h3 _ τ1 G1 H1 w1 ⟨g1.ex, fun q d e => ?_, fun q d a b => ?_, g1.stay⟩ (.ptr p)
  · by_cases hq : q = p
    · subst hq; rw [put_same] at e; cases e; exact h2
    · rw [put_ne hq] at e; exact g1.le q d e
  · have hq : q ≠ p := fun z => by rw [z, h1] at a; cases a
    rw [put_ne hq]
    exact g1.kept q d a b
def xTuple (a : E) : E := fun δ => (a δ).bind fun x => M.of ((itemsOf x).map .tuple)
theorem me_tuple (ha : ME c W ta a) : ME c W (tCB (rTupleU KF) (tCons ta tNil)) (xTuple a) := fun τ0 φ τ δ G H σ Q w l s k => by
  refine ha τ0 φ τ δ G H σ _ w l s (M.wp_mono (fun x φ1 k1 v τ1 G1 H1 w1 g1 r1 => ?_) (fun C fs φ1 k1 => k1) _ _ ((M.wp_bind _ _).mp k))
  obtain ⟨z, hz, k2⟩ := wp_of k1
  cases r1 with
  | @lst a xs ds' h1 h2 =>
    cases (show some (PyData.tuple ds') = some z from hz)
    exact ⟨a, xs, rfl, .inl ⟨SqL.of (w1.ex _ _ h1), fun q hq => k2 _ τ1 _ _ (w1.laid hq) (g1.trans (Go.laid w1 g1.le hq)) (.tup upd_same (RpL.mono (Ex.new (w1.gn hq)) _ _ h2))⟩⟩
  | @tup a xs ds' h1 h2 =>
    cases (show some (PyData.tuple ds') = some z from hz)
    exact ⟨a, xs, rfl, .inr ⟨SqT.of (w1.ex _ _ h1), k2 _ τ1 G1 H1 w1 g1 (.tup h1 h2)⟩⟩
  | _ => cases hz
/-! slices -/
def MO (c : Cn) (W : WX) (to : TO) (m : List SD → M (Option Int)) : Prop := ∀ (τ0 φ τ : Sg) (δ : List SD) (G H : Hp) (σ : L2.St) (Q : Option Int → Hp → Prop), Wd τ G H → Le φ τ → Sl c τ0 φ τ G σ δ →
  (m δ).wp φ (fun b φ' => ∀ τ' G' H', Wd τ' G' H' → Go φ τ G φ' τ' G' → Q b H') (Xq c W φ τ G σ) → to σ H Q
def oNo : List SD → M (Option Int) := fun _ => .ret none
def oAt (a : E) : List SD → M (Option Int) := fun δ => (a δ).bind fun x => M.of (match x with
  | .int i => some (some i)
  | _ => none)
theorem mo_no : MO c W tNoPart oNo := fun τ0 φ τ δ G H σ Q w l s k => k τ G H w (Go.refl l)
theorem mo_at (ha : ME c W ta a) : MO c W (tPart ta) (oAt a) := fun τ0 φ τ δ G H σ Q w l s k => by
  refine ha τ0 φ τ δ G H σ _ w l s (M.wp_mono (fun x φ1 k1 v τ1 G1 H1 w1 g1 r1 => ?_) (fun C fs φ1 k1 => k1) _ _ ((M.wp_bind _ _).mp k))
  obtain ⟨z, hz, k2⟩ := wp_of k1
  cases x with
  | int i => cases hz; cases r1; exact ⟨i, rfl, k2 τ1 G1 H1 w1 g1⟩
  | _ => cases hz
def xSl (a : E) (lo hi : List SD → M (Option Int)) : E := fun δ => (a δ).bind fun x => (lo δ).bind fun l => (hi δ).bind fun h => M.of (sliced x l h)
theorem me_sl {tl th : TO} {lo hi : List SD → M (Option Int)} (ha : ME c W ta a) (hl : MO c W tl lo) (hh : MO c W th hi) : ME c W (tSl (rSlU KF) ta tl th) (xSl a lo hi) := fun τ0 φ τ δ G H σ Q w l s k => by
  refine ha τ0 φ τ δ G H σ _ w l s (M.wp_mono (fun x φ1 k1 v τ1 G1 H1 w1 g1 r1 => ?_) (fun C fs φ1 k1 => k1) _ _ ((M.wp_bind _ _).mp k))
  refine hl τ0 φ1 τ1 δ G1 H1 σ _ w1 g1.le (s.go g1) (M.wp_mono (fun l1 φ2 k2 τ2 G2 H2 w2 g2 => ?_) (fun C fs φ2 k2 => Xq.go g1 k2) _ _ ((M.wp_bind _ _).mp k1))
  refine hh τ0 φ2 τ2 δ G2 H2 σ _ w2 g2.le ((s.go g1).go g2) (M.wp_mono (fun h1 φ3 k3 τ3 G3 H3 w3 g3 => ?_) (fun C fs φ3 k3 => Xq.go (g1.trans g2) k3) _ _ ((M.wp_bind _ _).mp k2))
  obtain ⟨y, e1, k4⟩ := wp_of k3
  have r3 := Rp.mono (g2.ex.trans g3.ex) _ _ r1
  have gg := (g1.trans g2).trans g3
  cases r3 with
  | @lst a xs ds a1 a2 =>
    cases (show some (PyData.list (cutD ds l1 h1)) = some y from e1)
    refine .inl ⟨_, _, rfl, SqL.of (w3.ex _ _ a1), fun p hp => ?_⟩
    exact k4 _ τ3 _ _ (w3.laid hp) (gg.trans (Go.laid w3 gg.le hp)) (.lst upd_same (RpL.mono (Ex.new (w3.gn hp)) _ _ (RpL.cut l1 h1 a2)))
  | @tup a xs ds a1 a2 =>
    cases (show some (PyData.tuple (cutD ds l1 h1)) = some y from e1)
    refine .inr (.inl ⟨_, _, rfl, SqT.of (w3.ex _ _ a1), fun hw => ?_, fun hw p hp => ?_⟩)
    · rw [a2.len] at hw
      rw [cutD_whole hw] at k4
      exact k4 _ τ3 _ _ w3 gg (.tup a1 a2)
    · exact k4 _ τ3 _ _ (w3.laid hp) (gg.trans (Go.laid w3 gg.le hp)) (.tup upd_same (RpL.mono (Ex.new (w3.gn hp)) _ _ (RpL.cut l1 h1 a2)))
  | _ => exact nomatch e1
/-- script[lo:hi] -/
def xSlV (i : Nat) (lo hi : List SD → M (Option Int)) : E := fun δ => match δ[i]? with
  | some (.scr ns) => (lo δ).bind fun l => (hi δ).bind fun h => .ret (.list (cutD (ns.map .int) l h))
  | _ => xSl (xV i) lo hi δ
theorem me_slV {i : Nat} {tl th : TO} {lo hi : List SD → M (Option Int)} (hl : MO c W tl lo) (hh : MO c W th hi) : ME c W (tSl (rSlU c.K) (tVar i) tl th) (xSlV i lo hi) := fun τ0 φ τ δ G H σ Q w l s k => by
  unfold xSlV at k
  cases e : δ[i]? with
  | none => rw [e] at k; exact me_sl (KF := c.K) me_v hl hh τ0 φ τ δ G H σ Q w l s k
  | some sd =>
    rw [e] at k
    cases sd with
    | scr ns =>
      obtain ⟨o, eo, r⟩ := s.get e
      cases r with
      | scr r =>
        refine ⟨_, eo, hl τ0 φ τ δ G H σ _ w l s (M.wp_mono (fun l1 φ2 k2 τ2 G2 H2 w2 g2 => ?_) (fun C fs φ2 k2 => k2) _ _ ((M.wp_bind _ _).mp k))⟩
        refine hh τ0 φ2 τ2 δ G2 H2 σ _ w2 g2.le (s.go g2) (M.wp_mono (fun h1 φ3 k3 τ3 G3 H3 w3 g3 => ?_) (fun C fs φ3 k3 => Xq.go g2 k3) _ _ ((M.wp_bind _ _).mp k2))
        have gg := g2.trans g3
        refine .inl ⟨_, _, rfl, (r.mono gg.ex).sq w3.ex, fun p hp => ?_⟩
        exact k3 _ τ3 _ _ (w3.laid hp) (gg.trans (Go.laid w3 gg.le hp)) (.lst upd_same (RpL.mono (Ex.new (w3.gn hp)) _ _ (RpL.cut l1 h1 (RpL.of_ints ns))))
    | own _ => exact me_sl (KF := c.K) me_v hl hh τ0 φ τ δ G H σ Q w l s k
    | u => exact me_sl (KF := c.K) me_v hl hh τ0 φ τ δ G H σ Q w l s k
    | d _ => exact me_sl (KF := c.K) me_v hl hh τ0 φ τ δ G H σ Q w l s k
    | exn _ _ => exact me_sl (KF := c.K) me_v hl hh τ0 φ τ δ G H σ Q w l s k
/-! a op b op c -/
def xChain (f g : PyData → PyData → Option PyData) (a b e : E) : E := fun δ => (a δ).bind fun x => (b δ).bind fun y => (M.of (f x y)).bind fun z => (asB z).bind fun k => if k = true then (e δ).bind fun u => M.of (g y u) else .ret (.bool false)
theorem me_chain {r r' : R2} {f g : PyData → PyData → Option PyData} (hr : R2Ok r f) (hr' : R2Ok r' g) (ha : ME c W ta a) (hb : ME c W tb b) (he : ME c W tc e) : ME c W (tChain r r' ta tb tc) (xChain f g a b e) := fun τ0 φ τ δ G H σ Q w l s k => by
  refine ha τ0 φ τ δ G H σ _ w l s (M.wp_mono (fun x φ1 k1 v τ1 G1 H1 w1 g1 r1 => ?_) (fun C fs φ1 k1 => k1) _ _ ((M.wp_bind _ _).mp k))
  refine hb τ0 φ1 τ1 δ G1 H1 σ _ w1 g1.le (s.go g1) (M.wp_mono (fun y φ2 k2 v2 τ2 G2 H2 w2 g2 r2 => ?_) (fun C fs φ2 k2 => Xq.go g1 k2) _ _ ((M.wp_bind _ _).mp k1))
  obtain ⟨z, hz, k3⟩ := wp_of ((M.wp_bind _ _).mp k2)
  refine hr x y z hz (fun d _ => d = z) rfl noB G2 H2 v v2 _ (eWd w2) (Rp.mono g2.ex _ _ r1) r2 fun zv d n G3 H3 w3 g3 r3 e3 => ?_
  subst e3
  have w3' := bridge w2 w3 g3
  have g3' := (g1.trans g2).trans (bridgeGo g2.le g3)
  obtain ⟨kk, rfl, k4⟩ := wp_asB ((M.wp_bind _ _).mp k3)
  cases r3
  refine ⟨kk, rfl, ?_⟩
  cases kk with
  | true =>
    rw [if_pos rfl] at k4 ⊢
    refine he τ0 φ2 τ2 δ G3 H3 σ _ w3' g3'.le (s.go g3') (M.wp_mono (fun u φ4 k5 v4 τ4 G4 H4 w4 g4 r4 => ?_) (fun C fs φ4 k5 => Xq.go g3' k5) _ _ ((M.wp_bind _ _).mp k4))
    obtain ⟨q, hq, k6⟩ := wp_of k5
    refine hr' y u q hq (fun d _ => d = q) rfl noB G4 H4 v2 v4 Q (eWd w4) (Rp.mono (g3.ex.trans g4.ex) _ _ r2) r4 fun zv d n G5 H5 w5 g5 r5 e5 => ?_
    subst e5
    exact k6 zv τ4 G5 H5 (bridge w4 w5 g5) ((g3'.trans g4).trans (bridgeGo g4.le g5)) r5
  | false => exact k4 _ τ2 G3 H3 w3' g3' (.bl false)
end
end Mi

/-! MiRest -/
set_option Elab.async false
set_option linter.all false
set_option maxRecDepth 100000
set_option maxHeartbeats 2000000
namespace Mi
open PySem L2 Eg
/-! ### data with pointers, seen whole -/
mutual
def flat : PyData → Bool
  | .list xs => flatL xs
  | .tuple xs => flatL xs
  | .dict es => flatK es
  | _ => true
def flatL : List PyData → Bool
  | [] => true
  | x :: xs => flat x && flatL xs
def flatK : List (PyData × PyData) → Bool
  | [] => true
  | (k, v) :: es => !isNone k && flat v && flatK es
end
mutual
def deep : PyData → M PyData
  | .list xs => (deepL xs).bind fun ys => .ret (.list ys)
  | .tuple xs => (deepL xs).bind fun ys => .ret (.tuple ys)
  | .dict es => match ptrOf (.dict es) with
    | some p => getL p fun xs => if flatL xs = true then .ret (.list xs) else .bad
    | none => if flatK es = true then .ret (.dict es) else .bad
  | x => .ret x
def deepL : List PyData → M (List PyData)
  | [] => .ret []
  | x :: xs => (deep x).bind fun y => (deepL xs).bind fun ys => .ret (y :: ys)
end
theorem flatK_ptr {es : List (PyData × PyData)} (h : flatK es = true) : ptrOf (.dict es) = none := by
  cases e : ptrOf (.dict es) with
  | none => rfl
  | some p =>
    have := ptrOf_some e
    have e2 : es = [(.none, .int ((2 : Int) ^ 3000 + (p : Nat)))] := by
      have := PyData.dict.inj this
      exact this
    rw [e2] at h
    cases h
mutual
theorem deep_flat : ∀ (x : PyData), flat x = true → deep x = .ret x
  | .list xs, h => by
    unfold deep
    rw [deepL_flat xs (by unfold flat at h; exact h)]
    rfl
  | .tuple xs, h => by
    unfold deep
    rw [deepL_flat xs (by unfold flat at h; exact h)]
    rfl
  | .dict es, h => by
    have h' : flatK es = true := by unfold flat at h; exact h
    unfold deep
    rw [flatK_ptr h']
    dsimp only
    rw [if_pos h']
  | .none, _ => by unfold deep; rfl
  | .bool _, _ => by unfold deep; rfl
  | .int _, _ => by unfold deep; rfl
  | .str _, _ => by unfold deep; rfl
theorem deepL_flat : ∀ (xs : List PyData), flatL xs = true → deepL xs = .ret xs
  | [], _ => by unfold deepL; rfl
  | x :: xs, h => by
    unfold flatL at h
    rw [Bool.and_eq_true] at h
    unfold deepL
    rw [deep_flat x h.1, deepL_flat xs h.2]
    rfl
end
theorem deep_ptr (p : Addr) : deep (ptrD p) = getL p fun xs => if flatL xs = true then .ret (.list xs) else .bad := by
  have h := ptrOf_ptr p
  unfold ptrD at h ⊢
  unfold deep
  rw [h]
section
variable {φ τ : Sg} {G H : Hp} {X : XC}
mutual
theorem deep_rp (w : Wd τ G H) (l : Le φ τ) : ∀ (x : PyData) (K : PyData → Sg → Prop), (deep x).wp φ K X → ∃ y, K y φ ∧ ∀ v, Rp G v x → Rp H v y
  | .list xs, K, h => by
    unfold deep at h
    obtain ⟨ys, k, r⟩ := deepL_rp w l xs _ ((M.wp_bind _ _).mp h)
    refine ⟨.list ys, k, fun v rv => ?_⟩
    cases rv with
    | lst h1 h2 => exact .lst (w.ex _ _ h1) (r _ h2)
  | .tuple xs, K, h => by
    unfold deep at h
    obtain ⟨ys, k, r⟩ := deepL_rp w l xs _ ((M.wp_bind _ _).mp h)
    refine ⟨.tuple ys, k, fun v rv => ?_⟩
    cases rv with
    | tup h1 h2 => exact .tup (w.ex _ _ h1) (r _ h2)
  | .dict es, K, h => by
    unfold deep at h
    cases e : ptrOf (.dict es) with
    | some p =>
      rw [e] at h
      obtain ⟨xs, hx, h⟩ := wp_getL h
      by_cases hf : flatL xs = true
      · rw [if_pos hf] at h
        refine ⟨.list xs, h, fun v rv => ?_⟩
        have hv := Rp.ptr_of rv e
        subst hv
        obtain ⟨g0, vs, hh, rl⟩ := w.cell p _ (l _ _ hx)
        exact .lst hh (RpL.mono w.ex _ _ rl)
      · rw [if_neg hf] at h; exact h.elim
    | none =>
      rw [e] at h
      dsimp only at h
      by_cases hf : flatK es = true
      · rw [if_pos hf] at h
        exact ⟨.dict es, h, fun v rv => Rp.mono w.ex _ _ rv⟩
      · rw [if_neg hf] at h; exact h.elim
  | .none, K, h => by unfold deep at h; exact ⟨_, h, fun v rv => Rp.mono w.ex _ _ rv⟩
  | .bool _, K, h => by unfold deep at h; exact ⟨_, h, fun v rv => Rp.mono w.ex _ _ rv⟩
  | .int _, K, h => by unfold deep at h; exact ⟨_, h, fun v rv => Rp.mono w.ex _ _ rv⟩
  | .str _, K, h => by unfold deep at h; exact ⟨_, h, fun v rv => Rp.mono w.ex _ _ rv⟩
theorem deepL_rp (w : Wd τ G H) (l : Le φ τ) : ∀ (xs : List PyData) (K : List PyData → Sg → Prop), (deepL xs).wp φ K X → ∃ ys, K ys φ ∧ ∀ vs, RpL G vs xs → RpL H vs ys
  | [], K, h => by unfold deepL at h; exact ⟨[], h, fun vs r => by cases r; exact .nil⟩
  | x :: xs, K, h => by
    unfold deepL at h
    obtain ⟨y, k1, r1⟩ := deep_rp w l x _ ((M.wp_bind _ _).mp h)
    obtain ⟨ys, k2, r2⟩ := deepL_rp w l xs _ ((M.wp_bind _ _).mp k1)
    refine ⟨y :: ys, k2, fun vs r => ?_⟩
    cases r with
    | cons a b => exact .cons (r1 _ a) (r2 _ b)
end
end
def shows (y : PyData) : M PyData := if y.showable = true ∧ y.depth ≤ 50 ∧ y.shown.length ≤ sizeLine then .ret (.str y.shown) else .bad
def xRepr (a : E) : E := fun δ => (a δ).bind fun x => (deep x).bind shows
def fRev (a : E) : List SD → M (List PyData) := fun δ => (a δ).bind fun x => M.of (match x with
  | .list xs => some xs.reverse
  | _ => none)
section
variable {c : Cn} {W : WX} {te ta tb tc : TE} {t : TT} {a b e : E} {KF : PySem.W.Frag} {ts tu tw : TS}
theorem me_repr (ha : ME c W ta a) : ME c W (tCB rRepr (tCons ta tNil)) (xRepr a) := fun τ0 φ τ δ G H σ Q w l s k => by
  refine ha τ0 φ τ δ G H σ _ w l s (M.wp_mono (fun x φ1 k1 v τ1 G1 H1 w1 g1 r1 => ?_) (fun C fs φ1 k1 => k1) _ _ ((M.wp_bind _ _).mp k))
  obtain ⟨y, k2, r2⟩ := deep_rp w1 g1.le x _ ((M.wp_bind _ _).mp k1)
  unfold shows at k2
  by_cases hs : y.showable = true ∧ y.depth ≤ 50 ∧ y.shown.length ≤ sizeLine
  · rw [if_pos hs] at k2
    exact ⟨v, y, rfl, r2 v r1, hs.1, hs.2.1, hs.2.2, k2 _ τ1 G1 H1 w1 g1 (.str _)⟩
  · rw [if_neg hs] at k2; exact k2.elim
theorem mf_rev (ha : ME c W ta a) : MF c W (tRevL KF ta) (fRev a) := fun τ0 φ τ δ G H σ Q w l s k => by
  refine ha τ0 φ τ δ G H σ _ w l s (M.wp_mono (fun x φ1 k1 v τ1 G1 H1 w1 g1 r1 => ?_) (fun C fs φ1 k1 => k1) _ _ ((M.wp_bind _ _).mp k))
  obtain ⟨ds, hd, k3⟩ := wp_of k1
  cases r1 with
  | @lst a xs ds' h1 h2 =>
    cases (show some ds'.reverse = some ds from hd)
    exact ⟨a, xs, rfl, SqL.of (w1.ex _ _ h1), fun q hq => k3 q _ _ _ (w1.fresh hq (RpL.rev h2)) (g1.trans (Go.fresh w1 g1.le hq)) (Go.tn w1 g1 hq) put_same (g1.le.none (w1.tn hq))⟩
  | _ => cases hd
theorem me_dnew : ME c W tDNewK (xC (.dict [])) := fun τ0 φ τ δ G H σ Q w l s k p hp => k _ τ _ _ (w.laid hp) (Go.laid w l hp) (.dct upd_same .nil)
/-! ### changes in place -/
def setAt {α : Type} (xs : List PyData) (y x : PyData) (k : List PyData → M α) : M α := match y with
  | .int i => match ixN xs.length i with
    | some j => k (xs.set j x)
    | none => .bad
  | _ => .bad
theorem wp_setAt {α : Type} {xs : List PyData} {y x : PyData} {k : List PyData → M α} {φ : Sg} {K : α → Sg → Prop} {X : XC} (h : (setAt xs y x k).wp φ K X) : ∃ i j, y = .int i ∧ ixN xs.length i = some j ∧ (k (xs.set j x)).wp φ K X := by
  unfold setAt at h
  split at h
  · split at h
    · rename_i i _ j e; exact ⟨i, j, rfl, e, h⟩
    · exact h.elim
  · exact h.elim
def sSet (i : Nat) (b e : E) : S := fun δ => catch_ (e δ) δ fun x => match δ[i]? with
  | some (.own xs) => catch_ (b δ) δ fun y => setAt xs y x fun ys => .ret (.nx (δ.set i (.own ys)))
  | some (.d o) => match ptrOf o with
    | some p => catch_ (b δ) δ fun y => getL p fun xs => setAt xs y x fun ys => .put p (.lst ys) (.ret (.nx δ))
    | none => .bad
  | _ => .bad
theorem Go.putc {φ τ : Sg} {G : Hp} {p : Addr} {cc d : Cell} (l : Le φ τ) (hx : φ p = some cc) : Go φ τ G (put φ p d) (put τ p d) G := ⟨Ex.refl _, fun q e eq => by
    by_cases hq : q = p
    · subst hq; rw [put_same] at eq ⊢; exact eq
    · rw [put_ne hq] at eq ⊢; exact l q e eq, fun q e a b => by
    have hq : q ≠ p := fun z => by rw [z, hx] at b; cases b
    exact ⟨by rw [put_ne hq]; exact a, by rw [put_ne hq]; exact b⟩, fun q hq => .inl (by
    by_cases hqp : q = p
    · rw [hqp, put_same]; exact fun z => nomatch z
    · rw [put_ne hqp]; exact hq)⟩
theorem ms_set {i : Nat} (hb : ME c W tb b) (he : ME c W te e) : MS c W (tAsg te (gSub (tVar i) tb rSetL)) (sSet i b e) := fun φ0 τ0 G0 φ τ δ G H σ D w g s k => by
  refine he τ0 φ τ δ G H σ _ w g.le s (M.wp_mono (fun x φ1 k1 v τ1 G1 H1 w1 g1 r1 => ?_) (fun C fs φ1 k1 => FlR.xq g s k1) _ _ (wp_catch _ _ k))
  have gg := g.trans g1
  have s1 := s.go g1
  cases e1 : δ[i]? with
  | none => rw [e1] at k1; exact k1.elim
  | some sd =>
    rw [e1] at k1
    cases sd with
    | own xs =>
      obtain ⟨o, eo, r⟩ := s1.get e1
      cases r with
      | @own p _ h1 h2 h3 =>
        refine ⟨_, eo, hb τ0 φ1 τ1 δ G1 H1 σ _ w1 g1.le s1 (M.wp_mono (fun y φ2 k2 v2 τ2 G2 H2 w2 g2 r2 => ?_) (fun C fs φ2 k2 => FlR.xq gg s1 k2) _ _ (wp_catch _ _ k1))⟩
        obtain ⟨n, j, rfl, hj, k3⟩ := wp_setAt k2
        cases r2
        have hk := g2.kept p _ h1 h2
        obtain ⟨_, vs, hh, rl⟩ := w2.cell p _ hk.1
        refine ⟨p, vs, n, j, rfl, rfl, hh, by rw [rl.len]; exact hj, ?_⟩
        exact k3 σ (put τ2 p (.lst (xs.set j x))) G2 _ (w2.poke hk.1 (RpL.set (Rp.mono g2.ex _ _ r1) j rl)) ((gg.trans g2).poke h3 hk.2) (own_poke (s1.go g2) eo e1 hk.2 h3)
    | d o1 =>
      dsimp only at k1
      cases ep : ptrOf o1 with
      | none => rw [ep] at k1; exact k1.elim
      | some p =>
        rw [ep] at k1
        obtain ⟨o, eo, r⟩ := s1.get e1
        cases r with
        | d r =>
          have hv := Rp.ptr_of r ep
          subst hv
          refine ⟨_, eo, hb τ0 φ1 τ1 δ G1 H1 σ _ w1 g1.le s1 (M.wp_mono (fun y φ2 k2 v2 τ2 G2 H2 w2 g2 r2 => ?_) (fun C fs φ2 k2 => FlR.xq gg s1 k2) _ _ (wp_catch _ _ k1))⟩
          obtain ⟨xs, hx, k2⟩ := wp_getL k2
          obtain ⟨n, j, rfl, hj, k3⟩ := wp_setAt k2
          cases r2
          obtain ⟨_, vs, hh, rl⟩ := w2.cell p _ (g2.le _ _ hx)
          refine ⟨p, vs, n, j, rfl, rfl, hh, by rw [rl.len]; exact hj, ?_⟩
          have g3 := Go.putc (G := G2) (d := .lst (xs.set j x)) g2.le hx
          exact k3.2 σ _ G2 _ (w2.poke (g2.le _ _ hx) (RpL.set (Rp.mono g2.ex _ _ r1) j rl)) ((gg.trans g2).trans g3) ((s1.go g2).go g3)
    | u => exact k1.elim
    | exn _ _ => exact k1.elim
    | scr _ => exact k1.elim
/-- e.append(x), e a pointer -/
def sAppE (a e : E) : S := fun δ => catch_ (a δ) δ fun y => match ptrOf y with
  | some p => getL p fun _ => catch_ (e δ) δ fun x => getL p fun xs => if xs.length < 10000000 then .put p (.lst (xs ++ [x])) (.ret (.nx δ)) else .bad
  | none => .bad
/-- return x, x a list of one's own or data -/
def sRetV (i : Nat) : S := fun δ => match δ[i]? with
  | some (.own xs) => .ret (.rf xs)
  | some (.d x) => .ret (.rt x)
  | _ => .bad
theorem ms_retV {i : Nat} : MS c W (tRet (tVar i)) (sRetV i) := fun φ0 τ0 G0 φ τ δ G H σ D w g s k => by
  unfold sRetV at k
  cases e1 : δ[i]? with
  | none => rw [e1] at k; exact k.elim
  | some sd =>
    rw [e1] at k
    obtain ⟨o, eo, r⟩ := s.get e1
    cases sd with
    | own xs => cases r with
      | own h1 h2 h3 => exact ⟨_, eo, k _ τ G H w g h3 h1 h2⟩
    | d x => cases r with
      | d r => exact ⟨_, eo, k _ τ G H w g r⟩
    | u => exact k.elim
    | exn _ _ => exact k.elim
    | scr _ => exact k.elim
/-! ### several names at once -/
/-- what stands ready for slots -/
inductive PR (τ : Sg) (φ' τ' : Sg) (G' : Hp) : List V → List SD → Prop
  | nil : PR τ φ' τ' G' [] []
  | d {v : V} {x : PyData} {vs : List V} {ss : List SD} : Rp G' v x → PR τ φ' τ' G' vs ss → PR τ φ' τ' G' (v :: vs) (.d x :: ss)
  | own {p : Addr} {xs : List PyData} {vs : List V} {ss : List SD} : τ p = none → τ' p = some (.lst xs) → φ' p = none → (∀ (j : Nat) (ys : List PyData), ss[j]? = some (SD.own ys) → vs[j]? ≠ some (V.ref p)) → PR τ φ' τ' G' vs ss → PR τ φ' τ' G' (.ref p :: vs) (.own xs :: ss)
abbrev Ps := List SD → M (List SD)
def MP (c : Cn) (W : WX) (ta : TA) (m : Ps) : Prop := ∀ (τ0 φ τ : Sg) (δ : List SD) (G H : Hp) (σ : L2.St) (Q : List V → Hp → Prop), Wd τ G H → Le φ τ → Sl c τ0 φ τ G σ δ →
  (m δ).wp φ (fun ss φ' => ∀ vs τ' G' H', Wd τ' G' H' → Go φ τ G φ' τ' G' → PR τ φ' τ' G' vs ss → Q vs H') (Xq c W φ τ G σ) → ta σ H Q
def pNil : Ps := fun _ => .ret []
def pD (a : E) (r : Ps) : Ps := fun δ => (a δ).bind fun x => (r δ).bind fun ss => .ret (.d x :: ss)
def pF (f : List SD → M (List PyData)) (r : Ps) : Ps := fun δ => (f δ).bind fun xs => (r δ).bind fun ss => .ret (.own xs :: ss)
theorem back_none {φ τ φ1 τ1 φ2 τ2 : Sg} {G G1 G2 H2 : Hp} {p : Addr} {cc : Cell} (g1 : Go φ τ G φ1 τ1 G1) (w2 : Wd τ2 G2 H2) (g2 : Go φ1 τ1 G1 φ2 τ2 G2) (h1 : τ1 p = none) (h2 : τ2 p = some cc) (ho : cc.open_ = true := by rfl) : τ p = none := entry_none g1 w2 g2 h1 h2 ho
theorem PR.back {φ τ φ1 τ1 φ2 τ2 : Sg} {G G1 G2 H2 : Hp} (g1 : Go φ τ G φ1 τ1 G1) (w2 : Wd τ2 G2 H2) (g2 : Go φ1 τ1 G1 φ2 τ2 G2) {vs : List V} {ss : List SD} (h : PR τ1 φ2 τ2 G2 vs ss) : PR τ φ2 τ2 G2 vs ss := by
  induction h with
  | nil => exact .nil
  | d r _ ih => exact .d r ih
  | own h1 h2 h3 h4 _ ih => exact .own (back_none g1 w2 g2 h1 h2) h2 h3 h4 ih
theorem PR.at_ {τ φ' τ' : Sg} {G' : Hp} {vs : List V} {ss : List SD} (h : PR τ φ' τ' G' vs ss) : ∀ (j : Nat) (p : Addr) (ys : List PyData), ss[j]? = some (SD.own ys) → vs[j]? = some (V.ref p) → τ p = none := by
  induction h with
  | nil => intro j p ys e; cases j <;> cases e
  | d r _ ih =>
    intro j p ys e1 e2
    cases j with
    | zero => cases e1
    | succ j => exact ih j p ys (by simpa using e1) (by simpa using e2)
  | own h1 h2 h3 h4 _ ih =>
    intro j p ys e1 e2
    cases j with
    | zero => cases e2; exact h1
    | succ j => exact ih j p ys (by simpa using e1) (by simpa using e2)
theorem mp_nil : MP c W tNil pNil := fun τ0 φ τ δ G H σ Q w l s k => k [] τ G H w (Go.refl l) .nil
theorem mp_d {tr : TA} {r : Ps} (ha : ME c W ta a) (hr : MP c W tr r) : MP c W (tCons ta tr) (pD a r) := fun τ0 φ τ δ G H σ Q w l s k => by
  refine ha τ0 φ τ δ G H σ _ w l s (M.wp_mono (fun x φ1 k1 v τ1 G1 H1 w1 g1 r1 => ?_) (fun C fs φ1 k1 => k1) _ _ ((M.wp_bind _ _).mp k))
  refine hr τ0 φ1 τ1 δ G1 H1 σ _ w1 g1.le (s.go g1) (M.wp_mono (fun ss φ2 k2 => ?_) (fun C fs φ2 k2 => Xq.go g1 k2) _ _ ((M.wp_bind _ _).mp k1))
  intro vs τ2 G2 H2 w2 g2 r2
  exact k2 (v :: vs) τ2 G2 H2 w2 (g1.trans g2) (.d (Rp.mono g2.ex _ _ r1) (r2.back g1 w2 g2))
def setAllS : List Nat → List SD → List SD → List SD
  | i :: is, x :: xs, δ => setAllS is xs (δ.set i x)
  | _, _, δ => δ
def setAllV : List Nat → List V → L2.St → L2.St
  | i :: is, v :: vs, σ => setAllV is vs (σ.set i (some v))
  | _, _, σ => σ
theorem setAll_sl {τ0 τ φ' τ' : Sg} {G' : Hp} {vs : List V} {ss : List SD} (h : PR τ φ' τ' G' vs ss) (h0 : ∀ (p : Addr) (cc : List PyData), τ p = none → τ' p = some (.lst cc) → τ0 p = none) : ∀ (is : List Nat) (σ : L2.St) (δ : List SD), Sl c τ0 φ' τ' G' σ δ →
    (∀ (j : Nat) (p : Addr) (ys zs : List PyData) (i : Nat), ss[j]? = some (SD.own ys) → vs[j]? = some (V.ref p) → δ[i]? = some (SD.own zs) → σ[i]? ≠ some (some (V.ref p))) → Sl c τ0 φ' τ' G' (setAllV is vs σ) (setAllS is ss δ) := by
  induction h with
  | nil => intro is σ δ s _; cases is <;> exact s
  | @d v x vs ss r _ ih =>
    intro is σ δ s hn
    cases is with
    | nil => exact s
    | cons i is =>
      refine ih is _ _ (s.setD r) fun j p ys zs m e1 e2 e3 => ?_
      by_cases hm : i = m
      · subst hm
        have hl : i < δ.length := by simpa using (List.getElem?_eq_some_iff.mp e3).1
        rw [List.getElem?_set_self hl] at e3
        cases e3
      · rw [List.getElem?_set_ne hm] at e3 ⊢
        exact hn (j + 1) p ys zs m (by simpa using e1) (by simpa using e2) e3
  | @own p xs vs ss h1 h2 h3 h4 _ ih =>
    intro is σ δ s hn
    cases is with
    | nil => exact s
    | cons i is =>
      refine ih is _ _ (s.setOwn h2 h3 (h0 p _ h1 h2) fun j ys e => hn 0 p xs ys j rfl rfl e) fun j q ys zs m e1 e2 e3 => ?_
      by_cases hm : i = m
      · subst hm
        have hl : i < δ.length := by simpa using (List.getElem?_eq_some_iff.mp e3).1
        rw [List.getElem?_set_self (by rw [s.len]; exact hl)]
        intro e4
        cases e4
        exact h4 j ys e1 e2
      · rw [List.getElem?_set_ne hm] at e3 ⊢
        exact hn (j + 1) q ys zs m (by simpa using e1) (by simpa using e2) e3
theorem PR.len {τ φ' τ' : Sg} {G' : Hp} {vs : List V} {ss : List SD} (h : PR τ φ' τ' G' vs ss) : vs.length = ss.length := by
  induction h with
  | nil => rfl
  | d _ _ ih => rw [List.length_cons, List.length_cons, ih]
  | own _ _ _ _ _ ih => rw [List.length_cons, List.length_cons, ih]
def sPar (is : List Nat) (r : Ps) : S := fun δ => catch_ (r δ) δ fun ss => if ss.length = is.length then .ret (.nx (setAllS is ss δ)) else .bad
theorem par_all {ta : TA} {r : Ps} {is : List Nat} (hr : MP c W ta r) {φ0 τ0 : Sg} {G0 : Hp} {φ τ : Sg} {δ : List SD} {G H : Hp} {σ : L2.St} {D : Ends} (w : Wd τ G H) (g : Go φ0 τ0 G0 φ τ G) (s : Sl c τ0 φ τ G σ δ)
    (k : (sPar is r δ).wp φ (FlR c W D φ0 τ0 G0) (fun _ _ _ => False)) {Q : List V → Hp → Prop} (hq : ∀ vs H1, vs.length = is.length → D.nx (setAllV is vs σ) H1 → Q vs H1) : ta σ H Q := by
  refine hr τ0 φ τ δ G H σ _ w g.le s (M.wp_mono (fun ss φ1 k1 => ?_) (fun C fs φ1 k1 => FlR.xq g s k1) _ _ (wp_catch _ _ k))
  intro vs τ1 G1 H1 w1 g1 r1
  by_cases hl : ss.length = is.length
  · rw [if_pos hl] at k1
    refine hq vs H1 (by rw [r1.len]; exact hl) (k1 _ τ1 G1 H1 w1 (g.trans g1) (setAll_sl r1 (fun p cc q1 q2 => entry_none g w1 g1 q1 q2) is σ δ (s.go g1) fun j p ys zs i e1 e2 e3 => ?_))
    exact s.newOwn (r1.at_ j p ys e1 e2) i zs e3
  · rw [if_neg hl] at k1; exact k1.elim
theorem ms_par2 {i j : Nat} {ta : TA} {r : Ps} (hr : MP c W ta r) : MS c W (tPar i j ta) (sPar [i, j] r) := fun φ0 τ0 G0 φ τ δ G H σ D w g s k => par_all hr w g s k fun vs H1 hl q => by
  match vs, hl, q with
  | [v, u], _, q => exact ⟨v, u, rfl, q⟩
end
end Mi

/-! MiSimp -/
set_option Elab.async false
set_option linter.all false
set_option maxRecDepth 100000
set_option maxHeartbeats 2000000
/-! ## reckoning with mirrors -/
namespace Mi
open PySem L2 Eg
section
variable {α β : Type} {a : α} {f : α → M β} {δ : List SD} {k : α → M Fl} {φ : Sg} {K : α → Sg → Prop} {X : XC}
theorem e_some : M.of (some a) = .ret a := rfl
theorem e_none : M.of (none : Option α) = .bad := rfl
theorem e_cret : catch_ (M.ret a) δ k = k a := rfl
theorem e_cexc {C : String} {fs : List (Str × PyData)} : catch_ (M.exc C fs : M α) δ k = .ret (.xx C fs δ) := rfl
theorem e_cbad : catch_ (M.bad : M α) δ k = .bad := rfl
theorem e_nret : (M.ret a).nox = .ret a := rfl
theorem e_nexc {C : String} {fs : List (Str × PyData)} : (M.exc C fs : M α).nox = .bad := rfl
theorem e_nbad : (M.bad : M α).nox = .bad := rfl
theorem e_asB {b : Bool} : asB (.bool b) = .ret b := rfl
theorem e_true {γ : Sort _} {x y : γ} : (if true = true then x else y) = x := rfl
theorem e_false {γ : Sort _} {x y : γ} : (if false = true then x else y) = y := rfl
theorem w_new {c : Cell} {m : Addr → M α} : (M.new c m).wp φ K X = ∀ p, φ p = none → (m p).wp (put φ p c) K X := rfl
theorem w_bind {m : M β} {g : β → M α} : (m.bind g).wp φ K X = m.wp φ (fun a φ1 => (g a).wp φ1 K X) X := propext (M.wp_bind m φ)
theorem nox_iff : ∀ (m : M α) (φ : Sg), m.nox.wp φ K X ↔ m.wp φ K (fun _ _ _ => False)
  | .ret a, φ => Iff.rfl
  | .exc C fs, φ => Iff.rfl
  | .bad, φ => Iff.rfl
  | .new c k, φ => ⟨fun h p hp => (nox_iff (k p) _).mp (h p hp), fun h p hp => (nox_iff (k p) _).mpr (h p hp)⟩
  | .get p k, φ => ⟨fun ⟨c, e, h⟩ => ⟨c, e, (nox_iff (k c) _).mp h⟩, fun ⟨c, e, h⟩ => ⟨c, e, (nox_iff (k c) _).mpr h⟩⟩
  | .put p c k, φ => ⟨fun ⟨e, h⟩ => ⟨e, (nox_iff k _).mp h⟩, fun ⟨e, h⟩ => ⟨e, (nox_iff k _).mpr h⟩⟩
  | .any k, φ => ⟨fun h o vs => (nox_iff (k o vs) _).mp (h o vs), fun h o vs => (nox_iff (k o vs) _).mpr (h o vs)⟩
theorem w_nox {m : M α} : m.nox.wp φ K X = m.wp φ K (fun _ _ _ => False) := propext (nox_iff m φ)
end
theorem catch_iff {α : Type} {δ : List SD} {k : α → M Fl} {K : Fl → Sg → Prop} {X : XC} : ∀ (m : M α) (φ : Sg), (catch_ m δ k).wp φ K X ↔ m.wp φ (fun a φ1 => (k a).wp φ1 K X) (fun C fs φ1 => K (.xx C fs δ) φ1)
  | .ret a, φ => Iff.rfl
  | .exc C fs, φ => Iff.rfl
  | .bad, φ => Iff.rfl
  | .new c k, φ => ⟨fun h p hp => (catch_iff (k p) _).mp (h p hp), fun h p hp => (catch_iff (k p) _).mpr (h p hp)⟩
  | .get p k, φ => ⟨fun ⟨c, e, h⟩ => ⟨c, e, (catch_iff (k c) _).mp h⟩, fun ⟨c, e, h⟩ => ⟨c, e, (catch_iff (k c) _).mpr h⟩⟩
  | .put p c k, φ => ⟨fun ⟨e, h⟩ => ⟨e, (catch_iff k _).mp h⟩, fun ⟨e, h⟩ => ⟨e, (catch_iff k _).mpr h⟩⟩
  | .any k, φ => ⟨fun h o vs => (catch_iff (k o vs) _).mp (h o vs), fun h o vs => (catch_iff (k o vs) _).mpr (h o vs)⟩
theorem w_catch {α : Type} {δ : List SD} {k : α → M Fl} {φ : Sg} {K : Fl → Sg → Prop} {X : XC} {m : M α} : (catch_ m δ k).wp φ K X = m.wp φ (fun a φ1 => (k a).wp φ1 K X) (fun C fs φ1 => K (.xx C fs δ) φ1) := propext (catch_iff m φ)
theorem w_getL {α : Type} {p : Addr} {k : List PyData → M α} {φ : Sg} {K : α → Sg → Prop} {X : XC} {xs : List PyData} (h : φ p = some (.lst xs)) : (getL p k).wp φ K X = (k xs).wp φ K X := by
  apply propext
  constructor
  · intro hh
    obtain ⟨ys, e, h2⟩ := wp_getL hh
    rw [h] at e
    cases e
    exact h2
  · exact fun h2 => ⟨_, h, h2⟩
/-- what is wanted of a mirror; not to be unfolded -/
@[irreducible] def Wp {α : Type} (m : M α) (φ : Sg) (K : α → Sg → Prop) (X : XC) : Prop := m.wp φ K X
theorem Wp_eq {α : Type} {m : M α} {φ : Sg} {K : α → Sg → Prop} {X : XC} : Wp m φ K X = m.wp φ K X := by unfold Wp; rfl
theorem Wp_fun {α β : Type} {g : α → M β} {K : β → Sg → Prop} {X : XC} : (fun a φ1 => Wp (g a) φ1 K X) = fun a φ1 => (g a).wp φ1 K X := by funext a φ1; exact Wp_eq
section
variable {α β : Type} {a : α} {f : α → M β} {δ : List SD} {k : α → M Fl} {φ : Sg} {K : α → Sg → Prop} {X : XC}
theorem W_ret : Wp (M.ret a) φ K X = K a φ := by rw [Wp_eq]; rfl
theorem W_exc {C : String} {fs : List (Str × PyData)} : Wp (M.exc C fs : M α) φ K X = X C fs φ := by rw [Wp_eq]; rfl
theorem W_bad : Wp (M.bad : M α) φ K X = False := by rw [Wp_eq]; rfl
theorem W_put {p : Addr} {c : Cell} {m : M α} : Wp (M.put p c m) φ K X = (φ p ≠ none ∧ Wp m (put φ p c) K X) := by rw [Wp_eq, Wp_eq]; rfl
theorem W_new {c : Cell} {m : Addr → M α} : Wp (M.new c m) φ K X = ∀ p, φ p = none → Wp (m p) (put φ p c) K X := by
  rw [Wp_eq, w_new]
  apply propext
  constructor
  · intro h p hp; rw [Wp_eq]; exact h p hp
  · intro h p hp; have := h p hp; rwa [Wp_eq] at this
theorem W_bind {m : M β} {g : β → M α} : Wp (m.bind g) φ K X = Wp m φ (fun a φ1 => Wp (g a) φ1 K X) X := by rw [Wp_fun, Wp_eq, Wp_eq, w_bind]
theorem W_nox {m : M α} : Wp m.nox φ K X = Wp m φ K (fun _ _ _ => False) := by rw [Wp_eq, Wp_eq, w_nox]
theorem W_ite {c : Prop} [Decidable c] {x y : M α} : Wp (if c then x else y) φ K X = if c then Wp x φ K X else Wp y φ K X := by split <;> rfl
theorem W_catch {k : α → M Fl} {K : Fl → Sg → Prop} {m : M α} : Wp (catch_ m δ k) φ K X = Wp m φ (fun a φ1 => Wp (k a) φ1 K X) (fun C fs φ1 => K (.xx C fs δ) φ1) := by rw [Wp_fun, Wp_eq, Wp_eq, w_catch]
theorem W_getL {p : Addr} {k : List PyData → M α} {xs : List PyData} (h : φ p = some (.lst xs)) : Wp (getL p k) φ K X = Wp (k xs) φ K X := by rw [Wp_eq, Wp_eq, w_getL h]
theorem W_getLp {p : Addr} {k : List PyData → M α} {xs : List PyData} : Wp (getL p k) (put φ p (.lst xs)) K X = Wp (k xs) (put φ p (.lst xs)) K X := W_getL put_same
theorem W_mono {K' : α → Sg → Prop} {X' : XC} {m : M α} (h : Wp m φ K X) (hk : ∀ a φ, K a φ → K' a φ) (hx : ∀ C fs φ, X C fs φ → X' C fs φ) : Wp m φ K' X' := by
  rw [Wp_eq] at h ⊢
  exact M.wp_mono hk hx _ _ h
end
theorem ptr_none {x : PyData} (h : isPtr x = false) : ptrOf x = none := by
  cases e : ptrOf x with
  | none => rfl
  | some p => rw [ptrOf_some e] at h; cases h
theorem e_seen {α : Type} {x : PyData} {k : PyData → M α} (h : isPtr x = false) : seen x k = k x := by
  unfold seen
  rw [ptr_none h]
  dsimp only
  rw [if_neg (by rw [h]; decide)]
theorem e_seenP {α : Type} {p : Addr} {k : PyData → M α} : seen (ptrD p) k = getL p fun xs => k (.list xs) := by
  unfold seen
  rw [ptrOf_ptr]
theorem p_bool {b : Bool} : ptrOf (.bool b) = none := rfl
theorem p_int {i : Int} : ptrOf (.int i) = none := rfl
theorem p_none : ptrOf .none = none := rfl
theorem p_str {s : Str} : ptrOf (.str s) = none := rfl
theorem p_list {xs : List PyData} : ptrOf (.list xs) = none := rfl
theorem p_tuple {xs : List PyData} : ptrOf (.tuple xs) = none := rfl
theorem atI_0 {α : Type} {x : α} {xs : List α} : atI (x :: xs) 0 = some x := atI_nat (j := 0) rfl
theorem atI_1 {α : Type} {x y : α} {xs : List α} : atI (x :: y :: xs) 1 = some y := atI_nat (j := 1) rfl
theorem atI_2 {α : Type} {x y z : α} {xs : List α} : atI (x :: y :: z :: xs) 2 = some z := atI_nat (j := 2) rfl
theorem atI_3 {α : Type} {x y z a : α} {xs : List α} : atI (x :: y :: z :: a :: xs) 3 = some a := atI_nat (j := 3) rfl
theorem atI_4 {α : Type} {x y z a b : α} {xs : List α} : atI (x :: y :: z :: a :: b :: xs) 4 = some b := atI_nat (j := 4) rfl
theorem atI_5 {α : Type} {x y z a b c : α} {xs : List α} : atI (x :: y :: z :: a :: b :: c :: xs) 5 = some c := atI_nat (j := 5) rfl
theorem isInt_int (i : Int) : Eg.isInt (.int i) = true := rfl
theorem isInt_bool (b : Bool) : Eg.isInt (.bool b) = true := rfl
theorem isInt_none  : Eg.isInt .none = false := rfl
theorem isInt_str (s : Str) : Eg.isInt (.str s) = false := rfl
theorem isInt_list (xs : List PyData) : Eg.isInt (.list xs) = false := rfl
theorem isInt_tup (xs : List PyData) : Eg.isInt (.tuple xs) = false := rfl
theorem isInt_dct (es : List (PyData × PyData)) : Eg.isInt (.dict es) = false := rfl
theorem isBool_int (i : Int) : Eg.isBool (.int i) = false := rfl
theorem isBool_bool (b : Bool) : Eg.isBool (.bool b) = true := rfl
theorem isBool_none  : Eg.isBool .none = false := rfl
theorem isBool_str (s : Str) : Eg.isBool (.str s) = false := rfl
theorem isBool_list (xs : List PyData) : Eg.isBool (.list xs) = false := rfl
theorem isBool_tup (xs : List PyData) : Eg.isBool (.tuple xs) = false := rfl
theorem isBool_dct (es : List (PyData × PyData)) : Eg.isBool (.dict es) = false := rfl
theorem isStr_int (i : Int) : Eg.isStr (.int i) = false := rfl
theorem isStr_bool (b : Bool) : Eg.isStr (.bool b) = false := rfl
theorem isStr_none  : Eg.isStr .none = false := rfl
theorem isStr_str (s : Str) : Eg.isStr (.str s) = true := rfl
theorem isStr_list (xs : List PyData) : Eg.isStr (.list xs) = false := rfl
theorem isStr_tup (xs : List PyData) : Eg.isStr (.tuple xs) = false := rfl
theorem isStr_dct (es : List (PyData × PyData)) : Eg.isStr (.dict es) = false := rfl
theorem isLst_int (i : Int) : Eg.isLst (.int i) = false := rfl
theorem isLst_bool (b : Bool) : Eg.isLst (.bool b) = false := rfl
theorem isLst_none  : Eg.isLst .none = false := rfl
theorem isLst_str (s : Str) : Eg.isLst (.str s) = false := rfl
theorem isLst_list (xs : List PyData) : Eg.isLst (.list xs) = true := rfl
theorem isLst_tup (xs : List PyData) : Eg.isLst (.tuple xs) = false := rfl
theorem isLst_dct (es : List (PyData × PyData)) : Eg.isLst (.dict es) = false := rfl
theorem isTup_int (i : Int) : Eg.isTup (.int i) = false := rfl
theorem isTup_bool (b : Bool) : Eg.isTup (.bool b) = false := rfl
theorem isTup_none  : Eg.isTup .none = false := rfl
theorem isTup_str (s : Str) : Eg.isTup (.str s) = false := rfl
theorem isTup_list (xs : List PyData) : Eg.isTup (.list xs) = false := rfl
theorem isTup_tup (xs : List PyData) : Eg.isTup (.tuple xs) = true := rfl
theorem isTup_dct (es : List (PyData × PyData)) : Eg.isTup (.dict es) = false := rfl
theorem isDct_int (i : Int) : Eg.isDct (.int i) = false := rfl
theorem isDct_bool (b : Bool) : Eg.isDct (.bool b) = false := rfl
theorem isDct_none  : Eg.isDct .none = false := rfl
theorem isDct_str (s : Str) : Eg.isDct (.str s) = false := rfl
theorem isDct_list (xs : List PyData) : Eg.isDct (.list xs) = false := rfl
theorem isDct_tup (xs : List PyData) : Eg.isDct (.tuple xs) = false := rfl
theorem isDct_dct (es : List (PyData × PyData)) : Eg.isDct (.dict es) = true := rfl
theorem isNone_int (i : Int) : Eg.isNone (.int i) = false := rfl
theorem isNone_bool (b : Bool) : Eg.isNone (.bool b) = false := rfl
theorem isNone_none  : Eg.isNone .none = true := rfl
theorem isNone_str (s : Str) : Eg.isNone (.str s) = false := rfl
theorem isNone_list (xs : List PyData) : Eg.isNone (.list xs) = false := rfl
theorem isNone_tup (xs : List PyData) : Eg.isNone (.tuple xs) = false := rfl
theorem isNone_dct (es : List (PyData × PyData)) : Eg.isNone (.dict es) = false := rfl
theorem isPtr_int (i : Int) : Eg.isPtr (.int i) = false := rfl
theorem isPtr_bool (b : Bool) : Eg.isPtr (.bool b) = false := rfl
theorem isPtr_none  : Eg.isPtr .none = false := rfl
theorem isPtr_str (s : Str) : Eg.isPtr (.str s) = false := rfl
theorem isPtr_list (xs : List PyData) : Eg.isPtr (.list xs) = false := rfl
theorem isPtr_tup (xs : List PyData) : Eg.isPtr (.tuple xs) = false := rfl
theorem isPtr_d0 : Eg.isPtr (.dict []) = false := rfl
theorem fAdd_i {i j : Int} : fAdd (.int i) (.int j) = some (.int (i + j)) := rfl
theorem fAdd_l {xs ys : List PyData} : fAdd (.list xs) (.list ys) = if xs.length + ys.length ≤ 10000000 then some (.list (xs ++ ys)) else none := rfl
theorem fAdd_t {xs ys : List PyData} : fAdd (.tuple xs) (.tuple ys) = if xs.length + ys.length ≤ 10000000 then some (.tuple (xs ++ ys)) else none := rfl
theorem fSub_i {i j : Int} : fSub (.int i) (.int j) = some (.int (i - j)) := rfl
theorem fMul_i {i j : Int} : fMul (.int i) (.int j) = if MulOk i j then some (.int (i * j)) else none := rfl
theorem fMul_l {xs : List PyData} {n : Int} : fMul (.list xs) (.int n) = if 0 ≤ n ∧ n ≤ 1000000 ∧ xs.length * n.toNat ≤ 10000000 then some (.list (List.replicate n.toNat xs).flatten) else none := rfl
theorem fMod_i {i j : Int} : fMod (.int i) (.int j) = if 0 < j then some (.int (i % j)) else none := rfl
theorem fDiv_i {i j : Int} : fDiv (.int i) (.int j) = if j ≠ 0 ∧ j.natAbs.log2 < 9000 then some (.int (i.fdiv j)) else none := rfl
theorem fPow_i {i j : Int} : fPow (.int i) (.int j) = if 0 ≤ j ∧ j ≤ 1000000 ∧ i.natAbs < 2 ^ 64 then some (.int (i ^ j.toNat)) else none := rfl
theorem fCmp_i {p : Int → Int → Bool} {i j : Int} : fCmp p (.int i) (.int j) = some (.bool (p i j)) := rfl
theorem fEq_i {i j : Int} : fEq (.int i) (.int j) = some (.bool (decide (i = j))) := rfl
theorem fEq_s {i j : Str} : fEq (.str i) (.str j) = some (.bool (decide (i = j))) := rfl
theorem fNe_i {i j : Int} : fNe (.int i) (.int j) = some (.bool (!decide (i = j))) := rfl
theorem fNe_s {i j : Str} : fNe (.str i) (.str j) = some (.bool (!decide (i = j))) := rfl
theorem fIsN_n {x : PyData} : fIsN x .none = some (.bool (isNone x)) := rfl
theorem fNotN_n {x : PyData} : fNotN x .none = some (.bool (!isNone x)) := rfl
theorem fIx_l {xs : List PyData} {i : Int} : fIx (.list xs) (.int i) = atI xs i := rfl
theorem fIx_t {xs : List PyData} {i : Int} : fIx (.tuple xs) (.int i) = atI xs i := rfl
theorem fNeg_i {i : Int} : fNeg (.int i) = some (.int (-i)) := rfl
theorem fLen_l {xs : List PyData} : fLen (.list xs) = some (.int xs.length) := rfl
theorem fLen_t {xs : List PyData} : fLen (.tuple xs) = some (.int xs.length) := rfl
theorem fAbs_i {i : Int} : fAbs (.int i) = some (.int (if i < 0 then -i else i)) := rfl
theorem fInt_i {i : Int} : fInt (.int i) = some (.int i) := rfl
theorem fInt_b {b : Bool} : fInt (.bool b) = some (.int (if b then 1 else 0)) := rfl
theorem fMax2_i {i j : Int} : fMax2 (.int i) (.int j) = some (.int (if j > i then j else i)) := rfl
theorem fMin2_i {i j : Int} : fMin2 (.int i) (.int j) = some (.int (if j < i then j else i)) := rfl
theorem fGcd_i {i j : Int} : fGcd (.int i) (.int j) = some (.int ((Nat.gcd i.natAbs j.natAbs : Nat) : Int)) := rfl
theorem items_l {xs : List PyData} : Eg.itemsOf (.list xs) = some xs := rfl
theorem items_t {xs : List PyData} : Eg.itemsOf (.tuple xs) = some xs := rfl
theorem sliced_l {xs : List PyData} {l h : Option Int} : Eg.sliced (.list xs) l h = some (.list (Eg.cutD xs l h)) := rfl
theorem sliced_t {xs : List PyData} {l h : Option Int} : Eg.sliced (.tuple xs) l h = some (.tuple (Eg.cutD xs l h)) := rfl
section
variable {α : Type} {k : PyData → M α}
theorem sn_int {i : Int} : seen (.int i) k = k (.int i) := rfl
theorem sn_bool {b : Bool} : seen (.bool b) k = k (.bool b) := rfl
theorem sn_none  : seen .none k = k .none := rfl
theorem sn_str {s : Str} : seen (.str s) k = k (.str s) := rfl
theorem sn_list {xs : List PyData} : seen (.list xs) k = k (.list xs) := rfl
theorem sn_tup {xs : List PyData} : seen (.tuple xs) k = k (.tuple xs) := rfl
theorem sn_d0  : seen (.dict []) k = k (.dict []) := rfl
end
theorem ixN_0 {n : Nat} : ixN (n + 1) 0 = some 0 := by unfold ixN; rw [if_pos (by decide), if_pos (by omega)]; rfl
theorem ixN_1 {n : Nat} : ixN (n + 2) 1 = some 1 := by unfold ixN; rw [if_pos (by decide), if_pos (by omega)]; rfl
theorem ixN_2 {n : Nat} : ixN (n + 3) 2 = some 2 := by unfold ixN; rw [if_pos (by decide), if_pos (by omega)]; rfl
theorem ixN_3 {n : Nat} : ixN (n + 4) 3 = some 3 := by unfold ixN; rw [if_pos (by decide), if_pos (by omega)]; rfl
theorem ixN_4 {n : Nat} : ixN (n + 5) 4 = some 4 := by unfold ixN; rw [if_pos (by decide), if_pos (by omega)]; rfl
theorem ixN_5 {n : Nat} : ixN (n + 6) 5 = some 5 := by unfold ixN; rw [if_pos (by decide), if_pos (by omega)]; rfl
/-- what a def does, from its statements -/
theorem mdef_wp {n j : Nat} {b : S} {as : List AV} {φ : Sg} {K : Rt → Sg → Prop} {X : XC} (h : Wp (b (as.map sdOf ++ List.replicate (n - as.length) .u)) φ (fun fl φ1 => Wp (toRt [] fl) φ1 K X) (fun _ _ _ => False)) (hl : as.length = j := by rfl) : Wp (mDef n j b as) φ K X := by
  unfold mDef
  rw [if_pos hl, W_bind, W_nox]
  exact h
theorem toRt_nx {δ : List SD} : toRt [] (.nx δ) = .ret (.d .none) := rfl
theorem toRt_rt {x : PyData} : toRt [] (.rt x) = .ret (.d x) := rfl
theorem toRt_rf {x : List PyData} : toRt [] (.rf x) = .ret (.f x) := rfl
theorem toRt_xx {C : String} {fs : List (Str × PyData)} {δ : List SD} : toRt [] (.xx C fs δ) = .exc C fs := rfl
theorem dat_nil : dat [] = some [] := rfl
theorem dat_cons {x : PyData} {as : List AV} : dat (.d x :: as) = (dat as).map (x :: ·) := rfl
theorem rdat_d {x : PyData} : Rt.data (.d x) = x := rfl
theorem rdat_f {x : List PyData} : Rt.data (.f x) = .list x := rfl
theorem sd_d {x : PyData} : sdOf (.d x) = .d x := rfl
theorem sd_s {ns : List Int} : sdOf (.scr ns) = .scr ns := rfl
theorem setT_n {i : Nat} {x : PyData} {δ : List SD} : setT (.n i) x δ = some (δ.set i (.d x)) := rfl
theorem for_nil {tg : Tg} {b : S} {δ : List SD} : forGo tg b [] δ = .ret (.nx δ) := rfl
end Mi

/-! MiShow -/
set_option Elab.async false
set_option linter.all false
set_option maxRecDepth 100000
set_option maxHeartbeats 2000000
/-! ## data that is shown -/
namespace Mi
open PySem L2 Eg
/-- no pointer in it, short enough to be shown -/
structure Sh (d : PyData) (k m : Nat) : Prop where
  fl : flat d = true
  sh : d.showable = true
  ls : d.leavesShort 500 = true
  dp : d.depth ≤ k
  bk : d.bulk ≤ m
theorem Sh.mono {d : PyData} {k m k' m' : Nat} (h : Sh d k m) (h1 : k ≤ k') (h2 : m ≤ m') : Sh d k' m' := ⟨h.fl, h.sh, h.ls, Nat.le_trans h.dp h1, Nat.le_trans h.bk h2⟩
theorem sh_none {k m : Nat} : Sh .none k m := ⟨rfl, by simp [PyData.showable], by simp [PyData.leavesShort], by simp [PyData.depth], by simp [PyData.bulk]⟩
theorem sh_bool {b : Bool} {k m : Nat} : Sh (.bool b) k m := ⟨rfl, by simp [PyData.showable], by simp [PyData.leavesShort], by simp [PyData.depth], by simp [PyData.bulk]⟩
theorem sh_int {i : Int} {k m : Nat} (h : i.natAbs < 2 ^ 1600) : Sh (.int i) k m := by
  refine ⟨rfl, ?_, ?_, by simp [PyData.depth], by simp [PyData.bulk]⟩
  · simp only [PyData.showable, decide_eq_true_eq]
    exact Nat.lt_trans (PySem.Flt.log2_lt_of (by decide) h) (by decide)
  · simp only [PyData.leavesShort, decide_eq_true_eq]
    rw [PyData.shown_int, ofString_length]
    exact Nat.le_trans (int_text_length_le10 (k := 490) (by decide) (Nat.lt_of_lt_of_le h (by decide +kernel))) (by decide)
theorem sh_str {x : Str} {k m : Nat} (h : x.cps.size ≤ m) (hc : (x.cps.toList.all fun c => decide (c < 16 ^ 8)) = true) : Sh (.str x) k m :=
  ⟨rfl, by simp [PyData.showable], by simpa only [PyData.leavesShort] using hc, by simp [PyData.depth], by simpa only [PyData.bulk] using h⟩
theorem sh_all {xs : List PyData} {k m : Nat} (h : ∀ x, x ∈ xs → Sh x k m) : flatL xs = true ∧ PyData.showableAll xs = true ∧ PyData.leavesShortAll 500 xs = true ∧ PyData.depthAll xs ≤ k ∧ PyData.bulkAll xs ≤ xs.length * (m + 1) := by
  induction xs with
  | nil => exact ⟨rfl, by simp [PyData.showableAll], by simp [PyData.leavesShortAll], by simp [PyData.depthAll], by simp [PyData.bulkAll]⟩
  | cons x r ih =>
    obtain ⟨h0, h1, h2, h3, h4⟩ := ih fun y hy => h y (List.mem_cons_of_mem _ hy)
    obtain ⟨g0, g1, g2, g3, g4⟩ := h x (by simp)
    refine ⟨by unfold flatL; rw [g0, h0]; rfl, by simp only [PyData.showableAll, g1, h1, Bool.and_self], by simp only [PyData.leavesShortAll, g2, h2, Bool.and_self], ?_, ?_⟩
    · simp only [PyData.depthAll]; omega
    · simp only [PyData.bulkAll, List.length_cons]
      rw [Nat.add_mul, Nat.one_mul]
      omega
theorem sh_list {xs : List PyData} {k m n : Nat} (h : ∀ x, x ∈ xs → Sh x k m) (hn : xs.length ≤ n) : Sh (.list xs) (k + 1) (n * (m + 1)) := by
  obtain ⟨h0, h1, h2, h3, h4⟩ := sh_all h
  exact ⟨by unfold flat; exact h0, by simpa only [PyData.showable] using h1, by simpa only [PyData.leavesShort] using h2, by simp only [PyData.depth]; omega, by simp only [PyData.bulk]; exact Nat.le_trans h4 (Nat.mul_le_mul_right _ hn)⟩
theorem sh_tuple {xs : List PyData} {k m n : Nat} (h : ∀ x, x ∈ xs → Sh x k m) (hn : xs.length ≤ n) : Sh (.tuple xs) (k + 1) (n * (m + 1)) := by
  obtain ⟨h0, h1, h2, h3, h4⟩ := sh_all h
  exact ⟨by unfold flat; exact h0, by simpa only [PyData.showable] using h1, by simpa only [PyData.leavesShort] using h2, by simp only [PyData.depth]; omega, by simp only [PyData.bulk]; exact Nat.le_trans h4 (Nat.mul_le_mul_right _ hn)⟩
theorem sh_dict0 {k m : Nat} : Sh (.dict []) (k + 1) m := ⟨rfl, by simp [PyData.showable, PyData.showableKv], by simp [PyData.leavesShort, PyData.leavesShortKv], by simp [PyData.depth, PyData.depthKv], by simp [PyData.bulk, PyData.bulkKv]⟩
theorem Sh.fits {d : PyData} (h : Sh d 50 30000) : d.shown.length ≤ sizeLine := by
  have := PyData.shown_le_bulk 500 (by decide) d h.ls
  have hb := h.bk
  have hs : sizeLine = 16777216 := by decide
  rw [hs]; omega
theorem shows_sh {y : PyData} (h : Sh y 50 30000) : shows y = .ret (.str y.shown) := if_pos ⟨h.sh, h.dp, h.fits⟩
theorem deep_sh {y : PyData} {k m : Nat} (h : Sh y k m) : deep y = .ret y := deep_flat y h.fl
end Mi

/-! MiLaw -/
set_option Elab.async false
set_option linter.all false
set_option maxRecDepth 100000
set_option maxHeartbeats 2000000
/-! ## what all laws draw by -/
namespace Mi
open PySem L2 Eg
def tk : List AV → M Rt := mDef 4 2 ((sSeq (sIf (tAn (tV (xIx (xV 0) (xC (.int 1)))) (tV (x2 (fCmp fun i j => decide (j < i)) (xIx (xV 0) (xC (.int 0))) (xC (.int 0))))) (sSeq (sAsg (.n 3) (x2 fMod (x1 fInt (xIx (xV 0) (xC (.int 0)))) (xV 1)))
  (sSeq (sSet 0 (xC (.int 0)) (x2 fDiv (xIx (xV 0) (xC (.int 0))) (xV 1)))
  (sRet (xV 3)))) sNext)
  (sSeq (sSet 0 (xC (.int 3)) (x2 fAdd (xIx (xV 0) (xC (.int 3))) (xC (.int 1))))
  (sSeq (sAsg (.n 2) (x2 fMod (x1 fInt (x2 fPow (x2 fAdd (x2 fAdd (xIx (xV 0) (xC (.int 2))) (x2 fMul (xC (.int 15485863)) (xIx (xV 0) (xC (.int 3))))) (xC (.int 179424673))) (xC (.int 5)))) (xC (.int 2147483647))))
  (sRet (x2 fMod (x2 fDiv (x2 fMod (x1 fInt (x2 fPow (x2 fAdd (x2 fMul (xV 2) (xC (.int 48271))) (x2 fMul (xC (.int 104729)) (xIx (xV 0) (xC (.int 3))))) (xC (.int 3)))) (xC (.int 2147483587))) (xC (.int 64))) (xV 1)))))))
def bxm : List AV → M Rt := mDef 1 1 ((sRet (xNew (fLst (aC (x1 fAbs (xV 0)) (aC (x2 (fCmp fun i j => decide (j ≤ i)) (x1 fAbs (xV 0)) (x2 fPow (xC (.int 10)) (xC (.int 18)))) (aC (x2 fMod (x1 fInt (x1 fAbs (xV 0))) (xC (.int 2147483629))) (aC (xC (.int 0)) aNil))))))))
def clm : List AV → M Rt := mDef 2 2 ((sRet (xIf (tV (x2 (fCmp fun i j => decide (i < j)) (xV 1) (xLenV 0))) (xIxV 0 (xV 1)) (x2 fAdd (x2 fMul (xC (.int 6007)) (xV 1)) (x2 fMod (x1 fSum (xSlV 0 oNo (oAt (xC (.int 1))))) (xC (.int 1000033)))))))
local macro_rules | `(tactic| fail "mi") => `(tactic| try simp (config := { decide := false, zeta := true }) only [Mi.sSeq, Mi.sIf, Mi.sRet, Mi.sRetF, Mi.sRetN, Mi.sRetV, Mi.sNext, Mi.sAsg, Mi.sAsgF, Mi.sAsgC, Mi.sAsgC0, Mi.sDrop, Mi.sRaise, Mi.sFrz, Mi.sApp, Mi.sAppE, Mi.sSet, Mi.sPar, Mi.setAllS, Mi.pNil, Mi.pD, Mi.pF, Mi.setT_n, Mi.setAt, Mi.xC, Mi.xV, Mi.x1, Mi.x2, Mi.xIf, Mi.xAnd, Mi.xOr, Mi.xNot, Mi.tV, Mi.tAn, Mi.tOrr, Mi.tNo, Mi.tTrue, Mi.aNil, Mi.aC, Mi.aScr, Mi.aKw, Eg.swap2, Mi.xTup, Mi.xCall, Mi.xCall0, Mi.ofF, Mi.fLst, Mi.fList, Mi.xNew, Mi.xIsi, Mi.xLen, Mi.xLenV, Mi.xIx, Mi.xIxV, Mi.xSl, Mi.xSlV, Mi.oNo, Mi.oAt, Mi.xTuple, Mi.xChain, Mi.xBy, Mi.xRepr, Mi.unF, Mi.fLc, Mi.wipeD, Mi.sTry, Mi.hGo, Mi.iRng1M, Mi.iRng2M, Mi.M.ret_bind, Mi.M.exc_bind, Mi.M.bad_bind, Mi.e_some, Mi.e_none, Mi.e_cret, Mi.e_cexc, Mi.e_cbad, Mi.e_nret, Mi.e_nexc, Mi.e_nbad, Mi.e_asB, Mi.e_true, Mi.e_false, Mi.W_ite, Mi.W_ret, Mi.W_exc, Mi.W_bad, Mi.W_bind, Mi.W_nox, Mi.W_catch, Mi.W_getLp, Mi.W_put, Mi.toRt_nx, Mi.toRt_rt, Mi.toRt_rf, Mi.toRt_xx, Mi.dat_nil, Mi.dat_cons, Mi.short, Mi.rdat_d, Mi.rdat_f, Mi.sd_d, Mi.sd_s, Mi.sn_int, Mi.sn_bool, Mi.sn_none, Mi.sn_str, Mi.sn_list, Mi.sn_tup, Mi.sn_d0, Mi.e_seenP, Mi.ptrOf_ptr, Mi.p_bool, Mi.p_int, Mi.p_none, Mi.p_str, Mi.p_list, Mi.p_tuple, Mi.sFor, Mi.iSeqM, Mi.ixN_0, Mi.ixN_1, Mi.ixN_2, Mi.ixN_3, Mi.ixN_4, Mi.ixN_5, Mi.atI_0, Mi.atI_1, Mi.atI_2, Mi.atI_3, Mi.atI_4, Mi.atI_5, Mi.isInt_int, Mi.isInt_bool, Mi.isInt_none, Mi.isInt_str, Mi.isInt_list, Mi.isInt_tup, Mi.isInt_dct, Mi.isBool_int, Mi.isBool_bool, Mi.isBool_none, Mi.isBool_str, Mi.isBool_list, Mi.isBool_tup, Mi.isBool_dct, Mi.isStr_int, Mi.isStr_bool, Mi.isStr_none, Mi.isStr_str, Mi.isStr_list, Mi.isStr_tup, Mi.isStr_dct, Mi.isLst_int, Mi.isLst_bool, Mi.isLst_none, Mi.isLst_str, Mi.isLst_list, Mi.isLst_tup, Mi.isLst_dct, Mi.isTup_int, Mi.isTup_bool, Mi.isTup_none, Mi.isTup_str, Mi.isTup_list, Mi.isTup_tup, Mi.isTup_dct, Mi.isDct_int, Mi.isDct_bool, Mi.isDct_none, Mi.isDct_str, Mi.isDct_list, Mi.isDct_tup, Mi.isDct_dct, Mi.isNone_int, Mi.isNone_bool, Mi.isNone_none, Mi.isNone_str, Mi.isNone_list, Mi.isNone_tup, Mi.isNone_dct, Mi.isPtr_int, Mi.isPtr_bool, Mi.isPtr_none, Mi.isPtr_str, Mi.isPtr_list, Mi.isPtr_tup, Mi.isPtr_d0, Mi.fAdd_i, Mi.fAdd_l, Mi.fAdd_t, Mi.fSub_i, Mi.fMul_i, Mi.fMul_l, Mi.fMod_i, Mi.fDiv_i, Mi.fPow_i, Mi.fCmp_i, Mi.fEq_i, Mi.fEq_s, Mi.fNe_i, Mi.fNe_s, Mi.fIsN_n, Mi.fNotN_n, Mi.fIx_l, Mi.fIx_t, Mi.fNeg_i, Mi.fLen_l, Mi.fLen_t, Mi.fAbs_i, Mi.fInt_i, Mi.fInt_b, Mi.fMax2_i, Mi.fMin2_i, Mi.fGcd_i, Mi.items_l, Mi.items_t, Mi.sliced_l, Mi.sliced_t, List.map_cons, List.map_nil, List.length_cons, List.length_nil, List.nil_append, List.cons_append, List.replicate, List.replicate_succ, List.replicate_zero, List.zip_cons_cons, List.zip_nil_right, Int.cast_ofNat_Int, Nat.reduceAdd, Nat.reduceSub, Nat.zero_add, Nat.reduceLeDiff, Nat.reduceEqDiff, List.getElem?_cons_zero, List.getElem?_cons_succ, List.getElem?_nil, List.set_cons_zero, List.set_cons_succ, List.set_nil, ite_true, ite_false, if_true, if_false, Option.map_some, Option.map_none, Option.some.injEq, Bool.not_true, Bool.not_false, decide_eq_true_eq, decide_true, decide_false, Int.reduceLT, Int.reduceLE, Int.reduceEq, Int.reduceNeg, Int.reduceAdd, Int.reduceSub, Int.reduceMul, Int.reducePow, Int.reduceToNat, Int.reduceEq, ne_eq, not_true_eq_false, not_false_eq_true, true_and, and_true, false_and, and_false, reduceCtorEq, eq_self])
theorem log2_lt {n k : Nat} (h : n < 2 ^ k) (hk : 0 < k) : n.log2 < k := PySem.Flt.log2_lt_of hk h
theorem mulOk_of {i j : Int} (a b : Nat) (ha : i.natAbs < 2 ^ a) (hb : j.natAbs < 2 ^ b) (h0 : 0 < a) (h1 : 0 < b) (h : a + b ≤ 1000000) : MulOk i j := by
  have x := log2_lt ha h0
  have y := log2_lt hb h1
  unfold MulOk
  omega
/-- a box with j draws left at the least -/
def Box (φ : Sg) (p : Addr) (j : Nat) : Prop := ∃ (g : Int) (f : Bool) (c n : Int), φ p = some (.lst [.int g, .bool f, .int c, .int n]) ∧ 0 ≤ g ∧ 0 ≤ c ∧ c < 2147483647 ∧ 0 ≤ n ∧ n + j ≤ 1000000000000
/-- only p's cell differs -/
def Same (φ φ' : Sg) (p : Addr) : Prop := ∀ q, q ≠ p → φ' q = φ q
theorem Same.refl (φ : Sg) (p : Addr) : Same φ φ p := fun _ _ => rfl
theorem Same.trans {φ φ1 φ2 : Sg} {p : Addr} (a : Same φ φ1 p) (b : Same φ1 φ2 p) : Same φ φ2 p := fun q h => (b q h).trans (a q h)
theorem same_put {φ : Sg} {p : Addr} {c : Cell} : Same φ (put φ p c) p := fun q h => put_ne h
theorem tk_ok {φ : Sg} {p : Addr} {j : Nat} {many : Int} {K : Rt → Sg → Prop} {X : XC} (hb : Box φ p (j + 1)) (h0 : 0 < many) (h1 : many < 1073741824) (k : ∀ r φ', 0 ≤ r → r < many → Box φ' p j → Same φ φ' p → K (.d (.int r)) φ') : Wp (tk [.d (ptrD p), .d (.int many)]) φ K X := by
  obtain ⟨g, f, c, n, hp, g0, c0, c1, n0, n1⟩ := hb
  refine mdef_wp ?_
  fail "mi"
  rw [W_getL hp]
  fail "mi"
  have hmany : many ≠ 0 ∧ many.natAbs.log2 < 9000 := ⟨by omega, Nat.lt_trans (log2_lt (k := 30) (by omega) (by decide)) (by decide)⟩
  by_cases hfg : f = true ∧ 0 < g
  · obtain ⟨hf, hg⟩ := hfg
    rw [if_pos hf, W_getL hp]
    fail "mi"
    rw [if_pos hg, W_getL hp]
    fail "mi"
    rw [if_pos h0]
    fail "mi"
    rw [W_getL hp]
    fail "mi"
    rw [if_pos hmany]
    fail "mi"
    rw [W_getL hp]
    fail "mi"
    exact ⟨(by rw [hp]; exact (fun z => nomatch z)), k _ _ (Int.emod_nonneg _ (by omega)) (Int.emod_lt_of_pos _ h0) ⟨_, f, c, n, put_same, by rw [Int.fdiv_eq_ediv_of_nonneg _ (by omega)]; exact Int.ediv_nonneg g0 (by omega), c0, c1, n0, by omega⟩ same_put⟩
  · by_cases hf : f = true
    · have hg : ¬ 0 < g := fun hg => hfg ⟨hf, hg⟩
      rw [if_pos hf, W_getL hp]
      fail "mi"
      rw [if_neg hg, W_getL hp]
      fail "mi"
      rw [W_getL hp]
      fail "mi"
      refine ⟨(by rw [hp]; exact (fun z => nomatch z)), ?_⟩
      rw [if_pos (mulOk_of (i := 15485863) (j := n + 1) 24 41 (by decide) (by show (n + 1).natAbs < 2199023255552; omega) (by decide) (by decide) (by decide))]
      fail "mi"
      rw [if_pos (show (c + 15485863 * (n + 1) + 179424673).natAbs < 2 ^ 64 by show _ < 18446744073709551616; omega)]
      fail "mi"
      have m0 := Int.emod_nonneg ((c + 15485863 * (n + 1) + 179424673) ^ 5) (show (2147483647 : Int) ≠ 0 by decide)
      have m1 := Int.emod_lt_of_pos ((c + 15485863 * (n + 1) + 179424673) ^ 5) (show (0 : Int) < 2147483647 by decide)
      generalize (c + 15485863 * (n + 1) + 179424673) ^ 5 % 2147483647 = m at m0 m1 ⊢
      rw [if_pos (mulOk_of (i := m) (j := 48271) 31 16 (by show _ < 2147483648; omega) (by decide) (by decide) (by decide) (by decide))]
      fail "mi"
      rw [if_pos (mulOk_of (i := 104729) (j := n + 1) 17 41 (by decide) (by show (n + 1).natAbs < 2199023255552; omega) (by decide) (by decide) (by decide))]
      fail "mi"
      rw [if_pos (show (m * 48271 + 104729 * (n + 1)).natAbs < 2 ^ 64 by show _ < 18446744073709551616; omega)]
      fail "mi"
      rw [if_pos (show (64 : Int).natAbs.log2 < 9000 by decide)]
      fail "mi"
      rw [if_pos h0]
      fail "mi"
      exact k _ _ (Int.emod_nonneg _ (by omega)) (Int.emod_lt_of_pos _ h0) ⟨g, f, c, n + 1, put_same, g0, c0, c1, by omega, by omega⟩ same_put
    · rw [if_neg hf, W_getL hp]
      fail "mi"
      rw [W_getL hp]
      fail "mi"
      refine ⟨(by rw [hp]; exact (fun z => nomatch z)), ?_⟩
      rw [if_pos (mulOk_of (i := 15485863) (j := n + 1) 24 41 (by decide) (by show (n + 1).natAbs < 2199023255552; omega) (by decide) (by decide) (by decide))]
      fail "mi"
      rw [if_pos (show (c + 15485863 * (n + 1) + 179424673).natAbs < 2 ^ 64 by show _ < 18446744073709551616; omega)]
      fail "mi"
      have m0 := Int.emod_nonneg ((c + 15485863 * (n + 1) + 179424673) ^ 5) (show (2147483647 : Int) ≠ 0 by decide)
      have m1 := Int.emod_lt_of_pos ((c + 15485863 * (n + 1) + 179424673) ^ 5) (show (0 : Int) < 2147483647 by decide)
      generalize (c + 15485863 * (n + 1) + 179424673) ^ 5 % 2147483647 = m at m0 m1 ⊢
      rw [if_pos (mulOk_of (i := m) (j := 48271) 31 16 (by show _ < 2147483648; omega) (by decide) (by decide) (by decide) (by decide))]
      fail "mi"
      rw [if_pos (mulOk_of (i := 104729) (j := n + 1) 17 41 (by decide) (by show (n + 1).natAbs < 2199023255552; omega) (by decide) (by decide) (by decide))]
      fail "mi"
      rw [if_pos (show (m * 48271 + 104729 * (n + 1)).natAbs < 2 ^ 64 by show _ < 18446744073709551616; omega)]
      fail "mi"
      rw [if_pos (show (64 : Int).natAbs.log2 < 9000 by decide)]
      fail "mi"
      rw [if_pos h0]
      fail "mi"
      exact k _ _ (Int.emod_nonneg _ (by omega)) (Int.emod_lt_of_pos _ h0) ⟨g, f, c, n + 1, put_same, g0, c0, c1, by omega, by omega⟩ same_put
theorem bxm_ok {φ : Sg} {g : Int} {K : Rt → Sg → Prop} {X : XC} (k : ∀ p φ', φ p = none → Box φ' p 1000000000000 → Same φ φ' p → K (.d (ptrD p)) φ') : Wp (bxm [.d (.int g)]) φ K X := by
  refine mdef_wp ?_
  fail "mi"
  rw [if_pos (show (10 : Int).natAbs < 2 ^ 64 by decide)]
  fail "mi"
  rw [W_new]
  intro p hp
  fail "mi"
  refine k p _ hp ⟨_, _, _, 0, put_same, ?_, ?_, ?_, by decide, by decide⟩ same_put
  · split <;> omega
  · exact Int.emod_nonneg _ (by decide)
  · exact Int.lt_trans (Int.emod_lt_of_pos _ (by decide)) (by decide)
theorem atI_some {α : Type} {xs : List α} {k : Int} (h0 : 0 ≤ k) (h1 : k < xs.length) : ∃ x, atI xs k = some x ∧ x ∈ xs := by
  obtain ⟨j, rfl⟩ := Int.eq_ofNat_of_zero_le h0
  have hj : j < xs.length := by omega
  exact ⟨xs[j], atI_nat (List.getElem?_eq_getElem hj), List.getElem_mem hj⟩
theorem fSum_ints {ns : List Int} : fSum (.list (ns.map .int)) = some (.int ns.sum) := by
  show (ints? (ns.map .int)).bind _ = _
  rw [ints_of_map]
  rfl
theorem fAll_bools {bs : List Bool} : fAll (.list (bs.map .bool)) = some (.bool (bs.all id)) := by
  show (bools? (bs.map .bool)).map _ = _
  rw [bools_of_map]
  rfl
theorem cut1 {xs : List PyData} : cutD xs none (some 1) = xs.take 1 := by
  unfold cutD
  rw [HT.sIx_none, show (some (1 : Int)) = some ((1 : Nat) : Int) from rfl, HT.sIx_nat, List.drop_zero, Nat.sub_zero]
  cases xs with
  | nil => rfl
  | cons x xs => rw [Nat.min_eq_left (by simp)]
theorem clm_ok {φ : Sg} {ns : List Int} {i : Int} {K : Rt → Sg → Prop} {X : XC} (h0 : 0 ≤ i) (h1 : i < 1000) (k : ∀ z, K (.d (.int z)) φ) : Wp (clm [.scr ns, .d (.int i)]) φ K X := by
  refine mdef_wp ?_
  fail "mi"
  by_cases hi : i < ns.length
  · rw [if_pos hi]
    obtain ⟨z, hz, _⟩ := atI_some h0 hi
    rw [hz]
    fail "mi"
    exact k z
  · rw [if_neg hi]
    rw [if_pos (mulOk_of (i := 6007) (j := i) 13 10 (by decide) (by show _ < 1024; omega) (by decide) (by decide) (by decide)), cut1, ← List.map_take, fSum_ints]
    fail "mi"
    exact k _
/-- what a turn of a loop must bring about -/
def Turn (I : List SD → Sg → Prop) (KF : Fl → Sg → Prop) : Fl → Sg → Prop
  | .nx δ, φ => I δ φ
  | .ct δ, φ => I δ φ
  | .bk δ, φ => KF (.nx δ) φ
  | .rt x, φ => KF (.rt x) φ
  | .rf x, φ => KF (.rf x) φ
  | .xx C fs δ, φ => KF (.xx C fs δ) φ
section
variable {I : List SD → Sg → Prop} {KF : Fl → Sg → Prop} {δ : List SD} {φ : Sg}
theorem turn_nx : Turn I KF (.nx δ) φ = I δ φ := rfl
theorem turn_rt {x : PyData} : Turn I KF (.rt x) φ = KF (.rt x) φ := rfl
end
theorem for_cons {tg : Tg} {b : S} {x : PyData} {xs : List PyData} {δ : List SD} : forGo tg b (x :: xs) δ = (M.of (setT tg x δ)).bind fun δ2 => (b δ2).bind fun fl => match fl with
    | .nx δ3 => forGo tg b xs δ3
    | .ct δ3 => forGo tg b xs δ3
    | .bk δ3 => .ret (.nx δ3)
    | .rt x => .ret (.rt x)
    | .rf x => .ret (.rf x)
    | .xx C fs δ3 => .ret (.xx C fs δ3) := rfl
theorem for_wp {tg : Tg} {b : S} {KF : Fl → Sg → Prop} {X : XC} (I : List PyData → List SD → Sg → Prop)
    (step : ∀ x xs δ φ, I (x :: xs) δ φ → ∃ δ2, setT tg x δ = some δ2 ∧ Wp (b δ2) φ (Turn (I xs) KF) X) (done : ∀ δ φ, I [] δ φ → KF (.nx δ) φ) : ∀ (ds : List PyData) (δ : List SD) (φ : Sg), I ds δ φ → Wp (forGo tg b ds δ) φ KF X
  | [], δ, φ, h => by rw [for_nil, W_ret]; exact done δ φ h
  | x :: xs, δ, φ, h => by
    obtain ⟨δ2, e, hw⟩ := step x xs δ φ h
    rw [for_cons, e, e_some, M.ret_bind, W_bind]
    refine W_mono hw (fun fl φ1 k => ?_) fun _ _ _ k => k
    cases fl with
    | nx δ3 => exact for_wp I step done xs δ3 φ1 k
    | ct δ3 => exact for_wp I step done xs δ3 φ1 k
    | bk δ3 => dsimp only; rw [W_ret]; exact k
    | rt x => dsimp only; rw [W_ret]; exact k
    | rf x => dsimp only; rw [W_ret]; exact k
    | xx C fs δ3 => dsimp only; rw [W_ret]; exact k
theorem lc_nil {tg : Tg} {t : B} {e : E} {δ : List SD} : lcGo tg t e δ [] = .ret [] := rfl
theorem lc_cons {tg : Tg} {t : B} {e : E} {δ : List SD} {x : PyData} {xs : List PyData} : lcGo tg t e δ (x :: xs) = (M.of (setT tg x δ)).bind fun δ2 => (t δ2).nox.bind fun b => if b = true then (e δ2).nox.bind fun y => (lcGo tg t e δ xs).bind fun ys => .ret (y :: ys) else lcGo tg t e δ xs := rfl
/-- [e for x in xs if t], t and e reckon and do nothing else -/
theorem lc_pure {tg : Tg} {t : B} {e : E} {δ : List SD} {φ : Sg} {X : XC} (f : PyData → PyData) (q : PyData → Bool) : ∀ (ds : List PyData) (K : List PyData → Sg → Prop),
    (∀ x, x ∈ ds → ∃ δ2, setT tg x δ = some δ2 ∧ (∀ K' : Bool → Sg → Prop, K' (q x) φ → Wp (t δ2) φ K' (fun _ _ _ => False)) ∧ (q x = true → ∀ K' : PyData → Sg → Prop, K' (f x) φ → Wp (e δ2) φ K' (fun _ _ _ => False))) → K ((ds.filter q).map f) φ → Wp (lcGo tg t e δ ds) φ K X
  | [], K, h, k => by rw [lc_nil, W_ret]; exact k
  | x :: xs, K, h, k => by
    obtain ⟨δ2, e1, h1, h2⟩ := h x List.mem_cons_self
    rw [lc_cons, e1, e_some, M.ret_bind, W_bind, W_nox]
    refine h1 _ ?_
    cases hq : q x with
    | true =>
      rw [if_pos rfl, W_bind, W_nox]
      refine h2 hq _ ?_
      rw [W_bind]
      refine lc_pure f q xs _ (fun y hy => h y (List.mem_cons_of_mem _ hy)) ?_
      rw [W_ret]
      rw [List.filter_cons_of_pos hq, List.map_cons] at k
      exact k
    | false =>
      rw [if_neg (by decide)]
      rw [List.filter_cons_of_neg (by rw [hq]; decide)] at k
      exact lc_pure f q xs K (fun y hy => h y (List.mem_cons_of_mem _ hy)) k
end Mi

/-! EgLowCount -/
set_option Elab.async false
set_option linter.all false
set_option maxRecDepth 100000
set_option maxHeartbeats 2000000
/-! ### an own error with the field count -/
namespace PySem
namespace EgX
open PySem.W PySem.Calls PyProof.Rows PySem.HandSPX
def iA_count (p1 p2 : Pos) : Arguments :=
  { posonlyargs := [], args := [{ arg := "self", annotation := none, pos := p1 }, { arg := "count", annotation := none, pos := p2 }],
    vararg := none, kwonlyargs := [], kw_defaults := [], kwarg := none, defaults := [] }
def iB_count (q1 q2 q3 q4 : Pos) : List Stmt := [.Assign [.Attribute (.Name "self" q1) "count" q2] (.Name "count" q3) q4]
def iS_count : Scope :=
  { kind := .function, names := [(PySem.Str.ofString "self", .local), (PySem.Str.ofString "count", .local)], isGenerator := false, isCoroutine := false, more := [] }
/-- the class cn at C under G, its __init__ at fI -/
structure Low_count (K : Frag) (mg : Str → Option Value) (cn qn : Str) (C G fI : Addr) : Prop where
  gC : mg cn = some (.ref C)
  cls : ∃ nm q N bs sn sub ab col dd k0 k1 k2 k3 k5, K.lookup C = some (excClassObj nm q C N bs (.ref G :: PySem.ESX.exTail) true sn sub ab col dd k0 k1 k2 k3 k5 "Exception.__new__")
  sa : findIn K (.ref C) "__setattr__" = some (some (.builtin "object.__setattr__"))
  ga : findIn K (.ref C) "__getattribute__" = some (some (.builtin "BaseException.__getattribute__"))
  gg : findIn K (.ref C) "__getattr__" = some none
  noN : findIn K (.ref C) "count" = some none
  iC : findIn K (.ref C) "__init__" = some (some (.ref fI))
  tC : typeIn K (.ref fI) = some (.type "function")
  kC : keepIn K (.ref C) = true
  exC : subIn K (.ref C) (.type "BaseException") = some true
  tyC : typeIn K (.ref C) = some (.type "type")
  hdC : hasDictIn K C = true
  te : exmOne K (.ref C) (.ref C) = some true
  fn : ∃ (oc : Value) (od : Option Addr) (doc pm : Value) (an : Option Addr) (cdv ct : Value) (osl : Array (Option Value)) (p1 p2 q1 q2 q3 q4 : Pos),
    K.lookup fI = some ⟨oc, od, .func (fnOf "__init__" qn (iA_count p1 p2) (iB_count q1 q2 q3 q4) iS_count .none .none doc pm an cdv ct), osl⟩ ∧ codeIn K cdv qn = true
structure InitEnd_count (h h' : Heap) (x C dx t1 : Addr) (v : Value) : Prop where
  keep : ∀ b o, b ≠ x → h.get? b = some o → h'.get? b = some o
  obj : h'.get? x = some { cls := .ref C, dict := some dx, data := .fields #[.ref t1, .none, .none, .none, .bool false, .none] }
  dbig : h.objs.size ≤ dx
  dne : dx ≠ x
  ns : h'.Ns1 dx (fun y => if y = "count" then some v else none)
structure Made_count (h h' : Heap) (e C d : Addr) (v : Value) : Prop where
  keep : ∀ b o, h.get? b = some o → h'.get? b = some o
  new : h.objs.size ≤ e
  obj : ∃ oe vs, h'.get? e = some oe ∧ oe.cls = .ref C ∧ oe.dict = some d ∧ oe.data = .fields vs ∧ vs[1]? = some .none
  dbig : h.objs.size ≤ d
  dne : d ≠ e
  ns : h'.Ns1 d (fun y => if y = "count" then some v else none)
section
variable {prog : Program} {w : World} {A : Around} {E : Value → Shared → Prop} {R : Result → Shared → Prop} {s : Shared} {K : Frag} {mg : Str → Option Value} {C G fI : Addr} {cn qn : Str}
end
end EgX
end PySem
namespace L2
open PySem PySem.Spec PyProof.Rows
section
variable {X : Cx} {C G fI : Addr} {cn qn : Str}
end
end L2

/-! MiNew -/
set_option Elab.async false
set_option linter.all false
set_option maxRecDepth 100000
set_option maxHeartbeats 2000000
/-! ## more rules: enumerate, divmod, lists made by + and *, walks over lists that all see, == of what stands now, the field count -/
namespace Mi
open PySem L2 Eg
def enumD : Nat → List PyData → List PyData
  | _, [] => []
  | n, x :: xs => .tuple [.int n, x] :: enumD (n + 1) xs
def iEnumM (a : As) : List SD → M (List PyData) := fun δ => (a δ).bind fun as => M.of (match as with
  | [.d (.list xs)] => some (enumD 0 xs)
  | _ => none)
section
variable {c : Cn} {W : WX} {te ta tb tc : TE} {t : TT} {a b e : E} {KF : PySem.W.Frag} {ts tu tw : TS}
/-! divmod -/
/-! + and * that make a list of one's own -/
def fCat (a b : E) : List SD → M (List PyData) := fun δ => (a δ).bind fun x => (b δ).bind fun y => M.of (match x, y with
  | .list xs, .list ys => if xs.length + ys.length ≤ 10000000 then some (xs ++ ys) else none
  | _, _ => none)
def fRep (a b : E) : List SD → M (List PyData) := fun δ => (a δ).bind fun x => (b δ).bind fun y => M.of (match x, y with
  | .list xs, .int n => if 0 ≤ n ∧ n ≤ 1000000 ∧ xs.length * n.toNat ≤ 10000000 then some (List.replicate n.toNat xs).flatten else none
  | _, _ => none)
/-! == of what stands now -/
def isScal : PyData → Bool
  | .int _ => true
  | .bool _ => true
  | .str _ => true
  | .none => true
  | _ => false
theorem Rp.scal {G G' : Hp} {v : V} {x : PyData} (h : isScal x = true) (r : Rp G v x) : Rp G' v x := by
  cases r with
  | int i => exact .int i
  | bl b => exact .bl b
  | str s => exact .str s
  | non => exact .non
  | _ => cases h
def x2d (f : PyData → PyData → Option PyData) (a b : E) : E := fun δ => (a δ).bind fun x => (b δ).bind fun y => (deep x).bind fun x' => (deep y).bind fun y' => M.of (match f x' y' with
  | some z => if isScal z = true then some z else none
  | none => none)
theorem bridgeH {τ : Sg} {G H G' H' : Hp} {n : Nat} (w : Wd τ G H) (w' : Eg.Wd noB G' H' n) (g : Eg.Go noB H H G' H') : Wd τ G H' := ⟨fun a o e => g.keep a o (fun h => h) (w.ex a o e), fun p c e => by
  obtain ⟨g0, r⟩ := w.cell p c e
  have z : H p ≠ none := r.there
  cases eh : H p with
  | none => exact absurd eh z
  | some o => exact ⟨g0, r.same (by rw [g.keep p o (fun h => h) eh, eh])⟩⟩
/-! walks over a list that all see -/
open Classical in
noncomputable def lcGoP (p : Addr) (L : List PyData) (tg : Tg) (t : B) (e : E) (δ : List SD) : List PyData → M (List PyData)
  | [] => getL p fun ys => if ys = L then .ret [] else .bad
  | x :: xs => getL p fun ys => if ys = L then (M.of (setT tg x δ)).bind fun δ2 => (t δ2).nox.bind fun b => if b = true then (e δ2).nox.bind fun y => (lcGoP p L tg t e δ xs).bind fun ys => .ret (y :: ys) else lcGoP p L tg t e δ xs else .bad
noncomputable def fLcD (a : E) (tg : Tg) (t : B) (e : E) (vs : List Nat) : List SD → M (List PyData) := fun δ => (a δ).bind fun x => match ptrOf x with
  | some p => getL p fun ds => if ds.length ≤ 1000000 then lcGoP p ds tg t e (wipeD δ vs) ds else .bad
  | none => (M.of (itemsOf x)).bind fun ds => if ds.length ≤ 1000000 then lcGo tg t e (wipeD δ vs) ds else .bad

/-- the turns of a comprehension, as its rule asks them -/
def LcTurns (J : It) (g : TG) (tt : TT) (te : TE) (vs : List Nat) (σ : L2.St) (H1 : Hp) (Q : VK) : Prop := ∀ D, H1 D = none → ∃ W : Nat → Nat → Hp → Prop, (∃ m, W 0 m (upd H1 D (.lst []))) ∧ ∀ i m H, W i m H →
  (J.stop i H ∧ Q (.ref D) H) ∨ (J.go i H ∧ ∃ Nx : Hp → Prop, (∀ H', Nx H' → ∃ m', m' < m ∧ W (i + 1) m' H') ∧ ∀ x H', J.yld i H x H' → g x (wipe σ vs) H' fun σ2 H2 => wipe σ2 vs = wipe σ vs ∧ tt σ2 H2 fun b H3 =>
    if b = true then te σ2 H3 fun y H4 => ∃ acc, H4 D = some (.lst acc) ∧ acc.length < sizeLine ∧ Nx (upd H4 D (.lst (acc ++ [y]))) else Nx H3)
theorem lc_turns {tg : Tg} {tt : TT} {te : TE} {t : B} {e : E} {vs : List Nat} (hv : tg.ix = vs) (ht : MT c W tt t) (he : ME c W te e) {τ0 φ τ : Sg} {δ : List SD} {G H : Hp} {σ : L2.St} {Q : VK} (w : Wd τ G H) (l : Le φ τ) (s : Sl c τ0 φ τ G σ δ)
    {J : It} {ds : List PyData} {φ1 τ1 : Sg} {G1 H1 : Hp} (w1 : Wd τ1 G1 H1) (g1 : Go φ τ G φ1 τ1 G1) (hJ : ItR G1 J ds) (k1 : (if ds.length ≤ 1000000 then lcGo tg t e (wipeD δ vs) ds else .bad).wp φ1 (fun ys φ2 => ∀ p τ' G' H', Wd τ' G' H' → Go φ τ G φ2 τ' G' → τ p = none → τ' p = some (.lst ys) → φ2 p = none → Q (.ref p) H') (Xq c W φ τ G σ)) : LcTurns J (gOf KF tg) tt te vs σ H1 Q := by
  by_cases hn : ¬ ds.length ≤ 1000000
  · rw [if_neg hn] at k1; exact k1.elim
  have hn := Decidable.of_not_not hn
  rw [if_pos hn] at k1
  intro D hD
  have tD : τ D = none := Go.tn w1 g1 hD
  have fD : φ1 D = none := g1.le.none (w1.tn hD)
  let P : Nat → Hp → Prop := fun i H' => ∃ φ' τ' G' acc, i ≤ ds.length ∧ acc.length ≤ i ∧ Wd τ' G' H' ∧ Go φ τ G φ' τ' G' ∧ Ex G1 G' ∧ τ' D = some (.lst acc) ∧ φ' D = none ∧
    (lcGo tg t e (wipeD δ vs) (ds.drop i)).wp φ' (fun ys φ2 => ∀ p τ' G' H', Wd τ' G' H' → Go φ τ G φ2 τ' G' → τ p = none → τ' p = some (.lst (acc ++ ys)) → φ2 p = none → Q (.ref p) H') (Xq c W φ τ G σ)
  refine ⟨fun i m H' => m = ds.length - i ∧ P i H', ⟨_, rfl, φ1, put τ1 D (.lst []), G1, [], Nat.zero_le _, Nat.le_refl _, w1.fresh hD .nil, g1.trans (Go.fresh w1 g1.le hD), Ex.refl _, put_same, fD, k1⟩, ?_⟩
  rintro i m H' ⟨rfl, φ', τ', G', acc, hl, ha, w', g', ex', hT, hF, k'⟩
  obtain ⟨hst, hgo⟩ := hJ τ' G' H' w' ex'
  cases hx : ds[i]? with
  | none =>
    have ei : i = ds.length := Nat.le_antisymm hl (List.getElem?_eq_none_iff.mp hx)
    subst ei
    rw [List.drop_length] at k'
    exact .inl ⟨hst, k' D τ' G' H' w' g' tD (by rw [List.append_nil]; exact hT) hF⟩
  | some x =>
    have hil : i < ds.length := (List.getElem?_eq_some_iff.mp hx).1
    have hd : ds.drop i = x :: ds.drop (i + 1) := (List.drop_eq_getElem?_toList_append (l := ds) (i := i)).trans (by rw [hx]; rfl)
    rw [hd] at k'
    obtain ⟨h1, h2⟩ := hgo i x hx
    refine .inr ⟨h1, P (i + 1), fun H2 p => ⟨ds.length - (i + 1), by omega, rfl, p⟩, fun v H2 y => ?_⟩
    obtain ⟨G2, w2, ex2, r2⟩ := h2 v H2 y
    obtain ⟨δ2, hs, k2⟩ := wp_of ((M.wp_bind _ _).mp k')
    have g2 : Go φ' τ' G' φ' τ' G2 := ⟨ex2, g'.le, fun _ _ a b => ⟨a, b⟩, fun _ h => .inl h⟩
    have s2 := ((s.go g').go g2).wipe vs
    refine gOf_ok (KF := KF) w2 s2 r2 hs fun σ2 ho s3 => ?_
    refine ⟨wipe_only ho (fun j hj => by rw [hv] at hj; exact hj), ?_⟩
    refine ht τ0 φ' τ' δ2 G2 H2 σ2 _ w2 g'.le s3 (M.wp_mono (fun b φ3 k3 τ3 G3 H3 w3 g3 => ?_) (fun _ _ _ h => h.elim) _ _ (M.wp_nox (X' := fun _ _ _ => False) _ _ ((M.wp_bind _ _).mp k2)))
    have hT3 := g3.kept D _ hT hF
    have gg3 := (g'.trans g2).trans g3
    have ex3 : Ex G1 G3 := (ex'.trans ex2).trans g3.ex
    cases b with
    | false =>
      rw [if_neg (by decide)] at k3
      exact ⟨φ3, τ3, G3, acc, hil, Nat.le_succ_of_le ha, w3, gg3, ex3, hT3.1, hT3.2, k3⟩
    | true =>
      rw [if_pos rfl] at k3
      refine he τ0 φ3 τ3 δ2 G3 H3 σ2 _ w3 g3.le (s3.go g3) (M.wp_mono (fun z φ4 k4 u τ4 G4 H4 w4 g4 r4 => ?_) (fun _ _ _ h => h.elim) _ _ (M.wp_nox (X' := fun _ _ _ => False) _ _ ((M.wp_bind _ _).mp k3)))
      have hT4 := g4.kept D _ hT3.1 hT3.2
      obtain ⟨g0, vs4, hh, rl⟩ := w4.cell D _ hT4.1
      refine ⟨vs4, hh, by rw [rl.len]; exact Nat.lt_of_le_of_lt ha (Nat.lt_of_lt_of_le hil (Nat.le_trans hn (by decide))), φ4, put τ4 D (.lst (acc ++ [z])), G4, acc ++ [z], hil, by rw [List.length_append]; exact Nat.add_le_add_right ha 1, w4.poke hT4.1 (RpL.app rl (.cons r4 .nil)), (gg3.trans g4).poke tD hT4.2, ex3.trans g4.ex, put_same, hT4.2, ?_⟩
      refine M.wp_mono (fun ys φ5 k5 => ?_) (fun _ _ _ h => h) _ _ ((M.wp_bind _ _).mp k4)
      intro p τ5 G5 H5 w5 g5 h5 h6 h7
      exact k5 p τ5 G5 H5 w5 g5 h5 (by rw [h6, List.append_assoc]; rfl) h7
theorem lc_turnsP {tg : Tg} {tt : TT} {te : TE} {t : B} {e : E} {vs : List Nat} (hv : tg.ix = vs) (ht : MT c W tt t) (he : ME c W te e) {τ0 φ τ : Sg} {δ : List SD} {G H : Hp} {σ : L2.St} {Q : VK} (w : Wd τ G H) (l : Le φ τ) (s : Sl c τ0 φ τ G σ δ)
    {p0 : Addr} {ds : List PyData} {φ1 τ1 : Sg} {G1 H1 : Hp} (w1 : Wd τ1 G1 H1) (g1 : Go φ τ G φ1 τ1 G1) (k1 : (if ds.length ≤ 1000000 then lcGoP p0 ds tg t e (wipeD δ vs) ds else .bad).wp φ1 (fun ys φ2 => ∀ p τ' G' H', Wd τ' G' H' → Go φ τ G φ2 τ' G' → τ p = none → τ' p = some (.lst ys) → φ2 p = none → Q (.ref p) H') (Xq c W φ τ G σ)) : LcTurns (Itl KF p0) (gOf KF tg) tt te vs σ H1 Q := by
  by_cases hn : ¬ ds.length ≤ 1000000
  · rw [if_neg hn] at k1; exact k1.elim
  have hn := Decidable.of_not_not hn
  rw [if_pos hn] at k1
  intro D hD
  have tD : τ D = none := Go.tn w1 g1 hD
  have fD : φ1 D = none := g1.le.none (w1.tn hD)
  let P : Nat → Hp → Prop := fun i H' => ∃ φ' τ' G' acc, i ≤ ds.length ∧ acc.length ≤ i ∧ Wd τ' G' H' ∧ Go φ τ G φ' τ' G' ∧ Ex G1 G' ∧ τ' D = some (.lst acc) ∧ φ' D = none ∧
    (lcGoP p0 ds tg t e (wipeD δ vs) (ds.drop i)).wp φ' (fun ys φ2 => ∀ p τ' G' H', Wd τ' G' H' → Go φ τ G φ2 τ' G' → τ p = none → τ' p = some (.lst (acc ++ ys)) → φ2 p = none → Q (.ref p) H') (Xq c W φ τ G σ)
  refine ⟨fun i m H' => m = ds.length - i ∧ P i H', ⟨_, rfl, φ1, put τ1 D (.lst []), G1, [], Nat.zero_le _, Nat.le_refl _, w1.fresh hD .nil, g1.trans (Go.fresh w1 g1.le hD), Ex.refl _, put_same, fD, k1⟩, ?_⟩
  rintro i m H' ⟨rfl, φ', τ', G', acc, hl, ha, w', g', ex', hT, hF, k'⟩
  have hstep : φ' p0 = some (.lst ds) → (Itl KF p0).stop ds.length H' ∧ ∀ (i : Nat) (x : PyData), ds[i]? = some x → (Itl KF p0).go i H' ∧ ∀ v H2, (Itl KF p0).yld i H' v H2 → ∃ G2, Wd τ' G2 H2 ∧ Ex G' G2 ∧ Rp G2 v x := fun hp => by
    obtain ⟨g0, us, hh, rl⟩ := w'.cell p0 _ (g'.le _ _ hp)
    have q : SqL KF H' p0 us := SqL.of hh
    refine ⟨⟨us, q, by rw [rl.len]; exact Nat.le_refl _⟩, fun i x hx => ?_⟩
    obtain ⟨v, e, rv⟩ := rl.get hx
    refine ⟨⟨us, v, q, e⟩, fun v2 H2 ⟨e1, e2⟩ => ?_⟩
    subst e1
    have e3 := e2 us q
    rw [e] at e3
    cases e3
    exact ⟨G', w', Ex.refl _, rv⟩
  cases hx : ds[i]? with
  | none =>
    have ei : i = ds.length := Nat.le_antisymm hl (List.getElem?_eq_none_iff.mp hx)
    subst ei
    rw [List.drop_length] at k'
    unfold lcGoP at k'
    obtain ⟨ys, hys, kk⟩ := wp_getL k'
    clear k'
    by_cases hq : ys = ds
    case neg => rw [if_neg hq] at kk; exact kk.elim
    rw [if_pos hq] at kk
    have hq := hq.symm
    subst hq
    obtain ⟨hst, hgo⟩ := hstep hys
    exact .inl ⟨hst, kk D τ' G' H' w' g' tD (by rw [List.append_nil]; exact hT) hF⟩
  | some x =>
    have hil : i < ds.length := (List.getElem?_eq_some_iff.mp hx).1
    have hd : ds.drop i = x :: ds.drop (i + 1) := (List.drop_eq_getElem?_toList_append (l := ds) (i := i)).trans (by rw [hx]; rfl)
    rw [hd] at k'
    unfold lcGoP at k'
    obtain ⟨ys, hys, kk⟩ := wp_getL k'
    clear k'
    by_cases hq : ys = ds
    case neg => rw [if_neg hq] at kk; exact kk.elim
    rw [if_pos hq] at kk
    have hq := hq.symm
    subst hq
    obtain ⟨hst, hgo⟩ := hstep hys
    obtain ⟨h1, h2⟩ := hgo i x hx
    refine .inr ⟨h1, P (i + 1), fun H2 p => ⟨ds.length - (i + 1), by omega, rfl, p⟩, fun v H2 y => ?_⟩
    obtain ⟨G2, w2, ex2, r2⟩ := h2 v H2 y
    obtain ⟨δ2, hs, k2⟩ := wp_of ((M.wp_bind _ _).mp kk)
    have g2 : Go φ' τ' G' φ' τ' G2 := ⟨ex2, g'.le, fun _ _ a b => ⟨a, b⟩, fun _ h => .inl h⟩
    have s2 := ((s.go g').go g2).wipe vs
    refine gOf_ok (KF := KF) w2 s2 r2 hs fun σ2 ho s3 => ?_
    refine ⟨wipe_only ho (fun j hj => by rw [hv] at hj; exact hj), ?_⟩
    refine ht τ0 φ' τ' δ2 G2 H2 σ2 _ w2 g'.le s3 (M.wp_mono (fun b φ3 k3 τ3 G3 H3 w3 g3 => ?_) (fun _ _ _ h => h.elim) _ _ (M.wp_nox (X' := fun _ _ _ => False) _ _ ((M.wp_bind _ _).mp k2)))
    have hT3 := g3.kept D _ hT hF
    have gg3 := (g'.trans g2).trans g3
    have ex3 : Ex G1 G3 := (ex'.trans ex2).trans g3.ex
    cases b with
    | false =>
      rw [if_neg (by decide)] at k3
      exact ⟨φ3, τ3, G3, acc, hil, Nat.le_succ_of_le ha, w3, gg3, ex3, hT3.1, hT3.2, k3⟩
    | true =>
      rw [if_pos rfl] at k3
      refine he τ0 φ3 τ3 δ2 G3 H3 σ2 _ w3 g3.le (s3.go g3) (M.wp_mono (fun z φ4 k4 u τ4 G4 H4 w4 g4 r4 => ?_) (fun _ _ _ h => h.elim) _ _ (M.wp_nox (X' := fun _ _ _ => False) _ _ ((M.wp_bind _ _).mp k3)))
      have hT4 := g4.kept D _ hT3.1 hT3.2
      obtain ⟨g0, vs4, hh, rl⟩ := w4.cell D _ hT4.1
      refine ⟨vs4, hh, by rw [rl.len]; exact Nat.lt_of_le_of_lt ha (Nat.lt_of_lt_of_le hil (Nat.le_trans hn (by decide))), φ4, put τ4 D (.lst (acc ++ [z])), G4, acc ++ [z], hil, by rw [List.length_append]; exact Nat.add_le_add_right ha 1, w4.poke hT4.1 (RpL.app rl (.cons r4 .nil)), (gg3.trans g4).poke tD hT4.2, ex3.trans g4.ex, put_same, hT4.2, ?_⟩
      refine M.wp_mono (fun ys φ5 k5 => ?_) (fun _ _ _ h => h) _ _ ((M.wp_bind _ _).mp k4)
      intro p τ5 G5 H5 w5 g5 h5 h6 h7
      exact k5 p τ5 G5 H5 w5 g5 h5 (by rw [h6, List.append_assoc]; rfl) h7
theorem mf_lcD {tg : Tg} {tt : TT} {te : TE} {t : B} {e : E} {vs : List Nat} (hv : tg.ix = vs) (ha : ME c W ta a) (ht : MT c W tt t) (he : ME c W te e) : MF c W (tLc (iSeq KF ta) (gOf KF tg) tt te vs) (fLcD a tg t e vs) := fun τ0 φ τ δ G H σ Q w l s k => by
  refine ha τ0 φ τ δ G H σ _ w l s (M.wp_mono (fun x φ1 k1 v τ1 G1 H1 w1 g1 r1 => ?_) (fun C fs φ1 k1 => k1) _ _ ((M.wp_bind _ _).mp k))
  cases ep : ptrOf x with
  | some p =>
    rw [ep] at k1
    obtain ⟨xs, hx, k2⟩ := wp_getL k1
    have hv' := Rp.ptr_of r1 ep
    subst hv'
    obtain ⟨g0, us, hh, rl⟩ := w1.cell p _ (g1.le _ _ hx)
    exact ⟨p, rfl, .inl ⟨⟨us, SqL.of hh⟩, lc_turnsP (KF := KF) hv ht he w l s w1 g1 k2⟩⟩
  | none =>
    rw [ep] at k1
    obtain ⟨ds, hd, k2⟩ := wp_of ((M.wp_bind _ _).mp k1)
    cases r1 with
    | @lst a xs ds' h1 h2 =>
      cases (show some ds' = some ds from hd)
      exact ⟨a, rfl, .inl ⟨⟨xs, SqL.of (w1.ex _ _ h1)⟩, lc_turns (KF := KF) hv ht he w l s w1 g1 (itr_lst h1 h2) k2⟩⟩
    | @tup a xs ds' h1 h2 =>
      cases (show some ds' = some ds from hd)
      exact ⟨a, rfl, .inr ⟨⟨xs, SqT.of (w1.ex _ _ h1)⟩, lc_turns (KF := KF) hv ht he w l s w1 g1 (itr_tup h1 h2) k2⟩⟩
    | _ => exact nomatch hd
/-! the field count -/
end
end Mi

/-! EgCls -/
set_option Elab.async false
set_option linter.all false
set_option maxRecDepth 100000
set_option maxHeartbeats 2000000
/-! ## methods and classes whose calls carry what is known of the guards -/
namespace L2
open PySem PySem.Spec PyProof.Rows
section
variable {X : Cx} {CX : CXT} {k : Nat} {f C : Addr} {fd : FuncData} {ps ks : List Str} {sp : Sp} {E : St → XK} {x m : Str} {p pos apos : Pos} {e o : Expr} {es : List Expr} {kws : List Keyword} {ta : TE} {t tk : TA}
/-- o.m(..) -/
def tMethG (C : Addr) (m : Str) (sp : Sp) (E : St → XK) (ta : TE) (t : TA) : TE := fun σ H Q => ta σ H fun x H1 => ∃ a dx fs, x = .ref a ∧ H1 a = some (.ins C dx fs) ∧ fs.lookup m = none ∧ t σ H1 fun vs H2 => sp (x :: vs) H2 Q (E σ)
theorem pe_methG {pl : Sem Bool} (he : PE X o ta) (c : Cls X.K C) (hm : Meth X.K C m f) (F : FnG X.prog X.w X.K X.mg X.base CX k f fd ps sp) (hr : Room k X.A) (hgd : Gd X.A) (hb : Binds X.K fd ps []) (hx : ∀ σ, PassesAt CX X σ (E σ)) (ha : PA X (e :: es) t)
    (hst : starEach (e :: es) X.env = (false, eval e X.env) :: starEach es X.env := by rfl) (hpl : (backTo pos (starEach es X.env)).any (·.1) = false := by rfl)
    (ht : eval (.Call (.Attribute o m apos) (e :: es) [] pos) X.env = (do
      let ov ← eval o X.env
      standAt apos.atName
      let (f, first) ← holding [ov] (getMethod ov m pl)
      callWith pos f first (backTo pos (starEach (e :: es) X.env)) (backToKw pos (keywordEach [] X.env))) := by rfl) :
    PE X (.Call (.Attribute o m apos) (e :: es) [] pos) (tMethG C m sp E ta t) := by
  refine ⟨fun pins s σ H Q I h => ?_⟩
  refine PySem.W.methodCall_KW (pl := pl) (thn (he.run pins s σ H _ I h) fun u s1 ⟨x, H1, I1, rx, a, dx, fs, ex, ea, l, q⟩ => ?_) ht
  subst ex
  obtain rfl : u = Value.ref a := rx
  refine getmeth_ok I1 ea c hm l ?_
  refine PySem.W.callWith_K (first := [.ref a]) (h₀ := X.base) I.ok.mod.kin hm.kp (thn (ha.run pos pins s1 σ H1 _ I1 q) fun us s2 ⟨vs, H2, I2, r, q2⟩ => ⟨I2.kIn, ?_⟩) hst hpl
  have r2 : Vals (V.ref a :: vs) (Value.ref a :: us) := .cons rfl r
  have hl : (Value.ref a :: us).length = ps.length := by rw [← r2.length]; exact F.len _ _ _ _ q2
  have b := hb s2 (Value.ref a :: us) I2.kIn (by rw [List.append_nil]; exact hl)
  rw [List.append_nil] at b
  exact run_g (us := Value.ref a :: us) F hr hgd b (hx σ) I2 r2 q2
/-- o.m(k=.., ..) -/
def tMethGK (C : Addr) (m : Str) (sp : Sp) (gV : List V → List V → List V) (n : Nat) (E : St → XK) (ta : TE) (tk : TA) : TE := fun σ H Q => ta σ H fun x H1 => ∃ a dx fs, x = .ref a ∧ H1 a = some (.ins C dx fs) ∧ fs.lookup m = none ∧ tk σ H1 fun zs H2 => zs.length = n ∧ sp (gV [x] zs) H2 Q (E σ)
theorem pe_methGK {pl : Sem Bool} {g : List Value → List Value → List Value} {gV : List V → List V → List V} (he : PE X o ta) (c : Cls X.K C) (hm : Meth X.K C m f) (F : FnG X.prog X.w X.K X.mg X.base CX k f fd ps sp) (hr : Room k X.A) (hgd : Gd X.A) (hb : KB fd ps ks 1 g gV) (hx : ∀ σ, PassesAt CX X σ (E σ)) (hkw : PK X kws tk)
    (hall : (backToKw pos (keywordEach kws X.env)).all (·.1.isSome) = true := by rfl) (hks : (backToKw pos (keywordEach kws X.env)).filterMap (·.1) = ks := by rfl)
    (hpl : ((backTo pos (starEach [] X.env)).any (·.1) || (backToKw pos (keywordEach kws X.env)).any (·.1.isNone)) = false := by rfl)
    (ht : eval (.Call (.Attribute o m apos) [] kws pos) X.env = (do
      let ov ← eval o X.env
      standAt apos.atName
      let (f, first) ← holding [ov] (getMethod ov m pl)
      callWith pos f first (backTo pos (starEach [] X.env)) (backToKw pos (keywordEach kws X.env))) := by rfl) :
    PE X (.Call (.Attribute o m apos) [] kws pos) (tMethGK C m sp gV ks.length E ta tk) := by
  refine ⟨fun pins s σ H Q I h => ?_⟩
  refine PySem.W.methodCall_KW (pl := pl) (thn (he.run pins s σ H _ I h) fun u s1 ⟨x, H1, I1, rx, a, dx, fs, ex, ea, l, q⟩ => ?_) ht
  subst ex
  obtain rfl : u = Value.ref a := rx
  refine getmeth_ok I1 ea c hm l ?_
  refine PySem.W.callWith_KW0 (first := [.ref a]) (h₀ := X.base) I.ok.mod.kin hm.kp hall ?_ hpl
  refine thn (hkw.run pos pins s1 σ H1 _ I1 q) fun ws s2 ⟨zs, H2, I2, rz, l2, q2⟩ => ⟨I2.kIn, ?_⟩
  rw [hks]
  have u2 : ws.length = ks.length := by rw [← rz.length]; exact l2
  have r2 : Vals [V.ref a] [Value.ref a] := .cons rfl .nil
  exact run_g F hr hgd (hb.to s2 [Value.ref a] ws rfl u2) (hx σ) I2 (hb.rel r2 rz rfl u2) q2
/-- C(..): a new object, and its __init__ -/
def tMakeG (C : Addr) (sp : Sp) (E : St → XK) (t : TA) : TE := fun σ H Q => t σ H fun vs H1 => ∀ x dx, H1 x = none → H1 dx = none → dx ≠ x → sp (V.ref x :: vs) (upd (upd H1 dx (.own x)) x (.ins C dx [])) (fun v H2 => v = .non ∧ Q (.ref x) H2) (E σ)
theorem run_makeG {pins : List (Addr × Obj)} {σ : St} {H : Hp} {s : Shared} {Q : VK} {us : List Value} {vs : List V} (M : Mk X.K C f) (F : FnG X.prog X.w X.K X.mg X.base CX k f fd ps sp) (hr : Room (k + 1) X.A) (hgd : Gd X.A) (hb : Binds X.K fd ps [])
    (hx : PassesAt CX X σ (E σ)) (I : Inv X pins σ H s) (r : Vals vs us)
    (h : ∀ x dx, H x = none → H dx = none → dx ≠ x → sp (.ref x :: vs) (upd (upd H dx (.own x)) x (.ins C dx [])) (fun v H2 => v = .non ∧ Q (.ref x) H2) (E σ)) :
    wpAny (model X.prog X.w) X.A (call (.ref C) us) (EP X pins σ Q) X.xe s := by
  have hq := h (s.heap.objs.size + 1) s.heap.objs.size (I.hok.fresh (Nat.le_succ _)) (I.hok.fresh (Nat.le_refl _)) (Nat.ne_of_lt (Nat.lt_succ_self _))
  have I2 := Inv.made (C := C) I
  have r2 : Vals (V.ref (s.heap.objs.size + 1) :: vs) (Value.ref (s.heap.objs.size + 1) :: us) := .cons rfl r
  have hl : (Value.ref (s.heap.objs.size + 1) :: us).length = ps.length := by
    have e := r2.length
    rw [F.len _ _ _ _ hq] at e
    exact e.symm
  have b := hb _ (Value.ref (s.heap.objs.size + 1) :: us) I2.kIn (by rw [List.append_nil]; exact hl)
  rw [List.append_nil] at b
  refine wpAny_call (make_map (f := f) I.kIn M.makes M.init (beq_iff_eq.mp M.fn) (codeAny_mono (F.run _ X.stack _ _ ⟨Value.ref (s.heap.objs.size + 1) :: us, []⟩ (Value.ref (s.heap.objs.size + 1) :: us) _ _ (E σ) (hr.make C us []) hgd
    (I2.env0.make C us []) b r2 hq) fun r s' hq' => ?_))
  cases r with
  | error e => exact hx pins _ _ e s' I2 hq'
  | ok fl =>
    cases fl with
    | ret u =>
      obtain ⟨v, H', I3, rv, ev, q3⟩ := I2.after hq'
      subst ev
      exact ⟨rv, ⟨V.ref (s.heap.objs.size + 1), H', I3, rfl, q3⟩⟩
    | next => exact False.elim hq'
    | brk => exact False.elim hq'
    | cont => exact False.elim hq'
theorem pe_makeG (M : Mk X.K C f) (F : FnG X.prog X.w X.K X.mg X.base CX k f fd ps sp) (hr : Room (k + 1) X.A) (hgd : Gd X.A) (hg : Gl X x) (hm : X.mg x = some (.ref C)) (hb : Binds X.K fd ps []) (hx : ∀ σ, PassesAt CX X σ (E σ))
    (ha : PA X (e :: es) t) (hdb : (x == ("__debug__" : Str)) = false := by decide) (he : starEach (e :: es) X.env = (false, eval e X.env) :: starEach es X.env := by rfl) (hpl : (backTo pos (starEach es X.env)).any (·.1) = false := by rfl) :
    PE X (.Call (.Name x p) (e :: es) [] pos) (tMakeG C sp E t) := by
  refine ⟨fun pins s σ H Q I h => ?_⟩
  refine wpAny_Call_Name_kw (ld_glob I hg hm ?_ hdb)
  refine PySem.W.callWith_K (h₀ := X.base) I.ok.mod.kin M.kp (thn (ha.run pos pins s σ H _ I h) fun us s1 ⟨vs, H1, I1, r, q⟩ => ⟨I1.kIn, ?_⟩) he hpl
  exact run_makeG M F hr hgd hb (hx σ) I1 r q
end
end L2

/-! MiCls -/
set_option Elab.async false
set_option linter.all false
set_option maxRecDepth 100000
set_option maxHeartbeats 2000000
/-! ## objects of own classes: made, asked by methods, their fields; zip -/
namespace Mi
open PySem L2 Eg
def putFD (f : Str) (y : PyData) : List (Str × PyData) → List (Str × PyData)
  | [] => [(f, y)]
  | (g, x) :: fs => if g = f then (g, y) :: fs else (g, x) :: putFD f y fs
theorem RpF.put {G : Hp} {f : Str} {v : V} {y : PyData} (r : Rp G v y) : ∀ {vs : List (Str × V)} {fs : List (Str × PyData)}, RpF G vs fs → RpF G (putF f v vs) (putFD f y fs)
  | _, _, .nil => .cons r .nil
  | _, _, .cons (f := g) (vs := vs) (xs := xs) (v := u) (x := x) r1 h => by
    show RpF G (if g = f then (g, v) :: vs else (g, u) :: putF f v vs) (if g = f then (g, y) :: xs else (g, x) :: putFD f y xs)
    by_cases e : g = f
    · rw [if_pos e, if_pos e]; exact .cons r h
    · rw [if_neg e, if_neg e]; exact .cons r1 (RpF.put r h)
theorem RpF.lk_none {G : Hp} {f : Str} : ∀ {vs : List (Str × V)} {xs : List (Str × PyData)}, RpF G vs xs → xs.lookup f = none → vs.lookup f = none
  | _, _, .nil, _ => rfl
  | _, _, .cons (f := g) r h, e => by
    rw [List.lookup_cons] at e ⊢
    cases hb : (f == g) with
    | true => rw [hb] at e; cases e
    | false => rw [hb] at e; exact h.lk_none e
theorem RpF.len {G : Hp} {vs : List (Str × V)} {xs : List (Str × PyData)} (h : RpF G vs xs) : vs.length = xs.length := by
  induction h with
  | nil => rfl
  | cons _ _ ih => rw [List.length_cons, List.length_cons, ih]
def getI {α : Type} (p : Addr) (k : Addr → List (Str × PyData) → M α) : M α := .get p fun c => match c with
  | .ins C fs => k C fs
  | _ => .bad
theorem wp_getI {α : Type} {p : Addr} {k : Addr → List (Str × PyData) → M α} {φ : Sg} {K : α → Sg → Prop} {X : XC} (h : (getI p k).wp φ K X) : ∃ C fs, φ p = some (.ins C fs) ∧ (k C fs).wp φ K X := by
  obtain ⟨c, e, h⟩ := h
  cases c with
  | ins C fs => exact ⟨C, fs, e, h⟩
  | lst _ => exact h.elim
  | dct _ => exact h.elim
  | dcl _ _ _ => exact h.elim
  | opq _ => exact h.elim
/-- what is known of the object that x points to -/
def seeI {α : Type} (C : Addr) (x : PyData) (k : List (Str × PyData) → M α) : M α := match ptrOf x with
  | some p => getI p fun C' fs => if C' = C then k fs else .bad
  | none => .bad
theorem wp_seeI {α : Type} {C : Addr} {x : PyData} {k : List (Str × PyData) → M α} {φ : Sg} {K : α → Sg → Prop} {X : XC} (h : (seeI C x k).wp φ K X) : ∃ p fs, ptrOf x = some p ∧ φ p = some (.ins C fs) ∧ (k fs).wp φ K X := by
  unfold seeI at h
  cases e : ptrOf x with
  | none => rw [e] at h; exact h.elim
  | some p =>
    rw [e] at h
    obtain ⟨C', fs, hp, h2⟩ := wp_getI h
    clear h
    by_cases hc : C' = C
    · rw [if_pos hc] at h2; subst hc; exact ⟨p, fs, rfl, hp, h2⟩
    · rw [if_neg hc] at h2; exact h2.elim
/-! fields -/
def xFld (C : Addr) (f : Str) (o : E) : E := fun δ => (o δ).bind fun x => seeI C x fun fs => M.of (fs.lookup f)
def xMeth (C : Addr) (nm : Str) (m : List AV → M Rt) (o : E) (r : As) : E := fun δ => (o δ).bind fun x => seeI C x fun fs => if (fs.lookup nm).isNone = true then (r δ).bind fun as => (m (.d x :: as)).bind fun z => .ret z.data else .bad
def xMeth0 (C : Addr) (nm : Str) (m : List AV → M Rt) (o : E) (r : As) : E := fun δ => (o δ).bind fun x => seeI C x fun fs => if (fs.lookup nm).isNone = true then (r δ).bind fun as => (m (.d x :: as)).nox.bind fun z => .ret z.data else .bad
/-- us, and then of zs those at the places ix -/
def perm1 {α : Type} (ix : List Nat) (us zs : List α) : List α := us ++ ix.filterMap fun i => zs[i]?
def xMethK (C : Addr) (nm : Str) (n : Nat) (ix : List Nat) (m : List AV → M Rt) (o : E) (r : As) : E := fun δ => (o δ).bind fun x => seeI C x fun fs => if (fs.lookup nm).isNone = true then (r δ).bind fun as => if as.length = n then (m (perm1 ix [.d x] as)).bind fun z => .ret z.data else .bad else .bad
def xMake (C : Addr) (m : List AV → M Rt) (r : As) : E := fun δ => (r δ).bind fun as => .new (.ins C []) fun p => (m (.d (ptrD p) :: as)).bind fun z => match z with
  | .d .none => .ret (ptrD p)
  | _ => .bad
def sFldS (C : Addr) (f : Str) (o e : E) : S := fun δ => catch_ (e δ) δ fun y => catch_ (o δ) δ fun x => match ptrOf x with
  | some p => getI p fun C' fs => if C' = C ∧ fs.length < 1000 then .put p (.ins C (putFD f y fs)) (.ret (.nx δ)) else .bad
  | none => .bad
section
variable {c : Cn} {W : WX} {te ta tb tc : TE} {t : TT} {a b e o : E} {KF : PySem.W.Frag} {ts tu tw : TS} {C : Addr} {f nm : Str}
theorem me_fld (hc : Cls c.K C) (hn : NoAttr c.K C f) (ho : ME c W ta o) : ME c W (tFld c.K ta f) (xFld C f o) := fun τ0 φ τ δ G H σ Q w l s k => by
  refine ho τ0 φ τ δ G H σ _ w l s (M.wp_mono (fun x φ1 k1 v τ1 G1 H1 w1 g1 r1 => ?_) (fun C fs φ1 k1 => k1) _ _ ((M.wp_bind _ _).mp k))
  obtain ⟨p, fs, ep, hp, k2⟩ := wp_seeI k1
  obtain ⟨y, hy, k3⟩ := wp_of k2
  have hv := Rp.ptr_of r1 ep
  subst hv
  obtain ⟨g0, dx, vs, hh, rf⟩ := w1.cell p _ (g1.le _ _ hp)
  obtain ⟨u, e1, r⟩ := rf.lk hy
  exact ⟨p, C, dx, vs, u, rfl, hh, hc, hn, e1, k3 u τ1 G1 H1 w1 g1 r⟩
theorem none_of {α : Type} {x : Option α} (h : x.isNone = true) : x = none := by
  cases x with
  | none => rfl
  | some _ => cases h
theorem me_meth {m : List AV → M Rt} {tt : TA} {r : As} (ho : ME c W ta o) (hr : MA c W tt r) : ME c W (tMethG C nm (SpM c.K c.cl m) (WE W) ta tt) (xMeth C nm m o r) := fun τ0 φ τ δ G H σ Q w l s k => by
  refine ho τ0 φ τ δ G H σ _ w l s (M.wp_mono (fun x φ1 k1 v τ1 G1 H1 w1 g1 r1 => ?_) (fun C fs φ1 k1 => k1) _ _ ((M.wp_bind _ _).mp k))
  obtain ⟨p, fs, ep, hp, k2⟩ := wp_seeI k1
  by_cases hn : (fs.lookup nm).isNone = true
  case neg => rw [if_neg hn] at k2; exact k2.elim
  rw [if_pos hn] at k2
  have hv := Rp.ptr_of r1 ep
  subst hv
  obtain ⟨g0, dx, vs, hh, rf⟩ := w1.cell p _ (g1.le _ _ hp)
  refine ⟨p, dx, vs, rfl, hh, rf.lk_none (none_of hn), ?_⟩
  refine hr τ0 φ1 τ1 δ G1 H1 σ _ w1 g1.le (s.go g1) (M.wp_mono (fun as φ2 k3 us τ2 G2 H2 w2 g2 r2 => ?_) (fun C fs φ2 k3 => Xq.go g1 k3) _ _ ((M.wp_bind _ _).mp k2))
  have gg := g1.trans g2
  refine ⟨φ2, τ2, G2, .d x :: as, w2, g2.le, .cons (.d (Rp.mono g2.ex _ _ r1)) r2, M.wp_mono (fun z φ3 k4 => ?_) (fun C fs φ3 k4 => fun d τ' G' H' w' g' r => k4 d τ' G' H' w' (gg.trans g') r) _ _ ((M.wp_bind _ _).mp k3)⟩
  exact ret_data gg k4
theorem ArgsR.get {K : PySem.W.Frag} {G : Hp} : ∀ {vs : List V} {as : List AV} {i : Nat} {a : AV}, ArgsR K G vs as → as[i]? = some a → ∃ v, vs[i]? = some v ∧ ArgR K G v a
  | _, _, 0, _, .cons h _, e => by cases e; exact ⟨_, rfl, h⟩
  | _, _, i + 1, _, .cons _ h, e => h.get (i := i) (by simpa using e)
  | _, _, 0, _, .nil, e => nomatch e
  | _, _, i + 1, _, .nil, e => nomatch e
theorem ArgsR.get_none {K : PySem.W.Frag} {G : Hp} {vs : List V} {as : List AV} {i : Nat} (h : ArgsR K G vs as) (e : as[i]? = none) : vs[i]? = none := by
  rw [List.getElem?_eq_none_iff] at e ⊢
  rw [h.len]; exact e
theorem ArgsR.app {K : PySem.W.Frag} {G : Hp} {vs ws : List V} {as bs : List AV} (h : ArgsR K G vs as) (h2 : ArgsR K G ws bs) : ArgsR K G (vs ++ ws) (as ++ bs) := by
  induction h with
  | nil => exact h2
  | cons r _ ih => exact .cons r ih
theorem ArgsR.pick {K : PySem.W.Frag} {G : Hp} {vs : List V} {as : List AV} (h : ArgsR K G vs as) : ∀ ix : List Nat, ArgsR K G (ix.filterMap fun i => vs[i]?) (ix.filterMap fun i => as[i]?)
  | [] => .nil
  | i :: ix => by
    cases e : as[i]? with
    | none => rw [List.filterMap_cons_none (h.get_none e), List.filterMap_cons_none e]; exact h.pick ix
    | some a =>
      obtain ⟨v, e2, r⟩ := h.get e
      rw [List.filterMap_cons_some e2, List.filterMap_cons_some e]
      exact .cons r (h.pick ix)
theorem Vals.pick {vs : List V} {us : List Value} (h : Vals vs us) : ∀ ix : List Nat, Vals (ix.filterMap fun i => vs[i]?) (ix.filterMap fun i => us[i]?)
  | [] => .nil
  | i :: ix => by
    cases e : vs[i]? with
    | none =>
      have e2 : us[i]? = none := by
        rw [List.getElem?_eq_none_iff] at e ⊢
        rw [← h.length]; exact e
      rw [List.filterMap_cons_none e, List.filterMap_cons_none e2]
      exact Vals.pick h ix
    | some v =>
      obtain ⟨u, e2, r⟩ := h.get e
      rw [List.filterMap_cons_some e, List.filterMap_cons_some e2]
      exact .cons r (Vals.pick h ix)
theorem kb_perm {fd : FuncData} {ps ks : List Str} {n : Nat} (ix : List Nat) (h : ∀ (s : Shared) (us ws : List Value), us.length = n → ws.length = ks.length → BindsTo s fd ⟨us, ks.zip ws⟩ (ps.zip (perm1 ix us ws))) : KB fd ps ks n (perm1 ix) (perm1 ix) :=
  ⟨h, fun r1 r2 _ _ => r1.append (Vals.pick r2 ix)⟩
theorem me_methK {m : List AV → M Rt} {tt : TA} {r : As} {n : Nat} {ix : List Nat} (ho : ME c W ta o) (hr : MA c W tt r) : ME c W (tMethGK C nm (SpM c.K c.cl m) (perm1 ix) n (WE W) ta tt) (xMethK C nm n ix m o r) := fun τ0 φ τ δ G H σ Q w l s k => by
  refine ho τ0 φ τ δ G H σ _ w l s (M.wp_mono (fun x φ1 k1 v τ1 G1 H1 w1 g1 r1 => ?_) (fun C fs φ1 k1 => k1) _ _ ((M.wp_bind _ _).mp k))
  obtain ⟨p, fs, ep, hp, k2⟩ := wp_seeI k1
  by_cases hn : (fs.lookup nm).isNone = true
  case neg => rw [if_neg hn] at k2; exact k2.elim
  rw [if_pos hn] at k2
  have hv := Rp.ptr_of r1 ep
  subst hv
  obtain ⟨g0, dx, vs, hh, rf⟩ := w1.cell p _ (g1.le _ _ hp)
  refine ⟨p, dx, vs, rfl, hh, rf.lk_none (none_of hn), ?_⟩
  refine hr τ0 φ1 τ1 δ G1 H1 σ _ w1 g1.le (s.go g1) (M.wp_mono (fun as φ2 k3 us τ2 G2 H2 w2 g2 r2 => ?_) (fun C fs φ2 k3 => Xq.go g1 k3) _ _ ((M.wp_bind _ _).mp k2))
  by_cases hl : as.length = n
  case neg => rw [if_neg hl] at k3; exact k3.elim
  rw [if_pos hl] at k3
  have gg := g1.trans g2
  refine ⟨by rw [r2.len]; exact hl, φ2, τ2, G2, perm1 ix [.d x] as, w2, g2.le, ArgsR.app (.cons (.d (Rp.mono g2.ex _ _ r1)) .nil) (r2.pick ix), M.wp_mono (fun z φ3 k4 => ?_) (fun C fs φ3 k4 => fun d τ' G' H' w' g' r => k4 d τ' G' H' w' (gg.trans g') r) _ _ ((M.wp_bind _ _).mp k3)⟩
  exact ret_data gg k4
theorem Wd.freshI {τ : Sg} {G H : Hp} {p dx : Addr} (w : Wd τ G H) (hp : H p = none) : Wd (put τ p (.ins C [])) G (upd H p (.ins C dx [])) := ⟨fun a u e => by
    rw [upd_ne (ne_of_none (w.ex a u e) hp)]; exact w.ex a u e, fun q c e => by
    by_cases h : q = p
    · subst h; rw [put_same] at e; cases e; exact ⟨w.gn hp, dx, [], upd_same, .nil⟩
    · rw [put_ne h] at e; obtain ⟨g0, r⟩ := w.cell q c e; exact ⟨g0, r.same (upd_ne h)⟩⟩
theorem Le.putv {φ τ : Sg} {p : Addr} {d : Cell} (l : Le φ τ) : Le (put φ p d) (put τ p d) := fun q e eq => by
  by_cases hq : q = p
  · subst hq; rw [put_same] at eq ⊢; exact eq
  · rw [put_ne hq] at eq ⊢; exact l q e eq
/-- a new cell that all see -/
theorem Go.freshV {φ τ : Sg} {G H : Hp} {p : Addr} {d : Cell} (w : Wd τ G H) (l : Le φ τ) (hp : H p = none) : Go φ τ G (put φ p d) (put τ p d) G := ⟨Ex.refl _, l.putv, fun q e a b => by
    have h : q ≠ p := fun z => by rw [z, w.tn hp] at a; cases a
    exact ⟨by rw [put_ne h]; exact a, by rw [put_ne h]; exact b⟩, fun q h => .inl (by
    by_cases hq : q = p
    · rw [hq, put_same]; exact fun z => nomatch z
    · rw [put_ne hq]; exact h)⟩
theorem me_make {m : List AV → M Rt} {tt : TA} {r : As} (hr : MA c W tt r) : ME c W (tMakeG C (SpM c.K c.cl m) (WE W) tt) (xMake C m r) := fun τ0 φ τ δ G H σ Q w l s k => by
  refine hr τ0 φ τ δ G H σ _ w l s (M.wp_mono (fun as φ1 k1 vs τ1 G1 H1 w1 g1 r1 => ?_) (fun C fs φ1 k1 => k1) _ _ ((M.wp_bind _ _).mp k))
  intro x dx hx hdx hne
  have w2 : Wd τ1 G1 (upd H1 dx (.own x)) := w1.aside hdx
  have hx2 : (upd H1 dx (.own x)) x = none := by rw [upd_ne (Ne.symm hne)]; exact hx
  have w3 := w2.freshI (C := C) (dx := dx) hx2
  have g3 : Go φ1 τ1 G1 (put φ1 x (.ins C [])) (put τ1 x (.ins C [])) G1 := Go.freshV w2 g1.le hx2
  have gg := g1.trans g3
  refine ⟨_, _, G1, .d (ptrD x) :: as, w3, g3.le, .cons (.d (.ptr x)) r1, M.wp_mono (fun z φ3 k4 => ?_) (fun C fs φ3 k4 => fun d τ' G' H' w' g' r => k4 d τ' G' H' w' (gg.trans g') r) _ _ ((M.wp_bind _ _).mp (k1 x (g1.le.none (w1.tn hx))))⟩
  cases z with
  | f xs => exact k4.elim
  | d y =>
    cases y with
    | none =>
      intro v τ' G' H' w' g' r'
      cases r'
      exact ⟨rfl, k4 _ τ' G' H' w' (gg.trans g') (.ptr x)⟩
    | _ => exact k4.elim
theorem Wd.pokeI {τ : Sg} {G H : Hp} {p dx : Addr} {d : Cell} {vs : List (Str × V)} {fs : List (Str × PyData)} (w : Wd τ G H) (hp : τ p = some d) (r : RpF G vs fs) (ho : d.open_ = true := by rfl) : Wd (put τ p (.ins C fs)) G (upd H p (.ins C dx vs)) := ⟨fun a u e => by
    rw [upd_ne (ne_of_none e ((w.cell p d hp).1.nn ho))]; exact w.ex a u e, fun q e eq => by
    by_cases h : q = p
    · subst h; rw [put_same] at eq; cases eq; exact ⟨(w.cell q d hp).1.nn ho, dx, vs, upd_same, r⟩
    · rw [put_ne h] at eq; obtain ⟨g0, r⟩ := w.cell q e eq; exact ⟨g0, r.same (upd_ne h)⟩⟩
theorem ms_fldS (hc : Cls c.K C) (hn : NoAttr c.K C f) (ho : ME c W ta o) (he : ME c W te e) : MS c W (sFld c.K ta te f) (sFldS C f o e) := fun φ0 τ0 G0 φ τ δ G H σ D w g s k => by
  refine he τ0 φ τ δ G H σ _ w g.le s (M.wp_mono (fun y φ1 k1 v τ1 G1 H1 w1 g1 r1 => ?_) (fun C fs φ1 k1 => FlR.xq g s k1) _ _ (wp_catch _ _ k))
  have gg := g.trans g1
  have s1 := s.go g1
  refine ho τ0 φ1 τ1 δ G1 H1 σ _ w1 g1.le s1 (M.wp_mono (fun x φ2 k2 v2 τ2 G2 H2 w2 g2 r2 => ?_) (fun C fs φ2 k2 => FlR.xq gg s1 k2) _ _ (wp_catch _ _ k1))
  cases ep : ptrOf x with
  | none => rw [ep] at k2; exact k2.elim
  | some p =>
    rw [ep] at k2
    obtain ⟨C', fs, hp, k2⟩ := wp_getI k2
    by_cases hh : C' = C ∧ fs.length < 1000
    case neg => rw [if_neg hh] at k2; exact k2.elim
    rw [if_pos hh] at k2
    obtain ⟨rfl, hl⟩ := hh
    have hv := Rp.ptr_of r2 ep
    subst hv
    have hcell := g2.le _ _ hp
    obtain ⟨g0, dx, vs, hh2, rf⟩ := w2.cell p _ hcell
    refine ⟨p, C', dx, vs, rfl, hh2, hc, hn, by rw [rf.len]; exact hl, ?_⟩
    have g3 := Go.putc (G := G2) (d := .ins C' (putFD f y fs)) g2.le hp
    exact k2.2 σ _ G2 _ (w2.pokeI hcell (rf.put (Rp.mono g2.ex _ _ r1))) ((gg.trans g2).trans g3) ((s1.go g2).go g3)
/-! zip -/
theorem zipD_some : ∀ {xs ys : List PyData} {i : Nat} {z : PyData}, (zipD xs ys)[i]? = some z → ∃ x y, xs[i]? = some x ∧ ys[i]? = some y ∧ z = .tuple [x, y]
  | x :: xs, y :: ys, 0, z, h => by cases h; exact ⟨x, y, rfl, rfl, rfl⟩
  | x :: xs, y :: ys, i + 1, z, h => by
    have h' : (zipD xs ys)[i]? = some z := by simpa [zipD] using h
    obtain ⟨a, b, e1, e2, e3⟩ := zipD_some h'
    exact ⟨a, b, by simpa using e1, by simpa using e2, e3⟩
  | [], _, i, z, h => by cases i <;> simp [zipD] at h
  | _ :: _, [], i, z, h => by cases i <;> simp [zipD] at h
end
end Mi

/-! EgHot -/
set_option Elab.async false
set_option linter.all false
set_option maxRecDepth 100000
set_option maxHeartbeats 2000000
/-! ## errors whose context is None, so that loops may stand where they are handled -/
namespace L2N
open PySem PySem.Spec PyProof.Rows L2
inductive HdsA (X : Cx) : List ExceptHandler → List (Value × Nat × Suite) → Prop
  | nil : HdsA X [] []
  | cons {x n : Str} {c : Value} {i : Nat} {ts : Suite} {s0 : Stmt} {suite : List Stmt} {np pos' : Pos} {hds : List ExceptHandler} {l : List (Value × Nat × Suite)} (hc : Names X x c) (hi : X.N[i]? = some n) (hln : X.env.kindOf n = some .local)
      (hsu : ∀ (a : Addr) (oe : Obj) (cls : Value) (d : Option Addr) (pn : List (Addr × Obj)), Zn cls d oe → (∃ vs, oe.data = .fields vs) → PSs (X.suite a ((a, oe) :: pn)) (s0 :: suite) (ts a cls d)) (r : HdsA X hds l) :
      HdsA X (.ExceptHandler (some (.Name x np)) (some n) (s0 :: suite) pos' :: hds) ((c, i, ts) :: l)
section
variable {X : Cx} {body : List Stmt} {h₀ : ExceptHandler} {hds : List ExceptHandler} {l : List (Value × Nat × Suite)} {pos : Pos} {tb : WX → TS} {Wo : WX}
theorem ps_try_named (hs : X.stack = X.env :: X.outer) (hf : X.env.frame = some X.env.locals) (hN : X.N.Nodup) (tk : Takes X Wo)
    (hb : ∀ (W : WX) (pn : List (Addr × Obj)) (xe : Value → Shared → Prop), Takes (X.tr pn xe) W → PassesOwn (model X.prog X.w) X.A X.env xe → PSs (X.tr pn xe) body (tb W))
    (hh : HdsA X (h₀ :: hds) l) : PS X (.Try body (h₀ :: hds) [] [] pos) (fun D σ H => tb (wTry X.K Wo D l) D σ H) := by
  refine ⟨fun pins s σ H D inv h => ?_⟩
  have ok := inv.ok
  have fr : X.A.frames = some (X.env :: X.outer) := by
    rw [ok.frames, hs]
  refine wpAny_Try_except ?_
  refine wpAny_mono ((hb (wTry X.K Wo D l) (X.pn ++ pins) (fun e s₁ => wpAny (model X.prog X.w) X.A (noteFrame e X.env) (fun _ s₂ => wpAny (model X.prog X.w) X.A (setFlight e none)
    (fun _ s₃ => wpAny (model X.prog X.w) X.A (handleBy e X.env (h₀ :: hds)) (SP X pins D) X.xe s₃) X.xe s₂) X.xe s₁) (fun u s' air => ?_) PassesOwn.looking).run [] s σ H D (inv.toTry _) h) (fun f s1 done => ?_) (fun e s1 he => he)
  · obtain ⟨a, B, sI, pins', σ', H', cls, d, rfl, J', nb, up, sky, na, os, ag, wish⟩ := air
    have J : Inv X pins σ' H' sI := J'.ofTry ok
    have sky' : Sky B (X.env :: X.outer) a (Zn cls d) X.env.locals s'.heap := by
      rw [← hs]
      exact sky
    show wpAny (model X.prog X.w) X.A (noteFrame (.ref a) X.env) _ _ _
    refine L2N.Sky.land Zn.steady fr hf sky' fun h3 fl3 up3 => ?_
    have J3 : Inv X pins σ' H' { s' with heap := h3 } := J.landed nb fl3.1 (up.trans up3) os ag
    obtain ⟨oe3, vs3, he3, hz3, hd3⟩ := fl3.there
    have nfr : a ∉ frs (X.env :: X.outer) := fun hm => by
      obtain ⟨_, o', e', hnf⟩ := fl3.2.2.1.mem hm
      rw [he3] at e'
      cases e'
      exact hnf _ hd3
    have nL : a ≠ X.env.locals := fun z => nfr (List.mem_filterMap.mpr ⟨X.env, List.mem_cons_self, by rw [hf, z]⟩)
    have nF : a ∉ X.fs := fun hm => by
      obtain ⟨e, he, q⟩ := List.mem_filterMap.mp hm
      exact nfr (List.mem_filterMap.mpr ⟨e, List.mem_cons_of_mem _ he, q⟩)
    have S3 := J3.suite he3 hd3 na nL nF
    have go : ∀ {hds' : List ExceptHandler} {l' : List (Value × Nat × Suite)}, HdsA X hds' l' → wTry X.K Wo D l' cls d σ' H' →
        wpAny (model X.prog X.w) X.A (handleBy (.ref a) X.env hds') (SP X pins D) X.xe { s' with heap := h3 } := by
      intro hds' l' hk
      induction hk with
      | nil =>
        intro w
        refine wpAny_handleBy_nil ?_
        obtain ⟨k1, k2, k3, oe, vs, T, oT, ts', he, hz, hd, h1, hr⟩ := id fl3
        unfold PySem.passOn
        refine wpAny_bind (wpAny_field he hd h1 ?_)
        rw [if_neg (show ¬ ((Value.ref T == Value.none) = true) from by simp)]
        have fin : wpAny (model X.prog X.w) X.A (setFlight (.ref a) X.env.frame) (fun _ s4 => wpAny (model X.prog X.w) X.A (throw (.ref a) : Sem Flow) (SP X pins D) X.xe s4) X.xe { s' with heap := h3 } := by
          rw [hf]
          refine HandSPX.setFlight_upZ fl3 fun h4 hh4 up4 => wpAny_throw (tk _ _ ?_)
          refine ⟨a, B, sI, pins, σ', H', cls, d, rfl, J, nb, (up.trans up3).trans up4, .inr (.inr ?_), na, os, ag, w⟩
          rw [hs]
          exact hh4
        first
          | exact wpAny_bind (wpAny_pure (wpAny_bind fin))
          | exact wpAny_bind fin
      | @cons x n c i ts s0 suite np pos' hds2 l2 hc hi hln hsu r ih =>
        intro w
        obtain ⟨b, hb1, hyes, hno⟩ := w
        refine wpAny_handleBy_cons (codeAny_handlers_test ?_) (by intro q; cases q)
        have LT : PySem.W.Looks (model X.prog X.w) h3 (typeOf (.ref a)) cls := fun A Q E s k q => wpAny_typeOf_ref (k _ _ he3) (by rw [hz3.1]; exact q)
        have LM := PySem.W.exm_one (M := model X.prog X.w) (J3.kIn) LT hb1
        have test : ∀ {Q : Value → Shared → Prop} {E : Value → Shared → Prop}, Q c { s' with heap := h3 } →
            wpAny (model X.prog X.w) (X.A.mark (some (.ref a))) (eval (.Name x np) X.env) Q E { s' with heap := h3 } := fun {Q E} q => by
          obtain ⟨hg, hdbg, hm | ⟨hm, hv, hnn⟩⟩ := hc
          · exact ld_glob (X := X.suite a ((a, oe3) :: (X.pn ++ pins))) S3 hg hm q hdbg
          · exact ld_blt (X := X.suite a ((a, oe3) :: (X.pn ++ pins))) S3 hg hm hv q hnn hdbg
        refine test (LM.here ?_)
        cases b with
        | true =>
          refine codeAny_handlers_suite_as ?_
          refine HandSPX.lands_againZ fl3 fun h4 fl4 up4 => ?_
          have J4 : Inv X pins σ' H' { s' with heap := h4 } := J.landed nb fl4.1 ((up.trans up3).trans up4) os ag
          obtain ⟨oe4, vs4, he4, hz4, hd4⟩ := fl4.there
          have S4 := J4.suite he4 hd4 na nL nF
          refine store_ok (X := X.suite a ((a, oe4) :: (X.pn ++ pins))) (v := .ref a) S4 hN hi (.inl hln) rfl (fun s5 S5 => ?_) (.inr hln)
          refine wpAny_mono ((hsu a oe4 cls d (X.pn ++ pins) hz4 ⟨_, hd4⟩).run [] s5 _ H' _ S5 (hyes rfl a na)) (fun f s6 hsp => ?_) (fun _ _ z => False.elim z)
          have shut : ∀ {σ6 : St} {H6 : Hp} {Q : Shared → Prop}, Inv (X.suite a ((a, oe4) :: (X.pn ++ pins))) [] σ6 H6 s6 → (∀ s7, Inv X pins (σ6.set i none) H6 s7 → Q s7) →
              wpAny (model X.prog X.w) X.A (do bindName X.env n .none; unbindBehindTheSuite X.env n pos') (fun _ s7 => Q s7) X.xe s6 := fun {σ6 H6 Q} S6 hq => gone_ok (S6.unsuite ok) hN hi hln hq
          cases f with
          | next =>
            obtain ⟨σ6, H6, S6, q6⟩ := hsp
            exact shut S6 fun s7 J7 => ⟨_, _, J7, q6⟩
          | brk =>
            obtain ⟨σ6, H6, S6, q6⟩ := hsp
            exact shut S6 fun s7 J7 => ⟨_, _, J7, q6⟩
          | cont =>
            obtain ⟨σ6, H6, S6, q6⟩ := hsp
            exact shut S6 fun s7 J7 => ⟨_, _, J7, q6⟩
          | ret u =>
            obtain ⟨v6, σ6, H6, S6, r6, q6⟩ := hsp
            exact shut S6 fun s7 J7 => ⟨_, _, _, J7, r6, q6⟩
        | false =>
          show wpAny _ X.A (handleBy (.ref a) X.env hds2) _ _ _
          exact ih (hno rfl)
    exact go hh wish
  · cases f with
    | next =>
      obtain ⟨σ', H', J', q⟩ := done
      exact wpAny_execs_nil ⟨σ', H', J'.ofTry ok, q⟩
    | brk =>
      obtain ⟨σ', H', J', q⟩ := done
      exact ⟨σ', H', J'.ofTry ok, q⟩
    | cont =>
      obtain ⟨σ', H', J', q⟩ := done
      exact ⟨σ', H', J'.ofTry ok, q⟩
    | ret u =>
      obtain ⟨v, σ', H', J', r, q⟩ := done
      exact ⟨v, σ', H', J'.ofTry ok, r, q⟩
end
theorem ps_try_n {X : Cx} {body : List Stmt} {h₀ : ExceptHandler} {hds : List ExceptHandler} {l : List (Value × Nat × Suite)} {pos : Pos} {tb : WX → TS} {Wo : WX} (hs : X.stack = X.env :: X.outer) (hf : X.env.frame = some X.env.locals) (hN : X.N.Nodup) (tk : Takes X Wo)
    (hb : ∀ (W : WX) (pn : List (Addr × Obj)) (xe : Value → Shared → Prop), Takes (X.tr pn xe) W → PassesOwn (model X.prog X.w) X.A X.env xe → PSs (X.tr pn xe) body (tb W))
    (hh : HdsA X (h₀ :: hds) l) : PS X (.Try body (h₀ :: hds) [] [] pos) (tTryN X.K Wo l tb) := ps_try_named hs hf hN tk hb hh
theorem passL {X : Cx} : Passes (L2N.CX X.prog X.w) X E0 := fun _ _ _ _ _ _ _ h => by
  obtain ⟨_, _, _, _, _, _, _, _, _, _, _, _, z⟩ := h
  exact z.elim
theorem noXN {X : Cx} : ∀ σ, PassesAt (L2N.CX X.prog X.w) X σ ((fun _ => E0) σ) := fun σ pins H s e s' I h => passL pins σ H s e s' I h
theorem okG {P : Program} {w : World} {K : PySem.W.Frag} {mg : Str → Option Value} {base : Heap} {x qual : Str} {st : Stmt} {f : Addr} {fd : FuncData} {N ps : List Str} {k : Nat} {sp : Sp} (F : Fun K x qual st f fd) (S : FnScope N ps (defScope st)) (len : ∀ vs H Q E, sp vs H Q E → vs.length = ps.length)
    (hbody : ∀ (cdv : Value) (A : Around) (outer : List Env) (s : Shared) (H : Hp) (vs : List V) (Q : VK) (E : XK), Room k (A.deeper (envOfC qual (defScope st) s.heap.objs.size f cdv)) → Gd (A.deeper (envOfC qual (defScope st) s.heap.objs.size f cdv)) → sp vs H Q E →
      ∃ t, PSs (cxOf (L2N.CX P w) P w K mg base N qual (defScope st) f cdv A outer s H E) (defBody st) t ∧ t { nx := fun _ H' => Q .non H', rt := Q } (start N vs) H) : FnG P w K mg base (L2N.CX P w) (k + 1) f fd ps sp := by
  obtain ⟨oc, od, kV, doc, pm, an, cdv, ct, osl, rfl, lk, hcd⟩ := F.ex
  exact fng_of lk hcd S len fun A outer s H vs Q E hr hgd hsp => hbody cdv A outer s H vs Q E hr hgd hsp
/-- in a suite the handled error's context is None -/
theorem hotC {X : Cx} {a : Addr} {oe : Obj} {cls : Value} {d : Option Addr} {pn : List (Addr × Obj)} (hz : Zn cls d oe) (hf : ∃ vs, oe.data = .fields vs) : L2H.HotC (X.suite a ((a, oe) :: pn)) := by
  obtain ⟨vs, e⟩ := hf
  exact ⟨(a, oe), ⟨rfl, vs, e, hz.2.2 vs e⟩, List.mem_cons_self⟩
end L2N
namespace L2H
open PySem PySem.Spec PyProof.Rows L2 HotX
section
variable {prog : Program} {w : World} {A : Around} {E : Value → Shared → Prop} {s : Shared}
end
end L2H

/-! EgLowN_given -/
set_option Elab.async false
set_option linter.all false
set_option maxRecDepth 100000
set_option maxHeartbeats 2000000
/-! ### an own error with the field given -/
namespace PySem
namespace EgX
open PySem.W PySem.Calls PyProof.Rows PySem.HandSPX
def iA_givenN (p1 p2 : Pos) : Arguments :=
  { posonlyargs := [], args := [{ arg := "self", annotation := none, pos := p1 }, { arg := "given", annotation := none, pos := p2 }],
    vararg := none, kwonlyargs := [], kw_defaults := [], kwarg := none, defaults := [] }
def iB_givenN (q1 q2 q3 q4 : Pos) : List Stmt := [.Assign [.Attribute (.Name "self" q1) "given" q2] (.Name "given" q3) q4]
def iS_givenN : Scope :=
  { kind := .function, names := [(PySem.Str.ofString "self", .local), (PySem.Str.ofString "given", .local)], isGenerator := false, isCoroutine := false, more := [] }
/-- the class cn at C under G, its __init__ at fI -/
structure Low_givenN (K : Frag) (mg : Str → Option Value) (cn qn : Str) (C G fI : Addr) : Prop where
  gC : mg cn = some (.ref C)
  cls : ∃ nm q N bs sn sub ab col dd k0 k1 k2 k3 k5, K.lookup C = some (excClassObj nm q C N bs (.ref G :: PySem.ESX.exTail) true sn sub ab col dd k0 k1 k2 k3 k5 "Exception.__new__")
  sa : findIn K (.ref C) "__setattr__" = some (some (.builtin "object.__setattr__"))
  ga : findIn K (.ref C) "__getattribute__" = some (some (.builtin "BaseException.__getattribute__"))
  gg : findIn K (.ref C) "__getattr__" = some none
  noN : findIn K (.ref C) "given" = some none
  iC : findIn K (.ref C) "__init__" = some (some (.ref fI))
  tC : typeIn K (.ref fI) = some (.type "function")
  kC : keepIn K (.ref C) = true
  exC : subIn K (.ref C) (.type "BaseException") = some true
  tyC : typeIn K (.ref C) = some (.type "type")
  hdC : hasDictIn K C = true
  te : exmOne K (.ref C) (.ref C) = some true
  fn : ∃ (oc : Value) (od : Option Addr) (doc pm : Value) (an : Option Addr) (cdv ct : Value) (osl : Array (Option Value)) (p1 p2 q1 q2 q3 q4 : Pos),
    K.lookup fI = some ⟨oc, od, .func (fnOf "__init__" qn (iA_givenN p1 p2) (iB_givenN q1 q2 q3 q4) iS_givenN .none .none doc pm an cdv ct), osl⟩ ∧ codeIn K cdv qn = true
theorem ldC_givenN {M : Model} {s : Shared} {nn : Str} {sc : Scope} {L a : Addr} {cd : Value} {m : Str → Option Value} {x : Str} {pos : Pos} {v : Value} {Q : Value → Shared → Prop} {A : Around} {E : Value → Shared → Prop}
    (hn : s.heap.Ns L m) (hv : m x = some v) (h : Q v s)
    (hk : sc.kind = .function := by rfl) (hl : (envOfC nn sc L a cd).kindOf x = some .local := by rfl) (hd : (x == ("__debug__" : Str)) = false := by decide) :
    wpAny M A (eval (.Name x pos) (envOfC nn sc L a cd)) Q E s :=
  wpAny_Name (wpAny_loadName_local hk hl hn hv h) hd
structure InitEnd_givenN (h h' : Heap) (x C dx t1 : Addr) (v : Value) : Prop where
  keep : ∀ b o, b ≠ x → h.get? b = some o → h'.get? b = some o
  obj : h'.get? x = some { cls := .ref C, dict := some dx, data := .fields #[.ref t1, .none, .none, .none, .bool false, .none] }
  dbig : h.objs.size ≤ dx
  dne : dx ≠ x
  ns : h'.Ns1 dx (fun y => if y = "given" then some v else none)
structure Made_givenN (h h' : Heap) (e C d : Addr) (v : Value) : Prop where
  keep : ∀ b o, h.get? b = some o → h'.get? b = some o
  new : h.objs.size ≤ e
  obj : ∃ oe vs, h'.get? e = some oe ∧ oe.cls = .ref C ∧ oe.dict = some d ∧ oe.data = .fields vs ∧ vs[1]? = some .none ∧ vs[2]? = some .none
  dbig : h.objs.size ≤ d
  dne : d ≠ e
  ns : h'.Ns1 d (fun y => if y = "given" then some v else none)
section
variable {prog : Program} {w : World} {A : Around} {E : Value → Shared → Prop} {R : Result → Shared → Prop} {s : Shared} {K : Frag} {mg : Str → Option Value} {C G fI : Addr} {cn qn : Str}
theorem init_givenN (T : Low_givenN K mg cn qn C G fI) {x t0 : Addr} {v : Value} (kin : K.In s.heap) (hlim : s.heap.NoLimit) (hx : s.heap.get? x = some (excO C t0)) (hnx : K.lookup x = none) (hroom : A.depth < recursionLimit)
    (fin : ∀ h' tk dx, InitEnd_givenN s.heap h' x C dx t0 v → R (.ok (.ret .none)) { s with heap := h', toks := tk }) :
    codeAny (model prog w) A (.call (.ref fI) ⟨[.ref x, v], []⟩) R s := by
  obtain ⟨oc, od, doc, pm, an, cdv, ct, osl, p1, p2, q1, q2, q3, q4, ho, hcd⟩ := T.fn
  obtain ⟨nm, q, N, bs, sn, sub, ab, col, dd, k0, k1, k2, k3, k5, hC⟩ := T.cls
  have hcl : clsIn K C = some { name := nm, bases := bs, mro := mroG C G, ns := N, qualname := q, hasDict := true, slotNames := sn, subclasses := sub, abstract := ab, collection := col, hasDel := false } := by
    unfold clsIn
    rw [hC] <;> rfl
  refine Att.call_fn (binds := [("self", .ref x), ("given", v)]) kin hlim ho hcd hroom (BindsTo.of_eq (by first | rfl | with_unfolding_all rfl)) (by first | rfl | decide | with_unfolding_all rfl) (fun s1 IC => ?_) rfl rfl rfl
  obtain ⟨h1, tk1, rfl⟩ := IC.toInCall.same
  have k : ∀ b o, s.heap.get? b = some o → h1.get? b = some o := IC.toInCall.keep
  have hn := IC.toInCall.ns
  have kin1 : K.In h1 := kin.keeps k
  have hx1 := k _ _ hx
  show wpAny _ _ (execs _ _) _ _ _
  refine wpAny_execs_cons (plainObj_wpAny_Assign_Attribute ?_)
  refine ldC_givenN (v := v) hn (by first | rfl | with_unfolding_all rfl | kernel_rfl) (ldC_givenN (v := .ref x) hn (by first | rfl | with_unfolding_all rfl | kernel_rfl) ?_)
  refine set_plain kin1 (ox := excO C t0) (od := none) ⟨hx1, rfl, rfl, trivial⟩ T.sa ?_
  refine osaG kin1 hx1 hcl rfl rfl T.noN (fun h3 tk3 dx k3 dn dne hx3 hn3 => ?_)
  show wpAny _ _ (execs _ _) _ _ _
  have z : s.heap.objs.size < h1.objs.size := hn.lt
  exact wpAny_execs_nil (fin h3 tk3 dx ⟨fun b o hb e => k3 b o hb (k b o e), hx3, Nat.le_of_lt (Nat.lt_of_lt_of_le z dn), dne, hn3⟩)
theorem made_givenN (T : Low_givenN K mg cn qn C G fI) {v : Value} (kin : K.In s.heap) (hlim : s.heap.NoLimit) (hroom : A.depth + 1 < recursionLimit)
    (fin : ∀ h' tk e d, Made_givenN s.heap h' e C d v → R (.ok (.ret (.ref e))) { s with heap := h', toks := tk }) :
    codeAny (model prog w) A (.call (.ref C) ⟨[v], []⟩) R s := by
  obtain ⟨nm, q, N, bs, sn, sub, ab, col, dd, k0, k1, k2, k3, k5, hC⟩ := T.cls
  obtain ⟨hp, g, dr, tk, os⟩ := s
  have k : ∀ b o, hp.get? b = some o → ((hp.push (kdv_tup [v])).push (excO C hp.objs.size)).get? b = some o :=
    fun b o e => Heap.get?_push_of_some _ (Heap.get?_push_of_some _ e)
  have hget : ((hp.push (kdv_tup [v])).push (excO C hp.objs.size)).get? (hp.objs.size + 1) = some (excO C hp.objs.size) := by heap_get
  have hnx : K.lookup (hp.objs.size + 1) = none := by
    cases e : K.lookup (hp.objs.size + 1) with
    | none => rfl
    | some o =>
      have z : hp.get? (hp.objs.size + 1) = some o := kin _ _ e
      exact absurd (Nat.lt_of_succ_lt (Heap.lt_size z)) (Nat.lt_irrefl _)
  refine call_own F.excBase_Exception (fun Y => tailG_con G Y) (kin _ _ hC) (looks_findIn kin T.iC) (fun self => bind_fn kin self T.tC) (by rw [sizeLine_eq]; show 1 ≤ 16777216; decide) ?_
  refine init_givenN (s := ⟨(hp.push (kdv_tup [v])).push (excO C hp.objs.size), g, dr, tk, os⟩) T (kin.keeps k) (hlim.keeps k) hget hnx ?_ fun h' tk' dx ⟨k', hx, dn, dne, hns⟩ => ?_
  · show A.depth + 1 < recursionLimit
    exact hroom
  · have old : ∀ b o, hp.get? b = some o → h'.get? b = some o := fun b o e => k' b o (Nat.ne_of_lt (Nat.lt_succ_of_lt (Heap.lt_size e))) (k b o e)
    have z : hp.objs.size + 1 + 1 ≤ dx := by
      first
        | (simpa only [Heap.size_push] using dn)
        | exact dn
    exact ⟨rfl, fin h' tk' (hp.objs.size + 1) dx ⟨old, Nat.le_succ _, ⟨_, _, hx, rfl, rfl, rfl, rfl, rfl⟩, Nat.le_trans (Nat.le_trans (Nat.le_succ _) (Nat.le_succ _)) z, dne, hns⟩⟩
end
end EgX
end PySem
namespace L2N
open PySem PySem.Spec PyProof.Rows L2
theorem relO_givenN {v : V} {v' : Value} (r : RelV v v') (f : Str) : RelO (List.lookup f [(("given" : Str), v)]) (if f = "given" then some v' else none) := by
  by_cases hw : f = "given"
  · subst hw
    rw [if_pos rfl, show List.lookup ("given" : Str) [(("given" : Str), v)] = some v by simp [List.lookup]]
    exact r
  · rw [if_neg hw, show List.lookup f [(("given" : Str), v)] = none by simp [List.lookup, show (f == ("given" : Str)) = false by simpa using hw]]
    trivial
section
variable {X : Cx} {C G fI : Addr} {cn qn : Str}
/-- C(e), being made to be raised -/
def tMk_givenN (C : Addr) (ta : TA) : St → Hp → XK → Prop := fun σ H Q => ta σ H fun vs H1 =>
  ∃ v, vs = [v] ∧ ∀ d, H1 d = none → Q (.ref C) (some d) (upd H1 d (.xd [(("given" : Str), v)]))
theorem pmk_givenN {a : Expr} {ta : TA} {p pos : Pos} {k : Nat} (T : PySem.EgX.Low_givenN X.K X.mg cn qn C G fI) (hr : Room k X.A) (ha : PA X [a] ta) (hg : Gl X cn) (hdb : (cn == ("__debug__" : Str)) = false)
    (he : starEach (a :: []) X.env = (false, eval a X.env) :: starEach [] X.env := by rfl) (hpl : (backTo pos (starEach [] X.env)).any (·.1) = false := by rfl) :
    L2N.PMk X (.Call (.Name cn p) [a] [] pos) (tMk_givenN C ta) := by
  intro pins s σ H Q I h
  refine wpAny_Call_Name_kw (ld_glob I hg T.gC ?_ hdb)
  refine PySem.W.callWith_K (h₀ := X.base) I.ok.mod.kin T.kC (thn (ha.run pos pins s σ H _ I h) fun us s1 hh => ?_) he hpl
  obtain ⟨vs, H1, I1, r1, v, ev, q1⟩ := hh
  subst ev
  refine ⟨I1.kIn, ?_⟩
  cases r1 with
  | cons rv rn =>
    rename_i v' us'
    cases rn
    show wpAny _ _ (call (.ref C) [v']) _ _ _
    have hlim := I1.nolimit
    obtain ⟨hp, g, dr, tk, os⟩ := s1
    refine wpAny_call (PySem.EgX.made_givenN T I1.kIn hlim (by have := hr.dp; omega) fun h' tk' e d M => ?_)
    show L2N.MkP X pins σ Q (.ref e) ⟨h', g, dr, tk', os⟩
    obtain ⟨oe, fv, hoe, hc, hd, hdat, h1, h2⟩ := M.obj
    have hns := M.ns
    obtain ⟨G', g1, g2⟩ := restrict h' fun b => decide (b ≠ e)
    have gk : ∀ b, b ≠ e → G'.get? b = h'.get? b := fun b hb => g1 b (decide_eq_true hb)
    have ge : G'.get? e = none := g2 e (by simp)
    have old : ∀ b o, hp.get? b = some o → G'.get? b = some o := fun b o q =>
      (gk b (Nat.ne_of_lt (Nat.lt_of_lt_of_le (Heap.lt_size q) M.new))).trans (M.keep b o q)
    have ob : ObjOk X.prog X.w (upd H1 d (.xd [(("given" : Str), v)])) G' d (.xd [(("given" : Str), v)]) :=
      ⟨_, hns.at (fun o q => (gk d M.dne).trans q), fun f => relO_givenN rv f⟩
    have J : Inv X pins σ (upd H1 d (.xd [(("given" : Str), v)])) ⟨G', g, dr, tk', os⟩ := I1.laid (t' := tk') old M.dbig ob
    refine ⟨e, oe, fv, ⟨G', g, dr, tk', os⟩, _, .ref C, some d, rfl, J, fun b o q => ?_, ge, hoe, ⟨hc, hd, fun vs e => by rw [hdat] at e; cases e; exact h2⟩, hdat, h1, ?_, rfl, I1.bare, raises_own T.exC T.tyC, q1 d (I1.hok.fresh M.dbig)⟩
    · by_cases hb : b = e
      · have q' : G'.get? b = some o := q
        rw [hb, ge] at q'
        cases q'
      · exact (gk b hb).symm.trans q
    · rw [upd_ne (Ne.symm M.dne)]
      exact I1.hok.fresh M.new
def tRaise_givenN (C : Addr) (W : WX) (ta : TA) : TS := fun _ σ H => tMk_givenN C ta σ H fun cls d H' => W cls d σ H'
theorem ps_raise_givenN {a : Expr} {ta : TA} {W : WX} {p pos pos2 : Pos} {k : Nat} (hc : X.calm = true) (T : PySem.EgX.Low_givenN X.K X.mg cn qn C G fI) (hr : Room k X.A) (tk : L2N.Takes X W) (ha : PA X [a] ta) (hg : Gl X cn := by rfl) (hdb : (cn == ("__debug__" : Str)) = false := by decide)
    (he : starEach (a :: []) X.env = (false, eval a X.env) :: starEach [] X.env := by rfl) (hpl : (backTo pos (starEach [] X.env)).any (·.1) = false := by rfl) :
    PS X (.Raise (some (.Call (.Name cn p) [a] [] pos)) none pos2) (tRaise_givenN C W ta)   := L2N.ps_raise hc tk (pmk_givenN T hr ha hg hdb he hpl)
/-- e.time, e the error that the suite holds (at a; its class cls, its dict d) -/
def tBy_givenN (C : Addr) (a : Addr) (cls : Value) (d : Option Addr) (te : TE) : TE := fun σ H Q => te σ H fun x H1 =>
  x = .ref a ∧ cls = .ref C ∧ ∃ (dd : Addr) (v : V), d = some dd ∧ H1 dd = some (.xd [(("given" : Str), v)]) ∧ Q v H1
theorem pe_by_givenN {a : Addr} {oe : Obj} {cls : Value} {d : Option Addr} {pn : List (Addr × Obj)} {e : Expr} {te : TE} {pos : Pos} (T : PySem.EgX.Low_givenN X.K X.mg cn qn C G fI) (hz : Zc cls d oe) (hf : ∃ vs, oe.data = .fields vs)
    (he : PE (X.suite a ((a, oe) :: pn)) e te) (hb : attributeBase e "given" X.env (eval e X.env) = eval e X.env := by rfl) :
    PE (X.suite a ((a, oe) :: pn)) (.Attribute e "given" pos) (tBy_givenN C a cls d te) := by
  refine ⟨fun pins s σ H Q I h => ?_⟩
  refine attr_of hb (thn (he.run pins s σ H _ I h) fun u s1 hh => ?_)
  obtain ⟨x, H1, I1, rx, ex, ec, dd, v, ed, ea, q⟩ := hh
  subst ex
  obtain rfl : u = Value.ref a := rx
  subst ec
  subst ed
  obtain ⟨ha, _⟩ := I1.pin (a, oe) (List.mem_append_left _ List.mem_cons_self)
  obtain ⟨vs, hd⟩ := hf
  have hx : ObjOk X.prog X.w H1 s1.heap dd (.xd [(("given" : Str), v)]) := I1.hok dd _ ea
  obtain ⟨mA, hns, hr⟩ := hx
  obtain ⟨od, ho, hl⟩ := lookIn_ns hns
  have l : List.lookup ("given" : Str) [(("given" : Str), v)] = some v := by simp [List.lookup]
  obtain ⟨u, hu, ru⟩ := RelO.some_of (v := v) (o := mA "given") (by rw [← l]; exact hr "given")
  have J : PySem.W.InstAt s1.heap a oe C (some od) := ⟨ha, hz.1, by unfold PySem.W.notCls; rw [hd] <;> rfl, by rw [hz.2]; exact ho⟩
  exact HandSPX.exc_get I1.kIn J T.ga T.gg T.exC (PySem.W.findObj_own T.hdC T.noN rfl (by rw [hl, hu])) (handed_of ru) ⟨v, H1, I1.tok _, ru, q⟩
end
end L2N

/-! EgLowN_grain -/
set_option Elab.async false
set_option linter.all false
set_option maxRecDepth 100000
set_option maxHeartbeats 2000000
/-! ### an own error with the field grain -/
namespace PySem
namespace EgX
open PySem.W PySem.Calls PyProof.Rows PySem.HandSPX
def iA_grainN (p1 p2 : Pos) : Arguments :=
  { posonlyargs := [], args := [{ arg := "self", annotation := none, pos := p1 }, { arg := "grain", annotation := none, pos := p2 }],
    vararg := none, kwonlyargs := [], kw_defaults := [], kwarg := none, defaults := [] }
def iB_grainN (q1 q2 q3 q4 : Pos) : List Stmt := [.Assign [.Attribute (.Name "self" q1) "grain" q2] (.Name "grain" q3) q4]
def iS_grainN : Scope :=
  { kind := .function, names := [(PySem.Str.ofString "self", .local), (PySem.Str.ofString "grain", .local)], isGenerator := false, isCoroutine := false, more := [] }
/-- the class cn at C under G, its __init__ at fI -/
structure Low_grainN (K : Frag) (mg : Str → Option Value) (cn qn : Str) (C G fI : Addr) : Prop where
  gC : mg cn = some (.ref C)
  cls : ∃ nm q N bs sn sub ab col dd k0 k1 k2 k3 k5, K.lookup C = some (excClassObj nm q C N bs (.ref G :: PySem.ESX.exTail) true sn sub ab col dd k0 k1 k2 k3 k5 "Exception.__new__")
  sa : findIn K (.ref C) "__setattr__" = some (some (.builtin "object.__setattr__"))
  ga : findIn K (.ref C) "__getattribute__" = some (some (.builtin "BaseException.__getattribute__"))
  gg : findIn K (.ref C) "__getattr__" = some none
  noN : findIn K (.ref C) "grain" = some none
  iC : findIn K (.ref C) "__init__" = some (some (.ref fI))
  tC : typeIn K (.ref fI) = some (.type "function")
  kC : keepIn K (.ref C) = true
  exC : subIn K (.ref C) (.type "BaseException") = some true
  tyC : typeIn K (.ref C) = some (.type "type")
  hdC : hasDictIn K C = true
  te : exmOne K (.ref C) (.ref C) = some true
  fn : ∃ (oc : Value) (od : Option Addr) (doc pm : Value) (an : Option Addr) (cdv ct : Value) (osl : Array (Option Value)) (p1 p2 q1 q2 q3 q4 : Pos),
    K.lookup fI = some ⟨oc, od, .func (fnOf "__init__" qn (iA_grainN p1 p2) (iB_grainN q1 q2 q3 q4) iS_grainN .none .none doc pm an cdv ct), osl⟩ ∧ codeIn K cdv qn = true
theorem ldC_grainN {M : Model} {s : Shared} {nn : Str} {sc : Scope} {L a : Addr} {cd : Value} {m : Str → Option Value} {x : Str} {pos : Pos} {v : Value} {Q : Value → Shared → Prop} {A : Around} {E : Value → Shared → Prop}
    (hn : s.heap.Ns L m) (hv : m x = some v) (h : Q v s)
    (hk : sc.kind = .function := by rfl) (hl : (envOfC nn sc L a cd).kindOf x = some .local := by rfl) (hd : (x == ("__debug__" : Str)) = false := by decide) :
    wpAny M A (eval (.Name x pos) (envOfC nn sc L a cd)) Q E s :=
  wpAny_Name (wpAny_loadName_local hk hl hn hv h) hd
structure InitEnd_grainN (h h' : Heap) (x C dx t1 : Addr) (v : Value) : Prop where
  keep : ∀ b o, b ≠ x → h.get? b = some o → h'.get? b = some o
  obj : h'.get? x = some { cls := .ref C, dict := some dx, data := .fields #[.ref t1, .none, .none, .none, .bool false, .none] }
  dbig : h.objs.size ≤ dx
  dne : dx ≠ x
  ns : h'.Ns1 dx (fun y => if y = "grain" then some v else none)
structure Made_grainN (h h' : Heap) (e C d : Addr) (v : Value) : Prop where
  keep : ∀ b o, h.get? b = some o → h'.get? b = some o
  new : h.objs.size ≤ e
  obj : ∃ oe vs, h'.get? e = some oe ∧ oe.cls = .ref C ∧ oe.dict = some d ∧ oe.data = .fields vs ∧ vs[1]? = some .none ∧ vs[2]? = some .none
  dbig : h.objs.size ≤ d
  dne : d ≠ e
  ns : h'.Ns1 d (fun y => if y = "grain" then some v else none)
section
variable {prog : Program} {w : World} {A : Around} {E : Value → Shared → Prop} {R : Result → Shared → Prop} {s : Shared} {K : Frag} {mg : Str → Option Value} {C G fI : Addr} {cn qn : Str}
theorem init_grainN (T : Low_grainN K mg cn qn C G fI) {x t0 : Addr} {v : Value} (kin : K.In s.heap) (hlim : s.heap.NoLimit) (hx : s.heap.get? x = some (excO C t0)) (hnx : K.lookup x = none) (hroom : A.depth < recursionLimit)
    (fin : ∀ h' tk dx, InitEnd_grainN s.heap h' x C dx t0 v → R (.ok (.ret .none)) { s with heap := h', toks := tk }) :
    codeAny (model prog w) A (.call (.ref fI) ⟨[.ref x, v], []⟩) R s := by
  obtain ⟨oc, od, doc, pm, an, cdv, ct, osl, p1, p2, q1, q2, q3, q4, ho, hcd⟩ := T.fn
  obtain ⟨nm, q, N, bs, sn, sub, ab, col, dd, k0, k1, k2, k3, k5, hC⟩ := T.cls
  have hcl : clsIn K C = some { name := nm, bases := bs, mro := mroG C G, ns := N, qualname := q, hasDict := true, slotNames := sn, subclasses := sub, abstract := ab, collection := col, hasDel := false } := by
    unfold clsIn
    rw [hC] <;> rfl
  refine Att.call_fn (binds := [("self", .ref x), ("grain", v)]) kin hlim ho hcd hroom (BindsTo.of_eq (by first | rfl | with_unfolding_all rfl)) (by first | rfl | decide | with_unfolding_all rfl) (fun s1 IC => ?_) rfl rfl rfl
  obtain ⟨h1, tk1, rfl⟩ := IC.toInCall.same
  have k : ∀ b o, s.heap.get? b = some o → h1.get? b = some o := IC.toInCall.keep
  have hn := IC.toInCall.ns
  have kin1 : K.In h1 := kin.keeps k
  have hx1 := k _ _ hx
  show wpAny _ _ (execs _ _) _ _ _
  refine wpAny_execs_cons (plainObj_wpAny_Assign_Attribute ?_)
  refine ldC_grainN (v := v) hn (by first | rfl | with_unfolding_all rfl | kernel_rfl) (ldC_grainN (v := .ref x) hn (by first | rfl | with_unfolding_all rfl | kernel_rfl) ?_)
  refine set_plain kin1 (ox := excO C t0) (od := none) ⟨hx1, rfl, rfl, trivial⟩ T.sa ?_
  refine osaG kin1 hx1 hcl rfl rfl T.noN (fun h3 tk3 dx k3 dn dne hx3 hn3 => ?_)
  show wpAny _ _ (execs _ _) _ _ _
  have z : s.heap.objs.size < h1.objs.size := hn.lt
  exact wpAny_execs_nil (fin h3 tk3 dx ⟨fun b o hb e => k3 b o hb (k b o e), hx3, Nat.le_of_lt (Nat.lt_of_lt_of_le z dn), dne, hn3⟩)
theorem made_grainN (T : Low_grainN K mg cn qn C G fI) {v : Value} (kin : K.In s.heap) (hlim : s.heap.NoLimit) (hroom : A.depth + 1 < recursionLimit)
    (fin : ∀ h' tk e d, Made_grainN s.heap h' e C d v → R (.ok (.ret (.ref e))) { s with heap := h', toks := tk }) :
    codeAny (model prog w) A (.call (.ref C) ⟨[v], []⟩) R s := by
  obtain ⟨nm, q, N, bs, sn, sub, ab, col, dd, k0, k1, k2, k3, k5, hC⟩ := T.cls
  obtain ⟨hp, g, dr, tk, os⟩ := s
  have k : ∀ b o, hp.get? b = some o → ((hp.push (kdv_tup [v])).push (excO C hp.objs.size)).get? b = some o :=
    fun b o e => Heap.get?_push_of_some _ (Heap.get?_push_of_some _ e)
  have hget : ((hp.push (kdv_tup [v])).push (excO C hp.objs.size)).get? (hp.objs.size + 1) = some (excO C hp.objs.size) := by heap_get
  have hnx : K.lookup (hp.objs.size + 1) = none := by
    cases e : K.lookup (hp.objs.size + 1) with
    | none => rfl
    | some o =>
      have z : hp.get? (hp.objs.size + 1) = some o := kin _ _ e
      exact absurd (Nat.lt_of_succ_lt (Heap.lt_size z)) (Nat.lt_irrefl _)
  refine call_own F.excBase_Exception (fun Y => tailG_con G Y) (kin _ _ hC) (looks_findIn kin T.iC) (fun self => bind_fn kin self T.tC) (by rw [sizeLine_eq]; show 1 ≤ 16777216; decide) ?_
  refine init_grainN (s := ⟨(hp.push (kdv_tup [v])).push (excO C hp.objs.size), g, dr, tk, os⟩) T (kin.keeps k) (hlim.keeps k) hget hnx ?_ fun h' tk' dx ⟨k', hx, dn, dne, hns⟩ => ?_
  · show A.depth + 1 < recursionLimit
    exact hroom
  · have old : ∀ b o, hp.get? b = some o → h'.get? b = some o := fun b o e => k' b o (Nat.ne_of_lt (Nat.lt_succ_of_lt (Heap.lt_size e))) (k b o e)
    have z : hp.objs.size + 1 + 1 ≤ dx := by
      first
        | (simpa only [Heap.size_push] using dn)
        | exact dn
    exact ⟨rfl, fin h' tk' (hp.objs.size + 1) dx ⟨old, Nat.le_succ _, ⟨_, _, hx, rfl, rfl, rfl, rfl, rfl⟩, Nat.le_trans (Nat.le_trans (Nat.le_succ _) (Nat.le_succ _)) z, dne, hns⟩⟩
end
end EgX
end PySem
namespace L2N
open PySem PySem.Spec PyProof.Rows L2
theorem relO_grainN {v : V} {v' : Value} (r : RelV v v') (f : Str) : RelO (List.lookup f [(("grain" : Str), v)]) (if f = "grain" then some v' else none) := by
  by_cases hw : f = "grain"
  · subst hw
    rw [if_pos rfl, show List.lookup ("grain" : Str) [(("grain" : Str), v)] = some v by simp [List.lookup]]
    exact r
  · rw [if_neg hw, show List.lookup f [(("grain" : Str), v)] = none by simp [List.lookup, show (f == ("grain" : Str)) = false by simpa using hw]]
    trivial
section
variable {X : Cx} {C G fI : Addr} {cn qn : Str}
/-- C(e), being made to be raised -/
def tMk_grainN (C : Addr) (ta : TA) : St → Hp → XK → Prop := fun σ H Q => ta σ H fun vs H1 =>
  ∃ v, vs = [v] ∧ ∀ d, H1 d = none → Q (.ref C) (some d) (upd H1 d (.xd [(("grain" : Str), v)]))
theorem pmk_grainN {a : Expr} {ta : TA} {p pos : Pos} {k : Nat} (T : PySem.EgX.Low_grainN X.K X.mg cn qn C G fI) (hr : Room k X.A) (ha : PA X [a] ta) (hg : Gl X cn) (hdb : (cn == ("__debug__" : Str)) = false)
    (he : starEach (a :: []) X.env = (false, eval a X.env) :: starEach [] X.env := by rfl) (hpl : (backTo pos (starEach [] X.env)).any (·.1) = false := by rfl) :
    L2N.PMk X (.Call (.Name cn p) [a] [] pos) (tMk_grainN C ta) := by
  intro pins s σ H Q I h
  refine wpAny_Call_Name_kw (ld_glob I hg T.gC ?_ hdb)
  refine PySem.W.callWith_K (h₀ := X.base) I.ok.mod.kin T.kC (thn (ha.run pos pins s σ H _ I h) fun us s1 hh => ?_) he hpl
  obtain ⟨vs, H1, I1, r1, v, ev, q1⟩ := hh
  subst ev
  refine ⟨I1.kIn, ?_⟩
  cases r1 with
  | cons rv rn =>
    rename_i v' us'
    cases rn
    show wpAny _ _ (call (.ref C) [v']) _ _ _
    have hlim := I1.nolimit
    obtain ⟨hp, g, dr, tk, os⟩ := s1
    refine wpAny_call (PySem.EgX.made_grainN T I1.kIn hlim (by have := hr.dp; omega) fun h' tk' e d M => ?_)
    show L2N.MkP X pins σ Q (.ref e) ⟨h', g, dr, tk', os⟩
    obtain ⟨oe, fv, hoe, hc, hd, hdat, h1, h2⟩ := M.obj
    have hns := M.ns
    obtain ⟨G', g1, g2⟩ := restrict h' fun b => decide (b ≠ e)
    have gk : ∀ b, b ≠ e → G'.get? b = h'.get? b := fun b hb => g1 b (decide_eq_true hb)
    have ge : G'.get? e = none := g2 e (by simp)
    have old : ∀ b o, hp.get? b = some o → G'.get? b = some o := fun b o q =>
      (gk b (Nat.ne_of_lt (Nat.lt_of_lt_of_le (Heap.lt_size q) M.new))).trans (M.keep b o q)
    have ob : ObjOk X.prog X.w (upd H1 d (.xd [(("grain" : Str), v)])) G' d (.xd [(("grain" : Str), v)]) :=
      ⟨_, hns.at (fun o q => (gk d M.dne).trans q), fun f => relO_grainN rv f⟩
    have J : Inv X pins σ (upd H1 d (.xd [(("grain" : Str), v)])) ⟨G', g, dr, tk', os⟩ := I1.laid (t' := tk') old M.dbig ob
    refine ⟨e, oe, fv, ⟨G', g, dr, tk', os⟩, _, .ref C, some d, rfl, J, fun b o q => ?_, ge, hoe, ⟨hc, hd, fun vs e => by rw [hdat] at e; cases e; exact h2⟩, hdat, h1, ?_, rfl, I1.bare, raises_own T.exC T.tyC, q1 d (I1.hok.fresh M.dbig)⟩
    · by_cases hb : b = e
      · have q' : G'.get? b = some o := q
        rw [hb, ge] at q'
        cases q'
      · exact (gk b hb).symm.trans q
    · rw [upd_ne (Ne.symm M.dne)]
      exact I1.hok.fresh M.new
def tRaise_grainN (C : Addr) (W : WX) (ta : TA) : TS := fun _ σ H => tMk_grainN C ta σ H fun cls d H' => W cls d σ H'
theorem ps_raise_grainN {a : Expr} {ta : TA} {W : WX} {p pos pos2 : Pos} {k : Nat} (hc : X.calm = true) (T : PySem.EgX.Low_grainN X.K X.mg cn qn C G fI) (hr : Room k X.A) (tk : L2N.Takes X W) (ha : PA X [a] ta) (hg : Gl X cn := by rfl) (hdb : (cn == ("__debug__" : Str)) = false := by decide)
    (he : starEach (a :: []) X.env = (false, eval a X.env) :: starEach [] X.env := by rfl) (hpl : (backTo pos (starEach [] X.env)).any (·.1) = false := by rfl) :
    PS X (.Raise (some (.Call (.Name cn p) [a] [] pos)) none pos2) (tRaise_grainN C W ta)   := L2N.ps_raise hc tk (pmk_grainN T hr ha hg hdb he hpl)
/-- e.time, e the error that the suite holds (at a; its class cls, its dict d) -/
def tBy_grainN (C : Addr) (a : Addr) (cls : Value) (d : Option Addr) (te : TE) : TE := fun σ H Q => te σ H fun x H1 =>
  x = .ref a ∧ cls = .ref C ∧ ∃ (dd : Addr) (v : V), d = some dd ∧ H1 dd = some (.xd [(("grain" : Str), v)]) ∧ Q v H1
theorem pe_by_grainN {a : Addr} {oe : Obj} {cls : Value} {d : Option Addr} {pn : List (Addr × Obj)} {e : Expr} {te : TE} {pos : Pos} (T : PySem.EgX.Low_grainN X.K X.mg cn qn C G fI) (hz : Zc cls d oe) (hf : ∃ vs, oe.data = .fields vs)
    (he : PE (X.suite a ((a, oe) :: pn)) e te) (hb : attributeBase e "grain" X.env (eval e X.env) = eval e X.env := by rfl) :
    PE (X.suite a ((a, oe) :: pn)) (.Attribute e "grain" pos) (tBy_grainN C a cls d te) := by
  refine ⟨fun pins s σ H Q I h => ?_⟩
  refine attr_of hb (thn (he.run pins s σ H _ I h) fun u s1 hh => ?_)
  obtain ⟨x, H1, I1, rx, ex, ec, dd, v, ed, ea, q⟩ := hh
  subst ex
  obtain rfl : u = Value.ref a := rx
  subst ec
  subst ed
  obtain ⟨ha, _⟩ := I1.pin (a, oe) (List.mem_append_left _ List.mem_cons_self)
  obtain ⟨vs, hd⟩ := hf
  have hx : ObjOk X.prog X.w H1 s1.heap dd (.xd [(("grain" : Str), v)]) := I1.hok dd _ ea
  obtain ⟨mA, hns, hr⟩ := hx
  obtain ⟨od, ho, hl⟩ := lookIn_ns hns
  have l : List.lookup ("grain" : Str) [(("grain" : Str), v)] = some v := by simp [List.lookup]
  obtain ⟨u, hu, ru⟩ := RelO.some_of (v := v) (o := mA "grain") (by rw [← l]; exact hr "grain")
  have J : PySem.W.InstAt s1.heap a oe C (some od) := ⟨ha, hz.1, by unfold PySem.W.notCls; rw [hd] <;> rfl, by rw [hz.2]; exact ho⟩
  exact HandSPX.exc_get I1.kIn J T.ga T.gg T.exC (PySem.W.findObj_own T.hdC T.noN rfl (by rw [hl, hu])) (handed_of ru) ⟨v, H1, I1.tok _, ru, q⟩
end
end L2N

/-! EgLowN_count -/
set_option Elab.async false
set_option linter.all false
set_option maxRecDepth 100000
set_option maxHeartbeats 2000000
/-! ### an own error with the field count -/
namespace PySem
namespace EgX
open PySem.W PySem.Calls PyProof.Rows PySem.HandSPX
def iA_countN (p1 p2 : Pos) : Arguments :=
  { posonlyargs := [], args := [{ arg := "self", annotation := none, pos := p1 }, { arg := "count", annotation := none, pos := p2 }],
    vararg := none, kwonlyargs := [], kw_defaults := [], kwarg := none, defaults := [] }
def iB_countN (q1 q2 q3 q4 : Pos) : List Stmt := [.Assign [.Attribute (.Name "self" q1) "count" q2] (.Name "count" q3) q4]
def iS_countN : Scope :=
  { kind := .function, names := [(PySem.Str.ofString "self", .local), (PySem.Str.ofString "count", .local)], isGenerator := false, isCoroutine := false, more := [] }
/-- the class cn at C under G, its __init__ at fI -/
structure Low_countN (K : Frag) (mg : Str → Option Value) (cn qn : Str) (C G fI : Addr) : Prop where
  gC : mg cn = some (.ref C)
  cls : ∃ nm q N bs sn sub ab col dd k0 k1 k2 k3 k5, K.lookup C = some (excClassObj nm q C N bs (.ref G :: PySem.ESX.exTail) true sn sub ab col dd k0 k1 k2 k3 k5 "Exception.__new__")
  sa : findIn K (.ref C) "__setattr__" = some (some (.builtin "object.__setattr__"))
  ga : findIn K (.ref C) "__getattribute__" = some (some (.builtin "BaseException.__getattribute__"))
  gg : findIn K (.ref C) "__getattr__" = some none
  noN : findIn K (.ref C) "count" = some none
  iC : findIn K (.ref C) "__init__" = some (some (.ref fI))
  tC : typeIn K (.ref fI) = some (.type "function")
  kC : keepIn K (.ref C) = true
  exC : subIn K (.ref C) (.type "BaseException") = some true
  tyC : typeIn K (.ref C) = some (.type "type")
  hdC : hasDictIn K C = true
  te : exmOne K (.ref C) (.ref C) = some true
  fn : ∃ (oc : Value) (od : Option Addr) (doc pm : Value) (an : Option Addr) (cdv ct : Value) (osl : Array (Option Value)) (p1 p2 q1 q2 q3 q4 : Pos),
    K.lookup fI = some ⟨oc, od, .func (fnOf "__init__" qn (iA_countN p1 p2) (iB_countN q1 q2 q3 q4) iS_countN .none .none doc pm an cdv ct), osl⟩ ∧ codeIn K cdv qn = true
structure InitEnd_countN (h h' : Heap) (x C dx t1 : Addr) (v : Value) : Prop where
  keep : ∀ b o, b ≠ x → h.get? b = some o → h'.get? b = some o
  obj : h'.get? x = some { cls := .ref C, dict := some dx, data := .fields #[.ref t1, .none, .none, .none, .bool false, .none] }
  dbig : h.objs.size ≤ dx
  dne : dx ≠ x
  ns : h'.Ns1 dx (fun y => if y = "count" then some v else none)
structure Made_countN (h h' : Heap) (e C d : Addr) (v : Value) : Prop where
  keep : ∀ b o, h.get? b = some o → h'.get? b = some o
  new : h.objs.size ≤ e
  obj : ∃ oe vs, h'.get? e = some oe ∧ oe.cls = .ref C ∧ oe.dict = some d ∧ oe.data = .fields vs ∧ vs[1]? = some .none ∧ vs[2]? = some .none
  dbig : h.objs.size ≤ d
  dne : d ≠ e
  ns : h'.Ns1 d (fun y => if y = "count" then some v else none)
section
variable {prog : Program} {w : World} {A : Around} {E : Value → Shared → Prop} {R : Result → Shared → Prop} {s : Shared} {K : Frag} {mg : Str → Option Value} {C G fI : Addr} {cn qn : Str}
end
end EgX
end PySem
namespace L2N
open PySem PySem.Spec PyProof.Rows L2
section
variable {X : Cx} {C G fI : Addr} {cn qn : Str}
end
end L2N

/-! EgLowN_time -/
set_option Elab.async false
set_option linter.all false
set_option maxRecDepth 100000
set_option maxHeartbeats 2000000
/-! ### an own error with the field time -/
namespace PySem
namespace EgX
open PySem.W PySem.Calls PyProof.Rows PySem.HandSPX
def iA_timeN (p1 p2 : Pos) : Arguments :=
  { posonlyargs := [], args := [{ arg := "self", annotation := none, pos := p1 }, { arg := "time", annotation := none, pos := p2 }],
    vararg := none, kwonlyargs := [], kw_defaults := [], kwarg := none, defaults := [] }
def iB_timeN (q1 q2 q3 q4 : Pos) : List Stmt := [.Assign [.Attribute (.Name "self" q1) "time" q2] (.Name "time" q3) q4]
def iS_timeN : Scope :=
  { kind := .function, names := [(PySem.Str.ofString "self", .local), (PySem.Str.ofString "time", .local)], isGenerator := false, isCoroutine := false, more := [] }
/-- the class cn at C under G, its __init__ at fI -/
structure Low_timeN (K : Frag) (mg : Str → Option Value) (cn qn : Str) (C G fI : Addr) : Prop where
  gC : mg cn = some (.ref C)
  cls : ∃ nm q N bs sn sub ab col dd k0 k1 k2 k3 k5, K.lookup C = some (excClassObj nm q C N bs (.ref G :: PySem.ESX.exTail) true sn sub ab col dd k0 k1 k2 k3 k5 "Exception.__new__")
  sa : findIn K (.ref C) "__setattr__" = some (some (.builtin "object.__setattr__"))
  ga : findIn K (.ref C) "__getattribute__" = some (some (.builtin "BaseException.__getattribute__"))
  gg : findIn K (.ref C) "__getattr__" = some none
  noN : findIn K (.ref C) "time" = some none
  iC : findIn K (.ref C) "__init__" = some (some (.ref fI))
  tC : typeIn K (.ref fI) = some (.type "function")
  kC : keepIn K (.ref C) = true
  exC : subIn K (.ref C) (.type "BaseException") = some true
  tyC : typeIn K (.ref C) = some (.type "type")
  hdC : hasDictIn K C = true
  te : exmOne K (.ref C) (.ref C) = some true
  fn : ∃ (oc : Value) (od : Option Addr) (doc pm : Value) (an : Option Addr) (cdv ct : Value) (osl : Array (Option Value)) (p1 p2 q1 q2 q3 q4 : Pos),
    K.lookup fI = some ⟨oc, od, .func (fnOf "__init__" qn (iA_timeN p1 p2) (iB_timeN q1 q2 q3 q4) iS_timeN .none .none doc pm an cdv ct), osl⟩ ∧ codeIn K cdv qn = true
structure InitEnd_timeN (h h' : Heap) (x C dx t1 : Addr) (v : Value) : Prop where
  keep : ∀ b o, b ≠ x → h.get? b = some o → h'.get? b = some o
  obj : h'.get? x = some { cls := .ref C, dict := some dx, data := .fields #[.ref t1, .none, .none, .none, .bool false, .none] }
  dbig : h.objs.size ≤ dx
  dne : dx ≠ x
  ns : h'.Ns1 dx (fun y => if y = "time" then some v else none)
structure Made_timeN (h h' : Heap) (e C d : Addr) (v : Value) : Prop where
  keep : ∀ b o, h.get? b = some o → h'.get? b = some o
  new : h.objs.size ≤ e
  obj : ∃ oe vs, h'.get? e = some oe ∧ oe.cls = .ref C ∧ oe.dict = some d ∧ oe.data = .fields vs ∧ vs[1]? = some .none ∧ vs[2]? = some .none
  dbig : h.objs.size ≤ d
  dne : d ≠ e
  ns : h'.Ns1 d (fun y => if y = "time" then some v else none)
section
variable {prog : Program} {w : World} {A : Around} {E : Value → Shared → Prop} {R : Result → Shared → Prop} {s : Shared} {K : Frag} {mg : Str → Option Value} {C G fI : Addr} {cn qn : Str}
end
end EgX
end PySem
namespace L2N
open PySem PySem.Spec PyProof.Rows L2
section
variable {X : Cx} {C G fI : Addr} {cn qn : Str}
end
end L2N

/-! MiHot -/
set_option Elab.async false
set_option linter.all false
set_option maxRecDepth 100000
set_option maxHeartbeats 2000000
/-! ## mirrors where errors' contexts are None: loops within handlers -/
namespace Mi
open PySem L2 Eg L2N
section
variable {c : Cn} {W : WX} {te ta tb tc : TE} {t : TT} {a b e : E} {KF : PySem.W.Frag} {ts tu tw : TS}
def iLstM (a : E) : List SD → M (List PyData) := fun δ => (a δ).bind fun x => M.of (match x with
  | .list xs => some xs
  | _ => none)
theorem ms_raise_givenN {Ca : Addr} {C : String} {ta : TA} {r : As} (hC : Ca = c.cl C) (ha : MA c W ta r) : MS c W (tRaise_givenN Ca W ta) (sRaise C ["given"] r) := fun φ0 τ0 G0 φ τ δ G H σ D w g s k => by
  subst hC
  refine ha τ0 φ τ δ G H σ _ w g.le s (M.wp_mono (fun as φ1 k1 vs τ1 G1 H1 w1 g1 r1 => ?_) (fun C fs φ1 k1 => FlR.xq g s k1) _ _ (wp_catch _ _ k))
  obtain ⟨xs, hx, k2⟩ := wp_of ((M.wp_bind _ _).mp k1)
  have rl := r1.data hx
  match xs, rl with
  | [x], .cons (v := v) r .nil =>
    refine ⟨v, rfl, fun dd hd => ?_⟩
    exact k2 σ (some dd) τ1 _ _ (w1.laid hd) ((g.trans g1).trans (Go.laid w1 g1.le hd)) ((s.go g1).go (Go.laid w1 g1.le hd)) (.inr ⟨dd, [("given", v)], rfl, upd_same, (.cons (Rp.mono (Ex.new (w1.gn hd)) _ _ r) .nil)⟩)
  | [], .nil => exact k2.elim
  | _ :: _ :: _, .cons _ (.cons _ _) => rw [if_neg (by simp)] at k2; exact k2.elim
theorem me_by_givenN {i : Nat} {ar : Addr} {d : Option Addr} {Ca : Addr} (hc : c.ec i = some (ar, Ca, d)) : ME c W (tBy_givenN Ca ar (.ref Ca) d (tVar i)) (xBy i "given") := fun τ0 φ τ δ G H σ Q w l s k => by
  obtain ⟨dd, x, v, edd, eo, hg, r, k2⟩ := by_one hc s k
  exact ⟨_, eo, rfl, rfl, dd, v, edd, w.ex _ _ hg, k2 v τ G H w (Go.refl l) r⟩
theorem ms_raise_grainN {Ca : Addr} {C : String} {ta : TA} {r : As} (hC : Ca = c.cl C) (ha : MA c W ta r) : MS c W (tRaise_grainN Ca W ta) (sRaise C ["grain"] r) := fun φ0 τ0 G0 φ τ δ G H σ D w g s k => by
  subst hC
  refine ha τ0 φ τ δ G H σ _ w g.le s (M.wp_mono (fun as φ1 k1 vs τ1 G1 H1 w1 g1 r1 => ?_) (fun C fs φ1 k1 => FlR.xq g s k1) _ _ (wp_catch _ _ k))
  obtain ⟨xs, hx, k2⟩ := wp_of ((M.wp_bind _ _).mp k1)
  have rl := r1.data hx
  match xs, rl with
  | [x], .cons (v := v) r .nil =>
    refine ⟨v, rfl, fun dd hd => ?_⟩
    exact k2 σ (some dd) τ1 _ _ (w1.laid hd) ((g.trans g1).trans (Go.laid w1 g1.le hd)) ((s.go g1).go (Go.laid w1 g1.le hd)) (.inr ⟨dd, [("grain", v)], rfl, upd_same, (.cons (Rp.mono (Ex.new (w1.gn hd)) _ _ r) .nil)⟩)
  | [], .nil => exact k2.elim
  | _ :: _ :: _, .cons _ (.cons _ _) => rw [if_neg (by simp)] at k2; exact k2.elim
theorem me_by_grainN {i : Nat} {ar : Addr} {d : Option Addr} {Ca : Addr} (hc : c.ec i = some (ar, Ca, d)) : ME c W (tBy_grainN Ca ar (.ref Ca) d (tVar i)) (xBy i "grain") := fun τ0 φ τ δ G H σ Q w l s k => by
  obtain ⟨dd, x, v, edd, eo, hg, r, k2⟩ := by_one hc s k
  exact ⟨_, eo, rfl, rfl, dd, v, edd, w.ex _ _ hg, k2 v τ G H w (Go.refl l) r⟩
end
section
variable {P : Program} {w : World} {K : PySem.W.Frag} {mg : Str → Option Value} {base : Heap}
theorem fn_miN {cl : String → Addr} {b : S} {x qual : Str} {st : Stmt} {f : Addr} {fd : FuncData} {N ps : List Str} {k n j : Nat} (F : Fun K x qual st f fd) (S0 : FnScope N ps (defScope st))
    (hbody : ∀ (cdv : Value) (A : Around) (outer : List Env) (s : Shared) (H : Hp) (E : XK), Room k (A.deeper (PyProof.Rows.envOfC qual (defScope st) s.heap.objs.size f cdv)) → Gd (A.deeper (PyProof.Rows.envOfC qual (defScope st) s.heap.objs.size f cdv)) →
      ∃ t, PSs (cxOf (L2N.CX P w) P w K mg base N qual (defScope st) f cdv A outer s H E) (defBody st) t ∧ MS ⟨K, cl, fun _ => none⟩ (fun cls d _ H => E cls d H) t b) (hn : N.length = n := by rfl) (hj : ps.length = j := by rfl) :
    FnG P w K mg base (L2N.CX P w) (k + 1) f fd ps (SpM K cl (mDef n j b)) := by
  subst hn; subst hj
  refine L2N.okG F S0 (fun vs H Q E h => ?_) (fun cdv A outer s H vs Q E hr hgd h => ?_)
  · obtain ⟨φ, τ, G, as, wd, l, ha, hp⟩ := h
    unfold mDef at hp
    by_cases hl : as.length = ps.length
    · rw [ha.len, hl]
    · rw [if_neg hl] at hp; exact hp.elim
  · obtain ⟨φ, τ, G, as, wd, l, ha, hp⟩ := h
    obtain ⟨t, ht, hw⟩ := hbody cdv A outer s H E hr hgd
    refine ⟨t, ht, ?_⟩
    unfold mDef at hp
    by_cases hl : as.length = ps.length
    · rw [if_pos hl] at hp
      have st := start_sl (c := ⟨K, cl, fun _ => none⟩) (φ := φ) (τ := τ) ha (N.length - as.length)
      have e0 : start N vs = vs.map some ++ List.replicate (N.length - as.length) none := by rw [← ha.len]; rfl
      rw [← e0] at st
      refine hw φ τ G φ τ _ G H (start N vs) _ wd (Go.refl l) st (M.wp_mono (fun fl φ1 k1 => ?_) (fun _ _ _ h => h) _ _ (M.wp_nox (X' := fun _ _ _ => False) _ _ ((M.wp_bind _ _).mp hp)))
      · cases fl with
        | nx δ => exact fun σ1 τ1 G1 H1 w1 g1 s1 => k1 .non τ1 G1 H1 w1 g1 .non
        | bk δ => exact k1.elim
        | ct δ => exact k1.elim
        | rt x => exact k1
        | rf xs => exact k1
        | xx C fs δ => exact fun σ1 d τ1 G1 H1 w1 g1 s1 hd => k1 d τ1 G1 H1 w1 g1 hd
    · rw [if_neg hl] at hp; exact hp.elim
end
end Mi

/-! EgLowN_tg -/
set_option Elab.async false
set_option linter.all false
set_option maxRecDepth 100000
set_option maxHeartbeats 2000000
/-! ### an own error with the fields time and grain -/
namespace PySem
namespace EgX
open PySem.W PySem.Calls PyProof.Rows PySem.HandSPX
section
open Builtin Builtin.ObjectAttr
variable {prog : Program} {w : World} {A : Around} {E : Value → Shared → Prop} {R : Result → Shared → Prop} {hp : Heap} {g : Array GenState} {d : Drawn} {t : Nat} {os : OsState}
end
def iA_tgN (p1 p2 p3 : Pos) : Arguments :=
  { posonlyargs := [], args := [{ arg := "self", annotation := none, pos := p1 }, { arg := "time", annotation := none, pos := p2 }, { arg := "grain", annotation := none, pos := p3 }],
    vararg := none, kwonlyargs := [], kw_defaults := [], kwarg := none, defaults := [] }
def iB_tgN (q1 q2 q3 q4 r1 r2 r3 r4 : Pos) : List Stmt := [.Assign [.Attribute (.Name "self" q1) "time" q2] (.Name "time" q3) q4, .Assign [.Attribute (.Name "self" r1) "grain" r2] (.Name "grain" r3) r4]
def iS_tgN : Scope :=
  { kind := .function, names := [(PySem.Str.ofString "self", .local), (PySem.Str.ofString "time", .local), (PySem.Str.ofString "grain", .local)], isGenerator := false, isCoroutine := false, more := [] }
/-- the class cn at C under G, its __init__ at fI -/
structure Low_tgN (K : Frag) (mg : Str → Option Value) (cn qn : Str) (C G fI : Addr) : Prop where
  gC : mg cn = some (.ref C)
  cls : ∃ nm q N bs sn sub ab col dd k0 k1 k2 k3 k5, K.lookup C = some (excClassObj nm q C N bs (.ref G :: PySem.ESX.exTail) true sn sub ab col dd k0 k1 k2 k3 k5 "Exception.__new__")
  sa : findIn K (.ref C) "__setattr__" = some (some (.builtin "object.__setattr__"))
  ga : findIn K (.ref C) "__getattribute__" = some (some (.builtin "BaseException.__getattribute__"))
  gg : findIn K (.ref C) "__getattr__" = some none
  noN : findIn K (.ref C) "time" = some none
  noM : findIn K (.ref C) "grain" = some none
  iC : findIn K (.ref C) "__init__" = some (some (.ref fI))
  tC : typeIn K (.ref fI) = some (.type "function")
  kC : keepIn K (.ref C) = true
  exC : subIn K (.ref C) (.type "BaseException") = some true
  tyC : typeIn K (.ref C) = some (.type "type")
  hdC : hasDictIn K C = true
  te : exmOne K (.ref C) (.ref C) = some true
  fn : ∃ (oc : Value) (od : Option Addr) (doc pm : Value) (an : Option Addr) (cdv ct : Value) (osl : Array (Option Value)) (p1 p2 p3 q1 q2 q3 q4 r1 r2 r3 r4 : Pos),
    K.lookup fI = some ⟨oc, od, .func (fnOf "__init__" qn (iA_tgN p1 p2 p3) (iB_tgN q1 q2 q3 q4 r1 r2 r3 r4) iS_tgN .none .none doc pm an cdv ct), osl⟩ ∧ codeIn K cdv qn = true
structure InitEnd_tgN (h h' : Heap) (x C dx t1 : Addr) (v v2 : Value) : Prop where
  keep : ∀ b o, b ≠ x → h.get? b = some o → h'.get? b = some o
  obj : h'.get? x = some { cls := .ref C, dict := some dx, data := .fields #[.ref t1, .none, .none, .none, .bool false, .none] }
  dbig : h.objs.size ≤ dx
  dne : dx ≠ x
  ns : h'.Ns1 dx (fun y => if y = "grain" then some v2 else if y = "time" then some v else none)
structure Made_tgN (h h' : Heap) (e C d : Addr) (v v2 : Value) : Prop where
  keep : ∀ b o, h.get? b = some o → h'.get? b = some o
  new : h.objs.size ≤ e
  obj : ∃ oe vs, h'.get? e = some oe ∧ oe.cls = .ref C ∧ oe.dict = some d ∧ oe.data = .fields vs ∧ vs[1]? = some .none ∧ vs[2]? = some .none
  dbig : h.objs.size ≤ d
  dne : d ≠ e
  ns : h'.Ns1 d (fun y => if y = "grain" then some v2 else if y = "time" then some v else none)
section
variable {prog : Program} {w : World} {A : Around} {E : Value → Shared → Prop} {R : Result → Shared → Prop} {s : Shared} {K : Frag} {mg : Str → Option Value} {C G fI : Addr} {cn qn : Str}
end
end EgX
end PySem
namespace L2N
open PySem PySem.Spec PyProof.Rows L2
section
variable {X : Cx} {C G fI : Addr} {cn qn : Str}
end
end L2N

/-! MiTg -/
set_option Elab.async false
set_option linter.all false
set_option maxRecDepth 100000
set_option maxHeartbeats 2000000
/-! ## mirrors of an error with two fields; calls where an error is handled -/
namespace Mi
open PySem L2 Eg L2N
section
variable {c : Cn} {W : WX} {te ta tb tc : TE} {t : TT} {a b e : E} {KF : PySem.W.Frag} {ts tu tw : TS}
def xBy2 (i : Nat) (f : Str) : E := fun δ => match δ[i]? with
  | some (.exn _ [(g, x), (h, y)]) => if g = "time" ∧ h = "grain" then (if f = "time" then .ret x else if f = "grain" then .ret y else .bad) else .bad
  | _ => .bad
end
/-! a def that is called where an error is handled -/
section
variable {P : Program} {w : World} {K : PySem.W.Frag} {mg : Str → Option Value} {base : Heap}
theorem okH {x qual : Str} {st : Stmt} {f : Addr} {fd : FuncData} {N ps : List Str} {k : Nat} {sp : Sp} (F : Fun K x qual st f fd) (S : FnScope N ps (defScope st)) (len : ∀ vs H Q E, sp vs H Q E → vs.length = ps.length)
    (hbody : ∀ (cdv : Value) (A : Around) (outer : List Env) (s : Shared) (H : Hp) (vs : List V) (Q : VK) (E : XK) (p : Addr × Obj), L2H.Hot1 A p → L2H.RoomH k (A.deeper (PyProof.Rows.envOfC qual (defScope st) s.heap.objs.size f cdv)) → sp vs H Q E →
      ∃ t, PSs (L2H.cxH (L2N.CX P w) P w K mg base N qual (defScope st) f cdv A outer s H E p) (defBody st) t ∧ t { nx := fun _ H' => Q .non H', rt := Q } (start N vs) H) : L2H.FnH P w K mg base (L2N.CX P w) (k + 1) f fd ps sp := by
  obtain ⟨oc, od, kV, doc, pm, an, cdv, ct, osl, rfl, lk, hcd⟩ := F.ex
  exact L2H.fn_ofH lk hcd S len fun A outer s H vs Q E p hot hr hsp => hbody cdv A outer s H vs Q E p hot hr hsp
theorem fn_miH {cl : String → Addr} {b : S} {x qual : Str} {st : Stmt} {f : Addr} {fd : FuncData} {N ps : List Str} {k n j : Nat} (F : Fun K x qual st f fd) (S0 : FnScope N ps (defScope st))
    (hbody : ∀ (cdv : Value) (A : Around) (outer : List Env) (s : Shared) (H : Hp) (E : XK) (p : Addr × Obj), L2H.RoomH k (A.deeper (PyProof.Rows.envOfC qual (defScope st) s.heap.objs.size f cdv)) → L2H.HotC (L2H.cxH (L2N.CX P w) P w K mg base N qual (defScope st) f cdv A outer s H E p) →
      ∃ t, PSs (L2H.cxH (L2N.CX P w) P w K mg base N qual (defScope st) f cdv A outer s H E p) (defBody st) t ∧ MS ⟨K, cl, fun _ => none⟩ (fun cls d _ H => E cls d H) t b) (hn : N.length = n := by rfl) (hj : ps.length = j := by rfl) :
    L2H.FnH P w K mg base (L2N.CX P w) (k + 1) f fd ps (SpM K cl (mDef n j b)) := by
  subst hn; subst hj
  refine okH F S0 (fun vs H Q E h => ?_) (fun cdv A outer s H vs Q E p hot hr h => ?_)
  · obtain ⟨φ, τ, G, as, wd, l, ha, hp⟩ := h
    unfold mDef at hp
    by_cases hl : as.length = ps.length
    · rw [ha.len, hl]
    · rw [if_neg hl] at hp; exact hp.elim
  · obtain ⟨φ, τ, G, as, wd, l, ha, hp⟩ := h
    obtain ⟨t, ht, hw⟩ := hbody cdv A outer s H E p hr ⟨p, ⟨hot.1, hot.2⟩, List.mem_cons_self⟩
    refine ⟨t, ht, ?_⟩
    unfold mDef at hp
    by_cases hl : as.length = ps.length
    · rw [if_pos hl] at hp
      have st := start_sl (c := ⟨K, cl, fun _ => none⟩) (φ := φ) (τ := τ) ha (N.length - as.length)
      have e0 : start N vs = vs.map some ++ List.replicate (N.length - as.length) none := by rw [← ha.len]; rfl
      rw [← e0] at st
      refine hw φ τ G φ τ _ G H (start N vs) _ wd (Go.refl l) st (M.wp_mono (fun fl φ1 k1 => ?_) (fun _ _ _ h => h) _ _ (M.wp_nox (X' := fun _ _ _ => False) _ _ ((M.wp_bind _ _).mp hp)))
      · cases fl with
        | nx δ => exact fun σ1 τ1 G1 H1 w1 g1 s1 => k1 .non τ1 G1 H1 w1 g1 .non
        | bk δ => exact k1.elim
        | ct δ => exact k1.elim
        | rt x => exact k1
        | rf xs => exact k1
        | xx C fs δ => exact fun σ1 d τ1 G1 H1 w1 g1 s1 hd => k1 d τ1 G1 H1 w1 g1 hd
    · rw [if_neg hl] at hp; exact hp.elim
end
end Mi

/-! EgEnumT -/
set_option Elab.async false
set_option linter.all false
set_option maxRecDepth 100000
set_option maxHeartbeats 4000000
/-! ## enumerate of a tuple -/
namespace PySem
open Sem (wp)
open AutoSeq1 (wpAny_loadPart')
section
variable {prog : Program} {w : World} {A : Around} {E : Value → Shared → Prop} {s : Shared}
end
end PySem
namespace L2
open PySem PySem.Spec PyProof.Rows
end L2

/-! MiEnumA -/
set_option Elab.async false
set_option linter.all false
set_option maxRecDepth 100000
set_option maxHeartbeats 2000000
/-! ## enumerate of lists and tuples -/
namespace Mi
open PySem L2 Eg
def iEnumAM (a : As) : List SD → M (List PyData) := fun δ => (a δ).bind fun as => M.of (match as with
  | [.d (.list xs)] => some (enumD 0 xs)
  | [.d (.tuple xs)] => some (enumD 0 xs)
  | _ => none)
section
variable {c : Cn} {W : WX} {te ta tb tc : TE} {t : TT} {a b e : E} {KF : PySem.W.Frag} {ts tu tw : TS}
end
end Mi

/-! MiPtr -/
set_option Elab.async false
set_option linter.all false
set_option maxRecDepth 100000
set_option maxHeartbeats 2000000
/-! ## loops over a list that all see; len(set(..)) of distinct numbers -/
namespace Mi
open PySem L2 Eg
def intsOf : List PyData → Option (List Int)
  | [] => some []
  | .int n :: xs => (intsOf xs).map (n :: ·)
  | _ => none
open Classical in
/-- a loop over a list that all see: it must stand as it was -/
noncomputable def forGoP (p : Addr) (L : List PyData) (tg : Tg) (b : S) : List PyData → List SD → M Fl
  | [], δ => getL p fun ys => if ys = L then .ret (.nx δ) else .bad
  | x :: xs, δ => getL p fun ys => if ys = L then (M.of (setT tg x δ)).bind fun δ2 => (b δ2).bind fun fl => match fl with
    | .nx δ3 => forGoP p L tg b xs δ3
    | .ct δ3 => forGoP p L tg b xs δ3
    | .bk δ3 => .ret (.nx δ3)
    | .rt x => .ret (.rt x)
    | .rf x => .ret (.rf x)
    | .xx C fs δ3 => .ret (.xx C fs δ3) else .bad
noncomputable def sForD (a : E) (tg : Tg) (b : S) : S := fun δ => catch_ (a δ) δ fun x => match ptrOf x with
  | some p => getL p fun ds => forGoP p ds tg b ds δ
  | none => catch_ (M.of (itemsOf x)) δ fun ds => forGo tg b ds δ
section
variable {c : Cn} {W : WX} {te ta tb tc : TE} {t : TT} {a e : E} {KF : PySem.W.Frag} {ts tu tw : TS}
end
/-! ### the same, to reason with -/
section
variable {φ : Sg} {X : XC}
theorem lcP_pure {p : Addr} {L : List PyData} {tg : Tg} {t : B} {e : E} {δ : List SD} (hp : φ p = some (.lst L)) (f : PyData → PyData) (q : PyData → Bool) : ∀ (ds : List PyData) (K : List PyData → Sg → Prop),
    (∀ x, x ∈ ds → ∃ δ2, setT tg x δ = some δ2 ∧ (∀ K' : Bool → Sg → Prop, K' (q x) φ → Wp (t δ2) φ K' (fun _ _ _ => False)) ∧ (q x = true → ∀ K' : PyData → Sg → Prop, K' (f x) φ → Wp (e δ2) φ K' (fun _ _ _ => False))) → K ((ds.filter q).map f) φ → Wp (lcGoP p L tg t e δ ds) φ K X
  | [], K, h, k => by unfold lcGoP; rw [W_getL hp, if_pos rfl, W_ret]; exact k
  | x :: xs, K, h, k => by
    obtain ⟨δ2, e1, h1, h2⟩ := h x List.mem_cons_self
    unfold lcGoP
    rw [W_getL hp, if_pos rfl, e1, e_some, M.ret_bind, W_bind, W_nox]
    refine h1 _ ?_
    cases hq : q x with
    | false =>
      rw [if_neg (by decide)]
      refine lcP_pure hp f q xs K (fun y hy => h y (List.mem_cons_of_mem _ hy)) ?_
      rw [List.filter_cons, hq, if_neg (by decide)] at k
      exact k
    | true =>
      rw [if_pos rfl, W_bind, W_nox]
      refine h2 hq _ ?_
      rw [W_bind]
      refine lcP_pure hp f q xs _ (fun y hy => h y (List.mem_cons_of_mem _ hy)) ?_
      rw [W_ret]
      rw [List.filter_cons, hq, if_pos rfl, List.map_cons] at k
      exact k
end
end Mi

/-! EgLow0 -/
set_option Elab.async false
set_option linter.all false
set_option maxRecDepth 100000
set_option maxHeartbeats 2000000
/-! ### an own error without a field -/
namespace L2N
open PySem PySem.Spec PyProof.Rows L2
structure Low0 (K : PySem.W.Frag) (mg : Str → Option Value) (cn : Str) (C : Addr) : Prop where
  gC : mg cn = some (.ref C)
  ex : PySem.W.excIn K C [.type "Exception", .type "BaseException", .type "object"] "Exception.__new__" = true
  kC : PySem.W.keepIn K (.ref C) = true
  exC : PySem.W.subIn K (.ref C) (.type "BaseException") = some true
  tyC : PySem.W.typeIn K (.ref C) = some (.type "type")
  te : PySem.W.exmOne K (.ref C) (.ref C) = some true
section
variable {X : Cx} {C : Addr} {cn : Str}
end
end L2N

/-! EgTry2 -/
set_option Elab.async false
set_option linter.all false
set_option maxRecDepth 100000
set_option maxHeartbeats 2000000
/-! ## try with one clause for two classes, without a name -/
namespace L2N
open PySem PySem.Spec PyProof.Rows L2
section
variable {X : Cx} {x1 x2 : Str} {c1 c2 : Value} {ts : Addr → Value → Option Addr → TS} {b₀ : Stmt} {suite body : List Stmt} {p1 p2 tpos pos' pos : Pos} {kk : Nat} {tb : WX → TS} {Wout : WX}
end
end L2N

/-! EgSlice -/
set_option Elab.async false
set_option linter.all false
set_option maxRecDepth 100000
set_option maxHeartbeats 2000000
/-! ## o[a:c] = ys -/
namespace L2
open PySem PySem.Spec PyProof.Rows
end L2

/-! MiRead -/
set_option Elab.async false
set_option linter.all false
set_option maxRecDepth 100000
set_option maxHeartbeats 2000000
/-! ## while, name += e, range downwards, reversed, slices of one's own, slices assigned, errors without fields, a clause for two classes, pointers within pointers -/
namespace Mi
open PySem L2 Eg
/-! while -/
/-! name += e -/
def sAugI (i : Nat) (e : E) : S := fun δ => match δ[i]? with
  | some (.d (.int k)) => catch_ (e δ) δ fun y => match y with
    | .int j => .ret (.nx (δ.set i (.d (.int (k + j)))))
    | _ => .bad
  | _ => .bad
/-! iterators -/
def downs (i j : Int) : List PyData := (List.range (i - j).toNat).map fun k : Nat => PyData.int (i - k)
def iRng3M (a : As) : List SD → M (List PyData) := fun δ => (a δ).bind fun as => M.of (match as with
  | [.d (.int i), .d (.int j), .d (.int k)] => if k = -1 ∧ -(2 ^ 62) ≤ i ∧ i < 2 ^ 62 ∧ -(2 ^ 62) ≤ j ∧ j < 2 ^ 62 then some (downs i j) else none
  | _ => none)
def iRevM (a : E) : List SD → M (List PyData) := fun δ => (a δ).bind fun x => M.of ((itemsOf x).map List.reverse)
/-! slices -/
def fSl (a : E) (lo hi : List SD → M (Option Int)) : List SD → M (List PyData) := fun δ => (a δ).bind fun x => (lo δ).bind fun l => (hi δ).bind fun h => M.of (match x with
  | .list xs => some (cutD xs l h)
  | _ => none)
def sSetSl (i : Nat) (f : List SD → M (List PyData)) (a b : E) : S := fun δ => catch_ (f δ) δ fun ys => match δ[i]? with
  | some (.own xs) => catch_ (a δ) δ fun x => catch_ (b δ) δ fun y => match x, y with
    | .int m, .int n => if 0 ≤ m ∧ m ≤ n ∧ n ≤ xs.length ∧ xs.length + ys.length ≤ 10000000 then .ret (.nx (δ.set i (.own (xs.take m.toNat ++ ys ++ xs.drop n.toNat)))) else .bad
    | _, _ => .bad
  | _ => .bad
/-! errors without fields; a clause for two classes -/
def sRaise0 (C : String) : S := fun δ => .ret (.xx C [] δ)
def sTry2 (L : List String) (b : S) (C1 C2 : String) (s : S) : S := fun δ => (b δ).bind fun fl => match fl with
  | .xx C fs δ1 => if C ∈ L then (if C = C1 ∨ C = C2 then s δ1 else .ret (.xx C fs δ1)) else .bad
  | fl => .ret fl
/-- an own list is from now on seen by all -/
def sShr (i : Nat) (b : S) : S := fun δ => match δ[i]? with
  | some (.own xs) => .new (.lst xs) fun p => b (δ.set i (.d (ptrD p)))
  | _ => b δ
/-! one list that all see, read -/
def x1D (f : PyData → Option PyData) (a : E) : E := fun δ => (a δ).bind fun x => seen x fun y => M.of (match f y with
  | some z => if isScal z = true then some z else none
  | none => none)
noncomputable def fLcE (a : E) (tg : Tg) (t : B) (e : E) (vs : List Nat) : List SD → M (List PyData) := fun δ => (a δ).bind fun x => match ptrOf x with
  | some p => getL p fun L => if L.length ≤ 1000000 then lcGoP p L tg t e (wipeD δ vs) (enumD 0 L) else .bad
  | none => (M.of (itemsOf x)).bind fun L => if L.length ≤ 1000000 then lcGo tg t e (wipeD δ vs) (enumD 0 L) else .bad
/-! pointers within pointers -/
mutual
def deepW (g : List PyData → M (List PyData)) : PyData → M PyData
  | .list xs => (deepWL g xs).bind fun ys => .ret (.list ys)
  | .tuple xs => (deepWL g xs).bind fun ys => .ret (.tuple ys)
  | .dict es => match ptrOf (.dict es) with
    | some p => getL p fun xs => (g xs).bind fun ys => .ret (.list ys)
    | none => if flatK es = true then .ret (.dict es) else .bad
  | x => .ret x
def deepWL (g : List PyData → M (List PyData)) : List PyData → M (List PyData)
  | [] => .ret []
  | x :: xs => (deepW g x).bind fun y => (deepWL g xs).bind fun ys => .ret (y :: ys)
end
def gd : Nat → List PyData → M (List PyData)
  | 0 => fun xs => if flatL xs = true then .ret xs else .bad
  | n + 1 => deepWL (gd n)
def deepN (n : Nat) : PyData → M PyData := deepW (gd n)
def xReprN (n : Nat) (a : E) : E := fun δ => (a δ).bind fun x => (deepN n x).bind shows
section
variable {φ τ : Sg} {G H : Hp} {X : XC}
def GdOk (φ : Sg) (G H : Hp) (X : XC) (g : List PyData → M (List PyData)) : Prop := ∀ (xs : List PyData) (K : List PyData → Sg → Prop), (g xs).wp φ K X → ∃ ys, K ys φ ∧ ∀ vs, RpL G vs xs → RpL H vs ys
mutual
theorem deepW_rp (w : Wd τ G H) (l : Le φ τ) {g : List PyData → M (List PyData)} (hg : GdOk φ G H X g) : ∀ (x : PyData) (K : PyData → Sg → Prop), (deepW g x).wp φ K X → ∃ y, K y φ ∧ ∀ v, Rp G v x → Rp H v y
  | .list xs, K, h => by
    unfold deepW at h
    obtain ⟨ys, k, r⟩ := deepWL_rp w l hg xs _ ((M.wp_bind _ _).mp h)
    refine ⟨.list ys, k, fun v rv => ?_⟩
    cases rv with
    | lst h1 h2 => exact .lst (w.ex _ _ h1) (r _ h2)
  | .tuple xs, K, h => by
    unfold deepW at h
    obtain ⟨ys, k, r⟩ := deepWL_rp w l hg xs _ ((M.wp_bind _ _).mp h)
    refine ⟨.tuple ys, k, fun v rv => ?_⟩
    cases rv with
    | tup h1 h2 => exact .tup (w.ex _ _ h1) (r _ h2)
  | .dict es, K, h => by
    unfold deepW at h
    cases e : ptrOf (.dict es) with
    | some p =>
      rw [e] at h
      obtain ⟨xs, hx, h⟩ := wp_getL h
      obtain ⟨ys, k, r⟩ := hg xs _ ((M.wp_bind _ _).mp h)
      refine ⟨.list ys, k, fun v rv => ?_⟩
      have hv := Rp.ptr_of rv e
      subst hv
      obtain ⟨g0, vs, hh, rl⟩ := w.cell p _ (l _ _ hx)
      exact .lst hh (r _ rl)
    | none =>
      rw [e] at h
      dsimp only at h
      by_cases hf : flatK es = true
      · rw [if_pos hf] at h
        exact ⟨.dict es, h, fun v rv => Rp.mono w.ex _ _ rv⟩
      · rw [if_neg hf] at h; exact h.elim
  | .none, K, h => by unfold deepW at h; exact ⟨_, h, fun v rv => Rp.mono w.ex _ _ rv⟩
  | .bool _, K, h => by unfold deepW at h; exact ⟨_, h, fun v rv => Rp.mono w.ex _ _ rv⟩
  | .int _, K, h => by unfold deepW at h; exact ⟨_, h, fun v rv => Rp.mono w.ex _ _ rv⟩
  | .str _, K, h => by unfold deepW at h; exact ⟨_, h, fun v rv => Rp.mono w.ex _ _ rv⟩
theorem deepWL_rp (w : Wd τ G H) (l : Le φ τ) {g : List PyData → M (List PyData)} (hg : GdOk φ G H X g) : ∀ (xs : List PyData) (K : List PyData → Sg → Prop), (deepWL g xs).wp φ K X → ∃ ys, K ys φ ∧ ∀ vs, RpL G vs xs → RpL H vs ys
  | [], K, h => by unfold deepWL at h; exact ⟨[], h, fun vs r => by cases r; exact .nil⟩
  | x :: xs, K, h => by
    unfold deepWL at h
    obtain ⟨y, k1, r1⟩ := deepW_rp w l hg x _ ((M.wp_bind _ _).mp h)
    obtain ⟨ys, k2, r2⟩ := deepWL_rp w l hg xs _ ((M.wp_bind _ _).mp k1)
    refine ⟨y :: ys, k2, fun vs r => ?_⟩
    cases r with
    | cons a b => exact .cons (r1 _ a) (r2 _ b)
end
end
section
variable {c : Cn} {W : WX} {te ta tb tc : TE} {t : TT} {a b e : E} {KF : PySem.W.Frag} {ts tu tw : TS}
end
end Mi

/-! EgSumT -/
set_option Elab.async false
set_option linter.all false
set_option maxRecDepth 100000
set_option maxHeartbeats 2000000
/-! ## sum of a tuple of ints -/
namespace PySem
open PyProof.Rows
section
variable {prog : Program} {w : World} {A : Around} {E : Value → Shared → Prop} {s : Shared} {l : Addr} {xs : Array (Int × Tok)}
end
end PySem
namespace L2
open PySem PySem.Spec PyProof.Rows
section
variable {prog : Program} {w : World} {A : Around} {E : Value → Shared → Prop} {s : Shared} {l : Addr} {its : List Value} {ns : List Int} {Q : Value → Shared → Prop}
end
end L2

/-! MiRead2 -/
set_option Elab.async false
set_option linter.all false
set_option maxRecDepth 100000
set_option maxHeartbeats 2000000
/-! ## enumerate of a list that all see; an own list that all see from now on -/
namespace Mi
open PySem L2 Eg
section
variable {c : Cn} {W : WX} {te ta tb tc : TE} {t : TT} {a b e : E} {KF : PySem.W.Frag} {ts tu tw : TS}
end
end Mi
namespace Mi
open PySem L2 Eg
/-- list(range(n)) -/
def fLrg1 (a : E) : List SD → M (List PyData) := fun δ => (a δ).bind fun x => M.of (match x with
  | .int n => if n ≤ 1000000 ∧ -1000000 ≤ n then some (upto n.toNat) else none
  | _ => none)
/-- an own list + another one -/
def fCatV (i : Nat) (b : E) : List SD → M (List PyData) := fun δ => match δ[i]? with
  | some (.own xs) => (b δ).bind fun y => M.of (match y with
    | .list ys => if xs.length + ys.length ≤ 10000000 then some (xs ++ ys) else none
    | _ => none)
  | _ => fCat (xV i) b δ
section
variable {c : Cn} {W : WX} {te ta tb tc : TE} {t : TT} {a b e : E} {KF : PySem.W.Frag} {ts tu tw : TS}
end
end Mi
namespace Mi
open PySem L2 Eg
end Mi

/-! MiExt -/
set_option Elab.async false
set_option linter.all false
set_option maxRecDepth 100000
set_option maxHeartbeats 2000000
/-! ## own.extend(e) -/
namespace Mi
open PySem L2 Eg
def sExt (i : Nat) (e : E) : S := fun δ => match δ[i]? with
  | some (.own xs) => catch_ (e δ) δ fun y => match y with
    | .list ys => if xs.length + ys.length ≤ 10000000 then .ret (.nx (δ.set i (.own (xs ++ ys)))) else .bad
    | _ => .bad
  | _ => .bad
section
variable {c : Cn} {W : WX} {te ta tb tc : TE} {t : TT} {a b e : E} {KF : PySem.W.Frag} {ts tu tw : TS}
end
end Mi

/-! EgTryU -/
set_option Elab.async false
set_option linter.all false
set_option maxRecDepth 100000
set_option maxHeartbeats 2000000
/-! ## try with clauses without names, one class each -/
namespace L2N
open PySem PySem.Spec PyProof.Rows L2
inductive HdsU (X : Cx) : List ExceptHandler → List (Value × Suite) → Prop
  | nil : HdsU X [] []
  | cons {x : Str} {c : Value} {ts : Suite} {s0 : Stmt} {suite : List Stmt} {np pos' : Pos} {hds : List ExceptHandler} {l : List (Value × Suite)} (hc : Names X x c)
      (hsu : ∀ (a : Addr) (oe : Obj) (cls : Value) (d : Option Addr) (pn : List (Addr × Obj)), Zn cls d oe → (∃ vs, oe.data = .fields vs) → PSs (X.suite a ((a, oe) :: pn)) (s0 :: suite) (ts a cls d)) (r : HdsU X hds l) :
      HdsU X (.ExceptHandler (some (.Name x np)) none (s0 :: suite) pos' :: hds) ((c, ts) :: l)
section
variable {X : Cx} {body : List Stmt} {h₀ : ExceptHandler} {hds : List ExceptHandler} {l : List (Value × Suite)} {pos : Pos} {tb : WX → TS} {Wo : WX}
end
end L2N

/-! MiTryU -/
set_option Elab.async false
set_option linter.all false
set_option maxRecDepth 100000
set_option maxHeartbeats 2000000
/-! ## clauses without names -/
namespace Mi
open PySem L2 Eg
def uGo (C : String) (fs : List (Str × PyData)) : List (String × S) → S
  | [] => fun δ => .ret (.xx C fs δ)
  | (n, s) :: r => fun δ => if C = n then s δ else uGo C fs r δ
def sTryU (L : List String) (b : S) (r : List (String × S)) : S := fun δ => (b δ).bind fun fl => match fl with
  | .xx C fs δ1 => if C ∈ L then uGo C fs r δ1 else .bad
  | fl => .ret fl
section
variable {c : Cn} {W : WX}
inductive HsU (c : Cn) (W : WX) : List (Value × Suite) → List (String × S) → Prop
  | nil : HsU c W [] []
  | cons {n : String} {ts : Suite} {s : S} {l : List (Value × Suite)} {r : List (String × S)} : (∀ a v d, MS c W (ts a v d) s) → HsU c W l r → HsU c W ((.ref (c.cl n), ts) :: l) ((n, s) :: r)
end
end Mi

/-! EgSetI -/
set_option Elab.async false
set_option linter.all false
set_option maxRecDepth 100000
set_option maxHeartbeats 2000000
/-! ## set(xs) of a list of integers, whose order is known; sorted(set(xs)) -/
namespace L2
open PySem PySem.Spec PyProof.Rows
section
variable {prog : Program} {w : World} {A : Around} {R : Result → Shared → Prop} {I : Addr} {fp wr : List Addr} {G : Array GenState → Array GenState → Prop} {n : Nat} {P : Nat → Value → Prop} {St : Nat → Shared → Prop}
end
section
variable {prog : Program} {w : World} {A : Around} {s : Shared} {E : Value → Shared → Prop}
end
end L2

/-! EgSortSet -/
set_option Elab.async false
set_option linter.all false
set_option maxRecDepth 100000
set_option maxHeartbeats 2000000
/-! ## sorted(set(xs)), integers -/
namespace L2
open PySem PySem.Spec PyProof.Rows
section
variable {X : Cx}
end
end L2

/-! MiSortSet -/
set_option Elab.async false
set_option linter.all false
set_option maxRecDepth 100000
set_option maxHeartbeats 2000000
/-! ## sorted(set(e)), integers -/
namespace Mi
open PySem L2 Eg
def insU (k : Int) : List Int → List Int
  | [] => [k]
  | x :: xs => if k < x then k :: x :: xs else if k = x then x :: xs else x :: insU k xs
def sdup : List Int → List Int
  | [] => []
  | n :: ns => insU n (sdup ns)
def fSortSet (a : E) : List SD → M (List PyData) := fun δ => (a δ).bind fun x => M.of (match x with
  | .list xs => match intsOf xs with
    | some ns => if ns.length < 64 then some ((sdup ns).map .int) else none
    | none => none
  | _ => none)
section
variable {c : Cn} {W : WX} {ta : TE} {a : E} {KF : PySem.W.Frag}
end
end Mi

/-! EgSliceO -/
set_option Elab.async false
set_option linter.all false
set_option maxRecDepth 100000
set_option maxHeartbeats 2000000
/-! ## o[lo:hi] = ys, either bound may be left out -/
namespace L2
open PySem PySem.Spec PyProof.Rows
section
variable {prog : Program} {w : World} {A : Around} {E : Value → Shared → Prop} {s : Shared}
set_option maxRecDepth 100000 in
theorem setItem_sliceO {lo hi : Option Int} {l b sl : Addr} {items new : Array Value} {n n2 : Nat} {vl vu : Value} {a c : Nat} {Q : Unit → Shared → Prop}
    (e : s.heap.get? l = some { cls := .type "list", data := .seq items n }) (e2 : s.heap.get? b = some { cls := .type "list", data := .seq new n2 }) (hne : l ≠ b)
    (hs : s.heap.IsSliceOf sl vl vu .none) (pl : IsPart vl lo) (pu : IsPart vu hi) (hbd : sliceBounds lo hi none items.size = ((a : Int), (c : Int), 1)) (hac : a ≤ c) (hc : c ≤ items.size)
    (hsz : items.size + new.size ≤ sizeLine) (h : Q () { s with heap := s.heap.update l (Obj.mapSeq fun xs => xs.extract 0 a ++ new ++ xs.extract c xs.size) }) :
    wpAny (model prog w) A (setItem (.ref l) (.ref sl) (.ref b)) Q E s := by
  have hl : s.heap.IsList l items := PySem.IsL.isList e
  have hb : s.heap.IsList b new := PySem.IsL.isList e2
  obtain ⟨os, hos, hcs, hds⟩ := id hs
  have hTs : s.TypeIs (.ref sl) "slice" := ⟨os, hos, hcs⟩
  have hstep : ¬ ((rawPart none == rawInt 0) = true) := Bool.false_ne_true
  have hsame : Builtin.List.listSameRef (.ref l) (.ref b) = false := by
    unfold Builtin.List.listSameRef
    exact beq_eq_false_iff_ne.mpr hne
  have hmax : (max (a : Int) (c : Int)).toNat = c := by omega
  have hz' : ((fun xs : Array Value => xs.extract 0 a ++ new ++ xs.extract c xs.size) items).size ≤ sizeLine + 1 := by
    simp only [Array.size_append, Array.size_extract]
    omega
  unfold setItem
  try with_reducible refine wpAny_holding ?_
  first | refine wpAny_bind (wpAny_pure ?_) | skip
  refine wpAny_bind (wpAny_sequenceKey hl.typeIs (by decide) ?_)
  refine wpAny_bind (wpAny_callSpecial?_slot (name := Str.ofString "__setitem__") hl.typeIs slot_list_setitem
    (wpAny_call_entry slot_list_setitem hl.typeIs entry_list_setitem ?_ (args_list_setitem _ _ _)))
  show wpAny _ _ (Builtin.List.listSubscript? (.ref sl) >>= _) _ _ s
  refine wpAny_bind ?_
  unfold Builtin.List.listSubscript?
  refine wpAny_bind (wpAny_specialOf hTs slice_no_index ?_)
  simp only [Option.isNone_none, if_true]
  refine wpAny_pure ?_
  show wpAny _ _ (typeOf (.ref sl) >>= _) _ _ s
  refine wpAny_bind (wpAny_typeOf hTs ?_)
  first
    | rw [if_neg (by decide)]
    | refine PySem.W.KFB.if_not (by decide) ?_
  rw [listSliceParts_eq]
  refine wpAny_bind (wpAny_bind (wpAny_field hos hds (x := .none) rfl (wpAny_bind (wpAny_listPart .none ?_))))
  rw [if_neg hstep]
  refine wpAny_bind (wpAny_field hos hds (x := vl) rfl (wpAny_bind (wpAny_listPart pl ?_)))
  refine wpAny_bind (wpAny_field hos hds (x := vu) rfl (wpAny_bind (wpAny_listPart pu (wpAny_pure ?_))))
  first
    | simp only [hsame, Bool.false_eq_true, if_false]
    | refine PySem.W.KFB.if_not hsame ?_
    | (dsimp only
       rw [if_neg (by rw [hsame]; exact Bool.false_ne_true)])
  refine wpAny_bind (m := Builtin.List.listAllItems (.ref b) "must assign iterable to extended slice") ?_
  unfold Builtin.List.listAllItems
  refine wpAny_bind (wpAny_typeOf hb.typeIs ?_)
  first
    | refine PySem.W.KFB.if_so (by decide) ?_
    | rw [if_pos (by decide)]
    | simp only [beq_self_eq_true, Bool.true_or, if_true]
  unfold Builtin.List.listItems
  refine wpAny_bind (wpAny_seqItems e2 rfl (wpAny_pure ?_))
  refine wpAny_bind (wpAny_bind (wpAny_seqItems e rfl (wpAny_pure ?_)))
  refine wpAny_bind (wpAny_of_eq ((sliceIndices_raw lo hi none items.size (by simp)).trans (congrArg (pure : Int × Int × Int → Sem (Int × Int × Int)) hbd)) ?_)
  show wpAny _ _ (if ((1 : Int) == 1) = true then _ else _) _ _ s
  rw [if_pos (by decide)]
  refine wpAny_bind (wpAny_rule ?_)
  first
    | simp only [notLongL hsz, Bool.false_eq_true, if_false]
    | refine PySem.W.KFB.if_not (notLongL hsz) ?_
  first | refine wpAny_bind (wpAny_pure ?_) | skip
  show wpAny _ _ (updateSeq l (fun xs => xs.extract 0 ((a : Int)).toNat ++ new ++ xs.extract (max (a : Int) (c : Int)).toNat xs.size) >>= _) _ _ s
  rw [hmax, Int.toNat_natCast]
  refine wpAny_bind (wpAny_updateSeq (hz := Nat.le_trans (Nat.le_add_right _ _) hsz) (_hz' := hz') e rfl ?_)
  refine wpAny_bind (wpAny_letGo ?_)
  first
    | exact wpAny_bind (wpAny_pure (wpAny_pure ⟨.none, rfl, wpAny_pure h⟩))
    | exact wpAny_pure ⟨.none, rfl, wpAny_pure h⟩
end
section
variable {X : Cx}
theorem set_sliceO {pins : List (Addr × Obj)} {s : Shared} {σ : St} {H : Hp} {l b sl : Addr} {xs ys : List V} {lo hi : Option Int} {vl vu : Value} {Q : Unit → Shared → Prop} (I : Inv X pins σ H s)
    (hH : H l = some (.lst xs)) (hB : H b = some (.lst ys)) (hne : l ≠ b) (hs : s.heap.IsSliceOf sl vl vu .none) (pl : IsPart vl lo) (pu : IsPart vu hi) (hac : HT.sIx xs.length 0 lo ≤ HT.sIx xs.length xs.length hi) (hc : HT.sIx xs.length xs.length hi ≤ xs.length)
    (hz : xs.length + ys.length ≤ sizeLine) (h : ∀ s', Inv X pins σ (upd H l (.lst (xs.take (HT.sIx xs.length 0 lo) ++ ys ++ xs.drop (HT.sIx xs.length xs.length hi)))) s' → Q () s') :
    wpAny (model X.prog X.w) X.A (setItem (.ref l) (.ref sl) (.ref b)) Q X.xe s := by
  obtain ⟨z, its, n, r, hl, e⟩ := I.lstM hH
  obtain ⟨z2, its2, n2, r2, hl2, e2⟩ := I.lstM hB
  have hlen : its.length = xs.length := r.length.symm
  have hb := slice_bounds lo hi xs.length
  refine setItem_sliceO (a := HT.sIx xs.length 0 lo) (c := HT.sIx xs.length xs.length hi) e e2 hne hs pl pu (by
    rw [List.size_toArray, hlen]
    exact Prod.ext hb.1 (Prod.ext hb.2.1 hb.2.2)) hac (by rw [List.size_toArray]; omega) (by rw [List.size_toArray, List.size_toArray]; omega) (h _ ?_)
  refine I.lset (its' := its.take (HT.sIx xs.length 0 lo) ++ its2 ++ its.drop (HT.sIx xs.length xs.length hi)) (t' := s.toks) hH e ?_ (Vals.append (Vals.append (r.take _) r2) (r.drop _)) ?_
  · exact splice_eq its its2 _ _
  · rw [List.length_append, List.length_append, List.length_take, List.length_drop]
    omega
end
end L2
namespace L2
open PySem PySem.Spec PyProof.Rows
def gSliceO (to : TE) (tl th : TO) : TG := fun v σ H Q => to σ H fun o H1 => tl σ H1 fun lo H2 => th σ H2 fun hi H3 => ∃ (l b : Addr) (xs ys : List V), o = .ref l ∧ v = .ref b ∧ H3 l = some (.lst xs) ∧ H3 b = some (.lst ys) ∧ l ≠ b ∧
  HT.sIx xs.length 0 lo ≤ HT.sIx xs.length xs.length hi ∧ HT.sIx xs.length xs.length hi ≤ xs.length ∧ xs.length + ys.length ≤ sizeLine ∧ Q σ (upd H3 l (.lst (xs.take (HT.sIx xs.length 0 lo) ++ ys ++ xs.drop (HT.sIx xs.length xs.length hi))))
theorem pg_sliceO {X : Cx} {o : Expr} {i j : Option Expr} {to : TE} {tl th : TO} {p2 pos : Pos} (ho : PE X o to) (hi : PO X i tl) (hj : PO X j th)
    (ha : ∀ v, assign (.Subscript o (.Slice i j none p2) pos) X.env v = (do
      let ov ← holding [v] (eval o X.env)
      let iv ← holding [v, ov] (eval (.Slice i j none p2) X.env)
      standAt pos
      holding [v, ov, iv] (setItem ov iv v)
      release [iv, v, ov] []) := by intro _; rfl) : PG X (.Subscript o (.Slice i j none p2) pos) (gSliceO to tl th) := by
  refine ⟨fun pins s σ H v u Q I r h => ?_⟩
  rw [ha]
  refine wpAny_bind (wpAny_holding (thn (ho.run pins s σ H _ I h) fun ov s1 ⟨x, H1, I1, r1, q1⟩ => ?_))
  refine wpAny_bind (wpAny_holding (wpAny_Slice ?_))
  rw [evalPart_none]
  refine thn (hi.run pins s1 σ H1 _ I1 q1) fun vl s2 ⟨lo, H2, I2, p2, q2⟩ => ?_
  refine thn (hj.run pins s2 σ H2 _ I2 q2) fun vu s3 ⟨hi, H3, I3, p3, q3⟩ => ?_
  refine wpAny_pure ?_
  obtain ⟨l, b, xs, ys, ex, ev, hl, hb, hne, hac, hc, hz, q4⟩ := q3
  subst ex; subst ev
  cases r1; cases r
  have I4 : Inv X pins σ H3 { s3 with heap := s3.heap.push { cls := .type "slice", data := .fields #[vl, vu, .none] } } := I3.kept (t' := s3.toks) fun b ob q => Heap.get?_push_of_some _ q
  refine wpAny_bind (wpAny_standAt (wpAny_bind (wpAny_holding (set_sliceO (sl := s3.heap.objs.size) I4 hl hb hne (Heap.IsSliceOf.new ..) p2 p3 hac hc hz fun s5 I5 => ?_))))
  exact wpAny_release ⟨σ, _, I5, q4⟩
end L2

/-! MiSliceO -/
set_option Elab.async false
set_option linter.all false
set_option maxRecDepth 100000
set_option maxHeartbeats 2000000
/-! ## x[lo:hi] = ys at a list that all see -/
namespace Mi
open PySem L2 Eg
def sSetSlP (i : Nat) (f : List SD → M (List PyData)) (lo hi : List SD → M (Option Int)) : S := fun δ => catch_ (f δ) δ fun ys => match δ[i]? with
  | some (.d y) => match ptrOf y with
    | some p => catch_ (lo δ) δ fun a => catch_ (hi δ) δ fun b => getL p fun xs =>
      if HT.sIx xs.length 0 a ≤ HT.sIx xs.length xs.length b ∧ HT.sIx xs.length xs.length b ≤ xs.length ∧ xs.length + ys.length ≤ 10000000 then .put p (.lst (xs.take (HT.sIx xs.length 0 a) ++ ys ++ xs.drop (HT.sIx xs.length xs.length b))) (.ret (.nx δ)) else .bad
    | none => .bad
  | _ => .bad
section
variable {c : Cn} {W : WX} {te : TE} {KF : PySem.W.Frag} {tl th : TO}
end
end Mi

/-! MiDyn -/
set_option Elab.async false
set_option linter.all false
set_option maxRecDepth 100000
set_option maxHeartbeats 2000000
/-! ## slices of, and zip over, what may be a list that all see -/
namespace Mi
open PySem L2 Eg
def xSlD (a : E) (lo hi : List SD → M (Option Int)) : E := fun δ => (a δ).bind fun x => (lo δ).bind fun l => (hi δ).bind fun h => match ptrOf x with
  | some p => getL p fun xs => .ret (.list (cutD xs l h))
  | none => M.of (sliced x l h)
noncomputable def fLcZ (r : As) (tg : Tg) (t : B) (e : E) (vs : List Nat) : List SD → M (List PyData) := fun δ => (r δ).bind fun as => match as with
  | [.d x, .d y] => match ptrOf x with
    | some p => match y with
      | .list ys => getL p fun xs => if xs.length ≤ 1000000 then lcGoP p xs tg t e (wipeD δ vs) (zipD xs ys) else .bad
      | _ => .bad
    | none => (M.of (match x, y with
      | .list xs, .list ys => some (zipD xs ys)
      | .tuple xs, .tuple ys => some (zipD xs ys)
      | _, _ => none)).bind fun ds => if ds.length ≤ 1000000 then lcGo tg t e (wipeD δ vs) ds else .bad
  | _ => .bad
/-- J yields ds while the list at p0 stands as L, and what was told stays -/
def ItZ (G1 : Hp) (p0 : Addr) (L : List PyData) (J : It) (ds : List PyData) : Prop := ∀ (τ : Sg) (G' H' : Hp), Wd τ G' H' → Ex G1 G' → τ p0 = some (.lst L) → J.stop ds.length H' ∧ ∀ (i : Nat) (x : PyData), ds[i]? = some x → J.go i H' ∧ ∀ v H2, J.yld i H' v H2 → ∃ G2, Wd τ G2 H2 ∧ Ex G' G2 ∧ Rp G2 v x
section
variable {c : Cn} {W : WX} {te ta tb tc : TE} {t : TT} {a b e : E} {KF : PySem.W.Frag} {ts tu tw : TS}
theorem me_slD {tl th : TO} {lo hi : List SD → M (Option Int)} (ha : ME c W ta a) (hl : MO c W tl lo) (hh : MO c W th hi) : ME c W (tSl (rSlU KF) ta tl th) (xSlD a lo hi) := fun τ0 φ τ δ G H σ Q w l s k => by
  refine ha τ0 φ τ δ G H σ _ w l s (M.wp_mono (fun x φ1 k1 v τ1 G1 H1 w1 g1 r1 => ?_) (fun C fs φ1 k1 => k1) _ _ ((M.wp_bind _ _).mp k))
  refine hl τ0 φ1 τ1 δ G1 H1 σ _ w1 g1.le (s.go g1) (M.wp_mono (fun l1 φ2 k2 τ2 G2 H2 w2 g2 => ?_) (fun C fs φ2 k2 => Xq.go g1 k2) _ _ ((M.wp_bind _ _).mp k1))
  refine hh τ0 φ2 τ2 δ G2 H2 σ _ w2 g2.le ((s.go g1).go g2) (M.wp_mono (fun h1 φ3 k3 τ3 G3 H3 w3 g3 => ?_) (fun C fs φ3 k3 => Xq.go (g1.trans g2) k3) _ _ ((M.wp_bind _ _).mp k2))
  have gg := (g1.trans g2).trans g3
  cases ep : ptrOf x with
  | some p =>
    rw [ep] at k3
    have hv' := Rp.ptr_of r1 ep
    subst hv'
    obtain ⟨xs, hx, k4⟩ := wp_getL k3
    obtain ⟨g0, us, hu, rl⟩ := w3.cell p _ (g3.le _ _ hx)
    refine .inl ⟨_, _, rfl, SqL.of hu, fun p' hp => ?_⟩
    exact k4 _ τ3 _ _ (w3.laid hp) (gg.trans (Go.laid w3 gg.le hp)) (.lst upd_same (RpL.mono (Ex.new (w3.gn hp)) _ _ (RpL.cut l1 h1 rl)))
  | none =>
    rw [ep] at k3
    obtain ⟨y, e1, k4⟩ := wp_of k3
    have r3 := Rp.mono (g2.ex.trans g3.ex) _ _ r1
    cases r3 with
    | @lst a xs ds a1 a2 =>
      cases (show some (PyData.list (cutD ds l1 h1)) = some y from e1)
      refine .inl ⟨_, _, rfl, SqL.of (w3.ex _ _ a1), fun p hp => ?_⟩
      exact k4 _ τ3 _ _ (w3.laid hp) (gg.trans (Go.laid w3 gg.le hp)) (.lst upd_same (RpL.mono (Ex.new (w3.gn hp)) _ _ (RpL.cut l1 h1 a2)))
    | @tup a xs ds a1 a2 =>
      cases (show some (PyData.tuple (cutD ds l1 h1)) = some y from e1)
      refine .inr (.inl ⟨_, _, rfl, SqT.of (w3.ex _ _ a1), fun hw => ?_, fun hw p hp => ?_⟩)
      · rw [a2.len] at hw
        rw [cutD_whole hw] at k4
        exact k4 _ τ3 _ _ w3 gg (.tup a1 a2)
      · exact k4 _ τ3 _ _ (w3.laid hp) (gg.trans (Go.laid w3 gg.le hp)) (.tup upd_same (RpL.mono (Ex.new (w3.gn hp)) _ _ (RpL.cut l1 h1 a2)))
    | _ => exact nomatch e1
theorem lc_turnsZ {tg : Tg} {tt : TT} {te : TE} {t : B} {e : E} {vs : List Nat} (hv : tg.ix = vs) (ht : MT c W tt t) (he : ME c W te e) {τ0 φ τ : Sg} {δ : List SD} {G H : Hp} {σ : L2.St} {Q : VK} (w : Wd τ G H) (l : Le φ τ) (s : Sl c τ0 φ τ G σ δ)
    {p0 : Addr} {L ds : List PyData} {J : It} {φ1 τ1 : Sg} {G1 H1 : Hp} (hJ : ItZ G1 p0 L J ds) (hLd : ds.length ≤ 1000000) (w1 : Wd τ1 G1 H1) (g1 : Go φ τ G φ1 τ1 G1) (k1 : (lcGoP p0 L tg t e (wipeD δ vs) ds).wp φ1 (fun ys φ2 => ∀ p τ' G' H', Wd τ' G' H' → Go φ τ G φ2 τ' G' → τ p = none → τ' p = some (.lst ys) → φ2 p = none → Q (.ref p) H') (Xq c W φ τ G σ)) : LcTurns J (gOf KF tg) tt te vs σ H1 Q := by
  intro D hD
  have tD : τ D = none := Go.tn w1 g1 hD
  have fD : φ1 D = none := g1.le.none (w1.tn hD)
  let P : Nat → Hp → Prop := fun i H' => ∃ φ' τ' G' acc, i ≤ ds.length ∧ acc.length ≤ i ∧ Wd τ' G' H' ∧ Go φ τ G φ' τ' G' ∧ Ex G1 G' ∧ τ' D = some (.lst acc) ∧ φ' D = none ∧
    (lcGoP p0 L tg t e (wipeD δ vs) (ds.drop i)).wp φ' (fun ys φ2 => ∀ p τ' G' H', Wd τ' G' H' → Go φ τ G φ2 τ' G' → τ p = none → τ' p = some (.lst (acc ++ ys)) → φ2 p = none → Q (.ref p) H') (Xq c W φ τ G σ)
  refine ⟨fun i m H' => m = ds.length - i ∧ P i H', ⟨_, rfl, φ1, put τ1 D (.lst []), G1, [], Nat.zero_le _, Nat.le_refl _, w1.fresh hD .nil, g1.trans (Go.fresh w1 g1.le hD), Ex.refl _, put_same, fD, k1⟩, ?_⟩
  rintro i m H' ⟨rfl, φ', τ', G', acc, hl, ha, w', g', ex', hT, hF, k'⟩
  cases hx : ds[i]? with
  | none =>
    have ei : i = ds.length := Nat.le_antisymm hl (List.getElem?_eq_none_iff.mp hx)
    subst ei
    rw [List.drop_length] at k'
    unfold lcGoP at k'
    obtain ⟨ys, hys, kk⟩ := wp_getL k'
    clear k'
    by_cases hq : ys = L
    case neg => rw [if_neg hq] at kk; exact kk.elim
    rw [if_pos hq] at kk
    subst hq
    obtain ⟨hst, hgo⟩ := hJ τ' G' H' w' ex' (g'.le _ _ hys)
    exact .inl ⟨hst, kk D τ' G' H' w' g' tD (by rw [List.append_nil]; exact hT) hF⟩
  | some x =>
    have hil : i < ds.length := (List.getElem?_eq_some_iff.mp hx).1
    have hd : ds.drop i = x :: ds.drop (i + 1) := (List.drop_eq_getElem?_toList_append (l := ds) (i := i)).trans (by rw [hx]; rfl)
    rw [hd] at k'
    unfold lcGoP at k'
    obtain ⟨ys, hys, kk⟩ := wp_getL k'
    clear k'
    by_cases hq : ys = L
    case neg => rw [if_neg hq] at kk; exact kk.elim
    rw [if_pos hq] at kk
    subst hq
    obtain ⟨hst, hgo⟩ := hJ τ' G' H' w' ex' (g'.le _ _ hys)
    obtain ⟨h1, h2⟩ := hgo i x hx
    refine .inr ⟨h1, P (i + 1), fun H2 p => ⟨ds.length - (i + 1), by omega, rfl, p⟩, fun v H2 y => ?_⟩
    obtain ⟨G2, w2, ex2, r2⟩ := h2 v H2 y
    obtain ⟨δ2, hs, k2⟩ := wp_of ((M.wp_bind _ _).mp kk)
    have g2 : Go φ' τ' G' φ' τ' G2 := ⟨ex2, g'.le, fun _ _ a b => ⟨a, b⟩, fun _ h => .inl h⟩
    have s2 := ((s.go g').go g2).wipe vs
    refine gOf_ok (KF := KF) w2 s2 r2 hs fun σ2 ho s3 => ?_
    refine ⟨wipe_only ho (fun j hj => by rw [hv] at hj; exact hj), ?_⟩
    refine ht τ0 φ' τ' δ2 G2 H2 σ2 _ w2 g'.le s3 (M.wp_mono (fun b φ3 k3 τ3 G3 H3 w3 g3 => ?_) (fun _ _ _ h => h.elim) _ _ (M.wp_nox (X' := fun _ _ _ => False) _ _ ((M.wp_bind _ _).mp k2)))
    have hT3 := g3.kept D _ hT hF
    have gg3 := (g'.trans g2).trans g3
    have ex3 : Ex G1 G3 := (ex'.trans ex2).trans g3.ex
    cases b with
    | false =>
      rw [if_neg (by decide)] at k3
      exact ⟨φ3, τ3, G3, acc, hil, Nat.le_succ_of_le ha, w3, gg3, ex3, hT3.1, hT3.2, k3⟩
    | true =>
      rw [if_pos rfl] at k3
      refine he τ0 φ3 τ3 δ2 G3 H3 σ2 _ w3 g3.le (s3.go g3) (M.wp_mono (fun z φ4 k4 u τ4 G4 H4 w4 g4 r4 => ?_) (fun _ _ _ h => h.elim) _ _ (M.wp_nox (X' := fun _ _ _ => False) _ _ ((M.wp_bind _ _).mp k3)))
      have hT4 := g4.kept D _ hT3.1 hT3.2
      obtain ⟨g0, vs4, hh, rl⟩ := w4.cell D _ hT4.1
      refine ⟨vs4, hh, by rw [rl.len]; exact Nat.lt_of_le_of_lt ha (Nat.lt_of_lt_of_le hil (Nat.le_trans hLd (by decide))), φ4, put τ4 D (.lst (acc ++ [z])), G4, acc ++ [z], hil, by rw [List.length_append]; exact Nat.add_le_add_right ha 1, w4.poke hT4.1 (RpL.app rl (.cons r4 .nil)), (gg3.trans g4).poke tD hT4.2, ex3.trans g4.ex, put_same, hT4.2, ?_⟩
      refine M.wp_mono (fun ys φ5 k5 => ?_) (fun _ _ _ h => h) _ _ ((M.wp_bind _ _).mp k4)
      intro p τ5 G5 H5 w5 g5 h5 h6 h7
      exact k5 p τ5 G5 H5 w5 g5 h5 (by rw [h6, List.append_assoc]; rfl) h7
theorem mf_lcZ {tg : Tg} {tt : TT} {ta : TA} {te : TE} {r : As} {t : B} {e : E} {vs : List Nat} (hv : tg.ix = vs) (ha : MA c W ta r) (ht : MT c W tt t) (he : ME c W te e) : MF c W (tLc (RZ.iZipA KF ta) (gOf KF tg) tt te vs) (fLcZ r tg t e vs) := fun τ0 φ τ δ G H σ Q w l s k => by
  refine ha τ0 φ τ δ G H σ _ w l s (M.wp_mono (fun as φ1 k1 us τ1 G1 H1 w1 g1 r1 => ?_) (fun C fs φ1 k1 => k1) _ _ ((M.wp_bind _ _).mp k))
  match as, r1, k1 with
  | [.d x, .d y], .cons (.d rx) (.cons (.d ry) .nil), k1 =>
    dsimp only at k1
    cases ep : ptrOf x with
    | some p =>
      rw [ep] at k1
      have hv' := Rp.ptr_of rx ep
      subst hv'
      cases ry with
      | @lst b ws ys h3 h4 =>
        dsimp only at k1
        obtain ⟨xs, hx, k2⟩ := wp_getL k1
        obtain ⟨g0, vs0, hh, rl⟩ := w1.cell p _ (g1.le _ _ hx)
        by_cases hn : xs.length ≤ 1000000
        case neg => rw [if_neg hn] at k2; exact k2.elim
        rw [if_pos hn] at k2
        refine ⟨_, _, _, _, rfl, .inl ⟨SqL.of hh, SqL.of (w1.ex _ _ h3), lc_turnsZ (KF := KF) (L := xs) hv ht he w l s (fun τ G' H' w' ex hp => ?_) (by rw [zipD_len]; omega) w1 g1 k2⟩⟩
        obtain ⟨g0', vs', hh', rl'⟩ := w'.cell p _ hp
        have q1 : SqL KF H' p vs' := SqL.of hh'
        have q2 := SqL.of (K := KF) (w'.ex _ _ (ex _ _ h3))
        refine ⟨⟨_, _, q1, q2, by rw [zipD_len, rl'.len, h4.len]; omega⟩, fun i z hz => ?_⟩
        obtain ⟨x, y, hx, hy, rfl⟩ := zipD_some hz
        obtain ⟨u, e1, ru⟩ := rl'.get hx
        obtain ⟨v, e2, rv⟩ := h4.get hy
        refine ⟨⟨_, _, u, v, q1, q2, e1, e2⟩, fun v2 H2 ⟨T, a, b, e3, hT, e4, e5, e6⟩ => ?_⟩
        subst e3; subst e4
        have f1 := e5 _ q1
        have f2 := e6 _ q2
        rw [e1] at f1; rw [e2] at f2
        cases f1; cases f2
        exact ⟨_, w'.laid hT, Ex.new (w'.gn hT), .tup upd_same (.cons (Rp.mono (Ex.new (w'.gn hT)) _ _ ru) (.cons (Rp.mono (ex.trans (Ex.new (w'.gn hT))) _ _ rv) .nil))⟩
      | _ => exact k1.elim
    | none =>
      rw [ep] at k1
      obtain ⟨ds, hd, k2⟩ := wp_of ((M.wp_bind _ _).mp k1)
      match x, y, rx, ry, hd with
      | .list xs, .list ys, .lst h1 h2, .lst h3 h4, hd =>
        cases (show some (zipD xs ys) = some ds from hd)
        refine ⟨_, _, _, _, rfl, .inl ⟨SqL.of (w1.ex _ _ h1), SqL.of (w1.ex _ _ h3), lc_turns (KF := KF) hv ht he w l s w1 g1 (fun τ' G' H' w ex => ?_) k2⟩⟩
        have q1 := SqL.of (K := KF) (w.ex _ _ (ex _ _ h1))
        have q2 := SqL.of (K := KF) (w.ex _ _ (ex _ _ h3))
        refine ⟨⟨_, _, q1, q2, by rw [zipD_len, h2.len, h4.len]; omega⟩, fun i z hz => ?_⟩
        obtain ⟨x, y, hx, hy, rfl⟩ := zipD_some hz
        obtain ⟨u, e1, ru⟩ := h2.get hx
        obtain ⟨v, e2, rv⟩ := h4.get hy
        refine ⟨⟨_, _, u, v, q1, q2, e1, e2⟩, fun v2 H2 ⟨T, a, b, e3, hT, e4, e5, e6⟩ => ?_⟩
        subst e3; subst e4
        have f1 := e5 _ q1
        have f2 := e6 _ q2
        rw [e1] at f1; rw [e2] at f2
        cases f1; cases f2
        exact ⟨_, w.laid hT, Ex.new (w.gn hT), .tup upd_same (.cons (Rp.mono (ex.trans (Ex.new (w.gn hT))) _ _ ru) (.cons (Rp.mono (ex.trans (Ex.new (w.gn hT))) _ _ rv) .nil))⟩
      | .tuple xs, .tuple ys, .tup h1 h2, .tup h3 h4, hd =>
        cases (show some (zipD xs ys) = some ds from hd)
        refine ⟨_, _, _, _, rfl, .inr ⟨SqT.of (w1.ex _ _ h1), SqT.of (w1.ex _ _ h3), lc_turns (KF := KF) hv ht he w l s w1 g1 (fun τ' G' H' w ex => ?_) k2⟩⟩
        have q1 := SqT.of (K := KF) (w.ex _ _ (ex _ _ h1))
        have q2 := SqT.of (K := KF) (w.ex _ _ (ex _ _ h3))
        refine ⟨⟨_, _, q1, q2, by rw [zipD_len, h2.len, h4.len]; omega⟩, fun i z hz => ?_⟩
        obtain ⟨x, y, hx, hy, rfl⟩ := zipD_some hz
        obtain ⟨u, e1, ru⟩ := h2.get hx
        obtain ⟨v, e2, rv⟩ := h4.get hy
        refine ⟨⟨_, _, u, v, q1, q2, e1, e2⟩, fun v2 H2 ⟨T, a, b, e3, hT, e4, e5, e6⟩ => ?_⟩
        subst e3; subst e4
        have f1 := e5 _ q1
        have f2 := e6 _ q2
        rw [e1] at f1; rw [e2] at f2
        cases f1; cases f2
        exact ⟨_, w.laid hT, Ex.new (w.gn hT), .tup upd_same (.cons (Rp.mono (ex.trans (Ex.new (w.gn hT))) _ _ ru) (.cons (Rp.mono (ex.trans (Ex.new (w.gn hT))) _ _ rv) .nil))⟩
end
end Mi

/-! MiPar4 -/
set_option Elab.async false
set_option linter.all false
set_option maxRecDepth 100000
set_option maxHeartbeats 2000000
/-! ## a, b, c, d = .., also with new lists that are one's own -/
namespace Mi
open PySem L2 Eg
section
variable {c : Cn} {W : WX} {KF : PySem.W.Frag}
end
end Mi

/-! MiStr -/
set_option Elab.async false
set_option linter.all false
set_option maxRecDepth 100000
set_option maxHeartbeats 2000000
/-! ## texts: a sign of a text, the signs of a text, ord, join -/
namespace Mi
open PySem L2 Eg
def fIxS : PyData → PyData → Option PyData
  | .str z, .int i => if 0 ≤ i ∧ i < 1000000 then (z.cps[i.toNat]?).map fun c => .str ⟨#[c]⟩ else none
  | _, _ => none
def signsD : PyData → Option (List PyData)
  | .str s => if s.cps.size ≤ 1000000 then some (s.cps.toList.map fun c => .str ⟨#[c]⟩) else none
  | _ => none
def iStrM (a : E) : List SD → M (List PyData) := fun δ => (a δ).bind fun x => M.of (signsD x)
def strs? : List PyData → Option (List Str)
  | [] => some []
  | .str s :: xs => (strs? xs).map (s :: ·)
  | _ :: _ => none
def fJoin (a : Str) : PyData → Option PyData
  | .list ys => (strs? ys).bind fun ss => if (ss.map (·.length)).sum + ss.length * a.length ≤ 16777216 then some (.str (Txt.join a ss)) else none
  | _ => none
def xJoin (a b : E) : E := fun δ => (a δ).bind fun x => match x with
  | .str s => (b δ).bind fun y => M.of (fJoin s y)
  | _ => .bad
section
variable {c : Cn} {W : WX} {te ta tb : TE} {a b e : E} {KF : PySem.W.Frag}
end
def fInS (neg : Bool) : PyData → PyData → Option PyData
  | .str i, .str j => some (.bool (if neg then (Builtin.Str.occurrences j i 0 j.length 1).isEmpty else !(Builtin.Str.occurrences j i 0 j.length 1).isEmpty))
  | _, _ => none
end Mi
namespace L2
open PySem
end L2

/-! EgTryM -/
set_option Elab.async false
set_option linter.all false
set_option maxRecDepth 100000
set_option maxHeartbeats 2000000
/-! ## try with clauses with and without names, one class each -/
namespace L2N
open PySem PySem.Spec PyProof.Rows L2
/-- a clause's class, its name's slot if it has one, its suite -/
abbrev ClM := Value × Option Nat × Suite
inductive HdsM (X : Cx) : List ExceptHandler → List ClM → Prop
  | nil : HdsM X [] []
  | consU {x : Str} {c : Value} {ts : Suite} {s0 : Stmt} {suite : List Stmt} {np pos' : Pos} {hds : List ExceptHandler} {l : List ClM} (hc : Names X x c)
      (hsu : ∀ (a : Addr) (oe : Obj) (cls : Value) (d : Option Addr) (pn : List (Addr × Obj)), Zn cls d oe → (∃ vs, oe.data = .fields vs) → PSs (X.suite a ((a, oe) :: pn)) (s0 :: suite) (ts a cls d)) (r : HdsM X hds l) :
      HdsM X (.ExceptHandler (some (.Name x np)) none (s0 :: suite) pos' :: hds) ((c, none, ts) :: l)
  | consN {x n : Str} {c : Value} {i : Nat} {ts : Suite} {s0 : Stmt} {suite : List Stmt} {np pos' : Pos} {hds : List ExceptHandler} {l : List ClM} (hc : Names X x c) (hi : X.N[i]? = some n) (hln : X.env.kindOf n = some .local)
      (hsu : ∀ (a : Addr) (oe : Obj) (cls : Value) (d : Option Addr) (pn : List (Addr × Obj)), Zn cls d oe → (∃ vs, oe.data = .fields vs) → PSs (X.suite a ((a, oe) :: pn)) (s0 :: suite) (ts a cls d)) (r : HdsM X hds l) :
      HdsM X (.ExceptHandler (some (.Name x np)) (some n) (s0 :: suite) pos' :: hds) ((c, some i, ts) :: l)
section
variable {X : Cx} {body : List Stmt} {h₀ : ExceptHandler} {hds : List ExceptHandler} {l : List ClM} {pos : Pos} {tb : WX → TS} {Wo : WX}
end
end L2N

/-! MiTryM -/
set_option Elab.async false
set_option linter.all false
set_option maxRecDepth 100000
set_option maxHeartbeats 2000000
/-! ## clauses with and without names -/
namespace Mi
open PySem L2 Eg
def mGo (C : String) (fs : List (Str × PyData)) : List (String × Option Nat × S) → S
  | [] => fun δ => .ret (.xx C fs δ)
  | (n, none, s) :: r => fun δ => if C = n then s δ else mGo C fs r δ
  | (n, some i, s) :: r => fun δ => if C = n then (s (δ.set i (.exn C fs))).bind fun fl => .ret (unF i fl) else mGo C fs r δ
def sTryM (L : List String) (b : S) (r : List (String × Option Nat × S)) : S := fun δ => (b δ).bind fun fl => match fl with
  | .xx C fs δ1 => if C ∈ L then mGo C fs r δ1 else .bad
  | fl => .ret fl
section
variable {c : Cn} {W : WX}
inductive HsM (c : Cn) (W : WX) : List L2N.ClM → List (String × Option Nat × S) → Prop
  | nil : HsM c W [] []
  | consU {n : String} {ts : Suite} {s : S} {l : List L2N.ClM} {r : List (String × Option Nat × S)} : (∀ a v d, MS c W (ts a v d) s) → HsM c W l r → HsM c W ((.ref (c.cl n), none, ts) :: l) ((n, none, s) :: r)
  | consN {n : String} {i : Nat} {ts : Suite} {s : S} {l : List L2N.ClM} {r : List (String × Option Nat × S)} : (∀ a d, MS (c.at i (a, c.cl n, d)) W (ts a (.ref (c.cl n)) d) s) → HsM c W l r → HsM c W ((.ref (c.cl n), some i, ts) :: l) ((n, some i, s) :: r)
end
end Mi

/-! EgMakeK -/
set_option Elab.async false
set_option linter.all false
set_option maxRecDepth 100000
set_option maxHeartbeats 2000000
/-! ## a class called with keywords, the guards carried -/
namespace L2
open PySem PySem.Spec PyProof.Rows
section
variable {X : Cx} {CX : CXT} {k : Nat} {f C : Addr} {fd : FuncData} {ps ks : List Str} {sp : Sp} {E : St → XK} {x m : Str} {p pos apos : Pos} {e o : Expr} {es : List Expr} {kws : List Keyword} {ta : TE} {t tk : TA} {g : List Value → List Value → List Value} {gV : List V → List V → List V}
def tMakeGK (C : Addr) (sp : Sp) (gV : List V → List V → List V) (n : Nat) (E : St → XK) (tk : TA) : TE := fun σ H Q => tk σ H fun zs H1 => zs.length = n ∧ ∀ x dx, H1 x = none → H1 dx = none → dx ≠ x → sp (gV [V.ref x] zs) (upd (upd H1 dx (.own x)) x (.ins C dx [])) (fun v H2 => v = .non ∧ Q (.ref x) H2) (E σ)
theorem run_makeGK {pins : List (Addr × Obj)} {σ : St} {H : Hp} {s : Shared} {Q : VK} {ws : List Value} {zs : List V} (M : Mk X.K C f) (F : FnG X.prog X.w X.K X.mg X.base CX k f fd ps sp) (hr : Room (k + 1) X.A) (hgd : Gd X.A) (hb : KB fd ps ks 1 g gV)
    (hx : PassesAt CX X σ (E σ)) (I : Inv X pins σ H s) (rz : Vals zs ws) (l2 : zs.length = ks.length)
    (h : ∀ x dx, H x = none → H dx = none → dx ≠ x → sp (gV [.ref x] zs) (upd (upd H dx (.own x)) x (.ins C dx [])) (fun v H2 => v = .non ∧ Q (.ref x) H2) (E σ)) :
    wpAny (model X.prog X.w) X.A (call (.ref C) [] (ks.zip ws)) (EP X pins σ Q) X.xe s := by
  have hq := h (s.heap.objs.size + 1) s.heap.objs.size (I.hok.fresh (Nat.le_succ _)) (I.hok.fresh (Nat.le_refl _)) (Nat.ne_of_lt (Nat.lt_succ_self _))
  have I2 := Inv.made (C := C) I
  have r1 : Vals [V.ref (s.heap.objs.size + 1)] [Value.ref (s.heap.objs.size + 1)] := .cons rfl .nil
  have u2 : ws.length = ks.length := by rw [← rz.length]; exact l2
  have r2 := hb.rel r1 rz rfl u2
  refine wpAny_call (make_map (f := f) I.kIn M.makes M.init (beq_iff_eq.mp M.fn) (codeAny_mono (F.run _ X.stack _ _ ⟨[Value.ref (s.heap.objs.size + 1)], ks.zip ws⟩ (g [Value.ref (s.heap.objs.size + 1)] ws) _ _ (E σ) (hr.make C [] (ks.zip ws)) hgd
    (I2.env0.make C [] (ks.zip ws)) (hb.to _ [Value.ref (s.heap.objs.size + 1)] ws rfl u2) r2 hq) fun r s' hq' => ?_))
  cases r with
  | error e => exact hx pins _ _ e s' I2 hq'
  | ok fl =>
    cases fl with
    | ret u =>
      obtain ⟨v, H', I3, rv, ev, q3⟩ := I2.after hq'
      subst ev
      exact ⟨rv, ⟨V.ref (s.heap.objs.size + 1), H', I3, rfl, q3⟩⟩
    | next => exact False.elim hq'
    | brk => exact False.elim hq'
    | cont => exact False.elim hq'
theorem pe_makeGK (M : Mk X.K C f) (F : FnG X.prog X.w X.K X.mg X.base CX k f fd ps sp) (hr : Room (k + 1) X.A) (hgd : Gd X.A) (hg : Gl X x) (hm : X.mg x = some (.ref C)) (hb : KB fd ps ks 1 g gV) (hx : ∀ σ, PassesAt CX X σ (E σ)) (hkw : PK X kws tk)
    (hall : (backToKw pos (keywordEach kws X.env)).all (·.1.isSome) = true := by rfl) (hks : (backToKw pos (keywordEach kws X.env)).filterMap (·.1) = ks := by rfl) (hdb : (x == ("__debug__" : Str)) = false := by decide)
    (hpl : ((backTo pos (starEach [] X.env)).any (·.1) || (backToKw pos (keywordEach kws X.env)).any (·.1.isNone)) = false := by rfl) :
    PE X (.Call (.Name x p) [] kws pos) (tMakeGK C sp gV ks.length E tk) := by
  refine ⟨fun pins s σ H Q I h => ?_⟩
  refine wpAny_Call_Name_kw (ld_glob I hg hm ?_ hdb)
  refine PySem.W.callWith_KW0 (h₀ := X.base) I.ok.mod.kin M.kp hall ?_ hpl
  refine thn (hkw.run pos pins s σ H _ I h) fun ws s2 ⟨zs, H2, I2, rz, l2, q2⟩ => ⟨I2.kIn, ?_⟩
  rw [hks]
  exact run_makeGK M F hr hgd hb (hx σ) I2 rz l2 q2
end
end L2

/-! MiMake -/
set_option Elab.async false
set_option linter.all false
set_option maxRecDepth 100000
set_option maxHeartbeats 2000000
/-! ## a class called with keywords; a call's new list; slices of what an expression tells; dict([(k, v)]) -/
namespace Mi
open PySem L2 Eg
def xMakeK (C : Addr) (n : Nat) (ix : List Nat) (m : List AV → M Rt) (r : As) : E := fun δ => (r δ).bind fun as => if as.length = n then .new (.ins C []) fun p => (m (perm1 ix [.d (ptrD p)] as)).bind fun z => match z with
    | .d .none => .ret (ptrD p)
    | _ => .bad
  else .bad
/-- what a call tells, a new list -/
def fCall (m : List AV → M Rt) (r : As) : List SD → M (List PyData) := fun δ => ((r δ).bind m).bind fun z => match z with
  | .f xs => .ret xs
  | .d _ => .bad
def fCall0 (m : List AV → M Rt) (r : As) : List SD → M (List PyData) := fun δ => ((r δ).bind fun as => (m as).nox).bind fun z => match z with
  | .f xs => .ret xs
  | .d _ => .bad
def fDict1 : PyData → Option PyData
  | .list [.tuple [.int k, v]] => some (.dict [(.int k, v)])
  | _ => none
def rDictP (K : PySem.W.Frag) : List V → Hp → VK → Prop := fun xs H Q => ∃ (a : Addr) (ps : List Addr) (kvs : List (Key × V)), xs = [V.ref a] ∧ SqL K H a (ps.map V.ref) ∧ Paired (fun p kv => SqT K H p [kV kv.1, kv.2]) ps kvs ∧ ∀ p, H p = none → Q (V.ref p) (upd H p (.dK (mergeK [] kvs)))
def sSetSlE (f : List SD → M (List PyData)) (o : E) (lo hi : List SD → M (Option Int)) : S := fun δ => catch_ (f δ) δ fun ys => catch_ (o δ) δ fun y => match ptrOf y with
    | some p => catch_ (lo δ) δ fun a => catch_ (hi δ) δ fun b => getL p fun xs =>
      if HT.sIx xs.length 0 a ≤ HT.sIx xs.length xs.length b ∧ HT.sIx xs.length xs.length b ≤ xs.length ∧ xs.length + ys.length ≤ 10000000 then .put p (.lst (xs.take (HT.sIx xs.length 0 a) ++ ys ++ xs.drop (HT.sIx xs.length xs.length b))) (.ret (.nx δ)) else .bad
    | none => .bad
theorem Go.told {φ τ φ1 τ1 : Sg} {G G1 H1 : Hp} {p : Addr} {cc : Cell} (w1 : Wd τ1 G1 H1) (g1 : Go φ τ G φ1 τ1 G1) {φ2 τ2 : Sg} {G2 H2 : Hp} (w2 : Wd τ2 G2 H2) (g2 : Go φ1 τ1 G1 φ2 τ2 G2) (h1 : τ1 p = none) (h2 : τ2 p = some cc) (ho : cc.open_ = true := by rfl) : τ p = none := by
  cases z : τ p with
  | none => rfl
  | some c2 =>
    rcases g1.stay p (by rw [z]; exact fun q => nomatch q) with q | q
    · exact absurd h1 q
    · have := (w2.cell p _ h2).1.nn ho
      cases zg : G1 p with
      | none => exact absurd zg q
      | some o => rw [g2.ex p o zg] at this; cases this
section
variable {c : Cn} {W : WX} {te ta tb tc : TE} {t : TT} {a b e o : E} {KF : PySem.W.Frag} {ts tu tw : TS} {C : Addr} {f nm : Str}
theorem me_makeK {m : List AV → M Rt} {tt : TA} {r : As} {n : Nat} {ix : List Nat} (hr : MA c W tt r) : ME c W (tMakeGK C (SpM c.K c.cl m) (perm1 ix) n (WE W) tt) (xMakeK C n ix m r) := fun τ0 φ τ δ G H σ Q w l s k => by
  refine hr τ0 φ τ δ G H σ _ w l s (M.wp_mono (fun as φ1 k1 vs τ1 G1 H1 w1 g1 r1 => ?_) (fun C fs φ1 k1 => k1) _ _ ((M.wp_bind _ _).mp k))
  by_cases hn : as.length = n
  case neg => rw [if_neg hn] at k1; exact k1.elim
  rw [if_pos hn] at k1
  refine ⟨by rw [r1.len]; exact hn, ?_⟩
  intro x dx hx hdx hne
  have w2 : Wd τ1 G1 (upd H1 dx (.own x)) := w1.aside hdx
  have hx2 : (upd H1 dx (.own x)) x = none := by rw [upd_ne (Ne.symm hne)]; exact hx
  have w3 := w2.freshI (C := C) (dx := dx) hx2
  have g3 : Go φ1 τ1 G1 (put φ1 x (.ins C [])) (put τ1 x (.ins C [])) G1 := Go.freshV w2 g1.le hx2
  have gg := g1.trans g3
  refine ⟨_, _, G1, perm1 ix [.d (ptrD x)] as, w3, g3.le, ArgsR.app (.cons (.d (.ptr x)) .nil) (r1.pick ix), M.wp_mono (fun z φ3 k4 => ?_) (fun C fs φ3 k4 => fun d τ' G' H' w' g' r => k4 d τ' G' H' w' (gg.trans g') r) _ _ ((M.wp_bind _ _).mp (k1 x (g1.le.none (w1.tn hx))))⟩
  cases z with
  | f xs => exact k4.elim
  | d y =>
    cases y with
    | none =>
      intro v τ' G' H' w' g' r'
      cases r'
      exact ⟨rfl, k4 _ τ' G' H' w' (gg.trans g') (.ptr x)⟩
    | _ => exact k4.elim
theorem me_dict1 (ha : ME c W ta a) : ME c W (tCB (rDictP KF) (tCons ta tNil)) (x1 fDict1 a) := fun τ0 φ τ δ G H σ Q w l s k => by
  refine ha τ0 φ τ δ G H σ _ w l s (M.wp_mono (fun x φ1 k1 v τ1 G1 H1 w1 g1 r1 => ?_) (fun C fs φ1 k1 => k1) _ _ ((M.wp_bind _ _).mp k))
  obtain ⟨z, hz, k3⟩ := wp_of k1
  unfold fDict1 at hz
  split at hz
  · rename_i key y
    cases hz
    cases r1 with
    | lst h1 h2 =>
      cases h2 with
      | cons rt rn =>
        cases rn
        cases rt with
        | tup h3 h4 =>
          cases h4 with
          | cons rk rl =>
            cases rk
            cases rl with
            | cons rv rn =>
              cases rn
              rename_i a1 p1 v1
              refine ⟨a1, [p1], [(.inl key, v1)], rfl, SqL.of (w1.ex _ _ h1), .cons (SqT.of (w1.ex _ _ h3)) .nil, fun q hq => ?_⟩
              exact k3 _ τ1 _ _ (w1.laid hq) (g1.trans (Go.laid w1 g1.le hq)) (.dct upd_same (.cons (k := .inl key) (Rp.mono (Ex.new (w1.gn hq)) _ _ rv) .nil))
  · cases hz
theorem ms_setSlE {f : List SD → M (List PyData)} {tl th : TO} {lo hi : List SD → M (Option Int)} (hf : MF c W te f) (ho : ME c W ta o) (ha : MO c W tl lo) (hb : MO c W th hi) : MS c W (tAsg te (gSliceO ta tl th)) (sSetSlE f o lo hi) := fun φ0 τ0 G0 φ τ δ G H σ D w g s k => by
  refine hf τ0 φ τ δ G H σ _ w g.le s (M.wp_mono (fun ys φ1 k1 q τ1 G1 H1 w1 g1 p1 p2 p3 => ?_) (fun C fs φ1 k1 => FlR.xq g s k1) _ _ (wp_catch _ _ k))
  have gg := g.trans g1
  have s1 := s.go g1
  refine ho τ0 φ1 τ1 δ G1 H1 σ _ w1 g1.le s1 (M.wp_mono (fun y φa k2 v τa Ga Ha wa ga ra => ?_) (fun C fs φ2 k2 => FlR.xq gg s1 k2) _ _ (wp_catch _ _ k1))
  have gga := gg.trans ga
  have sa := s1.go ga
  cases ep : ptrOf y with
  | none => rw [ep] at k2; exact k2.elim
  | some p =>
    rw [ep] at k2
    have hv := Rp.ptr_of ra ep
    subst hv
    refine ha τ0 φa τa δ Ga Ha σ _ wa ga.le sa (M.wp_mono (fun a φ2 k2 τ2 G2 H2 w2 g2 => ?_) (fun C fs φ2 k2 => FlR.xq gga sa k2) _ _ (wp_catch _ _ k2))
    refine hb τ0 φ2 τ2 δ G2 H2 σ _ w2 g2.le (sa.go g2) (M.wp_mono (fun b φ3 k3 τ3 G3 H3 w3 g3 => ?_) (fun C fs φ3 k3 => FlR.xq (gga.trans g2) (sa.go g2) k3) _ _ (wp_catch _ _ k2))
    obtain ⟨xs, hx, k4⟩ := wp_getL k3
    have g23 := (ga.trans g2).trans g3
    have kq := g23.kept q _ p2 p3
    have ht := g3.le _ _ hx
    have hpq : p ≠ q := fun z => by rw [z, kq.2] at hx; cases hx
    obtain ⟨_, vs, hh, rl⟩ := w3.cell p _ ht
    obtain ⟨_, us, hu, ru⟩ := w3.cell q _ kq.1
    by_cases hc : HT.sIx xs.length 0 a ≤ HT.sIx xs.length xs.length b ∧ HT.sIx xs.length xs.length b ≤ xs.length ∧ xs.length + ys.length ≤ 10000000
    · rw [if_pos hc] at k4
      refine ⟨p, q, vs, us, rfl, rfl, hh, hu, hpq, by rw [rl.len]; exact hc.1, by rw [rl.len]; exact hc.2.1, by rw [rl.len, ru.len]; exact Nat.le_trans hc.2.2 (by decide), ?_⟩
      rw [rl.len]
      have g4 : Go φ3 τ3 G3 (put φ3 p (.lst (xs.take (HT.sIx xs.length 0 a) ++ ys ++ xs.drop (HT.sIx xs.length xs.length b)))) (put τ3 p (.lst (xs.take (HT.sIx xs.length 0 a) ++ ys ++ xs.drop (HT.sIx xs.length xs.length b)))) G3 := ⟨Ex.refl _, fun q d eq => by
          by_cases hq : q = p
          · subst hq; rw [put_same] at eq ⊢; exact eq
          · rw [put_ne hq] at eq ⊢; exact g3.le q d eq, fun q d a b => by
          have hq : q ≠ p := fun z => by rw [z, hx] at b; cases b
          exact ⟨by rw [put_ne hq]; exact a, by rw [put_ne hq]; exact b⟩, fun q hq => .inl (by
          by_cases hqp : q = p
          · rw [hqp, put_same]; exact fun z => nomatch z
          · rw [put_ne hqp]; exact hq)⟩
      exact k4.2 σ _ G3 _ (w3.poke ht (RpL.app (RpL.app (rl.take _) ru) (rl.drop _))) (((gg.trans g23)).trans g4) (((sa.go g2).go g3).go g4)
    · rw [if_neg hc] at k4; exact k4.elim
end
end Mi
namespace L2
theorem cr_dictP {X : Cx} (h : X.calm = true) : CallR X (PySem.Value.type "dict") (Mi.rDictP X.K) := call_dictP h
end L2

/-! EgTab -/
set_option Elab.async false
set_option linter.all false
set_option maxRecDepth 100000
set_option maxHeartbeats 2000000
/-! ## a local name that holds one of a table's defs, called; keyword-only defaults, the guards carried -/
namespace L2
open PySem PySem.Spec PyProof.Rows
section
variable {X : Cx} {CX : CXT} {k j : Nat} {f C : Addr} {fd : FuncData} {ps ks : List Str} {sp : Sp} {E : St → XK} {x m : Str} {p pos apos : Pos} {e o : Expr} {es : List Expr} {kws : List Keyword} {ta : TE} {t tk : TA} {n : Nat} {g : List Value → List Value → List Value} {gV : List V → List V → List V}
structure CvOk (X : Cx) (CX : CXT) (f : Addr) (sp : Sp) : Prop where
  ex : ∃ (k : Nat) (fd : FuncData) (ps : List Str), FnG X.prog X.w X.K X.mg X.base CX k f fd ps sp ∧ Room k X.A ∧ PySem.W.keepIn X.K (.ref f) = true ∧ Binds X.K fd ps []
end
end L2

/-! MiTab -/
set_option Elab.async false
set_option linter.all false
set_option maxRecDepth 100000
set_option maxHeartbeats 2000000
/-! ## tables of defs; dicts that change and dict comprehensions; bit_length, index -/
namespace Mi
open PySem L2 Eg
/-! ### dicts -/
def putD (es : List (Key × PyData)) (k : Key) (y : PyData) : List (Key × PyData) := if (es.any fun kv => decide (kv.1 = k)) = true then es.map (fun kv => if kv.1 = k then (kv.1, y) else kv) else es ++ [(k, y)]
def valD (es : List (Key × PyData)) (k : Key) : Option PyData := (es.find? fun kv => decide (kv.1 = k)).map (·.2)
def keyOf : PyData → Option Key
  | .int i => some (.inl i)
  | .str z => some (.inr z)
  | _ => none
theorem RpD.len {G : Hp} : ∀ {vs : List (Key × V)} {xs : List (Key × PyData)}, RpD G vs xs → vs.length = xs.length
  | _, _, .nil => rfl
  | _, _, .cons _ h => congrArg Nat.succ h.len
theorem RpD.any {G : Hp} (k : Key) : ∀ {vs : List (Key × V)} {xs : List (Key × PyData)}, RpD G vs xs → (vs.any fun kv => decide (kv.1 = k)) = (xs.any fun kv => decide (kv.1 = k))
  | _, _, .nil => rfl
  | _, _, .cons _ h => by rw [List.any_cons, List.any_cons, h.any k]
theorem RpD.snoc {G : Hp} {k : Key} {v : V} {x : PyData} (r : Rp G v x) : ∀ {vs : List (Key × V)} {xs : List (Key × PyData)}, RpD G vs xs → RpD G (vs ++ [(k, v)]) (xs ++ [(k, x)])
  | _, _, .nil => .cons r .nil
  | _, _, .cons r' h => .cons r' (h.snoc r)
theorem RpD.map {G : Hp} {k : Key} {v : V} {x : PyData} (r : Rp G v x) : ∀ {vs : List (Key × V)} {xs : List (Key × PyData)}, RpD G vs xs → RpD G (vs.map fun kv => if kv.1 = k then (kv.1, v) else kv) (xs.map fun kv => if kv.1 = k then (kv.1, x) else kv)
  | _, _, .nil => .nil
  | _, _, .cons (k := k') r' h => by
    rw [List.map_cons, List.map_cons]
    by_cases e : k' = k
    · rw [if_pos e, if_pos e]; exact .cons r (h.map r)
    · rw [if_neg e, if_neg e]; exact .cons r' (h.map r)
theorem RpD.put {G : Hp} {k : Key} {v : V} {x : PyData} {vs : List (Key × V)} {xs : List (Key × PyData)} (h : RpD G vs xs) (r : Rp G v x) : RpD G (putK vs k v) (putD xs k x) := by
  unfold putK putD
  rw [h.any k]
  split
  · exact h.map r
  · exact h.snoc r
theorem RpD.val {G : Hp} {k : Key} {y : PyData} : ∀ {vs : List (Key × V)} {xs : List (Key × PyData)}, RpD G vs xs → valD xs k = some y → ∃ v, valV vs k = some v ∧ Rp G v y
  | _, _, .nil, e => nomatch e
  | _, _, .cons (k := k') (v := v) (x := x) (vs := vs) (xs := xs) r h, e => by
    by_cases hk : k' = k
    · have : valD ((k', x) :: xs) k = some x := by simp [valD, List.find?_cons, hk]
      rw [this] at e; cases e
      exact ⟨v, valV_pos hk, r⟩
    · have : valD ((k', x) :: xs) k = valD xs k := by simp [valD, List.find?_cons, hk]
      rw [this] at e
      rw [valV_neg (p := (k', v)) hk]
      exact h.val e
def getD {α : Type} (p : Addr) (k : List (Key × PyData) → M α) : M α := .get p fun c => match c with
  | .dct es => k es
  | _ => .bad
def xNewD : E := fun _ => .new (.dct []) fun p => .ret (ptrD p)
/-- d[k] -/
def xIxD (a b : E) : E := fun δ => (a δ).bind fun x => (b δ).bind fun y => match ptrOf x, keyOf y with
  | some p, some k => getD p fun es => M.of (valD es k)
  | _, _ => .bad
/-- d[k] = v -/
def sSetD (e a b : E) : S := fun δ => catch_ (e δ) δ fun z => catch_ (a δ) δ fun x => catch_ (b δ) δ fun y => match ptrOf x, keyOf y with
  | some p, some k => getD p fun es => if es.length < 10000000 then .put p (.dct (putD es k z)) (.ret (.nx δ)) else .bad
  | _, _ => .bad
def dcGo (tg : Tg) (a b : E) (δ : List SD) : List (Key × PyData) → List PyData → M (List (Key × PyData))
  | acc, [] => .ret acc
  | acc, x :: xs => (M.of (setT tg x δ)).bind fun δ2 => (a δ2).nox.bind fun y => (M.of (keyOf y)).bind fun k => (b δ2).nox.bind fun z => dcGo tg a b δ (putD acc k z) xs
def xDc (it : List SD → M (List PyData)) (tg : Tg) (a b : E) (vs : List Nat) : E := fun δ => (it δ).bind fun ds => if ds.length ≤ 1000000 then (dcGo tg a b (wipeD δ vs) [] ds).bind fun es => .new (.dct es) fun p => .ret (ptrD p) else .bad
def fBits : PyData → Option PyData
  | .int i => some (.int (Builtin.Int.intBits i : Nat))
  | _ => none
def isIn : PyData → Bool
  | .int _ => true
  | _ => false
def idxOf : List PyData → Int → Option Nat
  | .int a :: xs, i => if a = i then some 0 else (idxOf xs i).map (· + 1)
  | _, _ => none
def fIdx : PyData → PyData → Option PyData
  | .list xs, .int i => if xs.all isIn = true then (idxOf xs i).map fun j => .int (j : Nat) else none
  | _, _ => none
/-! ### tables of defs -/
def tabAt (ms : List (List AV → M Rt)) : PyData → Option (List AV → M Rt)
  | .int w => if 0 ≤ w then ms[w.toNat]? else none
  | _ => none
/-- x = TABLE[e]; return x(..), a new list told -/
def sTabF (i : Nat) (ms : List (List AV → M Rt)) (e : E) (r : As) : S := fun δ => catch_ (e δ) δ fun y => match tabAt ms y with
  | some m => if i < δ.length then sRetF (fCall m r) (δ.set i .u) else .bad
  | none => .bad
def sTabF0 (i : Nat) (ms : List (List AV → M Rt)) (e : E) (r : As) : S := fun δ => catch_ (e δ) δ fun y => match tabAt ms y with
  | some m => if i < δ.length then sRetF (fCall0 m r) (δ.set i .u) else .bad
  | none => .bad
section
variable {c : Cn} {W : WX} {te ta tb tc tk tv : TE} {t : TT} {a b e o : E} {KF : PySem.W.Frag} {ts tu tw : TS} {C : Addr} {f nm : Str}
def xIdx (a b : E) : E := fun δ => (a δ).bind fun x => match x with
  | .list xs => (b δ).bind fun y => M.of (fIdx (.list xs) y)
  | _ => .bad
end
end Mi
namespace Mi
open PySem L2 Eg
end Mi
namespace L2
open PySem PySem.Spec PyProof.Rows
theorem few {k : Nat} {A : Around} (h : Room k A) : A.units + 1 < cLine := by have := h.un; omega
end L2

/-! EgSortSetN -/
set_option Elab.async false
set_option linter.all false
set_option maxRecDepth 100000
set_option maxHeartbeats 2000000
/-! ## sorted(set(xs)), integers, up to some thousand of them -/
namespace L2
open PySem PySem.Spec PyProof.Rows
open PySem.Builtin
section
variable {P : Program} {w : World} {A : Around} {E : Value → Shared → Prop} {s : Shared} {a : Addr}
end
section
variable {X : Cx}
end
end L2

/-! MiSortSetN -/
set_option Elab.async false
set_option linter.all false
set_option maxRecDepth 100000
set_option maxHeartbeats 2000000
/-! ## sorted(set(e)), integers, less than a thousand; e may be a pointer -/
namespace Mi
open PySem L2 Eg
def fSortSetN (a : E) : List SD → M (List PyData) := fun δ => (a δ).bind fun x => seen x fun y => M.of (match y with
  | .list xs => match intsOf xs with
    | some ns => if ns.length < 1000 then some ((sdup ns).map .int) else none
    | none => none
  | _ => none)
section
variable {c : Cn} {W : WX} {ta : TE} {a : E} {KF : PySem.W.Frag}
end
end Mi

/-! MiCmpO -/
set_option Elab.async false
set_option linter.all false
set_option maxRecDepth 100000
set_option maxHeartbeats 2000000
/-! ## an own list compared -/
namespace Mi
open PySem L2 Eg
def x2o (f : PyData → PyData → Option PyData) (i : Nat) (b : E) : E := fun δ => match δ[i]? with
  | some (.own xs) => (b δ).bind fun y => match f (.list xs) y with
    | some u => if isScal u = true then .ret u else .bad
    | none => .bad
  | _ => .bad
section
variable {c : Cn} {W : WX} {tb : TE} {b : E}
end
end Mi

/-! EgLcX -/
set_option Elab.async false
set_option linter.all false
set_option maxRecDepth 100000
set_option maxHeartbeats 2000000
/-! ## comprehensions whose element may raise -/
namespace PySem
open PyProof.Rows
section
variable {M : Model} {A : Around} {E : Value → Shared → Prop} {env : Env} {s : Shared}
end
end PySem

/-! EgLcX2 -/
set_option Elab.async false
set_option linter.all false
set_option maxRecDepth 100000
set_option maxHeartbeats 2000000
/-! ## errors out of a comprehension's element, as the def's own -/
namespace L2N
open PySem PySem.Spec PyProof.Rows L2
section
variable {X : Cx} {pins : List (Addr × Obj)} {σ : L2.St} {H : Hp} {s s' : Shared}
/-- a comprehension's block whose calls' errors are the def's -/
abbrev blkX (X : Cx) (W : WX) (σ0 : L2.St) (Bk : Cx) : Cx := { Bk with xe := fun u s' => ∃ (pins : List (Addr × Obj)) (σ : L2.St) (H : Hp) (s : Shared), Inv Bk pins σ H s ∧ CX Bk.prog Bk.w Bk.stack H s (fun cls d H' => W cls d σ0 H') u s' }
end
end L2N

/-! MiLcX -/
set_option Elab.async false
set_option linter.all false
set_option maxRecDepth 100000
set_option maxHeartbeats 2000000
/-! ## [e for ..], e may raise -/
namespace Mi
open PySem L2 Eg
def lcGoX (tg : Tg) (t : B) (e : E) (δ : List SD) : List PyData → M (List PyData)
  | [] => .ret []
  | x :: xs => (M.of (setT tg x δ)).bind fun δ2 => (t δ2).nox.bind fun b => if b = true then (e δ2).bind fun y => (lcGoX tg t e δ xs).bind fun ys => .ret (y :: ys) else lcGoX tg t e δ xs
def fLcX (it : List SD → M (List PyData)) (tg : Tg) (t : B) (e : E) (vs : List Nat) : List SD → M (List PyData) := fun δ => (it δ).bind fun ds => if ds.length ≤ 1000000 then lcGoX tg t e (wipeD δ vs) ds else .bad
end Mi

/-! EgZipL -/
set_option Elab.async false
set_option linter.all false
set_option maxRecDepth 100000
set_option maxHeartbeats 2000000
/-! ## list(zip(xs, ys)) -/
namespace L2
open PySem PySem.Spec PyProof.Rows
/-- a zip that has handed out a tuple which still lives -/
def zipObj (t : Addr) (b : Bool) (TI TO : Addr) : Obj := { cls := .type "zip", data := .fields #[rawInt t, .bool b, .bool false, .ref TI, .ref TO] }
section
variable {prog : Program} {w : World} {A : Around} {E : Value → Shared → Prop} {s : Shared} {z TI TO i1 i2 l1 l2 t : Addr} {k1 k2 : Nat} {xs ys : Array Value} {x y : Value} {b : Bool} {oT : Obj}
end
end L2

/-! EgZipL2 -/
set_option Elab.async false
set_option linter.all false
set_option maxRecDepth 100000
set_option maxHeartbeats 2000000
/-! ## list(zip(xs, ys)): the walk -/
namespace L2
open PySem PySem.Spec PyProof.Rows
section
variable {prog : Program} {w : World} {A : Around} {E : Value → Shared → Prop} {s : Shared} {z TI TO i1 i2 l1 l2 t : Addr} {k1 k2 : Nat} {xs ys : Array Value} {x y : Value} {b : Bool} {oT : Obj}
/-- where the walk stands; ts are the tuples that were handed out -/
structure Zst (h0 : Heap) (z TI TO i1 i2 l1 l2 S : Addr) (xs ys : Array Value) (N : Nat) (i : Nat) (h : Heap) (ts : List Addr) : Prop where
  zip : (i = 0 ∧ IsZip h z TI TO .none ∧ ∃ a b, IsPair h TO a b) ∨ ∃ t b oT, h.get? z = some (zipObj t b TI TO) ∧ h.get? t = some oT ∧ N ≤ t
  ti : IsPair h TI (.ref i1) (.ref i2)
  h1 : h.IsListIter i1 l1 i
  h2 : h.IsListIter i2 l2 i
  hl1 : h.IsList l1 xs
  hl2 : h.IsList l2 ys
  lst : ∃ acc c, h.get? S = some { cls := .type "list", data := .seq acc c } ∧ acc.toList = ts.map Value.ref
  len : ts.length = i
  new : ∀ t, t ∈ ts → N ≤ t ∧ t < h.objs.size
  nd : ts.Nodup
  tup : ∀ (j : Nat) (t : Addr) (x y : Value), ts[j]? = some t → xs[j]? = some x → ys[j]? = some y → IsPair h t x y
  kept : ∀ c o, c ≠ z → c ≠ TO → c ≠ i1 → c ≠ i2 → c ≠ S → h0.get? c = some o → h.get? c = some o
  size : N ≤ h.objs.size
end
end L2

/-! EgZipL3 -/
set_option Elab.async false
set_option linter.all false
set_option maxRecDepth 100000
set_option maxHeartbeats 2000000
/-! ## list(zip(xs, ys)): the call -/
namespace L2
open PySem PySem.Spec PyProof.Rows
section
variable {prog : Program} {w : World} {A : Around} {E : Value → Shared → Prop} {s : Shared} {z TI TO i1 i2 l1 l2 S : Addr} {xs ys : Array Value}
end
end L2

/-! EgZipL4 -/
set_option Elab.async false
set_option linter.all false
set_option maxRecDepth 100000
set_option maxHeartbeats 2000000
/-! ## list(zip(xs, ys)): the rule -/
namespace L2
open PySem PySem.Spec PyProof.Rows
section
variable {X : Cx}
end
end L2

/-! MiListZ -/
set_option Elab.async false
set_option linter.all false
set_option maxRecDepth 100000
set_option maxHeartbeats 2000000
/-! ## list(zip(a, b)), both may be pointers -/
namespace Mi
open PySem L2 Eg
def fListZ (r : As) : List SD → M (List PyData) := fun δ => (r δ).bind fun as => match as with
  | [.d x, .d y] => seen x fun x' => seen y fun y' => M.of (match x', y' with
    | .list xs, .list ys => if xs.length = ys.length then some (zipD xs ys) else none
    | _, _ => none)
  | _ => .bad
section
variable {c : Cn} {W : WX} {ta : TA} {r : As} {KF : PySem.W.Frag}
end
end Mi

/-! EgTryP -/
set_option Elab.async false
set_option linter.all false
set_option maxRecDepth 100000
set_option maxHeartbeats 2000000
/-! ## the same, and a last clause for two classes without a name -/
namespace L2N
open PySem PySem.Spec PyProof.Rows L2
/-- a clause: one class, its name's slot if it has one, its suite; or two classes -/
inductive ClP
  | m (c : Value) (n : Option Nat) (ts : Suite)
  | t (c1 c2 : Value) (ts : Suite)
inductive HdsP (X : Cx) : List ExceptHandler → List ClP → Prop
  | nil : HdsP X [] []
  | consU {x : Str} {c : Value} {ts : Suite} {s0 : Stmt} {suite : List Stmt} {np pos' : Pos} {hds : List ExceptHandler} {l : List ClP} (hc : Names X x c)
      (hsu : ∀ (a : Addr) (oe : Obj) (cls : Value) (d : Option Addr) (pn : List (Addr × Obj)), Zn cls d oe → (∃ vs, oe.data = .fields vs) → PSs (X.suite a ((a, oe) :: pn)) (s0 :: suite) (ts a cls d)) (r : HdsP X hds l) :
      HdsP X (.ExceptHandler (some (.Name x np)) none (s0 :: suite) pos' :: hds) (.m c none ts :: l)
  | consN {x n : Str} {c : Value} {i : Nat} {ts : Suite} {s0 : Stmt} {suite : List Stmt} {np pos' : Pos} {hds : List ExceptHandler} {l : List ClP} (hc : Names X x c) (hi : X.N[i]? = some n) (hln : X.env.kindOf n = some .local)
      (hsu : ∀ (a : Addr) (oe : Obj) (cls : Value) (d : Option Addr) (pn : List (Addr × Obj)), Zn cls d oe → (∃ vs, oe.data = .fields vs) → PSs (X.suite a ((a, oe) :: pn)) (s0 :: suite) (ts a cls d)) (r : HdsP X hds l) :
      HdsP X (.ExceptHandler (some (.Name x np)) (some n) (s0 :: suite) pos' :: hds) (.m c (some i) ts :: l)
  | lastT {x1 x2 : Str} {c1 c2 : Value} {ts : Suite} {s0 : Stmt} {suite : List Stmt} {p1 p2 tpos pos' : Pos} {kk : Nat} (n1 : Names X x1 c1) (n2 : Names X x2 c2)
      (hsu : ∀ (a : Addr) (oe : Obj) (cls : Value) (d : Option Addr) (pn : List (Addr × Obj)), Zn cls d oe → (∃ vs, oe.data = .fields vs) → PSs (X.suite a ((a, oe) :: pn)) (s0 :: suite) (ts a cls d)) :
      HdsP X [.ExceptHandler (some (.Tuple [.Name x1 p1, .Name x2 p2] kk tpos)) none (s0 :: suite) pos'] [.t c1 c2 ts]
section
variable {X : Cx} {body : List Stmt} {h₀ : ExceptHandler} {hds : List ExceptHandler} {l : List ClP} {pos : Pos} {tb : WX → TS} {Wo : WX}
end
end L2N

/-! MiTryP -/
set_option Elab.async false
set_option linter.all false
set_option maxRecDepth 100000
set_option maxHeartbeats 2000000
/-! ## the same with a last clause for two classes: two clauses of one suite -/
namespace Mi
open PySem L2 Eg
section
variable {c : Cn} {W : WX}
inductive HsP (c : Cn) (W : WX) : List L2N.ClP → List (String × Option Nat × S) → Prop
  | nil : HsP c W [] []
  | consU {n : String} {ts : Suite} {s : S} {l : List L2N.ClP} {r : List (String × Option Nat × S)} : (∀ a v d, MS c W (ts a v d) s) → HsP c W l r → HsP c W (.m (.ref (c.cl n)) none ts :: l) ((n, none, s) :: r)
  | consN {n : String} {i : Nat} {ts : Suite} {s : S} {l : List L2N.ClP} {r : List (String × Option Nat × S)} : (∀ a d, MS (c.at i (a, c.cl n, d)) W (ts a (.ref (c.cl n)) d) s) → HsP c W l r → HsP c W (.m (.ref (c.cl n)) (some i) ts :: l) ((n, some i, s) :: r)
  | lastT {n1 n2 : String} {ts : Suite} {s : S} : (∀ a v d, MS c W (ts a v d) s) → HsP c W [.t (.ref (c.cl n1)) (.ref (c.cl n2)) ts] [(n1, none, s), (n2, none, s)]
end
end Mi

/-! MiGen -/
set_option Elab.async false
set_option linter.all false
set_option maxRecDepth 100000
set_option maxHeartbeats 1000000
/-! ## of use for every law: what is flat, what is seen, copies, what is shown -/
namespace Mi
open PySem L2 Eg
local macro_rules | `(tactic| fail "mi") => `(tactic| try simp (config := { decide := false, zeta := true }) only [Mi.sSeq, Mi.sIf, Mi.sRet, Mi.sRetF, Mi.sRetN, Mi.sRetV, Mi.sNext, Mi.sAsg, Mi.sAsgF, Mi.sAsgC, Mi.sAsgC0, Mi.sDrop, Mi.sRaise, Mi.sFrz, Mi.sApp, Mi.sAppE, Mi.sSet, Mi.sPar, Mi.setAllS, Mi.pNil, Mi.pD, Mi.pF, Mi.setT_n, Mi.setAt, Mi.xC, Mi.xV, Mi.x1, Mi.x2, Mi.xIf, Mi.xAnd, Mi.xOr, Mi.xNot, Mi.tV, Mi.tAn, Mi.tOrr, Mi.tNo, Mi.tTrue, Mi.aNil, Mi.aC, Mi.aScr, Mi.aKw, Eg.swap2, Mi.xTup, Mi.xCall, Mi.xCall0, Mi.ofF, Mi.fLst, Mi.fList, Mi.xNew, Mi.xIsi, Mi.xLen, Mi.xLenV, Mi.xIx, Mi.xIxV, Mi.xSl, Mi.xSlV, Mi.oNo, Mi.oAt, Mi.xTuple, Mi.xChain, Mi.xBy, Mi.xRepr, Mi.unF, Mi.fLc, Mi.wipeD, Mi.sTry, Mi.hGo, Mi.iRng1M, Mi.iRng2M, Mi.M.ret_bind, Mi.M.exc_bind, Mi.M.bad_bind, Mi.e_some, Mi.e_none, Mi.e_cret, Mi.e_cexc, Mi.e_cbad, Mi.e_nret, Mi.e_nexc, Mi.e_nbad, Mi.e_asB, Mi.e_true, Mi.e_false, Mi.W_ite, Mi.W_ret, Mi.W_exc, Mi.W_bad, Mi.W_bind, Mi.W_nox, Mi.W_catch, Mi.W_getLp, Mi.W_put, Mi.toRt_nx, Mi.toRt_rt, Mi.toRt_rf, Mi.toRt_xx, Mi.dat_nil, Mi.dat_cons, Mi.short, Mi.rdat_d, Mi.rdat_f, Mi.sd_d, Mi.sd_s, Mi.sn_int, Mi.sn_bool, Mi.sn_none, Mi.sn_str, Mi.sn_list, Mi.sn_tup, Mi.sn_d0, Mi.e_seenP, Mi.ptrOf_ptr, Mi.p_bool, Mi.p_int, Mi.p_none, Mi.p_str, Mi.p_list, Mi.p_tuple, Mi.sFor, Mi.iSeqM, Mi.ixN_0, Mi.ixN_1, Mi.ixN_2, Mi.ixN_3, Mi.ixN_4, Mi.ixN_5, Mi.atI_0, Mi.atI_1, Mi.atI_2, Mi.atI_3, Mi.atI_4, Mi.atI_5, Mi.isInt_int, Mi.isInt_bool, Mi.isInt_none, Mi.isInt_str, Mi.isInt_list, Mi.isInt_tup, Mi.isInt_dct, Mi.isBool_int, Mi.isBool_bool, Mi.isBool_none, Mi.isBool_str, Mi.isBool_list, Mi.isBool_tup, Mi.isBool_dct, Mi.isStr_int, Mi.isStr_bool, Mi.isStr_none, Mi.isStr_str, Mi.isStr_list, Mi.isStr_tup, Mi.isStr_dct, Mi.isLst_int, Mi.isLst_bool, Mi.isLst_none, Mi.isLst_str, Mi.isLst_list, Mi.isLst_tup, Mi.isLst_dct, Mi.isTup_int, Mi.isTup_bool, Mi.isTup_none, Mi.isTup_str, Mi.isTup_list, Mi.isTup_tup, Mi.isTup_dct, Mi.isDct_int, Mi.isDct_bool, Mi.isDct_none, Mi.isDct_str, Mi.isDct_list, Mi.isDct_tup, Mi.isDct_dct, Mi.isNone_int, Mi.isNone_bool, Mi.isNone_none, Mi.isNone_str, Mi.isNone_list, Mi.isNone_tup, Mi.isNone_dct, Mi.isPtr_int, Mi.isPtr_bool, Mi.isPtr_none, Mi.isPtr_str, Mi.isPtr_list, Mi.isPtr_tup, Mi.isPtr_d0, Mi.fAdd_i, Mi.fAdd_l, Mi.fAdd_t, Mi.fSub_i, Mi.fMul_i, Mi.fMul_l, Mi.fMod_i, Mi.fDiv_i, Mi.fPow_i, Mi.fCmp_i, Mi.fEq_i, Mi.fEq_s, Mi.fNe_i, Mi.fNe_s, Mi.fIsN_n, Mi.fNotN_n, Mi.fIx_l, Mi.fIx_t, Mi.fNeg_i, Mi.fLen_l, Mi.fLen_t, Mi.fAbs_i, Mi.fInt_i, Mi.fInt_b, Mi.fMax2_i, Mi.fMin2_i, Mi.fGcd_i, Mi.items_l, Mi.items_t, Mi.sliced_l, Mi.sliced_t, List.map_cons, List.map_nil, List.length_cons, List.length_nil, List.nil_append, List.cons_append, List.replicate, List.replicate_succ, List.replicate_zero, List.zip_cons_cons, List.zip_nil_right, Int.cast_ofNat_Int, Nat.reduceAdd, Nat.reduceSub, Nat.zero_add, Nat.reduceLeDiff, Nat.reduceEqDiff, List.getElem?_cons_zero, List.getElem?_cons_succ, List.getElem?_nil, List.set_cons_zero, List.set_cons_succ, List.set_nil, ite_true, ite_false, if_true, if_false, Option.map_some, Option.map_none, Option.some.injEq, Bool.not_true, Bool.not_false, decide_eq_true_eq, decide_true, decide_false, Int.reduceLT, Int.reduceLE, Int.reduceEq, Int.reduceNeg, Int.reduceAdd, Int.reduceSub, Int.reduceMul, Int.reducePow, Int.reduceToNat, Int.reduceEq, ne_eq, not_true_eq_false, not_false_eq_true, true_and, and_true, false_and, and_false, reduceCtorEq, eq_self])
theorem flat_ptr {x : PyData} (h : flat x = true) : isPtr x = false := by
  cases x with
  | dict es =>
    cases es with
    | nil => rfl
    | cons e es =>
      obtain ⟨k, v⟩ := e
      unfold flat flatK at h
      cases k with
      | none => cases h
      | _ => rfl
  | _ => rfl
theorem flat_cons {x : PyData} {xs : List PyData} (h : flatL (x :: xs) = true) : flat x = true ∧ flatL xs = true := by
  unfold flatL at h
  exact Bool.and_eq_true _ _ ▸ h
def isI : PyData → Bool
  | .int _ => true
  | _ => false
theorem w_repr {x : PyData} {k : PyData → Sg → Prop} {φ : Sg} {X : XC} (h : Sh x 50 30000) (hk : k (.str x.shown) φ) : Wp (deep x) φ (fun a φ1 => Wp (shows a) φ1 k X) X := by
  rw [deep_sh h, W_ret, shows_sh h, W_ret]
  exact hk
theorem sh_told {k m : Nat} (h : 20 ≤ m) : Sh (.str "told") k m := (sh_str (m := 20) (by decide +kernel) (by decide +kernel)).mono (Nat.le_refl _) h
theorem sh_two {x y : PyData} {k m : Nat} (hx : Sh x k m) (hy : Sh y k m) : Sh (.list [x, y]) (k + 1) (2 * (m + 1)) := sh_list (fun z hz => by
  simp only [List.mem_cons, List.not_mem_nil, or_false] at hz
  rcases hz with rfl | rfl <;> assumption) (by simp)
theorem sh_pair {x y : PyData} {k m : Nat} (hx : Sh x k m) (hy : Sh y k m) : Sh (.tuple [x, y]) (k + 1) (2 * (m + 1)) := sh_tuple (fun z hz => by
  simp only [List.mem_cons, List.not_mem_nil, or_false] at hz
  rcases hz with rfl | rfl <;> assumption) (by simp)
section
variable {φ : Sg} {K : Rt → Sg → Prop} {X : XC} {p : Addr} {j : Nat}
inductive Sees (φ : Sg) : PyData → PyData → Prop
  | d {x : PyData} : flat x = true → Sees φ x x
  | p {p : Addr} {xs : List PyData} : φ p = some (.lst xs) → Sees φ (ptrD p) (.list xs)
theorem _root_.Mi.Box.less {i : Nat} (h : Box φ p j) (hi : i ≤ j) : Box φ p i := by
  obtain ⟨g, f, c, n, hp, g0, c0, c1, n0, n1⟩ := h
  exact ⟨g, f, c, n, hp, g0, c0, c1, n0, by omega⟩
theorem menu {xs : List PyData} {r : Int} {P : PyData → Prop} (h0 : 0 ≤ r) (h1 : r < xs.length) (hP : ∀ x, x ∈ xs → P x) : ∃ x, atI xs r = some x ∧ P x := by
  obtain ⟨x, e, hx⟩ := atI_some h0 h1
  exact ⟨x, e, hP x hx⟩
def Ext (φ φ' : Sg) : Prop := ∀ q c, φ q = some c → φ' q = some c
theorem Ext.refl (φ : Sg) : Ext φ φ := fun _ _ h => h
theorem Ext.trans {φ φ1 φ2 : Sg} (a : Ext φ φ1) (b : Ext φ1 φ2) : Ext φ φ2 := fun q c h => b q c (a q c h)
theorem ext_put {p : Addr} {c : Cell} (h : φ p = none) : Ext φ (put φ p c) := fun q d e => by
  rw [put_ne (fun z => by rw [z, h] at e; cases e)]; exact e
theorem _root_.Mi.Box.ext {φ' : Sg} (h : Box φ p j) (e : Ext φ φ') : Box φ' p j := by
  obtain ⟨g, f, c, n, hp, r⟩ := h
  exact ⟨g, f, c, n, e _ _ hp, r⟩
theorem Sees.ext {φ' : Sg} {x y : PyData} (h : Sees φ x y) (e : Ext φ φ') : Sees φ' x y := by
  cases h with
  | d hf => exact .d hf
  | p hp => exact .p (e _ _ hp)
inductive Cp (φ : Sg) : PyData → PyData → Prop
  | d {y : PyData} : flat y = true → isLst y = false → Cp φ y y
  | p {p : Addr} {xs : List PyData} : φ p = some (.lst xs) → Cp φ (ptrD p) (.list xs)
theorem Cp.sees {x y : PyData} (h : Cp φ x y) : Sees φ x y := by
  cases h with
  | d a _ => exact .d a
  | p a => exact .p a
theorem Cp.ext {φ' : Sg} {x y : PyData} (h : Cp φ x y) (e : Ext φ φ') : Cp φ' x y := by
  cases h with
  | d a b => exact .d a b
  | p a => exact .p (e _ _ a)
theorem ptr_inj {p q : Addr} (h : ptrD p = ptrD q) : p = q := by
  have := ptrOf_ptr p
  rw [h, ptrOf_ptr q] at this
  exact (Option.some.inj this).symm
theorem sees_seen {α : Type} {x y : PyData} (h : Sees φ x y) {k : PyData → M α} {Q : α → Sg → Prop} {X : XC} : Wp (seen x k) φ Q X = Wp (k y) φ Q X := by
  cases h with
  | d hf => rw [e_seen (flat_ptr hf)]
  | p hp => rw [e_seenP, W_getL hp]
theorem deep_at {p : Addr} {xs : List PyData} (hp : φ p = some (.lst xs)) (hf : flatL xs = true) {Q : PyData → Sg → Prop} {X : XC} : Wp (deep (ptrD p)) φ Q X = Q (.list xs) φ := by
  rw [deep_ptr, W_getL hp, if_pos hf, W_ret]
end
end Mi

/-! EgOwnEq -/
set_option Elab.async false
set_option linter.all false
set_option maxRecDepth 100000
set_option maxHeartbeats 2000000
/-! ## == and != where an own class has __eq__; len by an own __len__; isinstance of own classes -/
namespace L2
open PySem PySem.Spec PyProof.Rows
section
variable {prog : Program} {w : World} {A : Around} {E : Value → Shared → Prop} {s : Shared} {K : PySem.W.Frag} {x C f : Addr} {ox : Obj} {od : Option Obj} {name : Str} {b : Value}
/-- a built-in slot of an instance -/
theorem ifBound_B {M : Model} {id : String} {args : List Value} {Q : Option Value → Shared → Prop} (X : K.In s.heap) (I : PySem.W.InstAt s.heap x ox C od) (hs : PySem.W.findIn K (.ref C) name = some (some (.builtin id))) (hb : ∀ self, bindSpecial (.builtin id) self = pure (.builtin id, [self]))
    (h : wpAny M A (call (.builtin id) (.ref x :: args)) (fun v => Q (some v)) E s) : wpAny M A (callSpecialIfBound? (.ref x) name args) Q E s := by
  simp only [callSpecialIfBound?, bindSpecialIfBound?]
  refine wpAny_holding (wpAny_bind (wpAny_bind (wpAny_bind (I.type.here ((PySem.W.looks_findIn X hs).here ?_)))))
  refine wpAny_bind (wpAny_askSetting (wpAny_ite ?_))
  have fin : wpAny M A (call (.builtin id) ([.ref x] ++ args) >>= fun v => pure (some v)) Q E s := wpAny_bind (wpAny_mono h (fun v s' h' => wpAny_pure h') fun _ _ h' => h')
  simp only [hb]
  split
  · exact wpAny_bind (wpAny_pure (wpAny_pure (by exact fin)))
  · exact wpAny_tryCatch (wpAny_bind (wpAny_pure (wpAny_pure (by exact fin))))
/-- the own == of a class -/
structure EqC (K : PySem.W.Frag) (C f : Addr) : Prop where
  eq : PySem.W.findIn K (.ref C) "__eq__" = some (some (.ref f))
  ne : PySem.W.findIn K (.ref C) "__ne__" = some (some (.builtin "object.__ne__"))
  fn : PySem.W.isFn K (.ref f) = true
  ob : PySem.W.mroIn K C (.type "object") = some true
theorem ne_body (X : K.In s.heap) (c : EqC K C f) (I : PySem.W.InstAt s.heap x ox C od) (hu : A.units < cLine) {Q : Fin → Shared → Prop}
    (h : wpAny (model prog w) A (call (.ref f) [.ref x, b]) (fun v s' => ∃ k, v = .bool k ∧ Q (.done (.ret (.bool (!k)))) s') E s) :
    wpAny (model prog w) A (Builtin.«object.__ne__» ⟨[.ref x, b], []⟩) Q E s := by
  unfold Builtin.«object.__ne__»
  refine wpAny_bind (m := slotArgs "__ne__" 1 _) (wpAny_pure ?_)
  dsimp only
  refine wpAny_bind (wpAny_cRoomFor hu ?_)
  refine wpAny_bind (m := callSpecialIfBound? (.ref x) (Str.ofString "__eq__") [b]) (PySem.W.ifBound_K X I c.eq c.fn (wpAny_mono h (fun v s' hv => ?_) fun _ _ e => e))
  obtain ⟨k, rfl, hq⟩ := hv
  dsimp only
  refine wpAny_bind (m := truthy (.bool k)) (wpAny_truthy_bool ?_)
  exact wpAny_pure hq
theorem ne_try (X : K.In s.heap) (c : EqC K C f) (I : PySem.W.InstAt s.heap x ox C od) (hu : A.units + 1 < cLine) {Q : Option Value → Shared → Prop}
    (h : wpAny (model prog w) A.in1 (call (.ref f) [.ref x, b]) (fun v s' => ∃ k, v = .bool k ∧ Q (some (.bool (!k))) s') E s) :
    wpAny (model prog w) A (tryCompare (.ref x) "__ne__" b) Q E s := by
  unfold tryCompare
  have inst : PySem.W.Looks (model prog w) s.heap (isInstance (.ref x) (.type "object")) true := I.type.andThen (PySem.W.looks_mroIn X c.ob)
  refine wpAny_bind (ifBound_B X I c.ne PySem.F.cmp_object.ne.bind (wpAny_call (codeAny_call_builtin PySem.F.cmp_object.ne.plain PySem.F.cmpEntry_ne
    (PySem.W.check_slot PySem.F.cmpKind_ne PySem.F.cmpSplit_ne inst (PySem.F.cmpArgs_ne _ _) (ne_body X c I hu (wpAny_mono h (fun v s' hv => ?_) fun _ _ e => e))))))
  obtain ⟨k, rfl, hq⟩ := hv
  exact ⟨k, rfl, wpAny_pure hq⟩
/-- x == b, x != b by the own == of x's class; b's type is no other kind of x's -/
theorem cmp_own {neg : Bool} {tb : Value} {Q : Value → Shared → Prop} (X : K.In s.heap) (c : EqC K C f) (hu : A.units + 1 < cLine) (I : PySem.W.InstAt s.heap x ox C od) (hb : PySem.W.Looks (model prog w) s.heap (typeOf b) tb) (hn : PySem.W.notFirst K C tb = true)
    (h : wpAny (model prog w) (if neg then A.in1 else A) (call (.ref f) [.ref x, b]) (fun v s' => ∃ k, v = .bool k ∧ Q (.bool (k != neg)) s') E s) : wpAny (model prog w) A (richCompare (if neg then .NotEq else .Eq) (.ref x) b) Q E s := by
  have one : wpAny (model prog w) A (tryCompare (.ref x) (cmpInfo (if neg then .NotEq else .Eq)).2.1 b) (fun r s' => ∃ v, r = some v ∧ Q v s') E s := by
    cases neg with
    | true => exact ne_try X c I hu (wpAny_mono h (fun v s' hv => by
        obtain ⟨k, rfl, hq⟩ := hv
        exact ⟨k, rfl, _, rfl, by cases k <;> exact hq⟩) fun _ _ e => e)
    | false =>
      show wpAny _ _ (tryCompare (.ref x) "__eq__" b) _ _ _
      unfold tryCompare
      refine wpAny_bind (PySem.W.ifBound_K X I c.eq c.fn (wpAny_mono h (fun v s' hv => ?_) fun _ _ e => e))
      obtain ⟨k, rfl, hq⟩ := hv
      exact wpAny_pure ⟨_, rfl, by cases k <;> exact hq⟩
  unfold richCompare
  have o1 : oneThing? (if neg then CmpOp.NotEq else .Eq) (.ref x) b = none := by simp only [oneThing_ref]
  simp only [o1]
  refine wpAny_holding (wpAny_bind (wpAny_cRoomFor (by omega) ?_))
  refine wpAny_bind (I.type.here (wpAny_bind (hb.here ?_)))
  split
  · rename_i q
    have e : PySem.W.subIn K tb (.ref C) = some false := by
      rcases Bool.or_eq_true_iff.mp hn with e | e
      · rw [beq_iff_eq.mp e] at q; simp at q
      · exact beq_iff_eq.mp e
    refine wpAny_bind ((PySem.W.looks_subIn X e).here ?_)
    simp only [Bool.false_eq_true, if_false]
    refine wpAny_bind (wpAny_mono one (fun r s' z => ?_) fun _ _ e => e)
    obtain ⟨v, rfl, hq⟩ := z
    exact wpAny_pure hq
  · refine wpAny_bind (wpAny_pure ?_)
    simp only [Bool.false_eq_true, if_false]
    refine wpAny_bind (wpAny_mono one (fun r s' z => ?_) fun _ _ e => e)
    obtain ⟨v, rfl, hq⟩ := z
    exact wpAny_pure hq
end
/-! ### facts of own classes -/
def mroL (K : PySem.W.Frag) (C : Addr) : Option (List Value) := (PySem.W.clsIn K C).map (·.mro)
theorem mroL_of {K : PySem.W.Frag} {C : Addr} {cd : ClassData} {l : List Value} (h : PySem.W.clsIn K C = some cd) (e : cd.mro = l) : mroL K C = some l := by unfold mroL; rw [h, Option.map_some, e]
structure OwnC (K : PySem.W.Frag) (C : Addr) : Prop where
  cl : Cls K C
  ha : PySem.W.findIn K (.ref C) "__class__" = some (some (.builtin "object.__class__"))
  hn : PySem.W.specialIn K (.builtin "object.__class__") "__get__" = some (some (.builtin "getset_descriptor.__get__"))
  htk : PySem.W.takesIn K (.builtin "object.__class__") = some true
  mr : mroL K C = some [.ref C, .type "object"]
  ty : PySem.W.typeIn K (.ref C) = some (.type "type")
section
variable {K : PySem.W.Frag} {C D : Addr}
theorem OwnC.mro (o : OwnC K C) (b : Value) : PySem.W.mroIn K C b = some ([.ref C, .type "object"].contains b) := by
  obtain ⟨cd, e1, e2⟩ := Option.map_eq_some_iff.mp o.mr
  unfold PySem.W.mroIn
  rw [e1, Option.bind_some, e2]
  rfl
theorem OwnC.obj (o : OwnC K C) : PySem.W.mroIn K C (.type "object") = some true := by rw [o.mro]; simp
theorem OwnC.kit_own (o : OwnC K C) (d : OwnC K D) : PySem.W.kitOne K (.ref C) (.ref D) = some (decide (C = D)) := by
  unfold PySem.W.kitOne
  by_cases h : C = D
  · subst h; simp
  · have hb : ((Value.ref C) == (Value.ref D)) = false := by simp [h]
    rw [if_neg (by rw [hb]; decide)]
    obtain ⟨cd, e1, e2⟩ := Option.map_eq_some_iff.mp d.mr
    unfold PySem.W.kitCls
    dsimp only
    rw [e1, d.ty, if_pos (by simp)]
    show PySem.W.mroIn K C (.ref D) = _
    rw [o.mro]
    congr 1
    simp [h, Ne.symm (a := C) (b := D) h]
def tyns : List String := ["NoneType", "bool", "int", "str", "list", "tuple", "dict"]
theorem OwnC.kit_ty (o : OwnC K C) {n : String} (hn : n ∈ tyns) : PySem.W.kitOne K (.ref C) (.type n) = some false := by
  have hm : PySem.W.kitMeta n = true := by
    simp only [tyns, List.mem_cons, List.not_mem_nil, or_false] at hn
    rcases hn with rfl | rfl | rfl | rfl | rfl | rfl | rfl <;> decide +kernel
  unfold PySem.W.kitOne
  rw [if_neg (by simp)]
  unfold PySem.W.kitCls
  dsimp only
  rw [if_pos hm]
  show PySem.W.mroIn K C (.type n) = _
  rw [o.mro]
  simp only [tyns, List.mem_cons, List.not_mem_nil, or_false] at hn
  rcases hn with rfl | rfl | rfl | rfl | rfl | rfl | rfl <;> rfl
theorem ty_sub {n : String} (hn : n ∈ tyns) : PySem.W.subIn K (.type n) (.ref C) = some false := by
  simp only [tyns, List.mem_cons, List.not_mem_nil, or_false] at hn
  rcases hn with rfl | rfl | rfl | rfl | rfl | rfl | rfl <;> rfl
theorem OwnC.ty_kit (o : OwnC K C) {n : String} (hn : n ∈ tyns) : PySem.W.kitOne K (.type n) (.ref C) = some false := by
  unfold PySem.W.kitOne
  rw [if_neg (by simp)]
  obtain ⟨cd, e1, e2⟩ := Option.map_eq_some_iff.mp o.mr
  unfold PySem.W.kitCls
  dsimp only
  rw [e1, o.ty, if_pos (by simp)]
  exact ty_sub hn
theorem OwnC.first (o : OwnC K C) (d : OwnC K D) : PySem.W.notFirst K C (.ref D) = true := by
  unfold PySem.W.notFirst
  by_cases h : D = C
  · subst h; simp
  · rw [show PySem.W.subIn K (.ref D) (.ref C) = some (([.ref D, .type "object"] : List Value).contains (.ref C)) from d.mro _]
    simp [h]
    exact fun z => h z.symm
theorem ty_first {n : String} (hn : n ∈ tyns) : PySem.W.notFirst K C (.type n) = true := by
  unfold PySem.W.notFirst
  rw [ty_sub hn]
  simp
end
/-- the kinds of values -/
inductive TyE (Os : List Addr) (H : Hp) : V → Value → Prop
  | non : TyE Os H .non (.type "NoneType")
  | bl (b : Bool) : TyE Os H (.bl b) (.type "bool")
  | int (i : Int) : TyE Os H (.int i) (.type "int")
  | str (x : Str) : TyE Os H (.str x) (.type "str")
  | lst {a : Addr} {xs : List V} (e : H a = some (.lst xs)) : TyE Os H (.ref a) (.type "list")
  | tup {a : Addr} {xs : List V} (e : H a = some (.tup xs)) : TyE Os H (.ref a) (.type "tuple")
  | dK {a : Addr} {kvs : List (Key × V)} (e : H a = some (.dK kvs)) : TyE Os H (.ref a) (.type "dict")
  | ins {a D dx : Addr} {fs : List (Str × V)} (e : H a = some (.ins D dx fs)) (hD : D ∈ Os) : TyE Os H (.ref a) (.ref D)
  | fdK {a : Addr} {o : Obj} {kvs : List (Key × V)} (e : H a = some (.frz o (.dK kvs))) : TyE Os H (.ref a) (.type "dict")
  | ext {a : Addr} {ks vs : List V} (e : H a = some (.ext (EntsOf a ks vs))) : TyE Os H (.ref a) (.type "dict")
section
variable {X : Cx} {pins : List (Addr × Obj)} {σ : St} {H : Hp} {s : Shared} {Os : List Addr} {y : V} {u tb : Value}
theorem TyE.looks (I : Inv X pins σ H s) (r : RelV y u) (t : TyE Os H y tb) : PySem.W.Looks (model X.prog X.w) s.heap (typeOf u) tb := by
  cases t with
  | non => cases (show u = Value.none from r); exact PySem.W.Looks.of_pure rfl
  | bl b => cases (show u = Value.bool b from r); exact PySem.W.Looks.of_pure rfl
  | int i => obtain ⟨t, q⟩ := (show ∃ t, u = Value.int i t from r); cases q; exact PySem.W.Looks.of_pure rfl
  | str x => obtain ⟨t, q⟩ := (show ∃ t, u = Value.str x t from r); cases q; exact PySem.W.Looks.of_pure rfl
  | @lst a xs e =>
    cases (show u = Value.ref a from r)
    obtain ⟨_, _, n, _, h1⟩ := (show ObjOk X.prog X.w H s.heap a (.lst xs) from I.hok a _ e)
    exact (PySem.W.Looks.ld h1).andThen .now
  | @tup a xs e =>
    cases (show u = Value.ref a from r)
    obtain ⟨_, _, _, o, h1, h2, _⟩ := (show ObjOk X.prog X.w H s.heap a (.tup xs) from I.hok a _ e)
    exact h2 ▸ (PySem.W.Looks.ld h1).andThen .now
  | @dK a kvs e =>
    cases (show u = Value.ref a from r)
    obtain ⟨_, _, vs, _, o, es, ep, h1, h2, _⟩ := (show ObjOk X.prog X.w H s.heap a (.dK kvs) from I.hok a _ e)
    exact h2.1 ▸ (PySem.W.Looks.ld h1).andThen .now
  | @ins a D dx fs e hD =>
    cases (show u = Value.ref a from r)
    obtain ⟨mA, J, _⟩ := ins_get I.hok e
    obtain ⟨od, J, _⟩ := J.look
    exact J.type
  | @fdK a ob kvs e =>
    cases (show u = Value.ref a from r)
    obtain ⟨_, _, _, vs, _, o, es, ep, h1, h2, _⟩ := (show ObjOk X.prog X.w H s.heap a (.frz ob (.dK kvs)) from I.hok a _ e)
    exact h2.1 ▸ (PySem.W.Looks.ld h1).andThen .now
  | @ext a ks vs e =>
    cases (show u = Value.ref a from r)
    obtain ⟨⟨_, o, es, ep, us, ws, h1, h2, _⟩, _⟩ := (show ObjOk X.prog X.w H s.heap a (.ext (EntsOf a ks vs)) from I.hok a _ e)
    exact h2.1 ▸ (PySem.W.Looks.ld h1).andThen .now
theorem TyE.first {K : PySem.W.Frag} {C : Addr} (hO : ∀ C, C ∈ Os → OwnC K C) (hC : C ∈ Os) (t : TyE Os H y tb) : PySem.W.notFirst K C tb = true := by
  cases t with
  | ins e hD => exact (hO _ hC).first (hO _ hD)
  | _ => exact ty_first (by decide)
theorem TyE.kit (hO : ∀ C, C ∈ Os → OwnC X.K C) (I : Inv X pins σ H s) (r : RelV y u) (t : TyE Os H y tb) : ∃ P : Heap → Prop, PySem.W.KitX X.K u tb P ∧ P s.heap ∧ u ≠ .builtin "__main__.__loader__#opaque" := by
  cases t with
  | non => exact kit_of I r (.base .non)
  | bl b => exact kit_of I r (.base (.bl b))
  | int i => exact kit_of I r (.base (.int i))
  | str x => exact kit_of I r (.base (.str x))
  | lst e => exact kit_of I r (.base (.lst e))
  | tup e => exact kit_of I r (.base (.tup e))
  | dK e => exact kit_of I r (.base (.dK e))
  | ins e hD => exact kit_of I r (.base (.ins e (hO _ hD).cl (hO _ hD).ha (hO _ hD).hn (hO _ hD).htk (hO _ hD).obj))
  | fdK e => exact kit_of I r (.fDict e)
  | @ext a ks vs e =>
    cases (show u = Value.ref a from r)
    obtain ⟨⟨_, o, es, ep, us, ws, h1, h2, _⟩, _⟩ := (show ObjOk X.prog X.w H s.heap a (.ext (EntsOf a ks vs)) from I.hok a _ e)
    exact ⟨_, PySem.W.kitx_dict, ⟨o, h1, h2.1⟩, fun z => nomatch z⟩
/-- isinstance(x, c), one class -/
def rIsiE (K : PySem.W.Frag) (Os : List Addr) : List V → Hp → VK → Prop := fun xs H Q => ∃ (x c : V) (t u : Value) (b : Bool), xs = [x, c] ∧ ClsV c u ∧ TyE Os H x t ∧ PySem.W.kitOne K t u = some b ∧ Q (.bl b) H
/-- isinstance(x, (c1, c2, ..)) -/
def rIsiTE (K : PySem.W.Frag) (Os : List Addr) : List V → Hp → VK → Prop := fun xs H Q => ∃ (x : V) (tp : Addr) (cs : List V) (t : Value) (us : List Value) (b : Bool), xs = [x, .ref tp] ∧ H tp = some (.tup cs) ∧ Paired ClsV cs us ∧ TyE Os H x t ∧ PySem.W.kitAny K t us = some b ∧ Q (.bl b) H
theorem call_isiE (hO : ∀ C, C ∈ Os → OwnC X.K C) : CallR X (.builtin "isinstance") (rIsiE X.K Os) := by
  intro pins s σ H xs us Q I r h
  obtain ⟨x, c, t, u, b, rfl, k, ty, e, q⟩ := h
  obtain ⟨u1, u2, rfl, r1, r2⟩ := vals2 r
  have e2 := k.eq r2
  subst e2
  obtain ⟨P, Z, p, hx⟩ := ty.kit hO I r1
  exact PySem.W.kia_one Z I.kIn p e hx fun tk => ⟨.bl b, H, I.tok tk, rfl, q⟩
theorem call_isiTE (hO : ∀ C, C ∈ Os → OwnC X.K C) : CallR X (.builtin "isinstance") (rIsiTE X.K Os) := by
  intro pins s σ H xs us Q I r h
  obtain ⟨x, tp, cs, t, ws, b, rfl, hT, k, ty, e, q⟩ := h
  obtain ⟨u1, u2, rfl, r1, r2⟩ := vals2 r
  cases (show u2 = Value.ref tp from r2)
  obtain ⟨P, Z, p, hx⟩ := ty.kit hO I r1
  obtain ⟨_, its, rv, o, h1, h2, n, h3⟩ := (show ObjOk X.prog X.w H s.heap tp (.tup cs) from I.hok tp _ hT)
  have e3 := ClsV.all k rv
  subst e3
  obtain ⟨oc, od, dt, sl⟩ := o
  simp only at h2 h3
  subst h2 h3
  exact PySem.W.kia_tup Z I.kIn p h1 e hx fun tk => ⟨.bl b, H, I.tok tk, rfl, q⟩
end
/-! ### == and != -/
def RunsEq (X : Cx) (neg : Bool) (f : Addr) (sp : Sp) : Prop := ∀ (pins : List (Addr × Obj)) (σ : St) (H : Hp) (s : Shared) (Q : VK) (x y : V) (u v : Value), Inv X pins σ H s → RelV x u → RelV y v → sp [x, y] H Q E0 →
  wpAny (model X.prog X.w) (if neg then X.A.in1 else X.A) (call (.ref f) [u, v]) (EP X pins σ Q) X.xe s
def EqsOk (X : Cx) (neg : Bool) (tbl : List (Addr × Sp)) : Prop := ∀ C sp, (C, sp) ∈ tbl → ∃ f, EqC X.K C f ∧ RunsEq X neg f sp
theorem eqs_nil {X : Cx} {neg : Bool} : EqsOk X neg [] := fun _ _ h => nomatch h
theorem eqs_cons {X : Cx} {neg : Bool} {C f : Addr} {sp : Sp} {tbl : List (Addr × Sp)} (c : EqC X.K C f) (r : RunsEq X neg f sp) (h : EqsOk X neg tbl) : EqsOk X neg ((C, sp) :: tbl) := fun C' sp' hm => by
  rcases List.mem_cons.mp hm with e | e
  · cases e; exact ⟨f, c, r⟩
  · exact h C' sp' e
theorem runsEq_G {X : Cx} {CX : CXT} {neg : Bool} {k : Nat} {f : Addr} {fd : FuncData} {ps : List Str} {sp : Sp} (F : FnG X.prog X.w X.K X.mg X.base CX k f fd ps sp) (hr : Room (k + 1) X.A) (hgd : Gd X.A) (hb : Binds X.K fd ps []) (hx : ∀ σ, PassesAt CX X σ E0) : RunsEq X neg f sp := by
  intro pins σ H s Q x y u v I rx ry h
  have hA : ∀ A : Around, Room k A → Gd A → A.frames = X.A.frames → wpAny (model X.prog X.w) A (call (.ref f) [u, v]) (EP X pins σ Q) X.xe s := fun A hr hgd fr => by
    have e0 : Env0 X.prog X.w X.K X.mg X.base A X.stack s H := by
      have e := I.env0
      exact ⟨by rw [fr]; exact e.frames, e.mod, e.bs, e.bsz, e.funs, e.frf, e.hok, e.bare⟩
    have hl := F.len _ _ _ _ h
    have r2 : Vals [x, y] [u, v] := .cons rx (.cons ry .nil)
    refine wpAny_call (codeAny_mono (F.run A X.stack s H ⟨[u, v], []⟩ [u, v] [x, y] Q E0 hr hgd e0 (by
      have := hb s [u, v] I.kIn (by simpa using hl)
      simpa using this) r2 h) fun r s' hq => ?_)
    cases r with
    | error e => exact hx σ pins H s e s' I hq
    | ok fl =>
      cases fl with
      | ret u => exact I.after hq
      | next => exact False.elim hq
      | brk => exact False.elim hq
      | cont => exact False.elim hq
  cases neg with
  | true => exact hA X.A.in1 hr.in1 hgd rfl
  | false => exact hA X.A (hr.mono (Nat.le_succ k)) hgd rfl
def rEqC (K : PySem.W.Frag) (Os : List Addr) (tbl : List (Addr × Sp)) (neg : Bool) : R2 := fun x y H Q =>
  ∃ (a C dx : Addr) (fs : List (Str × V)) (sp : Sp) (tb : Value), x = .ref a ∧ H a = some (.ins C dx fs) ∧ C ∈ Os ∧ (C, sp) ∈ tbl ∧ TyE Os H y tb ∧ sp [x, y] H (fun v H' => ∃ k, v = .bl k ∧ Q (.bl (k != neg)) H') E0
theorem op_eqC {X : Cx} {Os : List Addr} {tbl : List (Addr × Sp)} {neg : Bool} (hu : X.A.units + 64 < cLine) (hO : ∀ C, C ∈ Os → OwnC X.K C) (ht : EqsOk X neg tbl) : OpR X (compareOp (if neg then .NotEq else .Eq)) (rEqC X.K Os tbl neg) := by
  intro pins s σ H x y u v Q I rx ry h
  obtain ⟨a, C, dx, fs, sp, tb, rfl, ha, hC, hm, ty, h⟩ := h
  obtain ⟨f, c, r⟩ := ht C sp hm
  cases (show u = Value.ref a from rx)
  obtain ⟨mA, J, _⟩ := ins_get I.hok ha
  obtain ⟨od, J, _⟩ := J.look
  have hcmp : compareOp (if neg then .NotEq else .Eq) (.ref a) v = richCompare (if neg then .NotEq else .Eq) (.ref a) v := by cases neg <;> rfl
  rw [hcmp]
  refine cmp_own I.kIn c (by omega) J (ty.looks I ry) (ty.first hO hC) (wpAny_mono (r pins σ H s _ _ _ _ _ I rx ry h) (fun w s' hq => ?_) fun _ _ e => e)
  obtain ⟨v', H', I', rv, k, ev, q⟩ := hq
  subst ev
  cases (show w = Value.bool k from rv)
  exact ⟨k, rfl, .bl (k != neg), H', I', rfl, q⟩
/-! ### len -/
structure LenC (K : PySem.W.Frag) (C f : Addr) : Prop where
  ln : PySem.W.findIn K (.ref C) "__len__" = some (some (.ref f))
  fn : PySem.W.isFn K (.ref f) = true
theorem special_K {M : Model} {A : Around} {E : Value → Shared → Prop} {s : Shared} {K : PySem.W.Frag} {x C f : Addr} {ox : Obj} {od : Option Obj} {name : Str} {args : List Value} {Q : Option Value → Shared → Prop} (X : K.In s.heap) (I : PySem.W.InstAt s.heap x ox C od) (hs : PySem.W.findIn K (.ref C) name = some (some (.ref f))) (hf : PySem.W.isFn K (.ref f) = true)
    (h : wpAny M A (call (.ref f) (.ref x :: args)) (fun v => Q (some v)) E s) : wpAny M A (callSpecial? (.ref x) name args) Q E s := by
  simp only [callSpecial?]
  refine wpAny_bind ((I.type.andThen (PySem.W.looks_findIn X hs)).here ?_)
  exact wpAny_holding (wpAny_bind ((PySem.W.bind_fn X _ (beq_iff_eq.mp hf)).here (wpAny_bind (wpAny_mono h (fun v s' h' => wpAny_pure h') fun _ _ h' => h'))))
def RunsLen (X : Cx) (f : Addr) (sp : Sp) : Prop := ∀ (pins : List (Addr × Obj)) (σ : St) (H : Hp) (s : Shared) (Q : VK) (x : V) (u : Value), Inv X pins σ H s → RelV x u → sp [x] H Q E0 →
  wpAny (model X.prog X.w) X.A.in1 (call (.ref f) [u]) (EP X pins σ Q) X.xe s
theorem runsLen_G {X : Cx} {CX : CXT} {k : Nat} {f : Addr} {fd : FuncData} {ps : List Str} {sp : Sp} (F : FnG X.prog X.w X.K X.mg X.base CX k f fd ps sp) (hr : Room (k + 1) X.A) (hgd : Gd X.A) (hb : Binds X.K fd ps []) (hx : ∀ σ, PassesAt CX X σ E0) : RunsLen X f sp := by
  intro pins σ H s Q x u I rx h
  have e0 : Env0 X.prog X.w X.K X.mg X.base X.A.in1 X.stack s H := by
    have e := I.env0
    exact ⟨e.frames, e.mod, e.bs, e.bsz, e.funs, e.frf, e.hok, e.bare⟩
  have hl := F.len _ _ _ _ h
  have r2 : Vals [x] [u] := .cons rx .nil
  refine wpAny_call (codeAny_mono (F.run X.A.in1 X.stack s H ⟨[u], []⟩ [u] [x] Q E0 hr.in1 hgd e0 (by
    have := hb s [u] I.kIn (by simpa using hl)
    simpa using this) r2 h) fun r s' hq => ?_)
  cases r with
  | error e => exact hx σ pins H s e s' I hq
  | ok fl =>
    cases fl with
    | ret u => exact I.after hq
    | next => exact False.elim hq
    | brk => exact False.elim hq
    | cont => exact False.elim hq
def LensOk (X : Cx) (tbl : List (Addr × Sp)) : Prop := ∀ C sp, (C, sp) ∈ tbl → ∃ f, LenC X.K C f ∧ RunsLen X f sp
theorem lens_nil {X : Cx} : LensOk X [] := fun _ _ h => nomatch h
theorem lens_cons {X : Cx} {C f : Addr} {sp : Sp} {tbl : List (Addr × Sp)} (c : LenC X.K C f) (r : RunsLen X f sp) (h : LensOk X tbl) : LensOk X ((C, sp) :: tbl) := fun C' sp' hm => by
  rcases List.mem_cons.mp hm with e | e
  · cases e; exact ⟨f, c, r⟩
  · exact h C' sp' e
def rLenO (tbl : List (Addr × Sp)) : List V → Hp → VK → Prop := fun xs H Q => ∃ (a C dx : Addr) (fs : List (Str × V)) (sp : Sp), xs = [.ref a] ∧ H a = some (.ins C dx fs) ∧ (C, sp) ∈ tbl ∧ sp [.ref a] H (fun v H' => ∃ n : Int, v = .int n ∧ 0 ≤ n ∧ n < 2 ^ 62 ∧ Q (.int n) H') E0
theorem call_lenO {X : Cx} {tbl : List (Addr × Sp)} (ht : LensOk X tbl) : CallR X (.builtin "len") (rLenO tbl) := by
  intro pins s σ H xs us Q I r h
  obtain ⟨a, C, dx, fs, sp, rfl, ha, hm, h⟩ := h
  obtain ⟨u, rfl, ru⟩ := vals1 r
  cases (show u = Value.ref a from ru)
  obtain ⟨f, c, rn⟩ := ht C sp hm
  obtain ⟨mA, J, _⟩ := ins_get I.hok ha
  obtain ⟨od, J, _⟩ := J.look
  refine Calls.call_function_entry kind_len plain_len entry_len (args_len1 _) ?_
  unfold Builtin.«len»
  refine wpAny_bind (m := oneArg "len" _) (wpAny_pure ?_)
  refine wpAny_bind (m := callSpecial? (.ref a) (PySem.Str.ofString "__len__")) (special_K I.kIn J c.ln c.fn (wpAny_mono (rn pins σ H s _ (V.ref a) (Value.ref a) I rfl h) (fun w s' hq => ?_) fun _ _ e => e))
  obtain ⟨v', H', I', rv, n, ev, n0, n1, q⟩ := hq
  subst ev
  obtain ⟨tk, rfl⟩ := (show ∃ t, w = Value.int n t from rv)
  dsimp only
  refine wpAny_bind (wpAny_holding (wpAny_of_eq (a := n) rfl ?_))
  refine wpAny_bind (wpAny_letGo ?_)
  rw [if_neg (by omega), if_neg (by omega)]
  exact wpAny_bind (wpAny_mkInt (wpAny_pure ⟨_, rfl, .int n, H', I'.tok _, ⟨_, rfl⟩, q⟩))
theorem runsEq_H {X : Cx} {CX : CXT} {neg : Bool} {k : Nat} {f : Addr} {fd : FuncData} {ps : List Str} {sp : Sp} (F : L2H.FnH X.prog X.w X.K X.mg X.base CX k f fd ps sp) (hr : L2H.RoomH (k + 1) X.A) (hc : L2H.HotC X) (hb : Binds X.K fd ps []) (hx : ∀ σ, PassesAt CX X σ E0) : RunsEq X neg f sp := by
  intro pins σ H s Q x y u v I rx ry h
  obtain ⟨p, hot, hp⟩ := hc
  have P1 := I.pin p (List.mem_append_left _ hp)
  have hpin : L2H.PinOk X.stack H s p := ⟨P1.1, P1.2.1, fun hm => (List.mem_cons.mp (I.stkSub p.1 hm)).elim P1.2.2.1 P1.2.2.2.1, P1.2.2.2.2⟩
  have hA : ∀ A : Around, L2H.RoomH k A → L2H.Hot1 A p → A.frames = X.A.frames → wpAny (model X.prog X.w) A (call (.ref f) [u, v]) (EP X pins σ Q) X.xe s := fun A hr hot fr => by
    have e0 : Env0 X.prog X.w X.K X.mg X.base A X.stack s H := by
      have e := I.env0
      exact ⟨by rw [fr]; exact e.frames, e.mod, e.bs, e.bsz, e.funs, e.frf, e.hok, e.bare⟩
    have hl := F.len _ _ _ _ h
    have r2 : Vals [x, y] [u, v] := .cons rx (.cons ry .nil)
    refine wpAny_call (codeAny_mono (F.run A X.stack s H ⟨[u, v], []⟩ [u, v] [x, y] Q E0 p hr hot hpin e0 (by
      have := hb s [u, v] I.kIn (by simpa using hl)
      simpa using this) r2 h) fun r s' hq => ?_)
    cases r with
    | error e => exact hx σ pins H s e s' I hq
    | ok fl =>
      cases fl with
      | ret u => exact I.after hq
      | next => exact False.elim hq
      | brk => exact False.elim hq
      | cont => exact False.elim hq
  cases neg with
  | true => exact hA X.A.in1 ⟨by have := hr.dp; show X.A.depth + 3 * k + 5 < _; omega, by have := hr.un; show X.A.units + 1 + 16 * k + 200 < _; omega⟩ hot rfl
  | false => exact hA X.A (hr.mono (Nat.le_succ k)) hot rfl
end L2
theorem L2H.RoomH.units {k : Nat} {A : PySem.Around} (r : L2H.RoomH k A) : A.units + 64 < PySem.cLine := by have := r.un; omega
theorem L2.Room.un66 {k : Nat} {A : PySem.Around} (r : L2.Room k A) : A.units + 66 < PySem.cLine := by have := r.un; omega
theorem L2H.RoomH.un66 {k : Nat} {A : PySem.Around} (r : L2H.RoomH k A) : A.units + 66 < PySem.cLine := by have := r.un; omega

/-! EgDict -/
set_option Elab.async false
set_option linter.all false
set_option maxRecDepth 100000
set_option maxHeartbeats 2000000
/-! ## dicts: == and !=, len while walked -/
namespace L2
open PySem PySem.Spec PyProof.Rows
section
variable {prog : Program} {w : World} {K : Type} [DecidableEq K] {knd : KeyKind prog w K} {A : Around} {s : Shared}
theorem rcP_dicts_ne {a b : Addr} {ka kb : List (K × Value)} {r : Bool} (ha : (a == sysModules) = false) (hb : (b == sysModules) = false)
    (da : s.heap.DictOf knd a ka) (db : s.heap.DictOf knd b kb) (hu : A.units < cLine) (hits : ka.length = kb.length → PySem.W.KeqHitsP prog w A.in1 s kb ka r) (E Q : Value → Shared → Prop) (h : Q (.bool (!(ka.length == kb.length && r))) s) : wpAny (model prog w) A (richCompare .NotEq (.ref a) (.ref b)) Q E s := by
  refine wpAny_richCompare_same_room (op := .NotEq) da.typeIs db.typeIs PySem.F.slot_dict_ne (wpAny_call_entry PySem.F.slot_dict_ne da.typeIs PySem.F.entry_dict_ne ?_ (PySem.F.args_dict_ne_2 _ _)) hu
  show wpAny _ _ (Builtin.Dict.dictSlotArgs "__ne__" ⟨[.ref a, .ref b], []⟩ >>= _) _ _ s
  refine wpAny_bind ?_
  unfold Builtin.Dict.dictSlotArgs
  refine wpAny_bind (wpAny_notOrdered_dict da.typeIs ?_)
  show wpAny _ _ (pure (Value.ref a, Value.ref b)) _ _ s
  refine wpAny_pure ?_
  refine wpAny_bind (wpAny_isInstance (T := "dict") db.typeIs PySem.F.sub_dict_dict ?_)
  simp only [Bool.not_true, Bool.false_eq_true, if_false]
  refine wpAny_bind (wpAny_pure (wpAny_bind (wpAny_pure ?_)))
  refine wpAny_bind (PySem.W.samePairsP ha hb da db hits ?_)
  refine wpAny_pure ⟨_, rfl, ?_, ?_⟩
  · exact fun x => nomatch x
  · simpa using h
end
/-! ### as rules of the layer -/
inductive DpD (K : PySem.W.Frag) (H : Hp) : List (Key × V) → List (Key × PyData) → Prop
  | nil : DpD K H [] []
  | cons {k : Key} {v : V} {d : PyData} {vs : List (Key × V)} {ds : List (Key × PyData)} : Dp K H v d → SeqAt.shaped d = true → DpD K H vs ds → DpD K H ((k, v) :: vs) ((k, d) :: ds)
def valKD (es : List (Key × PyData)) (k : Key) : Option PyData := (es.find? fun kv => decide (kv.1 = k)).map (·.2)
/-- all entries of the one are among those of the other -/
def hitsD (fs : List (Key × PyData)) : List (Key × PyData) → Bool
  | [] => true
  | (k, d) :: es => match valKD fs k with
    | some e => PyData.eqv d e && hitsD fs es
    | none => false
theorem DpD.len {K : PySem.W.Frag} {H : Hp} {vs : List (Key × V)} {ds : List (Key × PyData)} (h : DpD K H vs ds) : vs.length = ds.length := by
  induction h with
  | nil => rfl
  | cons _ _ _ ih => rw [List.length_cons, List.length_cons, ih]
theorem DpD.val {K : PySem.W.Frag} {H : Hp} {k : Key} : ∀ {vs : List (Key × V)} {ds : List (Key × PyData)}, DpD K H vs ds → (∃ v d, valV vs k = some v ∧ valKD ds k = some d ∧ Dp K H v d ∧ SeqAt.shaped d = true) ∨ (valV vs k = none ∧ valKD ds k = none)
  | _, _, .nil => .inr ⟨rfl, rfl⟩
  | _, _, .cons (k := k') (v := v) (d := d) (vs := vs) (ds := ds) r s h => by
    by_cases hk : k' = k
    · exact .inl ⟨v, d, valV_pos hk, by simp [valKD, List.find?_cons, hk], r, s⟩
    · have e : valKD ((k', d) :: ds) k = valKD ds k := by simp [valKD, List.find?_cons, hk]
      rw [valV_neg (p := (k', v)) hk, e]
      exact h.val
def rEqDct (K : PySem.W.Frag) (neg : Bool) : R2 := fun x y H Q => ∃ (a b : Addr) (ks ls : List (Key × V)) (es fs : List (Key × PyData)), x = .ref a ∧ y = .ref b ∧ Rd H a (.dK ks) ∧ Rd H b (.dK ls) ∧ DpD K H ks es ∧ DpD K H ls fs ∧ Q (.bl ((es.length == fs.length && hitsD fs es) != neg)) H
section
variable {X : Cx} {pins : List (Addr × Obj)} {σ : St} {H : Hp} {s : Shared}
theorem hitsD_run (I : Inv X pins σ H s) {A : Around} (hu : A.in1.units + 64 < cLine) {ls : List (Key × V)} {vb : List (Key × Value)} (rb : KV ls vb) {fs : List (Key × PyData)} (hf : DpD X.K H ls fs) {ks : List (Key × V)} {es : List (Key × PyData)} (he : DpD X.K H ks es) :
    ∀ {va : List (Key × Value)}, KV ks va → PySem.W.KeqHitsP X.prog X.w A.in1 s vb va (hitsD fs es) := by
  induction he with
  | nil =>
    intro va ra
    cases ra
    exact .nil
  | @cons k v d vs ds r sh _ ih =>
    intro va ra
    cases ra with
    | @cons _ q _ qs h t =>
      obtain ⟨key, u⟩ := q
      obtain ⟨h1, h2⟩ := h
      have h1' : k = key := h1
      subst h1'
      have rr : RelO (valV ls k) (valueAt vb k) := rb.val k
      rcases hf.val (k := k) with ⟨v2, d2, e1, e2, r2, s2⟩ | ⟨e1, e2⟩
      · rw [e1] at rr
        obtain ⟨y, hy, ry⟩ := rr.some_of
        unfold hitsD
        rw [e2]
        obtain ⟨as, ra1⟩ := Dp.reads I d v u r h2
        obtain ⟨bs, rb1⟩ := Dp.reads I d2 v2 y r2 ry
        exact .hit hy (PySem.W.keq_at (A := A) ra1 rb1 sh s2 hu).eqP (ih t)
      · rw [e1] at rr
        unfold hitsD
        rw [e2]
        refine .miss ?_
        cases hv : valueAt vb k with
        | none => rfl
        | some y => rw [hv] at rr; exact rr.elim
theorem op_eqDct {neg : Bool} (hu : X.A.units + 66 < cLine) : OpR X (compareOp (if neg then .NotEq else .Eq)) (rEqDct X.K neg) := by
  intro pins s σ H x y v u Q I rx ry h
  obtain ⟨a, b, ks, ls, es, fs, rfl, rfl, ha, hb, he, hf, q⟩ := h
  cases (show v = Value.ref a from rx)
  cases (show u = Value.ref b from ry)
  obtain ⟨_, ya, va, ra, da⟩ := dk_rd I.hok ha
  obtain ⟨_, yb, vb, rb, db⟩ := dk_rd I.hok hb
  have hits := hitsD_run I (A := X.A) (by show X.A.units + 1 + 64 < cLine; omega) rb hf he ra
  have e1 : va.length = es.length := by rw [← ra.length]; exact he.len
  have e2 : vb.length = fs.length := by rw [← rb.length]; exact hf.len
  cases neg with
  | true =>
    refine rcP_dicts_ne (knd := mixKind X.prog X.w) ya yb da db (by omega) (fun _ => hits) _ _ ⟨.bl (!(va.length == vb.length && hitsD fs es)), H, I, rfl, ?_⟩
    rw [e1, e2]
    have : (!(es.length == fs.length && hitsD fs es)) = ((es.length == fs.length && hitsD fs es) != true) := by cases (es.length == fs.length && hitsD fs es) <;> rfl
    rw [this]
    exact q
  | false =>
    refine PySem.W.rcP_dicts (knd := mixKind X.prog X.w) ya yb da db (by omega) (fun _ => hits) _ _ ⟨.bl (va.length == vb.length && hitsD fs es), H, I, rfl, ?_⟩
    rw [e1, e2]
    have : (es.length == fs.length && hitsD fs es) = ((es.length == fs.length && hitsD fs es) != false) := by cases (es.length == fs.length && hitsD fs es) <;> rfl
    rw [this]
    exact q
theorem call_lenDR : CallR X (.builtin "len") (fun xs H Q => ∃ a kvs, xs = [V.ref a] ∧ Rd H a (.dK kvs) ∧ Q (.int kvs.length) H) := by
  intro pins s σ H xs us Q I r h
  obtain ⟨a, kvs, rfl, ha, q⟩ := h
  obtain ⟨u, rfl, ru⟩ := vals1 r
  cases ru
  exact d_len I ha fun t s' I' => ⟨.int kvs.length, H, I', ⟨t, rfl⟩, q⟩
end
end L2

/-! MiOwn -/
set_option Elab.async false
set_option linter.all false
set_option maxRecDepth 100000
set_option maxHeartbeats 2000000
/-! ## objects of own classes among all values: isinstance, ==, len -/
namespace Mi
open PySem L2 Eg
inductive Lk where
  | dat (y : PyData) | ins (C : Addr) (fs : List (Str × PyData)) | dct (es : List (Key × PyData)) | opq (es : List (PyData × PyData))
def look {α : Type} (Os : List Addr) (x : PyData) (k : Lk → M α) : M α := match ptrOf x with
  | some p => .get p fun c => match c with
    | .lst xs => k (.dat (.list xs))
    | .ins C fs => if Os.contains C = true then k (.ins C fs) else .bad
    | .dct es => k (.dct es)
    | .dcl _ _ es => k (.dct es)
    | .opq es => k (.opq es)
  | none => if isPtr x = true then .bad else k (.dat x)
inductive LkR (Os : List Addr) (G H : Hp) : V → Lk → Prop
  | dat {v : V} {y : PyData} : Rp H v y → isPtr y = false → LkR Os G H v (.dat y)
  | ins {p C dx : Addr} {vs : List (Str × V)} {fs : List (Str × PyData)} : H p = some (.ins C dx vs) → C ∈ Os → LkR Os G H (.ref p) (.ins C fs)
  | dct {p : Addr} {vs : List (Key × V)} {es : List (Key × PyData)} : Rd H p (.dK vs) → RpD G vs es → LkR Os G H (.ref p) (.dct es)
  | opq {p : Addr} {ks vs : List V} {es : List (PyData × PyData)} : H p = some (.ext (EntsOf p ks vs)) → LkR Os G H (.ref p) (.opq es)
theorem wp_look {α : Type} {Os : List Addr} {x : PyData} {k : Lk → M α} {φ τ : Sg} {G H : Hp} {v : V} {K : α → Sg → Prop} {X : XC} (w : Wd τ G H) (l : Le φ τ) (r : Rp G v x) (h : (look Os x k).wp φ K X) :
    ∃ y, (k y).wp φ K X ∧ LkR Os G H v y := by
  unfold look at h
  cases e : ptrOf x with
  | some p =>
    rw [e] at h
    obtain ⟨c, hc, h⟩ := h
    have hv := Rp.ptr_of r e
    subst hv
    obtain ⟨g0, hcell⟩ := w.cell p _ (l _ _ hc)
    cases c with
    | lst xs =>
      obtain ⟨vs, hh, rl⟩ := hcell
      exact ⟨_, h, .dat (.lst hh (RpL.mono w.ex _ _ rl)) rfl⟩
    | ins C fs =>
      obtain ⟨dx, vs, hh, rf⟩ := hcell
      dsimp only at h
      by_cases hC : Os.contains C = true
      · rw [if_pos hC] at h
        exact ⟨_, h, .ins hh (by simpa using hC)⟩
      · rw [if_neg hC] at h; exact h.elim
    | dct es =>
      obtain ⟨vs, hh, rd⟩ := hcell
      exact ⟨_, h, .dct (.inl hh) rd⟩
    | dcl o vs es =>
      obtain ⟨hh, rd⟩ := hcell
      exact ⟨_, h, .dct (.inr ⟨o, hh⟩) rd⟩
    | opq es =>
      obtain ⟨ks, vs, hh, _, _⟩ := hcell
      exact ⟨_, h, .opq hh⟩
  | none =>
    rw [e] at h
    cases hp : isPtr x with
    | true => dsimp only at h; rw [if_pos hp] at h; exact h.elim
    | false => dsimp only at h; rw [if_neg (by rw [hp]; decide)] at h; exact ⟨_, h, .dat (Rp.mono w.ex _ _ r) hp⟩
theorem rp_tye {Os : List Addr} {H : Hp} {v : V} {y : PyData} (r : Rp H v y) (hp : isPtr y = false) : TyE Os H v (.type (tyN y)) := by
  cases r with
  | non => exact .non
  | bl b => exact .bl b
  | int i => exact .int i
  | str x => exact .str x
  | lst h _ => exact .lst h
  | tup h _ => exact .tup h
  | dct h _ => exact .dK h
  | ptr p => cases hp
/-- the type of what is seen -/
def tyL : Lk → Value
  | .dat y => .type (tyN y)
  | .ins C _ => .ref C
  | .dct _ => .type "dict"
  | .opq _ => .type "dict"
theorem LkR.tye {Os : List Addr} {G H : Hp} {v : V} {y : Lk} (r : LkR Os G H v y) : TyE Os H v (tyL y) := by
  cases r with
  | dat r hp => exact rp_tye r hp
  | ins h hC => exact .ins h hC
  | dct h _ => exact h.elim .dK fun ⟨o, h⟩ => .fdK h
  | opq h => exact .ext h
theorem tyN_in (y : PyData) : tyN y ∈ tyns := by cases y <;> (simp only [tyN]; decide)
/-! ### isinstance -/
def isL (p : PyData → Bool) : Lk → Bool
  | .dat y => p y
  | .ins _ _ => false
  | .dct _ => p (.dict [])
  | .opq _ => p (.dict [])
def isC (C : Addr) : Lk → Bool
  | .ins D _ => decide (D = C)
  | _ => false
def xIsiO (Os : List Addr) (p : PyData → Bool) (a : E) : E := fun δ => (a δ).bind fun x => look Os x fun y => .ret (.bool (isL p y))
def xIsiC (Os : List Addr) (C : Addr) (a : E) : E := fun δ => (a δ).bind fun x => look Os x fun y => .ret (.bool (isC C y))
section
variable {c : Cn} {W : WX} {te ta tb tc : TE} {t : TT} {a b e : E} {KF : PySem.W.Frag} {ts tu tw : TS} {Os : List Addr}
theorem kitL {n : String} {p : PyData → Bool} (hO : ∀ C, C ∈ Os → OwnC KF C) (hn : n ∈ tyns) (hp : ∀ d, kitB (tyN d) n = some (p d)) {G H : Hp} {v : V} {y : Lk} (r : LkR Os G H v y) : PySem.W.kitOne KF (tyL y) (.type n) = some (isL p y) := by
  cases r with
  | dat r _ => exact kit_ty (hp _)
  | ins h hC => exact (hO _ hC).kit_ty hn
  | dct h _ => exact kit_ty (hp (.dict []))
  | opq h => exact kit_ty (hp (.dict []))
theorem me_isiO {n : String} {p : PyData → Bool} (hO : ∀ C, C ∈ Os → OwnC KF C) (hn : n ∈ tyns) (hp : ∀ d, kitB (tyN d) n = some (p d)) (ha : ME c W ta a) : ME c W (tCB (rIsiE KF Os) (tCons ta (tCons (tC (.ty n)) tNil))) (xIsiO Os p a) := fun τ0 φ τ δ G H σ Q w l s k => by
  refine ha τ0 φ τ δ G H σ _ w l s (M.wp_mono (fun x φ1 k1 v τ1 G1 H1 w1 g1 r1 => ?_) (fun C fs φ1 k1 => k1) _ _ ((M.wp_bind _ _).mp k))
  obtain ⟨y, k2, r2⟩ := wp_look w1 g1.le r1 k1
  exact ⟨v, .ty n, _, _, isL p y, rfl, .ty n, r2.tye, kitL hO hn hp r2, k2 _ τ1 G1 H1 w1 g1 (.bl _)⟩
theorem kit2L {n m : String} {p p2 : PyData → Bool} (hO : ∀ C, C ∈ Os → OwnC KF C) (hn : n ∈ tyns) (hm : m ∈ tyns) (hp : ∀ d, kitB (tyN d) n = some (p d)) (hp2 : ∀ d, kitB (tyN d) m = some (p2 d)) {G H : Hp} {v : V} {y : Lk} (r : LkR Os G H v y) :
    PySem.W.kitAny KF (tyL y) [.type n, .type m] = some (isL (fun d => p d || p2 d) y) := by
  cases r with
  | dat r _ => exact kit2 (hp _) (hp2 _)
  | ins h hC =>
    refine kitAny_cons ((hO _ hC).kit_ty hn) (fun e => ?_) (fun e => nomatch e)
    exact kitAny_cons ((hO _ hC).kit_ty hm) (fun e => rfl) (fun e => nomatch e)
  | dct h _ => exact kit2 (hp (.dict [])) (hp2 (.dict []))
  | opq h => exact kit2 (hp (.dict [])) (hp2 (.dict []))
theorem me_isi2O {n m : String} {p p2 : PyData → Bool} (hO : ∀ C, C ∈ Os → OwnC KF C) (hn : n ∈ tyns) (hm : m ∈ tyns) (hp : ∀ d, kitB (tyN d) n = some (p d)) (hp2 : ∀ d, kitB (tyN d) m = some (p2 d)) (ha : ME c W ta a) :
    ME c W (tCB (rIsiTE KF Os) (tCons ta (tCons (tTup (tCons (tC (.ty n)) (tCons (tC (.ty m)) tNil))) tNil))) (xIsiO Os (fun d => p d || p2 d) a) := fun τ0 φ τ δ G H σ Q w l s k => by
  refine ha τ0 φ τ δ G H σ _ w l s (M.wp_mono (fun x φ1 k1 v τ1 G1 H1 w1 g1 r1 => ?_) (fun C fs φ1 k1 => k1) _ _ ((M.wp_bind _ _).mp k))
  obtain ⟨y, k2, r2⟩ := wp_look w1 g1.le r1 k1
  refine ⟨by show 2 ≤ sizeLine; decide, fun q hq => ?_⟩
  have w2 := w1.laid (o := .tup [.ty n, .ty m]) hq
  have g2 := g1.trans (Go.laid (o := .tup [.ty n, .ty m]) w1 g1.le hq)
  have r3 : LkR Os G1 (upd H1 q (.tup [.ty n, .ty m])) v y := by
    cases r2 with
    | dat r hp => exact .dat (Rp.mono (Ex.new hq) _ _ r) hp
    | ins h hC => exact .ins (Ex.new hq _ _ h) hC
    | dct h hl => exact .dct (h.elim (fun h => .inl (Ex.new hq _ _ h)) fun ⟨o, h⟩ => .inr ⟨o, Ex.new hq _ _ h⟩) hl
    | opq h => exact .opq (Ex.new hq _ _ h)
  exact ⟨v, q, _, _, [.type n, .type m], isL (fun d => p d || p2 d) y, rfl, upd_same, .cons (.ty n) (.cons (.ty m) .nil), r3.tye, kit2L hO hn hm hp hp2 r3, k2 _ τ1 _ _ w2 g2 (.bl _)⟩
theorem kitC {C : Addr} (hO : ∀ C, C ∈ Os → OwnC KF C) (hC : C ∈ Os) {G H : Hp} {v : V} {y : Lk} (r : LkR Os G H v y) : PySem.W.kitOne KF (tyL y) (.ref C) = some (isC C y) := by
  cases r with
  | dat r _ => exact (hO _ hC).ty_kit (tyN_in _)
  | ins h hD => exact (hO _ hD).kit_own (hO _ hC)
  | dct h _ => exact (hO _ hC).ty_kit (by decide)
  | opq h => exact (hO _ hC).ty_kit (by decide)
theorem me_isiC {C : Addr} (hO : ∀ C, C ∈ Os → OwnC KF C) (hC : C ∈ Os) (ha : ME c W ta a) : ME c W (tCB (rIsiE KF Os) (tCons ta (tCons (tC (.ref C)) tNil))) (xIsiC Os C a) := fun τ0 φ τ δ G H σ Q w l s k => by
  refine ha τ0 φ τ δ G H σ _ w l s (M.wp_mono (fun x φ1 k1 v τ1 G1 H1 w1 g1 r1 => ?_) (fun C fs φ1 k1 => k1) _ _ ((M.wp_bind _ _).mp k))
  obtain ⟨y, k2, r2⟩ := wp_look w1 g1.le r1 k1
  exact ⟨v, .ref C, _, _, isC C y, rfl, .own C, r2.tye, kitC hO hC r2, k2 _ τ1 G1 H1 w1 g1 (.bl _)⟩
end
/-! ### == and != -/
def eqF (neg : Bool) : PyData → PyData → Option PyData := if neg then fNe else fEq
def lkA {α : Type} (C : Addr) : List (Addr × α) → Option α
  | [] => none
  | (D, m) :: r => if C = D then some m else lkA C r
theorem lkA_mem {α : Type} {C : Addr} {m : α} : ∀ {l : List (Addr × α)}, lkA C l = some m → (C, m) ∈ l
  | [], e => nomatch e
  | (D, n) :: r, e => by
    unfold lkA at e
    by_cases h : C = D
    · rw [if_pos h] at e; cases e; subst h; exact List.mem_cons_self
    · rw [if_neg h] at e; exact List.mem_cons_of_mem _ (lkA_mem e)
/-- what the values of a dict are now -/
def deepD : List (Key × PyData) → M (List (Key × PyData))
  | [] => .ret []
  | (k, x) :: es => (deep x).bind fun y => (deepD es).bind fun fs => .ret ((k, y) :: fs)
theorem deepD_rp {φ τ : Sg} {G H : Hp} {X : XC} (w : Wd τ G H) (l : Le φ τ) : ∀ (es : List (Key × PyData)) (K : List (Key × PyData) → Sg → Prop), (deepD es).wp φ K X → ∃ fs, K fs φ ∧ ∀ vs, RpD G vs es → RpD H vs fs
  | [], K, h => ⟨[], h, fun vs r => by cases r; exact .nil⟩
  | (k, x) :: es, K, h => by
    unfold deepD at h
    obtain ⟨y, h1, r1⟩ := deep_rp w l x _ ((M.wp_bind _ _).mp h)
    obtain ⟨fs, h2, r2⟩ := deepD_rp w l es _ ((M.wp_bind _ _).mp h1)
    exact ⟨_, h2, fun vs r => by
      cases r with
      | cons a b => exact .cons (r1 _ a) (r2 _ b)⟩
theorem eqOk_of {y : PyData} (h : eqOk y = true) : y.hasDict = false ∧ SeqAt.shaped y = true := by
  unfold eqOk at h
  simpa using h
theorem rpD_dp {K : PySem.W.Frag} {H : Hp} {vs : List (Key × V)} {es : List (Key × PyData)} (r : RpD H vs es) (h : (es.all fun e => eqOk e.2) = true) : DpD K H vs es := by
  induction r with
  | nil => exact .nil
  | cons a _ ih =>
    rw [List.all_cons, Bool.and_eq_true] at h
    exact .cons (Rp.dp _ _ a (eqOk_of h.1).1) (eqOk_of h.1).2 (ih h.2)
def xEqO (Os : List Addr) (tbl : List (Addr × (List AV → M Rt))) (neg : Bool) (a b : E) : E := fun δ => (a δ).bind fun x => (b δ).bind fun y => look Os x fun lx => match lx with
  | .ins C _ => (M.of (lkA C tbl)).bind fun m => look Os y fun _ => (m [.d x, .d y]).nox.bind fun z => match z with
    | .d (.bool k) => .ret (.bool (k != neg))
    | _ => .bad
  | .dat _ => (deep x).bind fun x' => (deep y).bind fun y' => M.of (match eqF neg x' y' with
    | some z => if isScal z = true then some z else none
    | none => none)
  | .dct es => look Os y fun ly => match ly with
    | .dct fs => (deepD es).bind fun es' => (deepD fs).bind fun fs' => if (es'.all fun e => eqOk e.2) = true ∧ (fs'.all fun e => eqOk e.2) = true then .ret (.bool ((es'.length == fs'.length && hitsD fs' es') != neg)) else .bad
    | _ => .bad
  | .opq _ => .bad
def spT (c : Cn) (tbl : List (Addr × (List AV → M Rt))) : List (Addr × Sp) := tbl.map fun e => (e.1, SpM c.K c.cl e.2)
def rEqX (KF : PySem.W.Frag) (Os : List Addr) (tbl : List (Addr × Sp)) (neg : Bool) : R2 := fun x y H Q => (if neg then rNeU KF else rEqU KF) x y H Q ∨ (rEqDct KF neg x y H Q ∨ rEqC KF Os tbl neg x y H Q)
theorem op_eqX {X : Cx} {Os : List Addr} {tbl : List (Addr × Sp)} {neg : Bool} (hu : X.A.units + 64 < cLine) (hu2 : X.A.units + 66 < cLine) (hO : ∀ C, C ∈ Os → OwnC X.K C) (ht : EqsOk X neg tbl) : OpR X (compareOp (if neg then .NotEq else .Eq)) (rEqX X.K Os tbl neg) := by
  refine OpR.or ?_ (OpR.or (op_eqDct hu2) (op_eqC hu hO ht))
  cases neg with
  | true => exact op_neU hu
  | false => exact op_eqU hu
section
variable {c : Cn} {W : WX} {te ta tb tc : TE} {t : TT} {a b e : E} {Os : List Addr}
theorem me_eqO {tbl : List (Addr × (List AV → M Rt))} {neg : Bool} (ha : ME c W ta a) (hb : ME c W tb b) : ME c W (tOp (rEqX c.K Os (spT c tbl) neg) ta tb) (xEqO Os tbl neg a b) := fun τ0 φ τ δ G H σ Q w l s k => by
  refine ha τ0 φ τ δ G H σ _ w l s (M.wp_mono (fun x φ1 k1 v τ1 G1 H1 w1 g1 r1 => ?_) (fun C fs φ1 k1 => k1) _ _ ((M.wp_bind _ _).mp k))
  refine hb τ0 φ1 τ1 δ G1 H1 σ _ w1 g1.le (s.go g1) (M.wp_mono (fun y φ2 k2 v2 τ2 G2 H2 w2 g2 r2 => ?_) (fun C fs φ2 k2 => Xq.go g1 k2) _ _ ((M.wp_bind _ _).mp k1))
  have r1' := Rp.mono g2.ex _ _ r1
  obtain ⟨lx, k2, rx⟩ := wp_look w2 g2.le r1' k2
  cases rx with
  | opq h => exact k2.elim
  | @dct p vs es hh hd =>
    obtain ⟨ly, k3, ry⟩ := wp_look w2 g2.le r2 k2
    cases ry with
    | @dct p2 vs2 fs hh2 hd2 =>
      obtain ⟨es', k4, re⟩ := deepD_rp w2 g2.le es _ ((M.wp_bind _ _).mp k3)
      obtain ⟨fs', k5, rf⟩ := deepD_rp w2 g2.le fs _ ((M.wp_bind _ _).mp k4)
      by_cases hs : (es'.all fun e => eqOk e.2) = true ∧ (fs'.all fun e => eqOk e.2) = true
      · rw [if_pos hs] at k5
        exact .inr (.inl ⟨p, p2, vs, vs2, es', fs', rfl, rfl, hh, hh2, rpD_dp (re _ hd) hs.1, rpD_dp (rf _ hd2) hs.2, k5 _ τ2 G2 H2 w2 (g1.trans g2) (.bl _)⟩)
      · rw [if_neg hs] at k5; exact k5.elim
    | _ => exact k3.elim
  | dat rr hp =>
    refine .inl ?_
    obtain ⟨x', k3, rx⟩ := deep_rp w2 g2.le x _ ((M.wp_bind _ _).mp k2)
    obtain ⟨y', k4, ry⟩ := deep_rp w2 g2.le y _ ((M.wp_bind _ _).mp k3)
    obtain ⟨z, hz, k5⟩ := wp_of k4
    cases e : eqF neg x' y' with
    | none => rw [e] at hz; cases hz
    | some u =>
      rw [e] at hz
      dsimp only at hz
      by_cases hs : isScal u = true
      · rw [if_pos hs] at hz
        cases hz
        have hr : ∀ x y z, eqF neg x y = some z → ∀ K : PyData → Nat → Prop, K z 0 → RD ((if neg then rNeU c.K else rEqU c.K)) x y 0 K := by
          cases neg with
          | true => exact ok_ne
          | false => exact ok_eq
        refine hr x' y' z e (fun d _ => d = z) rfl noB H2 H2 v v2 Q ⟨Ex.refl _, fun _ h => h.elim⟩ (rx _ r1') (ry _ r2) fun zv d n G3 H3 w3 g3 r3 e3 => ?_
        subst e3
        exact k5 zv τ2 G2 H3 (bridgeH w2 w3 g3) (g1.trans g2) (Rp.scal hs r3)
      · rw [if_neg hs] at hz; cases hz
  | @ins p C dx vs fs hh hC =>
    obtain ⟨m, hm, k3⟩ := wp_of ((M.wp_bind _ _).mp k2)
    obtain ⟨ly, k4, ry⟩ := wp_look w2 g2.le r2 k3
    refine .inr (.inr ⟨p, C, dx, vs, SpM c.K c.cl m, tyL ly, rfl, hh, hC, List.mem_map.mpr ⟨_, lkA_mem hm, rfl⟩, ry.tye, φ2, τ2, G2, [.d x, .d y], w2, g2.le, .cons (.d r1') (.cons (.d r2) .nil), ?_⟩)
    refine M.wp_mono (fun z φ3 k4 => ?_) (fun C fs φ3 k4 => k4.elim) _ _ (M.wp_nox (X' := fun _ _ _ => False) _ _ ((M.wp_bind _ _).mp k4))
    cases z with
    | f xs => exact k4.elim
    | d z =>
      cases z with
      | bool kb =>
        intro v' τ' G' H' w' g' r'
        cases r'
        exact ⟨kb, rfl, k4 _ τ' G' H' w' ((g1.trans g2).trans g') (.bl _)⟩
      | _ => exact k4.elim
end
/-! ### len -/
def xLenO (Os : List Addr) (tbl : List (Addr × (List AV → M Rt))) (a : E) : E := fun δ => (a δ).bind fun x => look Os x fun lx => match lx with
  | .dat y => M.of (fLen y)
  | .ins C _ => (M.of (lkA C tbl)).bind fun m => (m [.d x]).nox.bind fun z => match z with
    | .d (.int n) => if 0 ≤ n ∧ n < 1000000000 then .ret (.int n) else .bad
    | _ => .bad
  | .dct es => .ret (.int es.length)
  | .opq _ => .bad
def rLenX (KF : PySem.W.Frag) (tbl : List (Addr × Sp)) : List V → Hp → VK → Prop := fun xs H Q => rLenU KF xs H Q ∨ ((∃ a kvs, xs = [V.ref a] ∧ Rd H a (.dK kvs) ∧ Q (.int kvs.length) H) ∨ rLenO tbl xs H Q)
theorem call_lenX {X : Cx} {tbl : List (Addr × Sp)} (ht : LensOk X tbl) : CallR X (.builtin "len") (rLenX X.K tbl) := CallR.or (r := rLenU X.K) call_len (CallR.or call_lenDR (call_lenO ht))
section
variable {c : Cn} {W : WX} {te ta tb tc : TE} {t : TT} {a b e : E} {Os : List Addr}
theorem me_lenO {tbl : List (Addr × (List AV → M Rt))} (ha : ME c W ta a) : ME c W (tCB (rLenX c.K (spT c tbl)) (tCons ta tNil)) (xLenO Os tbl a) := fun τ0 φ τ δ G H σ Q w l s k => by
  refine ha τ0 φ τ δ G H σ _ w l s (M.wp_mono (fun x φ1 k1 v τ1 G1 H1 w1 g1 r1 => ?_) (fun C fs φ1 k1 => k1) _ _ ((M.wp_bind _ _).mp k))
  obtain ⟨lx, k2, rx⟩ := wp_look w1 g1.le r1 k1
  cases rx with
  | opq h => exact k2.elim
  | @dct p vs es h hl => exact .inr (.inl ⟨p, vs, rfl, h, by rw [hl.len]; exact k2 _ τ1 G1 H1 w1 g1 (.int _)⟩)
  | @dat v y rr hp =>
    obtain ⟨z, hz, k3⟩ := wp_of k2
    unfold fLen at hz
    cases hn : lenD y with
    | none => rw [hn] at hz; cases hz
    | some n =>
      rw [hn] at hz
      cases hz
      exact .inl ⟨v, n, rfl, lenV_of rr hn, k3 _ τ1 G1 H1 w1 g1 (.int _)⟩
  | @ins p C dx vs fs hh hC =>
    obtain ⟨m, hm, k3⟩ := wp_of ((M.wp_bind _ _).mp k2)
    refine .inr (.inr ⟨p, C, dx, vs, SpM c.K c.cl m, rfl, hh, List.mem_map.mpr ⟨_, lkA_mem hm, rfl⟩, φ1, τ1, G1, [.d x], w1, g1.le, .cons (.d r1) .nil, ?_⟩)
    refine M.wp_mono (fun z φ3 k4 => ?_) (fun C fs φ3 k4 => k4.elim) _ _ (M.wp_nox (X' := fun _ _ _ => False) _ _ ((M.wp_bind _ _).mp k3))
    cases z with
    | f xs => exact k4.elim
    | d z =>
      cases z with
      | int n =>
        dsimp only at k4
        by_cases hb : 0 ≤ n ∧ n < 1000000000
        · rw [if_pos hb] at k4
          intro v' τ' G' H' w' g' r'
          cases r'
          exact ⟨n, rfl, hb.1, Int.lt_trans hb.2 (by decide), k4 _ τ' G' H' w' (g1.trans g') (.int _)⟩
        · rw [if_neg hb] at k4; exact k4.elim
      | _ => exact k4.elim
end
end Mi

/-! MiDic -/
set_option Elab.async false
set_option linter.all false
set_option maxRecDepth 100000
set_option maxHeartbeats 2000000
/-! ## dicts that change: looked up, put in, taken out, walked over -/
namespace Mi
open PySem L2 Eg
def getR {α : Type} (p : Addr) (k : List (Key × PyData) → M α) : M α := .get p fun c => match c with
  | .dct es => k es
  | .dcl _ _ es => k es
  | _ => .bad
theorem Wd.rd {φ τ : Sg} {G H : Hp} {p : Addr} {es : List (Key × PyData)} (w : Wd τ G H) (l : Le φ τ) (h : φ p = some (.dct es) ∨ ∃ o vs, φ p = some (.dcl o vs es)) : ∃ vs, Rd H p (.dK vs) ∧ RpD G vs es := by
  rcases h with h | ⟨o, vs, h⟩
  · obtain ⟨_, vs, hh, r⟩ := w.cell p _ (l _ _ h)
    exact ⟨vs, .inl hh, r⟩
  · obtain ⟨_, hh, r⟩ := w.cell p _ (l _ _ h)
    exact ⟨vs, .inr ⟨o, hh⟩, r⟩
def dropD (es : List (Key × PyData)) (k : Key) : List (Key × PyData) := es.filter fun kv => decide (kv.1 ≠ k)
theorem RpD.drop {G : Hp} {k : Key} : ∀ {vs : List (Key × V)} {xs : List (Key × PyData)}, RpD G vs xs → RpD G (dropK vs k) (dropD xs k)
  | _, _, .nil => .nil
  | _, _, .cons (k := k') (v := v) (x := x) r h => by
    unfold dropK dropD
    by_cases hk : k' = k
    · rw [List.filter_cons_of_neg (by simp [hk]), List.filter_cons_of_neg (by simp [hk])]
      exact h.drop
    · rw [List.filter_cons_of_pos (by simp [hk]), List.filter_cons_of_pos (by simp [hk])]
      exact .cons r h.drop
/-- d[k] -/
def xIxR (a b : E) : E := fun δ => (a δ).bind fun x => (b δ).bind fun y => match ptrOf x, keyOf y with
  | some p, some k => getR p fun es => M.of (valD es k)
  | _, _ => .bad
/-- k in d, k not in d -/
def xInR (neg : Bool) (a b : E) : E := fun δ => (a δ).bind fun y => (b δ).bind fun x => match ptrOf x with
  | some p => getR p fun es => match y with
    | .none => .ret (.bool neg)
    | _ => (M.of (keyOf y)).bind fun k => .ret (.bool ((valD es k).isSome != neg))
  | none => .bad
/-- d.get(k), d.get(k, z) -/
def xGet1 (a b : E) : E := fun δ => (a δ).bind fun x => match ptrOf x with
  | some p => getR p fun _ => (b δ).bind fun y => (M.of (keyOf y)).bind fun k => getR p fun es => .ret ((valD es k).getD .none)
  | none => .bad
def xGet2 (a b e : E) : E := fun δ => (a δ).bind fun x => match ptrOf x with
  | some p => getR p fun _ => (b δ).bind fun y => (e δ).bind fun z => (M.of (keyOf y)).bind fun k => getR p fun es => .ret ((valD es k).getD z)
  | none => .bad
/-- d.pop(k), d.pop(k, z) -/
def xPop1 (a b : E) : E := fun δ => (a δ).bind fun x => match ptrOf x with
  | some p => getR p fun _ => (b δ).bind fun y => (M.of (keyOf y)).bind fun k => getD p fun es => (M.of (valD es k)).bind fun z => .put p (.dct (dropD es k)) (.ret z)
  | none => .bad
def xPop2 (a b e : E) : E := fun δ => (a δ).bind fun x => match ptrOf x with
  | some p => getR p fun _ => (b δ).bind fun y => (e δ).bind fun u => (M.of (keyOf y)).bind fun k => getD p fun es => match valD es k with
    | some z => .put p (.dct (dropD es k)) (.ret z)
    | none => .ret u
  | none => .bad
/-- d.setdefault(k, z) -/
def xSetd (a b e : E) : E := fun δ => (a δ).bind fun x => match ptrOf x with
  | some p => getR p fun _ => (b δ).bind fun y => (e δ).bind fun u => (M.of (keyOf y)).bind fun k => getD p fun es => if es.length < 10000000 then match valD es k with
    | some z => .ret z
    | none => .put p (.dct (putD es k u)) (.ret u) else .bad
  | none => .bad
/-- del d[k] -/
def sDelD (a b : E) : S := fun δ => catch_ (a δ) δ fun x => catch_ (b δ) δ fun y => match ptrOf x, keyOf y with
  | some p, some k => getD p fun es => if (valD es k).isSome = true then .put p (.dct (dropD es k)) (.ret (.nx δ)) else .bad
  | _, _ => .bad
/-- e.extend(x), e a pointer -/
def sExtE (a e : E) : S := fun δ => catch_ (a δ) δ fun y => match ptrOf y with
  | some p => getL p fun _ => catch_ (e δ) δ fun x => match x with
    | .list ys => getL p fun xs => if xs.length + ys.length ≤ 10000000 then .put p (.lst (xs ++ ys)) (.ret (.nx δ)) else .bad
    | _ => .bad
  | none => .bad
section
variable {c : Cn} {W : WX} {te ta tb tc : TE} {t : TT} {a b e o : E} {KF : PySem.W.Frag} {ts tu tw : TS}
end
end Mi

/-! EgSort -/
set_option Elab.async false
set_option linter.all false
set_option maxRecDepth 100000
set_option maxHeartbeats 2000000
/-! ## sorted of ints, of texts, of tuples of both: any number of them -/
namespace Srt
open PySem PySem.Spec PyProof.Rows L2 Eg
abbrev Kx := List (Int ⊕ List Nat)
def ltX : Kx → Kx → Bool := PyProof.Rows.lexLt itemOrd
def itD : PyData → Int ⊕ List Nat
  | .int i => .inl i
  | .str x => .inr x.cps.toList
  | _ => .inl 0
/-- what an item is put in order by -/
def keyS : PyData → Kx
  | .tuple xs => xs.map itD
  | x => [itD x]
def ltS (x y : PyData) : Bool := ltX (keyS x) (keyS y)
/-! ### the sorted list -/
def insS (x : PyData) : List PyData → List PyData
  | [] => [x]
  | y :: ys => if ltS y x = true then y :: insS x ys else x :: y :: ys
def sortD : List PyData → List PyData
  | [] => []
  | x :: xs => insS x (sortD xs)
abbrev Asc (l : List PyData) : Prop := l.Pairwise fun x y => ltS y x = false
/-! ### items of one kind -/
def isIt : PyData → Bool
  | .int _ => true
  | .str _ => true
  | _ => false
def isSt : PyData → Bool
  | .str _ => true
  | _ => false
def isInt' : PyData → Bool
  | .int _ => true
  | _ => false
/-- a tuple's kinds -/
def kinds : PyData → Option (List Bool)
  | .tuple (x :: xs) => if (x :: xs).all isIt = true then some ((x :: xs).map isSt) else none
  | _ => none
def homo (ds : List PyData) : Bool := ds.all isInt' || ds.all isSt || match ds with
  | [] => true
  | d :: _ => (kinds d).isSome && ds.all fun e => decide (kinds e = kinds d)
/-! ### over values -/
/-- the value is this item -/
inductive ItV (h : Heap) : Value → PyData → Prop
  | int (i : Int) (t : Tok) : ItV h (.int i t) (.int i)
  | str (x : Str) (t : Tok) : ItV h (.str x t) (.str x)
  | tup {a : Addr} {o : Obj} {xs : Array Value} {n : Nat} {ds : List PyData} : h.get? a = some o → o.cls = .type "tuple" → o.data = .seq xs n → Paired (fun v d => (∃ i t, v = .int i t ∧ d = .int i) ∨ ∃ x t, v = .str x t ∧ d = .str x) xs.toList ds → ItV h (.ref a) (.tuple ds)
/-- of one kind, over values -/
structure Homs (h : Heap) (vs : List Value) (ds : List PyData) : Prop where
  it : Paired (ItV h) vs ds
  ho : homo ds = true
theorem ItV.mono {h h' : Heap} {a : Addr} (k : ∀ b o, b ≠ a → h.get? b = some o → h'.get? b = some o) {v : Value} {d : PyData} (hl : ∀ o, h.get? a = some o → o.cls = .type "list") (r : ItV h v d) : ItV h' v d := by
  cases r with
  | int i t => exact .int i t
  | str x t => exact .str x t
  | tup ho hc hd p => exact .tup (k _ _ (fun z => by
      subst z
      have := hl _ ho
      rw [hc] at this
      exact absurd this (by simp)) ho) hc hd p
section
variable {prog : Program} {w : World} {A : Around} {E : Value → Shared → Prop} {s : Shared}
end
/-! ### as a rule of the layer -/
section
variable {X : Cx} {pins : List (Addr × Obj)} {σ : L2.St} {H : Hp} {s : Shared}
/-- triples of a value of the layer, of the library, and what it is -/
theorem triples {H : Hp} : ∀ {xs : List V} {us : List Value} {ds : List PyData}, RpL H xs ds → Vals xs us → ∃ T : List (V × Value × PyData), T.map (·.1) = xs ∧ T.map (·.2.1) = us ∧ T.map (·.2.2) = ds ∧ ∀ t ∈ T, Rp H t.1 t.2.2 ∧ RelV t.1 t.2.1
  | [], _, [], .nil, .nil => ⟨[], rfl, rfl, rfl, fun _ h => nomatch h⟩
  | x :: xs, u :: us, d :: ds, .cons r h, .cons rv k => by
    obtain ⟨T, e1, e2, e3, e4⟩ := triples h k
    exact ⟨(x, u, d) :: T, by rw [List.map_cons, e1], by rw [List.map_cons, e2], by rw [List.map_cons, e3], fun t ht => by
      rcases List.mem_cons.mp ht with rfl | ht
      · exact ⟨r, rv⟩
      · exact e4 t ht⟩
def keyP : Key → PyData
  | .inl i => .int i
  | .inr x => .str x
end
end Srt

/-! MiSort -/
set_option Elab.async false
set_option linter.all false
set_option maxRecDepth 100000
set_option maxHeartbeats 2000000
/-! ## sorted(x) -/
namespace Mi
open PySem L2 Eg
def srt (ds : List PyData) : Option (List PyData) := if Srt.homo ds = true then some (Srt.sortD ds) else none
def fSort (a : E) : List SD → M (List PyData) := fun δ => (a δ).bind fun x => match ptrOf x with
  | some p => .get p fun c => match c with
    | .lst xs => M.of (srt xs)
    | .dct es => M.of (srt (es.map fun e => Srt.keyP e.1))
    | .dcl _ _ es => M.of (srt (es.map fun e => Srt.keyP e.1))
    | _ => .bad
  | none => (M.of (itemsOf x)).bind fun ds => M.of (srt ds)
theorem RpD.keys {G : Hp} : ∀ {vs : List (Key × V)} {es : List (Key × PyData)}, RpD G vs es → (vs.map fun e => Srt.keyP e.1) = es.map fun e => Srt.keyP e.1
  | _, _, .nil => rfl
  | _, _, .cons _ h => by rw [List.map_cons, List.map_cons, h.keys]
section
variable {c : Cn} {W : WX} {te ta tb tc : TE} {t : TT} {a b e o : E} {KF : PySem.W.Frag} {ts tu tw : TS}
end
end Mi

/-! MiWalk -/
set_option Elab.async false
set_option linter.all false
set_option maxRecDepth 100000
set_option maxHeartbeats 2000000
/-! ## walks over dicts: they stand locked meanwhile -/
namespace Mi
open PySem L2 Eg
inductive DW where
  | keys | vals | items
open Classical in
open Classical in
open Classical in
section
variable {c : Cn} {W : WX} {te ta tb tc : TE} {tt : TT} {t : B} {e a : E} {KF : PySem.W.Frag} {ts tu tw tbd : TS} {b : S} {C : Addr} {f : Str} {i : Nat}
theorem RpD.at_ {G : Hp} : ∀ {vs : List (Key × V)} {es : List (Key × PyData)} {i : Nat} {k : Key} {y : PyData}, RpD G vs es → es[i]? = some (k, y) → ∃ v, vs[i]? = some (k, v) ∧ Rp G v y
  | _, _, 0, _, _, .cons r _, e => by cases e; exact ⟨_, rfl, r⟩
  | _, _, i + 1, _, _, .cons _ h, e => by
    obtain ⟨v, e1, r⟩ := h.at_ (i := i) (by simpa using e)
    exact ⟨v, by simpa using e1, r⟩
  | _, _, 0, _, _, .nil, e => nomatch e
  | _, _, i + 1, _, _, .nil, e => nomatch e
end
end Mi

/-! EgLowN_name -/
set_option Elab.async false
set_option linter.all false
set_option maxRecDepth 100000
set_option maxHeartbeats 2000000
/-! ### an own error with the field name -/
namespace PySem
namespace EgX
open PySem.W PySem.Calls PyProof.Rows PySem.HandSPX
def iA_nameN (p1 p2 : Pos) : Arguments :=
  { posonlyargs := [], args := [{ arg := "self", annotation := none, pos := p1 }, { arg := "name", annotation := none, pos := p2 }],
    vararg := none, kwonlyargs := [], kw_defaults := [], kwarg := none, defaults := [] }
def iB_nameN (q1 q2 q3 q4 : Pos) : List Stmt := [.Assign [.Attribute (.Name "self" q1) "name" q2] (.Name "name" q3) q4]
def iS_nameN : Scope :=
  { kind := .function, names := [(PySem.Str.ofString "self", .local), (PySem.Str.ofString "name", .local)], isGenerator := false, isCoroutine := false, more := [] }
/-- the class cn at C under G, its __init__ at fI -/
structure Low_nameN (K : Frag) (mg : Str → Option Value) (cn qn : Str) (C G fI : Addr) : Prop where
  gC : mg cn = some (.ref C)
  cls : ∃ nm q N bs sn sub ab col dd k0 k1 k2 k3 k5, K.lookup C = some (excClassObj nm q C N bs (.ref G :: PySem.ESX.exTail) true sn sub ab col dd k0 k1 k2 k3 k5 "Exception.__new__")
  sa : findIn K (.ref C) "__setattr__" = some (some (.builtin "object.__setattr__"))
  ga : findIn K (.ref C) "__getattribute__" = some (some (.builtin "BaseException.__getattribute__"))
  gg : findIn K (.ref C) "__getattr__" = some none
  noN : findIn K (.ref C) "name" = some none
  iC : findIn K (.ref C) "__init__" = some (some (.ref fI))
  tC : typeIn K (.ref fI) = some (.type "function")
  kC : keepIn K (.ref C) = true
  exC : subIn K (.ref C) (.type "BaseException") = some true
  tyC : typeIn K (.ref C) = some (.type "type")
  hdC : hasDictIn K C = true
  te : exmOne K (.ref C) (.ref C) = some true
  fn : ∃ (oc : Value) (od : Option Addr) (doc pm : Value) (an : Option Addr) (cdv ct : Value) (osl : Array (Option Value)) (p1 p2 q1 q2 q3 q4 : Pos),
    K.lookup fI = some ⟨oc, od, .func (fnOf "__init__" qn (iA_nameN p1 p2) (iB_nameN q1 q2 q3 q4) iS_nameN .none .none doc pm an cdv ct), osl⟩ ∧ codeIn K cdv qn = true
structure InitEnd_nameN (h h' : Heap) (x C dx t1 : Addr) (v : Value) : Prop where
  keep : ∀ b o, b ≠ x → h.get? b = some o → h'.get? b = some o
  obj : h'.get? x = some { cls := .ref C, dict := some dx, data := .fields #[.ref t1, .none, .none, .none, .bool false, .none] }
  dbig : h.objs.size ≤ dx
  dne : dx ≠ x
  ns : h'.Ns1 dx (fun y => if y = "name" then some v else none)
structure Made_nameN (h h' : Heap) (e C d : Addr) (v : Value) : Prop where
  keep : ∀ b o, h.get? b = some o → h'.get? b = some o
  new : h.objs.size ≤ e
  obj : ∃ oe vs, h'.get? e = some oe ∧ oe.cls = .ref C ∧ oe.dict = some d ∧ oe.data = .fields vs ∧ vs[1]? = some .none ∧ vs[2]? = some .none
  dbig : h.objs.size ≤ d
  dne : d ≠ e
  ns : h'.Ns1 d (fun y => if y = "name" then some v else none)
section
variable {prog : Program} {w : World} {A : Around} {E : Value → Shared → Prop} {R : Result → Shared → Prop} {s : Shared} {K : Frag} {mg : Str → Option Value} {C G fI : Addr} {cn qn : Str}
end
end EgX
end PySem
namespace L2N
open PySem PySem.Spec PyProof.Rows L2
section
variable {X : Cx} {C G fI : Addr} {cn qn : Str}
end
end L2N

/-! EgLowN_now -/
set_option Elab.async false
set_option linter.all false
set_option maxRecDepth 100000
set_option maxHeartbeats 2000000
/-! ### an own error with the field now -/
namespace PySem
namespace EgX
open PySem.W PySem.Calls PyProof.Rows PySem.HandSPX
def iA_nowN (p1 p2 : Pos) : Arguments :=
  { posonlyargs := [], args := [{ arg := "self", annotation := none, pos := p1 }, { arg := "now", annotation := none, pos := p2 }],
    vararg := none, kwonlyargs := [], kw_defaults := [], kwarg := none, defaults := [] }
def iB_nowN (q1 q2 q3 q4 : Pos) : List Stmt := [.Assign [.Attribute (.Name "self" q1) "now" q2] (.Name "now" q3) q4]
def iS_nowN : Scope :=
  { kind := .function, names := [(PySem.Str.ofString "self", .local), (PySem.Str.ofString "now", .local)], isGenerator := false, isCoroutine := false, more := [] }
/-- the class cn at C under G, its __init__ at fI -/
structure Low_nowN (K : Frag) (mg : Str → Option Value) (cn qn : Str) (C G fI : Addr) : Prop where
  gC : mg cn = some (.ref C)
  cls : ∃ nm q N bs sn sub ab col dd k0 k1 k2 k3 k5, K.lookup C = some (excClassObj nm q C N bs (.ref G :: PySem.ESX.exTail) true sn sub ab col dd k0 k1 k2 k3 k5 "Exception.__new__")
  sa : findIn K (.ref C) "__setattr__" = some (some (.builtin "object.__setattr__"))
  ga : findIn K (.ref C) "__getattribute__" = some (some (.builtin "BaseException.__getattribute__"))
  gg : findIn K (.ref C) "__getattr__" = some none
  noN : findIn K (.ref C) "now" = some none
  iC : findIn K (.ref C) "__init__" = some (some (.ref fI))
  tC : typeIn K (.ref fI) = some (.type "function")
  kC : keepIn K (.ref C) = true
  exC : subIn K (.ref C) (.type "BaseException") = some true
  tyC : typeIn K (.ref C) = some (.type "type")
  hdC : hasDictIn K C = true
  te : exmOne K (.ref C) (.ref C) = some true
  fn : ∃ (oc : Value) (od : Option Addr) (doc pm : Value) (an : Option Addr) (cdv ct : Value) (osl : Array (Option Value)) (p1 p2 q1 q2 q3 q4 : Pos),
    K.lookup fI = some ⟨oc, od, .func (fnOf "__init__" qn (iA_nowN p1 p2) (iB_nowN q1 q2 q3 q4) iS_nowN .none .none doc pm an cdv ct), osl⟩ ∧ codeIn K cdv qn = true
structure InitEnd_nowN (h h' : Heap) (x C dx t1 : Addr) (v : Value) : Prop where
  keep : ∀ b o, b ≠ x → h.get? b = some o → h'.get? b = some o
  obj : h'.get? x = some { cls := .ref C, dict := some dx, data := .fields #[.ref t1, .none, .none, .none, .bool false, .none] }
  dbig : h.objs.size ≤ dx
  dne : dx ≠ x
  ns : h'.Ns1 dx (fun y => if y = "now" then some v else none)
structure Made_nowN (h h' : Heap) (e C d : Addr) (v : Value) : Prop where
  keep : ∀ b o, h.get? b = some o → h'.get? b = some o
  new : h.objs.size ≤ e
  obj : ∃ oe vs, h'.get? e = some oe ∧ oe.cls = .ref C ∧ oe.dict = some d ∧ oe.data = .fields vs ∧ vs[1]? = some .none ∧ vs[2]? = some .none
  dbig : h.objs.size ≤ d
  dne : d ≠ e
  ns : h'.Ns1 d (fun y => if y = "now" then some v else none)
section
variable {prog : Program} {w : World} {A : Around} {E : Value → Shared → Prop} {R : Result → Shared → Prop} {s : Shared} {K : Frag} {mg : Str → Option Value} {C G fI : Addr} {cn qn : Str}
end
end EgX
end PySem
namespace L2N
open PySem PySem.Spec PyProof.Rows L2
section
variable {X : Cx} {C G fI : Addr} {cn qn : Str}
end
end L2N

/-! EgLowN_series -/
set_option Elab.async false
set_option linter.all false
set_option maxRecDepth 100000
set_option maxHeartbeats 2000000
/-! ### an own error with the field series -/
namespace PySem
namespace EgX
open PySem.W PySem.Calls PyProof.Rows PySem.HandSPX
def iA_seriesN (p1 p2 : Pos) : Arguments :=
  { posonlyargs := [], args := [{ arg := "self", annotation := none, pos := p1 }, { arg := "series", annotation := none, pos := p2 }],
    vararg := none, kwonlyargs := [], kw_defaults := [], kwarg := none, defaults := [] }
def iB_seriesN (q1 q2 q3 q4 : Pos) : List Stmt := [.Assign [.Attribute (.Name "self" q1) "series" q2] (.Name "series" q3) q4]
def iS_seriesN : Scope :=
  { kind := .function, names := [(PySem.Str.ofString "self", .local), (PySem.Str.ofString "series", .local)], isGenerator := false, isCoroutine := false, more := [] }
/-- the class cn at C under G, its __init__ at fI -/
structure Low_seriesN (K : Frag) (mg : Str → Option Value) (cn qn : Str) (C G fI : Addr) : Prop where
  gC : mg cn = some (.ref C)
  cls : ∃ nm q N bs sn sub ab col dd k0 k1 k2 k3 k5, K.lookup C = some (excClassObj nm q C N bs (.ref G :: PySem.ESX.exTail) true sn sub ab col dd k0 k1 k2 k3 k5 "Exception.__new__")
  sa : findIn K (.ref C) "__setattr__" = some (some (.builtin "object.__setattr__"))
  ga : findIn K (.ref C) "__getattribute__" = some (some (.builtin "BaseException.__getattribute__"))
  gg : findIn K (.ref C) "__getattr__" = some none
  noN : findIn K (.ref C) "series" = some none
  iC : findIn K (.ref C) "__init__" = some (some (.ref fI))
  tC : typeIn K (.ref fI) = some (.type "function")
  kC : keepIn K (.ref C) = true
  exC : subIn K (.ref C) (.type "BaseException") = some true
  tyC : typeIn K (.ref C) = some (.type "type")
  hdC : hasDictIn K C = true
  te : exmOne K (.ref C) (.ref C) = some true
  fn : ∃ (oc : Value) (od : Option Addr) (doc pm : Value) (an : Option Addr) (cdv ct : Value) (osl : Array (Option Value)) (p1 p2 q1 q2 q3 q4 : Pos),
    K.lookup fI = some ⟨oc, od, .func (fnOf "__init__" qn (iA_seriesN p1 p2) (iB_seriesN q1 q2 q3 q4) iS_seriesN .none .none doc pm an cdv ct), osl⟩ ∧ codeIn K cdv qn = true
structure InitEnd_seriesN (h h' : Heap) (x C dx t1 : Addr) (v : Value) : Prop where
  keep : ∀ b o, b ≠ x → h.get? b = some o → h'.get? b = some o
  obj : h'.get? x = some { cls := .ref C, dict := some dx, data := .fields #[.ref t1, .none, .none, .none, .bool false, .none] }
  dbig : h.objs.size ≤ dx
  dne : dx ≠ x
  ns : h'.Ns1 dx (fun y => if y = "series" then some v else none)
structure Made_seriesN (h h' : Heap) (e C d : Addr) (v : Value) : Prop where
  keep : ∀ b o, h.get? b = some o → h'.get? b = some o
  new : h.objs.size ≤ e
  obj : ∃ oe vs, h'.get? e = some oe ∧ oe.cls = .ref C ∧ oe.dict = some d ∧ oe.data = .fields vs ∧ vs[1]? = some .none ∧ vs[2]? = some .none
  dbig : h.objs.size ≤ d
  dne : d ≠ e
  ns : h'.Ns1 d (fun y => if y = "series" then some v else none)
section
variable {prog : Program} {w : World} {A : Around} {E : Value → Shared → Prop} {R : Result → Shared → Prop} {s : Shared} {K : Frag} {mg : Str → Option Value} {C G fI : Addr} {cn qn : Str}
end
end EgX
end PySem
namespace L2N
open PySem PySem.Spec PyProof.Rows L2
section
variable {X : Cx} {C G fI : Addr} {cn qn : Str}
end
end L2N

/-! EgLowN_rules -/
set_option Elab.async false
set_option linter.all false
set_option maxRecDepth 100000
set_option maxHeartbeats 2000000
/-! ### an own error with the field rules -/
namespace PySem
namespace EgX
open PySem.W PySem.Calls PyProof.Rows PySem.HandSPX
def iA_rulesN (p1 p2 : Pos) : Arguments :=
  { posonlyargs := [], args := [{ arg := "self", annotation := none, pos := p1 }, { arg := "rules", annotation := none, pos := p2 }],
    vararg := none, kwonlyargs := [], kw_defaults := [], kwarg := none, defaults := [] }
def iB_rulesN (q1 q2 q3 q4 : Pos) : List Stmt := [.Assign [.Attribute (.Name "self" q1) "rules" q2] (.Name "rules" q3) q4]
def iS_rulesN : Scope :=
  { kind := .function, names := [(PySem.Str.ofString "self", .local), (PySem.Str.ofString "rules", .local)], isGenerator := false, isCoroutine := false, more := [] }
/-- the class cn at C under G, its __init__ at fI -/
structure Low_rulesN (K : Frag) (mg : Str → Option Value) (cn qn : Str) (C G fI : Addr) : Prop where
  gC : mg cn = some (.ref C)
  cls : ∃ nm q N bs sn sub ab col dd k0 k1 k2 k3 k5, K.lookup C = some (excClassObj nm q C N bs (.ref G :: PySem.ESX.exTail) true sn sub ab col dd k0 k1 k2 k3 k5 "Exception.__new__")
  sa : findIn K (.ref C) "__setattr__" = some (some (.builtin "object.__setattr__"))
  ga : findIn K (.ref C) "__getattribute__" = some (some (.builtin "BaseException.__getattribute__"))
  gg : findIn K (.ref C) "__getattr__" = some none
  noN : findIn K (.ref C) "rules" = some none
  iC : findIn K (.ref C) "__init__" = some (some (.ref fI))
  tC : typeIn K (.ref fI) = some (.type "function")
  kC : keepIn K (.ref C) = true
  exC : subIn K (.ref C) (.type "BaseException") = some true
  tyC : typeIn K (.ref C) = some (.type "type")
  hdC : hasDictIn K C = true
  te : exmOne K (.ref C) (.ref C) = some true
  fn : ∃ (oc : Value) (od : Option Addr) (doc pm : Value) (an : Option Addr) (cdv ct : Value) (osl : Array (Option Value)) (p1 p2 q1 q2 q3 q4 : Pos),
    K.lookup fI = some ⟨oc, od, .func (fnOf "__init__" qn (iA_rulesN p1 p2) (iB_rulesN q1 q2 q3 q4) iS_rulesN .none .none doc pm an cdv ct), osl⟩ ∧ codeIn K cdv qn = true
structure InitEnd_rulesN (h h' : Heap) (x C dx t1 : Addr) (v : Value) : Prop where
  keep : ∀ b o, b ≠ x → h.get? b = some o → h'.get? b = some o
  obj : h'.get? x = some { cls := .ref C, dict := some dx, data := .fields #[.ref t1, .none, .none, .none, .bool false, .none] }
  dbig : h.objs.size ≤ dx
  dne : dx ≠ x
  ns : h'.Ns1 dx (fun y => if y = "rules" then some v else none)
structure Made_rulesN (h h' : Heap) (e C d : Addr) (v : Value) : Prop where
  keep : ∀ b o, h.get? b = some o → h'.get? b = some o
  new : h.objs.size ≤ e
  obj : ∃ oe vs, h'.get? e = some oe ∧ oe.cls = .ref C ∧ oe.dict = some d ∧ oe.data = .fields vs ∧ vs[1]? = some .none ∧ vs[2]? = some .none
  dbig : h.objs.size ≤ d
  dne : d ≠ e
  ns : h'.Ns1 d (fun y => if y = "rules" then some v else none)
section
variable {prog : Program} {w : World} {A : Around} {E : Value → Shared → Prop} {R : Result → Shared → Prop} {s : Shared} {K : Frag} {mg : Str → Option Value} {C G fI : Addr} {cn qn : Str}
end
end EgX
end PySem
namespace L2N
open PySem PySem.Spec PyProof.Rows L2
section
variable {X : Cx} {C G fI : Addr} {cn qn : Str}
end
end L2N

/-! MiErr -/
set_option Elab.async false
set_option linter.all false
set_option maxRecDepth 100000
set_option maxHeartbeats 2000000
/-! ## errors with other fields -/
namespace Mi
open PySem L2 Eg L2N
section
variable {c : Cn} {W : WX} {te ta tb tc : TE} {t : TT} {a b e : E} {KF : PySem.W.Frag} {ts tu tw : TS}
end
end Mi

/-! MiTxt -/
set_option Elab.async false
set_option linter.all false
set_option maxRecDepth 100000
set_option maxHeartbeats 2000000
/-! ## texts: slices, repeated, not in -/
namespace Mi
open PySem L2 Eg
section
variable {c : Cn} {W : WX} {te ta tb tc : TE} {t : TT} {a b e : E} {KF : PySem.W.Frag} {ts tu tw : TS}
/-- z[lo:hi] of a text -/
def xSlS (a : E) (lo hi : List SD → M (Option Int)) : E := fun δ => (a δ).bind fun x => (lo δ).bind fun l => (hi δ).bind fun h => M.of (match x with
  | .str z => if z.length ≤ 10000000 then some (.str (L2.cutS z l h)) else none
  | _ => none)
/-- text * n -/
def fMulS : PyData → PyData → Option PyData
  | .str z, .int n => if 0 ≤ n ∧ n ≤ 1000 ∧ z.length ≤ 10000 then some (.str (Txt.mul z n)) else none
  | _, _ => none
end
end Mi
namespace L2
open PySem PyProof.Rows
end L2

/-! MiUse -/
set_option Elab.async false
set_option linter.all false
set_option maxRecDepth 100000
set_option maxHeartbeats 1000000
/-! ## reckoning with cells of all kinds, and with values of all kinds -/
namespace Mi
open PySem L2 Eg
section
variable {α : Type} {φ : Sg} {K : α → Sg → Prop} {X : XC} {p : Addr}
theorem W_get {k : Cell → M α} {c : Cell} (h : φ p = some c) : Wp (M.get p k) φ K X = Wp (k c) φ K X := by
  rw [Wp_eq, Wp_eq]
  apply propext
  constructor
  · rintro ⟨c', e, h2⟩
    rw [h] at e
    cases e
    exact h2
  · exact fun h2 => ⟨_, h, h2⟩
theorem w_getI {k : Addr → List (Str × PyData) → M α} {C : Addr} {fs : List (Str × PyData)} (h : φ p = some (.ins C fs)) : Wp (getI p k) φ K X = Wp (k C fs) φ K X := by
  unfold getI
  rw [W_get h]
theorem w_seeI {k : List (Str × PyData) → M α} {C : Addr} {fs : List (Str × PyData)} (h : φ p = some (.ins C fs)) : Wp (seeI C (ptrD p) k) φ K X = Wp (k fs) φ K X := by
  unfold seeI
  rw [ptrOf_ptr]
  dsimp only
  rw [w_getI h, if_pos rfl]
variable {Os : List Addr} {k : Lk → M α}
theorem look_data {x : PyData} (h : isPtr x = false) : look Os x k = k (.dat x) := by
  unfold look
  rw [ptr_none h]
  dsimp only
  rw [if_neg (by rw [h]; decide)]
theorem look_sees {x y : PyData} (h : Sees φ x y) : Wp (look Os x k) φ K X = Wp (k (.dat y)) φ K X := by
  cases h with
  | d hf => rw [look_data (flat_ptr hf)]
  | p hp =>
    unfold look
    rw [ptrOf_ptr]
    dsimp only
    rw [W_get hp]
theorem look_ins {C : Addr} {fs : List (Str × PyData)} (h : φ p = some (.ins C fs)) (hC : Os.contains C = true) : Wp (look Os (ptrD p) k) φ K X = Wp (k (.ins C fs)) φ K X := by
  unfold look
  rw [ptrOf_ptr]
  dsimp only
  rw [W_get h]
  dsimp only
  rw [if_pos hC]
theorem lo_int {i : Int} : look Os (.int i) k = k (.dat (.int i)) := rfl
theorem lo_bool {i : Bool} : look Os (.bool i) k = k (.dat (.bool i)) := rfl
theorem lo_none : look Os .none k = k (.dat .none) := rfl
theorem lo_str {i : Str} : look Os (.str i) k = k (.dat (.str i)) := rfl
theorem lo_list {i : List PyData} : look Os (.list i) k = k (.dat (.list i)) := rfl
theorem lo_tup {i : List PyData} : look Os (.tuple i) k = k (.dat (.tuple i)) := rfl
theorem lo_d0 : look Os (.dict []) k = k (.dat (.dict [])) := rfl
end
theorem setT_l2 {i j : Nat} {a b : PyData} {δ : List SD} : setT (.l [i, j]) (.list [a, b]) δ = some ((δ.set i (.d a)).set j (.d b)) := rfl
theorem setT_l3 {i j k : Nat} {a b c : PyData} {δ : List SD} : setT (.l [i, j, k]) (.list [a, b, c]) δ = some (((δ.set i (.d a)).set j (.d b)).set k (.d c)) := rfl
theorem setT_t2 {i j : Nat} {a b : PyData} {δ : List SD} : setT (.t [i, j]) (.tuple [a, b]) δ = some ((δ.set i (.d a)).set j (.d b)) := rfl
theorem setT_t3 {i j k : Nat} {a b c : PyData} {δ : List SD} : setT (.t [i, j, k]) (.tuple [a, b, c]) δ = some (((δ.set i (.d a)).set j (.d b)).set k (.d c)) := rfl
theorem isL_dat {q : PyData → Bool} {y : PyData} : isL q (.dat y) = q y := rfl
theorem isL_ins {q : PyData → Bool} {C : Addr} {fs : List (Str × PyData)} : isL q (.ins C fs) = false := rfl
theorem isC_dat {C : Addr} {y : PyData} : isC C (.dat y) = false := rfl
theorem key_i {i : Int} : keyOf (.int i) = some (.inl i) := rfl
theorem key_s {i : Str} : keyOf (.str i) = some (.inr i) := rfl
theorem signs_s {s : Str} : signsD (.str s) = if s.cps.size ≤ 1000000 then some (s.cps.toList.map fun c => .str ⟨#[c]⟩) else none := rfl
theorem fInS_s {neg : Bool} {i j : Str} : fInS neg (.str i) (.str j) = some (.bool (if neg then (Builtin.Str.occurrences j i 0 j.length 1).isEmpty else !(Builtin.Str.occurrences j i 0 j.length 1).isEmpty)) := rfl
theorem fMulS_s {z : Str} {n : Int} : fMulS (.str z) (.int n) = if 0 ≤ n ∧ n ≤ 1000 ∧ z.length ≤ 10000 then some (.str (Txt.mul z n)) else none := rfl
theorem fIxS_s {z : Str} {i : Int} : fIxS (.str z) (.int i) = if 0 ≤ i ∧ i < 1000000 then (z.cps[i.toNat]?).map fun c => .str ⟨#[c]⟩ else none := rfl
theorem fAdd_s {i j : Str} : fAdd (.str i) (.str j) = if i.length + j.length ≤ 10000000 then some (.str (i ++ j)) else none := rfl
end Mi

/-! MiEqv -/
set_option Elab.async false
set_option linter.all false
set_option maxRecDepth 100000
set_option maxHeartbeats 1000000
/-! ## data that is compared -/
namespace Mi
open PySem L2 Eg
theorem lay_all : ∀ {xs : List PyData}, PyData.canLayAll0 xs = true ↔ ∀ x, x ∈ xs → PyData.canLay0 x = true
  | [] => by simp [PyData.canLayAll0]
  | x :: xs => by
    simp only [PyData.canLayAll0, Bool.and_eq_true, lay_all (xs := xs), List.mem_cons, forall_eq_or_imp]
theorem depth_le : ∀ {xs : List PyData} {n : Nat}, (∀ x, x ∈ xs → x.depth ≤ n) → PyData.depthAll xs ≤ n
  | [], n, _ => by simp [PyData.depthAll]
  | x :: xs, n, h => by
    have a := h x List.mem_cons_self
    have b := depth_le (xs := xs) fun y hy => h y (List.mem_cons_of_mem _ hy)
    simp only [PyData.depthAll]
    omega
/-- no dict in it, k deep at most -/
structure Pl (d : PyData) (k : Nat) : Prop where
  ly : PyData.canLay0 d = true
  dp : d.depth ≤ k
theorem Pl.mono {d : PyData} {k m : Nat} (h : Pl d k) (h1 : k ≤ m) : Pl d m := ⟨h.ly, Nat.le_trans h.dp h1⟩
theorem pl_none {k : Nat} : Pl .none k := ⟨by simp [PyData.canLay0], by simp [PyData.depth]⟩
theorem pl_int {i : Int} {k : Nat} : Pl (.int i) k := ⟨by simp [PyData.canLay0], by simp [PyData.depth]⟩
theorem pl_list {xs : List PyData} {k : Nat} (h : ∀ x, x ∈ xs → Pl x k) : Pl (.list xs) (k + 1) :=
  ⟨by simp only [PyData.canLay0]; exact lay_all.mpr fun x hx => (h x hx).ly, by have := depth_le fun x hx => (h x hx).dp; simp only [PyData.depth]; omega⟩
theorem pl_tuple {xs : List PyData} {k : Nat} (h : ∀ x, x ∈ xs → Pl x k) : Pl (.tuple xs) (k + 1) :=
  ⟨by simp only [PyData.canLay0]; exact lay_all.mpr fun x hx => (h x hx).ly, by have := depth_le fun x hx => (h x hx).dp; simp only [PyData.depth]; omega⟩
theorem Pl.ok {d : PyData} {k : Nat} (h : Pl d k) (hk : k ≤ 64) : eqOk d = true := by
  unfold eqOk SeqAt.shaped
  rw [h.ly, decide_eq_true (Nat.le_trans h.dp hk), PyData.hasDict_of_canLay _ h.ly]
  rfl
theorem Pl.refl {d : PyData} {k : Nat} (h : Pl d k) : PyData.eqv d d = true := SeqAt.eqv_refl d h.ly
theorem fEq_l {xs ys : List PyData} (h1 : eqOk (.list xs) = true) (h2 : eqOk (.list ys) = true) : fEq (.list xs) (.list ys) = some (.bool (PyData.eqvAll xs ys)) := by
  show (if eqOk (.list xs) = true ∧ eqOk (.list ys) = true then some (PyData.bool (PyData.eqv (.list xs) (.list ys))) else none) = _
  rw [if_pos ⟨h1, h2⟩, PyData.eqv]
end Mi

/-! MiPair -/
set_option Elab.async false
set_option linter.all false
set_option maxRecDepth 100000
set_option maxHeartbeats 2000000
/-! ## dict(..) as a new dict; new lists out of methods, and of either of two; tuple(..) through pointers -/
namespace Mi
open PySem L2 Eg
theorem bn_tt : (true != true) = false := rfl
theorem bn_tf : (true != false) = true := rfl
theorem bn_ft : (false != true) = true := rfl
theorem bn_ff : (false != false) = false := rfl
/-- pairs as entries -/
def pairsD : List PyData → Option (List (Key × PyData))
  | [] => some []
  | .tuple [k, v] :: xs => match keyOf k with
    | some kk => (pairsD xs).map fun es => (kk, v) :: es
    | none => none
  | _ => none
def mergeDD (es more : List (Key × PyData)) : List (Key × PyData) := more.foldl (fun acc kv => putD acc kv.1 kv.2) es
/-- dict(x): of a list of pairs, of another dict -/
def xDictN (a : E) : E := fun δ => (a δ).bind fun x => match ptrOf x with
  | some p => .get p fun c => match c with
    | .dct es => .new (.dct es) fun q => .ret (ptrD q)
    | .lst xs => (M.of (pairsD xs)).bind fun es => .new (.dct (mergeDD [] es)) fun q => .ret (ptrD q)
    | _ => .bad
  | none => match x with
    | .list xs => (M.of (pairsD xs)).bind fun es => .new (.dct (mergeDD [] es)) fun q => .ret (ptrD q)
    | _ => .bad
section
variable {c : Cn} {W : WX} {te ta tb tc : TE} {t : TT} {a b e o : E} {KF : PySem.W.Frag} {ts tu tw : TS} {m1 : List SD → M Bool} {C : Addr} {nm : Str}
/-- what a method tells, a new list -/
def fMeth (C : Addr) (nm : Str) (m : List AV → M Rt) (o : E) (r : As) : List SD → M (List PyData) := fun δ => (o δ).bind fun x => seeI C x fun fs => if (fs.lookup nm).isNone = true then (r δ).bind fun as => (m (.d x :: as)).bind fun z => match z with
    | .f xs => .ret xs
    | .d _ => .bad
  else .bad
def fMeth0 (C : Addr) (nm : Str) (m : List AV → M Rt) (o : E) (r : As) : List SD → M (List PyData) := fun δ => (o δ).bind fun x => seeI C x fun fs => if (fs.lookup nm).isNone = true then (r δ).bind fun as => (m (.d x :: as)).nox.bind fun z => match z with
    | .f xs => .ret xs
    | .d _ => .bad
  else .bad
def fMethK (C : Addr) (nm : Str) (n : Nat) (ix : List Nat) (m : List AV → M Rt) (o : E) (r : As) : List SD → M (List PyData) := fun δ => (o δ).bind fun x => seeI C x fun fs => if (fs.lookup nm).isNone = true then (r δ).bind fun as => if as.length = n then (m (perm1 ix [.d x] as)).bind fun z => match z with
    | .f xs => .ret xs
    | .d _ => .bad
  else .bad else .bad
/-- either of two new lists -/
def fIf (t : B) (f g : List SD → M (List PyData)) : List SD → M (List PyData) := fun δ => (t δ).bind fun c => if c = true then f δ else g δ
/-- tuple(x), x perhaps a list that changes -/
def xTupD (a : E) : E := fun δ => (a δ).bind fun x => seen x fun y => M.of ((itemsOf y).map .tuple)
theorem me_tupD (ha : ME c W ta a) : ME c W (tCB (rTupleU KF) (tCons ta tNil)) (xTupD a) := fun τ0 φ τ δ G H σ Q w l s k => by
  refine ha τ0 φ τ δ G H σ _ w l s (M.wp_mono (fun x φ1 k1 v τ1 G1 H1 w1 g1 r1 => ?_) (fun C fs φ1 k1 => k1) _ _ ((M.wp_bind _ _).mp k))
  unfold seen at k1
  cases ep : ptrOf x with
  | some p =>
    rw [ep] at k1
    have hv := Rp.ptr_of r1 ep
    subst hv
    obtain ⟨xs, hx, k2⟩ := wp_getL k1
    obtain ⟨_, vs, hh, rl⟩ := w1.cell p _ (g1.le _ _ hx)
    obtain ⟨z, hz, k3⟩ := wp_of k2
    cases (show some (PyData.tuple xs) = some z from hz)
    exact ⟨p, vs, rfl, .inl ⟨SqL.of hh, fun q hq => k3 _ τ1 _ _ (w1.laid hq) (g1.trans (Go.laid w1 g1.le hq)) (.tup upd_same (RpL.mono (Ex.new (w1.gn hq)) _ _ rl))⟩⟩
  | none =>
    rw [ep] at k1
    dsimp only at k1
    cases hp : isPtr x with
    | true => rw [if_pos hp] at k1; exact k1.elim
    | false =>
      rw [if_neg (by rw [hp]; decide)] at k1
      obtain ⟨z, hz, k2⟩ := wp_of k1
      cases r1 with
      | @lst a xs ds' h1 h2 =>
        cases (show some (PyData.tuple ds') = some z from hz)
        exact ⟨a, xs, rfl, .inl ⟨SqL.of (w1.ex _ _ h1), fun q hq => k2 _ τ1 _ _ (w1.laid hq) (g1.trans (Go.laid w1 g1.le hq)) (.tup upd_same (RpL.mono (Ex.new (w1.gn hq)) _ _ h2))⟩⟩
      | @tup a xs ds' h1 h2 =>
        cases (show some (PyData.tuple ds') = some z from hz)
        exact ⟨a, xs, rfl, .inr ⟨SqT.of (w1.ex _ _ h1), k2 _ τ1 G1 H1 w1 g1 (.tup h1 h2)⟩⟩
      | _ => cases hz
end
end Mi
namespace L2
open PySem
end L2

/-! MiExtU -/
set_option Elab.async false
set_option linter.all false
set_option maxRecDepth 100000
set_option maxHeartbeats 2000000
/-! ## e.extend(x), x a list or a tuple -/
namespace PySem
open PySem.Builtin PySem.AutoSeq1
end PySem
namespace L2
open PySem PyProof.Rows
end L2
namespace Mi
open PySem L2 Eg
def sExtU (a e : E) : S := fun δ => catch_ (a δ) δ fun y => match ptrOf y with
  | some p => getL p fun _ => catch_ (e δ) δ fun x => match itemsOf x with
    | some ys => getL p fun xs => if xs.length + ys.length ≤ 10000000 then .put p (.lst (xs ++ ys)) (.ret (.nx δ)) else .bad
    | none => .bad
  | none => .bad
section
variable {c : Cn} {W : WX} {te ta tb tc : TE} {t : TT} {a b e o : E} {KF : PySem.W.Frag} {ts tu tw : TS}
end
end Mi

/-! MiDt -/
set_option Elab.async false
set_option linter.all false
set_option maxRecDepth 100000
set_option maxHeartbeats 1000000
/-! ## what is shown, with pointers in it -/
namespace Mi
open PySem L2 Eg
def DT (φ : Sg) (x y : PyData) : Prop := ∀ (Q : PyData → Sg → Prop) (X : XC), Q y φ → Wp (deep x) φ Q X
theorem flatL_app : ∀ xs ys : List PyData, flatL (xs ++ ys) = (flatL xs && flatL ys)
  | [], ys => by show flatL ys = (true && flatL ys); rw [Bool.true_and]
  | x :: xs, ys => by show (flat x && flatL (xs ++ ys)) = ((flat x && flatL xs) && flatL ys); rw [flatL_app xs ys, Bool.and_assoc]
theorem showA_app : ∀ xs ys : List PyData, PyData.showableAll (xs ++ ys) = (PyData.showableAll xs && PyData.showableAll ys)
  | [], ys => by simp [PyData.showableAll]
  | x :: xs, ys => by simp only [List.cons_append, PyData.showableAll, showA_app xs ys, Bool.and_assoc]
theorem leavA_app (n : Nat) : ∀ xs ys : List PyData, PyData.leavesShortAll n (xs ++ ys) = (PyData.leavesShortAll n xs && PyData.leavesShortAll n ys)
  | [], ys => by simp [PyData.leavesShortAll]
  | x :: xs, ys => by simp only [List.cons_append, PyData.leavesShortAll, leavA_app n xs ys, Bool.and_assoc]
theorem bulkA_app : ∀ xs ys : List PyData, PyData.bulkAll (xs ++ ys) = PyData.bulkAll xs + PyData.bulkAll ys
  | [], ys => by simp [PyData.bulkAll]
  | x :: xs, ys => by simp only [List.cons_append, PyData.bulkAll, bulkA_app xs ys]; omega
theorem sh_app {xs ys : List PyData} {k m n : Nat} (h1 : Sh (.list xs) k m) (h2 : Sh (.list ys) k n) : Sh (.list (xs ++ ys)) k (m + n) := by
  have a1 := h1.fl; have a2 := h2.fl
  have b1 := h1.sh; have b2 := h2.sh
  have c1 := h1.ls; have c2 := h2.ls
  have d1 := h1.dp; have d2 := h2.dp
  have e1 := h1.bk; have e2 := h2.bk
  unfold flat at a1 a2
  simp only [PyData.showable] at b1 b2
  simp only [PyData.leavesShort] at c1 c2
  simp only [PyData.depth] at d1 d2
  simp only [PyData.bulk] at e1 e2
  refine ⟨by unfold flat; rw [flatL_app, a1, a2]; rfl, by simp only [PyData.showable, showA_app, b1, b2, Bool.and_self], by simp only [PyData.leavesShort, leavA_app, c1, c2, Bool.and_self], ?_, by simp only [PyData.bulk, bulkA_app]; omega⟩
  have hd : ∀ xs ys : List PyData, PyData.depthAll (xs ++ ys) ≤ max (PyData.depthAll xs) (PyData.depthAll ys) := fun xs ys => by
    induction xs with
    | nil => simp [PyData.depthAll]
    | cons x xs ih => simp only [List.cons_append, PyData.depthAll]; omega
  have := hd xs ys
  simp only [PyData.depth]
  omega
theorem sh_snoc {xs : List PyData} {y : PyData} {k m n : Nat} (h1 : Sh (.list xs) (k + 1) m) (h2 : Sh y k n) : Sh (.list (xs ++ [y])) (k + 1) (m + (n + 1)) :=
  sh_app h1 ((sh_list (xs := [y]) (k := k) (m := n) (n := 1) (fun z hz => by rw [List.mem_singleton.mp hz]; exact h2) (Nat.le_refl 1)).mono (Nat.le_refl _) (by omega))
section
variable {φ : Sg}
theorem dt_ptr {p : Addr} {xs : List PyData} (hp : φ p = some (.lst xs)) (hf : flatL xs = true) : DT φ (ptrD p) (.list xs) := fun Q X q => by rw [deep_at hp hf]; exact q
theorem w_reprT {x y : PyData} {k : PyData → Sg → Prop} {X : XC} (h : DT φ x y) (hs : Sh y 50 30000) (hk : k (.str y.shown) φ) : Wp (deep x) φ (fun a φ1 => Wp (shows a) φ1 k X) X := by
  refine h _ _ ?_
  rw [shows_sh hs, W_ret]
  exact hk
end
end Mi

/-! EgEntsD -/
set_option Elab.async false
set_option linter.all false
set_option maxRecDepth 100000
set_option maxHeartbeats 2000000
/-! ## dict([(k, v)]), k a tuple -/
namespace L2
open PySem PySem.Spec PyProof.Rows
def nkV : V → Option NestedKey
  | .non => some .none
  | .bl b => some (.num (if b = true then 1 else 0))
  | .int i => some (.num i)
  | .str x => some (.text x)
  | _ => none
inductive NkL : List V → List NestedKey → Prop
  | nil : NkL [] []
  | cons {v : V} {k : NestedKey} {vs : List V} {ks : List NestedKey} : nkV v = some k → NkL vs ks → NkL (v :: vs) (k :: ks)
theorem nested_of {h : Heap} {v : V} {u : Value} {k : NestedKey} (r : RelV v u) (e : nkV v = some k) : NestedIs h k u ∧ k.depth ≤ 1 := by
  cases v with
  | non => cases e; have r : u = .none := r; subst r; exact ⟨.none, by simp [NestedKey.depth]⟩
  | bl b => cases e; have r : u = .bool b := r; subst r; exact ⟨.bool rfl, by simp [NestedKey.depth]⟩
  | int i => cases e; obtain ⟨t, rfl⟩ := (show ∃ t, u = .int i t from r); exact ⟨.int _ _, by simp [NestedKey.depth]⟩
  | str x => cases e; obtain ⟨t, rfl⟩ := (show ∃ t, u = .str x t from r); exact ⟨.text _ _, by simp [NestedKey.depth]⟩
  | _ => cases e
theorem nested_all {h : Heap} : ∀ {vs : List V} {us : List Value} {ks : List NestedKey}, Vals vs us → NkL vs ks → NestedAll h ks us ∧ NestedKey.depthAll ks ≤ 1
  | _, _, _, .nil, .nil => ⟨.nil, by simp [NestedKey.depthAll]⟩
  | _, _, _, .cons r t, .cons e n => by
    obtain ⟨a, b⟩ := nested_of (h := h) r e
    obtain ⟨c, d⟩ := nested_all (h := h) t n
    exact ⟨.cons a c, by simp only [NestedKey.depthAll]; omega⟩
def rDictE (K : PySem.W.Frag) : List V → Hp → VK → Prop := fun xs H Q => ∃ (a p kp : Addr) (zs : List V) (ns : List NestedKey) (v : V), xs = [.ref a] ∧ SqL K H a [.ref p] ∧ SqT K H p [.ref kp, v] ∧ SqT K H kp zs ∧ NkL zs ns ∧
  ∀ q, H q = none → Q (.ref q) (upd H q (.ext (EntsOf q [.ref kp] [v])))
theorem call_dictE {X : Cx} (hcalm : X.calm = true) (hu : X.A.units + 64 < cLine) : CallR X (.type "dict") (rDictE X.K) := by
  intro pins s σ H xs us Q I r q
  obtain ⟨a, p, kp, zs, ns, v, ex, hq, hp, hk, hn, q⟩ := q
  subst ex
  obtain ⟨u, eu, rx⟩ := vals1 r
  subst eu
  cases rx
  obtain ⟨its, rv, pl, hz⟩ := I.list hq
  have ei := refs_at (ps := [p]) rv
  subst ei
  obtain ⟨its2, rp, pt, _⟩ := I.tuple hp
  obtain ⟨its3, rk, kt, _⟩ := I.tuple hk
  cases rp with
  | cons r1 rp =>
    cases r1
    obtain ⟨w1, e1, rw⟩ := vals1 rp
    subst e1
    obtain ⟨o1, g1, c1, n1, d1⟩ := pt
    obtain ⟨o3, g3, c3, n3, d3⟩ := kt
    obtain ⟨na, nd⟩ := nested_all (h := s.heap) rk hn
    have nk : ∀ h' : Heap, (∀ b o, s.heap.get? b = some o → h'.get? b = some o) → (nestedKind X.prog X.w).is h' (.tup ns) kp := fun h' hk => ⟨.tup (hk _ _ g3) c3 d3 (nested_all (h := h') rk hn).1, by
      show NestedKey.depth (.tup ns) ≤ 8
      simp only [NestedKey.depth]; omega⟩
    have P := PairArg.list (prog := X.prog) (w := X.w) a #[.ref p] (fun _ => p) [(.ref kp, w1)]
    have hlen : ([(NestedKey.tup ns, kp, w1)] : List (NestedKey × Addr × Value)).length = 1 := rfl
    refine call_dict_pairsH (knd := nestedKind X.prog X.w) (ps := [(.tup ns, kp, w1)]) P (I.ok.hd hcalm) (by
      show X.A.in1.in1.units + 8 < cLine
      have e1 : X.A.in1.in1.units ≤ X.A.units + 2 := by simp [Around.in1, Around.units]
      omega) ⟨pl, rfl, fun j k v e => ?_⟩ ⟨rfl, fun i key v hr => ?_⟩ (fun h' hk x hx => ?_) (show 1 ≤ sizeLine by decide) fun h' tk hd hk => ?_
    · cases j with
      | zero => cases e; exact ⟨rfl, .inl ⟨o1, g1, c1, n1, d1⟩⟩
      | succ j => cases e
    · cases i with
      | zero => cases hr; exact ⟨_, _, rfl, rfl⟩
      | succ i => cases hr
    · have : x = (NestedKey.tup ns, kp, w1) := List.mem_singleton.mp hx
      subst this
      exact nk h' fun b o e => hk b o (Nat.ne_of_lt (Heap.lt_size e)) (fun z => nomatch z) e
    · have hm : (s.heap.objs.size == sysModules) = false := beq_eq_false_iff_ne.mpr (Nat.ne_of_gt I.big)
      have hk' : ∀ b o, s.heap.get? b = some o → h'.get? b = some o := fun b o e => hk b o (fun z => nomatch z) e
      have e1 : storedAllH [] [(NestedKey.tup ns, kp, w1)] = [(NestedKey.tup ns, kp, w1)] := by
        show storedH [] _ _ _ = _
        rw [storedH_new (by rfl)]
        rfl
      rw [e1] at hd
      obtain ⟨o, es, ep, go, ed, dd, el, _, _⟩ := hd
      have hsz : es.size ≤ sizeLine := by
        have := congrArg List.length el
        rw [Array.length_toList, List.length_map] at this
        rw [this]
        show 1 ≤ sizeLine
        decide
      refine ⟨.ref s.heap.objs.size, upd H s.heap.objs.size (.ext (EntsOf s.heap.objs.size [.ref kp] [v])), I.laid (t' := tk) hk' (Nat.le_refl _) (show ObjOk X.prog X.w _ _ _ (.ext _) from ⟨⟨hm, o, es, ep, [.ref kp], [w1], go, ed, dd, hsz, ?_, ?_, .cons rfl .nil, .cons rw .nil⟩, ⟨o, go⟩, ?_⟩), rfl, q _ (I.hok.fresh (Nat.le_refl _))⟩
      · rw [el]; rfl
      · rw [el]; rfl
      · rintro h1 h2 ⟨a1, o', es', ep', us', ws', g', r'⟩ hh
        exact ⟨a1, o', es', ep', us', ws', hh _ g', r'⟩
end L2
namespace Eg
open PySem L2 PyProof.Rows
section
variable {X : Cx}
/-- repr of a dict that has any keys -/
def rReprE : List V → Hp → VK → Prop := fun xs H Q => ∃ (p : Addr) (ks vs : List V) (es : List (PyData × PyData)), xs = [.ref p] ∧ H p = some (.ext (EntsOf p ks vs)) ∧ RpL H ks (es.map (·.1)) ∧ RpL H vs (es.map (·.2)) ∧ PyData.showableAll (es.map (·.1)) = true ∧ PyData.showableAll (es.map (·.2)) = true ∧
  (PyData.dict es).showable = true ∧ (PyData.dict es).depth ≤ 50 ∧ (PyData.dict es).shown.length ≤ sizeLine ∧ Q (.str (PyData.dict es).shown) H
theorem call_reprE (hs : ∃ o, X.base.get? sysModules = some o) (hgd : Gd X.A) (hu : X.A.units + 64 < cLine) : CallR X (.builtin "repr") rReprE := by
  intro pins s σ H xs us Q I r h
  obtain ⟨p, ks, vs, es, rfl, hp, rk, rv, sk, sv, h1, h2, h3, q⟩ := h
  obtain ⟨u, rfl, ru⟩ := vals1 r
  cases ru
  have ok : ObjOk X.prog X.w H s.heap p (.ext (EntsOf p ks vs)) := I.hok p _ hp
  obtain ⟨⟨hm, o, en, ep, us, ws, go, ed, dd, _, e1, e2, v1, v2⟩, _, _⟩ := ok
  obtain ⟨as, r1, n1⟩ := RpL.reads I hs _ _ us rk sk v1
  obtain ⟨bs, r2, n2⟩ := RpL.reads I hs _ _ ws rv sv v2
  have rd : Reads s.heap (.ref p) (.dict es) (p :: as ++ bs) := .dict go ed.1 dd (by rw [e1]; exact r1) (by rw [e2]; exact r2)
  have hn : sysModules ∉ (p :: as ++ bs) := by
    have : sysModules ≠ p := fun e => by rw [e] at hm; simp at hm
    simp only [List.cons_append, List.mem_cons, List.mem_append, not_or]
    exact ⟨this, n1, n2⟩
  have fin : ∀ h' u tk, (∀ b o, s.heap.get? b = some o → h'.get? b = some o) → EP X pins σ Q (.str (PyData.dict es).shown u) { s with heap := h', toks := tk } := fun h' u tk k => ⟨.str (PyData.dict es).shown, H, I.kept k, ⟨u, rfl⟩, q⟩
  exact repr_of_reads' rd h1 (fun _ => hn) hgd (by omega) (fun _ _ z => z) fin h3
end
end Eg

/-! MiEntsD -/
set_option Elab.async false
set_option linter.all false
set_option maxRecDepth 100000
set_option maxHeartbeats 2000000
/-! ## dicts with any keys, that never change -/
namespace Mi
open PySem L2 Eg
/-- data that may be in a key -/
def nkB : PyData → Bool
  | .none => true
  | .bool _ => true
  | .int _ => true
  | .str _ => true
  | _ => false
def xDictE (a : E) : E := fun δ => (a δ).bind fun x => match x with
  | .list [.tuple [.tuple zs, y]] => if zs.all nkB = true then .new (.opq [(.tuple zs, y)]) fun q => .ret (ptrD q) else .bad
  | _ => .bad
def deepE (x : PyData) : M PyData := match ptrOf x with
  | some p => .get p fun c => match c with
    | .opq es => if flatL (es.map (·.1)) = true ∧ flatL (es.map (·.2)) = true ∧ PyData.showableAll (es.map (·.1)) = true ∧ PyData.showableAll (es.map (·.2)) = true then .ret (.dict es) else .bad
    | _ => deep x
  | none => deep x
def xReprE (a : E) : E := fun δ => (a δ).bind fun x => (deepE x).bind shows
def rReprU : List V → Hp → VK → Prop := fun xs H Q => rRepr xs H Q ∨ rReprE xs H Q
theorem Wd.freshO {τ : Sg} {G H : Hp} {p : Addr} {ks vs : List V} {es : List (PyData × PyData)} (w : Wd τ G H) (hp : H p = none) (r : RpL G ks (es.map (·.1))) (r2 : RpL G vs (es.map (·.2))) : Wd (Mi.put τ p (.opq es)) G (upd H p (.ext (EntsOf p ks vs))) := ⟨fun a u e => by
    rw [upd_ne (ne_of_none (w.ex a u e) hp)]; exact w.ex a u e, fun q c e => by
    by_cases h : q = p
    · subst h; rw [put_same] at e; cases e; exact ⟨w.gn hp, ks, vs, upd_same, r, r2⟩
    · rw [put_ne h] at e; obtain ⟨g0, r⟩ := w.cell q c e; exact ⟨g0, r.same (upd_ne h)⟩⟩
theorem nk_rp {G : Hp} : ∀ {zs : List PyData} {vs : List V}, zs.all nkB = true → RpL G vs zs → ∃ ns, NkL vs ns
  | [], _, _, .nil => ⟨[], .nil⟩
  | z :: zs, _, h, .cons r t => by
    rw [List.all_cons, Bool.and_eq_true] at h
    obtain ⟨ns, hn⟩ := nk_rp h.2 t
    cases z with
    | none => cases r; exact ⟨_, .cons rfl hn⟩
    | bool b => cases r; exact ⟨_, .cons rfl hn⟩
    | int i => cases r; exact ⟨_, .cons rfl hn⟩
    | str x => cases r; exact ⟨_, .cons rfl hn⟩
    | _ => cases h.1
section
variable {c : Cn} {W : WX} {te ta tb tc : TE} {t : TT} {a b e o : E} {KF : PySem.W.Frag}
theorem me_dictE (ha : ME c W ta a) : ME c W (tCB (rDictE KF) (tCons ta tNil)) (xDictE a) := fun τ0 φ τ δ G H σ Q w l s k => by
  refine ha τ0 φ τ δ G H σ _ w l s (M.wp_mono (fun x φ1 k1 v τ1 G1 H1 w1 g1 r1 => ?_) (fun C fs φ1 k1 => k1) _ _ ((M.wp_bind _ _).mp k))
  split at k1
  · rename_i zs y
    by_cases hz : zs.all nkB = true
    case neg => rw [if_neg hz] at k1; exact k1.elim
    rw [if_pos hz] at k1
    cases r1 with
    | lst h1 h2 =>
      cases h2 with
      | cons r2 t2 =>
        cases t2
        cases r2 with
        | tup h3 h4 =>
          cases h4 with
          | cons r5 t5 =>
            cases t5 with
            | cons r6 t6 =>
              cases t6
              have r5' := r5
              cases r5 with
              | tup h7 h8 =>
                obtain ⟨ns, hn⟩ := nk_rp hz h8
                refine ⟨_, _, _, _, ns, _, rfl, SqL.of (w1.ex _ _ h1), SqT.of (w1.ex _ _ h3), SqT.of (w1.ex _ _ h7), hn, fun q hq => ?_⟩
                exact k1 q (g1.le.none (w1.tn hq)) _ (Mi.put τ1 q (.opq _)) G1 _ (w1.freshO (es := [(.tuple zs, y)]) hq (.cons r5' .nil) (.cons r6 .nil)) (g1.trans (Go.freshV w1 g1.le hq)) (.ptr q)
  · exact k1.elim
theorem me_reprE (ha : ME c W ta a) : ME c W (tCB rReprU (tCons ta tNil)) (xReprE a) := fun τ0 φ τ δ G H σ Q w l s k => by
  refine ha τ0 φ τ δ G H σ _ w l s (M.wp_mono (fun x φ1 k1 v τ1 G1 H1 w1 g1 r1 => ?_) (fun C fs φ1 k1 => k1) _ _ ((M.wp_bind _ _).mp k))
  have plain : ((deep x).bind shows).wp φ1 (fun d φ' => ∀ v τ' G' H', Wd τ' G' H' → Go φ τ G φ' τ' G' → Rp G' v d → Q v H') (Xq c W φ τ G σ) → rReprU [v] H1 Q := fun k1 => by
    obtain ⟨y, k2, r2⟩ := deep_rp w1 g1.le x _ ((M.wp_bind _ _).mp k1)
    unfold shows at k2
    by_cases hs : y.showable = true ∧ y.depth ≤ 50 ∧ y.shown.length ≤ sizeLine
    · rw [if_pos hs] at k2
      exact .inl ⟨v, y, rfl, r2 v r1, hs.1, hs.2.1, hs.2.2, k2 _ τ1 G1 H1 w1 g1 (.str _)⟩
    · rw [if_neg hs] at k2; exact k2.elim
  unfold deepE at k1
  cases ep : ptrOf x with
  | none => rw [ep] at k1; exact plain k1
  | some p =>
    rw [ep] at k1
    have hv := Rp.ptr_of r1 ep
    obtain ⟨cl, hc, k2⟩ := (M.wp_bind _ _).mp k1
    obtain ⟨_, hcell⟩ := w1.cell p _ (g1.le _ _ hc)
    cases cl with
    | opq es =>
      subst hv
      obtain ⟨ks, vs, hh, q1, q2⟩ := hcell
      dsimp only at k2
      by_cases hf : flatL (es.map (·.1)) = true ∧ flatL (es.map (·.2)) = true ∧ PyData.showableAll (es.map (·.1)) = true ∧ PyData.showableAll (es.map (·.2)) = true
      case neg => rw [if_neg hf] at k2; exact k2.elim
      rw [if_pos hf] at k2
      have k3 : (shows (.dict es)).wp φ1 (fun d φ' => ∀ v τ' G' H', Wd τ' G' H' → Go φ τ G φ' τ' G' → Rp G' v d → Q v H') (Xq c W φ τ G σ) := k2
      unfold shows at k3
      by_cases hs : (PyData.dict es).showable = true ∧ (PyData.dict es).depth ≤ 50 ∧ (PyData.dict es).shown.length ≤ sizeLine
      · rw [if_pos hs] at k3
        exact .inr ⟨p, ks, vs, es, rfl, hh, RpL.mono w1.ex _ _ q1, RpL.mono w1.ex _ _ q2, hf.2.2.1, hf.2.2.2, hs.1, hs.2.1, hs.2.2, k3 _ τ1 G1 H1 w1 g1 (.str _)⟩
      · rw [if_neg hs] at k3; exact k3.elim
    | _ => exact plain ((M.wp_bind _ _).mpr k2)
end
end Mi
namespace L2
open PySem Eg PyProof.Rows
theorem call_reprU {X : Cx} (hs : ∃ o, X.base.get? sysModules = some o) (hgd : Gd X.A) (hu : X.A.units + 64 < cLine) : CallR X (.builtin "repr") Mi.rReprU := CallR.or (r := Eg.rRepr) (Eg.call_reprD hs hgd hu) (Eg.call_reprE hs hgd hu)
end L2

/-! K18m -/
set_option Elab.async false
set_option linter.all false
set_option maxRecDepth 100000
set_option maxHeartbeats 2000000

namespace Mi.K18
open PySem L2 Eg Mi

def Ls : List String := ["InvalidRules", "NoGrain"]
noncomputable def m_is_list (o_Rules : Addr) : List AV → M Rt := mDef 1 1 ((sRet (xIsiO [o_Rules] (fun d => isLst d || isTup d) (xV 0))))
noncomputable def m_is_integer (o_Rules : Addr) : List AV → M Rt := mDef 1 1 ((sRet (xAnd (xIsiO [o_Rules] isInt (xV 0)) (xNot (xIsiO [o_Rules] isBool (xV 0))))))
noncomputable def m_is_count (o_Rules : Addr) : List AV → M Rt := mDef 1 1 ((sRet (xAnd (xCall0 (m_is_integer o_Rules) (aC (xV 0) aNil)) (x2 (fCmp fun i j => decide (j ≤ i)) (xV 0) (xC (.int 0))))))
noncomputable def m_is_positive (o_Rules : Addr) : List AV → M Rt := mDef 1 1 ((sRet (xAnd (xCall0 (m_is_integer o_Rules) (aC (xV 0) aNil)) (x2 (fCmp fun i j => decide (j ≤ i)) (xV 0) (xC (.int 1))))))
noncomputable def m__is_row (o_Rules : Addr) : List AV → M Rt := mDef 1 1 ((sSeq (sIf (tOrr (tNo (tV (xIsiO [o_Rules] isTup (xV 0)))) (tV (x2 fNe (xLen (xV 0)) (xC (.int 2))))) (sRet (xC (.bool false))) sNext)
  (sRet (xAnd (xCall0 (m_is_positive o_Rules) (aC (xIx (xV 0) (xC (.int 0))) aNil)) (xOr (x2 fIsN (xIx (xV 0) (xC (.int 1))) (xC .none)) (xCall0 (m_is_positive o_Rules) (aC (xIx (xV 0) (xC (.int 1))) aNil)))))))
noncomputable def m__may_follow (o_Rules : Addr) : List AV → M Rt := mDef 2 2 ((sSeq (sIf (tOrr (tV (x2 fIsN (xIx (xV 1) (xC (.int 1))) (xC .none))) (tOrr (tV (x2 fNe (x2 fMod (xIx (xV 0) (xC (.int 0))) (xIx (xV 1) (xC (.int 0)))) (xC (.int 0)))) (tV (x2 (fCmp fun i j => decide (i < j)) (xIx (xV 0) (xC (.int 0))) (x2 fMul (xC (.int 2)) (xIx (xV 1) (xC (.int 0)))))))) (sRet (xC (.bool false))) sNext)
  (sRet (xOr (x2 fIsN (xIx (xV 0) (xC (.int 1))) (xC .none)) (x2 (fCmp fun i j => decide (j ≤ i)) (xIx (xV 0) (xC (.int 1))) (x2 fAdd (xIx (xV 1) (xC (.int 1))) (xIx (xV 0) (xC (.int 0)))))))))
noncomputable def m__are_rules (o_Rules : Addr) : List AV → M Rt := mDef 3 1 ((sSeq (sIf (tOrr (tNo (tV (xCall0 (m_is_list o_Rules) (aC (xV 0) aNil)))) (tNo (tV (xChain (fCmp fun i j => decide (i ≤ j)) (fCmp fun i j => decide (i ≤ j)) (xC (.int 1)) (xLen (xV 0)) (xC (.int 4)))))) (sRet (xC (.bool false))) sNext)
  (sSeq (sIf (tNo (tV (x1 fAll (ofF (fLcD (xV 0) (.n 1) tTrue (xCall0 (m__is_row o_Rules) (aC (xV 1) aNil)) [1]))))) (sRet (xC (.bool false))) sNext)
  (sRet (xAnd (x2 fEq (xIx (xIx (xV 0) (xC (.int 0))) (xC (.int 0))) (xC (.int 1))) (x1 fAll (ofF (fLcZ (aC (xV 0) (aC (xSlD (xV 0) (oAt (xC (.int 1))) oNo) aNil)) (.t [2, 1]) tTrue (xCall0 (m__may_follow o_Rules) (aC (xV 1) (aC (xV 2) aNil))) [2, 1]))))))))
noncomputable def m__law_cell (o_Rules : Addr) : List AV → M Rt := mDef 2 2 ((sRet (xIf (tV (x2 (fCmp fun i j => decide (i < j)) (xV 1) (xLenV 0))) (xIxV 0 (xV 1)) (x2 fAdd (x2 fMul (xC (.int 6007)) (xV 1)) (x2 fMod (x1 fSum (xSlV 0 oNo (oAt (xC (.int 1))))) (xC (.int 1000033)))))))
noncomputable def m__law_box (o_Rules : Addr) : List AV → M Rt := mDef 1 1 ((sRet (xNew (fLst (aC (x1 fAbs (xV 0)) (aC (x2 (fCmp fun i j => decide (j ≤ i)) (x1 fAbs (xV 0)) (x2 fPow (xC (.int 10)) (xC (.int 18)))) (aC (x2 fMod (x1 fInt (x1 fAbs (xV 0))) (xC (.int 2147483629))) (aC (xC (.int 0)) aNil))))))))
noncomputable def m__law_take (o_Rules : Addr) : List AV → M Rt := mDef 4 2 ((sSeq (sIf (tAn (tV (xIx (xV 0) (xC (.int 1)))) (tV (x2 (fCmp fun i j => decide (j < i)) (xIx (xV 0) (xC (.int 0))) (xC (.int 0))))) (sSeq (sAsg (.n 3) (x2 fMod (x1 fInt (xIx (xV 0) (xC (.int 0)))) (xV 1)))
  (sSeq (sSet 0 (xC (.int 0)) (x2 fDiv (xIx (xV 0) (xC (.int 0))) (xV 1)))
  (sRet (xV 3)))) sNext)
  (sSeq (sSet 0 (xC (.int 3)) (x2 fAdd (xIx (xV 0) (xC (.int 3))) (xC (.int 1))))
  (sSeq (sAsg (.n 2) (x2 fMod (x1 fInt (x2 fPow (x2 fAdd (x2 fAdd (xIx (xV 0) (xC (.int 2))) (x2 fMul (xC (.int 15485863)) (xIx (xV 0) (xC (.int 3))))) (xC (.int 179424673))) (xC (.int 5)))) (xC (.int 2147483647))))
  (sRet (x2 fMod (x2 fDiv (x2 fMod (x1 fInt (x2 fPow (x2 fAdd (x2 fMul (xV 2) (xC (.int 48271))) (x2 fMul (xC (.int 104729)) (xIx (xV 0) (xC (.int 3))))) (xC (.int 3)))) (xC (.int 2147483587))) (xC (.int 64))) (xV 1)))))))
noncomputable def m__law_rows (o_Rules : Addr) : List AV → M Rt := mDef 8 1 ((sSeq (sPar [1, 2] (pD (x2 fAdd (xC (.int 1)) (xCall0 (m__law_take o_Rules) (aC (xV 0) (aC (xC (.int 4)) aNil)))) (pD (x2 fEq (xCall0 (m__law_take o_Rules) (aC (xV 0) (aC (xC (.int 5)) aNil))) (xC (.int 0))) pNil)))
  (sSeq (sPar [3, 4] (pD (xC (.int 1)) (pD (x2 fAdd (xC (.int 1)) (xCall0 (m__law_take o_Rules) (aC (xV 0) (aC (xC (.int 12)) aNil)))) pNil)))
  (sSeq (sAsgF 5 (fLst (aC (xTup (aC (xV 3) (aC (xV 4) aNil))) aNil)))
  (sSeq (sFor (iRng1M (aC (x2 fSub (xV 1) (xC (.int 1))) aNil)) (.n 6) (sSeq (sAsg (.n 3) (x2 fMul (xV 3) (x2 fAdd (xIx (ofF (fLst (aC (xC (.int 2)) (aC (xC (.int 3)) (aC (xC (.int 2)) (aC (xC (.int 4)) (aC (xC (.int 5)) (aC (xC (.int 7)) aNil)))))))) (xCall0 (m__law_take o_Rules) (aC (xV 0) (aC (xC (.int 6)) aNil)))) (xIx (ofF (fLst (aC (xC (.int 0)) (aC (xC (.int 995)) aNil)))) (x1 fInt (xV 2))))))
  (sSeq (sAsg (.n 7) (xIx (ofF (fLst (aC (xC (.int 0)) (aC (xC (.int 0)) (aC (xC (.int 1)) (aC (xC (.int 3)) (aC (xC (.int 11)) (aC (x2 fPow (xC (.int 10)) (xC (.int 10))) aNil)))))))) (xCall0 (m__law_take o_Rules) (aC (xV 0) (aC (x2 fAdd (xC (.int 5)) (x1 fInt (xV 2))) aNil)))))
  (sSeq (sAsg (.n 4) (x2 fAdd (x2 fAdd (xV 4) (xV 3)) (xV 7)))
  (sApp 5 (xTup (aC (xV 3) (aC (xV 4) aNil))))))))
  (sRetV 5))))))
noncomputable def m__law_is_count (o_Rules : Addr) : List AV → M Rt := mDef 1 1 ((sRet (xAnd (xIsiO [o_Rules] isInt (xV 0)) (xAnd (xNot (xIsiO [o_Rules] isBool (xV 0))) (x2 (fCmp fun i j => decide (j ≤ i)) (xV 0) (xC (.int 0)))))))
noncomputable def m__law_are_rules (o_Rules : Addr) : List AV → M Rt := mDef 3 1 ((sSeq (sIf (tOrr (tNo (tV (xIsiO [o_Rules] (fun d => isLst d || isTup d) (xV 0)))) (tNo (tV (xChain (fCmp fun i j => decide (i ≤ j)) (fCmp fun i j => decide (i ≤ j)) (xC (.int 1)) (xLen (xV 0)) (xC (.int 4)))))) (sRet (xC (.bool false))) sNext)
  (sSeq (sFor (iRng1M (aC (xLen (xV 0)) aNil)) (.n 1) (sSeq (sAsg (.n 2) (xIx (xV 0) (xV 1)))
  (sSeq (sIf (tOrr (tNo (tV (xIsiO [o_Rules] isTup (xV 2)))) (tOrr (tV (x2 fNe (xLen (xV 2)) (xC (.int 2)))) (tOrr (tNo (tV (xCall0 (m__law_is_count o_Rules) (aC (xIx (xV 2) (xC (.int 0))) aNil)))) (tV (x2 fEq (xIx (xV 2) (xC (.int 0))) (xC (.int 0))))))) (sRet (xC (.bool false))) sNext)
  (sIf (tV (x2 fIsN (xIx (xV 2) (xC (.int 1))) (xC .none))) (sIf (tV (x2 (fCmp fun i j => decide (i < j)) (xV 1) (x2 fSub (xLen (xV 0)) (xC (.int 1))))) (sRet (xC (.bool false))) sNext) (sIf (tOrr (tNo (tV (xCall0 (m__law_is_count o_Rules) (aC (xIx (xV 2) (xC (.int 1))) aNil)))) (tV (x2 fEq (xIx (xV 2) (xC (.int 1))) (xC (.int 0))))) (sRet (xC (.bool false))) sNext)))))
  (sSeq (sFor (iRng2M (aC (xC (.int 1)) (aC (xLen (xV 0)) aNil))) (.n 1) (sSeq (sIf (tOrr (tV (x2 fNe (x2 fMod (x1 fInt (xIx (xIx (xV 0) (xV 1)) (xC (.int 0)))) (xIx (xIx (xV 0) (x2 fSub (xV 1) (xC (.int 1)))) (xC (.int 0)))) (xC (.int 0)))) (tV (x2 (fCmp fun i j => decide (i < j)) (xIx (xIx (xV 0) (xV 1)) (xC (.int 0))) (x2 fMul (xC (.int 2)) (xIx (xIx (xV 0) (x2 fSub (xV 1) (xC (.int 1)))) (xC (.int 0))))))) (sRet (xC (.bool false))) sNext)
  (sIf (tAn (tV (x2 fNotN (xIx (xIx (xV 0) (xV 1)) (xC (.int 1))) (xC .none))) (tV (x2 (fCmp fun i j => decide (i < j)) (xIx (xIx (xV 0) (xV 1)) (xC (.int 1))) (x2 fAdd (xIx (xIx (xV 0) (x2 fSub (xV 1) (xC (.int 1)))) (xC (.int 1))) (xIx (xIx (xV 0) (xV 1)) (xC (.int 0))))))) (sRet (xC (.bool false))) sNext)))
  (sRet (x2 fEq (xIx (xIx (xV 0) (xC (.int 0))) (xC (.int 0))) (xC (.int 1))))))))
noncomputable def m__law_ended (o_Rules : Addr) : List AV → M Rt := mDef 2 2 ((sSeq (sIf (tV (x2 fEq (xCall0 (m__law_take o_Rules) (aC (xV 0) (aC (xC (.int 2)) aNil))) (xC (.int 0)))) (sRet (x2 fAdd (xSl (xV 1) oNo (oAt (x1 fNeg (xC (.int 1))))) (ofF (fLst (aC (xTup (aC (xIx (xIx (xV 1) (x1 fNeg (xC (.int 1)))) (xC (.int 0))) (aC (xC .none) aNil))) aNil))))) sNext)
  (sRetF (fList (xV 1)))))
noncomputable def m__law_values (o_Rules : Addr) : List AV → M Rt := mDef 13 3 ((sSeq (sAsg (.n 3) (xCall0 (m__law_take o_Rules) (aC (xV 0) (aC (xLen (xV 2)) aNil))))
  (sSeq (sAsg (.t [4, 5]) (xIx (xV 2) (xV 3)))
  (sSeq (sPar [6, 7] (pD (xIx (xIx (xV 1) (xV 3)) (xC (.int 1))) (pD (xIx (xV 1) (x2 fMax2 (xC (.int 0)) (x2 fSub (xV 3) (xC (.int 1))))) pNil)))
  (sSeq (sAsg (.n 8) (x2 fAdd (xIx (xV 7) (xC (.int 1))) (xV 4)))
  (sSeq (sAsg (.n 9) (ofF (fLst (aC (xTup (aC (x2 fAdd (xV 4) (xC (.int 1))) (aC (xV 5) aNil))) (aC (xTup (aC (x2 fSub (xV 4) (xC (.int 1))) (aC (xV 5) aNil))) (aC (xTup (aC (x2 fMul (xC (.int 2)) (xV 4)) (aC (xV 5) aNil))) (aC (xTup (aC (xV 4) (aC (x2 fSub (xV 6) (xC (.int 1))) aNil))) (aC (xTup (aC (xV 4) (aC (x2 fAdd (xV 6) (xC (.int 1))) aNil))) aNil))))))))
  (sSeq (sAsg (.n 9) (x2 fAdd (xV 9) (ofF (fLst (aC (xTup (aC (xV 4) (aC (xV 8) aNil))) (aC (xTup (aC (xV 4) (aC (x2 fSub (xV 8) (xC (.int 1))) aNil))) (aC (xTup (aC (xV 4) (aC (xC .none) aNil))) (aC (xTup (aC (xV 4) (aC (xC (.int 0)) aNil))) (aC (xTup (aC (xV 4) (aC (x1 fNeg (xV 6)) aNil))) (aC (xTup (aC (xC (.int 0)) (aC (xV 5) aNil))) aNil))))))))))
  (sSeq (sAsg (.n 9) (x2 fAdd (xV 9) (ofF (fLst (aC (xTup (aC (x1 fNeg (xV 4)) (aC (xV 5) aNil))) (aC (xTup (aC (xV 4) (aC (xC (.bool true)) aNil))) (aC (xTup (aC (xV 4) (aC (xC (.str "8")) aNil))) (aC (xTup (aC (xC (.bool true)) (aC (xV 5) aNil))) (aC (xTup (aC (x1 fStr (xV 4)) (aC (xV 5) aNil))) (aC (xTup (aC (xC .none) (aC (xV 5) aNil))) aNil))))))))))
  (sSeq (sAsg (.n 9) (x2 fAdd (xV 9) (ofF (fLst (aC (ofF (fLst (aC (xV 4) (aC (xV 5) aNil)))) (aC (xTup (aC (xV 4) aNil)) (aC (xTup (aC (xV 4) (aC (xV 5) (aC (xV 5) aNil)))) (aC (xTup (aC (xV 5) (aC (xV 4) aNil))) (aC (xC .none) (aC (xC (.int 1)) (aC (xC (.str "ab")) (aC (xTup aNil) aNil))))))))))))
  (sSeq (sAsg (.n 9) (x2 fAdd (xV 9) (ofF (fLst (aC (xTup (aC (x2 fMul (xC (.int 2)) (xIx (xV 7) (xC (.int 0)))) (aC (xV 6) aNil))) (aC (xTup (aC (xIx (xV 7) (xC (.int 0))) (aC (xV 6) aNil))) (aC (xTup (aC (x2 fMul (xC (.int 3)) (xIx (xV 7) (xC (.int 0)))) (aC (x2 fAdd (xV 8) (x2 fMul (xC (.int 2)) (xV 4))) aNil))) aNil)))))))
  (sSeq (sAsg (.n 10) (ofF (fLc (iSeqM (xV 9)) (.n 12) tTrue (x2 fAdd (x2 fAdd (xSl (xV 2) oNo (oAt (xV 3))) (ofF (fLst (aC (xV 12) aNil)))) (xSl (xV 2) (oAt (x2 fAdd (xV 3) (xC (.int 1)))) oNo)) [12])))
  (sSeq (sAsg (.n 11) (xTup (aC (x2 fMul (xC (.int 2)) (xIx (xIx (xV 1) (x1 fNeg (xC (.int 1)))) (xC (.int 0)))) (aC (x2 fAdd (xIx (xIx (xV 1) (x1 fNeg (xC (.int 1)))) (xC (.int 1))) (x2 fMul (xC (.int 2)) (xIx (xIx (xV 1) (x1 fNeg (xC (.int 1)))) (xC (.int 0))))) aNil))))
  (sSeq (sAsg (.n 10) (x2 fAdd (xV 10) (ofF (fLst (aC (ofF (fList (xV 2))) (aC (ofF (fList (xV 1))) (aC (xTuple (xV 2)) (aC (xTuple (xV 1)) (aC (x2 fAdd (xSl (xV 2) oNo (oAt (xV 3))) (xSl (xV 2) (oAt (x2 fAdd (xV 3) (xC (.int 1)))) oNo)) (aC (x2 fAdd (xV 2) (xSl (xV 2) (oAt (xV 3)) (oAt (x2 fAdd (xV 3) (xC (.int 1)))))) aNil))))))))))
  (sSeq (sAsg (.n 10) (x2 fAdd (xV 10) (ofF (fLst (aC (x2 fAdd (x2 fAdd (xSl (xV 2) oNo (oAt (xV 3))) (ofF (fRev (xSl (xV 2) (oAt (xV 3)) (oAt (x2 fAdd (xV 3) (xC (.int 2)))))))) (xSl (xV 2) (oAt (x2 fAdd (xV 3) (xC (.int 2)))) oNo)) (aC (x2 fAdd (xV 1) (ofF (fLst (aC (xV 11) aNil)))) (aC (x2 fAdd (xV 2) (ofF (fLst (aC (xV 11) aNil)))) (aC (ofF (fRev (xV 2))) aNil))))))))
  (sSeq (sAsg (.n 10) (x2 fAdd (xV 10) (ofF (fLst (aC (x2 fAdd (xV 1) (ofF (fLst (aC (xTup (aC (xIx (xV 11) (xC (.int 0))) (aC (xC .none) aNil))) aNil)))) (aC (x2 fAdd (xV 1) (ofF (fLst (aC (xTup (aC (xIx (xV 11) (xC (.int 0))) (aC (x2 fSub (xIx (xV 11) (xC (.int 1))) (xC (.int 1))) aNil))) aNil)))) (aC (x2 fAdd (ofF (fLst (aC (xC .none) aNil))) (xV 2)) (aC (x2 fAdd (xV 2) (ofF (fLst (aC (xC .none) aNil)))) aNil))))))))
  (sSeq (sAsg (.n 10) (x2 fAdd (xV 10) (ofF (fLst (aC (ofF (fLst (aC (xV 2) aNil))) (aC (x2 fAdd (xV 2) (ofF (fLst (aC (xTup aNil) aNil)))) (aC (ofF (fLst aNil)) (aC (xTup aNil) (aC (xC .none) (aC (xC (.int 0)) (aC (xC (.int 1)) (aC (xC (.bool true)) (aC (xC (.str "")) (aC (xC (.str "rules")) (aC (xC (.dict [])) aNil)))))))))))))))
  (sRet (x2 fAdd (xV 10) (ofF (fLst (aC (x1 fDict1 (ofF (fLst (aC (xTup (aC (xC (.int 1)) (aC (xC (.int 8)) aNil))) aNil)))) (aC (xDictE (ofF (fLst (aC (xTup (aC (xIx (xV 2) (xC (.int 0))) (aC (xC (.int 1)) aNil))) aNil)))) aNil))))))))))))))))))))))
noncomputable def m_Rules____init__ (o_Rules : Addr) : List AV → M Rt := mDef 2 2 ((sSeq (sIf (tNo (tV (xCall0 (m__are_rules o_Rules) (aC (xV 1) aNil)))) (sRaise "InvalidRules" ["given"] (aC (xV 1) aNil)) sNext)
  (sFldS o_Rules "rows" (xV 0) (xTupD (xV 1)))))
noncomputable def m__law_asked_right (o_Rules : Addr) : List AV → M Rt := mDef 6 3 ((sSeq (sAsg (.n 3) (xIf (tV (xIsiO [o_Rules] isLst (xV 0))) (xNew (fList (xV 0))) (xV 0)))
  (sSeq (sTry Ls (sAsg (.n 4) (xIf (tV (x2 fEq (xV 2) (xC (.int 0)))) (xMake o_Rules (m_Rules____init__ o_Rules) (aC (xV 3) aNil)) (xMakeK o_Rules 1 [0] (m_Rules____init__ o_Rules) (aC (xV 3) aNil)))) [("InvalidRules", 5, (sSeq (sIf (tV (xIsiO [o_Rules] isLst (xV 3))) (sApp 3 (xC (.str "more"))) sNext)
  (sRet (xAnd (xNot (xV 1)) (x2 fEq (xReprE (xBy 5 "given")) (xReprE (xV 3)))))))])
  (sSeq (sIf (tV (xIsiO [o_Rules] isLst (xV 3))) (sApp 3 (xTup (aC (xC (.int 1)) (aC (xC (.int 1)) aNil)))) sNext)
  (sRet (xAnd (xV 1) (x2 fEq (xReprE (xFld o_Rules "rows" (xV 4))) (xReprE (xTuple (xV 0))))))))))
noncomputable def m_Rules___ask_grain (o_Rules : Addr) : List AV → M Rt := mDef 2 2 ((sIf (tOrr (tNo (tV (xCall0 (m_is_count o_Rules) (aC (xV 1) aNil)))) (tV (x2 (fCmp fun i j => decide (j ≤ i)) (xV 1) (xLen (xFld o_Rules "rows" (xV 0)))))) (sRaise "NoGrain" ["grain"] (aC (xV 1) aNil)) sNext))
noncomputable def m_Rules__step (o_Rules : Addr) : List AV → M Rt := mDef 2 2 ((sSeq (sDrop (xMeth o_Rules "_ask_grain" (m_Rules___ask_grain o_Rules) (xV 0) (aC (xV 1) aNil)))
  (sRet (xIx (xIx (xFld o_Rules "rows" (xV 0)) (x2 fMin2 (x2 fAdd (xV 1) (xC (.int 1))) (x2 fSub (xLen (xFld o_Rules "rows" (xV 0))) (xC (.int 1))))) (xC (.int 0))))))
noncomputable def m_Rules__length (o_Rules : Addr) : List AV → M Rt := mDef 2 2 ((sSeq (sDrop (xMeth o_Rules "_ask_grain" (m_Rules___ask_grain o_Rules) (xV 0) (aC (xV 1) aNil)))
  (sRet (xIx (xIx (xFld o_Rules "rows" (xV 0)) (xV 1)) (xC (.int 0))))))
noncomputable def m_Rules__keep (o_Rules : Addr) : List AV → M Rt := mDef 2 2 ((sSeq (sDrop (xMeth o_Rules "_ask_grain" (m_Rules___ask_grain o_Rules) (xV 0) (aC (xV 1) aNil)))
  (sRet (xIx (xIx (xFld o_Rules "rows" (xV 0)) (xV 1)) (xC (.int 1))))))
noncomputable def m__law_of_grain (o_Rules : Addr) : List AV → M Rt := mDef 6 4 ((sSeq (sAsg (.n 4) (xIf (tV (xIsiO [o_Rules] isLst (xV 1))) (xNew (fList (xV 1))) (xV 1)))
  (sTry Ls (sSeq (sIf (tV (x2 fEq (xV 2) (xC (.int 0)))) (sRetF (fLst (aC (xC (.str "told")) (aC (xIf (tV (x2 fEq (xV 3) (xC (.int 0)))) (xMeth o_Rules "length" (m_Rules__length o_Rules) (xV 0) (aC (xV 4) aNil)) (xMethK o_Rules "length" 1 [0] (m_Rules__length o_Rules) (xV 0) (aC (xV 4) aNil))) aNil)))) sNext)
  (sSeq (sIf (tV (x2 fEq (xV 2) (xC (.int 1)))) (sRetF (fLst (aC (xC (.str "told")) (aC (xIf (tV (x2 fEq (xV 3) (xC (.int 0)))) (xMeth o_Rules "keep" (m_Rules__keep o_Rules) (xV 0) (aC (xV 4) aNil)) (xMethK o_Rules "keep" 1 [0] (m_Rules__keep o_Rules) (xV 0) (aC (xV 4) aNil))) aNil)))) sNext)
  (sRetF (fLst (aC (xC (.str "told")) (aC (xIf (tV (x2 fEq (xV 3) (xC (.int 0)))) (xMeth o_Rules "step" (m_Rules__step o_Rules) (xV 0) (aC (xV 4) aNil)) (xMethK o_Rules "step" 1 [0] (m_Rules__step o_Rules) (xV 0) (aC (xV 4) aNil))) aNil)))))) [("NoGrain", 5, (sSeq (sIf (tV (xIsiO [o_Rules] isLst (xV 4))) (sApp 4 (xC (.str "more"))) sNext)
  (sRetF (fLst (aC (xC (.str "none")) (aC (x2 fEq (xRepr (xBy 5 "grain")) (xRepr (xV 4))) aNil))))))])))
noncomputable def m_Rules____len__ (o_Rules : Addr) : List AV → M Rt := mDef 1 1 ((sRet (xLen (xFld o_Rules "rows" (xV 0)))))
noncomputable def m__law_grains_right (o_Rules : Addr) : List AV → M Rt := mDef 8 3 ((sSeq (sAsg (.n 3) (xLen (xV 1)))
  (sSeq (sIf (tOrr (tV (x2 fNe (xRepr (xLenO [o_Rules] [(o_Rules, (m_Rules____len__ o_Rules))] (xV 0))) (xRepr (xV 3)))) (tV (x2 fNe (xRepr (xFld o_Rules "rows" (xV 0))) (xRepr (xTuple (xV 1)))))) (sRet (xC (.bool false))) sNext)
  (sSeq (sFor (iRng1M (aC (xV 3) aNil)) (.n 4) (sSeq (sAsg (.n 6) (ofF (fLst (aC (xIx (xIx (xV 1) (xV 4)) (xC (.int 0))) (aC (xIx (xIx (xV 1) (xV 4)) (xC (.int 1))) (aC (xIx (xIx (xV 1) (x2 fMin2 (x2 fAdd (xV 4) (xC (.int 1))) (x2 fSub (xV 3) (xC (.int 1))))) (xC (.int 0))) aNil))))))
  (sFor (iRng1M (aC (xC (.int 3)) aNil)) (.n 7) (sIf (tV (x2 fNe (xRepr (xCall0 (m__law_of_grain o_Rules) (aC (xV 0) (aC (xV 4) (aC (xV 7) (aC (xV 2) aNil)))))) (xRepr (ofF (fLst (aC (xC (.str "told")) (aC (xIx (xV 6) (xV 7)) aNil))))))) (sRet (xC (.bool false))) sNext))))
  (sSeq (sFor (iSeqM (ofF (fLst (aC (xV 3) (aC (x2 fAdd (xV 3) (xC (.int 1))) (aC (x1 fNeg (xC (.int 1))) (aC (x1 fNeg (xV 3)) (aC (xC (.bool true)) (aC (xC (.bool false)) (aC (xC .none) (aC (xC (.str "0")) (aC (xC (.str "")) (aC (xTup (aC (xC (.int 0)) aNil)) (aC (ofF (fLst (aC (xC (.int 0)) aNil))) (aC (ofF (fLst aNil)) (aC (x2 fPow (xC (.int 10)) (xC (.int 12))) (aC (xIx (xFld o_Rules "rows" (xV 0)) (xC (.int 0))) aNil))))))))))))))))) (.n 5) (sFor (iRng1M (aC (xC (.int 3)) aNil)) (.n 7) (sIf (tV (x2 fNe (xRepr (xCall0 (m__law_of_grain o_Rules) (aC (xV 0) (aC (xV 5) (aC (xV 7) (aC (xV 2) aNil)))))) (xRepr (ofF (fLst (aC (xC (.str "none")) (aC (xC (.bool true)) aNil))))))) (sRet (xC (.bool false))) sNext)))
  (sRet (xC (.bool true))))))))
noncomputable def m_Rules____eq__ (o_Rules : Addr) : List AV → M Rt := mDef 2 2 ((sRet (xAnd (xIsiC [o_Rules] o_Rules (xV 1)) (x2 fEq (xFld o_Rules "rows" (xV 0)) (xFld o_Rules "rows" (xV 1))))))
noncomputable def m__law_equal_right (o_Rules : Addr) : List AV → M Rt := mDef 6 2 ((sSeq (sAsg (.l [2, 3]) (xV 0))
  (sSeq (sAsg (.n 4) (x2 fEq (xIx (xV 1) (xC (.int 0))) (xIx (xV 1) (xC (.int 1)))))
  (sSeq (sIf (tV (x2 fNe (xRepr (ofF (fLst (aC (xEqO [o_Rules] [(o_Rules, (m_Rules____eq__ o_Rules))] false (xV 2) (xV 3)) (aC (xEqO [o_Rules] [(o_Rules, (m_Rules____eq__ o_Rules))] false (xV 3) (xV 2)) (aC (xEqO [o_Rules] [(o_Rules, (m_Rules____eq__ o_Rules))] true (xV 2) (xV 3)) aNil)))))) (xRepr (ofF (fLst (aC (xV 4) (aC (xV 4) (aC (xNot (xV 4)) aNil)))))))) (sRet (xC (.bool false))) sNext)
  (sSeq (sIf (tV (x2 fNe (xRepr (ofF (fLst (aC (xEqO [o_Rules] [(o_Rules, (m_Rules____eq__ o_Rules))] false (xV 2) (xMake o_Rules (m_Rules____init__ o_Rules) (aC (xTuple (xIx (xV 1) (xC (.int 0)))) aNil))) (aC (xEqO [o_Rules] [(o_Rules, (m_Rules____eq__ o_Rules))] true (xV 2) (xMake o_Rules (m_Rules____init__ o_Rules) (aC (ofF (fList (xIx (xV 1) (xC (.int 0))))) aNil))) aNil))))) (xRepr (ofF (fLst (aC (xC (.bool true)) (aC (xC (.bool false)) aNil))))))) (sRet (xC (.bool false))) sNext)
  (sSeq (sFor (iSeqM (ofF (fLst (aC (xIx (xV 1) (xC (.int 0))) (aC (xTuple (xIx (xV 1) (xC (.int 0)))) (aC (xLen (xIx (xV 1) (xC (.int 0)))) (aC (xC .none) (aC (xC (.int 0)) (aC (xC (.str "")) aNil))))))))) (.n 5) (sIf (tV (x2 fNe (xRepr (ofF (fLst (aC (xEqO [o_Rules] [(o_Rules, (m_Rules____eq__ o_Rules))] false (xV 2) (xV 5)) (aC (xEqO [o_Rules] [(o_Rules, (m_Rules____eq__ o_Rules))] true (xV 2) (xV 5)) aNil))))) (xRepr (ofF (fLst (aC (xC (.bool false)) (aC (xC (.bool true)) aNil))))))) (sRet (xC (.bool false))) sNext))
  (sRet (xC (.bool true)))))))))
noncomputable def m__law_right (o_Rules : Addr) : List AV → M Rt := mDef 12 1 ((sSeq (sAsgF 1 (fLst (aC (xCall0 (m__law_rows o_Rules) (aC (xV 0) aNil)) (aC (xCall0 (m__law_rows o_Rules) (aC (xV 0) aNil)) aNil))))
  (sSeq (sIf (tV (x2 fEq (xCall0 (m__law_take o_Rules) (aC (xV 0) (aC (xC (.int 3)) aNil))) (xC (.int 0)))) (sSet 1 (xC (.int 1)) (ofF (fList (xIxV 1 (xC (.int 0)))))) sNext)
  (sSeq (sFrz 1 (sAsg (.n 2) (ofF (fLc (iSeqM (xV 1)) (.n 9) tTrue (xCall0 (m__law_ended o_Rules) (aC (xV 0) (aC (xV 9) aNil))) [9]))))
  (sSeq (sAsg (.n 3) (ofF (fLc (iSeqM (xV 2)) (.n 10) tTrue (xNew (fList (xV 10))) [10])))
  (sSeq (sAsg (.n 4) (ofF (fLst (aC (xMake o_Rules (m_Rules____init__ o_Rules) (aC (xIx (xV 3) (xC (.int 0))) aNil)) (aC (xMake o_Rules (m_Rules____init__ o_Rules) (aC (xIx (xV 3) (xC (.int 1))) aNil)) aNil)))))
  (sSeq (sFor (iSeqM (ofF (fLst (aC (xC (.int 0)) (aC (xC (.int 1)) aNil))))) (.n 5) (sSetSlE (fLst (aC (xTup (aC (xC (.int 1)) (aC (xC (.int 1)) aNil))) aNil)) (xIx (xV 3) (xV 5)) oNo oNo))
  (sSeq (sFor (iRng1M (aC (xC (.int 4)) aNil)) (.n 6) (sIf (tNo (tV (xCall0 (m__law_grains_right o_Rules) (aC (xIx (xV 4) (x2 fMod (xV 6) (xC (.int 2)))) (aC (xIx (xV 2) (x2 fMod (xV 6) (xC (.int 2)))) (aC (x2 fDiv (xV 6) (xC (.int 2))) aNil)))))) (sRet (xC (.bool false))) sNext))
  (sSeq (sAsg (.n 7) (xC (.int 0)))
  (sSeq (sFor (iSeqM (ofF (fLst (aC (xC (.int 0)) (aC (xC (.int 1)) aNil))))) (.n 5) (sSeq (sFor (iSeqM (xCall0 (m__law_values o_Rules) (aC (xV 0) (aC (xIxV 1 (xV 5)) (aC (xIx (xV 2) (xV 5)) aNil))))) (.n 8) (sSeq (sAsg (.n 7) (x2 fSub (xC (.int 1)) (xV 7)))
  (sIf (tNo (tV (xCall0 (m__law_asked_right o_Rules) (aC (xV 8) (aC (xCall0 (m__law_are_rules o_Rules) (aC (xV 8) aNil)) (aC (xV 7) aNil)))))) (sRet (xC (.bool false))) sNext)))
  (sIf (tNo (tV (xCall0 (m__law_asked_right o_Rules) (aC (xFld o_Rules "rows" (xIx (xV 4) (xV 5))) (aC (xC (.bool true)) (aC (xV 5) aNil)))))) (sRet (xC (.bool false))) sNext)))
  (sSeq (sFor (iSeqM (xV 4)) (.n 8) (sTry Ls (sSeq (sDrop (xMake o_Rules (m_Rules____init__ o_Rules) (aC (xV 8) aNil)))
  (sRet (xC (.bool false)))) [("InvalidRules", 11, (sIf (tOrr (tNo (tV (xIsiC [o_Rules] o_Rules (xBy 11 "given")))) (tV (xEqO [o_Rules] [(o_Rules, (m_Rules____eq__ o_Rules))] true (xBy 11 "given") (xV 8)))) (sRet (xC (.bool false))) sNext))]))
  (sRet (xAnd (xCall (m__law_equal_right o_Rules) (aC (xV 4) (aC (xV 2) aNil))) (xCall0 (m__law_grains_right o_Rules) (aC (xIx (xV 4) (xC (.int 0))) (aC (xIx (xV 2) (xC (.int 0))) (aC (xC (.int 1)) aNil)))))))))))))))))
noncomputable def m_law (o_Rules : Addr) : List AV → M Rt := mDef 2 1 ((sSeq (sFor (iRng1M (aC (x2 fMax2 (xC (.int 2)) (x2 fMin2 (xC (.int 4)) (xLenV 0))) aNil)) (.n 1) (sIf (tNo (tV (xCall (m__law_right o_Rules) (aC (xCall0 (m__law_box o_Rules) (aC (xCall0 (m__law_cell o_Rules) (aScr 0 (aC (xV 1) aNil))) aNil)) aNil)))) (sRet (xC (.bool false))) sNext))
  (sRet (xC (.bool true)))))
end Mi.K18

/-! K18c -/
set_option Elab.async false
set_option linter.all false
set_option maxRecDepth 100000
set_option maxHeartbeats 2000000

namespace Mi.K18
open PySem PySem.Spec PyProof.Rows L2 Eg Mi

def top (i : Nat) : Stmt := PySem.Challenge.pw_everygrain_k18_rules_and_their_grains.main.body.getD i (.Pass ⟨0, 0, 0, 0⟩)
abbrev s_is_list : Stmt := top 7
theorem sc_is_list : FnScope ["value"] ["value"] (defScope s_is_list) := ⟨rfl, rfl, rfl, by decide +kernel, rfl, by decide +kernel, by decide +kernel⟩
abbrev s_is_integer : Stmt := top 8
theorem sc_is_integer : FnScope ["value"] ["value"] (defScope s_is_integer) := ⟨rfl, rfl, rfl, by decide +kernel, rfl, by decide +kernel, by decide +kernel⟩
abbrev s_is_count : Stmt := top 9
theorem sc_is_count : FnScope ["value"] ["value"] (defScope s_is_count) := ⟨rfl, rfl, rfl, by decide +kernel, rfl, by decide +kernel, by decide +kernel⟩
abbrev s_is_positive : Stmt := top 10
theorem sc_is_positive : FnScope ["value"] ["value"] (defScope s_is_positive) := ⟨rfl, rfl, rfl, by decide +kernel, rfl, by decide +kernel, by decide +kernel⟩
abbrev s__are_rules : Stmt := top 15
theorem sc__are_rules : FnScope ["rows", "row", "ahead"] ["rows"] (defScope s__are_rules) := ⟨rfl, rfl, rfl, by decide +kernel, rfl, by decide +kernel, by decide +kernel⟩
abbrev s__is_row : Stmt := top 16
theorem sc__is_row : FnScope ["row"] ["row"] (defScope s__is_row) := ⟨rfl, rfl, rfl, by decide +kernel, rfl, by decide +kernel, by decide +kernel⟩
abbrev s__may_follow : Stmt := top 17
theorem sc__may_follow : FnScope ["row", "ahead"] ["row", "ahead"] (defScope s__may_follow) := ⟨rfl, rfl, rfl, by decide +kernel, rfl, by decide +kernel, by decide +kernel⟩
abbrev s__law_cell : Stmt := top 20
theorem sc__law_cell : FnScope ["script", "k"] ["script", "k"] (defScope s__law_cell) := ⟨rfl, rfl, rfl, by decide +kernel, rfl, by decide +kernel, by decide +kernel⟩
abbrev s__law_box : Stmt := top 21
theorem sc__law_box : FnScope ["great"] ["great"] (defScope s__law_box) := ⟨rfl, rfl, rfl, by decide +kernel, rfl, by decide +kernel, by decide +kernel⟩
abbrev s__law_take : Stmt := top 22
theorem sc__law_take : FnScope ["box", "many", "mixed", "digit"] ["box", "many"] (defScope s__law_take) := ⟨rfl, rfl, rfl, by decide +kernel, rfl, by decide +kernel, by decide +kernel⟩
abbrev s__law_rows : Stmt := top 23
theorem sc__law_rows : FnScope ["box", "grains", "great", "length", "keep", "rows", "turn", "more"] ["box"] (defScope s__law_rows) := ⟨rfl, rfl, rfl, by decide +kernel, rfl, by decide +kernel, by decide +kernel⟩
abbrev s__law_is_count : Stmt := top 24
theorem sc__law_is_count : FnScope ["value"] ["value"] (defScope s__law_is_count) := ⟨rfl, rfl, rfl, by decide +kernel, rfl, by decide +kernel, by decide +kernel⟩
abbrev s__law_are_rules : Stmt := top 25
theorem sc__law_are_rules : FnScope ["value", "k", "row"] ["value"] (defScope s__law_are_rules) := ⟨rfl, rfl, rfl, by decide +kernel, rfl, by decide +kernel, by decide +kernel⟩
abbrev s__law_ended : Stmt := top 26
theorem sc__law_ended : FnScope ["box", "rows"] ["box", "rows"] (defScope s__law_ended) := ⟨rfl, rfl, rfl, by decide +kernel, rfl, by decide +kernel, by decide +kernel⟩
abbrev s__law_values : Stmt := top 27
theorem sc__law_values : FnScope ["box", "full", "rows", "k", "length", "keep", "held", "ahead", "floor", "spots", "found", "longer", "spot"] ["box", "full", "rows"] (defScope s__law_values) := ⟨rfl, rfl, rfl, by decide +kernel, rfl, by decide +kernel, by decide +kernel⟩
abbrev s__law_asked_right : Stmt := top 28
theorem sc__law_asked_right : FnScope ["value", "due", "way", "handed", "told", "e"] ["value", "due", "way"] (defScope s__law_asked_right) := ⟨rfl, rfl, rfl, by decide +kernel, rfl, by decide +kernel, by decide +kernel⟩
abbrev s__law_of_grain : Stmt := top 29
theorem sc__law_of_grain : FnScope ["rules", "grain", "door", "way", "handed", "e"] ["rules", "grain", "door", "way"] (defScope s__law_of_grain) := ⟨rfl, rfl, rfl, by decide +kernel, rfl, by decide +kernel, by decide +kernel⟩
abbrev s__law_grains_right : Stmt := top 30
theorem sc__law_grains_right : FnScope ["rules", "rows", "way", "many", "k", "grain", "due", "door"] ["rules", "rows", "way"] (defScope s__law_grains_right) := ⟨rfl, rfl, rfl, by decide +kernel, rfl, by decide +kernel, by decide +kernel⟩
abbrev s__law_equal_right : Stmt := top 31
theorem sc__law_equal_right : FnScope ["rules", "rows", "one", "other", "due", "odd"] ["rules", "rows"] (defScope s__law_equal_right) := ⟨rfl, rfl, rfl, by decide +kernel, rfl, by decide +kernel, by decide +kernel⟩
abbrev s__law_right : Stmt := top 32
theorem sc__law_right : FnScope ["box", "fulls", "rows", "handed", "rules", "k", "turn", "way", "value", "full", "row", "e"] ["box"] (defScope s__law_right) := ⟨rfl, rfl, rfl, by decide +kernel, rfl, by decide +kernel, by decide +kernel⟩
abbrev s_law : Stmt := top 33
theorem sc_law : FnScope ["script", "k"] ["script"] (defScope s_law) := ⟨rfl, rfl, rfl, by decide +kernel, rfl, by decide +kernel, by decide +kernel⟩
abbrev s_Rules____init__ : Stmt := inClass (top 18) 0
theorem sc_Rules____init__ : FnScope ["self", "rows"] ["self", "rows"] (defScope s_Rules____init__) := ⟨rfl, rfl, rfl, by decide +kernel, rfl, by decide +kernel, by decide +kernel⟩
abbrev s_Rules____eq__ : Stmt := inClass (top 18) 1
theorem sc_Rules____eq__ : FnScope ["self", "other"] ["self", "other"] (defScope s_Rules____eq__) := ⟨rfl, rfl, rfl, by decide +kernel, rfl, by decide +kernel, by decide +kernel⟩
abbrev s_Rules____len__ : Stmt := inClass (top 18) 2
theorem sc_Rules____len__ : FnScope ["self"] ["self"] (defScope s_Rules____len__) := ⟨rfl, rfl, rfl, by decide +kernel, rfl, by decide +kernel, by decide +kernel⟩
abbrev s_Rules__length : Stmt := inClass (top 18) 3
theorem sc_Rules__length : FnScope ["self", "grain"] ["self", "grain"] (defScope s_Rules__length) := ⟨rfl, rfl, rfl, by decide +kernel, rfl, by decide +kernel, by decide +kernel⟩
abbrev s_Rules__keep : Stmt := inClass (top 18) 4
theorem sc_Rules__keep : FnScope ["self", "grain"] ["self", "grain"] (defScope s_Rules__keep) := ⟨rfl, rfl, rfl, by decide +kernel, rfl, by decide +kernel, by decide +kernel⟩
abbrev s_Rules__step : Stmt := inClass (top 18) 5
theorem sc_Rules__step : FnScope ["self", "grain"] ["self", "grain"] (defScope s_Rules__step) := ⟨rfl, rfl, rfl, by decide +kernel, rfl, by decide +kernel, by decide +kernel⟩
abbrev s_Rules___ask_grain : Stmt := inClass (top 18) 13
theorem sc_Rules___ask_grain : FnScope ["self", "grain"] ["self", "grain"] (defScope s_Rules___ask_grain) := ⟨rfl, rfl, rfl, by decide +kernel, rfl, by decide +kernel, by decide +kernel⟩
/-- what the top has left -/
structure Tx (K : PySem.W.Frag) (mg : Str → Option Value) (base : Heap) where
  sys : ∃ o, base.get? sysModules = some o
  m_abs : mg "abs" = none
  m_all : mg "all" = none
  m_bool : mg "bool" = none
  m_dict : mg "dict" = none
  m_int : mg "int" = none
  m_isinstance : mg "isinstance" = none
  m_len : mg "len" = none
  m_list : mg "list" = none
  m_max : mg "max" = none
  m_min : mg "min" = none
  m_range : mg "range" = none
  m_repr : mg "repr" = none
  m_str : mg "str" = none
  m_sum : mg "sum" = none
  m_tuple : mg "tuple" = none
  m_zip : mg "zip" = none
  k__MOST_GRAINS : ∃ u, mg "_MOST_GRAINS" = some u ∧ RelV (.int 4) u
  grain : Addr
  cl : String → Addr
  i_InvalidRules : Addr
  low_InvalidRules : PySem.EgX.Low_givenN K mg "InvalidRules" "InvalidRules.__init__" (cl "InvalidRules") grain i_InvalidRules
  i_NoGrain : Addr
  low_NoGrain : PySem.EgX.Low_grainN K mg "NoGrain" "NoGrain.__init__" (cl "NoGrain") grain i_NoGrain
  ex : ∀ C, C ∈ Ls → ∀ n, n ∈ Ls → PySem.W.exmOne K (.ref (cl C)) (.ref (cl n)) = some (decide (C = n))
  a_is_list : Addr
  fd_is_list : FuncData
  g_is_list : mg "is_list" = some (.ref a_is_list)
  F_is_list : Fun K "is_list" "is_list" s_is_list a_is_list fd_is_list
  b_is_list : Binds K fd_is_list ["value"] []
  a_is_integer : Addr
  fd_is_integer : FuncData
  g_is_integer : mg "is_integer" = some (.ref a_is_integer)
  F_is_integer : Fun K "is_integer" "is_integer" s_is_integer a_is_integer fd_is_integer
  b_is_integer : Binds K fd_is_integer ["value"] []
  a_is_count : Addr
  fd_is_count : FuncData
  g_is_count : mg "is_count" = some (.ref a_is_count)
  F_is_count : Fun K "is_count" "is_count" s_is_count a_is_count fd_is_count
  b_is_count : Binds K fd_is_count ["value"] []
  a_is_positive : Addr
  fd_is_positive : FuncData
  g_is_positive : mg "is_positive" = some (.ref a_is_positive)
  F_is_positive : Fun K "is_positive" "is_positive" s_is_positive a_is_positive fd_is_positive
  b_is_positive : Binds K fd_is_positive ["value"] []
  a__are_rules : Addr
  fd__are_rules : FuncData
  g__are_rules : mg "_are_rules" = some (.ref a__are_rules)
  F__are_rules : Fun K "_are_rules" "_are_rules" s__are_rules a__are_rules fd__are_rules
  b__are_rules : Binds K fd__are_rules ["rows"] []
  a__is_row : Addr
  fd__is_row : FuncData
  g__is_row : mg "_is_row" = some (.ref a__is_row)
  F__is_row : Fun K "_is_row" "_is_row" s__is_row a__is_row fd__is_row
  b__is_row : Binds K fd__is_row ["row"] []
  a__may_follow : Addr
  fd__may_follow : FuncData
  g__may_follow : mg "_may_follow" = some (.ref a__may_follow)
  F__may_follow : Fun K "_may_follow" "_may_follow" s__may_follow a__may_follow fd__may_follow
  b__may_follow : Binds K fd__may_follow ["row", "ahead"] []
  a__law_cell : Addr
  fd__law_cell : FuncData
  g__law_cell : mg "_law_cell" = some (.ref a__law_cell)
  F__law_cell : Fun K "_law_cell" "_law_cell" s__law_cell a__law_cell fd__law_cell
  b__law_cell : Binds K fd__law_cell ["script", "k"] []
  a__law_box : Addr
  fd__law_box : FuncData
  g__law_box : mg "_law_box" = some (.ref a__law_box)
  F__law_box : Fun K "_law_box" "_law_box" s__law_box a__law_box fd__law_box
  b__law_box : Binds K fd__law_box ["great"] []
  a__law_take : Addr
  fd__law_take : FuncData
  g__law_take : mg "_law_take" = some (.ref a__law_take)
  F__law_take : Fun K "_law_take" "_law_take" s__law_take a__law_take fd__law_take
  b__law_take : Binds K fd__law_take ["box", "many"] []
  a__law_rows : Addr
  fd__law_rows : FuncData
  g__law_rows : mg "_law_rows" = some (.ref a__law_rows)
  F__law_rows : Fun K "_law_rows" "_law_rows" s__law_rows a__law_rows fd__law_rows
  b__law_rows : Binds K fd__law_rows ["box"] []
  a__law_is_count : Addr
  fd__law_is_count : FuncData
  g__law_is_count : mg "_law_is_count" = some (.ref a__law_is_count)
  F__law_is_count : Fun K "_law_is_count" "_law_is_count" s__law_is_count a__law_is_count fd__law_is_count
  b__law_is_count : Binds K fd__law_is_count ["value"] []
  a__law_are_rules : Addr
  fd__law_are_rules : FuncData
  g__law_are_rules : mg "_law_are_rules" = some (.ref a__law_are_rules)
  F__law_are_rules : Fun K "_law_are_rules" "_law_are_rules" s__law_are_rules a__law_are_rules fd__law_are_rules
  b__law_are_rules : Binds K fd__law_are_rules ["value"] []
  a__law_ended : Addr
  fd__law_ended : FuncData
  g__law_ended : mg "_law_ended" = some (.ref a__law_ended)
  F__law_ended : Fun K "_law_ended" "_law_ended" s__law_ended a__law_ended fd__law_ended
  b__law_ended : Binds K fd__law_ended ["box", "rows"] []
  a__law_values : Addr
  fd__law_values : FuncData
  g__law_values : mg "_law_values" = some (.ref a__law_values)
  F__law_values : Fun K "_law_values" "_law_values" s__law_values a__law_values fd__law_values
  b__law_values : Binds K fd__law_values ["box", "full", "rows"] []
  a__law_asked_right : Addr
  fd__law_asked_right : FuncData
  g__law_asked_right : mg "_law_asked_right" = some (.ref a__law_asked_right)
  F__law_asked_right : Fun K "_law_asked_right" "_law_asked_right" s__law_asked_right a__law_asked_right fd__law_asked_right
  b__law_asked_right : Binds K fd__law_asked_right ["value", "due", "way"] []
  a__law_of_grain : Addr
  fd__law_of_grain : FuncData
  g__law_of_grain : mg "_law_of_grain" = some (.ref a__law_of_grain)
  F__law_of_grain : Fun K "_law_of_grain" "_law_of_grain" s__law_of_grain a__law_of_grain fd__law_of_grain
  b__law_of_grain : Binds K fd__law_of_grain ["rules", "grain", "door", "way"] []
  a__law_grains_right : Addr
  fd__law_grains_right : FuncData
  g__law_grains_right : mg "_law_grains_right" = some (.ref a__law_grains_right)
  F__law_grains_right : Fun K "_law_grains_right" "_law_grains_right" s__law_grains_right a__law_grains_right fd__law_grains_right
  b__law_grains_right : Binds K fd__law_grains_right ["rules", "rows", "way"] []
  a__law_equal_right : Addr
  fd__law_equal_right : FuncData
  g__law_equal_right : mg "_law_equal_right" = some (.ref a__law_equal_right)
  F__law_equal_right : Fun K "_law_equal_right" "_law_equal_right" s__law_equal_right a__law_equal_right fd__law_equal_right
  b__law_equal_right : Binds K fd__law_equal_right ["rules", "rows"] []
  a__law_right : Addr
  fd__law_right : FuncData
  g__law_right : mg "_law_right" = some (.ref a__law_right)
  F__law_right : Fun K "_law_right" "_law_right" s__law_right a__law_right fd__law_right
  b__law_right : Binds K fd__law_right ["box"] []
  a_law : Addr
  fd_law : FuncData
  g_law : mg "law" = some (.ref a_law)
  F_law : Fun K "law" "law" s_law a_law fd_law
  b_law : Binds K fd_law ["script"] []
  a_Rules____init__ : Addr
  fd_Rules____init__ : FuncData
  F_Rules____init__ : Fun K "__init__" "Rules.__init__" s_Rules____init__ a_Rules____init__ fd_Rules____init__
  b_Rules____init__ : Binds K fd_Rules____init__ ["self", "rows"] []
  a_Rules____eq__ : Addr
  fd_Rules____eq__ : FuncData
  F_Rules____eq__ : Fun K "__eq__" "Rules.__eq__" s_Rules____eq__ a_Rules____eq__ fd_Rules____eq__
  b_Rules____eq__ : Binds K fd_Rules____eq__ ["self", "other"] []
  a_Rules____len__ : Addr
  fd_Rules____len__ : FuncData
  F_Rules____len__ : Fun K "__len__" "Rules.__len__" s_Rules____len__ a_Rules____len__ fd_Rules____len__
  b_Rules____len__ : Binds K fd_Rules____len__ ["self"] []
  a_Rules__length : Addr
  fd_Rules__length : FuncData
  F_Rules__length : Fun K "length" "Rules.length" s_Rules__length a_Rules__length fd_Rules__length
  b_Rules__length : Binds K fd_Rules__length ["self", "grain"] []
  a_Rules__keep : Addr
  fd_Rules__keep : FuncData
  F_Rules__keep : Fun K "keep" "Rules.keep" s_Rules__keep a_Rules__keep fd_Rules__keep
  b_Rules__keep : Binds K fd_Rules__keep ["self", "grain"] []
  a_Rules__step : Addr
  fd_Rules__step : FuncData
  F_Rules__step : Fun K "step" "Rules.step" s_Rules__step a_Rules__step fd_Rules__step
  b_Rules__step : Binds K fd_Rules__step ["self", "grain"] []
  a_Rules___ask_grain : Addr
  fd_Rules___ask_grain : FuncData
  F_Rules___ask_grain : Fun K "_ask_grain" "Rules._ask_grain" s_Rules___ask_grain a_Rules___ask_grain fd_Rules___ask_grain
  b_Rules___ask_grain : Binds K fd_Rules___ask_grain ["self", "grain"] []
  c_Rules : Addr
  C_Rules : Cls K c_Rules
  q_Rules : EqC K c_Rules a_Rules____eq__
  ln_Rules : LenC K c_Rules a_Rules____len__
  g_Rules : mg "Rules" = some (.ref c_Rules)
  M_Rules : Mk K c_Rules a_Rules____init__
  n_Rules_rows : NoAttr K c_Rules "rows"
  h_Rules__length : Meth K c_Rules "length" a_Rules__length
  h_Rules__keep : Meth K c_Rules "keep" a_Rules__keep
  h_Rules__step : Meth K c_Rules "step" a_Rules__step
  h_Rules___ask_grain : Meth K c_Rules "_ask_grain" a_Rules___ask_grain
  os : ∀ C, C ∈ [c_Rules] → OwnC K C
  kb_Rules____init___1_rows : KB fd_Rules____init__ ["self", "rows"] ["rows"] 1 (perm1 [0]) (perm1 [0])
  kb_Rules__keep_1_grain : KB fd_Rules__keep ["self", "grain"] ["grain"] 1 (perm1 [0]) (perm1 [0])
  kb_Rules__length_1_grain : KB fd_Rules__length ["self", "grain"] ["grain"] 1 (perm1 [0]) (perm1 [0])
  kb_Rules__step_1_grain : KB fd_Rules__step ["self", "grain"] ["grain"] 1 (perm1 [0]) (perm1 [0])
end Mi.K18

/-! K18t -/
set_option Elab.async false
set_option linter.all false
set_option maxRecDepth 100000
set_option maxHeartbeats 2000000

namespace Mi.K18
open PySem PySem.Spec PyProof.Rows L2 Eg Mi
theorem noX {X : Cx} : ∀ σ, PassesAt (L2N.CX X.prog X.w) X σ ((fun _ => E0) σ) := fun σ pins H s e s' I h => L2N.passL pins σ H s e s' I h
section
variable {P : Program} {w : World} {K : PySem.W.Frag} {mg : Str → Option Value} {base : Heap}
theorem ok_is_list (T : Tx K mg base) : FnG P w K mg base (L2N.CX P w) 1 T.a_is_list T.fd_is_list ["value"] (SpM K T.cl (m_is_list T.c_Rules)) := by
  exact fn_miN T.F_is_list sc_is_list (fun cdv A outer s H E hr hgd => ⟨_, (pss_one (ps_ret (pe_callB (r := rIsiTE K [T.c_Rules]) (call_isiTE T.os) (by rfl) T.m_isinstance (by decide +kernel) (pa_cons (pv 0) (pa_cons (pe_tup (pa_cons (pe_bltn (v := .ty "list") (u := .type "list") (by rfl) T.m_list (by decide +kernel) rfl) (pa_cons (pe_bltn (v := .ty "tuple") (u := .type "tuple") (by rfl) T.m_tuple (by decide +kernel) rfl) pa_nil))) pa_nil))))), (ms_ret (me_isi2O T.os (by decide) (by decide) isi_list isi_tuple me_v))⟩)
theorem ok_is_integer (T : Tx K mg base) : FnG P w K mg base (L2N.CX P w) 1 T.a_is_integer T.fd_is_integer ["value"] (SpM K T.cl (m_is_integer T.c_Rules)) := by
  exact fn_miN T.F_is_integer sc_is_integer (fun cdv A outer s H E hr hgd => ⟨_, (pss_one (ps_ret (pe_and (pe_callB (r := rIsiE K [T.c_Rules]) (call_isiE T.os) (by rfl) T.m_isinstance (by decide +kernel) (pa_cons (pv 0) (pa_cons (pe_bltn (v := .ty "int") (u := .type "int") (by rfl) T.m_int (by decide +kernel) rfl) pa_nil))) (pe_one (pe_not (pe_callB (r := rIsiE K [T.c_Rules]) (call_isiE T.os) (by rfl) T.m_isinstance (by decide +kernel) (pa_cons (pv 0) (pa_cons (pe_bltn (v := .ty "bool") (u := .type "bool") (by rfl) T.m_bool (by decide +kernel) rfl) pa_nil)))))))), (ms_ret (me_and (me_isiO T.os (by decide) isi_int me_v) (me_not (me_isiO T.os (by decide) isi_bool me_v))))⟩)
theorem ok_is_count (T : Tx K mg base) : FnG P w K mg base (L2N.CX P w) 2 T.a_is_count T.fd_is_count ["value"] (SpM K T.cl (m_is_count T.c_Rules)) := by
  have G_is_integer : FnG P w K mg base (L2N.CX P w) 1 T.a_is_integer T.fd_is_integer ["value"] (SpM K T.cl (m_is_integer T.c_Rules)) := ok_is_integer T
  exact fn_miN T.F_is_count sc_is_count (fun cdv A outer s H E hr hgd => ⟨_, (pss_one (ps_ret (pe_and (pe_callG G_is_integer (hr.mono (by decide)) hgd (by rfl) T.g_is_integer T.F_is_integer.kp T.b_is_integer noX (pa_cons (pv 0) pa_nil)) (pe_one (pe_cmpR op_ge (pv 0) pe_int (nomark _)))))), (ms_ret (me_and (me_call0A (ma_cons me_v ma_nil)) (me_2 ok_cmp me_v me_int)))⟩)
theorem ok_is_positive (T : Tx K mg base) : FnG P w K mg base (L2N.CX P w) 2 T.a_is_positive T.fd_is_positive ["value"] (SpM K T.cl (m_is_positive T.c_Rules)) := by
  have G_is_integer : FnG P w K mg base (L2N.CX P w) 1 T.a_is_integer T.fd_is_integer ["value"] (SpM K T.cl (m_is_integer T.c_Rules)) := ok_is_integer T
  exact fn_miN T.F_is_positive sc_is_positive (fun cdv A outer s H E hr hgd => ⟨_, (pss_one (ps_ret (pe_and (pe_callG G_is_integer (hr.mono (by decide)) hgd (by rfl) T.g_is_integer T.F_is_integer.kp T.b_is_integer noX (pa_cons (pv 0) pa_nil)) (pe_one (pe_cmpR op_ge (pv 0) pe_int (nomark _)))))), (ms_ret (me_and (me_call0A (ma_cons me_v ma_nil)) (me_2 ok_cmp me_v me_int)))⟩)
theorem ok__is_row (T : Tx K mg base) : FnG P w K mg base (L2N.CX P w) 3 T.a__is_row T.fd__is_row ["row"] (SpM K T.cl (m__is_row T.c_Rules)) := by
  have G_is_positive : FnG P w K mg base (L2N.CX P w) 2 T.a_is_positive T.fd_is_positive ["value"] (SpM K T.cl (m_is_positive T.c_Rules)) := ok_is_positive T
  exact fn_miN T.F__is_row sc__is_row (fun cdv A outer s H E hr hgd => ⟨_, (pss_cons (ps_if (PW.pt (pw_or (pt_not (pt_val (pe_callB (r := rIsiE K [T.c_Rules]) (call_isiE T.os) (by rfl) T.m_isinstance (by decide +kernel) (pa_cons (pv 0) (pa_cons (pe_bltn (v := .ty "tuple") (u := .type "tuple") (by rfl) T.m_tuple (by decide +kernel) rfl) pa_nil))))) (pw_or1 (pt_cmpR (r := rNeU K) (op_neU hr.units) (pe_callB (r := rLenU K) call_len (by rfl) T.m_len (by decide +kernel) (pa_cons (pv 0) pa_nil)) pe_int (nomark _))))) (pss_one (ps_ret pe_bl)) pss_nil) (pss_one (ps_ret (pe_and (pe_callG G_is_positive (hr.mono (by decide)) hgd (by rfl) T.g_is_positive T.F_is_positive.kp T.b_is_positive noX (pa_cons (pe_ix (r := rIx K) ix_seq (pv 0) pe_int (fun _ _ => rfl)) pa_nil)) (pe_one (pe_or (pe_cmpR op_isN (pe_ix (r := rIx K) ix_seq (pv 0) pe_int (fun _ _ => rfl)) pe_non (nomark _)) (pe_one (pe_callG G_is_positive (hr.mono (by decide)) hgd (by rfl) T.g_is_positive T.F_is_positive.kp T.b_is_positive noX (pa_cons (pe_ix (r := rIx K) ix_seq (pv 0) pe_int (fun _ _ => rfl)) pa_nil))))))))), (ms_seq (ms_if (mt_or (mt_not (mt_B (me_isiO T.os (by decide) isi_tuple me_v))) (mt_test (me_2 (ok_ne (KF := K)) (me_len (KF := K) me_v) me_int))) (ms_ret me_bl) ms_next) (ms_ret (me_and (me_call0A (ma_cons (me_ix (KF := K) me_v me_int) ma_nil)) (me_or (me_2 ok_isN (me_ix (KF := K) me_v me_int) me_non) (me_call0A (ma_cons (me_ix (KF := K) me_v me_int) ma_nil))))))⟩)
theorem ok__may_follow (T : Tx K mg base) : FnG P w K mg base (L2N.CX P w) 1 T.a__may_follow T.fd__may_follow ["row", "ahead"] (SpM K T.cl (m__may_follow T.c_Rules)) := by
  exact fn_miN T.F__may_follow sc__may_follow (fun cdv A outer s H E hr hgd => ⟨_, (pss_cons (ps_if (PW.pt (pw_or (pt_cmpR op_isN (pe_ix (r := rIx K) ix_seq (pv 1) pe_int (fun _ _ => rfl)) pe_non (nomark _)) (pw_or (pt_cmpR (r := rNeU K) (op_neU hr.units) (pe_op op_mod (pe_ix (r := rIx K) ix_seq (pv 0) pe_int (fun _ _ => rfl)) (pe_ix (r := rIx K) ix_seq (pv 1) pe_int (fun _ _ => rfl))) pe_int (nomark _)) (pw_or1 (pt_cmpR op_lt (pe_ix (r := rIx K) ix_seq (pv 0) pe_int (fun _ _ => rfl)) (pe_op (r := rTimesZ K) op_timesZ pe_int (pe_ix (r := rIx K) ix_seq (pv 1) pe_int (fun _ _ => rfl))) (nomark _)))))) (pss_one (ps_ret pe_bl)) pss_nil) (pss_one (ps_ret (pe_or (pe_cmpR op_isN (pe_ix (r := rIx K) ix_seq (pv 0) pe_int (fun _ _ => rfl)) pe_non (nomark _)) (pe_one (pe_cmpR op_ge (pe_ix (r := rIx K) ix_seq (pv 0) pe_int (fun _ _ => rfl)) (pe_op (r := rPlus K) op_plus (pe_ix (r := rIx K) ix_seq (pv 1) pe_int (fun _ _ => rfl)) (pe_ix (r := rIx K) ix_seq (pv 0) pe_int (fun _ _ => rfl))) (nomark _))))))), (ms_seq (ms_if (mt_or (mt_test (me_2 ok_isN (me_ix (KF := K) me_v me_int) me_non)) (mt_or (mt_test (me_2 (ok_ne (KF := K)) (me_2 ok_mod (me_ix (KF := K) me_v me_int) (me_ix (KF := K) me_v me_int)) me_int)) (mt_test (me_2 ok_cmp (me_ix (KF := K) me_v me_int) (me_2 (ok_mul (KF := K)) me_int (me_ix (KF := K) me_v me_int)))))) (ms_ret me_bl) ms_next) (ms_ret (me_or (me_2 ok_isN (me_ix (KF := K) me_v me_int) me_non) (me_2 ok_cmp (me_ix (KF := K) me_v me_int) (me_2 (ok_add (KF := K)) (me_ix (KF := K) me_v me_int) (me_ix (KF := K) me_v me_int))))))⟩)
theorem ok__are_rules (T : Tx K mg base) : FnG P w K mg base (L2N.CX P w) 4 T.a__are_rules T.fd__are_rules ["rows"] (SpM K T.cl (m__are_rules T.c_Rules)) := by
  have G_is_list : FnG P w K mg base (L2N.CX P w) 1 T.a_is_list T.fd_is_list ["value"] (SpM K T.cl (m_is_list T.c_Rules)) := ok_is_list T
  have G__is_row : FnG P w K mg base (L2N.CX P w) 3 T.a__is_row T.fd__is_row ["row"] (SpM K T.cl (m__is_row T.c_Rules)) := ok__is_row T
  have G__may_follow : FnG P w K mg base (L2N.CX P w) 1 T.a__may_follow T.fd__may_follow ["row", "ahead"] (SpM K T.cl (m__may_follow T.c_Rules)) := ok__may_follow T
  exact fn_miN T.F__are_rules sc__are_rules (fun cdv A outer s H E hr hgd => ⟨_, (pss_cons (ps_if (PW.pt (pw_or (pt_not (pt_val (pe_callG G_is_list (hr.mono (by decide)) hgd (by rfl) T.g_is_list T.F_is_list.kp T.b_is_list noX (pa_cons (pv 0) pa_nil)))) (pw_or1 (pt_not (pt_chain op_le op_le pe_int (pe_callB (r := rLenU K) call_len (by rfl) T.m_len (by decide +kernel) (pa_cons (pv 0) pa_nil)) (pe_glob (v := .int 4) (by rfl) T.k__MOST_GRAINS.choose_spec.1 T.k__MOST_GRAINS.choose_spec.2)))))) (pss_one (ps_ret pe_bl)) pss_nil) (pss_cons (ps_if (pt_not (pt_val (pe_callB (r := rAll K) (cr_all rfl) (by rfl) T.m_all (by decide +kernel) (pa_cons (pe_lc (own := [("row", 1)]) (tt := tYes) rfl sc__are_rules.nd (pi_seq (pv 0)) (blkOk_by (own := [("row", 1)]) (N := ["rows", "row", "ahead"]) (sc := defScope s__are_rules) (by decide +kernel)) (fun _ _ _ _ _ => (pg_name (i := 1) sc__are_rules.nd rfl (Or.inl rfl))) (fun _ _ _ _ _ => pts_nil) (fun _ _ _ _ _ => (pe_callG G__is_row (hr.mono (by decide)) hgd (by rfl) T.g__is_row T.F__is_row.kp T.b__is_row noX (pa_cons (pv 1) pa_nil)))) pa_nil)))) (pss_one (ps_ret pe_bl)) pss_nil) (pss_one (ps_ret (pe_and (pe_cmpR (r := rEqU K) (op_eqU hr.units) (pe_ix (r := rIx K) ix_seq (pe_ix (r := rIx K) ix_seq (pv 0) pe_int (fun _ _ => rfl)) pe_int (fun _ _ => rfl)) pe_int (nomark _)) (pe_one (pe_callB (r := rAll K) (cr_all rfl) (by rfl) T.m_all (by decide +kernel) (pa_cons (pe_lc (own := [("ahead", 2), ("row", 1)]) (g := gTup K 2 (gCons (gName 2) (gCons (gName 1) gNil))) (tt := tYes) rfl sc__are_rules.nd (RZ.pi_zipA (by rfl) T.m_zip (pa_cons (pv 0) (pa_cons (pe_slice (r := rSlU K) sl_any (pv 0) (po_some pe_int) po_none) pa_nil))) (blkOk_by (own := [("ahead", 2), ("row", 1)]) (N := ["rows", "row", "ahead"]) (sc := defScope s__are_rules) (by decide +kernel)) (fun _ _ _ _ _ => (pg_tup rfl (pgs_cons (pg_name (i := 2) sc__are_rules.nd rfl (Or.inl rfl)) (pgs_cons (pg_name (i := 1) sc__are_rules.nd rfl (Or.inl rfl)) pgs_nil)))) (fun _ _ _ _ _ => pts_nil) (fun _ _ _ _ _ => (pe_callG G__may_follow (hr.mono (by decide)) hgd (by rfl) T.g__may_follow T.F__may_follow.kp T.b__may_follow noX (pa_cons (pv 1) (pa_cons (pv 2) pa_nil))))) pa_nil)))))))), (ms_seq (ms_if (mt_or (mt_not (mt_B (me_call0A (ma_cons me_v ma_nil)))) (mt_not (mt_test (me_chain ok_cmp ok_cmp me_int (me_len (KF := K) me_v) me_int)))) (ms_ret me_bl) ms_next) (ms_seq (ms_if (mt_not (mt_B (me_b1 (ok_all (KF := K)) (me_of_mf (mf_lcD (KF := K) rfl me_v mt_yes (me_call0A (ma_cons me_v ma_nil))))))) (ms_ret me_bl) ms_next) (ms_ret (me_and (me_2 (ok_eq (KF := K)) (me_ix (KF := K) (me_ix (KF := K) me_v me_int) me_int) me_int) (me_b1 (ok_all (KF := K)) (me_of_mf (mf_lcZ (KF := K) rfl (ma_cons me_v (ma_cons (me_slD (KF := K) me_v (mo_at me_int) mo_no) ma_nil)) mt_yes (me_call0A (ma_cons me_v (ma_cons me_v ma_nil))))))))))⟩)
theorem ok__law_cell (T : Tx K mg base) : FnG P w K mg base (L2N.CX P w) 1 T.a__law_cell T.fd__law_cell ["script", "k"] (SpM K T.cl (m__law_cell T.c_Rules)) := by
  exact fn_miN T.F__law_cell sc__law_cell (fun cdv A outer s H E hr hgd => ⟨_, (pss_one (ps_ret (pe_ifExp (pt_cmpR op_lt (pv 1) (pe_callB (r := rLenU K) call_len (by rfl) T.m_len (by decide +kernel) (pa_cons (pv 0) pa_nil)) (nomark _)) (pe_ix (r := rIx K) ix_seq (pv 0) (pv 1) (fun _ _ => rfl)) (pe_op (r := rPlus K) op_plus (pe_op (r := rTimesZ K) op_timesZ pe_int (pv 1)) (pe_op op_mod (pe_callB (r := rSum K) (cr_sum rfl) (by rfl) T.m_sum (by decide +kernel) (pa_cons (pe_slice (r := rSlU K) sl_any (pv 0) po_none (po_some pe_int)) pa_nil)) pe_int))))), (ms_ret (me_if (mt_test (me_2 ok_cmp me_v me_lenV)) (me_ixV me_v) (me_2 (ok_add (KF := K)) (me_2 (ok_mul (KF := K)) me_int me_v) (me_2 ok_mod (me_b1 (ok_sum (KF := K)) (me_slV mo_no (mo_at me_int))) me_int))))⟩)
theorem ok__law_box (T : Tx K mg base) : FnG P w K mg base (L2N.CX P w) 1 T.a__law_box T.fd__law_box ["great"] (SpM K T.cl (m__law_box T.c_Rules)) := by
  exact fn_miN T.F__law_box sc__law_box (fun cdv A outer s H E hr hgd => ⟨_, (pss_one (ps_ret (pe_lst (pa_cons (pe_callB call_abs (by rfl) T.m_abs (by decide +kernel) (pa_cons (pv 0) pa_nil)) (pa_cons (pe_cmpR op_ge (pe_callB call_abs (by rfl) T.m_abs (by decide +kernel) (pa_cons (pv 0) pa_nil)) (pe_op op_pow pe_int pe_int) (nomark _)) (pa_cons (pe_op op_mod (pe_callTy call_int1 (by rfl) T.m_int (by decide +kernel) (pa_cons (pe_callB call_abs (by rfl) T.m_abs (by decide +kernel) (pa_cons (pv 0) pa_nil)) pa_nil)) pe_int) (pa_cons pe_int pa_nil))))))), (ms_ret (me_new (mf_lst (ma_cons (me_b1 ok_abs me_v) (ma_cons (me_2 ok_cmp (me_b1 ok_abs me_v) (me_2 ok_pow me_int me_int)) (ma_cons (me_2 ok_mod (me_b1 ok_int (me_b1 ok_abs me_v)) me_int) (ma_cons me_int ma_nil)))))))⟩)
theorem ok__law_take (T : Tx K mg base) : FnG P w K mg base (L2N.CX P w) 1 T.a__law_take T.fd__law_take ["box", "many"] (SpM K T.cl (m__law_take T.c_Rules)) := by
  exact fn_miN T.F__law_take sc__law_take (fun cdv A outer s H E hr hgd => ⟨_, (pss_cons (ps_if (PW.pt (pw_and (pt_val (pe_ix (r := rIx K) ix_seq (pv 0) pe_int (fun _ _ => rfl))) (pw_and1 (pt_cmpR op_gt (pe_ix (r := rIx K) ix_seq (pv 0) pe_int (fun _ _ => rfl)) pe_int (nomark _))))) (pss_cons (ps_set (i := 3) sc__law_take.nd rfl (Or.inl rfl) (pe_op op_mod (pe_callTy call_int1 (by rfl) T.m_int (by decide +kernel) (pa_cons (pe_ix (r := rIx K) ix_seq (pv 0) pe_int (fun _ _ => rfl)) pa_nil)) (pv 1))) (pss_cons (ps_asg (pe_op op_fdivZ (pe_ix (r := rIx K) ix_seq (pv 0) pe_int (fun _ _ => rfl)) (pv 1)) (pg_sub (pv 0) pe_int set_list)) (pss_one (ps_ret (pv 3))))) pss_nil) (pss_cons (ps_asg (pe_op (r := rPlus K) op_plus (pe_ix (r := rIx K) ix_seq (pv 0) pe_int (fun _ _ => rfl)) pe_int) (pg_sub (pv 0) pe_int set_list)) (pss_cons (ps_set (i := 2) sc__law_take.nd rfl (Or.inl rfl) (pe_op op_mod (pe_callTy call_int1 (by rfl) T.m_int (by decide +kernel) (pa_cons (pe_op op_pow (pe_op (r := rPlus K) op_plus (pe_op (r := rPlus K) op_plus (pe_ix (r := rIx K) ix_seq (pv 0) pe_int (fun _ _ => rfl)) (pe_op (r := rTimesZ K) op_timesZ pe_int (pe_ix (r := rIx K) ix_seq (pv 0) pe_int (fun _ _ => rfl)))) pe_int) pe_int) pa_nil)) pe_int)) (pss_one (ps_ret (pe_op op_mod (pe_op op_fdivZ (pe_op op_mod (pe_callTy call_int1 (by rfl) T.m_int (by decide +kernel) (pa_cons (pe_op op_pow (pe_op (r := rPlus K) op_plus (pe_op (r := rTimesZ K) op_timesZ (pv 2) pe_int) (pe_op (r := rTimesZ K) op_timesZ pe_int (pe_ix (r := rIx K) ix_seq (pv 0) pe_int (fun _ _ => rfl)))) pe_int) pa_nil)) pe_int) pe_int) (pv 1))))))), (ms_seq (ms_if (mt_and (mt_B (me_ix (KF := K) me_v me_int)) (mt_test (me_2 ok_cmp (me_ix (KF := K) me_v me_int) me_int))) (ms_seq (ms_asg (KF := K) (tg := .n 3) (me_2 ok_mod (me_b1 ok_int (me_ix (KF := K) me_v me_int)) me_v)) (ms_seq (ms_set me_int (me_2 ok_div (me_ix (KF := K) me_v me_int) me_v)) (ms_ret me_v))) ms_next) (ms_seq (ms_set me_int (me_2 (ok_add (KF := K)) (me_ix (KF := K) me_v me_int) me_int)) (ms_seq (ms_asg (KF := K) (tg := .n 2) (me_2 ok_mod (me_b1 ok_int (me_2 ok_pow (me_2 (ok_add (KF := K)) (me_2 (ok_add (KF := K)) (me_ix (KF := K) me_v me_int) (me_2 (ok_mul (KF := K)) me_int (me_ix (KF := K) me_v me_int))) me_int) me_int)) me_int)) (ms_ret (me_2 ok_mod (me_2 ok_div (me_2 ok_mod (me_b1 ok_int (me_2 ok_pow (me_2 (ok_add (KF := K)) (me_2 (ok_mul (KF := K)) me_v me_int) (me_2 (ok_mul (KF := K)) me_int (me_ix (KF := K) me_v me_int))) me_int)) me_int) me_int) me_v)))))⟩)
theorem ok__law_rows (T : Tx K mg base) : FnG P w K mg base (L2N.CX P w) 2 T.a__law_rows T.fd__law_rows ["box"] (SpM K T.cl (m__law_rows T.c_Rules)) := by
  have G__law_take : FnG P w K mg base (L2N.CX P w) 1 T.a__law_take T.fd__law_take ["box", "many"] (SpM K T.cl (m__law_take T.c_Rules)) := ok__law_take T
  exact fn_miN T.F__law_rows sc__law_rows (fun cdv A outer s H E hr hgd => ⟨_, (pss_cons (ps_par (i := 1) (j := 2) rfl sc__law_rows.nd rfl rfl (by decide) rfl rfl (pa_cons (pe_op (r := rPlus K) op_plus pe_int (pe_callG G__law_take (hr.mono (by decide)) hgd (by rfl) T.g__law_take T.F__law_take.kp T.b__law_take noX (pa_cons (pv 0) (pa_cons pe_int pa_nil)))) (pa_cons (pe_cmpR (r := rEqU K) (op_eqU hr.units) (pe_callG G__law_take (hr.mono (by decide)) hgd (by rfl) T.g__law_take T.F__law_take.kp T.b__law_take noX (pa_cons (pv 0) (pa_cons pe_int pa_nil))) pe_int (nomark _)) pa_nil)) (by rfl)) (pss_cons (ps_par (i := 3) (j := 4) rfl sc__law_rows.nd rfl rfl (by decide) rfl rfl (pa_cons pe_int (pa_cons (pe_op (r := rPlus K) op_plus pe_int (pe_callG G__law_take (hr.mono (by decide)) hgd (by rfl) T.g__law_take T.F__law_take.kp T.b__law_take noX (pa_cons (pv 0) (pa_cons pe_int pa_nil)))) pa_nil)) (by rfl)) (pss_cons (ps_set (i := 5) sc__law_rows.nd rfl (Or.inl rfl) (pe_lst (pa_cons (pe_tup (pa_cons (pv 3) (pa_cons (pv 4) pa_nil))) pa_nil))) (pss_cons (ps_for (passes_of rfl) rfl (pi_range1 rfl T.m_range (pa_cons (pe_op op_sub (pv 1) pe_int) pa_nil)) (pg_name (i := 6) sc__law_rows.nd rfl (Or.inl rfl)) (pss_cons (ps_set (i := 3) sc__law_rows.nd rfl (Or.inl rfl) (pe_op (r := rTimesZ K) op_timesZ (pv 3) (pe_op (r := rPlus K) op_plus (pe_ix (r := rIx K) ix_seq (pe_lst (pa_cons pe_int (pa_cons pe_int (pa_cons pe_int (pa_cons pe_int (pa_cons pe_int (pa_cons pe_int pa_nil))))))) (pe_callG G__law_take (hr.mono (by decide)) hgd (by rfl) T.g__law_take T.F__law_take.kp T.b__law_take noX (pa_cons (pv 0) (pa_cons pe_int pa_nil))) (fun _ _ => rfl)) (pe_ix (r := rIx K) ix_seq (pe_lst (pa_cons pe_int (pa_cons pe_int pa_nil))) (pe_callTy call_int1 (by rfl) T.m_int (by decide +kernel) (pa_cons (pv 2) pa_nil)) (fun _ _ => rfl))))) (pss_cons (ps_set (i := 7) sc__law_rows.nd rfl (Or.inl rfl) (pe_ix (r := rIx K) ix_seq (pe_lst (pa_cons pe_int (pa_cons pe_int (pa_cons pe_int (pa_cons pe_int (pa_cons pe_int (pa_cons (pe_op op_pow pe_int pe_int) pa_nil))))))) (pe_callG G__law_take (hr.mono (by decide)) hgd (by rfl) T.g__law_take T.F__law_take.kp T.b__law_take noX (pa_cons (pv 0) (pa_cons (pe_op (r := rPlus K) op_plus pe_int (pe_callTy call_int1 (by rfl) T.m_int (by decide +kernel) (pa_cons (pv 2) pa_nil))) pa_nil))) (fun _ _ => rfl))) (pss_cons (ps_set (i := 4) sc__law_rows.nd rfl (Or.inl rfl) (pe_op (r := rPlus K) op_plus (pe_op (r := rPlus K) op_plus (pv 4) (pv 3)) (pv 7))) (pss_one (ps_expr (pe_bm PySem.F.plainAttrs_list PySem.F.slot_list_append PySem.F.type_list_append mt_append (pv 5) (pa_cons (pe_tup (pa_cons (pv 3) (pa_cons (pv 4) pa_nil))) pa_nil)))))))) (pss_one (ps_ret (pv 5))))))), (ms_seq (ms_par2 (mp_d (me_2 (ok_add (KF := K)) me_int (me_call0A (ma_cons me_v (ma_cons me_int ma_nil)))) (mp_d (me_2 (ok_eq (KF := K)) (me_call0A (ma_cons me_v (ma_cons me_int ma_nil))) me_int) mp_nil))) (ms_seq (ms_par2 (mp_d me_int (mp_d (me_2 (ok_add (KF := K)) me_int (me_call0A (ma_cons me_v (ma_cons me_int ma_nil)))) mp_nil))) (ms_seq (ms_asgF (mf_lst (ma_cons (me_tup (ma_cons me_v (ma_cons me_v ma_nil))) ma_nil))) (ms_seq (ms_for (KF := K) (mi_rng1 (ma_cons (me_2 ok_sub me_v me_int) ma_nil)) (ms_seq (ms_asg (KF := K) (tg := .n 3) (me_2 (ok_mul (KF := K)) me_v (me_2 (ok_add (KF := K)) (me_ix (KF := K) (me_of_mf (mf_lst (ma_cons me_int (ma_cons me_int (ma_cons me_int (ma_cons me_int (ma_cons me_int (ma_cons me_int ma_nil)))))))) (me_call0A (ma_cons me_v (ma_cons me_int ma_nil)))) (me_ix (KF := K) (me_of_mf (mf_lst (ma_cons me_int (ma_cons me_int ma_nil)))) (me_b1 ok_int me_v))))) (ms_seq (ms_asg (KF := K) (tg := .n 7) (me_ix (KF := K) (me_of_mf (mf_lst (ma_cons me_int (ma_cons me_int (ma_cons me_int (ma_cons me_int (ma_cons me_int (ma_cons (me_2 ok_pow me_int me_int) ma_nil)))))))) (me_call0A (ma_cons me_v (ma_cons (me_2 (ok_add (KF := K)) me_int (me_b1 ok_int me_v)) ma_nil))))) (ms_seq (ms_asg (KF := K) (tg := .n 4) (me_2 (ok_add (KF := K)) (me_2 (ok_add (KF := K)) me_v me_v) me_v)) (ms_app (KF := K) (me_tup (ma_cons me_v (ma_cons me_v ma_nil)))))))) ms_retV))))⟩)
theorem ok__law_is_count (T : Tx K mg base) : FnG P w K mg base (L2N.CX P w) 1 T.a__law_is_count T.fd__law_is_count ["value"] (SpM K T.cl (m__law_is_count T.c_Rules)) := by
  exact fn_miN T.F__law_is_count sc__law_is_count (fun cdv A outer s H E hr hgd => ⟨_, (pss_one (ps_ret (pe_and (pe_callB (r := rIsiE K [T.c_Rules]) (call_isiE T.os) (by rfl) T.m_isinstance (by decide +kernel) (pa_cons (pv 0) (pa_cons (pe_bltn (v := .ty "int") (u := .type "int") (by rfl) T.m_int (by decide +kernel) rfl) pa_nil))) (pe_and (pe_not (pe_callB (r := rIsiE K [T.c_Rules]) (call_isiE T.os) (by rfl) T.m_isinstance (by decide +kernel) (pa_cons (pv 0) (pa_cons (pe_bltn (v := .ty "bool") (u := .type "bool") (by rfl) T.m_bool (by decide +kernel) rfl) pa_nil)))) (pe_one (pe_cmpR op_ge (pv 0) pe_int (nomark _))))))), (ms_ret (me_and (me_isiO T.os (by decide) isi_int me_v) (me_and (me_not (me_isiO T.os (by decide) isi_bool me_v)) (me_2 ok_cmp me_v me_int))))⟩)
theorem ok__law_are_rules (T : Tx K mg base) : FnG P w K mg base (L2N.CX P w) 2 T.a__law_are_rules T.fd__law_are_rules ["value"] (SpM K T.cl (m__law_are_rules T.c_Rules)) := by
  have G__law_is_count : FnG P w K mg base (L2N.CX P w) 1 T.a__law_is_count T.fd__law_is_count ["value"] (SpM K T.cl (m__law_is_count T.c_Rules)) := ok__law_is_count T
  exact fn_miN T.F__law_are_rules sc__law_are_rules (fun cdv A outer s H E hr hgd => ⟨_, (pss_cons (ps_if (PW.pt (pw_or (pt_not (pt_val (pe_callB (r := rIsiTE K [T.c_Rules]) (call_isiTE T.os) (by rfl) T.m_isinstance (by decide +kernel) (pa_cons (pv 0) (pa_cons (pe_tup (pa_cons (pe_bltn (v := .ty "list") (u := .type "list") (by rfl) T.m_list (by decide +kernel) rfl) (pa_cons (pe_bltn (v := .ty "tuple") (u := .type "tuple") (by rfl) T.m_tuple (by decide +kernel) rfl) pa_nil))) pa_nil))))) (pw_or1 (pt_not (pt_chain op_le op_le pe_int (pe_callB (r := rLenU K) call_len (by rfl) T.m_len (by decide +kernel) (pa_cons (pv 0) pa_nil)) pe_int))))) (pss_one (ps_ret pe_bl)) pss_nil) (pss_cons (ps_for (passes_of rfl) rfl (pi_range1 rfl T.m_range (pa_cons (pe_callB (r := rLenU K) call_len (by rfl) T.m_len (by decide +kernel) (pa_cons (pv 0) pa_nil)) pa_nil)) (pg_name (i := 1) sc__law_are_rules.nd rfl (Or.inl rfl)) (pss_cons (ps_set (i := 2) sc__law_are_rules.nd rfl (Or.inl rfl) (pe_ix (r := rIx K) ix_seq (pv 0) (pv 1) (fun _ _ => rfl))) (pss_cons (ps_if (PW.pt (pw_or (pt_not (pt_val (pe_callB (r := rIsiE K [T.c_Rules]) (call_isiE T.os) (by rfl) T.m_isinstance (by decide +kernel) (pa_cons (pv 2) (pa_cons (pe_bltn (v := .ty "tuple") (u := .type "tuple") (by rfl) T.m_tuple (by decide +kernel) rfl) pa_nil))))) (pw_or (pt_cmpR (r := rNeU K) (op_neU hr.units) (pe_callB (r := rLenU K) call_len (by rfl) T.m_len (by decide +kernel) (pa_cons (pv 2) pa_nil)) pe_int (nomark _)) (pw_or (pt_not (pt_val (pe_callG G__law_is_count (hr.mono (by decide)) hgd (by rfl) T.g__law_is_count T.F__law_is_count.kp T.b__law_is_count noX (pa_cons (pe_ix (r := rIx K) ix_seq (pv 2) pe_int (fun _ _ => rfl)) pa_nil)))) (pw_or1 (pt_cmpR (r := rEqU K) (op_eqU hr.units) (pe_ix (r := rIx K) ix_seq (pv 2) pe_int (fun _ _ => rfl)) pe_int (nomark _))))))) (pss_one (ps_ret pe_bl)) pss_nil) (pss_one (ps_if (pt_cmpR op_isN (pe_ix (r := rIx K) ix_seq (pv 2) pe_int (fun _ _ => rfl)) pe_non (nomark _)) (pss_one (ps_if (pt_cmpR op_lt (pv 1) (pe_op op_sub (pe_callB (r := rLenU K) call_len (by rfl) T.m_len (by decide +kernel) (pa_cons (pv 0) pa_nil)) pe_int) (nomark _)) (pss_one (ps_ret pe_bl)) pss_nil)) (pss_one (ps_if (PW.pt (pw_or (pt_not (pt_val (pe_callG G__law_is_count (hr.mono (by decide)) hgd (by rfl) T.g__law_is_count T.F__law_is_count.kp T.b__law_is_count noX (pa_cons (pe_ix (r := rIx K) ix_seq (pv 2) pe_int (fun _ _ => rfl)) pa_nil)))) (pw_or1 (pt_cmpR (r := rEqU K) (op_eqU hr.units) (pe_ix (r := rIx K) ix_seq (pv 2) pe_int (fun _ _ => rfl)) pe_int (nomark _))))) (pss_one (ps_ret pe_bl)) pss_nil))))))) (pss_cons (ps_for (passes_of rfl) rfl (pi_range2 (by rfl) T.m_range (pa_cons pe_int (pa_cons (pe_callB (r := rLenU K) call_len (by rfl) T.m_len (by decide +kernel) (pa_cons (pv 0) pa_nil)) pa_nil))) (pg_name (i := 1) sc__law_are_rules.nd rfl (Or.inl rfl)) (pss_cons (ps_if (PW.pt (pw_or (pt_cmpR (r := rNeU K) (op_neU hr.units) (pe_op op_mod (pe_callTy call_int1 (by rfl) T.m_int (by decide +kernel) (pa_cons (pe_ix (r := rIx K) ix_seq (pe_ix (r := rIx K) ix_seq (pv 0) (pv 1) (fun _ _ => rfl)) pe_int (fun _ _ => rfl)) pa_nil)) (pe_ix (r := rIx K) ix_seq (pe_ix (r := rIx K) ix_seq (pv 0) (pe_op op_sub (pv 1) pe_int) (fun _ _ => rfl)) pe_int (fun _ _ => rfl))) pe_int (nomark _)) (pw_or1 (pt_cmpR op_lt (pe_ix (r := rIx K) ix_seq (pe_ix (r := rIx K) ix_seq (pv 0) (pv 1) (fun _ _ => rfl)) pe_int (fun _ _ => rfl)) (pe_op (r := rTimesZ K) op_timesZ pe_int (pe_ix (r := rIx K) ix_seq (pe_ix (r := rIx K) ix_seq (pv 0) (pe_op op_sub (pv 1) pe_int) (fun _ _ => rfl)) pe_int (fun _ _ => rfl))) (nomark _))))) (pss_one (ps_ret pe_bl)) pss_nil) (pss_one (ps_if (PW.pt (pw_and (pt_cmpR op_notN (pe_ix (r := rIx K) ix_seq (pe_ix (r := rIx K) ix_seq (pv 0) (pv 1) (fun _ _ => rfl)) pe_int (fun _ _ => rfl)) pe_non (nomark _)) (pw_and1 (pt_cmpR op_lt (pe_ix (r := rIx K) ix_seq (pe_ix (r := rIx K) ix_seq (pv 0) (pv 1) (fun _ _ => rfl)) pe_int (fun _ _ => rfl)) (pe_op (r := rPlus K) op_plus (pe_ix (r := rIx K) ix_seq (pe_ix (r := rIx K) ix_seq (pv 0) (pe_op op_sub (pv 1) pe_int) (fun _ _ => rfl)) pe_int (fun _ _ => rfl)) (pe_ix (r := rIx K) ix_seq (pe_ix (r := rIx K) ix_seq (pv 0) (pv 1) (fun _ _ => rfl)) pe_int (fun _ _ => rfl))) (nomark _))))) (pss_one (ps_ret pe_bl)) pss_nil)))) (pss_one (ps_ret (pe_cmpR (r := rEqU K) (op_eqU hr.units) (pe_ix (r := rIx K) ix_seq (pe_ix (r := rIx K) ix_seq (pv 0) pe_int (fun _ _ => rfl)) pe_int (fun _ _ => rfl)) pe_int (nomark _))))))), (ms_seq (ms_if (mt_or (mt_not (mt_B (me_isi2O T.os (by decide) (by decide) isi_list isi_tuple me_v))) (mt_not (mt_test (me_chain ok_cmp ok_cmp me_int (me_len (KF := K) me_v) me_int)))) (ms_ret me_bl) ms_next) (ms_seq (ms_for (KF := K) (mi_rng1 (ma_cons (me_len (KF := K) me_v) ma_nil)) (ms_seq (ms_asg (KF := K) (tg := .n 2) (me_ix (KF := K) me_v me_v)) (ms_seq (ms_if (mt_or (mt_not (mt_B (me_isiO T.os (by decide) isi_tuple me_v))) (mt_or (mt_test (me_2 (ok_ne (KF := K)) (me_len (KF := K) me_v) me_int)) (mt_or (mt_not (mt_B (me_call0A (ma_cons (me_ix (KF := K) me_v me_int) ma_nil)))) (mt_test (me_2 (ok_eq (KF := K)) (me_ix (KF := K) me_v me_int) me_int))))) (ms_ret me_bl) ms_next) (ms_if (mt_test (me_2 ok_isN (me_ix (KF := K) me_v me_int) me_non)) (ms_if (mt_test (me_2 ok_cmp me_v (me_2 ok_sub (me_len (KF := K) me_v) me_int))) (ms_ret me_bl) ms_next) (ms_if (mt_or (mt_not (mt_B (me_call0A (ma_cons (me_ix (KF := K) me_v me_int) ma_nil)))) (mt_test (me_2 (ok_eq (KF := K)) (me_ix (KF := K) me_v me_int) me_int))) (ms_ret me_bl) ms_next))))) (ms_seq (ms_for (KF := K) (mi_rng2 (ma_cons me_int (ma_cons (me_len (KF := K) me_v) ma_nil))) (ms_seq (ms_if (mt_or (mt_test (me_2 (ok_ne (KF := K)) (me_2 ok_mod (me_b1 ok_int (me_ix (KF := K) (me_ix (KF := K) me_v me_v) me_int)) (me_ix (KF := K) (me_ix (KF := K) me_v (me_2 ok_sub me_v me_int)) me_int)) me_int)) (mt_test (me_2 ok_cmp (me_ix (KF := K) (me_ix (KF := K) me_v me_v) me_int) (me_2 (ok_mul (KF := K)) me_int (me_ix (KF := K) (me_ix (KF := K) me_v (me_2 ok_sub me_v me_int)) me_int))))) (ms_ret me_bl) ms_next) (ms_if (mt_and (mt_test (me_2 ok_notN (me_ix (KF := K) (me_ix (KF := K) me_v me_v) me_int) me_non)) (mt_test (me_2 ok_cmp (me_ix (KF := K) (me_ix (KF := K) me_v me_v) me_int) (me_2 (ok_add (KF := K)) (me_ix (KF := K) (me_ix (KF := K) me_v (me_2 ok_sub me_v me_int)) me_int) (me_ix (KF := K) (me_ix (KF := K) me_v me_v) me_int))))) (ms_ret me_bl) ms_next))) (ms_ret (me_2 (ok_eq (KF := K)) (me_ix (KF := K) (me_ix (KF := K) me_v me_int) me_int) me_int)))))⟩)
theorem ok__law_ended (T : Tx K mg base) : FnG P w K mg base (L2N.CX P w) 2 T.a__law_ended T.fd__law_ended ["box", "rows"] (SpM K T.cl (m__law_ended T.c_Rules)) := by
  have G__law_take : FnG P w K mg base (L2N.CX P w) 1 T.a__law_take T.fd__law_take ["box", "many"] (SpM K T.cl (m__law_take T.c_Rules)) := ok__law_take T
  exact fn_miN T.F__law_ended sc__law_ended (fun cdv A outer s H E hr hgd => ⟨_, (pss_cons (ps_if (pt_cmpR (r := rEqU K) (op_eqU hr.units) (pe_callG G__law_take (hr.mono (by decide)) hgd (by rfl) T.g__law_take T.F__law_take.kp T.b__law_take noX (pa_cons (pv 0) (pa_cons pe_int pa_nil))) pe_int (nomark _)) (pss_one (ps_ret (pe_op (r := rPlus K) op_plus (pe_slice (r := rSlU K) sl_any (pv 1) po_none (po_some (pe_un un_neg pe_int))) (pe_lst (pa_cons (pe_tup (pa_cons (pe_ix (r := rIx K) ix_seq (pe_ix (r := rIx K) ix_seq (pv 1) (pe_un un_neg pe_int) (fun _ _ => rfl)) pe_int (fun _ _ => rfl)) (pa_cons pe_non pa_nil))) pa_nil))))) pss_nil) (pss_one (ps_ret (pe_callTy (r := rListU K) call_list_of (by rfl) T.m_list (by decide +kernel) (pa_cons (pv 1) pa_nil))))), (ms_seq (ms_if (mt_test (me_2 (ok_eq (KF := K)) (me_call0A (ma_cons me_v (ma_cons me_int ma_nil))) me_int)) (ms_ret (me_2 (ok_add (KF := K)) (me_sl (KF := K) me_v mo_no (mo_at (me_1 ok_neg me_int))) (me_of_mf (mf_lst (ma_cons (me_tup (ma_cons (me_ix (KF := K) (me_ix (KF := K) me_v (me_1 ok_neg me_int)) me_int) (ma_cons me_non ma_nil))) ma_nil))))) ms_next) (ms_retF (mf_list (KF := K) me_v)))⟩)
theorem ok__law_values (T : Tx K mg base) : FnG P w K mg base (L2N.CX P w) 2 T.a__law_values T.fd__law_values ["box", "full", "rows"] (SpM K T.cl (m__law_values T.c_Rules)) := by
  have G__law_take : FnG P w K mg base (L2N.CX P w) 1 T.a__law_take T.fd__law_take ["box", "many"] (SpM K T.cl (m__law_take T.c_Rules)) := ok__law_take T
  exact fn_miN T.F__law_values sc__law_values (fun cdv A outer s H E hr hgd => ⟨_, (pss_cons (ps_set (i := 3) sc__law_values.nd rfl (Or.inr rfl) (pe_callG G__law_take (hr.mono (by decide)) hgd (by rfl) T.g__law_take T.F__law_take.kp T.b__law_take noX (pa_cons (pv 0) (pa_cons (pe_callB (r := rLenU K) call_len (by rfl) T.m_len (by decide +kernel) (pa_cons (pv 2) pa_nil)) pa_nil)))) (pss_cons (ps_asg (pe_ix (r := rIx K) ix_seq (pv 2) (pv 3) (fun _ _ => rfl)) (pg_tup rfl (pgs_cons (pg_name (i := 4) sc__law_values.nd rfl (Or.inl rfl)) (pgs_cons (pg_name (i := 5) sc__law_values.nd rfl (Or.inl rfl)) pgs_nil)))) (pss_cons (ps_par (i := 6) (j := 7) rfl sc__law_values.nd rfl rfl (by decide) rfl rfl (pa_cons (pe_ix (r := rIx K) ix_seq (pe_ix (r := rIx K) ix_seq (pv 1) (pv 3) (fun _ _ => rfl)) pe_int (fun _ _ => rfl)) (pa_cons (pe_ix (r := rIx K) ix_seq (pv 1) (pe_callB (call_max2 rfl) (by rfl) T.m_max (by decide +kernel) (pa_cons pe_int (pa_cons (pe_op op_sub (pv 3) pe_int) pa_nil))) (fun _ _ => rfl)) pa_nil)) (by rfl)) (pss_cons (ps_set (i := 8) sc__law_values.nd rfl (Or.inl rfl) (pe_op (r := rPlus K) op_plus (pe_ix (r := rIx K) ix_seq (pv 7) pe_int (fun _ _ => rfl)) (pv 4))) (pss_cons (ps_set (i := 9) sc__law_values.nd rfl (Or.inl rfl) (pe_lst (pa_cons (pe_tup (pa_cons (pe_op (r := rPlus K) op_plus (pv 4) pe_int) (pa_cons (pv 5) pa_nil))) (pa_cons (pe_tup (pa_cons (pe_op op_sub (pv 4) pe_int) (pa_cons (pv 5) pa_nil))) (pa_cons (pe_tup (pa_cons (pe_op (r := rTimesZ K) op_timesZ pe_int (pv 4)) (pa_cons (pv 5) pa_nil))) (pa_cons (pe_tup (pa_cons (pv 4) (pa_cons (pe_op op_sub (pv 6) pe_int) pa_nil))) (pa_cons (pe_tup (pa_cons (pv 4) (pa_cons (pe_op (r := rPlus K) op_plus (pv 6) pe_int) pa_nil))) pa_nil))))))) (pss_cons (ps_set (i := 9) sc__law_values.nd rfl (Or.inl rfl) (pe_op (r := rPlus K) op_plus (pv 9) (pe_lst (pa_cons (pe_tup (pa_cons (pv 4) (pa_cons (pv 8) pa_nil))) (pa_cons (pe_tup (pa_cons (pv 4) (pa_cons (pe_op op_sub (pv 8) pe_int) pa_nil))) (pa_cons (pe_tup (pa_cons (pv 4) (pa_cons pe_non pa_nil))) (pa_cons (pe_tup (pa_cons (pv 4) (pa_cons pe_int pa_nil))) (pa_cons (pe_tup (pa_cons (pv 4) (pa_cons (pe_un un_neg (pv 6)) pa_nil))) (pa_cons (pe_tup (pa_cons pe_int (pa_cons (pv 5) pa_nil))) pa_nil))))))))) (pss_cons (ps_set (i := 9) sc__law_values.nd rfl (Or.inl rfl) (pe_op (r := rPlus K) op_plus (pv 9) (pe_lst (pa_cons (pe_tup (pa_cons (pe_un un_neg (pv 4)) (pa_cons (pv 5) pa_nil))) (pa_cons (pe_tup (pa_cons (pv 4) (pa_cons pe_bl pa_nil))) (pa_cons (pe_tup (pa_cons (pv 4) (pa_cons pe_str pa_nil))) (pa_cons (pe_tup (pa_cons pe_bl (pa_cons (pv 5) pa_nil))) (pa_cons (pe_tup (pa_cons (pe_callTy call_str_int (by rfl) T.m_str (by decide +kernel) (pa_cons (pv 4) pa_nil)) (pa_cons (pv 5) pa_nil))) (pa_cons (pe_tup (pa_cons pe_non (pa_cons (pv 5) pa_nil))) pa_nil))))))))) (pss_cons (ps_set (i := 9) sc__law_values.nd rfl (Or.inl rfl) (pe_op (r := rPlus K) op_plus (pv 9) (pe_lst (pa_cons (pe_lst (pa_cons (pv 4) (pa_cons (pv 5) pa_nil))) (pa_cons (pe_tup (pa_cons (pv 4) pa_nil)) (pa_cons (pe_tup (pa_cons (pv 4) (pa_cons (pv 5) (pa_cons (pv 5) pa_nil)))) (pa_cons (pe_tup (pa_cons (pv 5) (pa_cons (pv 4) pa_nil))) (pa_cons pe_non (pa_cons pe_int (pa_cons pe_str (pa_cons (pe_tup pa_nil) pa_nil))))))))))) (pss_cons (ps_set (i := 9) sc__law_values.nd rfl (Or.inl rfl) (pe_op (r := rPlus K) op_plus (pv 9) (pe_lst (pa_cons (pe_tup (pa_cons (pe_op (r := rTimesZ K) op_timesZ pe_int (pe_ix (r := rIx K) ix_seq (pv 7) pe_int (fun _ _ => rfl))) (pa_cons (pv 6) pa_nil))) (pa_cons (pe_tup (pa_cons (pe_ix (r := rIx K) ix_seq (pv 7) pe_int (fun _ _ => rfl)) (pa_cons (pv 6) pa_nil))) (pa_cons (pe_tup (pa_cons (pe_op (r := rTimesZ K) op_timesZ pe_int (pe_ix (r := rIx K) ix_seq (pv 7) pe_int (fun _ _ => rfl))) (pa_cons (pe_op (r := rPlus K) op_plus (pv 8) (pe_op (r := rTimesZ K) op_timesZ pe_int (pv 4))) pa_nil))) pa_nil)))))) (pss_cons (ps_setLc (i := 10) (own := [("spot", 12)]) (tt := tYes) rfl sc__law_values.nd rfl rfl (sw_true rfl rfl rfl (by decide +kernel)) (pi_seq (pv 9)) (blkOk_by (own := [("spot", 12)]) (N := ["box", "full", "rows", "k", "length", "keep", "held", "ahead", "floor", "spots", "found", "longer", "spot"]) (sc := defScope s__law_values) (by decide +kernel)) (fun _ _ _ _ _ => (pg_name (i := 12) sc__law_values.nd rfl (Or.inl rfl))) (fun _ _ _ _ _ => pts_nil) (fun _ _ _ _ _ => (pe_op (r := rPlus K) op_plus (pe_op (r := rPlus K) op_plus (pe_slice (r := rSlU K) sl_any (pv 2) po_none (po_some (pv 3))) (pe_lst (pa_cons (pv 12) pa_nil))) (pe_slice (r := rSlU K) sl_any (pv 2) (po_some (pe_op (r := rPlus K) op_plus (pv 3) pe_int)) po_none)))) (pss_cons (ps_set (i := 11) sc__law_values.nd rfl (Or.inl rfl) (pe_tup (pa_cons (pe_op (r := rTimesZ K) op_timesZ pe_int (pe_ix (r := rIx K) ix_seq (pe_ix (r := rIx K) ix_seq (pv 1) (pe_un un_neg pe_int) (fun _ _ => rfl)) pe_int (fun _ _ => rfl))) (pa_cons (pe_op (r := rPlus K) op_plus (pe_ix (r := rIx K) ix_seq (pe_ix (r := rIx K) ix_seq (pv 1) (pe_un un_neg pe_int) (fun _ _ => rfl)) pe_int (fun _ _ => rfl)) (pe_op (r := rTimesZ K) op_timesZ pe_int (pe_ix (r := rIx K) ix_seq (pe_ix (r := rIx K) ix_seq (pv 1) (pe_un un_neg pe_int) (fun _ _ => rfl)) pe_int (fun _ _ => rfl)))) pa_nil)))) (pss_cons (ps_set (i := 10) sc__law_values.nd rfl (Or.inl rfl) (pe_op (r := rPlus K) op_plus (pv 10) (pe_lst (pa_cons (pe_callTy (r := rListU K) call_list_of (by rfl) T.m_list (by decide +kernel) (pa_cons (pv 2) pa_nil)) (pa_cons (pe_callTy (r := rListU K) call_list_of (by rfl) T.m_list (by decide +kernel) (pa_cons (pv 1) pa_nil)) (pa_cons (pe_callTy (r := rTupleU K) call_tuple_of (by rfl) T.m_tuple (by decide +kernel) (pa_cons (pv 2) pa_nil)) (pa_cons (pe_callTy (r := rTupleU K) call_tuple_of (by rfl) T.m_tuple (by decide +kernel) (pa_cons (pv 1) pa_nil)) (pa_cons (pe_op (r := rPlus K) op_plus (pe_slice (r := rSlU K) sl_any (pv 2) po_none (po_some (pv 3))) (pe_slice (r := rSlU K) sl_any (pv 2) (po_some (pe_op (r := rPlus K) op_plus (pv 3) pe_int)) po_none)) (pa_cons (pe_op (r := rPlus K) op_plus (pv 2) (pe_slice (r := rSlU K) sl_any (pv 2) (po_some (pv 3)) (po_some (pe_op (r := rPlus K) op_plus (pv 3) pe_int)))) pa_nil))))))))) (pss_cons (ps_set (i := 10) sc__law_values.nd rfl (Or.inl rfl) (pe_op (r := rPlus K) op_plus (pv 10) (pe_lst (pa_cons (pe_op (r := rPlus K) op_plus (pe_op (r := rPlus K) op_plus (pe_slice (r := rSlU K) sl_any (pv 2) po_none (po_some (pv 3))) (pe_revL (pe_slice (r := rSlU K) sl_any (pv 2) (po_some (pv 3)) (po_some (pe_op (r := rPlus K) op_plus (pv 3) pe_int))))) (pe_slice (r := rSlU K) sl_any (pv 2) (po_some (pe_op (r := rPlus K) op_plus (pv 3) pe_int)) po_none)) (pa_cons (pe_op (r := rPlus K) op_plus (pv 1) (pe_lst (pa_cons (pv 11) pa_nil))) (pa_cons (pe_op (r := rPlus K) op_plus (pv 2) (pe_lst (pa_cons (pv 11) pa_nil))) (pa_cons (pe_revL (pv 2)) pa_nil))))))) (pss_cons (ps_set (i := 10) sc__law_values.nd rfl (Or.inl rfl) (pe_op (r := rPlus K) op_plus (pv 10) (pe_lst (pa_cons (pe_op (r := rPlus K) op_plus (pv 1) (pe_lst (pa_cons (pe_tup (pa_cons (pe_ix (r := rIx K) ix_seq (pv 11) pe_int (fun _ _ => rfl)) (pa_cons pe_non pa_nil))) pa_nil))) (pa_cons (pe_op (r := rPlus K) op_plus (pv 1) (pe_lst (pa_cons (pe_tup (pa_cons (pe_ix (r := rIx K) ix_seq (pv 11) pe_int (fun _ _ => rfl)) (pa_cons (pe_op op_sub (pe_ix (r := rIx K) ix_seq (pv 11) pe_int (fun _ _ => rfl)) pe_int) pa_nil))) pa_nil))) (pa_cons (pe_op (r := rPlus K) op_plus (pe_lst (pa_cons pe_non pa_nil)) (pv 2)) (pa_cons (pe_op (r := rPlus K) op_plus (pv 2) (pe_lst (pa_cons pe_non pa_nil))) pa_nil))))))) (pss_cons (ps_set (i := 10) sc__law_values.nd rfl (Or.inl rfl) (pe_op (r := rPlus K) op_plus (pv 10) (pe_lst (pa_cons (pe_lst (pa_cons (pv 2) pa_nil)) (pa_cons (pe_op (r := rPlus K) op_plus (pv 2) (pe_lst (pa_cons (pe_tup pa_nil) pa_nil))) (pa_cons (pe_lst pa_nil) (pa_cons (pe_tup pa_nil) (pa_cons pe_non (pa_cons pe_int (pa_cons pe_int (pa_cons pe_bl (pa_cons pe_str (pa_cons pe_str (pa_cons pe_dnewK pa_nil)))))))))))))) (pss_one (ps_ret (pe_op (r := rPlus K) op_plus (pv 10) (pe_lst (pa_cons (pe_callTy (r := Mi.rDictP K) (L2.cr_dictP rfl) (by rfl) T.m_dict (by decide +kernel) (pa_cons (pe_lst (pa_cons (pe_tup (pa_cons pe_int (pa_cons pe_int pa_nil))) pa_nil)) pa_nil)) (pa_cons (pe_callTy (r := rDictE K) (L2.call_dictE rfl hr.units) (by rfl) T.m_dict (by decide +kernel) (pa_cons (pe_lst (pa_cons (pe_tup (pa_cons (pe_ix (r := rIx K) ix_seq (pv 2) pe_int (fun _ _ => rfl)) (pa_cons pe_int pa_nil))) pa_nil)) pa_nil)) pa_nil))))))))))))))))))))), (ms_seq (ms_asg (KF := K) (tg := .n 3) (me_call0A (ma_cons me_v (ma_cons (me_len (KF := K) me_v) ma_nil)))) (ms_seq (ms_asg (KF := K) (tg := (.t [4, 5])) (me_ix (KF := K) me_v me_v)) (ms_seq (ms_par2 (mp_d (me_ix (KF := K) (me_ix (KF := K) me_v me_v) me_int) (mp_d (me_ix (KF := K) me_v (me_b2 ok_max2 me_int (me_2 ok_sub me_v me_int))) mp_nil))) (ms_seq (ms_asg (KF := K) (tg := .n 8) (me_2 (ok_add (KF := K)) (me_ix (KF := K) me_v me_int) me_v)) (ms_seq (ms_asg (KF := K) (tg := .n 9) (me_of_mf (mf_lst (ma_cons (me_tup (ma_cons (me_2 (ok_add (KF := K)) me_v me_int) (ma_cons me_v ma_nil))) (ma_cons (me_tup (ma_cons (me_2 ok_sub me_v me_int) (ma_cons me_v ma_nil))) (ma_cons (me_tup (ma_cons (me_2 (ok_mul (KF := K)) me_int me_v) (ma_cons me_v ma_nil))) (ma_cons (me_tup (ma_cons me_v (ma_cons (me_2 ok_sub me_v me_int) ma_nil))) (ma_cons (me_tup (ma_cons me_v (ma_cons (me_2 (ok_add (KF := K)) me_v me_int) ma_nil))) ma_nil)))))))) (ms_seq (ms_asg (KF := K) (tg := .n 9) (me_2 (ok_add (KF := K)) me_v (me_of_mf (mf_lst (ma_cons (me_tup (ma_cons me_v (ma_cons me_v ma_nil))) (ma_cons (me_tup (ma_cons me_v (ma_cons (me_2 ok_sub me_v me_int) ma_nil))) (ma_cons (me_tup (ma_cons me_v (ma_cons me_non ma_nil))) (ma_cons (me_tup (ma_cons me_v (ma_cons me_int ma_nil))) (ma_cons (me_tup (ma_cons me_v (ma_cons (me_1 ok_neg me_v) ma_nil))) (ma_cons (me_tup (ma_cons me_int (ma_cons me_v ma_nil))) ma_nil)))))))))) (ms_seq (ms_asg (KF := K) (tg := .n 9) (me_2 (ok_add (KF := K)) me_v (me_of_mf (mf_lst (ma_cons (me_tup (ma_cons (me_1 ok_neg me_v) (ma_cons me_v ma_nil))) (ma_cons (me_tup (ma_cons me_v (ma_cons me_bl ma_nil))) (ma_cons (me_tup (ma_cons me_v (ma_cons me_str ma_nil))) (ma_cons (me_tup (ma_cons me_bl (ma_cons me_v ma_nil))) (ma_cons (me_tup (ma_cons (me_b1 ok_str me_v) (ma_cons me_v ma_nil))) (ma_cons (me_tup (ma_cons me_non (ma_cons me_v ma_nil))) ma_nil)))))))))) (ms_seq (ms_asg (KF := K) (tg := .n 9) (me_2 (ok_add (KF := K)) me_v (me_of_mf (mf_lst (ma_cons (me_of_mf (mf_lst (ma_cons me_v (ma_cons me_v ma_nil)))) (ma_cons (me_tup (ma_cons me_v ma_nil)) (ma_cons (me_tup (ma_cons me_v (ma_cons me_v (ma_cons me_v ma_nil)))) (ma_cons (me_tup (ma_cons me_v (ma_cons me_v ma_nil))) (ma_cons me_non (ma_cons me_int (ma_cons me_str (ma_cons (me_tup ma_nil) ma_nil)))))))))))) (ms_seq (ms_asg (KF := K) (tg := .n 9) (me_2 (ok_add (KF := K)) me_v (me_of_mf (mf_lst (ma_cons (me_tup (ma_cons (me_2 (ok_mul (KF := K)) me_int (me_ix (KF := K) me_v me_int)) (ma_cons me_v ma_nil))) (ma_cons (me_tup (ma_cons (me_ix (KF := K) me_v me_int) (ma_cons me_v ma_nil))) (ma_cons (me_tup (ma_cons (me_2 (ok_mul (KF := K)) me_int (me_ix (KF := K) me_v me_int)) (ma_cons (me_2 (ok_add (KF := K)) me_v (me_2 (ok_mul (KF := K)) me_int me_v)) ma_nil))) ma_nil))))))) (ms_seq (ms_asg (KF := K) (tg := .n 10) (me_of_mf (mf_lc (KF := K) rfl (mi_seq (KF := K) me_v) mt_yes (me_2 (ok_add (KF := K)) (me_2 (ok_add (KF := K)) (me_sl (KF := K) me_v mo_no (mo_at me_v)) (me_of_mf (mf_lst (ma_cons me_v ma_nil)))) (me_sl (KF := K) me_v (mo_at (me_2 (ok_add (KF := K)) me_v me_int)) mo_no))))) (ms_seq (ms_asg (KF := K) (tg := .n 11) (me_tup (ma_cons (me_2 (ok_mul (KF := K)) me_int (me_ix (KF := K) (me_ix (KF := K) me_v (me_1 ok_neg me_int)) me_int)) (ma_cons (me_2 (ok_add (KF := K)) (me_ix (KF := K) (me_ix (KF := K) me_v (me_1 ok_neg me_int)) me_int) (me_2 (ok_mul (KF := K)) me_int (me_ix (KF := K) (me_ix (KF := K) me_v (me_1 ok_neg me_int)) me_int))) ma_nil)))) (ms_seq (ms_asg (KF := K) (tg := .n 10) (me_2 (ok_add (KF := K)) me_v (me_of_mf (mf_lst (ma_cons (me_of_mf (mf_list (KF := K) me_v)) (ma_cons (me_of_mf (mf_list (KF := K) me_v)) (ma_cons (me_tuple (KF := K) me_v) (ma_cons (me_tuple (KF := K) me_v) (ma_cons (me_2 (ok_add (KF := K)) (me_sl (KF := K) me_v mo_no (mo_at me_v)) (me_sl (KF := K) me_v (mo_at (me_2 (ok_add (KF := K)) me_v me_int)) mo_no)) (ma_cons (me_2 (ok_add (KF := K)) me_v (me_sl (KF := K) me_v (mo_at me_v) (mo_at (me_2 (ok_add (KF := K)) me_v me_int)))) ma_nil)))))))))) (ms_seq (ms_asg (KF := K) (tg := .n 10) (me_2 (ok_add (KF := K)) me_v (me_of_mf (mf_lst (ma_cons (me_2 (ok_add (KF := K)) (me_2 (ok_add (KF := K)) (me_sl (KF := K) me_v mo_no (mo_at me_v)) (me_of_mf (mf_rev (KF := K) (me_sl (KF := K) me_v (mo_at me_v) (mo_at (me_2 (ok_add (KF := K)) me_v me_int)))))) (me_sl (KF := K) me_v (mo_at (me_2 (ok_add (KF := K)) me_v me_int)) mo_no)) (ma_cons (me_2 (ok_add (KF := K)) me_v (me_of_mf (mf_lst (ma_cons me_v ma_nil)))) (ma_cons (me_2 (ok_add (KF := K)) me_v (me_of_mf (mf_lst (ma_cons me_v ma_nil)))) (ma_cons (me_of_mf (mf_rev (KF := K) me_v)) ma_nil)))))))) (ms_seq (ms_asg (KF := K) (tg := .n 10) (me_2 (ok_add (KF := K)) me_v (me_of_mf (mf_lst (ma_cons (me_2 (ok_add (KF := K)) me_v (me_of_mf (mf_lst (ma_cons (me_tup (ma_cons (me_ix (KF := K) me_v me_int) (ma_cons me_non ma_nil))) ma_nil)))) (ma_cons (me_2 (ok_add (KF := K)) me_v (me_of_mf (mf_lst (ma_cons (me_tup (ma_cons (me_ix (KF := K) me_v me_int) (ma_cons (me_2 ok_sub (me_ix (KF := K) me_v me_int) me_int) ma_nil))) ma_nil)))) (ma_cons (me_2 (ok_add (KF := K)) (me_of_mf (mf_lst (ma_cons me_non ma_nil))) me_v) (ma_cons (me_2 (ok_add (KF := K)) me_v (me_of_mf (mf_lst (ma_cons me_non ma_nil)))) ma_nil)))))))) (ms_seq (ms_asg (KF := K) (tg := .n 10) (me_2 (ok_add (KF := K)) me_v (me_of_mf (mf_lst (ma_cons (me_of_mf (mf_lst (ma_cons me_v ma_nil))) (ma_cons (me_2 (ok_add (KF := K)) me_v (me_of_mf (mf_lst (ma_cons (me_tup ma_nil) ma_nil)))) (ma_cons (me_of_mf (mf_lst ma_nil)) (ma_cons (me_tup ma_nil) (ma_cons me_non (ma_cons me_int (ma_cons me_int (ma_cons me_bl (ma_cons me_str (ma_cons me_str (ma_cons me_dnew ma_nil))))))))))))))) (ms_ret (me_2 (ok_add (KF := K)) me_v (me_of_mf (mf_lst (ma_cons (me_dict1 (KF := K) (me_of_mf (mf_lst (ma_cons (me_tup (ma_cons me_int (ma_cons me_int ma_nil))) ma_nil)))) (ma_cons (me_dictE (KF := K) (me_of_mf (mf_lst (ma_cons (me_tup (ma_cons (me_ix (KF := K) me_v me_int) (ma_cons me_int ma_nil))) ma_nil)))) ma_nil)))))))))))))))))))))⟩)
theorem ok_Rules____init__ (T : Tx K mg base) : FnG P w K mg base (L2N.CX P w) 5 T.a_Rules____init__ T.fd_Rules____init__ ["self", "rows"] (SpM K T.cl (m_Rules____init__ T.c_Rules)) := by
  have G__are_rules : FnG P w K mg base (L2N.CX P w) 4 T.a__are_rules T.fd__are_rules ["rows"] (SpM K T.cl (m__are_rules T.c_Rules)) := ok__are_rules T
  exact fn_miN T.F_Rules____init__ sc_Rules____init__ (fun cdv A outer s H E hr hgd => ⟨_, (pss_cons (ps_if (pt_not (pt_val (pe_callG G__are_rules (hr.mono (by decide)) hgd (by rfl) T.g__are_rules T.F__are_rules.kp T.b__are_rules noX (pa_cons (pv 1) pa_nil)))) (pss_one (L2N.ps_raise_givenN rfl T.low_InvalidRules (hr.mono (Nat.zero_le _)) (L2N.takes_of rfl rfl rfl rfl) (pa_cons (pv 1) pa_nil))) pss_nil) (pss_one (ps_fld (pv 0) (pe_callTy (r := rTupleU K) call_tuple_of (by rfl) T.m_tuple (by decide +kernel) (pa_cons (pv 1) pa_nil)) rfl))), (ms_seq (ms_if (mt_not (mt_B (me_call0A (ma_cons me_v ma_nil)))) (ms_raise_givenN rfl (ma_cons me_v ma_nil)) ms_next) (ms_fldS T.C_Rules T.n_Rules_rows me_v (me_tupD (KF := K) me_v)))⟩)
theorem ok__law_asked_right (T : Tx K mg base) : FnG P w K mg base (L2N.CX P w) 7 T.a__law_asked_right T.fd__law_asked_right ["value", "due", "way"] (SpM K T.cl (m__law_asked_right T.c_Rules)) := by
  have G_Rules____init__ : FnG P w K mg base (L2N.CX P w) 5 T.a_Rules____init__ T.fd_Rules____init__ ["self", "rows"] (SpM K T.cl (m_Rules____init__ T.c_Rules)) := ok_Rules____init__ T
  exact fn_miN T.F__law_asked_right sc__law_asked_right (fun cdv A outer s H E hr hgd => ⟨_, (pss_cons (ps_set (i := 3) sc__law_asked_right.nd rfl (Or.inl rfl) (pe_ifExp (pt_val (pe_callB (r := rIsiE K [T.c_Rules]) (call_isiE T.os) (by rfl) T.m_isinstance (by decide +kernel) (pa_cons (pv 0) (pa_cons (pe_bltn (v := .ty "list") (u := .type "list") (by rfl) T.m_list (by decide +kernel) rfl) pa_nil)))) (pe_callTy (r := rListU K) call_list_of (by rfl) T.m_list (by decide +kernel) (pa_cons (pv 0) pa_nil)) (pv 0))) (pss_cons (L2N.ps_try_n rfl rfl sc__law_asked_right.nd (L2N.takes_of rfl rfl rfl rfl) (fun W pn xe tk po => (pss_one (ps_set (i := 4) sc__law_asked_right.nd rfl (Or.inl rfl) (pe_ifExp (pt_cmpR (r := rEqU K) (op_eqU hr.units) (pv 2) pe_int (nomark _)) (pe_makeG T.M_Rules G_Rules____init__ (hr.mono (by decide)) hgd (by rfl) T.g_Rules T.b_Rules____init__ (fun σ => L2N.passAt tk σ) (pa_cons (pv 3) pa_nil)) (pe_makeGK T.M_Rules G_Rules____init__ (hr.mono (by decide)) hgd (by rfl) T.g_Rules T.kb_Rules____init___1_rows (fun σ => L2N.passAt tk σ) (pk_cons (pv 3) pk_nil)))))) (.cons (i := 5) ⟨rfl, by decide, Or.inl T.low_InvalidRules.gC⟩ rfl rfl (fun a oe cls d pn hz hf => (pss_cons (ps_if (pt_val (pe_callB (r := rIsiE K [T.c_Rules]) (call_isiE T.os) (by rfl) T.m_isinstance (by decide +kernel) (pa_cons (pv 3) (pa_cons (pe_bltn (v := .ty "list") (u := .type "list") (by rfl) T.m_list (by decide +kernel) rfl) pa_nil)))) (pss_one (ps_expr (pe_bm PySem.F.plainAttrs_list PySem.F.slot_list_append PySem.F.type_list_append mt_append (pv 3) (pa_cons pe_str pa_nil)))) pss_nil) (pss_one (ps_ret (pe_and (pe_not (pv 1)) (pe_one (pe_cmpR (r := rEqU K) (op_eqU hr.units) (pe_callB (r := Mi.rReprU) (L2.call_reprU T.sys hgd hr.units) (by rfl) T.m_repr (by decide +kernel) (pa_cons (L2N.pe_by_givenN T.low_InvalidRules hz.zc hf (pv 5)) pa_nil)) (pe_callB (r := Mi.rReprU) (L2.call_reprU T.sys hgd hr.units) (by rfl) T.m_repr (by decide +kernel) (pa_cons (pv 3) pa_nil)) (nomark _)))))))) .nil)) (pss_cons (ps_if (pt_val (pe_callB (r := rIsiE K [T.c_Rules]) (call_isiE T.os) (by rfl) T.m_isinstance (by decide +kernel) (pa_cons (pv 3) (pa_cons (pe_bltn (v := .ty "list") (u := .type "list") (by rfl) T.m_list (by decide +kernel) rfl) pa_nil)))) (pss_one (ps_expr (pe_bm PySem.F.plainAttrs_list PySem.F.slot_list_append PySem.F.type_list_append mt_append (pv 3) (pa_cons (pe_tup (pa_cons pe_int (pa_cons pe_int pa_nil))) pa_nil)))) pss_nil) (pss_one (ps_ret (pe_and (pv 1) (pe_one (pe_cmpR (r := rEqU K) (op_eqU hr.units) (pe_callB (r := Mi.rReprU) (L2.call_reprU T.sys hgd hr.units) (by rfl) T.m_repr (by decide +kernel) (pa_cons (pe_fld (pv 4) rfl) pa_nil)) (pe_callB (r := Mi.rReprU) (L2.call_reprU T.sys hgd hr.units) (by rfl) T.m_repr (by decide +kernel) (pa_cons (pe_callTy (r := rTupleU K) call_tuple_of (by rfl) T.m_tuple (by decide +kernel) (pa_cons (pv 0) pa_nil)) pa_nil)) (nomark _))))))))), (ms_seq (ms_asg (KF := K) (tg := .n 3) (me_if (mt_B (me_isiO T.os (by decide) isi_list me_v)) (me_new (mf_list (KF := K) me_v)) me_v)) (ms_seq (ms_try T.ex (by intro n hn; simp only [List.map_cons, List.map_nil, List.mem_cons, List.not_mem_nil, or_false] at hn; rcases hn with rfl <;> simp [Ls]) (fun _ => (ms_asg (KF := K) (tg := .n 4) (me_if (mt_test (me_2 (ok_eq (KF := K)) me_v me_int)) (me_make (ma_cons me_v ma_nil)) (me_makeK (ma_cons me_v ma_nil))))) (.cons (fun _ _ => (ms_seq (ms_if (mt_B (me_isiO T.os (by decide) isi_list me_v)) (ms_app (KF := K) me_str) ms_next) (ms_ret (me_and (me_not me_v) (me_2 (ok_eq (KF := K)) (me_reprE (me_by_givenN rfl)) (me_reprE me_v)))))) .nil)) (ms_seq (ms_if (mt_B (me_isiO T.os (by decide) isi_list me_v)) (ms_app (KF := K) (me_tup (ma_cons me_int (ma_cons me_int ma_nil)))) ms_next) (ms_ret (me_and me_v (me_2 (ok_eq (KF := K)) (me_reprE (me_fld T.C_Rules T.n_Rules_rows me_v)) (me_reprE (me_tuple (KF := K) me_v))))))))⟩)
theorem ok_Rules___ask_grain (T : Tx K mg base) : FnG P w K mg base (L2N.CX P w) 3 T.a_Rules___ask_grain T.fd_Rules___ask_grain ["self", "grain"] (SpM K T.cl (m_Rules___ask_grain T.c_Rules)) := by
  have G_is_count : FnG P w K mg base (L2N.CX P w) 2 T.a_is_count T.fd_is_count ["value"] (SpM K T.cl (m_is_count T.c_Rules)) := ok_is_count T
  exact fn_miN T.F_Rules___ask_grain sc_Rules___ask_grain (fun cdv A outer s H E hr hgd => ⟨_, (pss_one (ps_if (PW.pt (pw_or (pt_not (pt_val (pe_callG G_is_count (hr.mono (by decide)) hgd (by rfl) T.g_is_count T.F_is_count.kp T.b_is_count noX (pa_cons (pv 1) pa_nil)))) (pw_or1 (pt_cmpR op_ge (pv 1) (pe_callB (r := rLenU K) call_len (by rfl) T.m_len (by decide +kernel) (pa_cons (pe_fld (pv 0) rfl) pa_nil)) (nomark _))))) (pss_one (L2N.ps_raise_grainN rfl T.low_NoGrain (hr.mono (Nat.zero_le _)) (L2N.takes_of rfl rfl rfl rfl) (pa_cons (pv 1) pa_nil))) pss_nil)), (ms_if (mt_or (mt_not (mt_B (me_call0A (ma_cons me_v ma_nil)))) (mt_test (me_2 ok_cmp me_v (me_len (KF := K) (me_fld T.C_Rules T.n_Rules_rows me_v))))) (ms_raise_grainN rfl (ma_cons me_v ma_nil)) ms_next)⟩)
theorem ok_Rules__step (T : Tx K mg base) : FnG P w K mg base (L2N.CX P w) 4 T.a_Rules__step T.fd_Rules__step ["self", "grain"] (SpM K T.cl (m_Rules__step T.c_Rules)) := by
  have G_Rules___ask_grain : FnG P w K mg base (L2N.CX P w) 3 T.a_Rules___ask_grain T.fd_Rules___ask_grain ["self", "grain"] (SpM K T.cl (m_Rules___ask_grain T.c_Rules)) := ok_Rules___ask_grain T
  exact fn_miN T.F_Rules__step sc_Rules__step (fun cdv A outer s H E hr hgd => ⟨_, (pss_cons (ps_expr (pe_methG (pv 0) T.C_Rules T.h_Rules___ask_grain G_Rules___ask_grain (hr.mono (by decide)) hgd T.b_Rules___ask_grain (fun σ => L2N.passAt (L2N.takes_of rfl rfl rfl rfl) σ) (pa_cons (pv 1) pa_nil))) (pss_one (ps_ret (pe_ix (r := rIx K) ix_seq (pe_ix (r := rIx K) ix_seq (pe_fld (pv 0) rfl) (pe_callB (call_min2 rfl) (by rfl) T.m_min (by decide +kernel) (pa_cons (pe_op (r := rPlus K) op_plus (pv 1) pe_int) (pa_cons (pe_op op_sub (pe_callB (r := rLenU K) call_len (by rfl) T.m_len (by decide +kernel) (pa_cons (pe_fld (pv 0) rfl) pa_nil)) pe_int) pa_nil))) (fun _ _ => rfl)) pe_int (fun _ _ => rfl))))), (ms_seq (ms_drop (me_meth me_v (ma_cons me_v ma_nil))) (ms_ret (me_ix (KF := K) (me_ix (KF := K) (me_fld T.C_Rules T.n_Rules_rows me_v) (me_b2 ok_min2 (me_2 (ok_add (KF := K)) me_v me_int) (me_2 ok_sub (me_len (KF := K) (me_fld T.C_Rules T.n_Rules_rows me_v)) me_int))) me_int)))⟩)
theorem ok_Rules__length (T : Tx K mg base) : FnG P w K mg base (L2N.CX P w) 4 T.a_Rules__length T.fd_Rules__length ["self", "grain"] (SpM K T.cl (m_Rules__length T.c_Rules)) := by
  have G_Rules___ask_grain : FnG P w K mg base (L2N.CX P w) 3 T.a_Rules___ask_grain T.fd_Rules___ask_grain ["self", "grain"] (SpM K T.cl (m_Rules___ask_grain T.c_Rules)) := ok_Rules___ask_grain T
  exact fn_miN T.F_Rules__length sc_Rules__length (fun cdv A outer s H E hr hgd => ⟨_, (pss_cons (ps_expr (pe_methG (pv 0) T.C_Rules T.h_Rules___ask_grain G_Rules___ask_grain (hr.mono (by decide)) hgd T.b_Rules___ask_grain (fun σ => L2N.passAt (L2N.takes_of rfl rfl rfl rfl) σ) (pa_cons (pv 1) pa_nil))) (pss_one (ps_ret (pe_ix (r := rIx K) ix_seq (pe_ix (r := rIx K) ix_seq (pe_fld (pv 0) rfl) (pv 1) (fun _ _ => rfl)) pe_int (fun _ _ => rfl))))), (ms_seq (ms_drop (me_meth me_v (ma_cons me_v ma_nil))) (ms_ret (me_ix (KF := K) (me_ix (KF := K) (me_fld T.C_Rules T.n_Rules_rows me_v) me_v) me_int)))⟩)
theorem ok_Rules__keep (T : Tx K mg base) : FnG P w K mg base (L2N.CX P w) 4 T.a_Rules__keep T.fd_Rules__keep ["self", "grain"] (SpM K T.cl (m_Rules__keep T.c_Rules)) := by
  have G_Rules___ask_grain : FnG P w K mg base (L2N.CX P w) 3 T.a_Rules___ask_grain T.fd_Rules___ask_grain ["self", "grain"] (SpM K T.cl (m_Rules___ask_grain T.c_Rules)) := ok_Rules___ask_grain T
  exact fn_miN T.F_Rules__keep sc_Rules__keep (fun cdv A outer s H E hr hgd => ⟨_, (pss_cons (ps_expr (pe_methG (pv 0) T.C_Rules T.h_Rules___ask_grain G_Rules___ask_grain (hr.mono (by decide)) hgd T.b_Rules___ask_grain (fun σ => L2N.passAt (L2N.takes_of rfl rfl rfl rfl) σ) (pa_cons (pv 1) pa_nil))) (pss_one (ps_ret (pe_ix (r := rIx K) ix_seq (pe_ix (r := rIx K) ix_seq (pe_fld (pv 0) rfl) (pv 1) (fun _ _ => rfl)) pe_int (fun _ _ => rfl))))), (ms_seq (ms_drop (me_meth me_v (ma_cons me_v ma_nil))) (ms_ret (me_ix (KF := K) (me_ix (KF := K) (me_fld T.C_Rules T.n_Rules_rows me_v) me_v) me_int)))⟩)
theorem ok__law_of_grain (T : Tx K mg base) : FnG P w K mg base (L2N.CX P w) 5 T.a__law_of_grain T.fd__law_of_grain ["rules", "grain", "door", "way"] (SpM K T.cl (m__law_of_grain T.c_Rules)) := by
  have G_Rules__step : FnG P w K mg base (L2N.CX P w) 4 T.a_Rules__step T.fd_Rules__step ["self", "grain"] (SpM K T.cl (m_Rules__step T.c_Rules)) := ok_Rules__step T
  have G_Rules__length : FnG P w K mg base (L2N.CX P w) 4 T.a_Rules__length T.fd_Rules__length ["self", "grain"] (SpM K T.cl (m_Rules__length T.c_Rules)) := ok_Rules__length T
  have G_Rules__keep : FnG P w K mg base (L2N.CX P w) 4 T.a_Rules__keep T.fd_Rules__keep ["self", "grain"] (SpM K T.cl (m_Rules__keep T.c_Rules)) := ok_Rules__keep T
  exact fn_miN T.F__law_of_grain sc__law_of_grain (fun cdv A outer s H E hr hgd => ⟨_, (pss_cons (ps_set (i := 4) sc__law_of_grain.nd rfl (Or.inl rfl) (pe_ifExp (pt_val (pe_callB (r := rIsiE K [T.c_Rules]) (call_isiE T.os) (by rfl) T.m_isinstance (by decide +kernel) (pa_cons (pv 1) (pa_cons (pe_bltn (v := .ty "list") (u := .type "list") (by rfl) T.m_list (by decide +kernel) rfl) pa_nil)))) (pe_callTy (r := rListU K) call_list_of (by rfl) T.m_list (by decide +kernel) (pa_cons (pv 1) pa_nil)) (pv 1))) (pss_one (L2N.ps_try_n rfl rfl sc__law_of_grain.nd (L2N.takes_of rfl rfl rfl rfl) (fun W pn xe tk po => (pss_cons (ps_if (pt_cmpR (r := rEqU K) (op_eqU hr.units) (pv 2) pe_int (nomark _)) (pss_one (ps_ret (pe_lst (pa_cons pe_str (pa_cons (pe_ifExp (pt_cmpR (r := rEqU K) (op_eqU hr.units) (pv 3) pe_int (nomark _)) (pe_methG (pv 0) T.C_Rules T.h_Rules__length G_Rules__length (hr.mono (by decide)) hgd T.b_Rules__length (fun σ => L2N.passAt tk σ) (pa_cons (pv 4) pa_nil)) (pe_methGK (pv 0) T.C_Rules T.h_Rules__length G_Rules__length (hr.mono (by decide)) hgd T.kb_Rules__length_1_grain (fun σ => L2N.passAt tk σ) (pk_cons (pv 4) pk_nil))) pa_nil))))) pss_nil) (pss_cons (ps_if (pt_cmpR (r := rEqU K) (op_eqU hr.units) (pv 2) pe_int (nomark _)) (pss_one (ps_ret (pe_lst (pa_cons pe_str (pa_cons (pe_ifExp (pt_cmpR (r := rEqU K) (op_eqU hr.units) (pv 3) pe_int (nomark _)) (pe_methG (pv 0) T.C_Rules T.h_Rules__keep G_Rules__keep (hr.mono (by decide)) hgd T.b_Rules__keep (fun σ => L2N.passAt tk σ) (pa_cons (pv 4) pa_nil)) (pe_methGK (pv 0) T.C_Rules T.h_Rules__keep G_Rules__keep (hr.mono (by decide)) hgd T.kb_Rules__keep_1_grain (fun σ => L2N.passAt tk σ) (pk_cons (pv 4) pk_nil))) pa_nil))))) pss_nil) (pss_one (ps_ret (pe_lst (pa_cons pe_str (pa_cons (pe_ifExp (pt_cmpR (r := rEqU K) (op_eqU hr.units) (pv 3) pe_int (nomark _)) (pe_methG (pv 0) T.C_Rules T.h_Rules__step G_Rules__step (hr.mono (by decide)) hgd T.b_Rules__step (fun σ => L2N.passAt tk σ) (pa_cons (pv 4) pa_nil)) (pe_methGK (pv 0) T.C_Rules T.h_Rules__step G_Rules__step (hr.mono (by decide)) hgd T.kb_Rules__step_1_grain (fun σ => L2N.passAt tk σ) (pk_cons (pv 4) pk_nil))) pa_nil)))))))) (.cons (i := 5) ⟨rfl, by decide, Or.inl T.low_NoGrain.gC⟩ rfl rfl (fun a oe cls d pn hz hf => (pss_cons (ps_if (pt_val (pe_callB (r := rIsiE K [T.c_Rules]) (call_isiE T.os) (by rfl) T.m_isinstance (by decide +kernel) (pa_cons (pv 4) (pa_cons (pe_bltn (v := .ty "list") (u := .type "list") (by rfl) T.m_list (by decide +kernel) rfl) pa_nil)))) (pss_one (ps_expr (pe_bm PySem.F.plainAttrs_list PySem.F.slot_list_append PySem.F.type_list_append mt_append (pv 4) (pa_cons pe_str pa_nil)))) pss_nil) (pss_one (ps_ret (pe_lst (pa_cons pe_str (pa_cons (pe_cmpR (r := rEqU K) (op_eqU hr.units) (pe_callB (Eg.call_reprD T.sys hgd hr.units) (by rfl) T.m_repr (by decide +kernel) (pa_cons (L2N.pe_by_grainN T.low_NoGrain hz.zc hf (pv 5)) pa_nil)) (pe_callB (Eg.call_reprD T.sys hgd hr.units) (by rfl) T.m_repr (by decide +kernel) (pa_cons (pv 4) pa_nil)) (nomark _)) pa_nil))))))) .nil)))), (ms_seq (ms_asg (KF := K) (tg := .n 4) (me_if (mt_B (me_isiO T.os (by decide) isi_list me_v)) (me_new (mf_list (KF := K) me_v)) me_v)) (ms_try T.ex (by intro n hn; simp only [List.map_cons, List.map_nil, List.mem_cons, List.not_mem_nil, or_false] at hn; rcases hn with rfl <;> simp [Ls]) (fun _ => (ms_seq (ms_if (mt_test (me_2 (ok_eq (KF := K)) me_v me_int)) (ms_retF (mf_lst (ma_cons me_str (ma_cons (me_if (mt_test (me_2 (ok_eq (KF := K)) me_v me_int)) (me_meth me_v (ma_cons me_v ma_nil)) (me_methK me_v (ma_cons me_v ma_nil))) ma_nil)))) ms_next) (ms_seq (ms_if (mt_test (me_2 (ok_eq (KF := K)) me_v me_int)) (ms_retF (mf_lst (ma_cons me_str (ma_cons (me_if (mt_test (me_2 (ok_eq (KF := K)) me_v me_int)) (me_meth me_v (ma_cons me_v ma_nil)) (me_methK me_v (ma_cons me_v ma_nil))) ma_nil)))) ms_next) (ms_retF (mf_lst (ma_cons me_str (ma_cons (me_if (mt_test (me_2 (ok_eq (KF := K)) me_v me_int)) (me_meth me_v (ma_cons me_v ma_nil)) (me_methK me_v (ma_cons me_v ma_nil))) ma_nil))))))) (.cons (fun _ _ => (ms_seq (ms_if (mt_B (me_isiO T.os (by decide) isi_list me_v)) (ms_app (KF := K) me_str) ms_next) (ms_retF (mf_lst (ma_cons me_str (ma_cons (me_2 (ok_eq (KF := K)) (me_repr (me_by_grainN rfl)) (me_repr me_v)) ma_nil)))))) .nil)))⟩)
theorem ok_Rules____len__ (T : Tx K mg base) : FnG P w K mg base (L2N.CX P w) 1 T.a_Rules____len__ T.fd_Rules____len__ ["self"] (SpM K T.cl (m_Rules____len__ T.c_Rules)) := by
  exact fn_miN T.F_Rules____len__ sc_Rules____len__ (fun cdv A outer s H E hr hgd => ⟨_, (pss_one (ps_ret (pe_callB (r := rLenU K) call_len (by rfl) T.m_len (by decide +kernel) (pa_cons (pe_fld (pv 0) rfl) pa_nil)))), (ms_ret (me_len (KF := K) (me_fld T.C_Rules T.n_Rules_rows me_v)))⟩)
theorem ok__law_grains_right (T : Tx K mg base) : FnG P w K mg base (L2N.CX P w) 6 T.a__law_grains_right T.fd__law_grains_right ["rules", "rows", "way"] (SpM K T.cl (m__law_grains_right T.c_Rules)) := by
  have G_Rules____len__ : FnG P w K mg base (L2N.CX P w) 1 T.a_Rules____len__ T.fd_Rules____len__ ["self"] (SpM K T.cl (m_Rules____len__ T.c_Rules)) := ok_Rules____len__ T
  have G__law_of_grain : FnG P w K mg base (L2N.CX P w) 5 T.a__law_of_grain T.fd__law_of_grain ["rules", "grain", "door", "way"] (SpM K T.cl (m__law_of_grain T.c_Rules)) := ok__law_of_grain T
  exact fn_miN T.F__law_grains_right sc__law_grains_right (fun cdv A outer s H E hr hgd => ⟨_, (pss_cons (ps_set (i := 3) sc__law_grains_right.nd rfl (Or.inl rfl) (pe_callB (r := rLenU K) call_len (by rfl) T.m_len (by decide +kernel) (pa_cons (pv 1) pa_nil))) (pss_cons (ps_if (PW.pt (pw_or (pt_cmpR (r := rNeU K) (op_neU hr.units) (pe_callB (Eg.call_reprD T.sys hgd hr.units) (by rfl) T.m_repr (by decide +kernel) (pa_cons (pe_callB (r := rLenX K [(T.c_Rules, SpM K T.cl (m_Rules____len__ T.c_Rules))]) (call_lenX (lens_cons T.ln_Rules (runsLen_G G_Rules____len__ (hr.mono (by decide)) hgd T.b_Rules____len__ noX) lens_nil)) (by rfl) T.m_len (by decide +kernel) (pa_cons (pv 0) pa_nil)) pa_nil)) (pe_callB (Eg.call_reprD T.sys hgd hr.units) (by rfl) T.m_repr (by decide +kernel) (pa_cons (pv 3) pa_nil)) (nomark _)) (pw_or1 (pt_cmpR (r := rNeU K) (op_neU hr.units) (pe_callB (Eg.call_reprD T.sys hgd hr.units) (by rfl) T.m_repr (by decide +kernel) (pa_cons (pe_fld (pv 0) rfl) pa_nil)) (pe_callB (Eg.call_reprD T.sys hgd hr.units) (by rfl) T.m_repr (by decide +kernel) (pa_cons (pe_callTy (r := rTupleU K) call_tuple_of (by rfl) T.m_tuple (by decide +kernel) (pa_cons (pv 1) pa_nil)) pa_nil)) (nomark _))))) (pss_one (ps_ret pe_bl)) pss_nil) (pss_cons (ps_for (passes_of rfl) rfl (pi_range1 rfl T.m_range (pa_cons (pv 3) pa_nil)) (pg_name (i := 4) sc__law_grains_right.nd rfl (Or.inl rfl)) (pss_cons (ps_set (i := 6) sc__law_grains_right.nd rfl (Or.inl rfl) (pe_lst (pa_cons (pe_ix (r := rIx K) ix_seq (pe_ix (r := rIx K) ix_seq (pv 1) (pv 4) (fun _ _ => rfl)) pe_int (fun _ _ => rfl)) (pa_cons (pe_ix (r := rIx K) ix_seq (pe_ix (r := rIx K) ix_seq (pv 1) (pv 4) (fun _ _ => rfl)) pe_int (fun _ _ => rfl)) (pa_cons (pe_ix (r := rIx K) ix_seq (pe_ix (r := rIx K) ix_seq (pv 1) (pe_callB (call_min2 rfl) (by rfl) T.m_min (by decide +kernel) (pa_cons (pe_op (r := rPlus K) op_plus (pv 4) pe_int) (pa_cons (pe_op op_sub (pv 3) pe_int) pa_nil))) (fun _ _ => rfl)) pe_int (fun _ _ => rfl)) pa_nil))))) (pss_one (ps_for (passes_of rfl) rfl (pi_range1 rfl T.m_range (pa_cons pe_int pa_nil)) (pg_name (i := 7) sc__law_grains_right.nd rfl (Or.inl rfl)) (pss_one (ps_if (pt_cmpR (r := rNeU K) (op_neU hr.units) (pe_callB (Eg.call_reprD T.sys hgd hr.units) (by rfl) T.m_repr (by decide +kernel) (pa_cons (pe_callG G__law_of_grain (hr.mono (by decide)) hgd (by rfl) T.g__law_of_grain T.F__law_of_grain.kp T.b__law_of_grain noX (pa_cons (pv 0) (pa_cons (pv 4) (pa_cons (pv 7) (pa_cons (pv 2) pa_nil))))) pa_nil)) (pe_callB (Eg.call_reprD T.sys hgd hr.units) (by rfl) T.m_repr (by decide +kernel) (pa_cons (pe_lst (pa_cons pe_str (pa_cons (pe_ix (r := rIx K) ix_seq (pv 6) (pv 7) (fun _ _ => rfl)) pa_nil))) pa_nil)) (nomark _)) (pss_one (ps_ret pe_bl)) pss_nil)))))) (pss_cons (ps_for (passes_of rfl) rfl (pi_seq (pe_lst (pa_cons (pv 3) (pa_cons (pe_op (r := rPlus K) op_plus (pv 3) pe_int) (pa_cons (pe_un un_neg pe_int) (pa_cons (pe_un un_neg (pv 3)) (pa_cons pe_bl (pa_cons pe_bl (pa_cons pe_non (pa_cons pe_str (pa_cons pe_str (pa_cons (pe_tup (pa_cons pe_int pa_nil)) (pa_cons (pe_lst (pa_cons pe_int pa_nil)) (pa_cons (pe_lst pa_nil) (pa_cons (pe_op op_pow pe_int pe_int) (pa_cons (pe_ix (r := rIx K) ix_seq (pe_fld (pv 0) rfl) pe_int (fun _ _ => rfl)) pa_nil)))))))))))))))) (pg_name (i := 5) sc__law_grains_right.nd rfl (Or.inl rfl)) (pss_one (ps_for (passes_of rfl) rfl (pi_range1 rfl T.m_range (pa_cons pe_int pa_nil)) (pg_name (i := 7) sc__law_grains_right.nd rfl (Or.inl rfl)) (pss_one (ps_if (pt_cmpR (r := rNeU K) (op_neU hr.units) (pe_callB (Eg.call_reprD T.sys hgd hr.units) (by rfl) T.m_repr (by decide +kernel) (pa_cons (pe_callG G__law_of_grain (hr.mono (by decide)) hgd (by rfl) T.g__law_of_grain T.F__law_of_grain.kp T.b__law_of_grain noX (pa_cons (pv 0) (pa_cons (pv 5) (pa_cons (pv 7) (pa_cons (pv 2) pa_nil))))) pa_nil)) (pe_callB (Eg.call_reprD T.sys hgd hr.units) (by rfl) T.m_repr (by decide +kernel) (pa_cons (pe_lst (pa_cons pe_str (pa_cons pe_bl pa_nil))) pa_nil)) (nomark _)) (pss_one (ps_ret pe_bl)) pss_nil))))) (pss_one (ps_ret pe_bl)))))), (ms_seq (ms_asg (KF := K) (tg := .n 3) (me_len (KF := K) me_v)) (ms_seq (ms_if (mt_or (mt_test (me_2 (ok_ne (KF := K)) (me_repr (me_lenO me_v)) (me_repr me_v))) (mt_test (me_2 (ok_ne (KF := K)) (me_repr (me_fld T.C_Rules T.n_Rules_rows me_v)) (me_repr (me_tuple (KF := K) me_v))))) (ms_ret me_bl) ms_next) (ms_seq (ms_for (KF := K) (mi_rng1 (ma_cons me_v ma_nil)) (ms_seq (ms_asg (KF := K) (tg := .n 6) (me_of_mf (mf_lst (ma_cons (me_ix (KF := K) (me_ix (KF := K) me_v me_v) me_int) (ma_cons (me_ix (KF := K) (me_ix (KF := K) me_v me_v) me_int) (ma_cons (me_ix (KF := K) (me_ix (KF := K) me_v (me_b2 ok_min2 (me_2 (ok_add (KF := K)) me_v me_int) (me_2 ok_sub me_v me_int))) me_int) ma_nil)))))) (ms_for (KF := K) (mi_rng1 (ma_cons me_int ma_nil)) (ms_if (mt_test (me_2 (ok_ne (KF := K)) (me_repr (me_call0A (ma_cons me_v (ma_cons me_v (ma_cons me_v (ma_cons me_v ma_nil)))))) (me_repr (me_of_mf (mf_lst (ma_cons me_str (ma_cons (me_ix (KF := K) me_v me_v) ma_nil))))))) (ms_ret me_bl) ms_next)))) (ms_seq (ms_for (KF := K) (mi_seq (KF := K) (me_of_mf (mf_lst (ma_cons me_v (ma_cons (me_2 (ok_add (KF := K)) me_v me_int) (ma_cons (me_1 ok_neg me_int) (ma_cons (me_1 ok_neg me_v) (ma_cons me_bl (ma_cons me_bl (ma_cons me_non (ma_cons me_str (ma_cons me_str (ma_cons (me_tup (ma_cons me_int ma_nil)) (ma_cons (me_of_mf (mf_lst (ma_cons me_int ma_nil))) (ma_cons (me_of_mf (mf_lst ma_nil)) (ma_cons (me_2 ok_pow me_int me_int) (ma_cons (me_ix (KF := K) (me_fld T.C_Rules T.n_Rules_rows me_v) me_int) ma_nil))))))))))))))))) (ms_for (KF := K) (mi_rng1 (ma_cons me_int ma_nil)) (ms_if (mt_test (me_2 (ok_ne (KF := K)) (me_repr (me_call0A (ma_cons me_v (ma_cons me_v (ma_cons me_v (ma_cons me_v ma_nil)))))) (me_repr (me_of_mf (mf_lst (ma_cons me_str (ma_cons me_bl ma_nil))))))) (ms_ret me_bl) ms_next))) (ms_ret me_bl)))))⟩)
theorem okh_Rules____eq__ (T : Tx K mg base) : L2H.FnH P w K mg base (L2N.CX P w) 1 T.a_Rules____eq__ T.fd_Rules____eq__ ["self", "other"] (SpM K T.cl (m_Rules____eq__ T.c_Rules)) := by
  exact fn_miH T.F_Rules____eq__ sc_Rules____eq__ (fun cdv A outer s H E pin hr hc => ⟨_, (pss_one (ps_ret (pe_and (pe_callB (r := rIsiE K [T.c_Rules]) (call_isiE T.os) (by rfl) T.m_isinstance (by decide +kernel) (pa_cons (pv 1) (pa_cons (pe_glob (v := .ref T.c_Rules) (by rfl) T.g_Rules rfl) pa_nil))) (pe_one (pe_cmpR (r := rEqU K) (op_eqU hr.units) (pe_fld (pv 0) rfl) (pe_fld (pv 1) rfl) (nomark _)))))), (ms_ret (me_and (me_isiC T.os (by simp) me_v) (me_2 (ok_eq (KF := K)) (me_fld T.C_Rules T.n_Rules_rows me_v) (me_fld T.C_Rules T.n_Rules_rows me_v))))⟩)
theorem ok_Rules____eq__ (T : Tx K mg base) : FnG P w K mg base (L2N.CX P w) 1 T.a_Rules____eq__ T.fd_Rules____eq__ ["self", "other"] (SpM K T.cl (m_Rules____eq__ T.c_Rules)) := by
  exact fn_miN T.F_Rules____eq__ sc_Rules____eq__ (fun cdv A outer s H E hr hgd => ⟨_, (pss_one (ps_ret (pe_and (pe_callB (r := rIsiE K [T.c_Rules]) (call_isiE T.os) (by rfl) T.m_isinstance (by decide +kernel) (pa_cons (pv 1) (pa_cons (pe_glob (v := .ref T.c_Rules) (by rfl) T.g_Rules rfl) pa_nil))) (pe_one (pe_cmpR (r := rEqU K) (op_eqU hr.units) (pe_fld (pv 0) rfl) (pe_fld (pv 1) rfl) (nomark _)))))), (ms_ret (me_and (me_isiC T.os (by simp) me_v) (me_2 (ok_eq (KF := K)) (me_fld T.C_Rules T.n_Rules_rows me_v) (me_fld T.C_Rules T.n_Rules_rows me_v))))⟩)
theorem ok__law_equal_right (T : Tx K mg base) : FnG P w K mg base (L2N.CX P w) 7 T.a__law_equal_right T.fd__law_equal_right ["rules", "rows"] (SpM K T.cl (m__law_equal_right T.c_Rules)) := by
  have H_Rules____eq__ : L2H.FnH P w K mg base (L2N.CX P w) 1 T.a_Rules____eq__ T.fd_Rules____eq__ ["self", "other"] (SpM K T.cl (m_Rules____eq__ T.c_Rules)) := okh_Rules____eq__ T
  have G_Rules____eq__ : FnG P w K mg base (L2N.CX P w) 1 T.a_Rules____eq__ T.fd_Rules____eq__ ["self", "other"] (SpM K T.cl (m_Rules____eq__ T.c_Rules)) := ok_Rules____eq__ T
  have G_Rules____init__ : FnG P w K mg base (L2N.CX P w) 5 T.a_Rules____init__ T.fd_Rules____init__ ["self", "rows"] (SpM K T.cl (m_Rules____init__ T.c_Rules)) := ok_Rules____init__ T
  exact fn_miN T.F__law_equal_right sc__law_equal_right (fun cdv A outer s H E hr hgd => ⟨_, (pss_cons (ps_asg (pv 0) (pg_lst rfl (pgs_cons (pg_name (i := 2) sc__law_equal_right.nd rfl (Or.inl rfl)) (pgs_cons (pg_name (i := 3) sc__law_equal_right.nd rfl (Or.inl rfl)) pgs_nil)))) (pss_cons (ps_set (i := 4) sc__law_equal_right.nd rfl (Or.inl rfl) (pe_cmpR (r := rEqU K) (op_eqU hr.units) (pe_ix (r := rIx K) ix_seq (pv 1) pe_int (fun _ _ => rfl)) (pe_ix (r := rIx K) ix_seq (pv 1) pe_int (fun _ _ => rfl)) (nomark _))) (pss_cons (ps_if (pt_cmpR (r := rNeU K) (op_neU hr.units) (pe_callB (Eg.call_reprD T.sys hgd hr.units) (by rfl) T.m_repr (by decide +kernel) (pa_cons (pe_lst (pa_cons (pe_cmpR (r := rEqX K [T.c_Rules] [(T.c_Rules, SpM K T.cl (m_Rules____eq__ T.c_Rules))] false) (op_eqX (neg := false) hr.units hr.un66 T.os (eqs_cons T.q_Rules (runsEq_G G_Rules____eq__ (hr.mono (by decide)) hgd T.b_Rules____eq__ noX) eqs_nil)) (pv 2) (pv 3) (nomark _)) (pa_cons (pe_cmpR (r := rEqX K [T.c_Rules] [(T.c_Rules, SpM K T.cl (m_Rules____eq__ T.c_Rules))] false) (op_eqX (neg := false) hr.units hr.un66 T.os (eqs_cons T.q_Rules (runsEq_G G_Rules____eq__ (hr.mono (by decide)) hgd T.b_Rules____eq__ noX) eqs_nil)) (pv 3) (pv 2) (nomark _)) (pa_cons (pe_cmpR (r := rEqX K [T.c_Rules] [(T.c_Rules, SpM K T.cl (m_Rules____eq__ T.c_Rules))] true) (op_eqX (neg := true) hr.units hr.un66 T.os (eqs_cons T.q_Rules (runsEq_G G_Rules____eq__ (hr.mono (by decide)) hgd T.b_Rules____eq__ noX) eqs_nil)) (pv 2) (pv 3) (nomark _)) pa_nil)))) pa_nil)) (pe_callB (Eg.call_reprD T.sys hgd hr.units) (by rfl) T.m_repr (by decide +kernel) (pa_cons (pe_lst (pa_cons (pv 4) (pa_cons (pv 4) (pa_cons (pe_not (pv 4)) pa_nil)))) pa_nil)) (nomark _)) (pss_one (ps_ret pe_bl)) pss_nil) (pss_cons (ps_if (pt_cmpR (r := rNeU K) (op_neU hr.units) (pe_callB (Eg.call_reprD T.sys hgd hr.units) (by rfl) T.m_repr (by decide +kernel) (pa_cons (pe_lst (pa_cons (pe_cmpR (r := rEqX K [T.c_Rules] [(T.c_Rules, SpM K T.cl (m_Rules____eq__ T.c_Rules))] false) (op_eqX (neg := false) hr.units hr.un66 T.os (eqs_cons T.q_Rules (runsEq_G G_Rules____eq__ (hr.mono (by decide)) hgd T.b_Rules____eq__ noX) eqs_nil)) (pv 2) (pe_makeG T.M_Rules G_Rules____init__ (hr.mono (by decide)) hgd (by rfl) T.g_Rules T.b_Rules____init__ (fun σ => L2N.passAt (L2N.takes_of rfl rfl rfl rfl) σ) (pa_cons (pe_callTy (r := rTupleU K) call_tuple_of (by rfl) T.m_tuple (by decide +kernel) (pa_cons (pe_ix (r := rIx K) ix_seq (pv 1) pe_int (fun _ _ => rfl)) pa_nil)) pa_nil)) (nomark _)) (pa_cons (pe_cmpR (r := rEqX K [T.c_Rules] [(T.c_Rules, SpM K T.cl (m_Rules____eq__ T.c_Rules))] true) (op_eqX (neg := true) hr.units hr.un66 T.os (eqs_cons T.q_Rules (runsEq_G G_Rules____eq__ (hr.mono (by decide)) hgd T.b_Rules____eq__ noX) eqs_nil)) (pv 2) (pe_makeG T.M_Rules G_Rules____init__ (hr.mono (by decide)) hgd (by rfl) T.g_Rules T.b_Rules____init__ (fun σ => L2N.passAt (L2N.takes_of rfl rfl rfl rfl) σ) (pa_cons (pe_callTy (r := rListU K) call_list_of (by rfl) T.m_list (by decide +kernel) (pa_cons (pe_ix (r := rIx K) ix_seq (pv 1) pe_int (fun _ _ => rfl)) pa_nil)) pa_nil)) (nomark _)) pa_nil))) pa_nil)) (pe_callB (Eg.call_reprD T.sys hgd hr.units) (by rfl) T.m_repr (by decide +kernel) (pa_cons (pe_lst (pa_cons pe_bl (pa_cons pe_bl pa_nil))) pa_nil)) (nomark _)) (pss_one (ps_ret pe_bl)) pss_nil) (pss_cons (ps_for (passes_of rfl) rfl (pi_seq (pe_lst (pa_cons (pe_ix (r := rIx K) ix_seq (pv 1) pe_int (fun _ _ => rfl)) (pa_cons (pe_callTy (r := rTupleU K) call_tuple_of (by rfl) T.m_tuple (by decide +kernel) (pa_cons (pe_ix (r := rIx K) ix_seq (pv 1) pe_int (fun _ _ => rfl)) pa_nil)) (pa_cons (pe_callB (r := rLenU K) call_len (by rfl) T.m_len (by decide +kernel) (pa_cons (pe_ix (r := rIx K) ix_seq (pv 1) pe_int (fun _ _ => rfl)) pa_nil)) (pa_cons pe_non (pa_cons pe_int (pa_cons pe_str pa_nil)))))))) (pg_name (i := 5) sc__law_equal_right.nd rfl (Or.inl rfl)) (pss_one (ps_if (pt_cmpR (r := rNeU K) (op_neU hr.units) (pe_callB (Eg.call_reprD T.sys hgd hr.units) (by rfl) T.m_repr (by decide +kernel) (pa_cons (pe_lst (pa_cons (pe_cmpR (r := rEqX K [T.c_Rules] [(T.c_Rules, SpM K T.cl (m_Rules____eq__ T.c_Rules))] false) (op_eqX (neg := false) hr.units hr.un66 T.os (eqs_cons T.q_Rules (runsEq_G G_Rules____eq__ (hr.mono (by decide)) hgd T.b_Rules____eq__ noX) eqs_nil)) (pv 2) (pv 5) (nomark _)) (pa_cons (pe_cmpR (r := rEqX K [T.c_Rules] [(T.c_Rules, SpM K T.cl (m_Rules____eq__ T.c_Rules))] true) (op_eqX (neg := true) hr.units hr.un66 T.os (eqs_cons T.q_Rules (runsEq_G G_Rules____eq__ (hr.mono (by decide)) hgd T.b_Rules____eq__ noX) eqs_nil)) (pv 2) (pv 5) (nomark _)) pa_nil))) pa_nil)) (pe_callB (Eg.call_reprD T.sys hgd hr.units) (by rfl) T.m_repr (by decide +kernel) (pa_cons (pe_lst (pa_cons pe_bl (pa_cons pe_bl pa_nil))) pa_nil)) (nomark _)) (pss_one (ps_ret pe_bl)) pss_nil))) (pss_one (ps_ret pe_bl))))))), (ms_seq (ms_asg (KF := K) (tg := (.l [2, 3])) me_v) (ms_seq (ms_asg (KF := K) (tg := .n 4) (me_2 (ok_eq (KF := K)) (me_ix (KF := K) me_v me_int) (me_ix (KF := K) me_v me_int))) (ms_seq (ms_if (mt_test (me_2 (ok_ne (KF := K)) (me_repr (me_of_mf (mf_lst (ma_cons (me_eqO me_v me_v) (ma_cons (me_eqO me_v me_v) (ma_cons (me_eqO me_v me_v) ma_nil)))))) (me_repr (me_of_mf (mf_lst (ma_cons me_v (ma_cons me_v (ma_cons (me_not me_v) ma_nil)))))))) (ms_ret me_bl) ms_next) (ms_seq (ms_if (mt_test (me_2 (ok_ne (KF := K)) (me_repr (me_of_mf (mf_lst (ma_cons (me_eqO me_v (me_make (ma_cons (me_tuple (KF := K) (me_ix (KF := K) me_v me_int)) ma_nil))) (ma_cons (me_eqO me_v (me_make (ma_cons (me_of_mf (mf_list (KF := K) (me_ix (KF := K) me_v me_int))) ma_nil))) ma_nil))))) (me_repr (me_of_mf (mf_lst (ma_cons me_bl (ma_cons me_bl ma_nil))))))) (ms_ret me_bl) ms_next) (ms_seq (ms_for (KF := K) (mi_seq (KF := K) (me_of_mf (mf_lst (ma_cons (me_ix (KF := K) me_v me_int) (ma_cons (me_tuple (KF := K) (me_ix (KF := K) me_v me_int)) (ma_cons (me_len (KF := K) (me_ix (KF := K) me_v me_int)) (ma_cons me_non (ma_cons me_int (ma_cons me_str ma_nil))))))))) (ms_if (mt_test (me_2 (ok_ne (KF := K)) (me_repr (me_of_mf (mf_lst (ma_cons (me_eqO me_v me_v) (ma_cons (me_eqO me_v me_v) ma_nil))))) (me_repr (me_of_mf (mf_lst (ma_cons me_bl (ma_cons me_bl ma_nil))))))) (ms_ret me_bl) ms_next)) (ms_ret me_bl))))))⟩)
theorem ok__law_right (T : Tx K mg base) : FnG P w K mg base (L2N.CX P w) 8 T.a__law_right T.fd__law_right ["box"] (SpM K T.cl (m__law_right T.c_Rules)) := by
  have G__law_rows : FnG P w K mg base (L2N.CX P w) 2 T.a__law_rows T.fd__law_rows ["box"] (SpM K T.cl (m__law_rows T.c_Rules)) := ok__law_rows T
  have G__law_take : FnG P w K mg base (L2N.CX P w) 1 T.a__law_take T.fd__law_take ["box", "many"] (SpM K T.cl (m__law_take T.c_Rules)) := ok__law_take T
  have G__law_ended : FnG P w K mg base (L2N.CX P w) 2 T.a__law_ended T.fd__law_ended ["box", "rows"] (SpM K T.cl (m__law_ended T.c_Rules)) := ok__law_ended T
  have G_Rules____init__ : FnG P w K mg base (L2N.CX P w) 5 T.a_Rules____init__ T.fd_Rules____init__ ["self", "rows"] (SpM K T.cl (m_Rules____init__ T.c_Rules)) := ok_Rules____init__ T
  have G__law_values : FnG P w K mg base (L2N.CX P w) 2 T.a__law_values T.fd__law_values ["box", "full", "rows"] (SpM K T.cl (m__law_values T.c_Rules)) := ok__law_values T
  have G__law_equal_right : FnG P w K mg base (L2N.CX P w) 7 T.a__law_equal_right T.fd__law_equal_right ["rules", "rows"] (SpM K T.cl (m__law_equal_right T.c_Rules)) := ok__law_equal_right T
  have G__law_grains_right : FnG P w K mg base (L2N.CX P w) 6 T.a__law_grains_right T.fd__law_grains_right ["rules", "rows", "way"] (SpM K T.cl (m__law_grains_right T.c_Rules)) := ok__law_grains_right T
  have G__law_asked_right : FnG P w K mg base (L2N.CX P w) 7 T.a__law_asked_right T.fd__law_asked_right ["value", "due", "way"] (SpM K T.cl (m__law_asked_right T.c_Rules)) := ok__law_asked_right T
  have G__law_are_rules : FnG P w K mg base (L2N.CX P w) 2 T.a__law_are_rules T.fd__law_are_rules ["value"] (SpM K T.cl (m__law_are_rules T.c_Rules)) := ok__law_are_rules T
  have H_Rules____eq__ : L2H.FnH P w K mg base (L2N.CX P w) 1 T.a_Rules____eq__ T.fd_Rules____eq__ ["self", "other"] (SpM K T.cl (m_Rules____eq__ T.c_Rules)) := okh_Rules____eq__ T
  have G_Rules____eq__ : FnG P w K mg base (L2N.CX P w) 1 T.a_Rules____eq__ T.fd_Rules____eq__ ["self", "other"] (SpM K T.cl (m_Rules____eq__ T.c_Rules)) := ok_Rules____eq__ T
  exact fn_miN T.F__law_right sc__law_right (fun cdv A outer s H E hr hgd => ⟨_, (pss_cons (ps_set (i := 1) sc__law_right.nd rfl (Or.inl rfl) (pe_lst (pa_cons (pe_callG G__law_rows (hr.mono (by decide)) hgd (by rfl) T.g__law_rows T.F__law_rows.kp T.b__law_rows noX (pa_cons (pv 0) pa_nil)) (pa_cons (pe_callG G__law_rows (hr.mono (by decide)) hgd (by rfl) T.g__law_rows T.F__law_rows.kp T.b__law_rows noX (pa_cons (pv 0) pa_nil)) pa_nil)))) (pss_cons (ps_if (pt_cmpR (r := rEqU K) (op_eqU hr.units) (pe_callG G__law_take (hr.mono (by decide)) hgd (by rfl) T.g__law_take T.F__law_take.kp T.b__law_take noX (pa_cons (pv 0) (pa_cons pe_int pa_nil))) pe_int (nomark _)) (pss_one (ps_asg (pe_callTy (r := rListU K) call_list_of (by rfl) T.m_list (by decide +kernel) (pa_cons (pe_ix (r := rIx K) ix_seq (pv 1) pe_int (fun _ _ => rfl)) pa_nil)) (pg_sub (pv 1) pe_int set_list))) pss_nil) (pss_cons (ps_setLc (i := 2) (own := [("full", 9)]) (tt := tYes) rfl sc__law_right.nd rfl rfl (sw_true rfl rfl rfl (by decide +kernel)) (pi_seq (pv 1)) (blkOk_by (own := [("full", 9)]) (N := ["box", "fulls", "rows", "handed", "rules", "k", "turn", "way", "value", "full", "row", "e"]) (sc := defScope s__law_right) (by decide +kernel)) (fun _ _ _ _ _ => (pg_name (i := 9) sc__law_right.nd rfl (Or.inl rfl))) (fun _ _ _ _ _ => pts_nil) (fun _ _ _ _ _ => (pe_callG G__law_ended (hr.mono (by decide)) hgd (by rfl) T.g__law_ended T.F__law_ended.kp T.b__law_ended noX (pa_cons (pv 0) (pa_cons (pv 9) pa_nil))))) (pss_cons (ps_setLc (i := 3) (own := [("row", 10)]) (tt := tYes) rfl sc__law_right.nd rfl rfl (sw_true rfl rfl rfl (by decide +kernel)) (pi_seq (pv 2)) (blkOk_by (own := [("row", 10)]) (N := ["box", "fulls", "rows", "handed", "rules", "k", "turn", "way", "value", "full", "row", "e"]) (sc := defScope s__law_right) (by decide +kernel)) (fun _ _ _ _ _ => (pg_name (i := 10) sc__law_right.nd rfl (Or.inl rfl))) (fun _ _ _ _ _ => pts_nil) (fun _ _ _ _ _ => (pe_callTy (r := rListU K) call_list_of (by rfl) T.m_list (by decide +kernel) (pa_cons (pv 10) pa_nil)))) (pss_cons (ps_set (i := 4) sc__law_right.nd rfl (Or.inl rfl) (pe_lst (pa_cons (pe_makeG T.M_Rules G_Rules____init__ (hr.mono (by decide)) hgd (by rfl) T.g_Rules T.b_Rules____init__ (fun σ => L2N.passAt (L2N.takes_of rfl rfl rfl rfl) σ) (pa_cons (pe_ix (r := rIx K) ix_seq (pv 3) pe_int (fun _ _ => rfl)) pa_nil)) (pa_cons (pe_makeG T.M_Rules G_Rules____init__ (hr.mono (by decide)) hgd (by rfl) T.g_Rules T.b_Rules____init__ (fun σ => L2N.passAt (L2N.takes_of rfl rfl rfl rfl) σ) (pa_cons (pe_ix (r := rIx K) ix_seq (pv 3) pe_int (fun _ _ => rfl)) pa_nil)) pa_nil)))) (pss_cons (ps_for (passes_of rfl) rfl (pi_seq (pe_lst (pa_cons pe_int (pa_cons pe_int pa_nil)))) (pg_name (i := 5) sc__law_right.nd rfl (Or.inl rfl)) (pss_one (ps_asg (pe_lst (pa_cons (pe_tup (pa_cons pe_int (pa_cons pe_int pa_nil))) pa_nil)) (pg_sliceO (pe_ix (r := rIx K) ix_seq (pv 3) (pv 5) (fun _ _ => rfl)) po_none po_none)))) (pss_cons (ps_for (passes_of rfl) rfl (pi_range1 rfl T.m_range (pa_cons pe_int pa_nil)) (pg_name (i := 6) sc__law_right.nd rfl (Or.inl rfl)) (pss_one (ps_if (pt_not (pt_val (pe_callG G__law_grains_right (hr.mono (by decide)) hgd (by rfl) T.g__law_grains_right T.F__law_grains_right.kp T.b__law_grains_right noX (pa_cons (pe_ix (r := rIx K) ix_seq (pv 4) (pe_op op_mod (pv 6) pe_int) (fun _ _ => rfl)) (pa_cons (pe_ix (r := rIx K) ix_seq (pv 2) (pe_op op_mod (pv 6) pe_int) (fun _ _ => rfl)) (pa_cons (pe_op op_fdivZ (pv 6) pe_int) pa_nil)))))) (pss_one (ps_ret pe_bl)) pss_nil))) (pss_cons (ps_set (i := 7) sc__law_right.nd rfl (Or.inl rfl) pe_int) (pss_cons (ps_for (passes_of rfl) rfl (pi_seq (pe_lst (pa_cons pe_int (pa_cons pe_int pa_nil)))) (pg_name (i := 5) sc__law_right.nd rfl (Or.inl rfl)) (pss_cons (ps_for (passes_of rfl) rfl (pi_seq (pe_callG G__law_values (hr.mono (by decide)) hgd (by rfl) T.g__law_values T.F__law_values.kp T.b__law_values noX (pa_cons (pv 0) (pa_cons (pe_ix (r := rIx K) ix_seq (pv 1) (pv 5) (fun _ _ => rfl)) (pa_cons (pe_ix (r := rIx K) ix_seq (pv 2) (pv 5) (fun _ _ => rfl)) pa_nil))))) (pg_name (i := 8) sc__law_right.nd rfl (Or.inl rfl)) (pss_cons (ps_set (i := 7) sc__law_right.nd rfl (Or.inl rfl) (pe_op op_sub pe_int (pv 7))) (pss_one (ps_if (pt_not (pt_val (pe_callG G__law_asked_right (hr.mono (by decide)) hgd (by rfl) T.g__law_asked_right T.F__law_asked_right.kp T.b__law_asked_right noX (pa_cons (pv 8) (pa_cons (pe_callG G__law_are_rules (hr.mono (by decide)) hgd (by rfl) T.g__law_are_rules T.F__law_are_rules.kp T.b__law_are_rules noX (pa_cons (pv 8) pa_nil)) (pa_cons (pv 7) pa_nil)))))) (pss_one (ps_ret pe_bl)) pss_nil)))) (pss_one (ps_if (pt_not (pt_val (pe_callG G__law_asked_right (hr.mono (by decide)) hgd (by rfl) T.g__law_asked_right T.F__law_asked_right.kp T.b__law_asked_right noX (pa_cons (pe_fld (pe_ix (r := rIx K) ix_seq (pv 4) (pv 5) (fun _ _ => rfl)) rfl) (pa_cons pe_bl (pa_cons (pv 5) pa_nil)))))) (pss_one (ps_ret pe_bl)) pss_nil)))) (pss_cons (ps_for (passes_of rfl) rfl (pi_seq (pv 4)) (pg_name (i := 8) sc__law_right.nd rfl (Or.inl rfl)) (pss_one (L2N.ps_try_n rfl rfl sc__law_right.nd (L2N.takes_of rfl rfl rfl rfl) (fun W pn xe tk po => (pss_cons (ps_expr (pe_makeG T.M_Rules G_Rules____init__ (hr.mono (by decide)) hgd (by rfl) T.g_Rules T.b_Rules____init__ (fun σ => L2N.passAt tk σ) (pa_cons (pv 8) pa_nil))) (pss_one (ps_ret pe_bl)))) (.cons (i := 11) ⟨rfl, by decide, Or.inl T.low_InvalidRules.gC⟩ rfl rfl (fun a oe cls d pn hz hf => (pss_one (ps_if (PW.pt (pw_or (pt_not (pt_val (pe_callB (r := rIsiE K [T.c_Rules]) (call_isiE T.os) (by rfl) T.m_isinstance (by decide +kernel) (pa_cons (L2N.pe_by_givenN T.low_InvalidRules hz.zc hf (pv 11)) (pa_cons (pe_glob (v := .ref T.c_Rules) (by rfl) T.g_Rules rfl) pa_nil))))) (pw_or1 (pt_cmpR (r := rEqX K [T.c_Rules] [(T.c_Rules, SpM K T.cl (m_Rules____eq__ T.c_Rules))] true) (op_eqX (neg := true) hr.units hr.un66 T.os (eqs_cons T.q_Rules (runsEq_H H_Rules____eq__ (L2H.RoomH.mono (j := 1 + 1) (k := 7) ⟨hr.dp, hr.un⟩ (by decide)) (L2N.hotC hz hf) T.b_Rules____eq__ L2N.noXN) eqs_nil)) (L2N.pe_by_givenN T.low_InvalidRules hz.zc hf (pv 11)) (pv 8) (nomark _))))) (pss_one (ps_ret pe_bl)) pss_nil))) .nil)))) (pss_one (ps_ret (pe_and (pe_callG G__law_equal_right (hr.mono (by decide)) hgd (by rfl) T.g__law_equal_right T.F__law_equal_right.kp T.b__law_equal_right (fun σ => L2N.passAt (L2N.takes_of rfl rfl rfl rfl) σ) (pa_cons (pv 4) (pa_cons (pv 2) pa_nil))) (pe_one (pe_callG G__law_grains_right (hr.mono (by decide)) hgd (by rfl) T.g__law_grains_right T.F__law_grains_right.kp T.b__law_grains_right noX (pa_cons (pe_ix (r := rIx K) ix_seq (pv 4) pe_int (fun _ _ => rfl)) (pa_cons (pe_ix (r := rIx K) ix_seq (pv 2) pe_int (fun _ _ => rfl)) (pa_cons pe_int pa_nil)))))))))))))))))), (ms_seq (ms_asgF (mf_lst (ma_cons (me_call0A (ma_cons me_v ma_nil)) (ma_cons (me_call0A (ma_cons me_v ma_nil)) ma_nil)))) (ms_seq (ms_if (mt_test (me_2 (ok_eq (KF := K)) (me_call0A (ma_cons me_v (ma_cons me_int ma_nil))) me_int)) (ms_set me_int (me_of_mf (mf_list (KF := K) (me_ixV me_int)))) ms_next) (ms_seq (ms_frz (ms_asg (KF := K) (tg := .n 2) (me_of_mf (mf_lc (KF := K) rfl (mi_seq (KF := K) me_v) mt_yes (me_call0A (ma_cons me_v (ma_cons me_v ma_nil))))))) (ms_seq (ms_asg (KF := K) (tg := .n 3) (me_of_mf (mf_lc (KF := K) rfl (mi_seq (KF := K) me_v) mt_yes (me_new (mf_list (KF := K) me_v))))) (ms_seq (ms_asg (KF := K) (tg := .n 4) (me_of_mf (mf_lst (ma_cons (me_make (ma_cons (me_ix (KF := K) me_v me_int) ma_nil)) (ma_cons (me_make (ma_cons (me_ix (KF := K) me_v me_int) ma_nil)) ma_nil))))) (ms_seq (ms_for (KF := K) (mi_seq (KF := K) (me_of_mf (mf_lst (ma_cons me_int (ma_cons me_int ma_nil))))) (ms_setSlE (mf_lst (ma_cons (me_tup (ma_cons me_int (ma_cons me_int ma_nil))) ma_nil)) (me_ix (KF := K) me_v me_v) mo_no mo_no)) (ms_seq (ms_for (KF := K) (mi_rng1 (ma_cons me_int ma_nil)) (ms_if (mt_not (mt_B (me_call0A (ma_cons (me_ix (KF := K) me_v (me_2 ok_mod me_v me_int)) (ma_cons (me_ix (KF := K) me_v (me_2 ok_mod me_v me_int)) (ma_cons (me_2 ok_div me_v me_int) ma_nil)))))) (ms_ret me_bl) ms_next)) (ms_seq (ms_asg (KF := K) (tg := .n 7) me_int) (ms_seq (ms_for (KF := K) (mi_seq (KF := K) (me_of_mf (mf_lst (ma_cons me_int (ma_cons me_int ma_nil))))) (ms_seq (ms_for (KF := K) (mi_seq (KF := K) (me_call0A (ma_cons me_v (ma_cons (me_ixV me_v) (ma_cons (me_ix (KF := K) me_v me_v) ma_nil))))) (ms_seq (ms_asg (KF := K) (tg := .n 7) (me_2 ok_sub me_int me_v)) (ms_if (mt_not (mt_B (me_call0A (ma_cons me_v (ma_cons (me_call0A (ma_cons me_v ma_nil)) (ma_cons me_v ma_nil)))))) (ms_ret me_bl) ms_next))) (ms_if (mt_not (mt_B (me_call0A (ma_cons (me_fld T.C_Rules T.n_Rules_rows (me_ix (KF := K) me_v me_v)) (ma_cons me_bl (ma_cons me_v ma_nil)))))) (ms_ret me_bl) ms_next))) (ms_seq (ms_for (KF := K) (mi_seq (KF := K) me_v) (ms_try T.ex (by intro n hn; simp only [List.map_cons, List.map_nil, List.mem_cons, List.not_mem_nil, or_false] at hn; rcases hn with rfl <;> simp [Ls]) (fun _ => (ms_seq (ms_drop (me_make (ma_cons me_v ma_nil))) (ms_ret me_bl))) (.cons (fun _ _ => (ms_if (mt_or (mt_not (mt_B (me_isiC T.os (by simp) (me_by_givenN rfl)))) (mt_test (me_eqO (me_by_givenN rfl) me_v))) (ms_ret me_bl) ms_next)) .nil))) (ms_ret (me_and (me_callA (ma_cons me_v (ma_cons me_v ma_nil))) (me_call0A (ma_cons (me_ix (KF := K) me_v me_int) (ma_cons (me_ix (KF := K) me_v me_int) (ma_cons me_int ma_nil))))))))))))))))⟩)
theorem ok_law (T : Tx K mg base) : FnG P w K mg base (L2N.CX P w) 9 T.a_law T.fd_law ["script"] (SpM K T.cl (m_law T.c_Rules)) := by
  have G__law_right : FnG P w K mg base (L2N.CX P w) 8 T.a__law_right T.fd__law_right ["box"] (SpM K T.cl (m__law_right T.c_Rules)) := ok__law_right T
  have G__law_box : FnG P w K mg base (L2N.CX P w) 1 T.a__law_box T.fd__law_box ["great"] (SpM K T.cl (m__law_box T.c_Rules)) := ok__law_box T
  have G__law_cell : FnG P w K mg base (L2N.CX P w) 1 T.a__law_cell T.fd__law_cell ["script", "k"] (SpM K T.cl (m__law_cell T.c_Rules)) := ok__law_cell T
  exact fn_miN T.F_law sc_law (fun cdv A outer s H E hr hgd => ⟨_, (pss_cons (ps_for (passes_of rfl) rfl (pi_range1 rfl T.m_range (pa_cons (pe_callB (call_max2 rfl) (by rfl) T.m_max (by decide +kernel) (pa_cons pe_int (pa_cons (pe_callB (call_min2 rfl) (by rfl) T.m_min (by decide +kernel) (pa_cons pe_int (pa_cons (pe_callB (r := rLenU K) call_len (by rfl) T.m_len (by decide +kernel) (pa_cons (pv 0) pa_nil)) pa_nil))) pa_nil))) pa_nil)) (pg_name (i := 1) sc_law.nd rfl (Or.inl rfl)) (pss_one (ps_if (pt_not (pt_val (pe_callG G__law_right (hr.mono (by decide)) hgd (by rfl) T.g__law_right T.F__law_right.kp T.b__law_right (fun σ => L2N.passAt (L2N.takes_of rfl rfl rfl rfl) σ) (pa_cons (pe_callG G__law_box (hr.mono (by decide)) hgd (by rfl) T.g__law_box T.F__law_box.kp T.b__law_box noX (pa_cons (pe_callG G__law_cell (hr.mono (by decide)) hgd (by rfl) T.g__law_cell T.F__law_cell.kp T.b__law_cell noX (pa_cons (pv 0) (pa_cons (pv 1) pa_nil))) pa_nil)) pa_nil)))) (pss_one (ps_ret pe_bl)) pss_nil))) (pss_one (ps_ret pe_bl))), (ms_seq (ms_for (KF := K) (mi_rng1 (ma_cons (me_b2 ok_max2 me_int (me_b2 ok_min2 me_int me_lenV)) ma_nil)) (ms_if (mt_not (mt_B (me_callA (ma_cons (me_call0A (ma_cons (me_call0A (ma_scr (ma_cons me_v ma_nil))) ma_nil)) ma_nil)))) (ms_ret me_bl) ms_next)) (ms_ret me_bl))⟩)
end
end Mi.K18

/-! MiKv -/
set_option Elab.async false
set_option linter.all false
set_option maxRecDepth 100000
set_option maxHeartbeats 1000000
/-! ## dicts with text keys, as lists of anything; what stays apart -/
namespace Mi
open PySem L2 Eg
section
variable {α : Type} {g : α → Str} {v : α → PyData} {l : List α} {n : Str} {y : PyData}
end
/-- nothing that was there changes but in A; what is in B is in A, or new -/
structure Fr (φ φ' : Sg) (A B : List Addr) : Prop where
  kp : ∀ q, q ∉ A → φ q ≠ none → φ' q = φ q
  nw : ∀ q, q ∈ B → q ∈ A ∨ φ q = none
theorem Fr.refl {φ : Sg} {A : List Addr} : Fr φ φ A A := ⟨fun _ _ _ => rfl, fun _ h => .inl h⟩
theorem Fr.trans {φ φ1 φ2 : Sg} {A B C : List Addr} (a : Fr φ φ1 A B) (b : Fr φ1 φ2 B C) : Fr φ φ2 A C := ⟨fun q h1 h2 => by
    have e := a.kp q h1 h2
    rw [b.kp q (fun z => (a.nw q z).elim h1 h2) (by rw [e]; exact h2), e], fun q h => by
    rcases b.nw q h with h | h
    · exact a.nw q h
    · by_cases h1 : q ∈ A
      · exact .inl h1
      · refine .inr ?_
        cases e : φ q with
        | none => rfl
        | some c => rw [a.kp q h1 (by rw [e]; exact fun z => nomatch z), e] at h; cases h⟩
theorem Fr.more {φ φ' : Sg} {A B : List Addr} (C : List Addr) (h : Fr φ φ' A B) : Fr φ φ' (A ++ C) (B ++ C) := ⟨fun q h1 h2 => h.kp q (fun z => h1 (List.mem_append_left _ z)) h2, fun q hq => by
    rcases List.mem_append.mp hq with z | z
    · exact (h.nw q z).imp (List.mem_append_left _) id
    · exact .inl (List.mem_append_right _ z)⟩
theorem Fr.cons {φ φ' : Sg} {A B : List Addr} (x : Addr) (h : Fr φ φ' A B) : Fr φ φ' (x :: A) (x :: B) := ⟨fun q h1 h2 => h.kp q (fun z => h1 (List.mem_cons_of_mem _ z)) h2, fun q hq => by
    rcases List.mem_cons.mp hq with rfl | z
    · exact .inl List.mem_cons_self
    · exact (h.nw q z).imp (List.mem_cons_of_mem _) id⟩
theorem Fr.sub {φ φ' : Sg} {A B C : List Addr} (h : Fr φ φ' A B) (hs : ∀ q, q ∈ C → q ∈ B) : Fr φ φ' A C := ⟨h.kp, fun q hq => h.nw q (hs q hq)⟩
theorem Fr.over {φ φ' : Sg} {A B : List Addr} {p : Addr} {c : Cell} (h : Fr φ φ' A B) (hp : φ p = none) : Fr φ (put φ' p c) A B := ⟨fun q h1 h2 => by
    rw [put_ne (show q ≠ p from fun e => h2 (e ▸ hp))]; exact h.kp q h1 h2, h.nw⟩
/-- what is apart stays apart -/
theorem Fr.apart {φ φ' : Sg} {A B C : List Addr} (h : Fr φ φ' A B) (hd : ∀ q, q ∈ A → q ∉ C) (hl : ∀ q, q ∈ C → φ q ≠ none) : ∀ q, q ∈ B → q ∉ C := fun q hq hc => (h.nw q hq).elim (fun z => hd q z hc) (hl q hc)
theorem Fr.stay {φ φ' : Sg} {A B C : List Addr} (h : Fr φ φ' A B) (hd : ∀ q, q ∈ A → q ∉ C) (hl : ∀ q, q ∈ C → φ q ≠ none) : ∀ q, q ∈ C → φ' q = φ q := fun q hq => h.kp q (fun z => hd q z hq) (hl q hq)
end Mi

/-! MiRead3 -/
set_option Elab.async false
set_option linter.all false
set_option maxRecDepth 100000
set_option maxHeartbeats 1000000
/-! ## while, to reason with; octets -/
namespace Mi
open PySem L2 Eg
section
variable {φ : Sg} {X : XC}
theorem flatL_of {xs : List PyData} (h : ∀ x, x ∈ xs → flat x = true) : flatL xs = true := by
  induction xs with
  | nil => rfl
  | cons x xs ih => unfold flatL; rw [h x List.mem_cons_self, ih fun y hy => h y (List.mem_cons_of_mem _ hy)]; rfl
theorem flat_ints (ns : List Int) : flatL (ns.map .int) = true := flatL_of fun x h => by
  obtain ⟨_, _, rfl⟩ := List.mem_map.mp h
  rfl
/-- what x looks like, n lists deep -/
inductive SeesN (φ : Sg) : Nat → PyData → PyData → Prop
  | d {n : Nat} {x : PyData} : flat x = true → SeesN φ n x x
  | p {n : Nat} {p : Addr} {xs ys : List PyData} : φ p = some (.lst xs) → (∀ (K : List PyData → Sg → Prop) (X : XC), K ys φ → Wp (gd n xs) φ K X) → SeesN φ n (ptrD p) (.list ys)
end
/-! [e for x in xs if t], with what changes -/
end Mi

/-! MiDraw -/
set_option Elab.async false
set_option linter.all false
set_option maxRecDepth 100000
set_option maxHeartbeats 1000000
/-! ## draws -/
namespace Mi
open PySem L2 Eg
theorem upto_n (n : Nat) : (upto n).length = n := by unfold upto; simp
theorem rng_if {n : Nat} {N c d : Int} (hN : (n : Int) = N) (h : c ≤ N ∧ N < d) : (if c ≤ N ∧ N < d then some (upto N.toNat) else none) = some (upto n) := by
  subst hN
  rw [if_pos h, Int.toNat_natCast]
section
variable {φ : Sg} {X : XC} {p : Addr} {j : Nat}
theorem menuI {xs : List PyData} {r : Int} (lo hi : Int) (h0 : 0 ≤ r) (h1 : r < xs.length) (hP : ∀ x, x ∈ xs → ∃ v : Int, x = .int v ∧ lo ≤ v ∧ v ≤ hi) : ∃ v : Int, atI xs r = some (.int v) ∧ lo ≤ v ∧ v ≤ hi := by
  obtain ⟨x, e, v, rfl, hv⟩ := menu h0 h1 hP
  exact ⟨v, e, hv⟩
end
end Mi

/-! MiDeep -/
set_option Elab.async false
set_option linter.all false
set_option maxRecDepth 100000
set_option maxHeartbeats 1000000
/-! ## shown through pointers -/
namespace Mi
open PySem L2 Eg
mutual
theorem deepW_flat {g : List PyData → M (List PyData)} : ∀ (x : PyData), flat x = true → deepW g x = .ret x
  | .list xs, h => by
    unfold deepW
    rw [deepWL_flat xs (by unfold flat at h; exact h)]
    rfl
  | .tuple xs, h => by
    unfold deepW
    rw [deepWL_flat xs (by unfold flat at h; exact h)]
    rfl
  | .dict es, h => by
    unfold deepW
    unfold flat at h
    cases es with
    | nil => rw [if_pos h]; rfl
    | cons e es =>
      obtain ⟨k, v⟩ := e
      cases k with
      | none => unfold flatK at h; cases h
      | _ => rw [if_pos h]; rfl
  | .none, _ => by unfold deepW; rfl
  | .bool _, _ => by unfold deepW; rfl
  | .int _, _ => by unfold deepW; rfl
  | .str _, _ => by unfold deepW; rfl
theorem deepWL_flat {g : List PyData → M (List PyData)} : ∀ (xs : List PyData), flatL xs = true → deepWL g xs = .ret xs
  | [], _ => by unfold deepWL; rfl
  | x :: xs, h => by
    obtain ⟨a, b⟩ := flat_cons h
    unfold deepWL
    rw [deepW_flat x a, deepWL_flat xs b]
    rfl
end
/-- what x looks like, two lists deep -/
def Dp (φ : Sg) (x y : PyData) : Prop := ∀ (Q : PyData → Sg → Prop) (X : XC), Q y φ → Wp (deepW (gd 2) x) φ Q X
section
variable {φ : Sg} {X : XC}
end
end Mi

/-! K18a -/
set_option Elab.async false
set_option linter.all false
set_option maxRecDepth 100000
set_option maxHeartbeats 1000000
/-! ## which values are rules -/
namespace Mi.K18
open PySem L2 Eg Mi
local macro_rules | `(tactic| fail "mi") => `(tactic| try simp (config := { decide := false, zeta := true, implicitDefEqProofs := false }) only [Mi.sSeq, Mi.sIf, Mi.sRet, Mi.sRetF, Mi.sRetN, Mi.sRetV, Mi.sNext, Mi.sAsg, Mi.sAsgF, Mi.sAsgC, Mi.sAsgC0, Mi.sDrop, Mi.sRaise, Mi.sFrz, Mi.sApp, Mi.sAppE, Mi.sSet, Mi.sPar, Mi.setAllS, Mi.pNil, Mi.pD, Mi.pF, Mi.setT_n, Mi.setAt, Mi.xC, Mi.xV, Mi.x1, Mi.x2, Mi.xIf, Mi.xAnd, Mi.xOr, Mi.xNot, Mi.tV, Mi.tAn, Mi.tOrr, Mi.tNo, Mi.tTrue, Mi.aNil, Mi.aC, Mi.aScr, Mi.aKw, Eg.swap2, Mi.xTup, Mi.xCall, Mi.xCall0, Mi.ofF, Mi.fLst, Mi.fList, Mi.iEnumM, Mi.fCat, Mi.fRep, Mi.xFld, Mi.xMeth, Mi.xMeth0, Mi.xMethK, Mi.xMake, Mi.sFldS, Mi.iLstM, Mi.iZipM, Mi.iEnumAM, Mi.xBy2, Mi.fRev, Mi.fLcD, Mi.sForD, Mi.sRaise0, Mi.sTry2, Mi.sAugI, Mi.sSetSl, Mi.fSl, Mi.x1D, Mi.x2d, Mi.fLcE, Mi.xReprN, Mi.iRevM, Mi.iRng3M, Mi.iRng2M, Mi.fLrg1, Mi.fCatV, Mi.sShr, Mi.sExt, Mi.sTryU, Mi.uGo, Mi.sSetSlP, Mi.xSlD, Mi.fLcZ, Mi.fSortSet, Mi.fIn, Mi.sTryM, Mi.mGo, Mi.xMakeK, Mi.fCall, Mi.fCall0, Mi.sSetSlE, Mi.iStrM, Mi.xJoin, Mi.unF, Mi.xIxD, Mi.keyOf, Mi.sSetD, Mi.xDc, Mi.xIdx, Mi.x2o, Mi.fSortSetN, Mi.xNewD, Mi.sTabF0, Mi.sTabF, Mi.tabAt, Mi.fBits, Mi.fLcX, Mi.fListZ, Mi.xIsiO, Mi.xIsiC, Mi.isL_dat, Mi.isL_ins, Mi.isC_dat, Mi.lo_int, Mi.lo_bool, Mi.lo_none, Mi.lo_str, Mi.lo_list, Mi.lo_tup, Mi.lo_d0, Mi.key_i, Mi.key_s, Mi.xInR, Mi.xIxR, Mi.xGet1, Mi.xGet2, Mi.xPop1, Mi.xPop2, Mi.xSetd, Mi.sDelD, Mi.sExtE, Mi.fSort, Mi.xSlS, Mi.fMulS_s, Mi.fIxS_s, Mi.fAdd_s, Mi.fInS_s, Mi.xSlD, Mi.iStrM, Mi.signs_s, Mi.setT_l2, Mi.setT_l3, Mi.setT_t2, Mi.setT_t3, Mi.sExtU, Mi.xTupD, Mi.xDictN, Mi.fMeth, Mi.fMeth0, Mi.fMethK, Mi.fIf, Mi.bn_tt, Mi.bn_tf, Mi.bn_ft, Mi.bn_ff, Option.getD_some, Option.getD_none, Option.isSome_some, Option.isSome_none, String.reduceEq, Mi.xNew, Mi.xIsi, Mi.xLen, Mi.xLenV, Mi.xIx, Mi.xIxV, Mi.xSl, Mi.xSlV, Mi.oNo, Mi.oAt, Mi.xTuple, Mi.xChain, Mi.xBy, Mi.xRepr, Mi.unF, Mi.fLc, Mi.wipeD, Mi.sTry, Mi.hGo, Mi.iRng1M, Mi.iRng2M, Mi.M.ret_bind, Mi.M.exc_bind, Mi.M.bad_bind, Mi.e_some, Mi.e_none, Mi.e_cret, Mi.e_cexc, Mi.e_cbad, Mi.e_nret, Mi.e_nexc, Mi.e_nbad, Mi.e_asB, Mi.e_true, Mi.e_false, Mi.W_ite, Mi.W_ret, Mi.W_exc, Mi.W_bad, Mi.W_bind, Mi.W_nox, Mi.W_catch, Mi.W_getLp, Mi.W_put, Mi.toRt_nx, Mi.toRt_rt, Mi.toRt_rf, Mi.toRt_xx, Mi.dat_nil, Mi.dat_cons, Mi.short, Mi.rdat_d, Mi.rdat_f, Mi.sd_d, Mi.sd_s, Mi.sn_int, Mi.sn_bool, Mi.sn_none, Mi.sn_str, Mi.sn_list, Mi.sn_tup, Mi.sn_d0, Mi.e_seenP, Mi.ptrOf_ptr, Mi.p_bool, Mi.p_int, Mi.p_none, Mi.p_str, Mi.p_list, Mi.p_tuple, Mi.sFor, Mi.iSeqM, Mi.ixN_0, Mi.ixN_1, Mi.ixN_2, Mi.ixN_3, Mi.ixN_4, Mi.ixN_5, Mi.atI_0, Mi.atI_1, Mi.atI_2, Mi.atI_3, Mi.atI_4, Mi.atI_5, Mi.isInt_int, Mi.isInt_bool, Mi.isInt_none, Mi.isInt_str, Mi.isInt_list, Mi.isInt_tup, Mi.isInt_dct, Mi.isBool_int, Mi.isBool_bool, Mi.isBool_none, Mi.isBool_str, Mi.isBool_list, Mi.isBool_tup, Mi.isBool_dct, Mi.isStr_int, Mi.isStr_bool, Mi.isStr_none, Mi.isStr_str, Mi.isStr_list, Mi.isStr_tup, Mi.isStr_dct, Mi.isLst_int, Mi.isLst_bool, Mi.isLst_none, Mi.isLst_str, Mi.isLst_list, Mi.isLst_tup, Mi.isLst_dct, Mi.isTup_int, Mi.isTup_bool, Mi.isTup_none, Mi.isTup_str, Mi.isTup_list, Mi.isTup_tup, Mi.isTup_dct, Mi.isDct_int, Mi.isDct_bool, Mi.isDct_none, Mi.isDct_str, Mi.isDct_list, Mi.isDct_tup, Mi.isDct_dct, Mi.isNone_int, Mi.isNone_bool, Mi.isNone_none, Mi.isNone_str, Mi.isNone_list, Mi.isNone_tup, Mi.isNone_dct, Mi.isPtr_int, Mi.isPtr_bool, Mi.isPtr_none, Mi.isPtr_str, Mi.isPtr_list, Mi.isPtr_tup, Mi.isPtr_d0, Mi.fAdd_i, Mi.fAdd_l, Mi.fAdd_t, Mi.fSub_i, Mi.fMul_i, Mi.fMul_l, Mi.fMod_i, Mi.fDiv_i, Mi.fPow_i, Mi.fCmp_i, Mi.fEq_i, Mi.fEq_s, Mi.fNe_i, Mi.fNe_s, Mi.fIsN_n, Mi.fNotN_n, Mi.fIx_l, Mi.fIx_t, Mi.fNeg_i, Mi.fLen_l, Mi.fLen_t, Mi.fAbs_i, Mi.fInt_i, Mi.fInt_b, Mi.fMax2_i, Mi.fMin2_i, Mi.fGcd_i, Mi.items_l, Mi.items_t, Mi.sliced_l, Mi.sliced_t, List.map_cons, List.map_nil, List.length_cons, List.length_nil, List.nil_append, List.cons_append, List.replicate, List.replicate_succ, List.replicate_zero, List.zip_cons_cons, List.zip_nil_right, Int.cast_ofNat_Int, Nat.reduceAdd, Nat.reduceSub, Nat.zero_add, Nat.reduceLeDiff, Nat.reduceEqDiff, List.getElem?_cons_zero, List.getElem?_cons_succ, List.getElem?_nil, List.set_cons_zero, List.set_cons_succ, List.set_nil, ite_true, ite_false, if_true, if_false, Option.map_some, Option.map_none, Option.some.injEq, Bool.not_true, Bool.not_false, decide_eq_true_eq, decide_true, decide_false, Int.reduceLT, Int.reduceLE, Int.reduceEq, Int.reduceNeg, Int.reduceAdd, Int.reduceSub, Int.reduceMul, Int.reducePow, Int.reduceToNat, Int.reduceEq, ne_eq, not_true_eq_false, not_false_eq_true, true_and, and_true, false_and, and_false, reduceCtorEq, eq_self])
abbrev Rows := List (Int × Option Int)
def kD : Option Int → PyData
  | some k => .int k
  | none => .none
def rwD (r : Int × Option Int) : PyData := .tuple [.int r.1, kD r.2]
def rsD (R : Rows) : List PyData := R.map rwD
theorem rsD_len (R : Rows) : (rsD R).length = R.length := List.length_map _
def posB : PyData → Bool
  | .int n => decide (1 ≤ n)
  | _ => false
def nonB : PyData → Bool
  | .none => true
  | _ => false
def rowB : PyData → Bool
  | .tuple [a, b] => posB a && (nonB b || posB b)
  | _ => false
def folK (m : Int) : Option Int → Bool
  | none => true
  | some kb => decide (m ≤ kb)
/-- may the row b stand behind the row a -/
def folB (a b : Int × Option Int) : Bool := match a.2 with
  | none => false
  | some ka => decide (b.1 % a.1 = 0) && decide (2 * a.1 ≤ b.1) && folK (ka + b.1) b.2
def okR (R : Rows) : Bool := decide ((R.head?.map (·.1)) = some 1) && (R.zip R.tail).all fun z => folB z.1 z.2
theorem posB_some {x : PyData} (h : posB x = true) : ∃ n, x = .int n ∧ 1 ≤ n := by
  cases x <;> first | exact ⟨_, rfl, of_decide_eq_true h⟩ | cases h
theorem rowB_some {x : PyData} (h : rowB x = true) : ∃ r : Int × Option Int, x = rwD r ∧ 1 ≤ r.1 ∧ ∀ k, r.2 = some k → 1 ≤ k := by
  unfold rowB at h
  split at h
  · rename_i a b
    rw [Bool.and_eq_true, Bool.or_eq_true] at h
    obtain ⟨n, rfl, hn⟩ := posB_some h.1
    rcases h.2 with h2 | h2
    · cases b <;> first | exact ⟨(n, none), rfl, hn, fun _ e => nomatch e⟩ | cases h2
    · obtain ⟨m, rfl, hm⟩ := posB_some h2
      exact ⟨(n, some m), rfl, hn, fun k e => by cases e; exact hm⟩
  · cases h
theorem rows_of : ∀ {xs : List PyData}, xs.all rowB = true → ∃ R : Rows, xs = rsD R ∧ ∀ r, r ∈ R → 1 ≤ r.1 ∧ ∀ k, r.2 = some k → 1 ≤ k
  | [], _ => ⟨[], rfl, fun _ h => nomatch h⟩
  | x :: xs, h => by
    rw [List.all_cons, Bool.and_eq_true] at h
    obtain ⟨r, rfl, h1⟩ := rowB_some h.1
    obtain ⟨R, rfl, h2⟩ := rows_of h.2
    exact ⟨r :: R, rfl, fun s hs => by
      rcases List.mem_cons.mp hs with rfl | hs
      · exact h1
      · exact h2 s hs⟩
def rowF : PyData → Int × Option Int
  | .tuple [.int a, .int b] => (a, some b)
  | .tuple [.int a, _] => (a, none)
  | _ => (0, none)
theorem rowF_rw (r : Int × Option Int) : rowF (rwD r) = r := by
  obtain ⟨a, b⟩ := r
  cases b <;> rfl
theorem rowF_rs (R : Rows) : (rsD R).map rowF = R := by
  unfold rsD
  rw [List.map_map]
  have := List.map_congr_left (l := R) (f := rowF ∘ rwD) (g := id) fun r _ => rowF_rw r
  rw [this, List.map_id]
def itemsB (xs : List PyData) : Bool := decide (1 ≤ xs.length) && decide (xs.length ≤ 4) && (xs.all rowB && okR (xs.map rowF))
def rulesB : PyData → Bool
  | .list xs => itemsB xs
  | .tuple xs => itemsB xs
  | _ => false
theorem rwD_row {r : Int × Option Int} (h0 : 1 ≤ r.1) (h1 : ∀ k, r.2 = some k → 1 ≤ k) : rowB (rwD r) = true := by
  obtain ⟨a, b⟩ := r
  cases b with
  | none =>
    show (decide (1 ≤ a) && (true || false)) = true
    rw [decide_eq_true h0]; rfl
  | some k =>
    show (decide (1 ≤ a) && (false || decide (1 ≤ k))) = true
    rw [decide_eq_true h0, decide_eq_true (h1 k rfl)]; rfl
/-- values that are small: numbers below 2 ^ 55, rows and values of few things -/
def Nb (x : PyData) : Prop := ∀ n, x = .int n → n.natAbs < 2 ^ 55
def Rb (x : PyData) : Prop := ∀ ys, x = .tuple ys → ys.length ≤ 1000 ∧ ∀ z, z ∈ ys → flat z = true ∧ Nb z
def Vb (x : PyData) : Prop := ∀ ys, x = .list ys ∨ x = .tuple ys → ys.length ≤ 1000 ∧ ∀ z, z ∈ ys → flat z = true ∧ Rb z
section
variable {φ : Sg} {K : Rt → Sg → Prop} {X : XC} {o : Addr}
theorem sees_int {x : PyData} {n : Int} (h : Sees φ x (.int n)) : x = .int n := by cases h; rfl
theorem is_list_ok {x y : PyData} (h : Sees φ x y) (k : K (.d (.bool (isLst y || isTup y))) φ) : Wp (m_is_list o [.d x]) φ K X := by
  refine mdef_wp ?_
  fail "mi"
  rw [look_sees h]
  fail "mi"
  exact k
theorem is_integer_ok {x y : PyData} (h : Sees φ x y) (k : K (.d (.bool (isI y))) φ) : Wp (m_is_integer o [.d x]) φ K X := by
  refine mdef_wp ?_
  fail "mi"
  rw [look_sees h]
  fail "mi"
  cases y <;> first | (fail "mi"; exact k) | (fail "mi"; rw [look_sees h]; fail "mi"; exact k)
def isCt : PyData → Bool
  | .int i => decide (0 ≤ i)
  | _ => false
theorem isCt_some {x : PyData} (h : isCt x = true) : ∃ n, x = .int n ∧ 0 ≤ n := by
  cases x <;> first | exact ⟨_, rfl, of_decide_eq_true h⟩ | cases h
theorem is_count_ok {x y : PyData} (h : Sees φ x y) (k : K (.d (.bool (isCt y))) φ) : Wp (m_is_count o [.d x]) φ K X := by
  refine mdef_wp ?_
  fail "mi"
  refine is_integer_ok h ?_
  fail "mi"
  cases y with
  | int n => rw [sees_int h]; fail "mi"; exact k
  | _ => simp only [isI]; fail "mi"; exact k
theorem law_is_count_ok {x y : PyData} (h : Sees φ x y) (k : K (.d (.bool (isCt y))) φ) : Wp (m__law_is_count o [.d x]) φ K X := by
  refine mdef_wp ?_
  fail "mi"
  rw [look_sees h]
  cases y with
  | int n => rw [sees_int h]; fail "mi"; exact k
  | bool b => fail "mi"; rw [look_sees h]; fail "mi"; exact k
  | _ => fail "mi"; exact k
theorem is_positive_ok {x : PyData} (h : flat x = true) (k : K (.d (.bool (posB x))) φ) : Wp (m_is_positive o [.d x]) φ K X := by
  refine mdef_wp ?_
  fail "mi"
  refine is_integer_ok (.d h) ?_
  cases x with
  | int n => simp only [isI]; fail "mi"; exact k
  | _ => simp only [isI]; fail "mi"; exact k
theorem is_row_ok {x : PyData} (h : flat x = true) (hb : Rb x) (k : K (.d (.bool (rowB x))) φ) : Wp (m__is_row o [.d x]) φ K X := by
  refine mdef_wp ?_
  fail "mi"
  rw [look_sees (.d h)]
  cases x with
  | tuple ys =>
    obtain ⟨hl, hz⟩ := hb ys rfl
    fail "mi"
    by_cases h2 : (ys.length : Int) = 2
    · match ys, h2 with
      | [a, b], _ =>
        fail "mi"
        refine is_positive_ok (hz a (by simp)).1 ?_
        have k : K (.d (.bool (posB a && (nonB b || posB b)))) φ := k
        cases ea : posB a with
        | false => rw [ea, Bool.false_and] at k; fail "mi"; exact k
        | true =>
          rw [ea, Bool.true_and] at k
          have fb := (hz b (by simp)).1
          cases b with
          | none => fail "mi"; exact k
          | _ =>
            fail "mi"
            refine is_positive_ok fb ?_
            fail "mi"
            exact k
    · rw [decide_eq_false h2]
      fail "mi"
      have e : rowB (.tuple ys) = false := by
        match ys, h2 with
        | [], _ => rfl
        | [_], _ => rfl
        | [_, _], h2 => exact absurd rfl h2
        | _ :: _ :: _ :: _, _ => rfl
      rw [e] at k
      exact k
  | _ => fail "mi"; exact k
end
end Mi.K18

/-! K18b -/
set_option Elab.async false
set_option linter.all false
set_option maxRecDepth 100000
set_option maxHeartbeats 1000000
/-! ## the program judges -/
namespace Mi.K18
open PySem L2 Eg Mi
local macro_rules | `(tactic| fail "mi") => `(tactic| try simp (config := { decide := false, zeta := true, implicitDefEqProofs := false }) only [Mi.sSeq, Mi.sIf, Mi.sRet, Mi.sRetF, Mi.sRetN, Mi.sRetV, Mi.sNext, Mi.sAsg, Mi.sAsgF, Mi.sAsgC, Mi.sAsgC0, Mi.sDrop, Mi.sRaise, Mi.sFrz, Mi.sApp, Mi.sAppE, Mi.sSet, Mi.sPar, Mi.setAllS, Mi.pNil, Mi.pD, Mi.pF, Mi.setT_n, Mi.setAt, Mi.xC, Mi.xV, Mi.x1, Mi.x2, Mi.xIf, Mi.xAnd, Mi.xOr, Mi.xNot, Mi.tV, Mi.tAn, Mi.tOrr, Mi.tNo, Mi.tTrue, Mi.aNil, Mi.aC, Mi.aScr, Mi.aKw, Eg.swap2, Mi.xTup, Mi.xCall, Mi.xCall0, Mi.ofF, Mi.fLst, Mi.fList, Mi.iEnumM, Mi.fCat, Mi.fRep, Mi.xFld, Mi.xMeth, Mi.xMeth0, Mi.xMethK, Mi.xMake, Mi.sFldS, Mi.iLstM, Mi.iZipM, Mi.iEnumAM, Mi.xBy2, Mi.fRev, Mi.fLcD, Mi.sForD, Mi.sRaise0, Mi.sTry2, Mi.sAugI, Mi.sSetSl, Mi.fSl, Mi.x1D, Mi.x2d, Mi.fLcE, Mi.xReprN, Mi.iRevM, Mi.iRng3M, Mi.iRng2M, Mi.fLrg1, Mi.fCatV, Mi.sShr, Mi.sExt, Mi.sTryU, Mi.uGo, Mi.sSetSlP, Mi.xSlD, Mi.fLcZ, Mi.fSortSet, Mi.fIn, Mi.sTryM, Mi.mGo, Mi.xMakeK, Mi.fCall, Mi.fCall0, Mi.sSetSlE, Mi.iStrM, Mi.xJoin, Mi.unF, Mi.xIxD, Mi.keyOf, Mi.sSetD, Mi.xDc, Mi.xIdx, Mi.x2o, Mi.fSortSetN, Mi.xNewD, Mi.sTabF0, Mi.sTabF, Mi.tabAt, Mi.fBits, Mi.fLcX, Mi.fListZ, Mi.xIsiO, Mi.xIsiC, Mi.isL_dat, Mi.isL_ins, Mi.isC_dat, Mi.lo_int, Mi.lo_bool, Mi.lo_none, Mi.lo_str, Mi.lo_list, Mi.lo_tup, Mi.lo_d0, Mi.key_i, Mi.key_s, Mi.xInR, Mi.xIxR, Mi.xGet1, Mi.xGet2, Mi.xPop1, Mi.xPop2, Mi.xSetd, Mi.sDelD, Mi.sExtE, Mi.fSort, Mi.xSlS, Mi.fMulS_s, Mi.fIxS_s, Mi.fAdd_s, Mi.fInS_s, Mi.xSlD, Mi.iStrM, Mi.signs_s, Mi.setT_l2, Mi.setT_l3, Mi.setT_t2, Mi.setT_t3, Mi.sExtU, Mi.xTupD, Mi.xDictN, Mi.fMeth, Mi.fMeth0, Mi.fMethK, Mi.fIf, Mi.bn_tt, Mi.bn_tf, Mi.bn_ft, Mi.bn_ff, Option.getD_some, Option.getD_none, Option.isSome_some, Option.isSome_none, String.reduceEq, Mi.xNew, Mi.xIsi, Mi.xLen, Mi.xLenV, Mi.xIx, Mi.xIxV, Mi.xSl, Mi.xSlV, Mi.oNo, Mi.oAt, Mi.xTuple, Mi.xChain, Mi.xBy, Mi.xRepr, Mi.unF, Mi.fLc, Mi.wipeD, Mi.sTry, Mi.hGo, Mi.iRng1M, Mi.iRng2M, Mi.M.ret_bind, Mi.M.exc_bind, Mi.M.bad_bind, Mi.e_some, Mi.e_none, Mi.e_cret, Mi.e_cexc, Mi.e_cbad, Mi.e_nret, Mi.e_nexc, Mi.e_nbad, Mi.e_asB, Mi.e_true, Mi.e_false, Mi.W_ite, Mi.W_ret, Mi.W_exc, Mi.W_bad, Mi.W_bind, Mi.W_nox, Mi.W_catch, Mi.W_getLp, Mi.W_put, Mi.toRt_nx, Mi.toRt_rt, Mi.toRt_rf, Mi.toRt_xx, Mi.dat_nil, Mi.dat_cons, Mi.short, Mi.rdat_d, Mi.rdat_f, Mi.sd_d, Mi.sd_s, Mi.sn_int, Mi.sn_bool, Mi.sn_none, Mi.sn_str, Mi.sn_list, Mi.sn_tup, Mi.sn_d0, Mi.e_seenP, Mi.ptrOf_ptr, Mi.p_bool, Mi.p_int, Mi.p_none, Mi.p_str, Mi.p_list, Mi.p_tuple, Mi.sFor, Mi.iSeqM, Mi.ixN_0, Mi.ixN_1, Mi.ixN_2, Mi.ixN_3, Mi.ixN_4, Mi.ixN_5, Mi.atI_0, Mi.atI_1, Mi.atI_2, Mi.atI_3, Mi.atI_4, Mi.atI_5, Mi.isInt_int, Mi.isInt_bool, Mi.isInt_none, Mi.isInt_str, Mi.isInt_list, Mi.isInt_tup, Mi.isInt_dct, Mi.isBool_int, Mi.isBool_bool, Mi.isBool_none, Mi.isBool_str, Mi.isBool_list, Mi.isBool_tup, Mi.isBool_dct, Mi.isStr_int, Mi.isStr_bool, Mi.isStr_none, Mi.isStr_str, Mi.isStr_list, Mi.isStr_tup, Mi.isStr_dct, Mi.isLst_int, Mi.isLst_bool, Mi.isLst_none, Mi.isLst_str, Mi.isLst_list, Mi.isLst_tup, Mi.isLst_dct, Mi.isTup_int, Mi.isTup_bool, Mi.isTup_none, Mi.isTup_str, Mi.isTup_list, Mi.isTup_tup, Mi.isTup_dct, Mi.isDct_int, Mi.isDct_bool, Mi.isDct_none, Mi.isDct_str, Mi.isDct_list, Mi.isDct_tup, Mi.isDct_dct, Mi.isNone_int, Mi.isNone_bool, Mi.isNone_none, Mi.isNone_str, Mi.isNone_list, Mi.isNone_tup, Mi.isNone_dct, Mi.isPtr_int, Mi.isPtr_bool, Mi.isPtr_none, Mi.isPtr_str, Mi.isPtr_list, Mi.isPtr_tup, Mi.isPtr_d0, Mi.fAdd_i, Mi.fAdd_l, Mi.fAdd_t, Mi.fSub_i, Mi.fMul_i, Mi.fMul_l, Mi.fMod_i, Mi.fDiv_i, Mi.fPow_i, Mi.fCmp_i, Mi.fEq_i, Mi.fEq_s, Mi.fNe_i, Mi.fNe_s, Mi.fIsN_n, Mi.fNotN_n, Mi.fIx_l, Mi.fIx_t, Mi.fNeg_i, Mi.fLen_l, Mi.fLen_t, Mi.fAbs_i, Mi.fInt_i, Mi.fInt_b, Mi.fMax2_i, Mi.fMin2_i, Mi.fGcd_i, Mi.items_l, Mi.items_t, Mi.sliced_l, Mi.sliced_t, List.map_cons, List.map_nil, List.length_cons, List.length_nil, List.nil_append, List.cons_append, List.replicate, List.replicate_succ, List.replicate_zero, List.zip_cons_cons, List.zip_nil_right, Int.cast_ofNat_Int, Nat.reduceAdd, Nat.reduceSub, Nat.zero_add, Nat.reduceLeDiff, Nat.reduceEqDiff, List.getElem?_cons_zero, List.getElem?_cons_succ, List.getElem?_nil, List.set_cons_zero, List.set_cons_succ, List.set_nil, ite_true, ite_false, if_true, if_false, Option.map_some, Option.map_none, Option.some.injEq, Bool.not_true, Bool.not_false, decide_eq_true_eq, decide_true, decide_false, Int.reduceLT, Int.reduceLE, Int.reduceEq, Int.reduceNeg, Int.reduceAdd, Int.reduceSub, Int.reduceMul, Int.reducePow, Int.reduceToNat, Int.reduceEq, ne_eq, not_true_eq_false, not_false_eq_true, true_and, and_true, false_and, and_false, reduceCtorEq, eq_self])
theorem zip_rsD (R S : Rows) : zipD (rsD R) (rsD S) = (R.zip S).map fun z => .tuple [rwD z.1, rwD z.2] := by
  unfold zipD rsD
  induction R generalizing S with
  | nil => rfl
  | cons a R ih =>
    cases S with
    | nil => rfl
    | cons b S => rw [List.map_cons, List.map_cons, List.zipWith_cons_cons, List.zip_cons_cons, List.map_cons, ih]
theorem cut_tail (xs : List PyData) (h : 1 ≤ xs.length) : cutD xs (some 1) none = xs.tail := by
  unfold cutD
  rw [HT.sIx_none, show (some (1 : Int)) = some ((1 : Nat) : Int) from rfl, HT.sIx_nat, Nat.min_eq_left h, List.take_of_length_le (by simp)]
  cases xs <;> rfl
theorem fAll_of (f : PyData → PyData) (g : PyData → Bool) (xs : List PyData) (h : ∀ x, x ∈ xs → f x = .bool (g x)) : fAll (.list (xs.map f)) = some (.bool (xs.all g)) := by
  have e : xs.map f = (xs.map g).map .bool := by
    rw [List.map_map]
    exact List.map_congr_left h
  rw [e, fAll_bools]
  congr 2
  rw [List.all_map]
  rfl
theorem nb_kD {k : Option Int} (h : Nb (kD k)) : ∀ n, k = some n → n.natAbs < 2 ^ 55 := fun n e => by
  subst e
  exact h n rfl
/-- rows of small numbers -/
def Sm (R : Rows) : Prop := ∀ r, r ∈ R → r.1.natAbs < 2 ^ 55 ∧ ∀ n, r.2 = some n → n.natAbs < 2 ^ 55
theorem sm_of {R : Rows} (h : ∀ z, z ∈ rsD R → flat z = true ∧ Rb z) : Sm R := fun r hr => by
  obtain ⟨a, b⟩ := r
  have hz := ((h (rwD (a, b)) (List.mem_map.mpr ⟨_, hr, rfl⟩)).2 _ rfl).2
  exact ⟨(hz (.int a) (by simp)).2 a rfl, nb_kD (hz (kD b) (by simp)).2⟩
section
variable {φ : Sg} {K : Rt → Sg → Prop} {X : XC} {o : Addr}
theorem may_follow_ok {a b : Int × Option Int} (ha : 1 ≤ a.1) (ha1 : a.1.natAbs < 2 ^ 55) (k : K (.d (.bool (folB a b))) φ) : Wp (m__may_follow o [.d (rwD b), .d (rwD a)]) φ K X := by
  obtain ⟨la, kpa⟩ := a
  obtain ⟨lb, kpb⟩ := b
  simp only [] at ha ha1
  refine mdef_wp ?_
  unfold rwD
  cases kpa with
  | none => simp only [kD]; fail "mi"; exact k
  | some ka =>
    simp only [kD]
    have k : K (.d (.bool (decide (lb % la = 0) && decide (2 * la ≤ lb) && folK (ka + lb) kpb))) φ := k
    fail "mi"
    rw [if_pos (show 0 < la by omega)]
    fail "mi"
    by_cases h1 : lb % la = 0
    · rw [decide_eq_true h1, Bool.true_and] at k
      rw [decide_eq_true h1]
      fail "mi"
      rw [if_pos (mulOk_of (i := 2) (j := la) 2 56 (by decide) (by omega) (by decide) (by decide) (by decide))]
      fail "mi"
      by_cases h2 : 2 * la ≤ lb
      · rw [decide_eq_true h2, Bool.true_and] at k
        rw [if_neg (show ¬ lb < 2 * la by omega)]
        fail "mi"
        cases kpb with
        | none => fail "mi"; exact k
        | some kb => fail "mi"; exact k
      · rw [decide_eq_false h2, Bool.false_and] at k
        rw [if_pos (show lb < 2 * la by omega)]
        exact k
    · rw [decide_eq_false h1, Bool.false_and, Bool.false_and] at k
      rw [decide_eq_false h1]
      fail "mi"
      exact k
theorem okR_cons {r : Int × Option Int} {R : Rows} : okR (r :: R) = (decide (r.1 = 1) && ((r :: R).zip R).all fun z => folB z.1 z.2) := by
  unfold okR
  have : (List.head? (r :: R)).map (fun x => x.1) = some r.1 := rfl
  rw [this]
  congr 1
  exact decide_eq_decide.mpr ⟨fun h => Option.some.inj h, fun h => by rw [h]⟩
theorem are_rules_ok {x y : PyData} (h : Sees φ x y) (hb : Vb y) (k : K (.d (.bool (rulesB y))) φ) : Wp (m__are_rules o [.d x]) φ K X := by
  refine mdef_wp ?_
  fail "mi"
  refine is_list_ok h ?_
  have body : ∀ (xs : List PyData) (go1 : (List SD → M Bool) → E → List SD → List PyData → M (List PyData)) (go2 : (List SD → M Bool) → E → List SD → List PyData → M (List PyData)), True := fun _ _ _ => trivial
  have e1 : ∀ {xs : List PyData} (hx : ∀ z, z ∈ xs → flat z = true ∧ Rb z) (s : SD) (z : PyData), z ∈ xs → ∃ δ2, setT (.n 1) z [s, .u, .u] = some δ2 ∧ (∀ K' : Bool → Sg → Prop, K' true φ → Wp (tTrue δ2) φ K' (fun _ _ _ => False)) ∧ (true = true → ∀ K' : PyData → Sg → Prop, K' (.bool (rowB z)) φ → Wp (xCall0 (m__is_row o) (aC (xV 1) aNil) δ2) φ K' (fun _ _ _ => False)) := fun {xs} hx s z hz => by
    refine ⟨[s, .d z, .u], rfl, fun K' kk => ?_, fun _ K' kk => ?_⟩
    · unfold tTrue; rw [W_ret]; exact kk
    · fail "mi"
      refine is_row_ok (hx z hz).1 (hx z hz).2 ?_
      fail "mi"
      exact kk
  have e2 : ∀ {R : Rows} (hr : ∀ r, r ∈ R → 1 ≤ r.1) (hs : Sm R) (s : SD) (z : PyData), z ∈ ((R.zip R.tail).map fun z => PyData.tuple [rwD z.1, rwD z.2]) → ∃ δ2, setT (.t [2, 1]) z [s, .u, .u] = some δ2 ∧ (∀ K' : Bool → Sg → Prop, K' true φ → Wp (tTrue δ2) φ K' (fun _ _ _ => False)) ∧ (true = true → ∀ K' : PyData → Sg → Prop, K' (.bool (match z with | .tuple [a, b] => folB (rowF a) (rowF b) | _ => false)) φ → Wp (xCall0 (m__may_follow o) (aC (xV 1) (aC (xV 2) aNil)) δ2) φ K' (fun _ _ _ => False)) := fun {R} hr hs s z hz => by
    obtain ⟨w, hw, rfl⟩ := List.mem_map.mp hz
    have m1 : w.1 ∈ R := (List.of_mem_zip hw).1
    refine ⟨[s, .d (rwD w.2), .d (rwD w.1)], rfl, fun K' kk => ?_, fun _ K' kk => ?_⟩
    · unfold tTrue; rw [W_ret]; exact kk
    · fail "mi"
      refine may_follow_ok (hr _ m1) (hs _ m1).1 ?_
      fail "mi"
      simp only [rowF_rw] at kk
      exact kk
  have f2 : ∀ R : Rows, ∀ {Q : PyData → Prop}, Q (.bool ((R.zip R.tail).all fun z => folB z.1 z.2)) → ∃ b, fAll (.list ((((R.zip R.tail).map fun z => PyData.tuple [rwD z.1, rwD z.2]).filter fun _ => true).map fun z => PyData.bool (match z with | .tuple [a, b] => folB (rowF a) (rowF b) | _ => false))) = some b ∧ Q b := fun R {Q} q => by
    refine ⟨_, ?_, q⟩
    rw [List.filter_eq_self.mpr (fun _ _ => rfl), fAll_of _ (fun z => match z with | .tuple [a, b] => folB (rowF a) (rowF b) | _ => false) _ (fun _ _ => rfl), List.all_map]
    congr 2
    congr 1
    funext z
    show folB (rowF (rwD z.1)) (rowF (rwD z.2)) = _
    rw [rowF_rw, rowF_rw]
  have tl : ∀ R : Rows, R ≠ [] → cutD (rsD R) (some 1) none = rsD R.tail := fun R hR => by
    rw [cut_tail _ (by rw [rsD_len]; exact List.length_pos_iff.mpr hR)]
    unfold rsD
    rw [List.map_tail]
  have hd : ∀ (r : Int × Option Int) (R : Rows), atI (rsD (r :: R)) 0 = some (rwD r) := fun r R => atI_nat (xs := rsD (r :: R)) (j := 0) rfl
  have rw1 : ∀ xs : List PyData, fAll (.list ((xs.filter fun _ => true).map fun z => PyData.bool (rowB z))) = some (.bool (xs.all rowB)) := fun xs => by
    rw [List.filter_eq_self.mpr (fun _ _ => rfl)]
    exact fAll_of _ _ _ (fun _ _ => rfl)
  cases h with
  | d hf =>
    cases x with
    | list xs =>
      obtain ⟨hl, hx⟩ := hb xs (.inl rfl)
      have k : K (.d (.bool (itemsB xs))) φ := k
      unfold itemsB at k
      fail "mi"
      simp only [Bool.or_false, Bool.true_or]
      fail "mi"
      by_cases h1 : 1 ≤ xs.length
      case neg => rw [decide_eq_false h1, Bool.false_and, Bool.false_and] at k; rw [if_neg (by omega)]; fail "mi"; exact k
      rw [if_pos (show (1 : Int) ≤ xs.length by omega)]
      by_cases h4 : xs.length ≤ 4
      case neg => rw [decide_eq_false h4, Bool.and_false, Bool.false_and] at k; rw [decide_eq_false (show ¬ (xs.length : Int) ≤ 4 by omega)]; fail "mi"; exact k
      rw [decide_eq_true h1, decide_eq_true h4, Bool.true_and, Bool.true_and] at k
      rw [decide_eq_true (show (xs.length : Int) ≤ 4 by omega)]
      fail "mi"
      rw [if_pos (show xs.length ≤ 1000000 by omega)]
      refine lc_pure (fun z => .bool (rowB z)) (fun _ => true) _ _ (fun z hz => e1 hx _ z hz) ?_
      fail "mi"
      rw [rw1]
      fail "mi"
      cases ha : xs.all rowB with
      | false => rw [ha, Bool.false_and] at k; fail "mi"; exact k
      | true =>
        rw [ha, Bool.true_and] at k
        fail "mi"
        obtain ⟨R, rfl, hR⟩ := rows_of ha
        rw [rowF_rs] at k
        have hs := sm_of hx
        cases R with
        | nil => exact absurd h1 (by decide)
        | cons r R =>
          rw [okR_cons] at k
          rw [hd]
          unfold rwD
          fail "mi"
          by_cases h0 : r.1 = 1
          case neg => rw [decide_eq_false h0, Bool.false_and] at k; rw [if_neg h0]; exact k
          rw [decide_eq_true h0, Bool.true_and] at k
          rw [if_pos h0]
          rw [tl (r :: R) (by simp), zip_rsD, if_pos (by rw [List.length_map, List.length_zip]; rw [rsD_len] at h4; omega)]
          refine lc_pure (fun z => .bool (match z with | .tuple [a, b] => folB (rowF a) (rowF b) | _ => false)) (fun _ => true) _ _ (fun z hz => e2 (R := r :: R) (fun r hr => (hR r hr).1) hs _ z hz) ?_
          fail "mi"
          obtain ⟨b, eb, q⟩ := f2 (r :: R) (Q := fun b => K (.d b) φ) k
          rw [eb]
          fail "mi"
          exact q
    | tuple xs =>
      obtain ⟨hl, hx⟩ := hb xs (.inr rfl)
      have k : K (.d (.bool (itemsB xs))) φ := k
      unfold itemsB at k
      fail "mi"
      simp only [Bool.or_true, Bool.false_or]
      fail "mi"
      by_cases h1 : 1 ≤ xs.length
      case neg => rw [decide_eq_false h1, Bool.false_and, Bool.false_and] at k; rw [if_neg (by omega)]; fail "mi"; exact k
      rw [if_pos (show (1 : Int) ≤ xs.length by omega)]
      by_cases h4 : xs.length ≤ 4
      case neg => rw [decide_eq_false h4, Bool.and_false, Bool.false_and] at k; rw [decide_eq_false (show ¬ (xs.length : Int) ≤ 4 by omega)]; fail "mi"; exact k
      rw [decide_eq_true h1, decide_eq_true h4, Bool.true_and, Bool.true_and] at k
      rw [decide_eq_true (show (xs.length : Int) ≤ 4 by omega)]
      fail "mi"
      rw [if_pos (show xs.length ≤ 1000000 by omega)]
      refine lc_pure (fun z => .bool (rowB z)) (fun _ => true) _ _ (fun z hz => e1 hx _ z hz) ?_
      fail "mi"
      rw [rw1]
      fail "mi"
      cases ha : xs.all rowB with
      | false => rw [ha, Bool.false_and] at k; fail "mi"; exact k
      | true =>
        rw [ha, Bool.true_and] at k
        fail "mi"
        obtain ⟨R, rfl, hR⟩ := rows_of ha
        rw [rowF_rs] at k
        have hs := sm_of hx
        cases R with
        | nil => exact absurd h1 (by decide)
        | cons r R =>
          rw [okR_cons] at k
          rw [hd]
          unfold rwD
          fail "mi"
          by_cases h0 : r.1 = 1
          case neg => rw [decide_eq_false h0, Bool.false_and] at k; rw [if_neg h0]; exact k
          rw [decide_eq_true h0, Bool.true_and] at k
          rw [if_pos h0]
          rw [tl (r :: R) (by simp), zip_rsD, if_pos (by rw [List.length_map, List.length_zip]; rw [rsD_len] at h4; omega)]
          refine lc_pure (fun z => .bool (match z with | .tuple [a, b] => folB (rowF a) (rowF b) | _ => false)) (fun _ => true) _ _ (fun z hz => e2 (R := r :: R) (fun r hr => (hR r hr).1) hs _ z hz) ?_
          fail "mi"
          obtain ⟨b, eb, q⟩ := f2 (r :: R) (Q := fun b => K (.d b) φ) k
          rw [eb]
          fail "mi"
          exact q
    | _ => fail "mi"; exact k
  | @p p xs hp =>
    obtain ⟨hl, hx⟩ := hb xs (.inl rfl)
    have k : K (.d (.bool (itemsB xs))) φ := k
    unfold itemsB at k
    (fail "mi"; try (simp only [W_getL hp]; fail "mi"))
    simp only [Bool.or_false, Bool.true_or]
    (fail "mi"; try (simp only [W_getL hp]; fail "mi"))
    by_cases h1 : 1 ≤ xs.length
    case neg => rw [decide_eq_false h1, Bool.false_and, Bool.false_and] at k; rw [if_neg (by omega)]; (fail "mi"; try (simp only [W_getL hp]; fail "mi")); exact k
    rw [if_pos (show (1 : Int) ≤ xs.length by omega)]
    by_cases h4 : xs.length ≤ 4
    case neg => rw [decide_eq_false h4, Bool.and_false, Bool.false_and] at k; rw [decide_eq_false (show ¬ (xs.length : Int) ≤ 4 by omega)]; (fail "mi"; try (simp only [W_getL hp]; fail "mi")); exact k
    rw [decide_eq_true h1, decide_eq_true h4, Bool.true_and, Bool.true_and] at k
    rw [decide_eq_true (show (xs.length : Int) ≤ 4 by omega)]
    (fail "mi"; try (simp only [W_getL hp]; fail "mi"))
    rw [if_pos (show xs.length ≤ 1000000 by omega)]
    refine lcP_pure hp (fun z => .bool (rowB z)) (fun _ => true) _ _ (fun z hz => e1 hx _ z hz) ?_
    (fail "mi"; try (simp only [W_getL hp]; fail "mi"))
    rw [rw1]
    (fail "mi"; try (simp only [W_getL hp]; fail "mi"))
    cases ha : xs.all rowB with
    | false => rw [ha, Bool.false_and] at k; (fail "mi"; try (simp only [W_getL hp]; fail "mi")); exact k
    | true =>
      rw [ha, Bool.true_and] at k
      (fail "mi"; try (simp only [W_getL hp]; fail "mi"))
      obtain ⟨R, rfl, hR⟩ := rows_of ha
      rw [rowF_rs] at k
      have hs := sm_of hx
      cases R with
      | nil => exact absurd h1 (by decide)
      | cons r R =>
        rw [okR_cons] at k
        rw [hd]
        unfold rwD
        (fail "mi"; try (simp only [W_getL hp]; fail "mi"))
        by_cases h0 : r.1 = 1
        case neg => rw [decide_eq_false h0, Bool.false_and] at k; rw [if_neg h0]; exact k
        rw [decide_eq_true h0, Bool.true_and] at k
        rw [if_pos h0]
        rw [W_getL hp, if_pos (by rw [rsD_len] at h4 ⊢; omega), tl (r :: R) (by simp), zip_rsD]
        refine lcP_pure hp (fun z => .bool (match z with | .tuple [a, b] => folB (rowF a) (rowF b) | _ => false)) (fun _ => true) _ _ (fun z hz => e2 (R := r :: R) (fun r hr => (hR r hr).1) hs _ z hz) ?_
        (fail "mi"; try (simp only [W_getL hp]; fail "mi"))
        obtain ⟨b, eb, q⟩ := f2 (r :: R) (Q := fun b => K (.d b) φ) k
        rw [eb]
        (fail "mi"; try (simp only [W_getL hp]; fail "mi"))
        exact q
end
end Mi.K18

/-! K18d -/
set_option Elab.async false
set_option linter.all false
set_option maxRecDepth 100000
set_option maxHeartbeats 1000000
/-! ## the law judges -/
namespace Mi.K18
open PySem L2 Eg Mi
local macro_rules | `(tactic| fail "mi") => `(tactic| try simp (config := { decide := false, zeta := true, implicitDefEqProofs := false }) only [Mi.sSeq, Mi.sIf, Mi.sRet, Mi.sRetF, Mi.sRetN, Mi.sRetV, Mi.sNext, Mi.sAsg, Mi.sAsgF, Mi.sAsgC, Mi.sAsgC0, Mi.sDrop, Mi.sRaise, Mi.sFrz, Mi.sApp, Mi.sAppE, Mi.sSet, Mi.sPar, Mi.setAllS, Mi.pNil, Mi.pD, Mi.pF, Mi.setT_n, Mi.setAt, Mi.xC, Mi.xV, Mi.x1, Mi.x2, Mi.xIf, Mi.xAnd, Mi.xOr, Mi.xNot, Mi.tV, Mi.tAn, Mi.tOrr, Mi.tNo, Mi.tTrue, Mi.aNil, Mi.aC, Mi.aScr, Mi.aKw, Eg.swap2, Mi.xTup, Mi.xCall, Mi.xCall0, Mi.ofF, Mi.fLst, Mi.fList, Mi.iEnumM, Mi.fCat, Mi.fRep, Mi.xFld, Mi.xMeth, Mi.xMeth0, Mi.xMethK, Mi.xMake, Mi.sFldS, Mi.iLstM, Mi.iZipM, Mi.iEnumAM, Mi.xBy2, Mi.fRev, Mi.fLcD, Mi.sForD, Mi.sRaise0, Mi.sTry2, Mi.sAugI, Mi.sSetSl, Mi.fSl, Mi.x1D, Mi.x2d, Mi.fLcE, Mi.xReprN, Mi.iRevM, Mi.iRng3M, Mi.iRng2M, Mi.fLrg1, Mi.fCatV, Mi.sShr, Mi.sExt, Mi.sTryU, Mi.uGo, Mi.sSetSlP, Mi.xSlD, Mi.fLcZ, Mi.fSortSet, Mi.fIn, Mi.sTryM, Mi.mGo, Mi.xMakeK, Mi.fCall, Mi.fCall0, Mi.sSetSlE, Mi.iStrM, Mi.xJoin, Mi.unF, Mi.xIxD, Mi.keyOf, Mi.sSetD, Mi.xDc, Mi.xIdx, Mi.x2o, Mi.fSortSetN, Mi.xNewD, Mi.sTabF0, Mi.sTabF, Mi.tabAt, Mi.fBits, Mi.fLcX, Mi.fListZ, Mi.xIsiO, Mi.xIsiC, Mi.isL_dat, Mi.isL_ins, Mi.isC_dat, Mi.lo_int, Mi.lo_bool, Mi.lo_none, Mi.lo_str, Mi.lo_list, Mi.lo_tup, Mi.lo_d0, Mi.key_i, Mi.key_s, Mi.xInR, Mi.xIxR, Mi.xGet1, Mi.xGet2, Mi.xPop1, Mi.xPop2, Mi.xSetd, Mi.sDelD, Mi.sExtE, Mi.fSort, Mi.xSlS, Mi.fMulS_s, Mi.fIxS_s, Mi.fAdd_s, Mi.fInS_s, Mi.xSlD, Mi.iStrM, Mi.signs_s, Mi.setT_l2, Mi.setT_l3, Mi.setT_t2, Mi.setT_t3, Mi.sExtU, Mi.xTupD, Mi.xDictN, Mi.fMeth, Mi.fMeth0, Mi.fMethK, Mi.fIf, Mi.bn_tt, Mi.bn_tf, Mi.bn_ft, Mi.bn_ff, Option.getD_some, Option.getD_none, Option.isSome_some, Option.isSome_none, String.reduceEq, Mi.xNew, Mi.xIsi, Mi.xLen, Mi.xLenV, Mi.xIx, Mi.xIxV, Mi.xSl, Mi.xSlV, Mi.oNo, Mi.oAt, Mi.xTuple, Mi.xChain, Mi.xBy, Mi.xRepr, Mi.unF, Mi.fLc, Mi.wipeD, Mi.sTry, Mi.hGo, Mi.iRng1M, Mi.iRng2M, Mi.M.ret_bind, Mi.M.exc_bind, Mi.M.bad_bind, Mi.e_some, Mi.e_none, Mi.e_cret, Mi.e_cexc, Mi.e_cbad, Mi.e_nret, Mi.e_nexc, Mi.e_nbad, Mi.e_asB, Mi.e_true, Mi.e_false, Mi.W_ite, Mi.W_ret, Mi.W_exc, Mi.W_bad, Mi.W_bind, Mi.W_nox, Mi.W_catch, Mi.W_getLp, Mi.W_put, Mi.toRt_nx, Mi.toRt_rt, Mi.toRt_rf, Mi.toRt_xx, Mi.dat_nil, Mi.dat_cons, Mi.short, Mi.rdat_d, Mi.rdat_f, Mi.sd_d, Mi.sd_s, Mi.sn_int, Mi.sn_bool, Mi.sn_none, Mi.sn_str, Mi.sn_list, Mi.sn_tup, Mi.sn_d0, Mi.e_seenP, Mi.ptrOf_ptr, Mi.p_bool, Mi.p_int, Mi.p_none, Mi.p_str, Mi.p_list, Mi.p_tuple, Mi.sFor, Mi.iSeqM, Mi.ixN_0, Mi.ixN_1, Mi.ixN_2, Mi.ixN_3, Mi.ixN_4, Mi.ixN_5, Mi.atI_0, Mi.atI_1, Mi.atI_2, Mi.atI_3, Mi.atI_4, Mi.atI_5, Mi.isInt_int, Mi.isInt_bool, Mi.isInt_none, Mi.isInt_str, Mi.isInt_list, Mi.isInt_tup, Mi.isInt_dct, Mi.isBool_int, Mi.isBool_bool, Mi.isBool_none, Mi.isBool_str, Mi.isBool_list, Mi.isBool_tup, Mi.isBool_dct, Mi.isStr_int, Mi.isStr_bool, Mi.isStr_none, Mi.isStr_str, Mi.isStr_list, Mi.isStr_tup, Mi.isStr_dct, Mi.isLst_int, Mi.isLst_bool, Mi.isLst_none, Mi.isLst_str, Mi.isLst_list, Mi.isLst_tup, Mi.isLst_dct, Mi.isTup_int, Mi.isTup_bool, Mi.isTup_none, Mi.isTup_str, Mi.isTup_list, Mi.isTup_tup, Mi.isTup_dct, Mi.isDct_int, Mi.isDct_bool, Mi.isDct_none, Mi.isDct_str, Mi.isDct_list, Mi.isDct_tup, Mi.isDct_dct, Mi.isNone_int, Mi.isNone_bool, Mi.isNone_none, Mi.isNone_str, Mi.isNone_list, Mi.isNone_tup, Mi.isNone_dct, Mi.isPtr_int, Mi.isPtr_bool, Mi.isPtr_none, Mi.isPtr_str, Mi.isPtr_list, Mi.isPtr_tup, Mi.isPtr_d0, Mi.fAdd_i, Mi.fAdd_l, Mi.fAdd_t, Mi.fSub_i, Mi.fMul_i, Mi.fMul_l, Mi.fMod_i, Mi.fDiv_i, Mi.fPow_i, Mi.fCmp_i, Mi.fEq_i, Mi.fEq_s, Mi.fNe_i, Mi.fNe_s, Mi.fIsN_n, Mi.fNotN_n, Mi.fIx_l, Mi.fIx_t, Mi.fNeg_i, Mi.fLen_l, Mi.fLen_t, Mi.fAbs_i, Mi.fInt_i, Mi.fInt_b, Mi.fMax2_i, Mi.fMin2_i, Mi.fGcd_i, Mi.items_l, Mi.items_t, Mi.sliced_l, Mi.sliced_t, List.map_cons, List.map_nil, List.length_cons, List.length_nil, List.nil_append, List.cons_append, List.replicate, List.replicate_succ, List.replicate_zero, List.zip_cons_cons, List.zip_nil_right, Int.cast_ofNat_Int, Nat.reduceAdd, Nat.reduceSub, Nat.zero_add, Nat.reduceLeDiff, Nat.reduceEqDiff, List.getElem?_cons_zero, List.getElem?_cons_succ, List.getElem?_nil, List.set_cons_zero, List.set_cons_succ, List.set_nil, ite_true, ite_false, if_true, if_false, Option.map_some, Option.map_none, Option.some.injEq, Bool.not_true, Bool.not_false, decide_eq_true_eq, decide_true, decide_false, Int.reduceLT, Int.reduceLE, Int.reduceEq, Int.reduceNeg, Int.reduceAdd, Int.reduceSub, Int.reduceMul, Int.reducePow, Int.reduceToNat, Int.reduceEq, ne_eq, not_true_eq_false, not_false_eq_true, true_and, and_true, false_and, and_false, reduceCtorEq, eq_self])
theorem items_row {xs : List PyData} {j : Nat} {x : PyData} (h : xs[j]? = some x) (hx : rowB x = false) : itemsB xs = false := by
  have : xs.all rowB = false := by
    rw [Bool.eq_false_iff]
    intro e
    have := List.all_eq_true.mp e x (List.mem_of_getElem? h)
    rw [hx] at this
    cases this
  unfold itemsB
  rw [this, Bool.false_and, Bool.and_false]
theorem mem_zip {R : Rows} {j : Nat} {a b : Int × Option Int} (h1 : R[j]? = some a) (h2 : R[j + 1]? = some b) : (a, b) ∈ R.zip R.tail := by
  refine List.mem_iff_getElem?.mpr ⟨j, ?_⟩
  rw [List.getElem?_zip_eq_some]
  refine ⟨h1, ?_⟩
  rw [List.getElem?_tail]
  exact h2
theorem ok_pair {R : Rows} {j : Nat} {a b : Int × Option Int} (h1 : R[j]? = some a) (h2 : R[j + 1]? = some b) (hf : folB a b = false) : okR R = false := by
  unfold okR
  rw [Bool.and_eq_false_iff]
  refine .inr ?_
  rw [Bool.eq_false_iff]
  intro e
  have := List.all_eq_true.mp e _ (mem_zip h1 h2)
  rw [hf] at this
  cases this
theorem items_pair {R : Rows} {j : Nat} {a b : Int × Option Int} (h1 : R[j]? = some a) (h2 : R[j + 1]? = some b) (hf : folB a b = false) : itemsB (rsD R) = false := by
  unfold itemsB
  rw [rowF_rs, ok_pair h1 h2 hf, Bool.and_false, Bool.and_false]
theorem items_none {xs : List PyData} {j : Nat} {a : Int} (h : xs[j]? = some (rwD (a, none))) (hj : j + 1 < xs.length) : itemsB xs = false := by
  cases ha : xs.all rowB with
  | false => unfold itemsB; rw [ha, Bool.false_and, Bool.and_false]
  | true =>
    obtain ⟨R, rfl, _⟩ := rows_of ha
    rw [rsD_len] at hj
    have h1 : R[j]? = some (a, none) := by
      have : R = (rsD R).map rowF := (rowF_rs R).symm
      rw [this, List.getElem?_map, h, Option.map_some, rowF_rw]
    exact items_pair (j := j) h1 (List.getElem?_eq_getElem hj) rfl
section
variable {φ : Sg} {K : Rt → Sg → Prop} {X : XC} {o : Addr}
noncomputable def L1 (o_Rules : Addr) : S := (sSeq (sAsg (.n 2) (xIx (xV 0) (xV 1)))
  (sSeq (sIf (tOrr (tNo (tV (xIsiO [o_Rules] isTup (xV 2)))) (tOrr (tV (x2 fNe (xLen (xV 2)) (xC (.int 2)))) (tOrr (tNo (tV (xCall0 (m__law_is_count o_Rules) (aC (xIx (xV 2) (xC (.int 0))) aNil)))) (tV (x2 fEq (xIx (xV 2) (xC (.int 0))) (xC (.int 0))))))) (sRet (xC (.bool false))) sNext)
  (sIf (tV (x2 fIsN (xIx (xV 2) (xC (.int 1))) (xC .none))) (sIf (tV (x2 (fCmp fun i j => decide (i < j)) (xV 1) (x2 fSub (xLen (xV 0)) (xC (.int 1))))) (sRet (xC (.bool false))) sNext) (sIf (tOrr (tNo (tV (xCall0 (m__law_is_count o_Rules) (aC (xIx (xV 2) (xC (.int 1))) aNil)))) (tV (x2 fEq (xIx (xV 2) (xC (.int 1))) (xC (.int 0))))) (sRet (xC (.bool false))) sNext))))
noncomputable def L2' (o_Rules : Addr) : S := (sSeq (sIf (tOrr (tV (x2 fNe (x2 fMod (x1 fInt (xIx (xIx (xV 0) (xV 1)) (xC (.int 0)))) (xIx (xIx (xV 0) (x2 fSub (xV 1) (xC (.int 1)))) (xC (.int 0)))) (xC (.int 0)))) (tV (x2 (fCmp fun i j => decide (i < j)) (xIx (xIx (xV 0) (xV 1)) (xC (.int 0))) (x2 fMul (xC (.int 2)) (xIx (xIx (xV 0) (x2 fSub (xV 1) (xC (.int 1)))) (xC (.int 0))))))) (sRet (xC (.bool false))) sNext)
  (sIf (tAn (tV (x2 fNotN (xIx (xIx (xV 0) (xV 1)) (xC (.int 1))) (xC .none))) (tV (x2 (fCmp fun i j => decide (i < j)) (xIx (xIx (xV 0) (xV 1)) (xC (.int 1))) (x2 fAdd (xIx (xIx (xV 0) (x2 fSub (xV 1) (xC (.int 1)))) (xC (.int 1))) (xIx (xIx (xV 0) (xV 1)) (xC (.int 0))))))) (sRet (xC (.bool false))) sNext))
theorem law_are_eq {o_Rules : Addr} : m__law_are_rules o_Rules = mDef 3 1 ((sSeq (sIf (tOrr (tNo (tV (xIsiO [o_Rules] (fun d => isLst d || isTup d) (xV 0)))) (tNo (tV (xChain (fCmp fun i j => decide (i ≤ j)) (fCmp fun i j => decide (i ≤ j)) (xC (.int 1)) (xLen (xV 0)) (xC (.int 4)))))) (sRet (xC (.bool false))) sNext)
  (sSeq (sFor (iRng1M (aC (xLen (xV 0)) aNil)) (.n 1) (L1 o_Rules))
  (sSeq (sFor (iRng2M (aC (xC (.int 1)) (aC (xLen (xV 0)) aNil))) (.n 1) (L2' o_Rules))
  (sRet (x2 fEq (xIx (xIx (xV 0) (xC (.int 0))) (xC (.int 0))) (xC (.int 1)))))))) := rfl
/-- a list or a tuple -/
structure Sq (y : PyData) (xs : List PyData) : Prop where
  seq : y = .list xs ∨ y = .tuple xs
theorem Sq.ptr {y : PyData} {xs : List PyData} (h : Sq y xs) : ptrOf y = none := by rcases h.seq with rfl | rfl <;> rfl
theorem Sq.ix {y : PyData} {xs : List PyData} (h : Sq y xs) {i : Int} : fIx y (.int i) = atI xs i := by rcases h.seq with rfl | rfl <;> rfl
theorem Sq.len {y : PyData} {xs : List PyData} (h : Sq y xs) : fLen y = some (.int xs.length) := by rcases h.seq with rfl | rfl <;> rfl
theorem Sq.rules {y : PyData} {xs : List PyData} (h : Sq y xs) : rulesB y = itemsB xs := by rcases h.seq with rfl | rfl <;> rfl
end
end Mi.K18

/-! K18e -/
set_option Elab.async false
set_option linter.all false
set_option maxRecDepth 100000
set_option maxHeartbeats 1000000
/-! ## the law judges -/
namespace Mi.K18
open PySem L2 Eg Mi
local macro_rules | `(tactic| fail "mi") => `(tactic| try simp (config := { decide := false, zeta := true, implicitDefEqProofs := false }) only [Mi.sSeq, Mi.sIf, Mi.sRet, Mi.sRetF, Mi.sRetN, Mi.sRetV, Mi.sNext, Mi.sAsg, Mi.sAsgF, Mi.sAsgC, Mi.sAsgC0, Mi.sDrop, Mi.sRaise, Mi.sFrz, Mi.sApp, Mi.sAppE, Mi.sSet, Mi.sPar, Mi.setAllS, Mi.pNil, Mi.pD, Mi.pF, Mi.setT_n, Mi.setAt, Mi.xC, Mi.xV, Mi.x1, Mi.x2, Mi.xIf, Mi.xAnd, Mi.xOr, Mi.xNot, Mi.tV, Mi.tAn, Mi.tOrr, Mi.tNo, Mi.tTrue, Mi.aNil, Mi.aC, Mi.aScr, Mi.aKw, Eg.swap2, Mi.xTup, Mi.xCall, Mi.xCall0, Mi.ofF, Mi.fLst, Mi.fList, Mi.iEnumM, Mi.fCat, Mi.fRep, Mi.xFld, Mi.xMeth, Mi.xMeth0, Mi.xMethK, Mi.xMake, Mi.sFldS, Mi.iLstM, Mi.iZipM, Mi.iEnumAM, Mi.xBy2, Mi.fRev, Mi.fLcD, Mi.sForD, Mi.sRaise0, Mi.sTry2, Mi.sAugI, Mi.sSetSl, Mi.fSl, Mi.x1D, Mi.x2d, Mi.fLcE, Mi.xReprN, Mi.iRevM, Mi.iRng3M, Mi.iRng2M, Mi.fLrg1, Mi.fCatV, Mi.sShr, Mi.sExt, Mi.sTryU, Mi.uGo, Mi.sSetSlP, Mi.xSlD, Mi.fLcZ, Mi.fSortSet, Mi.fIn, Mi.sTryM, Mi.mGo, Mi.xMakeK, Mi.fCall, Mi.fCall0, Mi.sSetSlE, Mi.iStrM, Mi.xJoin, Mi.unF, Mi.xIxD, Mi.keyOf, Mi.sSetD, Mi.xDc, Mi.xIdx, Mi.x2o, Mi.fSortSetN, Mi.xNewD, Mi.sTabF0, Mi.sTabF, Mi.tabAt, Mi.fBits, Mi.fLcX, Mi.fListZ, Mi.xIsiO, Mi.xIsiC, Mi.isL_dat, Mi.isL_ins, Mi.isC_dat, Mi.lo_int, Mi.lo_bool, Mi.lo_none, Mi.lo_str, Mi.lo_list, Mi.lo_tup, Mi.lo_d0, Mi.key_i, Mi.key_s, Mi.xInR, Mi.xIxR, Mi.xGet1, Mi.xGet2, Mi.xPop1, Mi.xPop2, Mi.xSetd, Mi.sDelD, Mi.sExtE, Mi.fSort, Mi.xSlS, Mi.fMulS_s, Mi.fIxS_s, Mi.fAdd_s, Mi.fInS_s, Mi.xSlD, Mi.iStrM, Mi.signs_s, Mi.setT_l2, Mi.setT_l3, Mi.setT_t2, Mi.setT_t3, Mi.sExtU, Mi.xTupD, Mi.xDictN, Mi.fMeth, Mi.fMeth0, Mi.fMethK, Mi.fIf, Mi.bn_tt, Mi.bn_tf, Mi.bn_ft, Mi.bn_ff, Option.getD_some, Option.getD_none, Option.isSome_some, Option.isSome_none, String.reduceEq, Mi.xNew, Mi.xIsi, Mi.xLen, Mi.xLenV, Mi.xIx, Mi.xIxV, Mi.xSl, Mi.xSlV, Mi.oNo, Mi.oAt, Mi.xTuple, Mi.xChain, Mi.xBy, Mi.xRepr, Mi.unF, Mi.fLc, Mi.wipeD, Mi.sTry, Mi.hGo, Mi.iRng1M, Mi.iRng2M, Mi.M.ret_bind, Mi.M.exc_bind, Mi.M.bad_bind, Mi.e_some, Mi.e_none, Mi.e_cret, Mi.e_cexc, Mi.e_cbad, Mi.e_nret, Mi.e_nexc, Mi.e_nbad, Mi.e_asB, Mi.e_true, Mi.e_false, Mi.W_ite, Mi.W_ret, Mi.W_exc, Mi.W_bad, Mi.W_bind, Mi.W_nox, Mi.W_catch, Mi.W_getLp, Mi.W_put, Mi.toRt_nx, Mi.toRt_rt, Mi.toRt_rf, Mi.toRt_xx, Mi.dat_nil, Mi.dat_cons, Mi.short, Mi.rdat_d, Mi.rdat_f, Mi.sd_d, Mi.sd_s, Mi.sn_int, Mi.sn_bool, Mi.sn_none, Mi.sn_str, Mi.sn_list, Mi.sn_tup, Mi.sn_d0, Mi.e_seenP, Mi.ptrOf_ptr, Mi.p_bool, Mi.p_int, Mi.p_none, Mi.p_str, Mi.p_list, Mi.p_tuple, Mi.sFor, Mi.iSeqM, Mi.ixN_0, Mi.ixN_1, Mi.ixN_2, Mi.ixN_3, Mi.ixN_4, Mi.ixN_5, Mi.atI_0, Mi.atI_1, Mi.atI_2, Mi.atI_3, Mi.atI_4, Mi.atI_5, Mi.isInt_int, Mi.isInt_bool, Mi.isInt_none, Mi.isInt_str, Mi.isInt_list, Mi.isInt_tup, Mi.isInt_dct, Mi.isBool_int, Mi.isBool_bool, Mi.isBool_none, Mi.isBool_str, Mi.isBool_list, Mi.isBool_tup, Mi.isBool_dct, Mi.isStr_int, Mi.isStr_bool, Mi.isStr_none, Mi.isStr_str, Mi.isStr_list, Mi.isStr_tup, Mi.isStr_dct, Mi.isLst_int, Mi.isLst_bool, Mi.isLst_none, Mi.isLst_str, Mi.isLst_list, Mi.isLst_tup, Mi.isLst_dct, Mi.isTup_int, Mi.isTup_bool, Mi.isTup_none, Mi.isTup_str, Mi.isTup_list, Mi.isTup_tup, Mi.isTup_dct, Mi.isDct_int, Mi.isDct_bool, Mi.isDct_none, Mi.isDct_str, Mi.isDct_list, Mi.isDct_tup, Mi.isDct_dct, Mi.isNone_int, Mi.isNone_bool, Mi.isNone_none, Mi.isNone_str, Mi.isNone_list, Mi.isNone_tup, Mi.isNone_dct, Mi.isPtr_int, Mi.isPtr_bool, Mi.isPtr_none, Mi.isPtr_str, Mi.isPtr_list, Mi.isPtr_tup, Mi.isPtr_d0, Mi.fAdd_i, Mi.fAdd_l, Mi.fAdd_t, Mi.fSub_i, Mi.fMul_i, Mi.fMul_l, Mi.fMod_i, Mi.fDiv_i, Mi.fPow_i, Mi.fCmp_i, Mi.fEq_i, Mi.fEq_s, Mi.fNe_i, Mi.fNe_s, Mi.fIsN_n, Mi.fNotN_n, Mi.fIx_l, Mi.fIx_t, Mi.fNeg_i, Mi.fLen_l, Mi.fLen_t, Mi.fAbs_i, Mi.fInt_i, Mi.fInt_b, Mi.fMax2_i, Mi.fMin2_i, Mi.fGcd_i, Mi.items_l, Mi.items_t, Mi.sliced_l, Mi.sliced_t, List.map_cons, List.map_nil, List.length_cons, List.length_nil, List.nil_append, List.cons_append, List.replicate, List.replicate_succ, List.replicate_zero, List.zip_cons_cons, List.zip_nil_right, Int.cast_ofNat_Int, Nat.reduceAdd, Nat.reduceSub, Nat.zero_add, Nat.reduceLeDiff, Nat.reduceEqDiff, List.getElem?_cons_zero, List.getElem?_cons_succ, List.getElem?_nil, List.set_cons_zero, List.set_cons_succ, List.set_nil, ite_true, ite_false, if_true, if_false, Option.map_some, Option.map_none, Option.some.injEq, Bool.not_true, Bool.not_false, decide_eq_true_eq, decide_true, decide_false, Int.reduceLT, Int.reduceLE, Int.reduceEq, Int.reduceNeg, Int.reduceAdd, Int.reduceSub, Int.reduceMul, Int.reducePow, Int.reduceToNat, Int.reduceEq, ne_eq, not_true_eq_false, not_false_eq_true, true_and, and_true, false_and, and_false, reduceCtorEq, eq_self])
section
variable {φ : Sg} {K : Rt → Sg → Prop} {X : XC} {o : Addr} {y : PyData} {xs : List PyData} {KF : Fl → Sg → Prop}
theorem l1_ok {i : Nat} {x : PyData} {a2 : SD} (h : Sq y xs) (hf : flat y = true) (hx : xs[i]? = some x) (fx : flat x = true) (bx : Rb x)
    (kf : itemsB xs = false → KF (.rt (.bool false)) φ) (kt : ∀ r : Int × Option Int, x = rwD r → 1 ≤ r.1 → (∀ k, r.2 = some k → 1 ≤ k) → (r.2 = none → i + 1 = xs.length) → KF (.nx [.d y, .d (.int (i : Nat)), .d x]) φ) :
    Wp (L1 o [.d y, .d (.int (i : Nat)), a2]) φ KF X := by
  have bad : rowB x = false → KF (.rt (.bool false)) φ := fun e => kf (items_row hx e)
  have hi : i < xs.length := (List.getElem?_eq_some_iff.mp hx).1
  unfold L1
  fail "mi"
  rw [h.ptr]
  fail "mi"
  rw [h.ix, atI_nat hx]
  fail "mi"
  rw [look_sees (.d fx)]
  cases x with
  | tuple zs =>
    obtain ⟨hl, hz⟩ := bx zs rfl
    fail "mi"
    match zs, hl, hz, hx, fx, bad, kt with
    | [a, b], _, hz, hx, fx, bad, kt =>
      fail "mi"
      have fa := (hz a (by simp)).1
      have fb := (hz b (by simp)).1
      refine law_is_count_ok (.d fa) ?_
      fail "mi"
      cases a with
      | int n =>
        rw [show isCt (.int n) = decide (0 ≤ n) from rfl]
        by_cases n0 : 0 ≤ n
        case neg =>
          rw [decide_eq_false n0]
          fail "mi"
          refine bad ?_
          show (decide (1 ≤ n) && _) = false
          rw [decide_eq_false (by omega), Bool.false_and]
        rw [decide_eq_true n0]
        fail "mi"
        by_cases n1 : n = 0
        · rw [if_pos n1]
          refine bad ?_
          show (decide (1 ≤ n) && _) = false
          rw [decide_eq_false (by omega), Bool.false_and]
        · rw [if_neg n1]
          have n2 : 1 ≤ n := by omega
          cases b with
          | none =>
            fail "mi"
            rw [sees_seen (.d hf), h.len]
            fail "mi"
            by_cases hj : (i : Int) < xs.length - 1
            · rw [if_pos hj]
              exact kf (items_none (j := i) (a := n) hx (by omega))
            · rw [if_neg hj]
              exact kt (n, none) rfl n2 (fun _ e => nomatch e) fun _ => by omega
          | int m =>
            fail "mi"
            refine law_is_count_ok (.d rfl) ?_
            fail "mi"
            rw [show isCt (.int m) = decide (0 ≤ m) from rfl]
            by_cases m0 : 0 ≤ m
            case neg =>
              rw [decide_eq_false m0]
              fail "mi"
              refine bad ?_
              show (decide (1 ≤ n) && (false || decide (1 ≤ m))) = false
              rw [decide_eq_false (show ¬ 1 ≤ m by omega), Bool.false_or, Bool.and_false]
            rw [decide_eq_true m0]
            fail "mi"
            by_cases m1 : m = 0
            · rw [if_pos m1]
              refine bad ?_
              show (decide (1 ≤ n) && (false || decide (1 ≤ m))) = false
              rw [decide_eq_false (show ¬ 1 ≤ m by omega), Bool.false_or, Bool.and_false]
            · rw [if_neg m1]
              exact kt (n, some m) rfl n2 (fun k e => by cases e; omega) fun e => nomatch e
          | _ =>
            fail "mi"
            refine law_is_count_ok (.d fb) ?_
            fail "mi"
            simp only [isCt]
            fail "mi"
            refine bad ?_
            show (decide (1 ≤ n) && (false || false)) = false
            rw [Bool.or_false, Bool.and_false]
      | _ => simp only [isCt]; fail "mi"; exact bad rfl
    | [], _, _, _, _, bad, _ => fail "mi"; exact bad rfl
    | [_], _, _, _, _, bad, _ => fail "mi"; exact bad rfl
    | a :: b :: c :: zs, _, _, _, _, bad, _ =>
      rw [decide_eq_false (show ¬ (((a :: b :: c :: zs).length : Nat) : Int) = 2 by simp only [List.length_cons]; omega)]
      fail "mi"
      exact bad rfl
  | _ => fail "mi"; exact bad rfl
theorem l2_ok {R : Rows} {k : Nat} {a b : Int × Option Int} {a2 : SD} {ka : Int} (h : Sq y (rsD R)) (h1 : R[k]? = some a) (h2 : R[k + 1]? = some b) (e : a.2 = some ka) (pa : 1 ≤ a.1) (sa : a.1.natAbs < 2 ^ 55)
    (kf : folB a b = false → KF (.rt (.bool false)) φ) (kt : folB a b = true → KF (.nx [.d y, .d (.int ((k + 1 : Nat) : Int)), a2]) φ) :
    Wp (L2' o [.d y, .d (.int ((k + 1 : Nat) : Int)), a2]) φ KF X := by
  obtain ⟨la, kpa⟩ := a
  obtain ⟨lb, kpb⟩ := b
  simp only [] at e pa sa
  subst e
  have g1 : (rsD R)[k]? = some (rwD (la, some ka)) := by unfold rsD; rw [List.getElem?_map, h1]; rfl
  have g2 : (rsD R)[k + 1]? = some (rwD (lb, kpb)) := by unfold rsD; rw [List.getElem?_map, h2]; rfl
  have i1 : atI (rsD R) (((k + 1 : Nat) : Int) - 1) = some (rwD (la, some ka)) := by
    rw [show ((k + 1 : Nat) : Int) - 1 = ((k : Nat) : Int) by omega]
    exact atI_nat g1
  have i2 : atI (rsD R) ((k + 1 : Nat) : Int) = some (rwD (lb, kpb)) := atI_nat g2
  have hfol : folB (la, some ka) (lb, kpb) = (decide (lb % la = 0) && decide (2 * la ≤ lb) && folK (ka + lb) kpb) := rfl
  rw [hfol] at kf kt
  generalize ((k + 1 : Nat) : Int) = n at *
  unfold L2'
  fail "mi"
  simp only [h.ptr]
  fail "mi"
  simp only [h.ix, i1, i2]
  fail "mi"
  unfold rwD kD
  fail "mi"
  rw [if_pos (show 0 < la by omega)]
  fail "mi"
  by_cases c1 : lb % la = 0
  case neg =>
    rw [decide_eq_false c1]
    fail "mi"
    exact kf (by rw [decide_eq_false c1, Bool.false_and, Bool.false_and])
  rw [decide_eq_true c1]
  fail "mi"
  rw [if_pos (mulOk_of (i := 2) (j := la) 2 56 (by decide) (by omega) (by decide) (by decide) (by decide))]
  fail "mi"
  by_cases c2 : 2 * la ≤ lb
  case neg =>
    rw [if_pos (show lb < 2 * la by omega)]
    exact kf (by rw [decide_eq_false c2, Bool.and_false, Bool.false_and])
  rw [if_neg (show ¬ lb < 2 * la by omega)]
  rw [decide_eq_true c1, decide_eq_true c2, Bool.true_and, Bool.true_and] at kt kf
  cases kpb with
  | none => fail "mi"; exact kt rfl
  | some kb =>
    fail "mi"
    by_cases c3 : ka + lb ≤ kb
    · rw [if_neg (show ¬ kb < ka + lb by omega)]
      exact kt (decide_eq_true c3)
    · rw [if_pos (show kb < ka + lb by omega)]
      exact kf (decide_eq_false c3)
end
end Mi.K18

/-! K18f -/
set_option Elab.async false
set_option linter.all false
set_option maxRecDepth 100000
set_option maxHeartbeats 1000000
/-! ## the law judges as the program does -/
namespace Mi.K18
open PySem L2 Eg Mi
local macro_rules | `(tactic| fail "mi") => `(tactic| try simp (config := { decide := false, zeta := true, implicitDefEqProofs := false }) only [Mi.sSeq, Mi.sIf, Mi.sRet, Mi.sRetF, Mi.sRetN, Mi.sRetV, Mi.sNext, Mi.sAsg, Mi.sAsgF, Mi.sAsgC, Mi.sAsgC0, Mi.sDrop, Mi.sRaise, Mi.sFrz, Mi.sApp, Mi.sAppE, Mi.sSet, Mi.sPar, Mi.setAllS, Mi.pNil, Mi.pD, Mi.pF, Mi.setT_n, Mi.setAt, Mi.xC, Mi.xV, Mi.x1, Mi.x2, Mi.xIf, Mi.xAnd, Mi.xOr, Mi.xNot, Mi.tV, Mi.tAn, Mi.tOrr, Mi.tNo, Mi.tTrue, Mi.aNil, Mi.aC, Mi.aScr, Mi.aKw, Eg.swap2, Mi.xTup, Mi.xCall, Mi.xCall0, Mi.ofF, Mi.fLst, Mi.fList, Mi.iEnumM, Mi.fCat, Mi.fRep, Mi.xFld, Mi.xMeth, Mi.xMeth0, Mi.xMethK, Mi.xMake, Mi.sFldS, Mi.iLstM, Mi.iZipM, Mi.iEnumAM, Mi.xBy2, Mi.fRev, Mi.fLcD, Mi.sForD, Mi.sRaise0, Mi.sTry2, Mi.sAugI, Mi.sSetSl, Mi.fSl, Mi.x1D, Mi.x2d, Mi.fLcE, Mi.xReprN, Mi.iRevM, Mi.iRng3M, Mi.iRng2M, Mi.fLrg1, Mi.fCatV, Mi.sShr, Mi.sExt, Mi.sTryU, Mi.uGo, Mi.sSetSlP, Mi.xSlD, Mi.fLcZ, Mi.fSortSet, Mi.fIn, Mi.sTryM, Mi.mGo, Mi.xMakeK, Mi.fCall, Mi.fCall0, Mi.sSetSlE, Mi.iStrM, Mi.xJoin, Mi.unF, Mi.xIxD, Mi.keyOf, Mi.sSetD, Mi.xDc, Mi.xIdx, Mi.x2o, Mi.fSortSetN, Mi.xNewD, Mi.sTabF0, Mi.sTabF, Mi.tabAt, Mi.fBits, Mi.fLcX, Mi.fListZ, Mi.xIsiO, Mi.xIsiC, Mi.isL_dat, Mi.isL_ins, Mi.isC_dat, Mi.lo_int, Mi.lo_bool, Mi.lo_none, Mi.lo_str, Mi.lo_list, Mi.lo_tup, Mi.lo_d0, Mi.key_i, Mi.key_s, Mi.xInR, Mi.xIxR, Mi.xGet1, Mi.xGet2, Mi.xPop1, Mi.xPop2, Mi.xSetd, Mi.sDelD, Mi.sExtE, Mi.fSort, Mi.xSlS, Mi.fMulS_s, Mi.fIxS_s, Mi.fAdd_s, Mi.fInS_s, Mi.xSlD, Mi.iStrM, Mi.signs_s, Mi.setT_l2, Mi.setT_l3, Mi.setT_t2, Mi.setT_t3, Mi.sExtU, Mi.xTupD, Mi.xDictN, Mi.fMeth, Mi.fMeth0, Mi.fMethK, Mi.fIf, Mi.bn_tt, Mi.bn_tf, Mi.bn_ft, Mi.bn_ff, Option.getD_some, Option.getD_none, Option.isSome_some, Option.isSome_none, String.reduceEq, Mi.xNew, Mi.xIsi, Mi.xLen, Mi.xLenV, Mi.xIx, Mi.xIxV, Mi.xSl, Mi.xSlV, Mi.oNo, Mi.oAt, Mi.xTuple, Mi.xChain, Mi.xBy, Mi.xRepr, Mi.unF, Mi.fLc, Mi.wipeD, Mi.sTry, Mi.hGo, Mi.iRng1M, Mi.iRng2M, Mi.M.ret_bind, Mi.M.exc_bind, Mi.M.bad_bind, Mi.e_some, Mi.e_none, Mi.e_cret, Mi.e_cexc, Mi.e_cbad, Mi.e_nret, Mi.e_nexc, Mi.e_nbad, Mi.e_asB, Mi.e_true, Mi.e_false, Mi.W_ite, Mi.W_ret, Mi.W_exc, Mi.W_bad, Mi.W_bind, Mi.W_nox, Mi.W_catch, Mi.W_getLp, Mi.W_put, Mi.toRt_nx, Mi.toRt_rt, Mi.toRt_rf, Mi.toRt_xx, Mi.dat_nil, Mi.dat_cons, Mi.short, Mi.rdat_d, Mi.rdat_f, Mi.sd_d, Mi.sd_s, Mi.sn_int, Mi.sn_bool, Mi.sn_none, Mi.sn_str, Mi.sn_list, Mi.sn_tup, Mi.sn_d0, Mi.e_seenP, Mi.ptrOf_ptr, Mi.p_bool, Mi.p_int, Mi.p_none, Mi.p_str, Mi.p_list, Mi.p_tuple, Mi.sFor, Mi.iSeqM, Mi.ixN_0, Mi.ixN_1, Mi.ixN_2, Mi.ixN_3, Mi.ixN_4, Mi.ixN_5, Mi.atI_0, Mi.atI_1, Mi.atI_2, Mi.atI_3, Mi.atI_4, Mi.atI_5, Mi.isInt_int, Mi.isInt_bool, Mi.isInt_none, Mi.isInt_str, Mi.isInt_list, Mi.isInt_tup, Mi.isInt_dct, Mi.isBool_int, Mi.isBool_bool, Mi.isBool_none, Mi.isBool_str, Mi.isBool_list, Mi.isBool_tup, Mi.isBool_dct, Mi.isStr_int, Mi.isStr_bool, Mi.isStr_none, Mi.isStr_str, Mi.isStr_list, Mi.isStr_tup, Mi.isStr_dct, Mi.isLst_int, Mi.isLst_bool, Mi.isLst_none, Mi.isLst_str, Mi.isLst_list, Mi.isLst_tup, Mi.isLst_dct, Mi.isTup_int, Mi.isTup_bool, Mi.isTup_none, Mi.isTup_str, Mi.isTup_list, Mi.isTup_tup, Mi.isTup_dct, Mi.isDct_int, Mi.isDct_bool, Mi.isDct_none, Mi.isDct_str, Mi.isDct_list, Mi.isDct_tup, Mi.isDct_dct, Mi.isNone_int, Mi.isNone_bool, Mi.isNone_none, Mi.isNone_str, Mi.isNone_list, Mi.isNone_tup, Mi.isNone_dct, Mi.isPtr_int, Mi.isPtr_bool, Mi.isPtr_none, Mi.isPtr_str, Mi.isPtr_list, Mi.isPtr_tup, Mi.isPtr_d0, Mi.fAdd_i, Mi.fAdd_l, Mi.fAdd_t, Mi.fSub_i, Mi.fMul_i, Mi.fMul_l, Mi.fMod_i, Mi.fDiv_i, Mi.fPow_i, Mi.fCmp_i, Mi.fEq_i, Mi.fEq_s, Mi.fNe_i, Mi.fNe_s, Mi.fIsN_n, Mi.fNotN_n, Mi.fIx_l, Mi.fIx_t, Mi.fNeg_i, Mi.fLen_l, Mi.fLen_t, Mi.fAbs_i, Mi.fInt_i, Mi.fInt_b, Mi.fMax2_i, Mi.fMin2_i, Mi.fGcd_i, Mi.items_l, Mi.items_t, Mi.sliced_l, Mi.sliced_t, List.map_cons, List.map_nil, List.length_cons, List.length_nil, List.nil_append, List.cons_append, List.replicate, List.replicate_succ, List.replicate_zero, List.zip_cons_cons, List.zip_nil_right, Int.cast_ofNat_Int, Nat.reduceAdd, Nat.reduceSub, Nat.zero_add, Nat.reduceLeDiff, Nat.reduceEqDiff, List.getElem?_cons_zero, List.getElem?_cons_succ, List.getElem?_nil, List.set_cons_zero, List.set_cons_succ, List.set_nil, ite_true, ite_false, if_true, if_false, Option.map_some, Option.map_none, Option.some.injEq, Bool.not_true, Bool.not_false, decide_eq_true_eq, decide_true, decide_false, Int.reduceLT, Int.reduceLE, Int.reduceEq, Int.reduceNeg, Int.reduceAdd, Int.reduceSub, Int.reduceMul, Int.reducePow, Int.reduceToNat, Int.reduceEq, ne_eq, not_true_eq_false, not_false_eq_true, true_and, and_true, false_and, and_false, reduceCtorEq, eq_self])
theorem all_rows {xs : List PyData} (h : ∀ j, j < xs.length → ∃ r : Int × Option Int, xs[j]? = some (rwD r) ∧ 1 ≤ r.1 ∧ (∀ k, r.2 = some k → 1 ≤ k) ∧ (r.2 = none → j + 1 = xs.length)) : xs.all rowB = true := by
  rw [List.all_eq_true]
  intro x hx
  obtain ⟨j, hj, e⟩ := List.getElem_of_mem hx
  obtain ⟨r, h1, h2, h3, _⟩ := h j hj
  rw [List.getElem?_eq_getElem hj, e] at h1
  rw [Option.some.inj h1]
  exact rwD_row h2 h3
theorem span_eq (n : Nat) (h : 1 ≤ n) : span 1 (n : Int) = (List.range (n - 1)).map fun k : Nat => PyData.int ((k + 1 : Nat) : Int) := by
  unfold span
  rw [show ((n : Int) - 1).toNat = n - 1 by omega]
  refine List.map_congr_left fun k _ => ?_
  congr 1
  omega
section
variable {φ : Sg} {K : Rt → Sg → Prop} {X : XC} {o : Addr} {y : PyData} {xs : List PyData} {KF : Fl → Sg → Prop}
theorem law_seq_ok (h : Sq y xs) (hf : flat y = true) (hb : Vb y) (k : K (.d (.bool (itemsB xs))) φ) : Wp (m__law_are_rules o [.d y]) φ K X := by
  obtain ⟨hl, hx⟩ := hb xs h.seq
  have l1 := fun (φ : Sg) (i : Nat) (x : PyData) (a2 : SD) (KF : Fl → Sg → Prop) (X : XC) => l1_ok (o := o) (φ := φ) (i := i) (x := x) (a2 := a2) (KF := KF) (X := X) h hf
  have l2 := fun (φ : Sg) (R : Rows) (k : Nat) (a b : Int × Option Int) (a2 : SD) (ka : Int) (KF : Fl → Sg → Prop) (X : XC) => l2_ok (o := o) (φ := φ) (R := R) (k := k) (a := a) (b := b) (a2 := a2) (ka := ka) (KF := KF) (X := X) (y := y)
  have ty : (isLst y || isTup y) = true := by rcases h.seq with rfl | rfl <;> rfl
  rw [law_are_eq]
  refine mdef_wp ?_
  generalize L1 o = T1 at l1 ⊢
  generalize L2' o = T2 at l2 ⊢
  fail "mi"
  rw [look_sees (.d hf)]
  fail "mi"
  rw [ty]
  fail "mi"
  rw [sees_seen (.d hf), h.len]
  fail "mi"
  by_cases n1 : 1 ≤ xs.length
  case neg =>
    rw [if_neg (show ¬ (1 : Int) ≤ xs.length by omega)]
    fail "mi"
    unfold itemsB at k
    rw [decide_eq_false n1, Bool.false_and, Bool.false_and] at k
    exact k
  rw [if_pos (show (1 : Int) ≤ xs.length by omega)]
  by_cases n4 : xs.length ≤ 4
  case neg =>
    rw [decide_eq_false (show ¬ (xs.length : Int) ≤ 4 by omega)]
    fail "mi"
    unfold itemsB at k
    rw [decide_eq_false n4, Bool.and_false, Bool.false_and] at k
    exact k
  rw [decide_eq_true (show (xs.length : Int) ≤ 4 by omega)]
  fail "mi"
  rw [sees_seen (.d hf), h.len]
  fail "mi"
  rw [rng_if rfl (by omega)]
  fail "mi"
  have kF : itemsB xs = false → K (.d (.bool false)) φ := fun e => by rw [e] at k; exact k
  refine for_wp (fun ds δ φ' => φ' = φ ∧ (∃ b1 b2, δ = [.d y, b1, b2]) ∧ ∃ i, i ≤ xs.length ∧ ds = (upto xs.length).drop i ∧ ∀ j, j < i → ∃ r : Int × Option Int, xs[j]? = some (rwD r) ∧ 1 ≤ r.1 ∧ (∀ k, r.2 = some k → 1 ≤ k) ∧ (r.2 = none → j + 1 = xs.length)) (fun z ds δ φ' hI => ?_) (fun δ φ' hI => ?_) _ _ _ ⟨rfl, ⟨_, _, rfl⟩, 0, Nat.zero_le _, rfl, fun j hj => absurd hj (Nat.not_lt_zero _)⟩
  · obtain ⟨rfl, ⟨b1, b2, rfl⟩, i, hi, hd, hall⟩ := hI
    refine ⟨_, rfl, ?_⟩
    have hil : i < xs.length := by
      rcases Nat.lt_or_ge i xs.length with z | z
      · exact z
      · have e2 : (upto xs.length).drop i = [] := List.drop_eq_nil_of_le (by rw [upto_n]; exact z)
        rw [e2] at hd; cases hd
    have hd2 : (upto xs.length).drop i = .int (i : Nat) :: (upto xs.length).drop (i + 1) := (List.drop_eq_getElem?_toList_append (l := upto xs.length) (i := i)).trans (by rw [upto_get hil]; rfl)
    rw [hd2] at hd
    obtain ⟨rfl, rfl⟩ := List.cons.inj hd
    have hg := List.getElem?_eq_getElem hil
    refine l1 _ i xs[i] _ _ _ hg (hx _ (List.getElem_mem hil)).1 (hx _ (List.getElem_mem hil)).2 (fun e => ?_) (fun r e r1 r2 r3 => ?_)
    · rw [turn_rt]; fail "mi"; exact kF e
    · rw [turn_nx]
      refine ⟨rfl, ⟨_, _, rfl⟩, i + 1, hil, rfl, fun j hj => ?_⟩
      rcases Nat.lt_or_ge j i with z | z
      · exact hall j z
      · have : j = i := by omega
        subst this
        exact ⟨r, by rw [hg, e], r1, r2, r3⟩
  · obtain ⟨rfl, ⟨b1, b2, rfl⟩, i, hi, hd, hall⟩ := hI
    have hie : i = xs.length := by
      rcases Nat.lt_or_ge i xs.length with z | z
      · have := congrArg List.length hd
        rw [List.length_drop, upto_n] at this
        simp only [List.length_nil] at this
        omega
      · omega
    subst hie
    have ha := all_rows hall
    obtain ⟨R, rfl, hR⟩ := rows_of ha
    have hs := sm_of hx
    have lR := rsD_len R
    have kp : ∀ j, j + 1 < R.length → ∃ ka, (R[j]?).map (·.2) = some (some ka) := fun j hj => by
      obtain ⟨r, h1, _, _, h4⟩ := hall j (by omega)
      have e : R[j]? = some r := by
        have : R = (rsD R).map rowF := (rowF_rs R).symm
        rw [this, List.getElem?_map, h1, Option.map_some, rowF_rw]
      rw [e]
      cases er : r.2 with
      | none => have := h4 er; omega
      | some ka => exact ⟨ka, by rw [Option.map_some, er]⟩
    have hok : itemsB (rsD R) = okR R := by
      unfold itemsB
      rw [rowF_rs, ha, decide_eq_true n1, decide_eq_true n4]
      rfl
    rw [hok] at k kF
    have fin : ∀ b1 b2 : SD, okR R = decide ((R.head?.map (·.1)) = some 1) → K (.d (.bool (okR R))) φ' → Wp ((sRet (x2 fEq (xIx (xIx (xV 0) (xC (.int 0))) (xC (.int 0))) (xC (.int 1)))) [.d y, b1, b2]) φ' (fun fl φ1 => Wp (toRt [] fl) φ1 K X) (fun _ _ _ => False) := fun b1 b2 e q => by
      fail "mi"
      rw [h.ptr]
      fail "mi"
      rw [h.ix]
      cases R with
      | nil => exact absurd n1 (by decide)
      | cons r R =>
        rw [show atI (rsD (r :: R)) 0 = some (rwD r) from atI_nat (xs := rsD (r :: R)) (j := 0) rfl]
        unfold rwD
        fail "mi"
        have e3 : decide ((List.head? (r :: R)).map (fun x => x.1) = some 1) = decide (r.1 = 1) := decide_eq_decide.mpr ⟨fun h => Option.some.inj h, fun h => by rw [← h]; rfl⟩
        rw [e, e3] at q
        exact q
    fail "mi"
    rw [sees_seen (.d hf), h.len]
    fail "mi"
    rw [if_pos (by omega)]
    fail "mi"
    rw [lR, span_eq _ (by rw [← lR]; exact n1)]
    have geti : ∀ {i : Nat}, i < R.length - 1 → ((List.range (R.length - 1)).map fun k : Nat => PyData.int ((k + 1 : Nat) : Int)).drop i = .int ((i + 1 : Nat) : Int) :: ((List.range (R.length - 1)).map fun k : Nat => PyData.int ((k + 1 : Nat) : Int)).drop (i + 1) := fun {i} hi => by
      refine (List.drop_eq_getElem?_toList_append (i := i)).trans ?_
      rw [List.getElem?_map, List.getElem?_range hi]
      rfl
    have ll : ((List.range (R.length - 1)).map fun k : Nat => PyData.int ((k + 1 : Nat) : Int)).length = R.length - 1 := by rw [List.length_map, List.length_range]
    generalize ((List.range (R.length - 1)).map fun k : Nat => PyData.int ((k + 1 : Nat) : Int)) = L at geti ll ⊢
    refine for_wp (fun ds δ φ2 => φ2 = φ' ∧ (∃ b1 b2, δ = [.d y, b1, b2]) ∧ ∃ i, i ≤ R.length - 1 ∧ ds = L.drop i ∧ ∀ j, j < i → ∃ a b, R[j]? = some a ∧ R[j + 1]? = some b ∧ folB a b = true) (fun z ds δ φ2 hI => ?_) (fun δ φ2 hI => ?_) _ _ _ ⟨rfl, ⟨_, _, rfl⟩, 0, Nat.zero_le _, rfl, fun j hj => absurd hj (Nat.not_lt_zero _)⟩
    · obtain ⟨rfl, ⟨b1, b2, rfl⟩, i, hi, hd, hall⟩ := hI
      refine ⟨_, rfl, ?_⟩
      have hil : i < R.length - 1 := by
        rcases Nat.lt_or_ge i (R.length - 1) with z | z
        · exact z
        · have e2 : L.drop i = [] := List.drop_eq_nil_of_le (by rw [ll]; exact z)
          rw [e2] at hd; cases hd
      rw [geti hil] at hd
      obtain ⟨rfl, rfl⟩ := List.cons.inj hd
      have g1 := List.getElem?_eq_getElem (l := R) (i := i) (by omega)
      have g2 := List.getElem?_eq_getElem (l := R) (i := i + 1) (by omega)
      obtain ⟨ka, ek⟩ := kp i (by omega)
      rw [g1] at ek
      have hm := List.getElem_mem (l := R) (n := i) (by omega)
      refine l2 _ R i _ _ _ ka _ _ h g1 g2 (Option.some.inj ek) (hR _ hm).1 (hs _ hm).1 (fun e => ?_) (fun e => ?_)
      · rw [turn_rt]
        fail "mi"
        exact kF (ok_pair g1 g2 e)
      · rw [turn_nx]
        refine ⟨rfl, ⟨_, _, rfl⟩, i + 1, hil, rfl, fun j hj => ?_⟩
        rcases Nat.lt_or_ge j i with z | z
        · exact hall j z
        · have : j = i := by omega
          subst this
          exact ⟨_, _, g1, g2, e⟩
    · obtain ⟨rfl, ⟨b1, b2, rfl⟩, i, hi, hd, hall⟩ := hI
      have hie : i = R.length - 1 := by
        rcases Nat.lt_or_ge i (R.length - 1) with z | z
        · have := congrArg List.length hd
          rw [List.length_drop, ll] at this
          simp only [List.length_nil] at this
          omega
        · omega
      refine fin _ _ ?_ k
      unfold okR
      have : ((R.zip R.tail).all fun z => folB z.1 z.2) = true := by
        rw [List.all_eq_true]
        intro z hz
        obtain ⟨j, hj⟩ := List.mem_iff_getElem?.mp hz
        rw [List.getElem?_zip_eq_some, List.getElem?_tail] at hj
        have hjl := (List.getElem?_eq_some_iff.mp hj.2).1
        obtain ⟨a, b, h1, h2, h3⟩ := hall j (by omega)
        rw [hj.1] at h1
        rw [hj.2] at h2
        rw [Option.some.inj h1, Option.some.inj h2]
        exact h3
      rw [this, Bool.and_true]
theorem law_are_ok (hf : flat y = true) (hb : Vb y) (k : K (.d (.bool (rulesB y))) φ) : Wp (m__law_are_rules o [.d y]) φ K X := by
  cases y with
  | list xs => exact law_seq_ok ⟨.inl rfl⟩ hf hb k
  | tuple xs => exact law_seq_ok ⟨.inr rfl⟩ hf hb k
  | _ =>
    rw [law_are_eq]
    refine mdef_wp ?_
    first
      | (fail "mi"; simp only [Bool.or_self]; fail "mi"; exact k)
      | (fail "mi"; rw [look_sees (.d hf)]; fail "mi"; simp only [Bool.or_self]; fail "mi"; exact k)
end
end Mi.K18

/-! K18g -/
set_option Elab.async false
set_option linter.all false
set_option maxRecDepth 100000
set_option maxHeartbeats 1000000
/-! ## rules are made, or refused -/
namespace Mi.K18
open PySem L2 Eg Mi
local macro_rules | `(tactic| fail "mi") => `(tactic| try simp (config := { decide := false, zeta := true, implicitDefEqProofs := false }) only [Mi.sSeq, Mi.sIf, Mi.sRet, Mi.sRetF, Mi.sRetN, Mi.sRetV, Mi.sNext, Mi.sAsg, Mi.sAsgF, Mi.sAsgC, Mi.sAsgC0, Mi.sDrop, Mi.sRaise, Mi.sFrz, Mi.sApp, Mi.sAppE, Mi.sSet, Mi.sPar, Mi.setAllS, Mi.pNil, Mi.pD, Mi.pF, Mi.setT_n, Mi.setAt, Mi.xC, Mi.xV, Mi.x1, Mi.x2, Mi.xIf, Mi.xAnd, Mi.xOr, Mi.xNot, Mi.tV, Mi.tAn, Mi.tOrr, Mi.tNo, Mi.tTrue, Mi.aNil, Mi.aC, Mi.aScr, Mi.aKw, Eg.swap2, Mi.xTup, Mi.xCall, Mi.xCall0, Mi.ofF, Mi.fLst, Mi.fList, Mi.iEnumM, Mi.fCat, Mi.fRep, Mi.xFld, Mi.xMeth, Mi.xMeth0, Mi.xMethK, Mi.xMake, Mi.sFldS, Mi.iLstM, Mi.iZipM, Mi.iEnumAM, Mi.xBy2, Mi.fRev, Mi.fLcD, Mi.sForD, Mi.sRaise0, Mi.sTry2, Mi.sAugI, Mi.sSetSl, Mi.fSl, Mi.x1D, Mi.x2d, Mi.fLcE, Mi.xReprN, Mi.iRevM, Mi.iRng3M, Mi.iRng2M, Mi.fLrg1, Mi.fCatV, Mi.sShr, Mi.sExt, Mi.sTryU, Mi.uGo, Mi.sSetSlP, Mi.xSlD, Mi.fLcZ, Mi.fSortSet, Mi.fIn, Mi.sTryM, Mi.mGo, Mi.xMakeK, Mi.fCall, Mi.fCall0, Mi.sSetSlE, Mi.iStrM, Mi.xJoin, Mi.unF, Mi.xIxD, Mi.keyOf, Mi.sSetD, Mi.xDc, Mi.xIdx, Mi.x2o, Mi.fSortSetN, Mi.xNewD, Mi.sTabF0, Mi.sTabF, Mi.tabAt, Mi.fBits, Mi.fLcX, Mi.fListZ, Mi.xIsiO, Mi.xIsiC, Mi.isL_dat, Mi.isL_ins, Mi.isC_dat, Mi.lo_int, Mi.lo_bool, Mi.lo_none, Mi.lo_str, Mi.lo_list, Mi.lo_tup, Mi.lo_d0, Mi.key_i, Mi.key_s, Mi.xInR, Mi.xIxR, Mi.xGet1, Mi.xGet2, Mi.xPop1, Mi.xPop2, Mi.xSetd, Mi.sDelD, Mi.sExtE, Mi.fSort, Mi.xSlS, Mi.fMulS_s, Mi.fIxS_s, Mi.fAdd_s, Mi.fInS_s, Mi.xSlD, Mi.iStrM, Mi.signs_s, Mi.setT_l2, Mi.setT_l3, Mi.setT_t2, Mi.setT_t3, Mi.xDictE, Mi.xReprE, Mi.sExtU, Mi.xTupD, Mi.xDictN, Mi.fMeth, Mi.fMeth0, Mi.fMethK, Mi.fIf, Mi.bn_tt, Mi.bn_tf, Mi.bn_ft, Mi.bn_ff, Option.getD_some, Option.getD_none, Option.isSome_some, Option.isSome_none, String.reduceEq, Mi.xNew, Mi.xIsi, Mi.xLen, Mi.xLenV, Mi.xIx, Mi.xIxV, Mi.xSl, Mi.xSlV, Mi.oNo, Mi.oAt, Mi.xTuple, Mi.xChain, Mi.xBy, Mi.xRepr, Mi.unF, Mi.fLc, Mi.wipeD, Mi.sTry, Mi.hGo, Mi.iRng1M, Mi.iRng2M, Mi.M.ret_bind, Mi.M.exc_bind, Mi.M.bad_bind, Mi.e_some, Mi.e_none, Mi.e_cret, Mi.e_cexc, Mi.e_cbad, Mi.e_nret, Mi.e_nexc, Mi.e_nbad, Mi.e_asB, Mi.e_true, Mi.e_false, Mi.W_ite, Mi.W_ret, Mi.W_exc, Mi.W_bad, Mi.W_bind, Mi.W_nox, Mi.W_catch, Mi.W_getLp, Mi.W_put, Mi.toRt_nx, Mi.toRt_rt, Mi.toRt_rf, Mi.toRt_xx, Mi.dat_nil, Mi.dat_cons, Mi.short, Mi.rdat_d, Mi.rdat_f, Mi.sd_d, Mi.sd_s, Mi.sn_int, Mi.sn_bool, Mi.sn_none, Mi.sn_str, Mi.sn_list, Mi.sn_tup, Mi.sn_d0, Mi.e_seenP, Mi.ptrOf_ptr, Mi.p_bool, Mi.p_int, Mi.p_none, Mi.p_str, Mi.p_list, Mi.p_tuple, Mi.sFor, Mi.iSeqM, Mi.ixN_0, Mi.ixN_1, Mi.ixN_2, Mi.ixN_3, Mi.ixN_4, Mi.ixN_5, Mi.atI_0, Mi.atI_1, Mi.atI_2, Mi.atI_3, Mi.atI_4, Mi.atI_5, Mi.isInt_int, Mi.isInt_bool, Mi.isInt_none, Mi.isInt_str, Mi.isInt_list, Mi.isInt_tup, Mi.isInt_dct, Mi.isBool_int, Mi.isBool_bool, Mi.isBool_none, Mi.isBool_str, Mi.isBool_list, Mi.isBool_tup, Mi.isBool_dct, Mi.isStr_int, Mi.isStr_bool, Mi.isStr_none, Mi.isStr_str, Mi.isStr_list, Mi.isStr_tup, Mi.isStr_dct, Mi.isLst_int, Mi.isLst_bool, Mi.isLst_none, Mi.isLst_str, Mi.isLst_list, Mi.isLst_tup, Mi.isLst_dct, Mi.isTup_int, Mi.isTup_bool, Mi.isTup_none, Mi.isTup_str, Mi.isTup_list, Mi.isTup_tup, Mi.isTup_dct, Mi.isDct_int, Mi.isDct_bool, Mi.isDct_none, Mi.isDct_str, Mi.isDct_list, Mi.isDct_tup, Mi.isDct_dct, Mi.isNone_int, Mi.isNone_bool, Mi.isNone_none, Mi.isNone_str, Mi.isNone_list, Mi.isNone_tup, Mi.isNone_dct, Mi.isPtr_int, Mi.isPtr_bool, Mi.isPtr_none, Mi.isPtr_str, Mi.isPtr_list, Mi.isPtr_tup, Mi.isPtr_d0, Mi.fAdd_i, Mi.fAdd_l, Mi.fAdd_t, Mi.fSub_i, Mi.fMul_i, Mi.fMul_l, Mi.fMod_i, Mi.fDiv_i, Mi.fPow_i, Mi.fCmp_i, Mi.fEq_i, Mi.fEq_s, Mi.fNe_i, Mi.fNe_s, Mi.fIsN_n, Mi.fNotN_n, Mi.fIx_l, Mi.fIx_t, Mi.fNeg_i, Mi.fLen_l, Mi.fLen_t, Mi.fAbs_i, Mi.fInt_i, Mi.fInt_b, Mi.fMax2_i, Mi.fMin2_i, Mi.fGcd_i, Mi.items_l, Mi.items_t, Mi.sliced_l, Mi.sliced_t, List.map_cons, List.map_nil, List.length_cons, List.length_nil, List.nil_append, List.cons_append, List.replicate, List.replicate_succ, List.replicate_zero, List.zip_cons_cons, List.zip_nil_right, Int.cast_ofNat_Int, Nat.reduceAdd, Nat.reduceSub, Nat.zero_add, Nat.reduceLeDiff, Nat.reduceEqDiff, List.getElem?_cons_zero, List.getElem?_cons_succ, List.getElem?_nil, List.set_cons_zero, List.set_cons_succ, List.set_nil, ite_true, ite_false, if_true, if_false, Option.map_some, Option.map_none, Option.some.injEq, Bool.not_true, Bool.not_false, decide_eq_true_eq, decide_true, decide_false, Int.reduceLT, Int.reduceLE, Int.reduceEq, Int.reduceNeg, Int.reduceAdd, Int.reduceSub, Int.reduceMul, Int.reducePow, Int.reduceToNat, Int.reduceEq, ne_eq, not_true_eq_false, not_false_eq_true, true_and, and_true, false_and, and_false, reduceCtorEq, eq_self])
def rowsI (o : Addr) (xs : List PyData) : Cell := .ins o [(("rows" : Str), .tuple xs)]
theorem lk_rows {x : PyData} : List.lookup ("rows" : Str) [(("rows" : Str), x)] = some x := by rfl
theorem lk_none {x : PyData} {nm : Str} (h : (nm == ("rows" : Str)) = false := by decide) : (List.lookup nm [(("rows" : Str), x)]).isNone = true := by
  rw [List.lookup_cons, h]; rfl
theorem sq_of {y : PyData} (h : rulesB y = true) : ∃ xs, Sq y xs ∧ itemsB xs = true := by
  cases y with
  | list xs => exact ⟨xs, ⟨.inl rfl⟩, h⟩
  | tuple xs => exact ⟨xs, ⟨.inr rfl⟩, h⟩
  | _ => cases h
section
variable {φ : Sg} {K : Rt → Sg → Prop} {X : XC} {o : Addr} {y : PyData} {xs : List PyData} {KF : Fl → Sg → Prop}
theorem init_ok {x y : PyData} {r : Addr} (hr : φ r = some (.ins o [])) (h : Sees φ x y) (hb : Vb y) (k1 : rulesB y = true → ∀ xs, Sq y xs → itemsB xs = true → K (.d .none) (put φ r (rowsI o xs))) (k2 : rulesB y = false → X "InvalidRules" [("given", x)] φ) : Wp (m_Rules____init__ o [.d (ptrD r), .d x]) φ K X := by
  refine mdef_wp ?_
  fail "mi"
  refine are_rules_ok h hb ?_
  cases e : rulesB y with
  | false => fail "mi"; exact k2 e
  | true =>
    obtain ⟨xs, hq, hi⟩ := sq_of e
    fail "mi"
    rw [sees_seen h]
    have it : itemsOf y = some xs := by rcases hq.seq with rfl | rfl <;> rfl
    rw [it]
    fail "mi"
    rw [w_getI hr, if_pos ⟨rfl, (show 0 < 1000 by decide)⟩, W_put]
    refine ⟨(by rw [hr]; exact fun z => nomatch z), ?_⟩
    fail "mi"
    exact k1 e xs hq hi
theorem make_ok {x y : PyData} {Q : PyData → Sg → Prop} (h : Sees φ x y) (hb : Vb y)
    (k1 : rulesB y = true → ∀ r xs, φ r = none → Sq y xs → itemsB xs = true → Q (ptrD r) (put φ r (rowsI o xs))) (k2 : rulesB y = false → ∀ φ', Ext φ φ' → X "InvalidRules" [("given", x)] φ') : Wp (M.new (Cell.ins o []) fun p => (m_Rules____init__ o [AV.d (ptrD p), AV.d x]).bind fun z => match z with
        | Rt.d PyData.none => M.ret (ptrD p)
        | _ => M.bad) φ Q X := by
  rw [W_new]
  intro r hr
  fail "mi"
  refine init_ok put_same (h.ext (ext_put hr)) hb (fun e xs hq hi => ?_) (fun e => k2 e _ (ext_put hr))
  fail "mi"
  rw [put_put]
  exact k1 e r xs hr hq hi
noncomputable def AH (o_Rules : Addr) : List (String × Nat × S) := [("InvalidRules", 5, (sSeq (sIf (tV (xIsiO [o_Rules] isLst (xV 3))) (sApp 3 (xC (.str "more"))) sNext)
  (sRet (xAnd (xNot (xV 1)) (x2 fEq (xReprE (xBy 5 "given")) (xReprE (xV 3)))))))]
noncomputable def AE (o_Rules : Addr) : S := (sSeq (sIf (tV (xIsiO [o_Rules] isLst (xV 3))) (sApp 3 (xTup (aC (xC (.int 1)) (aC (xC (.int 1)) aNil)))) sNext)
  (sRet (xAnd (xV 1) (x2 fEq (xReprE (xFld o_Rules "rows" (xV 4))) (xReprE (xTuple (xV 0)))))))
theorem asked_eq {o_Rules : Addr} : m__law_asked_right o_Rules = mDef 6 3 ((sSeq (sAsg (.n 3) (xIf (tV (xIsiO [o_Rules] isLst (xV 0))) (xNew (fList (xV 0))) (xV 0)))
  (sSeq (sTry Ls (sAsg (.n 4) (xIf (tV (x2 fEq (xV 2) (xC (.int 0)))) (xMake o_Rules (m_Rules____init__ o_Rules) (aC (xV 3) aNil)) (xMakeK o_Rules 1 [0] (m_Rules____init__ o_Rules) (aC (xV 3) aNil)))) (AH o_Rules))
  (AE o_Rules)))) := rfl
/-- what is handed in: the value, or a new list like it -/
inductive Hd (φ φ1 : Sg) (v : PyData) : PyData → Prop
  | d : isLst v = false → φ1 = φ → Hd φ φ1 v v
  | p {q : Addr} {xs : List PyData} : v = .list xs → φ q = none → φ1 = put φ q (.lst xs) → Hd φ φ1 v (ptrD q)
theorem Hd.sees {φ1 : Sg} {v u : PyData} (h : Hd φ φ1 v u) (hf : flat v = true) : Sees φ1 u v := by
  cases h with
  | d _ e => exact .d hf
  | p e1 e2 e3 => subst e1; rw [e3]; exact .p put_same
theorem Hd.ext {φ1 : Sg} {v u : PyData} (h : Hd φ φ1 v u) : Ext φ φ1 := by
  cases h with
  | d _ e => rw [e]; exact Ext.refl _
  | p e1 e2 e3 => rw [e3]; exact ext_put e2
theorem Hd.new {φ1 : Sg} {v u : PyData} {q : Addr} (h : Hd φ φ1 v u) (e : u = ptrD q) (hf : flat v = true) : φ q = none ∧ ∃ xs, v = .list xs ∧ φ1 q = some (.lst xs) := by
  cases h with
  | d _ _ => rw [e] at hf; cases hf
  | p e1 e2 e3 => have := ptr_inj e; subst this; exact ⟨e2, _, e1, by rw [e3]; exact put_same⟩
theorem deepE_flat {x : PyData} (h : flat x = true) : deepE x = deep x := by
  unfold deepE
  rw [show ptrOf x = none from ptr_none (flat_ptr h)]
theorem deepE_lst {q : Addr} {ys : List PyData} (h : φ q = some (.lst ys)) {k : PyData → Sg → Prop} : Wp (deepE (ptrD q)) φ k X = Wp (deep (ptrD q)) φ k X := by
  unfold deepE
  rw [ptrOf_ptr]
  dsimp only
  rw [W_get h]
theorem deepE_opq {q : Addr} {es : List (PyData × PyData)} (h : φ q = some (.opq es)) (hf : flatL (es.map (·.1)) = true ∧ flatL (es.map (·.2)) = true ∧ PyData.showableAll (es.map (·.1)) = true ∧ PyData.showableAll (es.map (·.2)) = true) {k : PyData → Sg → Prop} (hk : k (.dict es) φ) : Wp (deepE (ptrD q)) φ k X := by
  unfold deepE
  rw [ptrOf_ptr]
  dsimp only
  rw [W_get h]
  dsimp only
  rw [if_pos hf, W_ret]
  exact hk
theorem w_snd {k : PyData → Sg → Prop} {xs : List PyData} {q : Addr} {m n : Nat} (hq : φ q = some (.lst (xs ++ [.str "more"]))) (h : Sh (.list xs) (m + 1) n) (h1 : m ≤ 40) (h2 : n ≤ 20000) (hk : k (.str (PyData.list (xs ++ [.str "more"])).shown) φ) : Wp (deep (ptrD q)) φ (fun a φ1 => Wp (shows a) φ1 k X) X := by
  have hs : Sh (.list (xs ++ [.str "more"])) (m + 1) (n + (20 + 1)) := sh_snoc h ((sh_str (m := 20) (by decide +kernel) (by decide +kernel)).mono (Nat.zero_le _) (Nat.le_refl _))
  exact w_reprT (dt_ptr hq (by have := hs.fl; unfold flat at this; exact this)) (hs.mono (by omega) (by omega)) hk
end
end Mi.K18

/-! K18h -/
set_option Elab.async false
set_option linter.all false
set_option maxRecDepth 100000
set_option maxHeartbeats 1000000
/-! ## values are asked -/
namespace Mi.K18
open PySem L2 Eg Mi
local macro_rules | `(tactic| fail "mi") => `(tactic| try simp (config := { decide := false, zeta := true, implicitDefEqProofs := false }) only [Mi.sSeq, Mi.sIf, Mi.sRet, Mi.sRetF, Mi.sRetN, Mi.sRetV, Mi.sNext, Mi.sAsg, Mi.sAsgF, Mi.sAsgC, Mi.sAsgC0, Mi.sDrop, Mi.sRaise, Mi.sFrz, Mi.sApp, Mi.sAppE, Mi.sSet, Mi.sPar, Mi.setAllS, Mi.pNil, Mi.pD, Mi.pF, Mi.setT_n, Mi.setAt, Mi.xC, Mi.xV, Mi.x1, Mi.x2, Mi.xIf, Mi.xAnd, Mi.xOr, Mi.xNot, Mi.tV, Mi.tAn, Mi.tOrr, Mi.tNo, Mi.tTrue, Mi.aNil, Mi.aC, Mi.aScr, Mi.aKw, Eg.swap2, Mi.xTup, Mi.xCall, Mi.xCall0, Mi.ofF, Mi.fLst, Mi.fList, Mi.iEnumM, Mi.fCat, Mi.fRep, Mi.xFld, Mi.xMeth, Mi.xMeth0, Mi.xMethK, Mi.xMake, Mi.sFldS, Mi.iLstM, Mi.iZipM, Mi.iEnumAM, Mi.xBy2, Mi.fRev, Mi.fLcD, Mi.sForD, Mi.sRaise0, Mi.sTry2, Mi.sAugI, Mi.sSetSl, Mi.fSl, Mi.x1D, Mi.x2d, Mi.fLcE, Mi.xReprN, Mi.iRevM, Mi.iRng3M, Mi.iRng2M, Mi.fLrg1, Mi.fCatV, Mi.sShr, Mi.sExt, Mi.sTryU, Mi.uGo, Mi.sSetSlP, Mi.xSlD, Mi.fLcZ, Mi.fSortSet, Mi.fIn, Mi.sTryM, Mi.mGo, Mi.xMakeK, Mi.fCall, Mi.fCall0, Mi.sSetSlE, Mi.iStrM, Mi.xJoin, Mi.unF, Mi.xIxD, Mi.keyOf, Mi.sSetD, Mi.xDc, Mi.xIdx, Mi.x2o, Mi.fSortSetN, Mi.xNewD, Mi.sTabF0, Mi.sTabF, Mi.tabAt, Mi.fBits, Mi.fLcX, Mi.fListZ, Mi.xIsiO, Mi.xIsiC, Mi.isL_dat, Mi.isL_ins, Mi.isC_dat, Mi.lo_int, Mi.lo_bool, Mi.lo_none, Mi.lo_str, Mi.lo_list, Mi.lo_tup, Mi.lo_d0, Mi.key_i, Mi.key_s, Mi.xInR, Mi.xIxR, Mi.xGet1, Mi.xGet2, Mi.xPop1, Mi.xPop2, Mi.xSetd, Mi.sDelD, Mi.sExtE, Mi.fSort, Mi.xSlS, Mi.fMulS_s, Mi.fIxS_s, Mi.fAdd_s, Mi.fInS_s, Mi.xSlD, Mi.iStrM, Mi.signs_s, Mi.setT_l2, Mi.setT_l3, Mi.setT_t2, Mi.setT_t3, Mi.xDictE, Mi.xReprE, Mi.sExtU, Mi.xTupD, Mi.xDictN, Mi.fMeth, Mi.fMeth0, Mi.fMethK, Mi.fIf, Mi.bn_tt, Mi.bn_tf, Mi.bn_ft, Mi.bn_ff, Option.getD_some, Option.getD_none, Option.isSome_some, Option.isSome_none, String.reduceEq, Mi.xNew, Mi.xIsi, Mi.xLen, Mi.xLenV, Mi.xIx, Mi.xIxV, Mi.xSl, Mi.xSlV, Mi.oNo, Mi.oAt, Mi.xTuple, Mi.xChain, Mi.xBy, Mi.xRepr, Mi.unF, Mi.fLc, Mi.wipeD, Mi.sTry, Mi.hGo, Mi.iRng1M, Mi.iRng2M, Mi.M.ret_bind, Mi.M.exc_bind, Mi.M.bad_bind, Mi.e_some, Mi.e_none, Mi.e_cret, Mi.e_cexc, Mi.e_cbad, Mi.e_nret, Mi.e_nexc, Mi.e_nbad, Mi.e_asB, Mi.e_true, Mi.e_false, Mi.W_ite, Mi.W_ret, Mi.W_exc, Mi.W_bad, Mi.W_bind, Mi.W_nox, Mi.W_catch, Mi.W_getLp, Mi.W_put, Mi.toRt_nx, Mi.toRt_rt, Mi.toRt_rf, Mi.toRt_xx, Mi.dat_nil, Mi.dat_cons, Mi.short, Mi.rdat_d, Mi.rdat_f, Mi.sd_d, Mi.sd_s, Mi.sn_int, Mi.sn_bool, Mi.sn_none, Mi.sn_str, Mi.sn_list, Mi.sn_tup, Mi.sn_d0, Mi.e_seenP, Mi.ptrOf_ptr, Mi.p_bool, Mi.p_int, Mi.p_none, Mi.p_str, Mi.p_list, Mi.p_tuple, Mi.sFor, Mi.iSeqM, Mi.ixN_0, Mi.ixN_1, Mi.ixN_2, Mi.ixN_3, Mi.ixN_4, Mi.ixN_5, Mi.atI_0, Mi.atI_1, Mi.atI_2, Mi.atI_3, Mi.atI_4, Mi.atI_5, Mi.isInt_int, Mi.isInt_bool, Mi.isInt_none, Mi.isInt_str, Mi.isInt_list, Mi.isInt_tup, Mi.isInt_dct, Mi.isBool_int, Mi.isBool_bool, Mi.isBool_none, Mi.isBool_str, Mi.isBool_list, Mi.isBool_tup, Mi.isBool_dct, Mi.isStr_int, Mi.isStr_bool, Mi.isStr_none, Mi.isStr_str, Mi.isStr_list, Mi.isStr_tup, Mi.isStr_dct, Mi.isLst_int, Mi.isLst_bool, Mi.isLst_none, Mi.isLst_str, Mi.isLst_list, Mi.isLst_tup, Mi.isLst_dct, Mi.isTup_int, Mi.isTup_bool, Mi.isTup_none, Mi.isTup_str, Mi.isTup_list, Mi.isTup_tup, Mi.isTup_dct, Mi.isDct_int, Mi.isDct_bool, Mi.isDct_none, Mi.isDct_str, Mi.isDct_list, Mi.isDct_tup, Mi.isDct_dct, Mi.isNone_int, Mi.isNone_bool, Mi.isNone_none, Mi.isNone_str, Mi.isNone_list, Mi.isNone_tup, Mi.isNone_dct, Mi.isPtr_int, Mi.isPtr_bool, Mi.isPtr_none, Mi.isPtr_str, Mi.isPtr_list, Mi.isPtr_tup, Mi.isPtr_d0, Mi.fAdd_i, Mi.fAdd_l, Mi.fAdd_t, Mi.fSub_i, Mi.fMul_i, Mi.fMul_l, Mi.fMod_i, Mi.fDiv_i, Mi.fPow_i, Mi.fCmp_i, Mi.fEq_i, Mi.fEq_s, Mi.fNe_i, Mi.fNe_s, Mi.fIsN_n, Mi.fNotN_n, Mi.fIx_l, Mi.fIx_t, Mi.fNeg_i, Mi.fLen_l, Mi.fLen_t, Mi.fAbs_i, Mi.fInt_i, Mi.fInt_b, Mi.fMax2_i, Mi.fMin2_i, Mi.fGcd_i, Mi.items_l, Mi.items_t, Mi.sliced_l, Mi.sliced_t, List.map_cons, List.map_nil, List.length_cons, List.length_nil, List.nil_append, List.cons_append, List.replicate, List.replicate_succ, List.replicate_zero, List.zip_cons_cons, List.zip_nil_right, Int.cast_ofNat_Int, Nat.reduceAdd, Nat.reduceSub, Nat.zero_add, Nat.reduceLeDiff, Nat.reduceEqDiff, List.getElem?_cons_zero, List.getElem?_cons_succ, List.getElem?_nil, List.set_cons_zero, List.set_cons_succ, List.set_nil, ite_true, ite_false, if_true, if_false, Option.map_some, Option.map_none, Option.some.injEq, Bool.not_true, Bool.not_false, decide_eq_true_eq, decide_true, decide_false, Int.reduceLT, Int.reduceLE, Int.reduceEq, Int.reduceNeg, Int.reduceAdd, Int.reduceSub, Int.reduceMul, Int.reducePow, Int.reduceToNat, Int.reduceEq, ne_eq, not_true_eq_false, not_false_eq_true, true_and, and_true, false_and, and_false, reduceCtorEq, eq_self])
section
variable {φ : Sg} {K : Rt → Sg → Prop} {X : XC} {o : Addr} {y : PyData} {xs : List PyData} {KF : Fl → Sg → Prop}
theorem ah_ok {φ1 φ2 : Sg} {v u : PyData} {w : Int} {a4 : SD} (hu : Hd φ φ1 v u) (e2 : Ext φ1 φ2) (fv : flat v = true) (bv : Vb v) (sv : Sh v 8 9000) (kk : ∀ φ', Ext φ φ' → KF (.rt (.bool true)) φ') :
    Wp (hGo "InvalidRules" [("given", u)] [.d v, .d (.bool false), .d (.int w), .d u, a4, .u] (AH o)) φ2 KF X := by
  have su := (hu.sees fv).ext e2
  unfold AH hGo
  rw [if_pos rfl]
  fail "mi"
  rw [look_sees su]
  fail "mi"
  cases eL : isLst v with
  | false =>
    have hd : u = v := by
      cases hu with
      | d _ _ => rfl
      | p e1 _ _ => rw [e1] at eL; cases eL
    subst hd
    fail "mi"
    rw [deepE_flat fv]
    refine w_repr (sv.mono (by decide) (by decide)) ?_
    refine w_repr (sv.mono (by decide) (by decide)) ?_
    fail "mi"
    exact kk _ (hu.ext.trans e2)
  | true =>
    cases hu with
    | d h _ => rw [eL] at h; cases h
    | @p q xs e1 h2 h3 =>
      subst e1
      have hq : φ2 q = some (.lst xs) := e2 q _ (by rw [h3]; exact put_same)
      fail "mi"
      have hl := (bv xs (.inl rfl)).1
      rw [W_getL hq]
      fail "mi"
      rw [W_getL hq, if_pos (by omega)]
      fail "mi"
      refine ⟨(by rw [hq]; exact fun z => nomatch z), ?_⟩
      have ex : Ext φ (put φ2 q (.lst (xs ++ [.str "more"]))) := fun x c hx => by
        have hne : x ≠ q := fun e => by rw [e, h2] at hx; cases hx
        rw [put_ne hne]
        exact e2 x c (by rw [h3, put_ne hne]; exact hx)
      rw [deepE_lst put_same]
      refine w_snd (m := 7) (n := 9000) put_same sv (by decide) (by decide) ?_
      fail "mi"
      rw [deepE_lst put_same]
      refine w_snd (m := 7) (n := 9000) put_same sv (by decide) (by decide) ?_
      fail "mi"
      exact kk _ ex
theorem ae_ok {φ1 φ2 : Sg} {v u : PyData} {w : Int} {a5 : SD} {r : Addr} {xs : List PyData} (hu : Hd φ φ1 v u) (hr : φ1 r = none) (e2 : φ2 = put φ1 r (rowsI o xs)) (hq : Sq v xs) (fv : flat v = true) (bv : Vb v) (sv : Sh v 8 9000) (kk : ∀ φ', Ext φ φ' → K (.d (.bool true)) φ') :
    Wp (AE o [.d v, .d (.bool true), .d (.int w), .d u, .d (ptrD r), a5]) φ2 (fun fl φ1 => Wp (toRt [] fl) φ1 K X) (fun _ _ _ => False) := by
  have ex12 : Ext φ1 φ2 := by rw [e2]; exact ext_put hr
  have hr2 : φ2 r = some (rowsI o xs) := by rw [e2]; exact put_same
  have su := (hu.sees fv).ext ex12
  have hl := (bv xs hq.seq).1
  have st : Sh (.tuple xs) 8 9000 := by
    rcases hq.seq with rfl | rfl
    · exact ⟨by have := sv.fl; unfold flat at this ⊢; exact this, by have := sv.sh; simp only [PyData.showable] at this ⊢; exact this, by have := sv.ls; simp only [PyData.leavesShort] at this ⊢; exact this, by have := sv.dp; simp only [PyData.depth] at this ⊢; exact this, by have := sv.bk; simp only [PyData.bulk] at this ⊢; exact this⟩
    · exact sv
  have it : itemsOf v = some xs := by rcases hq.seq with rfl | rfl <;> rfl
  have fin : ∀ φ3 : Sg, φ3 r = some (rowsI o xs) → Ext φ φ3 → Wp ((sRet (xAnd (xV 1) (x2 fEq (xReprE (xFld o "rows" (xV 4))) (xReprE (xTuple (xV 0)))))) [.d v, .d (.bool true), .d (.int w), .d u, .d (ptrD r), a5]) φ3 (fun fl φ1 => Wp (toRt [] fl) φ1 K X) (fun _ _ _ => False) := fun φ3 h3 e3 => by
    have h3' : φ3 r = some (.ins o [(("rows" : Str), .tuple xs)]) := h3
    fail "mi"
    rw [w_seeI h3', lk_rows]
    fail "mi"
    rw [deepE_flat st.fl]
    refine w_repr (st.mono (by decide) (by decide)) ?_
    rw [it]
    fail "mi"
    rw [deepE_flat st.fl]
    refine w_repr (st.mono (by decide) (by decide)) ?_
    fail "mi"
    exact kk φ3 e3
  unfold AE
  generalize (sRet (xAnd (xV 1) (x2 fEq (xReprE (xFld o "rows" (xV 4))) (xReprE (xTuple (xV 0)))))) = T at fin ⊢
  fail "mi"
  rw [look_sees su]
  fail "mi"
  cases hu with
  | d hL e1 =>
    rw [hL]
    fail "mi"
    exact fin φ2 hr2 (by rw [← e1]; exact ex12)
  | @p q ys e1 h2 h3 =>
    subst e1
    have hys : ys = xs := by rcases hq.seq with e | e <;> cases e; rfl
    subst hys
    have hqq : φ1 q = some (.lst ys) := by rw [h3]; exact put_same
    have hqr : q ≠ r := fun e => by rw [e, hr] at hqq; cases hqq
    have hq2 : φ2 q = some (.lst ys) := by rw [e2, put_ne hqr]; exact hqq
    fail "mi"
    rw [W_getL hq2]
    fail "mi"
    rw [W_getL hq2, if_pos (by omega)]
    fail "mi"
    refine ⟨(by rw [hq2]; exact fun z => nomatch z), ?_⟩
    refine fin _ (by rw [put_ne (Ne.symm hqr)]; exact hr2) fun x c hx => ?_
    have hne : x ≠ q := fun e => by rw [e, h2] at hx; cases hx
    rw [put_ne hne]
    exact ex12 x c (by rw [h3, put_ne hne]; exact hx)
theorem asked_ok {v : PyData} {w : Int} (fv : flat v = true) (bv : Vb v) (sv : Sh v 8 9000) (kk : ∀ φ', Ext φ φ' → K (.d (.bool true)) φ') : Wp (m__law_asked_right o [.d v, .d (.bool (rulesB v)), .d (.int w)]) φ K X := by
  rw [asked_eq]
  refine mdef_wp ?_
  have ah := fun (φ1 φ2 : Sg) (u : PyData) (a4 : SD) (KF : Fl → Sg → Prop) (X : XC) (hu : Hd φ φ1 v u) (e2 : Ext φ1 φ2) (kk : ∀ φ', Ext φ φ' → KF (.rt (.bool true)) φ') => ah_ok (o := o) (X := X) (w := w) (a4 := a4) (KF := KF) hu e2 fv bv sv kk
  have ae := fun (φ1 φ2 : Sg) (u : PyData) (a5 : SD) (r : Addr) (xs : List PyData) (hu : Hd φ φ1 v u) (hr : φ1 r = none) (e2 : φ2 = put φ1 r (rowsI o xs)) (hq : Sq v xs) => ae_ok (o := o) (K := K) (X := X) (w := w) (a5 := a5) hu hr e2 hq fv bv sv kk
  have go : ∀ (φ1 : Sg) (u : PyData), Hd φ φ1 v u → Wp ((sSeq (sTry Ls (sAsg (.n 4) (xIf (tV (x2 fEq (xV 2) (xC (.int 0)))) (xMake o (m_Rules____init__ o) (aC (xV 3) aNil)) (xMakeK o 1 [0] (m_Rules____init__ o) (aC (xV 3) aNil)))) (AH o)) (AE o)) [.d v, .d (.bool (rulesB v)), .d (.int w), .d u, .u, .u]) φ1 (fun fl φ1 => Wp (toRt [] fl) φ1 K X) (fun _ _ _ => False) := fun φ1 u hu => by
    have su := hu.sees fv
    generalize AE o = TE at ae ⊢
    generalize AH o = TH at ah ⊢
    have rv : ∀ {b : Bool}, rulesB v = b → ∀ {P : Bool → Prop}, P b → P (rulesB v) := fun e P p => by rw [e]; exact p
    fail "mi"
    by_cases hw : w = 0
    · rw [if_pos hw]
      refine make_ok su bv (fun e r xs hr hq hi => ?_) (fun e φ2 e2 => ?_)
      · rw [e]
        fail "mi"
        exact ae φ1 _ u _ r xs hu hr rfl hq
      · rw [e]
        rw [if_pos (show "InvalidRules" ∈ Ls by decide)]
        refine ah φ1 φ2 u _ _ _ hu e2 fun φ' ex => ?_
        fail "mi"
        exact kk φ' ex
    · rw [if_neg hw]
      refine make_ok su bv (fun e r xs hr hq hi => ?_) (fun e φ2 e2 => ?_)
      · rw [e]
        fail "mi"
        exact ae φ1 _ u _ r xs hu hr rfl hq
      · rw [e]
        rw [if_pos (show "InvalidRules" ∈ Ls by decide)]
        refine ah φ1 φ2 u _ _ _ hu e2 fun φ' ex => ?_
        fail "mi"
        exact kk φ' ex
  generalize (sSeq (sTry Ls (sAsg (.n 4) (xIf (tV (x2 fEq (xV 2) (xC (.int 0)))) (xMake o (m_Rules____init__ o) (aC (xV 3) aNil)) (xMakeK o 1 [0] (m_Rules____init__ o) (aC (xV 3) aNil)))) (AH o)) (AE o)) = T at go ⊢
  fail "mi"
  rw [look_sees (.d fv)]
  fail "mi"
  cases hL : isLst v with
  | false =>
    fail "mi"
    exact go φ v (.d hL rfl)
  | true =>
    cases v with
    | list xs =>
      fail "mi"
      rw [W_new]
      intro q hq
      fail "mi"
      exact go _ _ (.p rfl hq rfl)
    | _ => cases hL
end
end Mi.K18

/-! K18i -/
set_option Elab.async false
set_option linter.all false
set_option maxRecDepth 100000
set_option maxHeartbeats 1000000
/-! ## grains are asked -/
namespace Mi.K18
open PySem L2 Eg Mi
local macro_rules | `(tactic| fail "mi") => `(tactic| try simp (config := { decide := false, zeta := true, implicitDefEqProofs := false }) only [Mi.sSeq, Mi.sIf, Mi.sRet, Mi.sRetF, Mi.sRetN, Mi.sRetV, Mi.sNext, Mi.sAsg, Mi.sAsgF, Mi.sAsgC, Mi.sAsgC0, Mi.sDrop, Mi.sRaise, Mi.sFrz, Mi.sApp, Mi.sAppE, Mi.sSet, Mi.sPar, Mi.setAllS, Mi.pNil, Mi.pD, Mi.pF, Mi.setT_n, Mi.setAt, Mi.xC, Mi.xV, Mi.x1, Mi.x2, Mi.xIf, Mi.xAnd, Mi.xOr, Mi.xNot, Mi.tV, Mi.tAn, Mi.tOrr, Mi.tNo, Mi.tTrue, Mi.aNil, Mi.aC, Mi.aScr, Mi.aKw, Eg.swap2, Mi.xTup, Mi.xCall, Mi.xCall0, Mi.ofF, Mi.fLst, Mi.fList, Mi.iEnumM, Mi.fCat, Mi.fRep, Mi.xFld, Mi.xMeth, Mi.xMeth0, Mi.xMethK, Mi.xMake, Mi.sFldS, Mi.iLstM, Mi.iZipM, Mi.iEnumAM, Mi.xBy2, Mi.fRev, Mi.fLcD, Mi.sForD, Mi.sRaise0, Mi.sTry2, Mi.sAugI, Mi.sSetSl, Mi.fSl, Mi.x1D, Mi.x2d, Mi.fLcE, Mi.xReprN, Mi.iRevM, Mi.iRng3M, Mi.iRng2M, Mi.fLrg1, Mi.fCatV, Mi.sShr, Mi.sExt, Mi.sTryU, Mi.uGo, Mi.sSetSlP, Mi.xSlD, Mi.fLcZ, Mi.fSortSet, Mi.fIn, Mi.sTryM, Mi.mGo, Mi.xMakeK, Mi.fCall, Mi.fCall0, Mi.sSetSlE, Mi.iStrM, Mi.xJoin, Mi.unF, Mi.xIxD, Mi.keyOf, Mi.sSetD, Mi.xDc, Mi.xIdx, Mi.x2o, Mi.fSortSetN, Mi.xNewD, Mi.sTabF0, Mi.sTabF, Mi.tabAt, Mi.fBits, Mi.fLcX, Mi.fListZ, Mi.xIsiO, Mi.xIsiC, Mi.isL_dat, Mi.isL_ins, Mi.isC_dat, Mi.lo_int, Mi.lo_bool, Mi.lo_none, Mi.lo_str, Mi.lo_list, Mi.lo_tup, Mi.lo_d0, Mi.key_i, Mi.key_s, Mi.xInR, Mi.xIxR, Mi.xGet1, Mi.xGet2, Mi.xPop1, Mi.xPop2, Mi.xSetd, Mi.sDelD, Mi.sExtE, Mi.fSort, Mi.xSlS, Mi.fMulS_s, Mi.fIxS_s, Mi.fAdd_s, Mi.fInS_s, Mi.xSlD, Mi.iStrM, Mi.signs_s, Mi.setT_l2, Mi.setT_l3, Mi.setT_t2, Mi.setT_t3, Mi.sExtU, Mi.xTupD, Mi.xDictN, Mi.fMeth, Mi.fMeth0, Mi.fMethK, Mi.fIf, Mi.bn_tt, Mi.bn_tf, Mi.bn_ft, Mi.bn_ff, Option.getD_some, Option.getD_none, Option.isSome_some, Option.isSome_none, String.reduceEq, Mi.xNew, Mi.xIsi, Mi.xLen, Mi.xLenV, Mi.xIx, Mi.xIxV, Mi.xSl, Mi.xSlV, Mi.oNo, Mi.oAt, Mi.xTuple, Mi.xChain, Mi.xBy, Mi.xRepr, Mi.unF, Mi.fLc, Mi.wipeD, Mi.sTry, Mi.hGo, Mi.iRng1M, Mi.iRng2M, Mi.M.ret_bind, Mi.M.exc_bind, Mi.M.bad_bind, Mi.e_some, Mi.e_none, Mi.e_cret, Mi.e_cexc, Mi.e_cbad, Mi.e_nret, Mi.e_nexc, Mi.e_nbad, Mi.e_asB, Mi.e_true, Mi.e_false, Mi.W_ite, Mi.W_ret, Mi.W_exc, Mi.W_bad, Mi.W_bind, Mi.W_nox, Mi.W_catch, Mi.W_getLp, Mi.W_put, Mi.toRt_nx, Mi.toRt_rt, Mi.toRt_rf, Mi.toRt_xx, Mi.dat_nil, Mi.dat_cons, Mi.short, Mi.rdat_d, Mi.rdat_f, Mi.sd_d, Mi.sd_s, Mi.sn_int, Mi.sn_bool, Mi.sn_none, Mi.sn_str, Mi.sn_list, Mi.sn_tup, Mi.sn_d0, Mi.e_seenP, Mi.ptrOf_ptr, Mi.p_bool, Mi.p_int, Mi.p_none, Mi.p_str, Mi.p_list, Mi.p_tuple, Mi.sFor, Mi.iSeqM, Mi.ixN_0, Mi.ixN_1, Mi.ixN_2, Mi.ixN_3, Mi.ixN_4, Mi.ixN_5, Mi.atI_0, Mi.atI_1, Mi.atI_2, Mi.atI_3, Mi.atI_4, Mi.atI_5, Mi.isInt_int, Mi.isInt_bool, Mi.isInt_none, Mi.isInt_str, Mi.isInt_list, Mi.isInt_tup, Mi.isInt_dct, Mi.isBool_int, Mi.isBool_bool, Mi.isBool_none, Mi.isBool_str, Mi.isBool_list, Mi.isBool_tup, Mi.isBool_dct, Mi.isStr_int, Mi.isStr_bool, Mi.isStr_none, Mi.isStr_str, Mi.isStr_list, Mi.isStr_tup, Mi.isStr_dct, Mi.isLst_int, Mi.isLst_bool, Mi.isLst_none, Mi.isLst_str, Mi.isLst_list, Mi.isLst_tup, Mi.isLst_dct, Mi.isTup_int, Mi.isTup_bool, Mi.isTup_none, Mi.isTup_str, Mi.isTup_list, Mi.isTup_tup, Mi.isTup_dct, Mi.isDct_int, Mi.isDct_bool, Mi.isDct_none, Mi.isDct_str, Mi.isDct_list, Mi.isDct_tup, Mi.isDct_dct, Mi.isNone_int, Mi.isNone_bool, Mi.isNone_none, Mi.isNone_str, Mi.isNone_list, Mi.isNone_tup, Mi.isNone_dct, Mi.isPtr_int, Mi.isPtr_bool, Mi.isPtr_none, Mi.isPtr_str, Mi.isPtr_list, Mi.isPtr_tup, Mi.isPtr_d0, Mi.fAdd_i, Mi.fAdd_l, Mi.fAdd_t, Mi.fSub_i, Mi.fMul_i, Mi.fMul_l, Mi.fMod_i, Mi.fDiv_i, Mi.fPow_i, Mi.fCmp_i, Mi.fEq_i, Mi.fEq_s, Mi.fNe_i, Mi.fNe_s, Mi.fIsN_n, Mi.fNotN_n, Mi.fIx_l, Mi.fIx_t, Mi.fNeg_i, Mi.fLen_l, Mi.fLen_t, Mi.fAbs_i, Mi.fInt_i, Mi.fInt_b, Mi.fMax2_i, Mi.fMin2_i, Mi.fGcd_i, Mi.items_l, Mi.items_t, Mi.sliced_l, Mi.sliced_t, List.map_cons, List.map_nil, List.length_cons, List.length_nil, List.nil_append, List.cons_append, List.replicate, List.replicate_succ, List.replicate_zero, List.zip_cons_cons, List.zip_nil_right, Int.cast_ofNat_Int, Nat.reduceAdd, Nat.reduceSub, Nat.zero_add, Nat.reduceLeDiff, Nat.reduceEqDiff, List.getElem?_cons_zero, List.getElem?_cons_succ, List.getElem?_nil, List.set_cons_zero, List.set_cons_succ, List.set_nil, ite_true, ite_false, if_true, if_false, Option.map_some, Option.map_none, Option.some.injEq, Bool.not_true, Bool.not_false, decide_eq_true_eq, decide_true, decide_false, Int.reduceLT, Int.reduceLE, Int.reduceEq, Int.reduceNeg, Int.reduceAdd, Int.reduceSub, Int.reduceMul, Int.reducePow, Int.reduceToNat, Int.reduceEq, ne_eq, not_true_eq_false, not_false_eq_true, true_and, and_true, false_and, and_false, reduceCtorEq, eq_self])
def rowAt (R : Rows) (i : Int) : Int × Option Int := (R[i.toNat]?).getD (1, none)
def stIx (R : Rows) (i : Int) : Int := if (R.length : Int) - 1 < i + 1 then (R.length : Int) - 1 else i + 1
def stOf (R : Rows) (i : Int) : Int := (rowAt R (stIx R i)).1
def gOk (R : Rows) : PyData → Bool
  | .int i => decide (0 ≤ i ∧ i < R.length)
  | _ => false
theorem gOk_some {R : Rows} {x : PyData} (h : gOk R x = true) : ∃ n, x = .int n ∧ 0 ≤ n ∧ n < R.length := by
  cases x <;> first | exact ⟨_, rfl, of_decide_eq_true h⟩ | cases h
theorem at_row {R : Rows} {i : Int} (h0 : 0 ≤ i) (h1 : i < R.length) : atI (rsD R) i = some (rwD (rowAt R i)) ∧ rowAt R i ∈ R := by
  obtain ⟨j, rfl⟩ := Int.eq_ofNat_of_zero_le h0
  have hj : j < R.length := by omega
  have e : R[((j : Nat) : Int).toNat]? = some R[j] := by rw [Int.toNat_natCast]; exact List.getElem?_eq_getElem hj
  unfold rowAt
  rw [e]
  refine ⟨atI_nat ?_, List.getElem_mem hj⟩
  unfold rsD
  rw [List.getElem?_map, List.getElem?_eq_getElem hj]
  rfl
theorem stIx_in {R : Rows} {i : Int} (h0 : 0 ≤ i) (h1 : i < R.length) : 0 ≤ stIx R i ∧ stIx R i < R.length := by
  unfold stIx
  split <;> omega
section
variable {φ : Sg} {K : Rt → Sg → Prop} {X : XC} {o r : Addr} {R : Rows} {KF : Fl → Sg → Prop}
abbrev Ru (o : Addr) (φ : Sg) (r : Addr) (R : Rows) : Prop := φ r = some (.ins o [(("rows" : Str), .tuple (rsD R))])
theorem ask_grain_ok {x y : PyData} (hr : Ru o φ r R) (h : Sees φ x y) (k1 : gOk R y = true → K (.d .none) φ) (k2 : gOk R y = false → X "NoGrain" [("grain", x)] φ) : Wp (m_Rules___ask_grain o [.d (ptrD r), .d x]) φ K X := by
  refine mdef_wp ?_
  fail "mi"
  refine is_count_ok h ?_
  cases e : isCt y with
  | false =>
    fail "mi"
    refine k2 ?_
    cases y <;> first | rfl | (
      have e' := of_decide_eq_false e
      exact decide_eq_false (fun z => e' z.1))
  | true =>
    obtain ⟨n, rfl, n0⟩ := isCt_some e
    rw [sees_int h] at k2 ⊢
    fail "mi"
    rw [w_seeI hr, lk_rows]
    fail "mi"
    rw [rsD_len]
    by_cases hn : (R.length : Int) ≤ n
    · rw [if_pos hn]; exact k2 (decide_eq_false (by omega))
    · rw [if_neg hn]; exact k1 (decide_eq_true (by omega))
theorem keep_ok {x y : PyData} (hr : Ru o φ r R) (h : Sees φ x y) (k1 : ∀ i, y = .int i → 0 ≤ i → i < R.length → K (.d (kD (rowAt R i).2)) φ) (k2 : gOk R y = false → X "NoGrain" [("grain", x)] φ) : Wp (m_Rules__keep o [.d (ptrD r), .d x]) φ K X := by
  refine mdef_wp ?_
  fail "mi"
  rw [w_seeI hr, if_pos lk_none]
  fail "mi"
  refine ask_grain_ok hr h (fun e => ?_) (fun e => ?_)
  · obtain ⟨i, rfl, i0, i1⟩ := gOk_some e
    rw [sees_int h]
    fail "mi"
    rw [w_seeI hr, lk_rows]
    fail "mi"
    rw [(at_row i0 i1).1]
    unfold rwD
    fail "mi"
    exact k1 i rfl i0 i1
  · fail "mi"; exact k2 e
theorem length_ok {x y : PyData} (hr : Ru o φ r R) (h : Sees φ x y) (k1 : ∀ i, y = .int i → 0 ≤ i → i < R.length → K (.d (.int (rowAt R i).1)) φ) (k2 : gOk R y = false → X "NoGrain" [("grain", x)] φ) : Wp (m_Rules__length o [.d (ptrD r), .d x]) φ K X := by
  refine mdef_wp ?_
  fail "mi"
  rw [w_seeI hr, if_pos lk_none]
  fail "mi"
  refine ask_grain_ok hr h (fun e => ?_) (fun e => ?_)
  · obtain ⟨i, rfl, i0, i1⟩ := gOk_some e
    rw [sees_int h]
    fail "mi"
    rw [w_seeI hr, lk_rows]
    fail "mi"
    rw [(at_row i0 i1).1]
    unfold rwD
    fail "mi"
    exact k1 i rfl i0 i1
  · fail "mi"; exact k2 e
theorem step_ok {x y : PyData} (hr : Ru o φ r R) (h : Sees φ x y) (k1 : ∀ i, y = .int i → 0 ≤ i → i < R.length → K (.d (.int (stOf R i))) φ) (k2 : gOk R y = false → X "NoGrain" [("grain", x)] φ) : Wp (m_Rules__step o [.d (ptrD r), .d x]) φ K X := by
  refine mdef_wp ?_
  fail "mi"
  rw [w_seeI hr, if_pos lk_none]
  fail "mi"
  refine ask_grain_ok hr h (fun e => ?_) (fun e => ?_)
  · obtain ⟨i, rfl, i0, i1⟩ := gOk_some e
    rw [sees_int h]
    fail "mi"
    rw [w_seeI hr, lk_rows]
    fail "mi"
    rw [w_seeI hr, lk_rows]
    fail "mi"
    rw [rsD_len]
    have q := stIx_in i0 i1
    rw [show (if (R.length : Int) - 1 < i + 1 then (R.length : Int) - 1 else i + 1) = stIx R i from rfl, (at_row q.1 q.2).1]
    unfold rwD
    fail "mi"
    exact k1 i rfl i0 i1
  · fail "mi"; exact k2 e
def dueG (R : Rows) (i w : Int) : PyData := if w = 0 then .int (rowAt R i).1 else if w = 1 then kD (rowAt R i).2 else .int (stOf R i)
noncomputable def GH (o_Rules : Addr) : List (String × Nat × S) := [("NoGrain", 5, (sSeq (sIf (tV (xIsiO [o_Rules] isLst (xV 4))) (sApp 4 (xC (.str "more"))) sNext)
  (sRetF (fLst (aC (xC (.str "none")) (aC (x2 fEq (xRepr (xBy 5 "grain")) (xRepr (xV 4))) aNil))))))]
noncomputable def GB (o_Rules : Addr) : S := (sSeq (sIf (tV (x2 fEq (xV 2) (xC (.int 0)))) (sRetF (fLst (aC (xC (.str "told")) (aC (xIf (tV (x2 fEq (xV 3) (xC (.int 0)))) (xMeth o_Rules "length" (m_Rules__length o_Rules) (xV 0) (aC (xV 4) aNil)) (xMethK o_Rules "length" 1 [0] (m_Rules__length o_Rules) (xV 0) (aC (xV 4) aNil))) aNil)))) sNext)
  (sSeq (sIf (tV (x2 fEq (xV 2) (xC (.int 1)))) (sRetF (fLst (aC (xC (.str "told")) (aC (xIf (tV (x2 fEq (xV 3) (xC (.int 0)))) (xMeth o_Rules "keep" (m_Rules__keep o_Rules) (xV 0) (aC (xV 4) aNil)) (xMethK o_Rules "keep" 1 [0] (m_Rules__keep o_Rules) (xV 0) (aC (xV 4) aNil))) aNil)))) sNext)
  (sRetF (fLst (aC (xC (.str "told")) (aC (xIf (tV (x2 fEq (xV 3) (xC (.int 0)))) (xMeth o_Rules "step" (m_Rules__step o_Rules) (xV 0) (aC (xV 4) aNil)) (xMethK o_Rules "step" 1 [0] (m_Rules__step o_Rules) (xV 0) (aC (xV 4) aNil))) aNil))))))
theorem of_eq {o_Rules : Addr} : m__law_of_grain o_Rules = mDef 6 4 ((sSeq (sAsg (.n 4) (xIf (tV (xIsiO [o_Rules] isLst (xV 1))) (xNew (fList (xV 1))) (xV 1)))
  (sTry Ls (GB o_Rules) (GH o_Rules)))) := rfl
theorem gh_ok {φ1 : Sg} {g u : PyData} {d w : Int} (hu : Hd φ φ1 g u) (fg : flat g = true) (sg : Sh g 8 9000) (lg : ∀ xs, g = .list xs → xs.length ≤ 1000) (kk : ∀ φ', Ext φ φ' → KF (.rf [.str "none", .bool true]) φ') :
    Wp (hGo "NoGrain" [("grain", u)] [.d (ptrD r), .d g, .d (.int d), .d (.int w), .d u, .u] (GH o)) φ1 KF X := by
  have su := hu.sees fg
  unfold GH hGo
  rw [if_pos rfl]
  fail "mi"
  rw [look_sees su]
  fail "mi"
  cases eL : isLst g with
  | false =>
    have hd : u = g := by
      cases hu with
      | d _ _ => rfl
      | p e1 _ _ => rw [e1] at eL; cases eL
    subst hd
    fail "mi"
    refine w_repr (sg.mono (by decide) (by decide)) ?_
    refine w_repr (sg.mono (by decide) (by decide)) ?_
    fail "mi"
    exact kk _ hu.ext
  | true =>
    cases hu with
    | d h _ => rw [eL] at h; cases h
    | @p q xs e1 h2 h3 =>
      subst e1
      have hq : φ1 q = some (.lst xs) := by rw [h3]; exact put_same
      fail "mi"
      rw [W_getL hq]
      fail "mi"
      rw [W_getL hq, if_pos (by have := lg xs rfl; omega)]
      fail "mi"
      refine ⟨(by rw [hq]; exact fun z => nomatch z), ?_⟩
      have ex : Ext φ (put φ1 q (.lst (xs ++ [.str "more"]))) := fun x c hx => by
        have hne : x ≠ q := fun e => by rw [e, h2] at hx; cases hx
        rw [put_ne hne, h3, put_ne hne]
        exact hx
      refine w_snd (m := 7) (n := 9000) put_same sg (by decide) (by decide) ?_
      fail "mi"
      refine w_snd (m := 7) (n := 9000) put_same sg (by decide) (by decide) ?_
      fail "mi"
      exact kk _ ex
theorem gb_ok {x g : PyData} {d w : Int} {a1 a5 : SD} (hr : Ru o φ r R) (h : Sees φ x g) (k1 : ∀ i, g = .int i → 0 ≤ i → i < R.length → KF (.rf [.str "told", dueG R i d]) φ) (k2 : gOk R g = false → KF (.xx "NoGrain" [("grain", x)] [.d (ptrD r), a1, .d (.int d), .d (.int w), .d x, a5]) φ) :
    Wp (GB o [.d (ptrD r), a1, .d (.int d), .d (.int w), .d x, a5]) φ KF X := by
  unfold GB
  fail "mi"
  by_cases d0 : d = 0
  · rw [if_pos d0]
    have e : ∀ i, dueG R i d = .int (rowAt R i).1 := fun i => if_pos d0
    by_cases hw : w = 0
    · rw [if_pos hw, w_seeI hr, if_pos lk_none]
      fail "mi"
      refine length_ok hr h (fun i e1 e2 e3 => ?_) (fun e => ?_)
      · fail "mi"; rw [← e]; exact k1 i e1 e2 e3
      · fail "mi"; exact k2 e
    · rw [if_neg hw, w_seeI hr, if_pos lk_none]
      fail "mi"
      refine length_ok hr h (fun i e1 e2 e3 => ?_) (fun e => ?_)
      · fail "mi"; rw [← e]; exact k1 i e1 e2 e3
      · fail "mi"; exact k2 e
  · rw [if_neg d0]
    by_cases d1 : d = 1
    · rw [if_pos d1]
      have e : ∀ i, dueG R i d = kD (rowAt R i).2 := fun i => by unfold dueG; rw [if_neg d0, if_pos d1]
      by_cases hw : w = 0
      · rw [if_pos hw, w_seeI hr, if_pos lk_none]
        fail "mi"
        refine keep_ok hr h (fun i e1 e2 e3 => ?_) (fun e => ?_)
        · fail "mi"; rw [← e]; exact k1 i e1 e2 e3
        · fail "mi"; exact k2 e
      · rw [if_neg hw, w_seeI hr, if_pos lk_none]
        fail "mi"
        refine keep_ok hr h (fun i e1 e2 e3 => ?_) (fun e => ?_)
        · fail "mi"; rw [← e]; exact k1 i e1 e2 e3
        · fail "mi"; exact k2 e
    · rw [if_neg d1]
      have e : ∀ i, dueG R i d = .int (stOf R i) := fun i => by unfold dueG; rw [if_neg d0, if_neg d1]
      by_cases hw : w = 0
      · rw [if_pos hw, w_seeI hr, if_pos lk_none]
        fail "mi"
        refine step_ok hr h (fun i e1 e2 e3 => ?_) (fun e => ?_)
        · fail "mi"; rw [← e]; exact k1 i e1 e2 e3
        · fail "mi"; exact k2 e
      · rw [if_neg hw, w_seeI hr, if_pos lk_none]
        fail "mi"
        refine step_ok hr h (fun i e1 e2 e3 => ?_) (fun e => ?_)
        · fail "mi"; rw [← e]; exact k1 i e1 e2 e3
        · fail "mi"; exact k2 e
def tellG (R : Rows) (g : PyData) (d : Int) : List PyData := match g with
  | .int i => if 0 ≤ i ∧ i < R.length then [.str "told", dueG R i d] else [.str "none", .bool true]
  | _ => [.str "none", .bool true]
theorem of_ok {g : PyData} {d w : Int} (hr : Ru o φ r R) (fg : flat g = true) (sg : Sh g 8 9000) (lg : ∀ xs, g = .list xs → xs.length ≤ 1000) (kk : ∀ φ', Ext φ φ' → K (.f (tellG R g d)) φ') :
    Wp (m__law_of_grain o [.d (ptrD r), .d g, .d (.int d), .d (.int w)]) φ K X := by
  rw [of_eq]
  refine mdef_wp ?_
  have e1 : ∀ i, g = .int i → 0 ≤ i → i < R.length → tellG R g d = [.str "told", dueG R i d] := fun i e a b => by subst e; exact if_pos ⟨a, b⟩
  have e2 : gOk R g = false → tellG R g d = [.str "none", .bool true] := fun e => by
    cases g <;> first | rfl | exact if_neg (of_decide_eq_false e)
  have gb := fun (φ : Sg) (x : PyData) (a1 a5 : SD) (KF : Fl → Sg → Prop) (X : XC) => gb_ok (o := o) (φ := φ) (r := r) (R := R) (x := x) (g := g) (d := d) (w := w) (a1 := a1) (a5 := a5) (KF := KF) (X := X)
  have go : ∀ (φ1 : Sg) (u : PyData), Hd φ φ1 g u → Wp (sTry Ls (GB o) (GH o) [.d (ptrD r), .d g, .d (.int d), .d (.int w), .d u, .u]) φ1 (fun fl φ1 => Wp (toRt [] fl) φ1 K X) (fun _ _ _ => False) := fun φ1 u hu => by
    have su := hu.sees fg
    have gh := fun (KF : Fl → Sg → Prop) (X : XC) => gh_ok (φ := φ) (o := o) (r := r) (X := X) (d := d) (w := w) (KF := KF) hu fg sg lg
    generalize GB o = TB at gb ⊢
    generalize GH o = TH at gh ⊢
    fail "mi"
    refine gb φ1 u _ _ _ _ (hu.ext r _ hr) su (fun i a b c => ?_) (fun e => ?_)
    · fail "mi"; rw [← e1 i a b c]; exact kk φ1 hu.ext
    · fail "mi"
      rw [if_pos (show "NoGrain" ∈ Ls by decide)]
      refine gh _ _ fun φ' ex => ?_
      fail "mi"
      rw [← e2 e]
      exact kk φ' ex
  generalize sTry Ls (GB o) (GH o) = T at go ⊢
  fail "mi"
  rw [look_sees (.d fg)]
  fail "mi"
  cases hL : isLst g with
  | false =>
    fail "mi"
    exact go φ g (.d hL rfl)
  | true =>
    cases g with
    | list xs =>
      fail "mi"
      rw [W_new]
      intro q hq
      fail "mi"
      exact go _ _ (.p rfl hq rfl)
    | _ => cases hL
end
end Mi.K18

/-! K18j -/
set_option Elab.async false
set_option linter.all false
set_option maxRecDepth 100000
set_option maxHeartbeats 1000000
/-! ## each grain's length, keep and step -/
namespace Mi.K18
open PySem L2 Eg Mi
local macro_rules | `(tactic| fail "mi") => `(tactic| try simp (config := { decide := false, zeta := true, implicitDefEqProofs := false }) only [Mi.sSeq, Mi.sIf, Mi.sRet, Mi.sRetF, Mi.sRetN, Mi.sRetV, Mi.sNext, Mi.sAsg, Mi.sAsgF, Mi.sAsgC, Mi.sAsgC0, Mi.sDrop, Mi.sRaise, Mi.sFrz, Mi.sApp, Mi.sAppE, Mi.sSet, Mi.sPar, Mi.setAllS, Mi.pNil, Mi.pD, Mi.pF, Mi.setT_n, Mi.setAt, Mi.xC, Mi.xV, Mi.x1, Mi.x2, Mi.xIf, Mi.xAnd, Mi.xOr, Mi.xNot, Mi.tV, Mi.tAn, Mi.tOrr, Mi.tNo, Mi.tTrue, Mi.aNil, Mi.aC, Mi.aScr, Mi.aKw, Eg.swap2, Mi.xTup, Mi.xCall, Mi.xCall0, Mi.ofF, Mi.fLst, Mi.fList, Mi.iEnumM, Mi.fCat, Mi.fRep, Mi.xFld, Mi.xMeth, Mi.xMeth0, Mi.xMethK, Mi.xMake, Mi.sFldS, Mi.iLstM, Mi.iZipM, Mi.iEnumAM, Mi.xBy2, Mi.fRev, Mi.fLcD, Mi.sForD, Mi.sRaise0, Mi.sTry2, Mi.sAugI, Mi.sSetSl, Mi.fSl, Mi.x1D, Mi.x2d, Mi.fLcE, Mi.xReprN, Mi.iRevM, Mi.iRng3M, Mi.iRng2M, Mi.fLrg1, Mi.fCatV, Mi.sShr, Mi.sExt, Mi.sTryU, Mi.uGo, Mi.sSetSlP, Mi.xSlD, Mi.fLcZ, Mi.fSortSet, Mi.fIn, Mi.sTryM, Mi.mGo, Mi.xMakeK, Mi.fCall, Mi.fCall0, Mi.sSetSlE, Mi.iStrM, Mi.xJoin, Mi.unF, Mi.xIxD, Mi.keyOf, Mi.sSetD, Mi.xDc, Mi.xIdx, Mi.x2o, Mi.fSortSetN, Mi.xNewD, Mi.sTabF0, Mi.sTabF, Mi.tabAt, Mi.fBits, Mi.fLcX, Mi.fListZ, Mi.xIsiO, Mi.xIsiC, Mi.isL_dat, Mi.isL_ins, Mi.isC_dat, Mi.lo_int, Mi.lo_bool, Mi.lo_none, Mi.lo_str, Mi.lo_list, Mi.lo_tup, Mi.lo_d0, Mi.key_i, Mi.key_s, Mi.xInR, Mi.xIxR, Mi.xGet1, Mi.xGet2, Mi.xPop1, Mi.xPop2, Mi.xSetd, Mi.sDelD, Mi.sExtE, Mi.fSort, Mi.xSlS, Mi.fMulS_s, Mi.fIxS_s, Mi.fAdd_s, Mi.fInS_s, Mi.xSlD, Mi.iStrM, Mi.signs_s, Mi.setT_l2, Mi.setT_l3, Mi.setT_t2, Mi.setT_t3, Mi.sExtU, Mi.xTupD, Mi.xDictN, Mi.fMeth, Mi.fMeth0, Mi.fMethK, Mi.fIf, Mi.bn_tt, Mi.bn_tf, Mi.bn_ft, Mi.bn_ff, Option.getD_some, Option.getD_none, Option.isSome_some, Option.isSome_none, String.reduceEq, Mi.xNew, Mi.xIsi, Mi.xLen, Mi.xLenV, Mi.xIx, Mi.xIxV, Mi.xSl, Mi.xSlV, Mi.oNo, Mi.oAt, Mi.xTuple, Mi.xChain, Mi.xBy, Mi.xRepr, Mi.unF, Mi.fLc, Mi.wipeD, Mi.sTry, Mi.hGo, Mi.iRng1M, Mi.iRng2M, Mi.M.ret_bind, Mi.M.exc_bind, Mi.M.bad_bind, Mi.e_some, Mi.e_none, Mi.e_cret, Mi.e_cexc, Mi.e_cbad, Mi.e_nret, Mi.e_nexc, Mi.e_nbad, Mi.e_asB, Mi.e_true, Mi.e_false, Mi.W_ite, Mi.W_ret, Mi.W_exc, Mi.W_bad, Mi.W_bind, Mi.W_nox, Mi.W_catch, Mi.W_getLp, Mi.W_put, Mi.toRt_nx, Mi.toRt_rt, Mi.toRt_rf, Mi.toRt_xx, Mi.dat_nil, Mi.dat_cons, Mi.short, Mi.rdat_d, Mi.rdat_f, Mi.sd_d, Mi.sd_s, Mi.sn_int, Mi.sn_bool, Mi.sn_none, Mi.sn_str, Mi.sn_list, Mi.sn_tup, Mi.sn_d0, Mi.e_seenP, Mi.ptrOf_ptr, Mi.p_bool, Mi.p_int, Mi.p_none, Mi.p_str, Mi.p_list, Mi.p_tuple, Mi.sFor, Mi.iSeqM, Mi.ixN_0, Mi.ixN_1, Mi.ixN_2, Mi.ixN_3, Mi.ixN_4, Mi.ixN_5, Mi.atI_0, Mi.atI_1, Mi.atI_2, Mi.atI_3, Mi.atI_4, Mi.atI_5, Mi.isInt_int, Mi.isInt_bool, Mi.isInt_none, Mi.isInt_str, Mi.isInt_list, Mi.isInt_tup, Mi.isInt_dct, Mi.isBool_int, Mi.isBool_bool, Mi.isBool_none, Mi.isBool_str, Mi.isBool_list, Mi.isBool_tup, Mi.isBool_dct, Mi.isStr_int, Mi.isStr_bool, Mi.isStr_none, Mi.isStr_str, Mi.isStr_list, Mi.isStr_tup, Mi.isStr_dct, Mi.isLst_int, Mi.isLst_bool, Mi.isLst_none, Mi.isLst_str, Mi.isLst_list, Mi.isLst_tup, Mi.isLst_dct, Mi.isTup_int, Mi.isTup_bool, Mi.isTup_none, Mi.isTup_str, Mi.isTup_list, Mi.isTup_tup, Mi.isTup_dct, Mi.isDct_int, Mi.isDct_bool, Mi.isDct_none, Mi.isDct_str, Mi.isDct_list, Mi.isDct_tup, Mi.isDct_dct, Mi.isNone_int, Mi.isNone_bool, Mi.isNone_none, Mi.isNone_str, Mi.isNone_list, Mi.isNone_tup, Mi.isNone_dct, Mi.isPtr_int, Mi.isPtr_bool, Mi.isPtr_none, Mi.isPtr_str, Mi.isPtr_list, Mi.isPtr_tup, Mi.isPtr_d0, Mi.fAdd_i, Mi.fAdd_l, Mi.fAdd_t, Mi.fSub_i, Mi.fMul_i, Mi.fMul_l, Mi.fMod_i, Mi.fDiv_i, Mi.fPow_i, Mi.fCmp_i, Mi.fEq_i, Mi.fEq_s, Mi.fNe_i, Mi.fNe_s, Mi.fIsN_n, Mi.fNotN_n, Mi.fIx_l, Mi.fIx_t, Mi.fNeg_i, Mi.fLen_l, Mi.fLen_t, Mi.fAbs_i, Mi.fInt_i, Mi.fInt_b, Mi.fMax2_i, Mi.fMin2_i, Mi.fGcd_i, Mi.items_l, Mi.items_t, Mi.sliced_l, Mi.sliced_t, List.map_cons, List.map_nil, List.length_cons, List.length_nil, List.nil_append, List.cons_append, List.replicate, List.replicate_succ, List.replicate_zero, List.zip_cons_cons, List.zip_nil_right, Int.cast_ofNat_Int, Nat.reduceAdd, Nat.reduceSub, Nat.zero_add, Nat.reduceLeDiff, Nat.reduceEqDiff, List.getElem?_cons_zero, List.getElem?_cons_succ, List.getElem?_nil, List.set_cons_zero, List.set_cons_succ, List.set_nil, ite_true, ite_false, if_true, if_false, Option.map_some, Option.map_none, Option.some.injEq, Bool.not_true, Bool.not_false, decide_eq_true_eq, decide_true, decide_false, Int.reduceLT, Int.reduceLE, Int.reduceEq, Int.reduceNeg, Int.reduceAdd, Int.reduceSub, Int.reduceMul, Int.reducePow, Int.reduceToNat, Int.reduceEq, ne_eq, not_true_eq_false, not_false_eq_true, true_and, and_true, false_and, and_false, reduceCtorEq, eq_self])
theorem bigI {n : Int} {k m : Nat} (h : n.natAbs < 2 ^ 60) : Sh (.int n) k m := sh_int (Nat.lt_of_lt_of_le h (Nat.pow_le_pow_right (by decide) (by decide)))
theorem sh_kD {k : Option Int} {a b : Nat} (h : ∀ n, k = some n → n.natAbs < 2 ^ 60) : Sh (kD k) a b := by
  cases k with
  | none => exact sh_none
  | some n => exact bigI (h n rfl)
theorem Sm.sh {R : Rows} (h : Sm R) (hl : R.length ≤ 20) {k : Nat} : Sh (.list (rsD R)) (k + 2) 60 := sh_list (m := 2) (n := 20) (fun x hx => by
  obtain ⟨r, hr, rfl⟩ := List.mem_map.mp hx
  obtain ⟨a, b⟩ := h r hr
  exact sh_pair (m := 0) (bigI (Nat.lt_of_lt_of_le a (by decide))) (sh_kD fun n e => Nat.lt_of_lt_of_le (b n e) (by decide))) (by rw [rsD_len]; exact hl)
theorem sh_tup {xs : List PyData} {k m : Nat} (h : Sh (.list xs) k m) : Sh (.tuple xs) k m :=
  ⟨by have := h.fl; unfold flat at this ⊢; exact this, by have := h.sh; simp only [PyData.showable] at this ⊢; exact this, by have := h.ls; simp only [PyData.leavesShort] at this ⊢; exact this, by have := h.dp; simp only [PyData.depth] at this ⊢; exact this, by have := h.bk; simp only [PyData.bulk] at this ⊢; exact this⟩
section
variable {φ : Sg} {K : Rt → Sg → Prop} {X : XC} {o r : Addr} {R : Rows} {KF : Fl → Sg → Prop}
theorem dueG_sh (h : Sm R) {i d : Int} (i0 : 0 ≤ i) (i1 : i < R.length) {k m : Nat} : Sh (dueG R i d) k m := by
  have a := h _ (at_row i0 i1).2
  have q := stIx_in i0 i1
  have b := h _ (at_row q.1 q.2).2
  unfold dueG
  split
  · exact bigI (Nat.lt_of_lt_of_le a.1 (by decide))
  · split
    · exact sh_kD fun n e => Nat.lt_of_lt_of_le (a.2 n e) (by decide)
    · exact bigI (Nat.lt_of_lt_of_le b.1 (by decide))
theorem sh_none_told {k : Nat} : Sh (.list [.str "none", .bool true]) (k + 1) 42 := sh_two (m := 20) (sh_str (by decide +kernel) (by decide +kernel)) sh_bool
theorem sh_told_due (h : Sm R) {i d : Int} (i0 : 0 ≤ i) (i1 : i < R.length) {k : Nat} : Sh (.list [.str "told", dueG R i d]) (k + 1) 42 := sh_two (m := 20) (sh_told (Nat.le_refl _)) (dueG_sh h i0 i1)
noncomputable def GI (o_Rules : Addr) : S := (sFor (iRng1M (aC (xC (.int 3)) aNil)) (.n 7) (sIf (tV (x2 fNe (xRepr (xCall0 (m__law_of_grain o_Rules) (aC (xV 0) (aC (xV 4) (aC (xV 7) (aC (xV 2) aNil)))))) (xRepr (ofF (fLst (aC (xC (.str "told")) (aC (xIx (xV 6) (xV 7)) aNil))))))) (sRet (xC (.bool false))) sNext))
noncomputable def GJ (o_Rules : Addr) : S := (sFor (iRng1M (aC (xC (.int 3)) aNil)) (.n 7) (sIf (tV (x2 fNe (xRepr (xCall0 (m__law_of_grain o_Rules) (aC (xV 0) (aC (xV 5) (aC (xV 7) (aC (xV 2) aNil)))))) (xRepr (ofF (fLst (aC (xC (.str "none")) (aC (xC (.bool true)) aNil))))))) (sRet (xC (.bool false))) sNext))
theorem grains_eq {o_Rules : Addr} : m__law_grains_right o_Rules = mDef 8 3 ((sSeq (sAsg (.n 3) (xLen (xV 1)))
  (sSeq (sIf (tOrr (tV (x2 fNe (xRepr (xLenO [o_Rules] [(o_Rules, (m_Rules____len__ o_Rules))] (xV 0))) (xRepr (xV 3)))) (tV (x2 fNe (xRepr (xFld o_Rules "rows" (xV 0))) (xRepr (xTuple (xV 1)))))) (sRet (xC (.bool false))) sNext)
  (sSeq (sFor (iRng1M (aC (xV 3) aNil)) (.n 4) (sSeq (sAsg (.n 6) (ofF (fLst (aC (xIx (xIx (xV 1) (xV 4)) (xC (.int 0))) (aC (xIx (xIx (xV 1) (xV 4)) (xC (.int 1))) (aC (xIx (xIx (xV 1) (x2 fMin2 (x2 fAdd (xV 4) (xC (.int 1))) (x2 fSub (xV 3) (xC (.int 1))))) (xC (.int 0))) aNil))))))
  (GI o_Rules)))
  (sSeq (sFor (iSeqM (ofF (fLst (aC (xV 3) (aC (x2 fAdd (xV 3) (xC (.int 1))) (aC (x1 fNeg (xC (.int 1))) (aC (x1 fNeg (xV 3)) (aC (xC (.bool true)) (aC (xC (.bool false)) (aC (xC .none) (aC (xC (.str "0")) (aC (xC (.str "")) (aC (xTup (aC (xC (.int 0)) aNil)) (aC (ofF (fLst (aC (xC (.int 0)) aNil))) (aC (ofF (fLst aNil)) (aC (x2 fPow (xC (.int 10)) (xC (.int 12))) (aC (xIx (xFld o_Rules "rows" (xV 0)) (xC (.int 0))) aNil))))))))))))))))) (.n 5) (GJ o_Rules))
  (sRet (xC (.bool true)))))))) := rfl
theorem gi_ok {b1 a5 a7 : SD} {i w m : Int} (hr : Ru o φ r R) (h : Sm R) (hl : R.length ≤ 20) (i0 : 0 ≤ i) (i1 : i < R.length) (kk : ∀ φ' a, Ext φ φ' → KF (.nx [.d (ptrD r), b1, .d (.int w), .d (.int m), .d (.int i), a5, .d (.list [dueG R i 0, dueG R i 1, dueG R i 2]), a]) φ') :
    Wp (GI o [.d (ptrD r), b1, .d (.int w), .d (.int m), .d (.int i), a5, .d (.list [dueG R i 0, dueG R i 1, dueG R i 2]), a7]) φ KF X := by
  have of := fun (φ : Sg) (g : PyData) (d : Int) (K : Rt → Sg → Prop) (X : XC) (hr : Ru o φ r R) => of_ok (o := o) (φ := φ) (K := K) (X := X) (R := R) (r := r) (g := g) (d := d) (w := w) hr
  unfold GI
  generalize m__law_of_grain o = T at of ⊢
  fail "mi"
  refine for_wp (fun ds δ φ' => Ext φ φ' ∧ (∃ a, δ = [.d (ptrD r), b1, .d (.int w), .d (.int m), .d (.int i), a5, .d (.list [dueG R i 0, dueG R i 1, dueG R i 2]), a]) ∧ ∀ y, y ∈ ds → y = .int 0 ∨ y = .int 1 ∨ y = .int 2) (fun z ds δ φ' hI => ?_) (fun δ φ' hI => ?_) _ _ _ ⟨Ext.refl _, ⟨_, rfl⟩, fun y hy => ?_⟩
  · obtain ⟨ex, ⟨a, rfl⟩, hy⟩ := hI
    refine ⟨_, rfl, ?_⟩
    have hr' : Ru o φ' r R := ex r _ hr
    have tg : ∀ d, tellG R (.int i) d = [.str "told", dueG R i d] := fun d => if_pos ⟨i0, i1⟩
    rcases hy z List.mem_cons_self with rfl | rfl | rfl
    all_goals
      fail "mi"
      refine of φ' _ _ _ _ hr' rfl (bigI (by omega)) (fun _ e => nomatch e) fun φ2 e2 => ?_
      fail "mi"
      rw [tg]
      refine w_repr ((sh_told_due h i0 i1 (k := 0)).mono (by decide) (by decide)) ?_
      refine w_repr ((sh_told_due h i0 i1 (k := 0)).mono (by decide) (by decide)) ?_
      fail "mi"
      rw [turn_nx]
      exact ⟨ex.trans e2, ⟨_, rfl⟩, fun y h => hy y (List.mem_cons_of_mem _ h)⟩
  · obtain ⟨ex, ⟨a, rfl⟩, hy⟩ := hI
    exact kk φ' _ ex
  · have : y ∈ upto 3 := hy
    simp [upto, List.range, List.range.loop] at this
    rcases this with h | h | h
    · exact .inl h
    · exact .inr (.inl h)
    · exact .inr (.inr h)
theorem gj_ok {b1 a4 a6 a7 : SD} {g : PyData} {w m : Int} (hr : Ru o φ r R) (fg : flat g = true) (sg : Sh g 8 9000) (lg : ∀ xs, g = .list xs → xs.length ≤ 1000) (hg : ∀ d, tellG R g d = [.str "none", .bool true]) (kk : ∀ φ' a, Ext φ φ' → KF (.nx [.d (ptrD r), b1, .d (.int w), .d (.int m), a4, .d g, a6, a]) φ') :
    Wp (GJ o [.d (ptrD r), b1, .d (.int w), .d (.int m), a4, .d g, a6, a7]) φ KF X := by
  have of := fun (φ : Sg) (d : Int) (K : Rt → Sg → Prop) (X : XC) (hr : Ru o φ r R) => of_ok (o := o) (φ := φ) (K := K) (X := X) (R := R) (r := r) (g := g) (d := d) (w := w) hr fg sg lg
  unfold GJ
  generalize m__law_of_grain o = T at of ⊢
  fail "mi"
  refine for_wp (fun ds δ φ' => Ext φ φ' ∧ (∃ a, δ = [.d (ptrD r), b1, .d (.int w), .d (.int m), a4, .d g, a6, a]) ∧ ∀ y, y ∈ ds → ∃ n : Int, y = .int n) (fun z ds δ φ' hI => ?_) (fun δ φ' hI => ?_) _ _ _ ⟨Ext.refl _, ⟨_, rfl⟩, fun y hy => ?_⟩
  · obtain ⟨ex, ⟨a, rfl⟩, hy⟩ := hI
    refine ⟨_, rfl, ?_⟩
    have hr' : Ru o φ' r R := ex r _ hr
    obtain ⟨n, rfl⟩ := hy z List.mem_cons_self
    fail "mi"
    refine of φ' _ _ _ hr' fun φ2 e2 => ?_
    fail "mi"
    rw [hg]
    refine w_repr ((sh_none_told (k := 0)).mono (by decide) (by decide)) ?_
    refine w_repr ((sh_none_told (k := 0)).mono (by decide) (by decide)) ?_
    fail "mi"
    rw [turn_nx]
    exact ⟨ex.trans e2, ⟨_, rfl⟩, fun y h => hy y (List.mem_cons_of_mem _ h)⟩
  · obtain ⟨ex, ⟨a, rfl⟩, hy⟩ := hI
    exact kk φ' _ ex
  · obtain ⟨i, _, rfl⟩ := List.mem_map.mp hy
    exact ⟨_, rfl⟩
theorem grains_ok {w : Int} (hr : Ru o φ r R) (h : Sm R) (hn : 1 ≤ R.length) (hl : R.length ≤ 4) (kk : ∀ φ', Ext φ φ' → K (.d (.bool true)) φ') : Wp (m__law_grains_right o [.d (ptrD r), .d (.list (rsD R)), .d (.int w)]) φ K X := by
  rw [grains_eq]
  refine mdef_wp ?_
  have gi := fun (φ : Sg) (b1 a5 a7 : SD) (i m : Int) (KF : Fl → Sg → Prop) (X : XC) (hr : Ru o φ r R) => gi_ok (o := o) (φ := φ) (KF := KF) (X := X) (R := R) (r := r) (b1 := b1) (a5 := a5) (a7 := a7) (i := i) (w := w) (m := m) hr h (by omega)
  have gj := fun (φ : Sg) (b1 a4 a6 a7 : SD) (g : PyData) (m : Int) (KF : Fl → Sg → Prop) (X : XC) (hr : Ru o φ r R) => gj_ok (o := o) (φ := φ) (KF := KF) (X := X) (R := R) (r := r) (b1 := b1) (a4 := a4) (a6 := a6) (a7 := a7) (g := g) (w := w) (m := m) hr
  generalize GI o = T1 at gi ⊢
  generalize GJ o = T2 at gj ⊢
  have co : List.contains [o] o = true := by simp
  have st : Sh (.tuple (rsD R)) 50 30000 := (sh_tup (h.sh (by omega) (k := 0))).mono (by decide) (by decide)
  fail "mi"
  rw [rsD_len]
  unfold xLenO
  fail "mi"
  rw [look_ins hr co]
  have e : lkA o [(o, m_Rules____len__ o)] = some (m_Rules____len__ o) := by unfold lkA; rw [if_pos rfl]
  fail "mi"
  rw [e]
  fail "mi"
  refine mdef_wp ?_
  fail "mi"
  rw [w_seeI hr, lk_rows]
  fail "mi"
  rw [rsD_len, if_pos (by omega)]
  fail "mi"
  refine w_repr (bigI (by omega)) ?_
  refine w_repr (bigI (by omega)) ?_
  fail "mi"
  rw [w_seeI hr, lk_rows]
  fail "mi"
  refine w_repr st ?_
  refine w_repr st ?_
  fail "mi"
  rw [rng_if rfl (by omega)]
  fail "mi"
  refine for_wp (fun ds δ φ' => Ext φ φ' ∧ (∃ a4 a5 a6 a7, δ = [.d (ptrD r), .d (.list (rsD R)), .d (.int w), .d (.int R.length), a4, a5, a6, a7]) ∧ ∀ y, y ∈ ds → ∃ n : Int, y = .int n ∧ 0 ≤ n ∧ n < R.length) (fun z ds δ φ' hI => ?_) (fun δ φ' hI => ?_) _ _ _ ⟨Ext.refl _, ⟨_, _, _, _, rfl⟩, fun y hy => ?_⟩
  · obtain ⟨ex, ⟨a4, a5, a6, a7, rfl⟩, hy⟩ := hI
    refine ⟨_, rfl, ?_⟩
    have hr' : Ru o φ' r R := ex r _ hr
    obtain ⟨n, rfl, n0, n1⟩ := hy z List.mem_cons_self
    have q := stIx_in n0 n1
    fail "mi"
    rw [(at_row n0 n1).1, show (if (R.length : Int) - 1 < n + 1 then (R.length : Int) - 1 else n + 1) = stIx R n from rfl, (at_row q.1 q.2).1]
    unfold rwD
    fail "mi"
    refine gi φ' _ _ _ n _ _ _ hr' n0 n1 fun φ2 a e2 => ?_
    rw [turn_nx]
    exact ⟨ex.trans e2, ⟨_, _, _, _, rfl⟩, fun y h => hy y (List.mem_cons_of_mem _ h)⟩
  · obtain ⟨ex, ⟨a4, a5, a6, a7, rfl⟩, hy⟩ := hI
    have hr' : Ru o φ' r R := ex r _ hr
    have h0 := at_row (R := R) (i := 0) (by omega) (by omega)
    fail "mi"
    rw [if_pos (show Int.natAbs 10 < 2 ^ 64 by decide)]
    fail "mi"
    rw [w_seeI hr', lk_rows]
    fail "mi"
    rw [h0.1]
    fail "mi"
    refine for_wp (fun ds δ φ' => Ext φ φ' ∧ (∃ a5 a7, δ = [.d (ptrD r), .d (.list (rsD R)), .d (.int w), .d (.int R.length), a4, a5, a6, a7]) ∧ ∀ y, y ∈ ds → flat y = true ∧ Sh y 8 9000 ∧ (∀ xs, y = .list xs → xs.length ≤ 1000) ∧ ∀ d, tellG R y d = [.str "none", .bool true]) (fun z ds δ φ' hI => ?_) (fun δ φ' hI => ?_) _ _ _ ⟨ex, ⟨_, _, rfl⟩, fun y hy => ?_⟩
    · obtain ⟨ex, ⟨a5, a7, rfl⟩, hy⟩ := hI
      refine ⟨_, rfl, ?_⟩
      obtain ⟨y1, y2, y3, y4⟩ := hy z List.mem_cons_self
      refine gj φ' _ _ _ _ z _ _ _ (ex r _ hr) y1 y2 y3 y4 fun φ2 a e2 => ?_
      rw [turn_nx]
      exact ⟨ex.trans e2, ⟨_, _, rfl⟩, fun y h => hy y (List.mem_cons_of_mem _ h)⟩
    · obtain ⟨ex, ⟨a5, a7, rfl⟩, hy⟩ := hI
      fail "mi"
      exact kk φ' ex
    · have ti : ∀ (n d : Int), ¬ (0 ≤ n ∧ n < R.length) → tellG R (.int n) d = [.str "none", .bool true] := fun n d hn => if_neg hn
      have sr := h (rowAt R 0) h0.2
      simp only [List.mem_cons, List.not_mem_nil, or_false] at hy
      rcases hy with rfl | rfl | rfl | rfl | rfl | rfl | rfl | rfl | rfl | rfl | rfl | rfl | rfl | rfl
      · exact ⟨rfl, bigI (by omega), (fun _ e => nomatch e), fun d => ti _ d (by omega)⟩
      · exact ⟨rfl, bigI (by omega), (fun _ e => nomatch e), fun d => ti _ d (by omega)⟩
      · exact ⟨rfl, bigI (by decide), (fun _ e => nomatch e), fun d => ti _ d (by omega)⟩
      · exact ⟨rfl, bigI (by omega), (fun _ e => nomatch e), fun d => ti _ d (by omega)⟩
      · exact ⟨rfl, sh_bool, (fun _ e => nomatch e), fun d => rfl⟩
      · exact ⟨rfl, sh_bool, (fun _ e => nomatch e), fun d => rfl⟩
      · exact ⟨rfl, sh_none, (fun _ e => nomatch e), fun d => rfl⟩
      · exact ⟨rfl, sh_str (by decide +kernel) (by decide +kernel), (fun _ e => nomatch e), fun d => rfl⟩
      · exact ⟨rfl, sh_str (by decide +kernel) (by decide +kernel), (fun _ e => nomatch e), fun d => rfl⟩
      · exact ⟨rfl, (sh_tuple (k := 1) (m := 1) (n := 1) (fun x hx => by rw [List.mem_singleton.mp hx]; exact bigI (by decide)) (Nat.le_refl _)).mono (by decide) (by decide), (fun _ e => nomatch e), fun d => rfl⟩
      · exact ⟨rfl, (sh_list (k := 1) (m := 1) (n := 1) (fun x hx => by rw [List.mem_singleton.mp hx]; exact bigI (by decide)) (Nat.le_refl _)).mono (by decide) (by decide), (fun xs e => by cases e; decide), fun d => rfl⟩
      · exact ⟨rfl, (sh_list (k := 1) (m := 1) (n := 0) (xs := []) (fun x hx => absurd hx (List.not_mem_nil)) (Nat.le_refl _)).mono (by decide) (by decide), (fun xs e => by cases e; decide), fun d => rfl⟩
      · exact ⟨rfl, bigI (by decide), (fun _ e => nomatch e), fun d => ti _ d (by omega)⟩
      · have s2 : Sh (rwD (rowAt R 0)) 8 9000 := (sh_pair (m := 0) (k := 1) (bigI (Nat.lt_of_lt_of_le sr.1 (by decide))) (sh_kD fun n e => Nat.lt_of_lt_of_le (sr.2 n e) (by decide))).mono (by decide) (by decide)
        exact ⟨s2.fl, s2, (fun _ e => nomatch e), fun d => rfl⟩
  · obtain ⟨i, hi, rfl⟩ := List.mem_map.mp hy
    exact ⟨i, rfl, by omega, by have := List.mem_range.mp hi; omega⟩
end
end Mi.K18

/-! K18k -/
set_option Elab.async false
set_option linter.all false
set_option maxRecDepth 100000
set_option maxHeartbeats 1000000
/-! ## equal rules -/
namespace Mi.K18
open PySem L2 Eg Mi
local macro_rules | `(tactic| fail "mi") => `(tactic| try simp (config := { decide := false, zeta := true, implicitDefEqProofs := false }) only [Mi.sSeq, Mi.sIf, Mi.sRet, Mi.sRetF, Mi.sRetN, Mi.sRetV, Mi.sNext, Mi.sAsg, Mi.sAsgF, Mi.sAsgC, Mi.sAsgC0, Mi.sDrop, Mi.sRaise, Mi.sFrz, Mi.sApp, Mi.sAppE, Mi.sSet, Mi.sPar, Mi.setAllS, Mi.pNil, Mi.pD, Mi.pF, Mi.setT_n, Mi.setAt, Mi.xC, Mi.xV, Mi.x1, Mi.x2, Mi.xIf, Mi.xAnd, Mi.xOr, Mi.xNot, Mi.tV, Mi.tAn, Mi.tOrr, Mi.tNo, Mi.tTrue, Mi.aNil, Mi.aC, Mi.aScr, Mi.aKw, Eg.swap2, Mi.xTup, Mi.xCall, Mi.xCall0, Mi.ofF, Mi.fLst, Mi.fList, Mi.iEnumM, Mi.fCat, Mi.fRep, Mi.xFld, Mi.xMeth, Mi.xMeth0, Mi.xMethK, Mi.xMake, Mi.sFldS, Mi.iLstM, Mi.iZipM, Mi.iEnumAM, Mi.xBy2, Mi.fRev, Mi.fLcD, Mi.sForD, Mi.sRaise0, Mi.sTry2, Mi.sAugI, Mi.sSetSl, Mi.fSl, Mi.x1D, Mi.x2d, Mi.fLcE, Mi.xReprN, Mi.iRevM, Mi.iRng3M, Mi.iRng2M, Mi.fLrg1, Mi.fCatV, Mi.sShr, Mi.sExt, Mi.sTryU, Mi.uGo, Mi.sSetSlP, Mi.xSlD, Mi.fLcZ, Mi.fSortSet, Mi.fIn, Mi.sTryM, Mi.mGo, Mi.xMakeK, Mi.fCall, Mi.fCall0, Mi.sSetSlE, Mi.iStrM, Mi.xJoin, Mi.unF, Mi.xIxD, Mi.keyOf, Mi.sSetD, Mi.xDc, Mi.xIdx, Mi.x2o, Mi.fSortSetN, Mi.xNewD, Mi.sTabF0, Mi.sTabF, Mi.tabAt, Mi.fBits, Mi.fLcX, Mi.fListZ, Mi.xIsiO, Mi.xIsiC, Mi.isL_dat, Mi.isL_ins, Mi.isC_dat, Mi.lo_int, Mi.lo_bool, Mi.lo_none, Mi.lo_str, Mi.lo_list, Mi.lo_tup, Mi.lo_d0, Mi.key_i, Mi.key_s, Mi.xInR, Mi.xIxR, Mi.xGet1, Mi.xGet2, Mi.xPop1, Mi.xPop2, Mi.xSetd, Mi.sDelD, Mi.sExtE, Mi.fSort, Mi.xSlS, Mi.fMulS_s, Mi.fIxS_s, Mi.fAdd_s, Mi.fInS_s, Mi.xSlD, Mi.iStrM, Mi.signs_s, Mi.setT_l2, Mi.setT_l3, Mi.setT_t2, Mi.setT_t3, Mi.sExtU, Mi.xTupD, Mi.xDictN, Mi.fMeth, Mi.fMeth0, Mi.fMethK, Mi.fIf, Mi.bn_tt, Mi.bn_tf, Mi.bn_ft, Mi.bn_ff, Option.getD_some, Option.getD_none, Option.isSome_some, Option.isSome_none, String.reduceEq, Mi.xNew, Mi.xIsi, Mi.xLen, Mi.xLenV, Mi.xIx, Mi.xIxV, Mi.xSl, Mi.xSlV, Mi.oNo, Mi.oAt, Mi.xTuple, Mi.xChain, Mi.xBy, Mi.xRepr, Mi.unF, Mi.fLc, Mi.wipeD, Mi.sTry, Mi.hGo, Mi.iRng1M, Mi.iRng2M, Mi.M.ret_bind, Mi.M.exc_bind, Mi.M.bad_bind, Mi.e_some, Mi.e_none, Mi.e_cret, Mi.e_cexc, Mi.e_cbad, Mi.e_nret, Mi.e_nexc, Mi.e_nbad, Mi.e_asB, Mi.e_true, Mi.e_false, Mi.W_ite, Mi.W_ret, Mi.W_exc, Mi.W_bad, Mi.W_bind, Mi.W_nox, Mi.W_catch, Mi.W_getLp, Mi.W_put, Mi.toRt_nx, Mi.toRt_rt, Mi.toRt_rf, Mi.toRt_xx, Mi.dat_nil, Mi.dat_cons, Mi.short, Mi.rdat_d, Mi.rdat_f, Mi.sd_d, Mi.sd_s, Mi.sn_int, Mi.sn_bool, Mi.sn_none, Mi.sn_str, Mi.sn_list, Mi.sn_tup, Mi.sn_d0, Mi.e_seenP, Mi.ptrOf_ptr, Mi.p_bool, Mi.p_int, Mi.p_none, Mi.p_str, Mi.p_list, Mi.p_tuple, Mi.sFor, Mi.iSeqM, Mi.ixN_0, Mi.ixN_1, Mi.ixN_2, Mi.ixN_3, Mi.ixN_4, Mi.ixN_5, Mi.atI_0, Mi.atI_1, Mi.atI_2, Mi.atI_3, Mi.atI_4, Mi.atI_5, Mi.isInt_int, Mi.isInt_bool, Mi.isInt_none, Mi.isInt_str, Mi.isInt_list, Mi.isInt_tup, Mi.isInt_dct, Mi.isBool_int, Mi.isBool_bool, Mi.isBool_none, Mi.isBool_str, Mi.isBool_list, Mi.isBool_tup, Mi.isBool_dct, Mi.isStr_int, Mi.isStr_bool, Mi.isStr_none, Mi.isStr_str, Mi.isStr_list, Mi.isStr_tup, Mi.isStr_dct, Mi.isLst_int, Mi.isLst_bool, Mi.isLst_none, Mi.isLst_str, Mi.isLst_list, Mi.isLst_tup, Mi.isLst_dct, Mi.isTup_int, Mi.isTup_bool, Mi.isTup_none, Mi.isTup_str, Mi.isTup_list, Mi.isTup_tup, Mi.isTup_dct, Mi.isDct_int, Mi.isDct_bool, Mi.isDct_none, Mi.isDct_str, Mi.isDct_list, Mi.isDct_tup, Mi.isDct_dct, Mi.isNone_int, Mi.isNone_bool, Mi.isNone_none, Mi.isNone_str, Mi.isNone_list, Mi.isNone_tup, Mi.isNone_dct, Mi.isPtr_int, Mi.isPtr_bool, Mi.isPtr_none, Mi.isPtr_str, Mi.isPtr_list, Mi.isPtr_tup, Mi.isPtr_d0, Mi.fAdd_i, Mi.fAdd_l, Mi.fAdd_t, Mi.fSub_i, Mi.fMul_i, Mi.fMul_l, Mi.fMod_i, Mi.fDiv_i, Mi.fPow_i, Mi.fCmp_i, Mi.fEq_i, Mi.fEq_s, Mi.fNe_i, Mi.fNe_s, Mi.fIsN_n, Mi.fNotN_n, Mi.fIx_l, Mi.fIx_t, Mi.fNeg_i, Mi.fLen_l, Mi.fLen_t, Mi.fAbs_i, Mi.fInt_i, Mi.fInt_b, Mi.fMax2_i, Mi.fMin2_i, Mi.fGcd_i, Mi.items_l, Mi.items_t, Mi.sliced_l, Mi.sliced_t, List.map_cons, List.map_nil, List.length_cons, List.length_nil, List.nil_append, List.cons_append, List.replicate, List.replicate_succ, List.replicate_zero, List.zip_cons_cons, List.zip_nil_right, Int.cast_ofNat_Int, Nat.reduceAdd, Nat.reduceSub, Nat.zero_add, Nat.reduceLeDiff, Nat.reduceEqDiff, List.getElem?_cons_zero, List.getElem?_cons_succ, List.getElem?_nil, List.set_cons_zero, List.set_cons_succ, List.set_nil, ite_true, ite_false, if_true, if_false, Option.map_some, Option.map_none, Option.some.injEq, Bool.not_true, Bool.not_false, decide_eq_true_eq, decide_true, decide_false, Int.reduceLT, Int.reduceLE, Int.reduceEq, Int.reduceNeg, Int.reduceAdd, Int.reduceSub, Int.reduceMul, Int.reducePow, Int.reduceToNat, Int.reduceEq, ne_eq, not_true_eq_false, not_false_eq_true, true_and, and_true, false_and, and_false, reduceCtorEq, eq_self])
theorem eqv_kD (a b : Option Int) : PyData.eqv (kD a) (kD b) = decide (a = b) := by
  cases a <;> cases b <;> simp [kD, PyData.eqv]
  rfl
theorem eqv_rw (a b : Int × Option Int) : PyData.eqv (rwD a) (rwD b) = decide (a = b) := by
  obtain ⟨a1, a2⟩ := a
  obtain ⟨b1, b2⟩ := b
  unfold rwD
  rw [PyData.eqv, PyData.eqvAll, PyData.eqvAll, PyData.eqvAll, eqv_kD]
  have : PyData.eqv (.int a1) (.int b1) = decide (a1 = b1) := by simp [PyData.eqv]; rfl
  rw [this, Bool.and_true]
  by_cases h1 : a1 = b1 <;> by_cases h2 : a2 = b2 <;> simp [h1, h2]
theorem eqv_rs : ∀ (R S : Rows), PyData.eqvAll (rsD R) (rsD S) = decide (R = S)
  | [], [] => rfl
  | [], s :: S => rfl
  | r :: R, [] => rfl
  | r :: R, s :: S => by
    show PyData.eqvAll (rwD r :: rsD R) (rwD s :: rsD S) = _
    rw [PyData.eqvAll, eqv_rw, eqv_rs R S]
    by_cases h1 : r = s <;> by_cases h2 : R = S <;> simp [h1, h2]
theorem eqv_trs (R S : Rows) : PyData.eqv (.tuple (rsD R)) (.tuple (rsD S)) = decide (R = S) := by rw [PyData.eqv]; exact eqv_rs R S
theorem ok_rs {R : Rows} : eqOk (.list (rsD R)) = true ∧ eqOk (.tuple (rsD R)) = true := by
  have h : ∀ x, x ∈ rsD R → Pl x 1 := fun x hx => by
    obtain ⟨⟨a, b⟩, _, rfl⟩ := List.mem_map.mp hx
    refine pl_tuple fun z hz => ?_
    simp only [List.mem_cons, List.not_mem_nil, or_false] at hz
    rcases hz with rfl | rfl
    · exact pl_int
    · cases b
      · exact pl_none
      · exact pl_int
  exact ⟨(pl_list h).ok (by decide), (pl_tuple h).ok (by decide)⟩
theorem fEq_rs {R S : Rows} : fEq (.list (rsD R)) (.list (rsD S)) = some (.bool (decide (R = S))) := by
  rw [fEq_l ok_rs.1 ok_rs.1, eqv_rs]
theorem fEq_trs {R S : Rows} : fEq (.tuple (rsD R)) (.tuple (rsD S)) = some (.bool (decide (R = S))) := by
  show (if eqOk (.tuple (rsD R)) = true ∧ eqOk (.tuple (rsD S)) = true then some (PyData.bool (PyData.eqv (.tuple (rsD R)) (.tuple (rsD S)))) else none) = _
  rw [if_pos ⟨ok_rs.2, ok_rs.2⟩, eqv_trs]
section
variable {φ : Sg} {K : Rt → Sg → Prop} {X : XC} {o r s : Addr} {R S : Rows} {KF : Fl → Sg → Prop}
theorem eq_ok (hr : Ru o φ r R) (hs : Ru o φ s S) (kk : K (.d (.bool (decide (R = S)))) φ) : Wp (m_Rules____eq__ o [.d (ptrD r), .d (ptrD s)]) φ K X := by
  have co : List.contains [o] o = true := by simp
  refine mdef_wp ?_
  fail "mi"
  rw [look_ins hs co]
  have ic : isC o (.ins o [(("rows" : Str), .tuple (rsD S))]) = true := by show decide (o = o) = true; exact decide_eq_true rfl
  rw [ic]
  fail "mi"
  rw [w_seeI hr, lk_rows]
  fail "mi"
  rw [w_seeI hs, lk_rows]
  fail "mi"
  rw [fEq_trs]
  fail "mi"
  exact kk
theorem eq_no {x : PyData} (fx : flat x = true) (kk : K (.d (.bool false)) φ) : Wp (m_Rules____eq__ o [.d (ptrD r), .d x]) φ K X := by
  refine mdef_wp ?_
  fail "mi"
  rw [look_sees (.d fx)]
  fail "mi"
  exact kk
noncomputable def eqT (Os : List Addr) (tbl : List (Addr × (List AV → M Rt))) (neg : Bool) (x y : PyData) : M PyData := look Os x fun lx => match lx with
  | .ins C _ => (M.of (lkA C tbl)).bind fun m => look Os y fun _ => (m [.d x, .d y]).nox.bind fun z => match z with
    | .d (.bool k) => .ret (.bool (k != neg))
    | _ => .bad
  | .dat _ => (deep x).bind fun x' => (deep y).bind fun y' => M.of (match eqF neg x' y' with
    | some z => if isScal z = true then some z else none
    | none => none)
  | .dct es => look Os y fun ly => match ly with
    | .dct fs => (deepD es).bind fun es' => (deepD fs).bind fun fs' => if (es'.all fun e => eqOk e.2) = true ∧ (fs'.all fun e => eqOk e.2) = true then .ret (.bool ((es'.length == fs'.length && hitsD fs' es') != neg)) else .bad
    | _ => .bad
  | .opq _ => .bad
theorem w_eqO {Os : List Addr} {tbl : List (Addr × (List AV → M Rt))} {neg : Bool} {a b : E} {δ : List SD} {Q : PyData → Sg → Prop} : Wp (xEqO Os tbl neg a b δ) φ Q X = Wp (a δ) φ (fun x φ1 => Wp (b δ) φ1 (fun y φ2 => Wp (eqT Os tbl neg x y) φ2 Q X) X) X := by
  unfold xEqO
  rw [W_bind]
  congr 1
  funext x φ1
  rw [W_bind]
  rfl
theorem eqT_ok {neg : Bool} {Q : PyData → Sg → Prop} (hr : Ru o φ r R) (hs : Ru o φ s S) (kk : Q (.bool (decide (R = S) != neg)) φ) : Wp (eqT [o] [(o, (m_Rules____eq__ o))] neg (ptrD r) (ptrD s)) φ Q X := by
  have co : List.contains [o] o = true := by simp
  unfold eqT
  rw [look_ins hr co]
  fail "mi"
  have e : lkA o [(o, m_Rules____eq__ o)] = some (m_Rules____eq__ o) := by unfold lkA; rw [if_pos rfl]
  rw [e]
  fail "mi"
  rw [look_ins hs co]
  fail "mi"
  refine eq_ok hr hs ?_
  fail "mi"
  exact kk
theorem eqT_no {neg : Bool} {x : PyData} {Q : PyData → Sg → Prop} (hr : Ru o φ r R) (fx : flat x = true) (kk : Q (.bool (false != neg)) φ) : Wp (eqT [o] [(o, (m_Rules____eq__ o))] neg (ptrD r) x) φ Q X := by
  have co : List.contains [o] o = true := by simp
  unfold eqT
  rw [look_ins hr co]
  fail "mi"
  have e : lkA o [(o, m_Rules____eq__ o)] = some (m_Rules____eq__ o) := by unfold lkA; rw [if_pos rfl]
  rw [e]
  fail "mi"
  rw [look_sees (.d fx)]
  fail "mi"
  refine eq_no fx ?_
  fail "mi"
  exact kk
end
end Mi.K18

/-! K18l -/
set_option Elab.async false
set_option linter.all false
set_option maxRecDepth 100000
set_option maxHeartbeats 1000000
/-! ## equal rules -/
namespace Mi.K18
open PySem L2 Eg Mi
local macro_rules | `(tactic| fail "mi") => `(tactic| try simp (config := { decide := false, zeta := true, implicitDefEqProofs := false }) only [Mi.sSeq, Mi.sIf, Mi.sRet, Mi.sRetF, Mi.sRetN, Mi.sRetV, Mi.sNext, Mi.sAsg, Mi.sAsgF, Mi.sAsgC, Mi.sAsgC0, Mi.sDrop, Mi.sRaise, Mi.sFrz, Mi.sApp, Mi.sAppE, Mi.sSet, Mi.sPar, Mi.setAllS, Mi.pNil, Mi.pD, Mi.pF, Mi.setT_n, Mi.setAt, Mi.xC, Mi.xV, Mi.x1, Mi.x2, Mi.xIf, Mi.xAnd, Mi.xOr, Mi.xNot, Mi.tV, Mi.tAn, Mi.tOrr, Mi.tNo, Mi.tTrue, Mi.aNil, Mi.aC, Mi.aScr, Mi.aKw, Eg.swap2, Mi.xTup, Mi.xCall, Mi.xCall0, Mi.ofF, Mi.fLst, Mi.fList, Mi.iEnumM, Mi.fCat, Mi.fRep, Mi.xFld, Mi.xMeth, Mi.xMeth0, Mi.xMethK, Mi.xMake, Mi.sFldS, Mi.iLstM, Mi.iZipM, Mi.iEnumAM, Mi.xBy2, Mi.fRev, Mi.fLcD, Mi.sForD, Mi.sRaise0, Mi.sTry2, Mi.sAugI, Mi.sSetSl, Mi.fSl, Mi.x1D, Mi.x2d, Mi.fLcE, Mi.xReprN, Mi.iRevM, Mi.iRng3M, Mi.iRng2M, Mi.fLrg1, Mi.fCatV, Mi.sShr, Mi.sExt, Mi.sTryU, Mi.uGo, Mi.sSetSlP, Mi.xSlD, Mi.fLcZ, Mi.fSortSet, Mi.fIn, Mi.sTryM, Mi.mGo, Mi.xMakeK, Mi.fCall, Mi.fCall0, Mi.sSetSlE, Mi.iStrM, Mi.xJoin, Mi.unF, Mi.xIxD, Mi.keyOf, Mi.sSetD, Mi.xDc, Mi.xIdx, Mi.x2o, Mi.fSortSetN, Mi.xNewD, Mi.sTabF0, Mi.sTabF, Mi.tabAt, Mi.fBits, Mi.fLcX, Mi.fListZ, Mi.xIsiO, Mi.xIsiC, Mi.isL_dat, Mi.isL_ins, Mi.isC_dat, Mi.lo_int, Mi.lo_bool, Mi.lo_none, Mi.lo_str, Mi.lo_list, Mi.lo_tup, Mi.lo_d0, Mi.key_i, Mi.key_s, Mi.xInR, Mi.xIxR, Mi.xGet1, Mi.xGet2, Mi.xPop1, Mi.xPop2, Mi.xSetd, Mi.sDelD, Mi.sExtE, Mi.fSort, Mi.xSlS, Mi.fMulS_s, Mi.fIxS_s, Mi.fAdd_s, Mi.fInS_s, Mi.xSlD, Mi.iStrM, Mi.signs_s, Mi.setT_l2, Mi.setT_l3, Mi.setT_t2, Mi.setT_t3, Mi.sExtU, Mi.xTupD, Mi.xDictN, Mi.fMeth, Mi.fMeth0, Mi.fMethK, Mi.fIf, Mi.bn_tt, Mi.bn_tf, Mi.bn_ft, Mi.bn_ff, Option.getD_some, Option.getD_none, Option.isSome_some, Option.isSome_none, String.reduceEq, Mi.xNew, Mi.xIsi, Mi.xLen, Mi.xLenV, Mi.xIx, Mi.xIxV, Mi.xSl, Mi.xSlV, Mi.oNo, Mi.oAt, Mi.xTuple, Mi.xChain, Mi.xBy, Mi.xRepr, Mi.unF, Mi.fLc, Mi.wipeD, Mi.sTry, Mi.hGo, Mi.iRng1M, Mi.iRng2M, Mi.M.ret_bind, Mi.M.exc_bind, Mi.M.bad_bind, Mi.e_some, Mi.e_none, Mi.e_cret, Mi.e_cexc, Mi.e_cbad, Mi.e_nret, Mi.e_nexc, Mi.e_nbad, Mi.e_asB, Mi.e_true, Mi.e_false, Mi.W_ite, Mi.W_ret, Mi.W_exc, Mi.W_bad, Mi.W_bind, Mi.W_nox, Mi.W_catch, Mi.W_getLp, Mi.W_put, Mi.toRt_nx, Mi.toRt_rt, Mi.toRt_rf, Mi.toRt_xx, Mi.dat_nil, Mi.dat_cons, Mi.short, Mi.rdat_d, Mi.rdat_f, Mi.sd_d, Mi.sd_s, Mi.sn_int, Mi.sn_bool, Mi.sn_none, Mi.sn_str, Mi.sn_list, Mi.sn_tup, Mi.sn_d0, Mi.e_seenP, Mi.ptrOf_ptr, Mi.p_bool, Mi.p_int, Mi.p_none, Mi.p_str, Mi.p_list, Mi.p_tuple, Mi.sFor, Mi.iSeqM, Mi.ixN_0, Mi.ixN_1, Mi.ixN_2, Mi.ixN_3, Mi.ixN_4, Mi.ixN_5, Mi.atI_0, Mi.atI_1, Mi.atI_2, Mi.atI_3, Mi.atI_4, Mi.atI_5, Mi.isInt_int, Mi.isInt_bool, Mi.isInt_none, Mi.isInt_str, Mi.isInt_list, Mi.isInt_tup, Mi.isInt_dct, Mi.isBool_int, Mi.isBool_bool, Mi.isBool_none, Mi.isBool_str, Mi.isBool_list, Mi.isBool_tup, Mi.isBool_dct, Mi.isStr_int, Mi.isStr_bool, Mi.isStr_none, Mi.isStr_str, Mi.isStr_list, Mi.isStr_tup, Mi.isStr_dct, Mi.isLst_int, Mi.isLst_bool, Mi.isLst_none, Mi.isLst_str, Mi.isLst_list, Mi.isLst_tup, Mi.isLst_dct, Mi.isTup_int, Mi.isTup_bool, Mi.isTup_none, Mi.isTup_str, Mi.isTup_list, Mi.isTup_tup, Mi.isTup_dct, Mi.isDct_int, Mi.isDct_bool, Mi.isDct_none, Mi.isDct_str, Mi.isDct_list, Mi.isDct_tup, Mi.isDct_dct, Mi.isNone_int, Mi.isNone_bool, Mi.isNone_none, Mi.isNone_str, Mi.isNone_list, Mi.isNone_tup, Mi.isNone_dct, Mi.isPtr_int, Mi.isPtr_bool, Mi.isPtr_none, Mi.isPtr_str, Mi.isPtr_list, Mi.isPtr_tup, Mi.isPtr_d0, Mi.fAdd_i, Mi.fAdd_l, Mi.fAdd_t, Mi.fSub_i, Mi.fMul_i, Mi.fMul_l, Mi.fMod_i, Mi.fDiv_i, Mi.fPow_i, Mi.fCmp_i, Mi.fEq_i, Mi.fEq_s, Mi.fNe_i, Mi.fNe_s, Mi.fIsN_n, Mi.fNotN_n, Mi.fIx_l, Mi.fIx_t, Mi.fNeg_i, Mi.fLen_l, Mi.fLen_t, Mi.fAbs_i, Mi.fInt_i, Mi.fInt_b, Mi.fMax2_i, Mi.fMin2_i, Mi.fGcd_i, Mi.items_l, Mi.items_t, Mi.sliced_l, Mi.sliced_t, List.map_cons, List.map_nil, List.length_cons, List.length_nil, List.nil_append, List.cons_append, List.replicate, List.replicate_succ, List.replicate_zero, List.zip_cons_cons, List.zip_nil_right, Int.cast_ofNat_Int, Nat.reduceAdd, Nat.reduceSub, Nat.zero_add, Nat.reduceLeDiff, Nat.reduceEqDiff, List.getElem?_cons_zero, List.getElem?_cons_succ, List.getElem?_nil, List.set_cons_zero, List.set_cons_succ, List.set_nil, ite_true, ite_false, if_true, if_false, Option.map_some, Option.map_none, Option.some.injEq, Bool.not_true, Bool.not_false, decide_eq_true_eq, decide_true, decide_false, Int.reduceLT, Int.reduceLE, Int.reduceEq, Int.reduceNeg, Int.reduceAdd, Int.reduceSub, Int.reduceMul, Int.reducePow, Int.reduceToNat, Int.reduceEq, ne_eq, not_true_eq_false, not_false_eq_true, true_and, and_true, false_and, and_false, reduceCtorEq, eq_self])
/-- rows of rules, small -/
structure Gd (R : Rows) : Prop where
  ok : itemsB (rsD R) = true
  sm : Sm R
theorem Gd.len {R : Rows} (g : Gd R) : 1 ≤ R.length ∧ R.length ≤ 4 := by
  have h := g.ok
  unfold itemsB at h
  simp only [Bool.and_eq_true, decide_eq_true_eq, rsD_len] at h
  exact h.1
theorem sm_flat {R : Rows} : flatL (rsD R) = true := by
  induction R with
  | nil => rfl
  | cons r R ih =>
    obtain ⟨a, b⟩ := r
    show flatL (rwD (a, b) :: rsD R) = true
    unfold flatL
    rw [ih]
    cases b <;> rfl
theorem rb_rw {r : Int × Option Int} (h1 : r.1.natAbs < 2 ^ 55) (h2 : ∀ n, r.2 = some n → n.natAbs < 2 ^ 55) : flat (rwD r) = true ∧ Rb (rwD r) := by
  obtain ⟨a, b⟩ := r
  refine ⟨by cases b <;> rfl, fun ys e => ?_⟩
  cases e
  refine ⟨(show 2 ≤ 1000 by decide), fun z hz => ?_⟩
  simp only [List.mem_cons, List.not_mem_nil, or_false] at hz
  rcases hz with rfl | rfl
  · exact ⟨rfl, fun n e => by cases e; exact h1⟩
  · cases b with
    | none => exact ⟨rfl, fun n e => nomatch e⟩
    | some k => exact ⟨rfl, fun n e => by cases e; exact h2 k rfl⟩
theorem vb_rs {R : Rows} (h : Sm R) (hl : R.length ≤ 1000) {y : PyData} (hq : Sq y (rsD R)) : Vb y := fun ys e => by
  have : ys = rsD R := by rcases hq.seq with h | h <;> rcases e with e | e <;> rw [h] at e <;> cases e <;> rfl
  subst this
  refine ⟨by rw [rsD_len]; exact hl, fun z hz => ?_⟩
  obtain ⟨r, hr, rfl⟩ := List.mem_map.mp hz
  exact rb_rw (h r hr).1 (h r hr).2
section
variable {φ : Sg} {K : Rt → Sg → Prop} {X : XC} {o r s : Addr} {R S : Rows} {KF : Fl → Sg → Prop}
theorem sh_bools {bs : List Bool} (h : bs.length ≤ 10) : Sh (.list (bs.map .bool)) 50 30000 := (sh_list (k := 0) (m := 0) (n := 10) (fun x hx => by
  obtain ⟨b, _, rfl⟩ := List.mem_map.mp hx
  exact sh_bool) (by rw [List.length_map]; exact h)).mono (by decide) (by decide)
noncomputable def QA (o_Rules : Addr) : Mi.S := (sIf (tV (x2 fNe (xRepr (ofF (fLst (aC (xEqO [o_Rules] [(o_Rules, (m_Rules____eq__ o_Rules))] false (xV 2) (xV 3)) (aC (xEqO [o_Rules] [(o_Rules, (m_Rules____eq__ o_Rules))] false (xV 3) (xV 2)) (aC (xEqO [o_Rules] [(o_Rules, (m_Rules____eq__ o_Rules))] true (xV 2) (xV 3)) aNil)))))) (xRepr (ofF (fLst (aC (xV 4) (aC (xV 4) (aC (xNot (xV 4)) aNil)))))))) (sRet (xC (.bool false))) sNext)
noncomputable def QB (o_Rules : Addr) : Mi.S := (sIf (tV (x2 fNe (xRepr (ofF (fLst (aC (xEqO [o_Rules] [(o_Rules, (m_Rules____eq__ o_Rules))] false (xV 2) (xMake o_Rules (m_Rules____init__ o_Rules) (aC (xTuple (xIx (xV 1) (xC (.int 0)))) aNil))) (aC (xEqO [o_Rules] [(o_Rules, (m_Rules____eq__ o_Rules))] true (xV 2) (xMake o_Rules (m_Rules____init__ o_Rules) (aC (ofF (fList (xIx (xV 1) (xC (.int 0))))) aNil))) aNil))))) (xRepr (ofF (fLst (aC (xC (.bool true)) (aC (xC (.bool false)) aNil))))))) (sRet (xC (.bool false))) sNext)
noncomputable def QC (o_Rules : Addr) : Mi.S := (sIf (tV (x2 fNe (xRepr (ofF (fLst (aC (xEqO [o_Rules] [(o_Rules, (m_Rules____eq__ o_Rules))] false (xV 2) (xV 5)) (aC (xEqO [o_Rules] [(o_Rules, (m_Rules____eq__ o_Rules))] true (xV 2) (xV 5)) aNil))))) (xRepr (ofF (fLst (aC (xC (.bool false)) (aC (xC (.bool true)) aNil))))))) (sRet (xC (.bool false))) sNext)
theorem equal_eq {o_Rules : Addr} : m__law_equal_right o_Rules = mDef 6 2 ((sSeq (sAsg (.l [2, 3]) (xV 0))
  (sSeq (sAsg (.n 4) (x2 fEq (xIx (xV 1) (xC (.int 0))) (xIx (xV 1) (xC (.int 1)))))
  (sSeq (QA o_Rules)
  (sSeq (QB o_Rules)
  (sSeq (sFor (iSeqM (ofF (fLst (aC (xIx (xV 1) (xC (.int 0))) (aC (xTuple (xIx (xV 1) (xC (.int 0)))) (aC (xLen (xIx (xV 1) (xC (.int 0)))) (aC (xC .none) (aC (xC (.int 0)) (aC (xC (.str "")) aNil))))))))) (.n 5) (QC o_Rules))
  (sRet (xC (.bool true))))))))) := rfl
abbrev est (r s : Addr) (R S : Rows) (a5 : SD) : List SD := [.d (.list [ptrD r, ptrD s]), .d (.list [.list (rsD R), .list (rsD S)]), .d (ptrD r), .d (ptrD s), .d (.bool (decide (R = S))), a5]
theorem qa_ok {a5 : SD} (hr : Ru o φ r R) (hs : Ru o φ s S) (kk : KF (.nx (est r s R S a5)) φ) : Wp (QA o (est r s R S a5)) φ KF X := by
  have e2 : decide (S = R) = decide (R = S) := decide_eq_decide.mpr ⟨Eq.symm, Eq.symm⟩
  have e3 : (decide (R = S) != true) = !decide (R = S) := by cases decide (R = S) <;> rfl
  unfold QA
  fail "mi"
  rw [w_eqO]
  fail "mi"
  refine eqT_ok hr hs ?_
  rw [w_eqO]
  fail "mi"
  refine eqT_ok hs hr ?_
  rw [w_eqO]
  fail "mi"
  refine eqT_ok hr hs ?_
  rw [e2, e3, Bool.bne_false]
  have sh : ∀ b : Bool, Sh (.list [.bool b, .bool b, .bool (!b)]) 50 30000 := fun b => sh_bools (bs := [b, b, !b]) (show 3 ≤ 10 by decide)
  generalize decide (R = S) = b at kk ⊢
  refine w_repr (sh b) ?_
  fail "mi"
  refine w_repr (sh b) ?_
  fail "mi"
  exact kk
theorem qb_ok {a5 : SD} (hr : Ru o φ r R) (g : Gd R) (kk : ∀ φ', Ext φ φ' → KF (.nx (est r s R S a5)) φ') : Wp (QB o (est r s R S a5)) φ KF X := by
  have sh : ∀ b c : Bool, Sh (.list [.bool b, .bool c]) 50 30000 := fun b c => sh_bools (bs := [b, c]) (by show 2 ≤ 10; decide)
  have fl : flat (.tuple (rsD R)) = true := by unfold flat; exact sm_flat
  have fl2 : flat (.list (rsD R)) = true := by unfold flat; exact sm_flat
  have gl := g.len
  have vt : Vb (.tuple (rsD R)) := vb_rs g.sm (by omega) ⟨.inr rfl⟩
  have vl : Vb (.list (rsD R)) := vb_rs g.sm (by omega) ⟨.inl rfl⟩
  unfold QB
  fail "mi"
  rw [w_eqO]
  fail "mi"
  refine make_ok (.d fl) vt (fun _ q xs hq hx _ => ?_) (fun e => by rw [show rulesB (.tuple (rsD R)) = itemsB (rsD R) from rfl, g.ok] at e; cases e)
  have ex : xs = rsD R := by rcases hx.seq with e | e <;> cases e; rfl
  subst ex
  refine eqT_ok (ext_put hq r _ hr) put_same ?_
  rw [w_eqO]
  fail "mi"
  refine make_ok (.d fl2) vl (fun _ q2 xs hq2 hx _ => ?_) (fun e => by rw [show rulesB (.list (rsD R)) = itemsB (rsD R) from rfl, g.ok] at e; cases e)
  have ex : xs = rsD R := by rcases hx.seq with e | e <;> cases e; rfl
  subst ex
  refine eqT_ok (ext_put hq2 r _ (ext_put hq r _ hr)) put_same ?_
  rw [decide_eq_true (rfl : R = R)]
  refine w_repr (sh _ _) ?_
  fail "mi"
  refine w_repr (sh _ _) ?_
  try simp only [Bool.bne_false, Bool.bne_true]
  fail "mi"
  exact kk _ ((ext_put hq).trans (ext_put hq2))
theorem qc_ok {x : PyData} (hr : Ru o φ r R) (fx : flat x = true) (kk : KF (.nx (est r s R S (.d x))) φ) : Wp (QC o (est r s R S (.d x))) φ KF X := by
  have sh : ∀ b c : Bool, Sh (.list [.bool b, .bool c]) 50 30000 := fun b c => sh_bools (bs := [b, c]) (by show 2 ≤ 10; decide)
  unfold QC
  fail "mi"
  rw [w_eqO]
  fail "mi"
  refine eqT_no hr fx ?_
  rw [w_eqO]
  fail "mi"
  refine eqT_no hr fx ?_
  refine w_repr (sh _ _) ?_
  fail "mi"
  refine w_repr (sh _ _) ?_
  try simp only [Bool.bne_false, Bool.bne_true, Bool.not_false]
  fail "mi"
  exact kk
theorem equal_ok (hr : Ru o φ r R) (hs : Ru o φ s S) (g : Gd R) (kk : ∀ φ', Ext φ φ' → K (.d (.bool true)) φ') : Wp (m__law_equal_right o [.d (.list [ptrD r, ptrD s]), .d (.list [.list (rsD R), .list (rsD S)])]) φ K X := by
  rw [equal_eq]
  refine mdef_wp ?_
  have qa := fun (a5 : SD) (KF : Fl → Sg → Prop) (X : XC) => qa_ok (o := o) (φ := φ) (KF := KF) (X := X) (a5 := a5) hr hs
  have qb := fun (a5 : SD) (KF : Fl → Sg → Prop) (X : XC) => qb_ok (o := o) (φ := φ) (KF := KF) (X := X) (a5 := a5) (s := s) (S := S) hr g
  have qc := fun (φ : Sg) (x : PyData) (KF : Fl → Sg → Prop) (X : XC) => qc_ok (o := o) (φ := φ) (KF := KF) (X := X) (x := x) (r := r) (R := R) (s := s) (S := S)
  have gl := g.len
  generalize QA o = T1 at qa ⊢
  generalize QB o = T2 at qb ⊢
  generalize QC o = T3 at qc ⊢
  fail "mi"
  rw [fEq_rs]
  fail "mi"
  refine qa _ _ _ ?_
  fail "mi"
  refine qb _ _ _ fun φ1 e1 => ?_
  fail "mi"
  rw [rsD_len]
  refine for_wp (fun ds δ φ' => Ext φ φ' ∧ (∃ a5, δ = est r s R S a5) ∧ ∀ y, y ∈ ds → flat y = true) (fun z ds δ φ' hI => ?_) (fun δ φ' hI => ?_) _ _ _ ⟨e1, ⟨_, rfl⟩, fun y hy => ?_⟩
  · obtain ⟨ex, ⟨a, rfl⟩, hy⟩ := hI
    refine ⟨_, rfl, ?_⟩
    refine qc φ' z _ _ (ex r _ hr) (hy z List.mem_cons_self) ?_
    rw [turn_nx]
    exact ⟨ex, ⟨_, rfl⟩, fun y h => hy y (List.mem_cons_of_mem _ h)⟩
  · obtain ⟨ex, ⟨a, rfl⟩, hy⟩ := hI
    fail "mi"
    exact kk φ' ex
  · simp only [List.mem_cons, List.not_mem_nil, or_false] at hy
    have fl : flatL (rsD R) = true := sm_flat
    rcases hy with rfl | rfl | rfl | rfl | rfl | rfl
    · unfold flat; exact fl
    · unfold flat; exact fl
    · rfl
    · rfl
    · rfl
    · rfl
end
end Mi.K18

/-! K18n -/
set_option Elab.async false
set_option linter.all false
set_option maxRecDepth 100000
set_option maxHeartbeats 1000000
/-! ## what is no list, by far -/
namespace Mi.K18
open PySem L2 Eg Mi
local macro_rules | `(tactic| fail "mi") => `(tactic| try simp (config := { decide := false, zeta := true, implicitDefEqProofs := false }) only [Mi.sSeq, Mi.sIf, Mi.sRet, Mi.sRetF, Mi.sRetN, Mi.sRetV, Mi.sNext, Mi.sAsg, Mi.sAsgF, Mi.sAsgC, Mi.sAsgC0, Mi.sDrop, Mi.sRaise, Mi.sFrz, Mi.sApp, Mi.sAppE, Mi.sSet, Mi.sPar, Mi.setAllS, Mi.pNil, Mi.pD, Mi.pF, Mi.setT_n, Mi.setAt, Mi.xC, Mi.xV, Mi.x1, Mi.x2, Mi.xIf, Mi.xAnd, Mi.xOr, Mi.xNot, Mi.tV, Mi.tAn, Mi.tOrr, Mi.tNo, Mi.tTrue, Mi.aNil, Mi.aC, Mi.aScr, Mi.aKw, Eg.swap2, Mi.xTup, Mi.xCall, Mi.xCall0, Mi.ofF, Mi.fLst, Mi.fList, Mi.iEnumM, Mi.fCat, Mi.fRep, Mi.xFld, Mi.xMeth, Mi.xMeth0, Mi.xMethK, Mi.xMake, Mi.sFldS, Mi.iLstM, Mi.iZipM, Mi.iEnumAM, Mi.xBy2, Mi.fRev, Mi.fLcD, Mi.sForD, Mi.sRaise0, Mi.sTry2, Mi.sAugI, Mi.sSetSl, Mi.fSl, Mi.x1D, Mi.x2d, Mi.fLcE, Mi.xReprN, Mi.iRevM, Mi.iRng3M, Mi.iRng2M, Mi.fLrg1, Mi.fCatV, Mi.sShr, Mi.sExt, Mi.sTryU, Mi.uGo, Mi.sSetSlP, Mi.xSlD, Mi.fLcZ, Mi.fSortSet, Mi.fIn, Mi.sTryM, Mi.mGo, Mi.xMakeK, Mi.fCall, Mi.fCall0, Mi.sSetSlE, Mi.iStrM, Mi.xJoin, Mi.unF, Mi.xIxD, Mi.keyOf, Mi.sSetD, Mi.xDc, Mi.xIdx, Mi.x2o, Mi.fSortSetN, Mi.xNewD, Mi.sTabF0, Mi.sTabF, Mi.tabAt, Mi.fBits, Mi.fLcX, Mi.fListZ, Mi.xIsiO, Mi.xIsiC, Mi.isL_dat, Mi.isL_ins, Mi.isC_dat, Mi.lo_int, Mi.lo_bool, Mi.lo_none, Mi.lo_str, Mi.lo_list, Mi.lo_tup, Mi.lo_d0, Mi.key_i, Mi.key_s, Mi.xInR, Mi.xIxR, Mi.xGet1, Mi.xGet2, Mi.xPop1, Mi.xPop2, Mi.xSetd, Mi.sDelD, Mi.sExtE, Mi.fSort, Mi.xSlS, Mi.fMulS_s, Mi.fIxS_s, Mi.fAdd_s, Mi.fInS_s, Mi.xSlD, Mi.iStrM, Mi.signs_s, Mi.setT_l2, Mi.setT_l3, Mi.setT_t2, Mi.setT_t3, Mi.xDictE, Mi.xReprE, Mi.sExtU, Mi.xTupD, Mi.xDictN, Mi.fMeth, Mi.fMeth0, Mi.fMethK, Mi.fIf, Mi.bn_tt, Mi.bn_tf, Mi.bn_ft, Mi.bn_ff, Option.getD_some, Option.getD_none, Option.isSome_some, Option.isSome_none, String.reduceEq, Mi.xNew, Mi.xIsi, Mi.xLen, Mi.xLenV, Mi.xIx, Mi.xIxV, Mi.xSl, Mi.xSlV, Mi.oNo, Mi.oAt, Mi.xTuple, Mi.xChain, Mi.xBy, Mi.xRepr, Mi.unF, Mi.fLc, Mi.wipeD, Mi.sTry, Mi.hGo, Mi.iRng1M, Mi.iRng2M, Mi.M.ret_bind, Mi.M.exc_bind, Mi.M.bad_bind, Mi.e_some, Mi.e_none, Mi.e_cret, Mi.e_cexc, Mi.e_cbad, Mi.e_nret, Mi.e_nexc, Mi.e_nbad, Mi.e_asB, Mi.e_true, Mi.e_false, Mi.W_ite, Mi.W_ret, Mi.W_exc, Mi.W_bad, Mi.W_bind, Mi.W_nox, Mi.W_catch, Mi.W_getLp, Mi.W_put, Mi.toRt_nx, Mi.toRt_rt, Mi.toRt_rf, Mi.toRt_xx, Mi.dat_nil, Mi.dat_cons, Mi.short, Mi.rdat_d, Mi.rdat_f, Mi.sd_d, Mi.sd_s, Mi.sn_int, Mi.sn_bool, Mi.sn_none, Mi.sn_str, Mi.sn_list, Mi.sn_tup, Mi.sn_d0, Mi.e_seenP, Mi.ptrOf_ptr, Mi.p_bool, Mi.p_int, Mi.p_none, Mi.p_str, Mi.p_list, Mi.p_tuple, Mi.sFor, Mi.iSeqM, Mi.ixN_0, Mi.ixN_1, Mi.ixN_2, Mi.ixN_3, Mi.ixN_4, Mi.ixN_5, Mi.atI_0, Mi.atI_1, Mi.atI_2, Mi.atI_3, Mi.atI_4, Mi.atI_5, Mi.isInt_int, Mi.isInt_bool, Mi.isInt_none, Mi.isInt_str, Mi.isInt_list, Mi.isInt_tup, Mi.isInt_dct, Mi.isBool_int, Mi.isBool_bool, Mi.isBool_none, Mi.isBool_str, Mi.isBool_list, Mi.isBool_tup, Mi.isBool_dct, Mi.isStr_int, Mi.isStr_bool, Mi.isStr_none, Mi.isStr_str, Mi.isStr_list, Mi.isStr_tup, Mi.isStr_dct, Mi.isLst_int, Mi.isLst_bool, Mi.isLst_none, Mi.isLst_str, Mi.isLst_list, Mi.isLst_tup, Mi.isLst_dct, Mi.isTup_int, Mi.isTup_bool, Mi.isTup_none, Mi.isTup_str, Mi.isTup_list, Mi.isTup_tup, Mi.isTup_dct, Mi.isDct_int, Mi.isDct_bool, Mi.isDct_none, Mi.isDct_str, Mi.isDct_list, Mi.isDct_tup, Mi.isDct_dct, Mi.isNone_int, Mi.isNone_bool, Mi.isNone_none, Mi.isNone_str, Mi.isNone_list, Mi.isNone_tup, Mi.isNone_dct, Mi.isPtr_int, Mi.isPtr_bool, Mi.isPtr_none, Mi.isPtr_str, Mi.isPtr_list, Mi.isPtr_tup, Mi.isPtr_d0, Mi.fAdd_i, Mi.fAdd_l, Mi.fAdd_t, Mi.fSub_i, Mi.fMul_i, Mi.fMul_l, Mi.fMod_i, Mi.fDiv_i, Mi.fPow_i, Mi.fCmp_i, Mi.fEq_i, Mi.fEq_s, Mi.fNe_i, Mi.fNe_s, Mi.fIsN_n, Mi.fNotN_n, Mi.fIx_l, Mi.fIx_t, Mi.fNeg_i, Mi.fLen_l, Mi.fLen_t, Mi.fAbs_i, Mi.fInt_i, Mi.fInt_b, Mi.fMax2_i, Mi.fMin2_i, Mi.fGcd_i, Mi.items_l, Mi.items_t, Mi.sliced_l, Mi.sliced_t, List.map_cons, List.map_nil, List.length_cons, List.length_nil, List.nil_append, List.cons_append, List.replicate, List.replicate_succ, List.replicate_zero, List.zip_cons_cons, List.zip_nil_right, Int.cast_ofNat_Int, Nat.reduceAdd, Nat.reduceSub, Nat.zero_add, Nat.reduceLeDiff, Nat.reduceEqDiff, List.getElem?_cons_zero, List.getElem?_cons_succ, List.getElem?_nil, List.set_cons_zero, List.set_cons_succ, List.set_nil, ite_true, ite_false, if_true, if_false, Option.map_some, Option.map_none, Option.some.injEq, Bool.not_true, Bool.not_false, decide_eq_true_eq, decide_true, decide_false, Int.reduceLT, Int.reduceLE, Int.reduceEq, Int.reduceNeg, Int.reduceAdd, Int.reduceSub, Int.reduceMul, Int.reducePow, Int.reduceToNat, Int.reduceEq, ne_eq, not_true_eq_false, not_false_eq_true, true_and, and_true, false_and, and_false, reduceCtorEq, eq_self])
section
variable {φ : Sg} {K : Rt → Sg → Prop} {X : XC} {o r : Addr} {R : Rows} {KF : Fl → Sg → Prop}
/-- an object that is no list -/
def Nls (o : Addr) (φ : Sg) (x : PyData) : Prop := ∃ lk, isL (fun d => isLst d || isTup d) lk = false ∧ isL isLst lk = false ∧ ∀ (α : Type) (k : Lk → M α) (K : α → Sg → Prop) (X : XC), Wp (look [o] x k) φ K X = Wp (k lk) φ K X
theorem nls_ins {C : Addr} {fs : List (Str × PyData)} (h : φ r = some (.ins o fs)) : Nls o φ (ptrD r) := ⟨.ins o fs, rfl, rfl, fun α k K X => look_ins h (by simp)⟩
theorem nls_opq {es : List (PyData × PyData)} (h : φ r = some (.opq es)) : Nls o φ (ptrD r) := ⟨.opq es, rfl, rfl, fun α k K X => by
  unfold look
  rw [ptrOf_ptr]
  dsimp only
  rw [W_get h]⟩
theorem are_no {x : PyData} (h : Nls o φ x) (k : K (.d (.bool false)) φ) : Wp (m__are_rules o [.d x]) φ K X := by
  obtain ⟨lk, h1, h2, h3⟩ := h
  refine mdef_wp ?_
  fail "mi"
  unfold m_is_list
  refine mdef_wp ?_
  fail "mi"
  rw [h3, h1]
  fail "mi"
  exact k
theorem law_are_no {x : PyData} (h : Nls o φ x) (k : K (.d (.bool false)) φ) : Wp (m__law_are_rules o [.d x]) φ K X := by
  obtain ⟨lk, h1, h2, h3⟩ := h
  rw [law_are_eq]
  refine mdef_wp ?_
  fail "mi"
  rw [h3, h1]
  fail "mi"
  exact k
theorem make_no {x : PyData} {Q : PyData → Sg → Prop} (h : ∀ φ', Ext φ φ' → Nls o φ' x) (k2 : ∀ φ', Ext φ φ' → X "InvalidRules" [("given", x)] φ') : Wp (M.new (Cell.ins o []) fun p => (m_Rules____init__ o [AV.d (ptrD p), AV.d x]).bind fun z => match z with
        | Rt.d PyData.none => M.ret (ptrD p)
        | _ => M.bad) φ Q X := by
  rw [W_new]
  intro r hr
  fail "mi"
  refine mdef_wp ?_
  fail "mi"
  refine are_no (h _ (ext_put hr)) ?_
  fail "mi"
  exact k2 _ (ext_put hr)
theorem sh_dict1 {k v : PyData} {n m : Nat} (hk : Sh k n m) (hv : Sh v n m) (hn : isNone k = false) : Sh (.dict [(k, v)]) (n + 1) (2 * m + 2) := by
  refine ⟨?_, ?_, ?_, ?_, ?_⟩
  · unfold flat flatK flatK; rw [hv.fl, hn]; rfl
  · simp only [PyData.showable, PyData.showableKv, hk.sh, hv.sh, Bool.and_self]
  · simp only [PyData.leavesShort, PyData.leavesShortKv, hk.ls, hv.ls, Bool.and_self]
  · have := hk.dp; have := hv.dp
    simp only [PyData.depth, PyData.depthKv]; omega
  · have := hk.bk; have := hv.bk
    simp only [PyData.bulk, PyData.bulkKv]; omega
theorem ah_opq {φ2 : Sg} {q : Addr} {k v : PyData} {w : Int} {a4 : SD} (hq : φ2 q = some (.opq [(k, v)])) (sk : Sh k 8 9000) (sv : Sh v 8 9000) (hn : isNone k = false) (kk : KF (.rt (.bool true)) φ2) :
    Wp (hGo "InvalidRules" [("given", ptrD q)] [.d (ptrD q), .d (.bool false), .d (.int w), .d (ptrD q), a4, .u] (AH o)) φ2 KF X := by
  have hd : ∀ {Q : PyData → Sg → Prop} {X : XC}, Q (.str (PyData.dict [(k, v)]).shown) φ2 → Wp (deepE (ptrD q)) φ2 (fun a φ1 => Wp (shows a) φ1 Q X) X := fun {Q X} z => deepE_opq hq ⟨by
    show flatL [_] = true
    unfold flatL flatL
    rw [sk.fl]; rfl, by
    show flatL [_] = true
    unfold flatL flatL
    rw [sv.fl]; rfl, by
    show PyData.showableAll [_] = true
    simp only [PyData.showableAll, sk.sh, Bool.and_self], by
    show PyData.showableAll [_] = true
    simp only [PyData.showableAll, sv.sh, Bool.and_self]⟩ (by
    rw [shows_sh ((sh_dict1 sk sv hn).mono (by decide) (by decide)), W_ret]; exact z)
  obtain ⟨lk, h1, h2, h3⟩ := nls_opq (o := o) hq
  unfold AH hGo
  rw [if_pos rfl]
  fail "mi"
  rw [h3, h2]
  fail "mi"
  refine hd ?_
  refine hd ?_
  fail "mi"
  exact kk
theorem asked_opq {q : Addr} {k v : PyData} {w : Int} (hq : φ q = some (.opq [(k, v)])) (sk : Sh k 8 9000) (sv : Sh v 8 9000) (hn : isNone k = false) (kk : ∀ φ', Ext φ φ' → K (.d (.bool true)) φ') : Wp (m__law_asked_right o [.d (ptrD q), .d (.bool false), .d (.int w)]) φ K X := by
  have hnl : ∀ φ', Ext φ φ' → Nls o φ' (ptrD q) := fun φ' e => nls_opq (e q _ hq)
  have ah := fun (φ2 : Sg) (a4 : SD) (KF : Fl → Sg → Prop) (X : XC) (e : Ext φ φ2) => ah_opq (o := o) (φ2 := φ2) (q := q) (k := k) (v := v) (w := w) (a4 := a4) (KF := KF) (X := X) (e q _ hq) sk sv hn
  obtain ⟨lk, h1, h2, h3⟩ := hnl φ (Ext.refl _)
  rw [asked_eq]
  refine mdef_wp ?_
  generalize AE o = TE
  generalize AH o = TH at ah ⊢
  fail "mi"
  rw [h3, h2]
  fail "mi"
  by_cases hw : w = 0
  · rw [if_pos hw]
    refine make_no hnl fun φ2 e2 => ?_
    rw [if_pos (show "InvalidRules" ∈ Ls by decide)]
    refine ah φ2 _ _ _ e2 ?_
    fail "mi"
    exact kk φ2 e2
  · rw [if_neg hw]
    refine make_no hnl fun φ2 e2 => ?_
    rw [if_pos (show "InvalidRules" ∈ Ls by decide)]
    refine ah φ2 _ _ _ e2 ?_
    fail "mi"
    exact kk φ2 e2
end
end Mi.K18

/-! K18o -/
set_option Elab.async false
set_option linter.all false
set_option maxRecDepth 100000
set_option maxHeartbeats 1000000
/-! ## the draws: rows -/
namespace Mi.K18
open PySem L2 Eg Mi
local macro_rules | `(tactic| fail "mi") => `(tactic| try simp (config := { decide := false, zeta := true, implicitDefEqProofs := false }) only [Mi.sSeq, Mi.sIf, Mi.sRet, Mi.sRetF, Mi.sRetN, Mi.sRetV, Mi.sNext, Mi.sAsg, Mi.sAsgF, Mi.sAsgC, Mi.sAsgC0, Mi.sDrop, Mi.sRaise, Mi.sFrz, Mi.sApp, Mi.sAppE, Mi.sSet, Mi.sPar, Mi.setAllS, Mi.pNil, Mi.pD, Mi.pF, Mi.setT_n, Mi.setAt, Mi.xC, Mi.xV, Mi.x1, Mi.x2, Mi.xIf, Mi.xAnd, Mi.xOr, Mi.xNot, Mi.tV, Mi.tAn, Mi.tOrr, Mi.tNo, Mi.tTrue, Mi.aNil, Mi.aC, Mi.aScr, Mi.aKw, Eg.swap2, Mi.xTup, Mi.xCall, Mi.xCall0, Mi.ofF, Mi.fLst, Mi.fList, Mi.iEnumM, Mi.fCat, Mi.fRep, Mi.xFld, Mi.xMeth, Mi.xMeth0, Mi.xMethK, Mi.xMake, Mi.sFldS, Mi.iLstM, Mi.iZipM, Mi.iEnumAM, Mi.xBy2, Mi.fRev, Mi.fLcD, Mi.sForD, Mi.sRaise0, Mi.sTry2, Mi.sAugI, Mi.sSetSl, Mi.fSl, Mi.x1D, Mi.x2d, Mi.fLcE, Mi.xReprN, Mi.iRevM, Mi.iRng3M, Mi.iRng2M, Mi.fLrg1, Mi.fCatV, Mi.sShr, Mi.sExt, Mi.sTryU, Mi.uGo, Mi.sSetSlP, Mi.xSlD, Mi.fLcZ, Mi.fSortSet, Mi.fIn, Mi.sTryM, Mi.mGo, Mi.xMakeK, Mi.fCall, Mi.fCall0, Mi.sSetSlE, Mi.iStrM, Mi.xJoin, Mi.unF, Mi.xIxD, Mi.keyOf, Mi.sSetD, Mi.xDc, Mi.xIdx, Mi.x2o, Mi.fSortSetN, Mi.xNewD, Mi.sTabF0, Mi.sTabF, Mi.tabAt, Mi.fBits, Mi.fLcX, Mi.fListZ, Mi.xIsiO, Mi.xIsiC, Mi.isL_dat, Mi.isL_ins, Mi.isC_dat, Mi.lo_int, Mi.lo_bool, Mi.lo_none, Mi.lo_str, Mi.lo_list, Mi.lo_tup, Mi.lo_d0, Mi.key_i, Mi.key_s, Mi.xInR, Mi.xIxR, Mi.xGet1, Mi.xGet2, Mi.xPop1, Mi.xPop2, Mi.xSetd, Mi.sDelD, Mi.sExtE, Mi.fSort, Mi.xSlS, Mi.fMulS_s, Mi.fIxS_s, Mi.fAdd_s, Mi.fInS_s, Mi.xSlD, Mi.iStrM, Mi.signs_s, Mi.setT_l2, Mi.setT_l3, Mi.setT_t2, Mi.setT_t3, Mi.xDictE, Mi.xReprE, Mi.sExtU, Mi.xTupD, Mi.xDictN, Mi.fMeth, Mi.fMeth0, Mi.fMethK, Mi.fIf, Mi.bn_tt, Mi.bn_tf, Mi.bn_ft, Mi.bn_ff, Option.getD_some, Option.getD_none, Option.isSome_some, Option.isSome_none, String.reduceEq, Mi.xNew, Mi.xIsi, Mi.xLen, Mi.xLenV, Mi.xIx, Mi.xIxV, Mi.xSl, Mi.xSlV, Mi.oNo, Mi.oAt, Mi.xTuple, Mi.xChain, Mi.xBy, Mi.xRepr, Mi.unF, Mi.fLc, Mi.wipeD, Mi.sTry, Mi.hGo, Mi.iRng1M, Mi.iRng2M, Mi.M.ret_bind, Mi.M.exc_bind, Mi.M.bad_bind, Mi.e_some, Mi.e_none, Mi.e_cret, Mi.e_cexc, Mi.e_cbad, Mi.e_nret, Mi.e_nexc, Mi.e_nbad, Mi.e_asB, Mi.e_true, Mi.e_false, Mi.W_ite, Mi.W_ret, Mi.W_exc, Mi.W_bad, Mi.W_bind, Mi.W_nox, Mi.W_catch, Mi.W_getLp, Mi.W_put, Mi.toRt_nx, Mi.toRt_rt, Mi.toRt_rf, Mi.toRt_xx, Mi.dat_nil, Mi.dat_cons, Mi.short, Mi.rdat_d, Mi.rdat_f, Mi.sd_d, Mi.sd_s, Mi.sn_int, Mi.sn_bool, Mi.sn_none, Mi.sn_str, Mi.sn_list, Mi.sn_tup, Mi.sn_d0, Mi.e_seenP, Mi.ptrOf_ptr, Mi.p_bool, Mi.p_int, Mi.p_none, Mi.p_str, Mi.p_list, Mi.p_tuple, Mi.sFor, Mi.iSeqM, Mi.ixN_0, Mi.ixN_1, Mi.ixN_2, Mi.ixN_3, Mi.ixN_4, Mi.ixN_5, Mi.atI_0, Mi.atI_1, Mi.atI_2, Mi.atI_3, Mi.atI_4, Mi.atI_5, Mi.isInt_int, Mi.isInt_bool, Mi.isInt_none, Mi.isInt_str, Mi.isInt_list, Mi.isInt_tup, Mi.isInt_dct, Mi.isBool_int, Mi.isBool_bool, Mi.isBool_none, Mi.isBool_str, Mi.isBool_list, Mi.isBool_tup, Mi.isBool_dct, Mi.isStr_int, Mi.isStr_bool, Mi.isStr_none, Mi.isStr_str, Mi.isStr_list, Mi.isStr_tup, Mi.isStr_dct, Mi.isLst_int, Mi.isLst_bool, Mi.isLst_none, Mi.isLst_str, Mi.isLst_list, Mi.isLst_tup, Mi.isLst_dct, Mi.isTup_int, Mi.isTup_bool, Mi.isTup_none, Mi.isTup_str, Mi.isTup_list, Mi.isTup_tup, Mi.isTup_dct, Mi.isDct_int, Mi.isDct_bool, Mi.isDct_none, Mi.isDct_str, Mi.isDct_list, Mi.isDct_tup, Mi.isDct_dct, Mi.isNone_int, Mi.isNone_bool, Mi.isNone_none, Mi.isNone_str, Mi.isNone_list, Mi.isNone_tup, Mi.isNone_dct, Mi.isPtr_int, Mi.isPtr_bool, Mi.isPtr_none, Mi.isPtr_str, Mi.isPtr_list, Mi.isPtr_tup, Mi.isPtr_d0, Mi.fAdd_i, Mi.fAdd_l, Mi.fAdd_t, Mi.fSub_i, Mi.fMul_i, Mi.fMul_l, Mi.fMod_i, Mi.fDiv_i, Mi.fPow_i, Mi.fCmp_i, Mi.fEq_i, Mi.fEq_s, Mi.fNe_i, Mi.fNe_s, Mi.fIsN_n, Mi.fNotN_n, Mi.fIx_l, Mi.fIx_t, Mi.fNeg_i, Mi.fLen_l, Mi.fLen_t, Mi.fAbs_i, Mi.fInt_i, Mi.fInt_b, Mi.fMax2_i, Mi.fMin2_i, Mi.fGcd_i, Mi.items_l, Mi.items_t, Mi.sliced_l, Mi.sliced_t, List.map_cons, List.map_nil, List.length_cons, List.length_nil, List.nil_append, List.cons_append, List.replicate, List.replicate_succ, List.replicate_zero, List.zip_cons_cons, List.zip_nil_right, Int.cast_ofNat_Int, Nat.reduceAdd, Nat.reduceSub, Nat.zero_add, Nat.reduceLeDiff, Nat.reduceEqDiff, List.getElem?_cons_zero, List.getElem?_cons_succ, List.getElem?_nil, List.set_cons_zero, List.set_cons_succ, List.set_nil, ite_true, ite_false, if_true, if_false, Option.map_some, Option.map_none, Option.some.injEq, Bool.not_true, Bool.not_false, decide_eq_true_eq, decide_true, decide_false, Int.reduceLT, Int.reduceLE, Int.reduceEq, Int.reduceNeg, Int.reduceAdd, Int.reduceSub, Int.reduceMul, Int.reducePow, Int.reduceToNat, Int.reduceEq, ne_eq, not_true_eq_false, not_false_eq_true, true_and, and_true, false_and, and_false, reduceCtorEq, eq_self])
def Fol (a b : Int × Option Int) : Prop := ∃ ka, a.2 = some ka ∧ b.1 % a.1 = 0 ∧ 2 * a.1 ≤ b.1 ∧ ∀ kb, b.2 = some kb → ka + b.1 ≤ kb
structure GR (R : Rows) : Prop where
  n0 : 1 ≤ R.length
  n4 : R.length ≤ 4
  one : ∃ k r, R = (1, k) :: r
  l0 : ∀ r, r ∈ R → 1 ≤ r.1
  l1 : ∀ r, r ∈ R → r.1 < 1000000000000
  k0 : ∀ r, r ∈ R → ∀ k, r.2 = some k → 1 ≤ k
  k1 : ∀ r, r ∈ R → ∀ k, r.2 = some k → k < 1000000000000
  fol : ∀ z, z ∈ R.zip R.tail → Fol z.1 z.2
inductive Ch : Rows → Int → Int → Nat → Prop
  | one {k : Int} : 1 ≤ k → k ≤ 12 → Ch [(1, some k)] 1 k 1
  | snoc {R : Rows} {l k l' k' : Int} {n : Nat} : Ch R l k n → l' % l = 0 → 2 * l ≤ l' → l' ≤ 1002 * l → k + l' ≤ k' → k' ≤ k + l' + 10000000000 → Ch (R ++ [(l', some k')]) l' k' (n + 1)
theorem Ch.pos {R : Rows} {l k : Int} {n : Nat} (h : Ch R l k n) : 1 ≤ l ∧ 1 ≤ k ∧ 1 ≤ n ∧ R.length = n := by
  induction h with
  | one a b => exact ⟨by decide, a, by decide, rfl⟩
  | snoc _ _ _ _ _ _ ih => obtain ⟨a, b, c, d⟩ := ih; exact ⟨by omega, by omega, by omega, by rw [List.length_append, d]; rfl⟩
theorem gr_of {R : Rows} (n0 : 1 ≤ R.length) (n4 : R.length ≤ 4) (one : ∃ k r, R = (1, k) :: r) (b : ∀ r, r ∈ R → (1 ≤ r.1 ∧ r.1 < 1000000000000) ∧ ∀ k, r.2 = some k → 1 ≤ k ∧ k < 1000000000000) (fol : ∀ z, z ∈ R.zip R.tail → Fol z.1 z.2) : GR R :=
  ⟨n0, n4, one, fun r h => (b r h).1.1, fun r h => (b r h).1.2, fun r h k e => ((b r h).2 k e).1, fun r h k e => ((b r h).2 k e).2, fol⟩
theorem fol_s {l k l' k' : Int} (h1 : l' % l = 0) (h2 : 2 * l ≤ l') (h3 : k + l' ≤ k') : Fol (l, some k) (l', some k') := ⟨k, rfl, h1, h2, fun kb e => by cases e; exact h3⟩
theorem fol_n {l k l' : Int} (h1 : l' % l = 0) (h2 : 2 * l ≤ l') : Fol (l, some k) (l', none) := ⟨k, rfl, h1, h2, fun kb e => by cases e⟩
theorem bd_s {l k : Int} (a : 1 ≤ l) (b : l < 1000000000000) (c : 1 ≤ k) (d : k < 1000000000000) : (1 ≤ (l, some k).1 ∧ (l, some k).1 < 1000000000000) ∧ ∀ q, (l, some k).2 = some q → 1 ≤ q ∧ q < 1000000000000 := ⟨⟨a, b⟩, fun q e => by cases e; exact ⟨c, d⟩⟩
theorem bd_n {l : Int} (a : 1 ≤ l) (b : l < 1000000000000) : (1 ≤ (l, (none : Option Int)).1 ∧ (l, (none : Option Int)).1 < 1000000000000) ∧ ∀ q, (l, (none : Option Int)).2 = some q → 1 ≤ q ∧ q < 1000000000000 := ⟨⟨a, b⟩, fun q e => by cases e⟩
theorem ch_gr {R : Rows} {l k : Int} {n : Nat} (h : Ch R l k n) (hn : n ≤ 4) : ∃ P, R = P ++ [(l, some k)] ∧ GR R ∧ GR (P ++ [(l, none)]) := by
  cases h with
  | one a b =>
    refine ⟨[], rfl, gr_of (by simp) (by simp) ⟨_, _, rfl⟩ (fun r h => ?_) (fun z h => by simp at h), gr_of (by simp) (by simp) ⟨_, _, rfl⟩ (fun r h => ?_) (fun z h => by simp at h)⟩
    · simp at h; subst h; exact bd_s (by omega) (by omega) (by omega) (by omega)
    · simp at h; subst h; exact bd_n (by omega) (by omega)
  | snoc h1 a1 a2 a3 a4 a5 => cases h1 with
    | one a b =>
      refine ⟨_, rfl, gr_of (by simp) (by simp) ⟨_, _, rfl⟩ (fun r h => ?_) (fun z h => ?_), gr_of (by simp) (by simp) ⟨_, _, rfl⟩ (fun r h => ?_) (fun z h => ?_)⟩
      · simp at h; rcases h with rfl | rfl <;> exact bd_s (by omega) (by omega) (by omega) (by omega)
      · simp at h; subst h; exact fol_s a1 a2 a4
      · simp at h; rcases h with rfl | rfl
        · exact bd_s (by omega) (by omega) (by omega) (by omega)
        · exact bd_n (by omega) (by omega)
      · simp at h; subst h; exact fol_n a1 a2
    | snoc h2 b1 b2 b3 b4 b5 => cases h2 with
      | one a b =>
        refine ⟨_, rfl, gr_of (by simp) (by simp) ⟨_, _, rfl⟩ (fun r h => ?_) (fun z h => ?_), gr_of (by simp) (by simp) ⟨_, _, rfl⟩ (fun r h => ?_) (fun z h => ?_)⟩
        · simp at h; rcases h with rfl | rfl | rfl <;> exact bd_s (by omega) (by omega) (by omega) (by omega)
        · simp at h; rcases h with rfl | rfl
          · exact fol_s b1 b2 b4
          · exact fol_s a1 a2 a4
        · simp at h; rcases h with rfl | rfl | rfl
          · exact bd_s (by omega) (by omega) (by omega) (by omega)
          · exact bd_s (by omega) (by omega) (by omega) (by omega)
          · exact bd_n (by omega) (by omega)
        · simp at h; rcases h with rfl | rfl
          · exact fol_s b1 b2 b4
          · exact fol_n a1 a2
      | snoc h3 c1 c2 c3 c4 c5 => cases h3 with
        | one a b =>
          refine ⟨_, rfl, gr_of (by simp) (by simp) ⟨_, _, rfl⟩ (fun r h => ?_) (fun z h => ?_), gr_of (by simp) (by simp) ⟨_, _, rfl⟩ (fun r h => ?_) (fun z h => ?_)⟩
          · simp at h; rcases h with rfl | rfl | rfl | rfl <;> exact bd_s (by omega) (by omega) (by omega) (by omega)
          · simp at h; rcases h with rfl | rfl | rfl
            · exact fol_s c1 c2 c4
            · exact fol_s b1 b2 b4
            · exact fol_s a1 a2 a4
          · simp at h; rcases h with rfl | rfl | rfl | rfl
            · exact bd_s (by omega) (by omega) (by omega) (by omega)
            · exact bd_s (by omega) (by omega) (by omega) (by omega)
            · exact bd_s (by omega) (by omega) (by omega) (by omega)
            · exact bd_n (by omega) (by omega)
          · simp at h; rcases h with rfl | rfl | rfl
            · exact fol_s c1 c2 c4
            · exact fol_s b1 b2 b4
            · exact fol_n a1 a2
        | snoc h4 _ _ _ _ _ => have := h4.pos.2.2.1; omega
section
variable {φ : Sg} {K : Rt → Sg → Prop} {X : XC} {o : Addr} {p : Addr} {j : Nat}
theorem take_eq : m__law_take o = tk := rfl
theorem box_eq : m__law_box o = bxm := rfl
theorem cell_eq : m__law_cell o = clm := rfl
theorem take_ok {many : Int} (hb : Box φ p (j + 1)) (h0 : 0 < many) (h1 : many < 1073741824) (k : ∀ r φ', 0 ≤ r → r < many → Box φ' p j → Same φ φ' p → K (.d (.int r)) φ') : Wp (m__law_take o [.d (ptrD p), .d (.int many)]) φ K X := by
  rw [take_eq]
  exact tk_ok hb h0 h1 k
theorem atI_last {α : Type} {xs : List α} {y : α} (h : xs.getLast? = some y) : atI xs (-1) = some y := by
  unfold atI
  have hl : 0 < xs.length := by
    cases xs with
    | nil => cases h
    | cons _ _ => simp
  have hn : ixN xs.length (-1) = some (xs.length - 1) := by
    unfold ixN
    rw [if_neg (by decide), if_pos (by omega)]
    congr 1
    omega
  rw [hn]
  show xs[xs.length - 1]? = some y
  rw [← List.getLast?_eq_getElem?]; exact h
theorem at_last (P : Rows) (x : Int × Option Int) : atI (rsD (P ++ [x])) (-1) = some (rwD x) := atI_last (by unfold rsD; rw [List.map_append]; exact List.getLast?_concat)
theorem cut_last (P : Rows) (x : Int × Option Int) : cutD (rsD (P ++ [x])) none (some (-1)) = rsD P := by
  unfold cutD rsD
  rw [HT.sIx_none]
  have e : HT.sIx (List.map rwD (P ++ [x])).length (List.map rwD (P ++ [x])).length (some (-1)) = P.length := by
    show (if (-1 : Int) < 0 then (-1 + ((List.map rwD (P ++ [x])).length : Int)).toNat else min (-1 : Int).toNat (List.map rwD (P ++ [x])).length) = P.length
    rw [if_pos (by decide), List.length_map, List.length_append]
    simp only [List.length_cons, List.length_nil]
    omega
  rw [e, List.drop_zero, Nat.sub_zero, List.map_append]
  exact List.take_left' (List.length_map _)
theorem mulok (a b : Int) (ha : a.natAbs < 2 ^ 60) (hb : b.natAbs < 2 ^ 60) : MulOk a b := mulOk_of 60 60 ha hb (by decide) (by decide) (by decide)
theorem upto_len (n : Nat) : (upto n).length = n := by unfold upto; simp
theorem rsD_snoc (R : Rows) (l k : Int) : rsD (R ++ [(l, some k)]) = rsD R ++ [.tuple [.int l, .int k]] := by unfold rsD; rw [List.map_append]; rfl
theorem rsD_snocN (R : Rows) (l : Int) : rsD (R ++ [(l, none)]) = rsD R ++ [.tuple [.int l, .none]] := by unfold rsD; rw [List.map_append]; rfl
theorem rows_ok (hb : Box φ p (j + 20)) (k : ∀ P l kp φ', GR (P ++ [(l, some kp)]) → GR (P ++ [(l, none)]) → Box φ' p j → Same φ φ' p → K (.f (rsD (P ++ [(l, some kp)]))) φ') : Wp (m__law_rows o [.d (ptrD p)]) φ K X := by
  refine mdef_wp ?_
  fail "mi"
  refine take_ok (j := j + 19) hb (by decide) (by decide) fun n φ1 n0 n4 b1 s1 => ?_
  fail "mi"
  refine take_ok (j := j + 18) b1 (by decide) (by decide) fun q φ2 q0 q1 b2 s2 => ?_
  fail "mi"
  refine take_ok (j := j + 17) b2 (by decide) (by decide) fun k0 φ3 k00 k01 b3 s3 => ?_
  fail "mi"
  generalize hg : decide (q = 0) = gt
  try rw [if_pos (by omega)]
  fail "mi"
  refine for_wp (fun ds δ φ' => ∃ (R : Rows) (l kp : Int) (m : Nat) (s6 s7 : SD), δ = [.d (ptrD p), .d (.int (1 + n)), .d (.bool gt), .d (.int l), .d (.int kp), .own (rsD R), s6, s7] ∧ Ch R l kp m ∧ m + ds.length = (1 + n).toNat ∧ Box φ' p (j + 5 + 2 * ds.length) ∧ Same φ φ' p) (fun x xs δ φ4 hI => ?_) (fun δ φ4 hI => ?_) _ _ _ ⟨[(1, some (1 + k0))], 1, 1 + k0, 1, _, _, rfl, .one (by omega) (by omega), ?_, ?_, ?_⟩
  · obtain ⟨R, l, kp, m, s6, s7, rfl, hc, hm, b4, s4⟩ := hI
    refine ⟨_, rfl, ?_⟩
    rw [List.length_cons] at hm b4
    have hm4 : m ≤ 4 := by omega
    obtain ⟨P, eP, gP, _⟩ := ch_gr hc hm4
    have hin : (l, some kp) ∈ R := by rw [eP]; simp
    have l0 := gP.l0 _ hin
    have l1 := gP.l1 _ hin
    have kk0 := gP.k0 _ hin kp rfl
    have kk1 := gP.k1 _ hin kp rfl
    simp only [] at l0 l1
    fail "mi"
    refine take_ok (j := j + 5 + 2 * xs.length + 1) (b4.less (by omega)) (by decide) (by decide) fun r φ5 r0 r1 b5 s5 => ?_
    fail "mi"
    obtain ⟨v, ev, v0, v1⟩ := menuI (xs := [.int 2, .int 3, .int 2, .int 4, .int 5, .int 7]) 2 7 r0 r1 (fun x hx => by
      simp only [List.mem_cons, List.not_mem_nil, or_false] at hx
      rcases hx with rfl | rfl | rfl | rfl | rfl | rfl <;> exact ⟨_, rfl, by decide, by decide⟩)
    rw [ev]
    fail "mi"
    obtain ⟨z, ez, z0, z1⟩ : ∃ z : Int, atI [PyData.int 0, .int 995] (if gt = true then 1 else 0) = some (.int z) ∧ 0 ≤ z ∧ z ≤ 995 := by
      cases gt
      · exact ⟨0, atI_0, by decide, by decide⟩
      · exact ⟨995, atI_1, by decide, by decide⟩
    rw [ez]
    fail "mi"
    rw [if_pos (mulok _ _ (by omega) (by omega))]
    fail "mi"
    rw [if_pos (show Int.natAbs 10 < 2 ^ 64 by decide)]
    fail "mi"
    refine take_ok (j := j + 5 + 2 * xs.length) (b5.less (by omega)) (by split <;> decide) (by split <;> decide) fun r2 φ6 r20 r21 b6 s6' => ?_
    fail "mi"
    obtain ⟨e, ee, e0, e1⟩ := menuI (xs := [.int 0, .int 0, .int 1, .int 3, .int 11, .int 10000000000]) 0 10000000000 r20 (show r2 < 6 by revert r21; split <;> omega) (fun x hx => by
      simp only [List.mem_cons, List.not_mem_nil, or_false] at hx
      rcases hx with rfl | rfl | rfl | rfl | rfl | rfl <;> exact ⟨_, rfl, by decide, by decide⟩)
    rw [ee]
    fail "mi"
    have hlen := hc.pos.2.2.2
    rw [if_pos (by rw [rsD_len]; omega)]
    have w2 := Int.mul_le_mul_of_nonneg_left (show 2 ≤ v + z by omega) (show 0 ≤ l by omega)
    have w3 := Int.mul_le_mul_of_nonneg_left (show v + z ≤ 1002 by omega) (show 0 ≤ l by omega)
    rw [turn_nx]
    exact ⟨R ++ [(l * (v + z), some (kp + l * (v + z) + e))], l * (v + z), kp + l * (v + z) + e, m + 1, _, _, by rw [rsD_snoc], .snoc hc (Int.mul_emod_right _ _) (by omega) (by omega) (by omega) (by omega), by omega, b6, (s4.trans s5).trans s6'⟩
  · obtain ⟨R, l, kp, m, s6, s7, rfl, hc, hm, b4, s4⟩ := hI
    obtain ⟨P, rfl, gP, gN⟩ := ch_gr hc (by simp only [List.length_nil] at hm; omega)
    fail "mi"
    exact k P l kp φ4 gP gN (b4.less (by simp only [List.length_nil]; omega)) s4
  · rw [upto_len]; omega
  · rw [upto_len]; exact b3.less (by omega)
  · exact (s1.trans s2).trans s3
theorem folB_of {a b : Int × Option Int} (h : Fol a b) : folB a b = true := by
  obtain ⟨ka, e, h1, h2, h3⟩ := h
  unfold folB
  rw [e]
  show (decide (b.1 % a.1 = 0) && decide (2 * a.1 ≤ b.1) && folK (ka + b.1) b.2) = true
  rw [decide_eq_true h1, decide_eq_true h2, Bool.true_and, Bool.true_and]
  cases eb : b.2 with
  | none => rfl
  | some kb => exact decide_eq_true (h3 kb eb)
theorem gd_of {R : Rows} (g : GR R) : Gd R := by
  refine ⟨?_, fun r hr => ⟨by have := g.l0 r hr; have := g.l1 r hr; omega, fun n e => by have := g.k0 r hr n e; have := g.k1 r hr n e; omega⟩⟩
  have ha : (rsD R).all rowB = true := by
    rw [List.all_eq_true]
    intro x hx
    obtain ⟨r, hr, rfl⟩ := List.mem_map.mp hx
    exact rwD_row (g.l0 r hr) (g.k0 r hr)
  unfold itemsB
  rw [rowF_rs, ha, rsD_len, decide_eq_true g.n0, decide_eq_true g.n4]
  show okR R = true
  obtain ⟨k, r, e⟩ := g.one
  unfold okR
  have : ((R.zip R.tail).all fun z => folB z.1 z.2) = true := by
    rw [List.all_eq_true]
    intro z hz
    exact folB_of (g.fol z hz)
  rw [this, Bool.and_true, e]
  exact decide_eq_true rfl
theorem ended_ok {P : Rows} {l kp : Int} (hb : Box φ p (j + 1)) (hl : P.length ≤ 10) (k : ∀ kp' φ' r, (kp' = none ∨ kp' = some kp) → Rt.data r = .list (rsD (P ++ [(l, kp')])) → Box φ' p j → Same φ φ' p → K r φ') : Wp (m__law_ended o [.d (ptrD p), .d (.list (rsD (P ++ [(l, some kp)])))]) φ K X := by
  refine mdef_wp ?_
  fail "mi"
  refine take_ok (j := j) hb (by decide) (by decide) fun r φ1 r0 r1 b1 s1 => ?_
  fail "mi"
  by_cases hr : r = 0
  · rw [if_pos hr, cut_last, at_last]
    unfold rwD
    fail "mi"
    rw [if_pos (by rw [rsD_len]; omega)]
    fail "mi"
    exact k none φ1 _ (.inl rfl) (by rw [rsD_snocN]; rfl) b1 s1
  · rw [if_neg hr]
    fail "mi"
    exact k (some kp) φ1 _ (.inr rfl) rfl b1 s1
end
end Mi.K18

/-! K18p -/
set_option Elab.async false
set_option linter.all false
set_option maxRecDepth 100000
set_option maxHeartbeats 1000000
/-! ## values near rules -/
namespace Mi.K18
open PySem L2 Eg Mi
local macro_rules | `(tactic| fail "mi") => `(tactic| try simp (config := { decide := false, zeta := true, implicitDefEqProofs := false }) only [Mi.sSeq, Mi.sIf, Mi.sRet, Mi.sRetF, Mi.sRetN, Mi.sRetV, Mi.sNext, Mi.sAsg, Mi.sAsgF, Mi.sAsgC, Mi.sAsgC0, Mi.sDrop, Mi.sRaise, Mi.sFrz, Mi.sApp, Mi.sAppE, Mi.sSet, Mi.sPar, Mi.setAllS, Mi.pNil, Mi.pD, Mi.pF, Mi.setT_n, Mi.setAt, Mi.xC, Mi.xV, Mi.x1, Mi.x2, Mi.xIf, Mi.xAnd, Mi.xOr, Mi.xNot, Mi.tV, Mi.tAn, Mi.tOrr, Mi.tNo, Mi.tTrue, Mi.aNil, Mi.aC, Mi.aScr, Mi.aKw, Eg.swap2, Mi.xTup, Mi.xCall, Mi.xCall0, Mi.ofF, Mi.fLst, Mi.fList, Mi.iEnumM, Mi.fCat, Mi.fRep, Mi.xFld, Mi.xMeth, Mi.xMeth0, Mi.xMethK, Mi.xMake, Mi.sFldS, Mi.iLstM, Mi.iZipM, Mi.iEnumAM, Mi.xBy2, Mi.fRev, Mi.fLcD, Mi.sForD, Mi.sRaise0, Mi.sTry2, Mi.sAugI, Mi.sSetSl, Mi.fSl, Mi.x1D, Mi.x2d, Mi.fLcE, Mi.xReprN, Mi.iRevM, Mi.iRng3M, Mi.iRng2M, Mi.fLrg1, Mi.fCatV, Mi.sShr, Mi.sExt, Mi.sTryU, Mi.uGo, Mi.sSetSlP, Mi.xSlD, Mi.fLcZ, Mi.fSortSet, Mi.fIn, Mi.sTryM, Mi.mGo, Mi.xMakeK, Mi.fCall, Mi.fCall0, Mi.sSetSlE, Mi.iStrM, Mi.xJoin, Mi.unF, Mi.xIxD, Mi.keyOf, Mi.sSetD, Mi.xDc, Mi.xIdx, Mi.x2o, Mi.fSortSetN, Mi.xNewD, Mi.sTabF0, Mi.sTabF, Mi.tabAt, Mi.fBits, Mi.fLcX, Mi.fListZ, Mi.xIsiO, Mi.xIsiC, Mi.isL_dat, Mi.isL_ins, Mi.isC_dat, Mi.lo_int, Mi.lo_bool, Mi.lo_none, Mi.lo_str, Mi.lo_list, Mi.lo_tup, Mi.lo_d0, Mi.key_i, Mi.key_s, Mi.xInR, Mi.xIxR, Mi.xGet1, Mi.xGet2, Mi.xPop1, Mi.xPop2, Mi.xSetd, Mi.sDelD, Mi.sExtE, Mi.fSort, Mi.xSlS, Mi.fMulS_s, Mi.fIxS_s, Mi.fAdd_s, Mi.fInS_s, Mi.xSlD, Mi.iStrM, Mi.signs_s, Mi.setT_l2, Mi.setT_l3, Mi.setT_t2, Mi.setT_t3, Mi.xDictE, Mi.xReprE, Mi.sExtU, Mi.xTupD, Mi.xDictN, Mi.fMeth, Mi.fMeth0, Mi.fMethK, Mi.fIf, Mi.bn_tt, Mi.bn_tf, Mi.bn_ft, Mi.bn_ff, Option.getD_some, Option.getD_none, Option.isSome_some, Option.isSome_none, String.reduceEq, Mi.xNew, Mi.xIsi, Mi.xLen, Mi.xLenV, Mi.xIx, Mi.xIxV, Mi.xSl, Mi.xSlV, Mi.oNo, Mi.oAt, Mi.xTuple, Mi.xChain, Mi.xBy, Mi.xRepr, Mi.unF, Mi.fLc, Mi.wipeD, Mi.sTry, Mi.hGo, Mi.iRng1M, Mi.iRng2M, Mi.M.ret_bind, Mi.M.exc_bind, Mi.M.bad_bind, Mi.e_some, Mi.e_none, Mi.e_cret, Mi.e_cexc, Mi.e_cbad, Mi.e_nret, Mi.e_nexc, Mi.e_nbad, Mi.e_asB, Mi.e_true, Mi.e_false, Mi.W_ite, Mi.W_ret, Mi.W_exc, Mi.W_bad, Mi.W_bind, Mi.W_nox, Mi.W_catch, Mi.W_getLp, Mi.W_put, Mi.toRt_nx, Mi.toRt_rt, Mi.toRt_rf, Mi.toRt_xx, Mi.dat_nil, Mi.dat_cons, Mi.short, Mi.rdat_d, Mi.rdat_f, Mi.sd_d, Mi.sd_s, Mi.sn_int, Mi.sn_bool, Mi.sn_none, Mi.sn_str, Mi.sn_list, Mi.sn_tup, Mi.sn_d0, Mi.e_seenP, Mi.ptrOf_ptr, Mi.p_bool, Mi.p_int, Mi.p_none, Mi.p_str, Mi.p_list, Mi.p_tuple, Mi.sFor, Mi.iSeqM, Mi.ixN_0, Mi.ixN_1, Mi.ixN_2, Mi.ixN_3, Mi.ixN_4, Mi.ixN_5, Mi.atI_0, Mi.atI_1, Mi.atI_2, Mi.atI_3, Mi.atI_4, Mi.atI_5, Mi.isInt_int, Mi.isInt_bool, Mi.isInt_none, Mi.isInt_str, Mi.isInt_list, Mi.isInt_tup, Mi.isInt_dct, Mi.isBool_int, Mi.isBool_bool, Mi.isBool_none, Mi.isBool_str, Mi.isBool_list, Mi.isBool_tup, Mi.isBool_dct, Mi.isStr_int, Mi.isStr_bool, Mi.isStr_none, Mi.isStr_str, Mi.isStr_list, Mi.isStr_tup, Mi.isStr_dct, Mi.isLst_int, Mi.isLst_bool, Mi.isLst_none, Mi.isLst_str, Mi.isLst_list, Mi.isLst_tup, Mi.isLst_dct, Mi.isTup_int, Mi.isTup_bool, Mi.isTup_none, Mi.isTup_str, Mi.isTup_list, Mi.isTup_tup, Mi.isTup_dct, Mi.isDct_int, Mi.isDct_bool, Mi.isDct_none, Mi.isDct_str, Mi.isDct_list, Mi.isDct_tup, Mi.isDct_dct, Mi.isNone_int, Mi.isNone_bool, Mi.isNone_none, Mi.isNone_str, Mi.isNone_list, Mi.isNone_tup, Mi.isNone_dct, Mi.isPtr_int, Mi.isPtr_bool, Mi.isPtr_none, Mi.isPtr_str, Mi.isPtr_list, Mi.isPtr_tup, Mi.isPtr_d0, Mi.fAdd_i, Mi.fAdd_l, Mi.fAdd_t, Mi.fSub_i, Mi.fMul_i, Mi.fMul_l, Mi.fMod_i, Mi.fDiv_i, Mi.fPow_i, Mi.fCmp_i, Mi.fEq_i, Mi.fEq_s, Mi.fNe_i, Mi.fNe_s, Mi.fIsN_n, Mi.fNotN_n, Mi.fIx_l, Mi.fIx_t, Mi.fNeg_i, Mi.fLen_l, Mi.fLen_t, Mi.fAbs_i, Mi.fInt_i, Mi.fInt_b, Mi.fMax2_i, Mi.fMin2_i, Mi.fGcd_i, Mi.items_l, Mi.items_t, Mi.sliced_l, Mi.sliced_t, List.map_cons, List.map_nil, List.length_cons, List.length_nil, List.nil_append, List.cons_append, List.replicate, List.replicate_succ, List.replicate_zero, List.zip_cons_cons, List.zip_nil_right, Int.cast_ofNat_Int, Nat.reduceAdd, Nat.reduceSub, Nat.zero_add, Nat.reduceLeDiff, Nat.reduceEqDiff, List.getElem?_cons_zero, List.getElem?_cons_succ, List.getElem?_nil, List.set_cons_zero, List.set_cons_succ, List.set_nil, ite_true, ite_false, if_true, if_false, Option.map_some, Option.map_none, Option.some.injEq, Bool.not_true, Bool.not_false, decide_eq_true_eq, decide_true, decide_false, Int.reduceLT, Int.reduceLE, Int.reduceEq, Int.reduceNeg, Int.reduceAdd, Int.reduceSub, Int.reduceMul, Int.reducePow, Int.reduceToNat, Int.reduceEq, ne_eq, not_true_eq_false, not_false_eq_true, true_and, and_true, false_and, and_false, reduceCtorEq, eq_self])
structure ElV (e : PyData) : Prop where
  fl : flat e = true
  nb : Nb e
  sh : Sh e 2 60
structure SpV (s : PyData) : Prop where
  fl : flat s = true
  rb : Rb s
  sh : Sh s 3 300
structure VF (v : PyData) : Prop where
  fl : flat v = true
  vb : Vb v
  sh : Sh v 8 9000
theorem flat_all {xs : List PyData} (h : ∀ x, x ∈ xs → flat x = true) : flatL xs = true := by
  induction xs with
  | nil => rfl
  | cons x xs ih => unfold flatL; rw [h x List.mem_cons_self, ih fun y hy => h y (List.mem_cons_of_mem _ hy)]; rfl
theorem spv_tup {es : List PyData} (h : ∀ e, e ∈ es → ElV e) (hl : es.length ≤ 3) : SpV (.tuple es) :=
  ⟨by unfold flat; exact flat_all fun x hx => (h x hx).fl, fun ys e => by cases e; exact ⟨by omega, fun z hz => ⟨(h z hz).fl, (h z hz).nb⟩⟩, (sh_tuple (fun x hx => (h x hx).sh) hl).mono (by decide) (by decide)⟩
theorem spv_list {es : List PyData} (h : ∀ e, e ∈ es → ElV e) (hl : es.length ≤ 3) : SpV (.list es) :=
  ⟨by unfold flat; exact flat_all fun x hx => (h x hx).fl, (fun ys e => by cases e), (sh_list (fun x hx => (h x hx).sh) hl).mono (by decide) (by decide)⟩
theorem vf_list {es : List PyData} (h : ∀ e, e ∈ es → SpV e) (hl : es.length ≤ 12) : VF (.list es) :=
  ⟨by unfold flat; exact flat_all fun x hx => (h x hx).fl, fun ys e => by rcases e with e | e <;> cases e; exact ⟨by omega, fun z hz => ⟨(h z hz).fl, (h z hz).rb⟩⟩, (sh_list (fun x hx => (h x hx).sh) hl).mono (by decide) (by decide)⟩
theorem vf_tup {es : List PyData} (h : ∀ e, e ∈ es → SpV e) (hl : es.length ≤ 12) : VF (.tuple es) :=
  ⟨by unfold flat; exact flat_all fun x hx => (h x hx).fl, fun ys e => by rcases e with e | e <;> cases e; exact ⟨by omega, fun z hz => ⟨(h z hz).fl, (h z hz).rb⟩⟩, (sh_tuple (fun x hx => (h x hx).sh) hl).mono (by decide) (by decide)⟩
theorem el_int {n : Int} (h : n.natAbs < 2 ^ 55) : ElV (.int n) := ⟨rfl, fun m e => by cases e; exact h, bigI (Nat.lt_of_lt_of_le h (by decide))⟩
theorem el_none : ElV .none := ⟨rfl, fun m e => (nomatch e), sh_none⟩
theorem el_bool {b : Bool} : ElV (.bool b) := ⟨rfl, fun m e => (nomatch e), sh_bool⟩
theorem el_str {s : Str} (h : s.cps.size ≤ 60) (hc : (s.cps.toList.all fun c => decide (c < 16 ^ 8)) = true) : ElV (.str s) := ⟨rfl, fun m e => (nomatch e), sh_str h hc⟩
theorem el_kD {k : Option Int} (h : ∀ n, k = some n → n.natAbs < 2 ^ 55) : ElV (kD k) := by
  cases k with
  | none => exact el_none
  | some n => exact el_int (h n rfl)
/-- what is no tuple, in the place of a row -/
theorem sp_el {e : PyData} (h : ElV e) (hn : isTup e = false) : SpV e := ⟨h.fl, (fun ys z => by subst z; cases hn), h.sh.mono (by decide) (by decide)⟩
theorem vf_el {e : PyData} (h : ElV e) (hn : isTup e = false) (hl : isLst e = false) : VF e := ⟨h.fl, (fun ys z => by
  rcases z with z | z
  · subst z; cases hl
  · subst z; cases hn), h.sh.mono (by decide) (by decide)⟩
theorem sp_row {R : Rows} (h : Sm R) {r : Int × Option Int} (hr : r ∈ R) : SpV (rwD r) := by
  obtain ⟨a, b⟩ := r
  have := h _ hr
  exact spv_tup (fun e he => by
    simp only [List.mem_cons, List.not_mem_nil, or_false] at he
    rcases he with rfl | rfl
    · exact el_int this.1
    · exact el_kD this.2) (show 2 ≤ 3 by decide)
theorem sp_rows {R : Rows} (h : Sm R) : ∀ x, x ∈ rsD R → SpV x := fun x hx => by
  obtain ⟨r, hr, rfl⟩ := List.mem_map.mp hx
  exact sp_row h hr
theorem cut_mem {xs : List PyData} {lo hi : Option Int} {x : PyData} (h : x ∈ cutD xs lo hi) : x ∈ xs := List.mem_of_mem_drop (List.mem_of_mem_take h)
theorem cut_len (xs : List PyData) (lo hi : Option Int) : (cutD xs lo hi).length ≤ xs.length := by
  unfold cutD
  rw [List.length_take, List.length_drop]
  omega
noncomputable def VD (o_Rules : Addr) : S := (sSeq (sAsg (.n 11) (xTup (aC (x2 fMul (xC (.int 2)) (xIx (xIx (xV 1) (x1 fNeg (xC (.int 1)))) (xC (.int 0)))) (aC (x2 fAdd (xIx (xIx (xV 1) (x1 fNeg (xC (.int 1)))) (xC (.int 1))) (x2 fMul (xC (.int 2)) (xIx (xIx (xV 1) (x1 fNeg (xC (.int 1)))) (xC (.int 0))))) aNil))))
  (sSeq (sAsg (.n 10) (x2 fAdd (xV 10) (ofF (fLst (aC (ofF (fList (xV 2))) (aC (ofF (fList (xV 1))) (aC (xTuple (xV 2)) (aC (xTuple (xV 1)) (aC (x2 fAdd (xSl (xV 2) oNo (oAt (xV 3))) (xSl (xV 2) (oAt (x2 fAdd (xV 3) (xC (.int 1)))) oNo)) (aC (x2 fAdd (xV 2) (xSl (xV 2) (oAt (xV 3)) (oAt (x2 fAdd (xV 3) (xC (.int 1)))))) aNil))))))))))
  (sSeq (sAsg (.n 10) (x2 fAdd (xV 10) (ofF (fLst (aC (x2 fAdd (x2 fAdd (xSl (xV 2) oNo (oAt (xV 3))) (ofF (fRev (xSl (xV 2) (oAt (xV 3)) (oAt (x2 fAdd (xV 3) (xC (.int 2)))))))) (xSl (xV 2) (oAt (x2 fAdd (xV 3) (xC (.int 2)))) oNo)) (aC (x2 fAdd (xV 1) (ofF (fLst (aC (xV 11) aNil)))) (aC (x2 fAdd (xV 2) (ofF (fLst (aC (xV 11) aNil)))) (aC (ofF (fRev (xV 2))) aNil))))))))
  (sSeq (sAsg (.n 10) (x2 fAdd (xV 10) (ofF (fLst (aC (x2 fAdd (xV 1) (ofF (fLst (aC (xTup (aC (xIx (xV 11) (xC (.int 0))) (aC (xC .none) aNil))) aNil)))) (aC (x2 fAdd (xV 1) (ofF (fLst (aC (xTup (aC (xIx (xV 11) (xC (.int 0))) (aC (x2 fSub (xIx (xV 11) (xC (.int 1))) (xC (.int 1))) aNil))) aNil)))) (aC (x2 fAdd (ofF (fLst (aC (xC .none) aNil))) (xV 2)) (aC (x2 fAdd (xV 2) (ofF (fLst (aC (xC .none) aNil)))) aNil))))))))
  (sSeq (sAsg (.n 10) (x2 fAdd (xV 10) (ofF (fLst (aC (ofF (fLst (aC (xV 2) aNil))) (aC (x2 fAdd (xV 2) (ofF (fLst (aC (xTup aNil) aNil)))) (aC (ofF (fLst aNil)) (aC (xTup aNil) (aC (xC .none) (aC (xC (.int 0)) (aC (xC (.int 1)) (aC (xC (.bool true)) (aC (xC (.str "")) (aC (xC (.str "rules")) (aC (xC (.dict [])) aNil)))))))))))))))
  (sRet (x2 fAdd (xV 10) (ofF (fLst (aC (x1 fDict1 (ofF (fLst (aC (xTup (aC (xC (.int 1)) (aC (xC (.int 8)) aNil))) aNil)))) (aC (xDictE (ofF (fLst (aC (xTup (aC (xIx (xV 2) (xC (.int 0))) (aC (xC (.int 1)) aNil))) aNil)))) aNil)))))))))))
noncomputable def VC (o_Rules : Addr) : S := (sSeq (sAsg (.n 10) (ofF (fLc (iSeqM (xV 9)) (.n 12) tTrue (x2 fAdd (x2 fAdd (xSl (xV 2) oNo (oAt (xV 3))) (ofF (fLst (aC (xV 12) aNil)))) (xSl (xV 2) (oAt (x2 fAdd (xV 3) (xC (.int 1)))) oNo)) [12])))
  (VD o_Rules))
noncomputable def VB (o_Rules : Addr) : S := (sSeq (sAsg (.n 9) (ofF (fLst (aC (xTup (aC (x2 fAdd (xV 4) (xC (.int 1))) (aC (xV 5) aNil))) (aC (xTup (aC (x2 fSub (xV 4) (xC (.int 1))) (aC (xV 5) aNil))) (aC (xTup (aC (x2 fMul (xC (.int 2)) (xV 4)) (aC (xV 5) aNil))) (aC (xTup (aC (xV 4) (aC (x2 fSub (xV 6) (xC (.int 1))) aNil))) (aC (xTup (aC (xV 4) (aC (x2 fAdd (xV 6) (xC (.int 1))) aNil))) aNil))))))))
  (sSeq (sAsg (.n 9) (x2 fAdd (xV 9) (ofF (fLst (aC (xTup (aC (xV 4) (aC (xV 8) aNil))) (aC (xTup (aC (xV 4) (aC (x2 fSub (xV 8) (xC (.int 1))) aNil))) (aC (xTup (aC (xV 4) (aC (xC .none) aNil))) (aC (xTup (aC (xV 4) (aC (xC (.int 0)) aNil))) (aC (xTup (aC (xV 4) (aC (x1 fNeg (xV 6)) aNil))) (aC (xTup (aC (xC (.int 0)) (aC (xV 5) aNil))) aNil))))))))))
  (sSeq (sAsg (.n 9) (x2 fAdd (xV 9) (ofF (fLst (aC (xTup (aC (x1 fNeg (xV 4)) (aC (xV 5) aNil))) (aC (xTup (aC (xV 4) (aC (xC (.bool true)) aNil))) (aC (xTup (aC (xV 4) (aC (xC (.str "8")) aNil))) (aC (xTup (aC (xC (.bool true)) (aC (xV 5) aNil))) (aC (xTup (aC (x1 fStr (xV 4)) (aC (xV 5) aNil))) (aC (xTup (aC (xC .none) (aC (xV 5) aNil))) aNil))))))))))
  (sSeq (sAsg (.n 9) (x2 fAdd (xV 9) (ofF (fLst (aC (ofF (fLst (aC (xV 4) (aC (xV 5) aNil)))) (aC (xTup (aC (xV 4) aNil)) (aC (xTup (aC (xV 4) (aC (xV 5) (aC (xV 5) aNil)))) (aC (xTup (aC (xV 5) (aC (xV 4) aNil))) (aC (xC .none) (aC (xC (.int 1)) (aC (xC (.str "ab")) (aC (xTup aNil) aNil))))))))))))
  (sSeq (sAsg (.n 9) (x2 fAdd (xV 9) (ofF (fLst (aC (xTup (aC (x2 fMul (xC (.int 2)) (xIx (xV 7) (xC (.int 0)))) (aC (xV 6) aNil))) (aC (xTup (aC (xIx (xV 7) (xC (.int 0))) (aC (xV 6) aNil))) (aC (xTup (aC (x2 fMul (xC (.int 3)) (xIx (xV 7) (xC (.int 0)))) (aC (x2 fAdd (xV 8) (x2 fMul (xC (.int 2)) (xV 4))) aNil))) aNil)))))))
  (VC o_Rules))))))
section
variable {φ : Sg} {K : Rt → Sg → Prop} {X : XC} {o : Addr} {p : Addr} {j : Nat} {KF : Fl → Sg → Prop}
theorem small_str (s : String) : ((Str.ofString s).cps.toList.all fun c => decide (c < 16 ^ 8)) = true := by
  rw [List.all_eq_true]
  intro c hc
  have : c ∈ s.toList.map Char.toNat := by rw [Str.ofString_eq_toList] at hc; simpa using hc
  obtain ⟨ch, _, rfl⟩ := List.mem_map.mp this
  refine decide_eq_true ?_
  have := ch.val.toNat_lt
  exact this
theorem str_small (n : Int) (h : n.natAbs < 2 ^ 55) : (Str.ofString (toString n : String)).cps.size ≤ 60 ∧ ((Str.ofString (toString n : String)).cps.toList.all fun c => decide (c < 16 ^ 8)) = true := by
  refine ⟨?_, small_str _⟩
  have : (Str.ofString (toString n : String)).length ≤ 50 + 10 := by
    rw [ofString_length]
    exact Nat.le_trans (int_text_length_le10 (k := 20) (by decide) (Nat.lt_of_lt_of_le h (by decide +kernel))) (by decide)
  exact this
theorem sp1 {x : PyData} (h : ElV x) : SpV (.tuple [x]) := spv_tup (fun e he => by rw [List.mem_singleton.mp he]; exact h) (show 1 ≤ 3 by decide)
theorem sp2 {x y : PyData} (h : ElV x) (h2 : ElV y) : SpV (.tuple [x, y]) := spv_tup (fun e he => by
  simp only [List.mem_cons, List.not_mem_nil, or_false] at he
  rcases he with rfl | rfl
  · exact h
  · exact h2) (show 2 ≤ 3 by decide)
theorem sl2 {x y : PyData} (h : ElV x) (h2 : ElV y) : SpV (.list [x, y]) := spv_list (fun e he => by
  simp only [List.mem_cons, List.not_mem_nil, or_false] at he
  rcases he with rfl | rfl
  · exact h
  · exact h2) (show 2 ≤ 3 by decide)
theorem sp3 {x y z : PyData} (h : ElV x) (h2 : ElV y) (h3 : ElV z) : SpV (.tuple [x, y, z]) := spv_tup (fun e he => by
  simp only [List.mem_cons, List.not_mem_nil, or_false] at he
  rcases he with rfl | rfl | rfl
  · exact h
  · exact h2
  · exact h3) (show 3 ≤ 3 by decide)
theorem sp0 : SpV (.tuple []) := spv_tup (fun e he => absurd he (List.not_mem_nil)) (show 0 ≤ 3 by decide)
/-- a spot is put in: small lists of spots -/
theorem vb_ok {b0 b1 b2 b3 s9 s10 s11 s12 : SD} {a h a' h' f : Int} {b : Option Int} (ha : 0 ≤ a ∧ a < 1000000000000) (hh : 0 ≤ h ∧ h < 1000000000000) (ha' : 0 ≤ a' ∧ a' < 1000000000000) (hf : 0 ≤ f ∧ f < 3000000000000) (hb : ∀ n, b = some n → n.natAbs < 1000000000000)
    (kk : ∀ S : List PyData, (∀ x, x ∈ S → SpV x) → S.length ≤ 40 → Wp (VC o [b0, b1, b2, b3, .d (.int a), .d (kD b), .d (.int h), .d (.tuple [.int a', .int h']), .d (.int f), .d (.list S), s10, s11, s12]) φ KF X) :
    Wp (VB o [b0, b1, b2, b3, .d (.int a), .d (kD b), .d (.int h), .d (.tuple [.int a', .int h']), .d (.int f), s9, s10, s11, s12]) φ KF X := by
  obtain ⟨q1, q2⟩ := str_small a (by omega)
  have ek : ElV (kD b) := el_kD fun n e => Nat.lt_of_lt_of_le (hb n e) (by decide)
  unfold VB
  generalize VC o = T at kk ⊢
  generalize hkb : kD b = kb at ek kk ⊢
  fail "mi"
  rw [if_pos (mulok _ _ (by decide) (by omega))]
  fail "mi"
  have hs : fStr (.int a) = some (.str (toString a : String)) := if_pos (Nat.lt_trans (PySem.Flt.log2_lt_of (k := 60) (by decide) (by omega)) (by decide))
  rw [hs]
  fail "mi"
  rw [if_pos (mulok _ _ (by decide) (by omega))]
  fail "mi"
  rw [if_pos (mulok _ _ (by decide) (by omega))]
  fail "mi"
  have ii : ∀ n : Int, n.natAbs < 2 ^ 55 → ElV (.int n) := fun n h => el_int h
  have es : ElV (.str (toString a : String)) := el_str q1 q2
  have e8 : ElV (.str "8") := el_str (by decide +kernel) (by decide +kernel)
  have eab : ElV (.str "ab") := el_str (by decide +kernel) (by decide +kernel)
  refine kk _ (fun x hx => ?_) ?_
  case refine_2 => show 28 ≤ 40; decide
  simp only [List.mem_cons, List.not_mem_nil, or_false] at hx
  rcases hx with rfl | rfl | rfl | rfl | rfl | rfl | rfl | rfl | rfl | rfl | rfl | rfl | rfl | rfl | rfl | rfl | rfl | rfl | rfl | rfl | rfl | rfl | rfl | rfl | rfl | rfl | rfl | rfl
  all_goals first
    | exact sp2 (ii _ (by omega)) ek
    | exact sp2 (ii _ (by omega)) (ii _ (by omega))
    | exact sp2 (ii _ (by omega)) el_none
    | exact sp2 (ii _ (by omega)) el_bool
    | exact sp2 (ii _ (by omega)) e8
    | exact sp2 el_bool ek
    | exact sp2 es ek
    | exact sp2 el_none ek
    | exact sl2 (ii _ (by omega)) ek
    | exact sp1 (ii _ (by omega))
    | exact sp3 (ii _ (by omega)) ek ek
    | exact sp2 ek (ii _ (by omega))
    | exact sp_el el_none rfl
    | exact sp_el (ii _ (by omega)) rfl
    | exact sp_el eab rfl
    | exact sp0
end
end Mi.K18

/-! K18q -/
set_option Elab.async false
set_option linter.all false
set_option maxRecDepth 100000
set_option maxHeartbeats 1000000
/-! ## values near rules -/
namespace Mi.K18
open PySem L2 Eg Mi
local macro_rules | `(tactic| fail "mi") => `(tactic| try simp (config := { decide := false, zeta := true, implicitDefEqProofs := false }) only [Mi.sSeq, Mi.sIf, Mi.sRet, Mi.sRetF, Mi.sRetN, Mi.sRetV, Mi.sNext, Mi.sAsg, Mi.sAsgF, Mi.sAsgC, Mi.sAsgC0, Mi.sDrop, Mi.sRaise, Mi.sFrz, Mi.sApp, Mi.sAppE, Mi.sSet, Mi.sPar, Mi.setAllS, Mi.pNil, Mi.pD, Mi.pF, Mi.setT_n, Mi.setAt, Mi.xC, Mi.xV, Mi.x1, Mi.x2, Mi.xIf, Mi.xAnd, Mi.xOr, Mi.xNot, Mi.tV, Mi.tAn, Mi.tOrr, Mi.tNo, Mi.tTrue, Mi.aNil, Mi.aC, Mi.aScr, Mi.aKw, Eg.swap2, Mi.xTup, Mi.xCall, Mi.xCall0, Mi.ofF, Mi.fLst, Mi.fList, Mi.iEnumM, Mi.fCat, Mi.fRep, Mi.xFld, Mi.xMeth, Mi.xMeth0, Mi.xMethK, Mi.xMake, Mi.sFldS, Mi.iLstM, Mi.iZipM, Mi.iEnumAM, Mi.xBy2, Mi.fRev, Mi.fLcD, Mi.sForD, Mi.sRaise0, Mi.sTry2, Mi.sAugI, Mi.sSetSl, Mi.fSl, Mi.x1D, Mi.x2d, Mi.fLcE, Mi.xReprN, Mi.iRevM, Mi.iRng3M, Mi.iRng2M, Mi.fLrg1, Mi.fCatV, Mi.sShr, Mi.sExt, Mi.sTryU, Mi.uGo, Mi.sSetSlP, Mi.xSlD, Mi.fLcZ, Mi.fSortSet, Mi.fIn, Mi.sTryM, Mi.mGo, Mi.xMakeK, Mi.fCall, Mi.fCall0, Mi.sSetSlE, Mi.iStrM, Mi.xJoin, Mi.unF, Mi.xIxD, Mi.keyOf, Mi.sSetD, Mi.xDc, Mi.xIdx, Mi.x2o, Mi.fSortSetN, Mi.xNewD, Mi.sTabF0, Mi.sTabF, Mi.tabAt, Mi.fBits, Mi.fLcX, Mi.fListZ, Mi.xIsiO, Mi.xIsiC, Mi.isL_dat, Mi.isL_ins, Mi.isC_dat, Mi.lo_int, Mi.lo_bool, Mi.lo_none, Mi.lo_str, Mi.lo_list, Mi.lo_tup, Mi.lo_d0, Mi.key_i, Mi.key_s, Mi.xInR, Mi.xIxR, Mi.xGet1, Mi.xGet2, Mi.xPop1, Mi.xPop2, Mi.xSetd, Mi.sDelD, Mi.sExtE, Mi.fSort, Mi.xSlS, Mi.fMulS_s, Mi.fIxS_s, Mi.fAdd_s, Mi.fInS_s, Mi.xSlD, Mi.iStrM, Mi.signs_s, Mi.setT_l2, Mi.setT_l3, Mi.setT_t2, Mi.setT_t3, Mi.xDictE, Mi.xReprE, Mi.sExtU, Mi.xTupD, Mi.xDictN, Mi.fMeth, Mi.fMeth0, Mi.fMethK, Mi.fIf, Mi.bn_tt, Mi.bn_tf, Mi.bn_ft, Mi.bn_ff, Option.getD_some, Option.getD_none, Option.isSome_some, Option.isSome_none, String.reduceEq, Mi.xNew, Mi.xIsi, Mi.xLen, Mi.xLenV, Mi.xIx, Mi.xIxV, Mi.xSl, Mi.xSlV, Mi.oNo, Mi.oAt, Mi.xTuple, Mi.xChain, Mi.xBy, Mi.xRepr, Mi.unF, Mi.fLc, Mi.wipeD, Mi.sTry, Mi.hGo, Mi.iRng1M, Mi.iRng2M, Mi.M.ret_bind, Mi.M.exc_bind, Mi.M.bad_bind, Mi.e_some, Mi.e_none, Mi.e_cret, Mi.e_cexc, Mi.e_cbad, Mi.e_nret, Mi.e_nexc, Mi.e_nbad, Mi.e_asB, Mi.e_true, Mi.e_false, Mi.W_ite, Mi.W_ret, Mi.W_exc, Mi.W_bad, Mi.W_bind, Mi.W_nox, Mi.W_catch, Mi.W_getLp, Mi.W_put, Mi.toRt_nx, Mi.toRt_rt, Mi.toRt_rf, Mi.toRt_xx, Mi.dat_nil, Mi.dat_cons, Mi.short, Mi.rdat_d, Mi.rdat_f, Mi.sd_d, Mi.sd_s, Mi.sn_int, Mi.sn_bool, Mi.sn_none, Mi.sn_str, Mi.sn_list, Mi.sn_tup, Mi.sn_d0, Mi.e_seenP, Mi.ptrOf_ptr, Mi.p_bool, Mi.p_int, Mi.p_none, Mi.p_str, Mi.p_list, Mi.p_tuple, Mi.sFor, Mi.iSeqM, Mi.ixN_0, Mi.ixN_1, Mi.ixN_2, Mi.ixN_3, Mi.ixN_4, Mi.ixN_5, Mi.atI_0, Mi.atI_1, Mi.atI_2, Mi.atI_3, Mi.atI_4, Mi.atI_5, Mi.isInt_int, Mi.isInt_bool, Mi.isInt_none, Mi.isInt_str, Mi.isInt_list, Mi.isInt_tup, Mi.isInt_dct, Mi.isBool_int, Mi.isBool_bool, Mi.isBool_none, Mi.isBool_str, Mi.isBool_list, Mi.isBool_tup, Mi.isBool_dct, Mi.isStr_int, Mi.isStr_bool, Mi.isStr_none, Mi.isStr_str, Mi.isStr_list, Mi.isStr_tup, Mi.isStr_dct, Mi.isLst_int, Mi.isLst_bool, Mi.isLst_none, Mi.isLst_str, Mi.isLst_list, Mi.isLst_tup, Mi.isLst_dct, Mi.isTup_int, Mi.isTup_bool, Mi.isTup_none, Mi.isTup_str, Mi.isTup_list, Mi.isTup_tup, Mi.isTup_dct, Mi.isDct_int, Mi.isDct_bool, Mi.isDct_none, Mi.isDct_str, Mi.isDct_list, Mi.isDct_tup, Mi.isDct_dct, Mi.isNone_int, Mi.isNone_bool, Mi.isNone_none, Mi.isNone_str, Mi.isNone_list, Mi.isNone_tup, Mi.isNone_dct, Mi.isPtr_int, Mi.isPtr_bool, Mi.isPtr_none, Mi.isPtr_str, Mi.isPtr_list, Mi.isPtr_tup, Mi.isPtr_d0, Mi.fAdd_i, Mi.fAdd_l, Mi.fAdd_t, Mi.fSub_i, Mi.fMul_i, Mi.fMul_l, Mi.fMod_i, Mi.fDiv_i, Mi.fPow_i, Mi.fCmp_i, Mi.fEq_i, Mi.fEq_s, Mi.fNe_i, Mi.fNe_s, Mi.fIsN_n, Mi.fNotN_n, Mi.fIx_l, Mi.fIx_t, Mi.fNeg_i, Mi.fLen_l, Mi.fLen_t, Mi.fAbs_i, Mi.fInt_i, Mi.fInt_b, Mi.fMax2_i, Mi.fMin2_i, Mi.fGcd_i, Mi.items_l, Mi.items_t, Mi.sliced_l, Mi.sliced_t, List.map_cons, List.map_nil, List.length_cons, List.length_nil, List.nil_append, List.cons_append, List.replicate, List.replicate_succ, List.replicate_zero, List.zip_cons_cons, List.zip_nil_right, Int.cast_ofNat_Int, Nat.reduceAdd, Nat.reduceSub, Nat.zero_add, Nat.reduceLeDiff, Nat.reduceEqDiff, List.getElem?_cons_zero, List.getElem?_cons_succ, List.getElem?_nil, List.set_cons_zero, List.set_cons_succ, List.set_nil, ite_true, ite_false, if_true, if_false, Option.map_some, Option.map_none, Option.some.injEq, Bool.not_true, Bool.not_false, decide_eq_true_eq, decide_true, decide_false, Int.reduceLT, Int.reduceLE, Int.reduceEq, Int.reduceNeg, Int.reduceAdd, Int.reduceSub, Int.reduceMul, Int.reducePow, Int.reduceToNat, Int.reduceEq, ne_eq, not_true_eq_false, not_false_eq_true, true_and, and_true, false_and, and_false, reduceCtorEq, eq_self])
theorem _root_.Mi.Box.at_ {φ φ' : Sg} {p : Addr} {j : Nat} (h : Box φ p j) (e : φ' p = φ p) : Box φ' p j := by
  obtain ⟨g, f, c, n, hp, r⟩ := h
  exact ⟨g, f, c, n, by rw [e]; exact hp, r⟩
theorem _root_.Mi.Box.live {φ : Sg} {p : Addr} {j : Nat} (h : Box φ p j) : φ p ≠ none := by
  obtain ⟨g, f, c, n, hp, r⟩ := h
  rw [hp]; exact fun z => nomatch z
section
variable {φ : Sg} {K : Rt → Sg → Prop} {X : XC} {o : Addr} {p : Addr} {j : Nat} {KF : Fl → Sg → Prop} {R F : Rows}
theorem values_eq {o_Rules : Addr} : m__law_values o_Rules = mDef 13 3 (sSeq (sAsg (.n 3) (xCall0 (m__law_take o_Rules) (aC (xV 0) (aC (xLen (xV 2)) aNil))))
  (sSeq (sAsg (.t [4, 5]) (xIx (xV 2) (xV 3)))
  (sSeq (sPar [6, 7] (pD (xIx (xIx (xV 1) (xV 3)) (xC (.int 1))) (pD (xIx (xV 1) (x2 fMax2 (xC (.int 0)) (x2 fSub (xV 3) (xC (.int 1))))) pNil)))
  (sSeq (sAsg (.n 8) (x2 fAdd (xIx (xV 7) (xC (.int 1))) (xV 4)))
  (VB o_Rules))))) := rfl
/-- a value that is asked for -/
def VV (φ : Sg) (v : PyData) : Prop := VF v ∨ ∃ q k, v = ptrD q ∧ φ q = some (.opq [(k, .int 1)]) ∧ Sh k 8 9000 ∧ isNone k = false
theorem vd_ok {P : Rows} {l kp : Int} {kp' : Option Int} {w : Int} {Vs : List PyData} {b0 s4 s5 s6 s7 s8 s9 s11 s12 : SD} (hl : P.length ≤ 3) (hs : Sm (P ++ [(l, some kp)])) (hr : Sm (P ++ [(l, kp')])) (lb : 0 ≤ l ∧ l < 1000000000000) (kb : 0 ≤ kp ∧ kp < 1000000000000) (hV : ∀ v, v ∈ Vs → VF v) (hVl : Vs.length ≤ 40)
    (kk : ∀ vs φ', Ext φ φ' → (∀ v, v ∈ vs → VV φ' v) → K (.d (.list vs)) φ') :
    Wp (VD o [b0, .d (.list (rsD (P ++ [(l, some kp)]))), .d (.list (rsD (P ++ [(l, kp')]))), .d (.int w), s4, s5, s6, s7, s8, s9, .d (.list Vs), s11, s12]) φ (fun fl φ1 => Wp (toRt [] fl) φ1 K X) (fun _ _ _ => False) := by
  have sF := sp_rows hs
  have sR := sp_rows hr
  have lF : (rsD (P ++ [(l, some kp)])).length ≤ 4 := by rw [rsD_len, List.length_append]; simp only [List.length_cons, List.length_nil]; omega
  have lR : (rsD (P ++ [(l, kp')])).length ≤ 4 := by rw [rsD_len, List.length_append]; simp only [List.length_cons, List.length_nil]; omega
  have hlast : atI (rsD (P ++ [(l, some kp)])) (-1) = some (.tuple [.int l, .int kp]) := at_last P (l, some kp)
  have h0 := at_row (R := P ++ [(l, kp')]) (i := 0) (by omega) (by rw [List.length_append]; simp only [List.length_cons, List.length_nil]; omega)
  generalize hF : rsD (P ++ [(l, some kp)]) = LF at *
  generalize hR : rsD (P ++ [(l, kp')]) = LR at *
  generalize hrow : rowAt (P ++ [(l, kp')]) 0 = r0 at *
  have c1 := cut_len LR none (some w)
  have c2 := cut_len LR (some (w + 1)) none
  have c3 := cut_len LR (some w) (some (w + 1))
  have c4 := cut_len LR (some w) (some (w + 2))
  have c5 := cut_len LR (some (w + 2)) none
  have m1 : ∀ {a b : Option Int} {x : PyData}, x ∈ cutD LR a b → SpV x := fun h => sR _ (cut_mem h)
  have n1 : ∀ {x : PyData}, x ∈ cutD LR none (some w) → SpV x := m1
  have n2 : ∀ {x : PyData}, x ∈ cutD LR (some (w + 1)) none → SpV x := m1
  have n3 : ∀ {x : PyData}, x ∈ cutD LR (some w) (some (w + 1)) → SpV x := m1
  have n4 : ∀ {x : PyData}, x ∈ cutD LR (some w) (some (w + 2)) → SpV x := m1
  have n5 : ∀ {x : PyData}, x ∈ cutD LR (some (w + 2)) none → SpV x := m1
  clear m1
  unfold VD
  fail "mi"
  rw [hlast]
  fail "mi"
  rw [if_pos (mulok _ _ (by decide) (by omega))]
  fail "mi"
  generalize cutD LR none (some w) = A1 at *
  generalize cutD LR (some (w + 1)) none = A2 at *
  generalize cutD LR (some w) (some (w + 1)) = A3 at *
  generalize cutD LR (some w) (some (w + 2)) = A4 at *
  generalize cutD LR (some (w + 2)) none = A5 at *
  iterate 30 (try (rw [if_pos (by (try simp only [List.length_append, List.length_cons, List.length_nil, List.length_reverse]); omega)]; fail "mi"))
  obtain ⟨h00, h01⟩ := h0
  have hr0 := hr r0 h01
  obtain ⟨ra, rb⟩ := r0
  rw [show fDict1 (.list [.tuple [.int 1, .int 8]]) = some (.dict [(.int 1, .int 8)]) from rfl]
  fail "mi"
  rw [h00]
  unfold rwD
  fail "mi"
  rw [if_pos (show [PyData.int ra, kD rb].all nkB = true by cases rb <;> rfl), W_new]
  intro q hq
  rw [W_ret, if_pos (by simp only [List.length_append, List.length_cons, List.length_nil]; omega)]
  fail "mi"
  have vl : ∀ {xs : List PyData}, (∀ x, x ∈ xs → SpV x) → xs.length ≤ 12 → VV (put φ q (.opq [(.tuple [.int ra, kD rb], .int 1)])) (.list xs) := fun h hl => .inl (vf_list h hl)
  have ve : ∀ {e : PyData}, ElV e → isTup e = false → isLst e = false → VV (put φ q (.opq [(.tuple [.int ra, kD rb], .int 1)])) e := fun h a b => .inl (vf_el h a b)
  have el2 : ElV (.int (2 * l)) := el_int (by omega)
  have s1 : SpV (.tuple [.int (2 * l), .int (kp + 2 * l)]) := sp2 el2 (el_int (by omega))
  have s2 : SpV (.tuple [.int (2 * l), .none]) := sp2 el2 el_none
  have s3 : SpV (.tuple [.int (2 * l), .int (kp + 2 * l - 1)]) := sp2 el2 (el_int (by omega))
  have sn : SpV .none := sp_el el_none rfl
  have ap : ∀ {A B : List PyData}, (∀ x, x ∈ A → SpV x) → (∀ x, x ∈ B → SpV x) → ∀ x, x ∈ A ++ B → SpV x := fun a b x hx => (List.mem_append.mp hx).elim (a x) (b x)
  have o1 : ∀ {y : PyData}, SpV y → ∀ x, x ∈ [y] → SpV x := fun h x hx => by rw [List.mem_singleton.mp hx]; exact h
  have ln : ∀ {A B : List PyData} {a b : Nat}, A.length ≤ a → B.length ≤ b → a + b ≤ 12 → (A ++ B).length ≤ 12 := fun h1 h2 h3 => by rw [List.length_append]; omega
  refine kk _ _ (ext_put hq) fun v hv => ?_
  rcases List.mem_append.mp hv with hv | hv
  · rcases List.mem_append.mp hv with hv | hv
    · rcases List.mem_append.mp hv with hv | hv
      · rcases List.mem_append.mp hv with hv | hv
        · rcases List.mem_append.mp hv with hv | hv
          · exact .inl (hV v hv)
          · simp only [List.mem_cons, List.not_mem_nil, or_false] at hv
            rcases hv with rfl | rfl | rfl | rfl | rfl | rfl
            · exact vl sR (by omega)
            · exact vl sF (by omega)
            · exact .inl (vf_tup sR (by omega))
            · exact .inl (vf_tup sF (by omega))
            · exact vl (ap (fun x h => n1 h) (fun x h => n2 h)) (by rw [List.length_append]; omega)
            · exact vl (ap sR (fun x h => n3 h)) (by rw [List.length_append]; omega)
        · simp only [List.mem_cons, List.not_mem_nil, or_false] at hv
          rcases hv with rfl | rfl | rfl | rfl
          · exact vl (ap (ap (fun x h => n1 h) (fun x h => n4 (List.mem_reverse.mp h))) (fun x h => n5 h)) (by rw [List.length_append, List.length_append, List.length_reverse]; omega)
          · exact vl (ap sF (o1 s1)) (by rw [List.length_append]; simp only [List.length_cons, List.length_nil]; omega)
          · exact vl (ap sR (o1 s1)) (by rw [List.length_append]; simp only [List.length_cons, List.length_nil]; omega)
          · exact vl (fun x h => sR x (List.mem_reverse.mp h)) (by rw [List.length_reverse]; omega)
      · simp only [List.mem_cons, List.not_mem_nil, or_false] at hv
        rcases hv with rfl | rfl | rfl | rfl
        · exact vl (ap sF (o1 s2)) (by rw [List.length_append]; simp only [List.length_cons, List.length_nil]; omega)
        · exact vl (ap sF (o1 s3)) (by rw [List.length_append]; simp only [List.length_cons, List.length_nil]; omega)
        · exact vl (fun x h => (List.mem_cons.mp h).elim (fun e => e ▸ sn) (sR x)) (by rw [List.length_cons]; omega)
        · exact vl (ap sR (o1 sn)) (by rw [List.length_append]; simp only [List.length_cons, List.length_nil]; omega)
    · simp only [List.mem_cons, List.not_mem_nil, or_false] at hv
      rcases hv with rfl | rfl | rfl | rfl | rfl | rfl | rfl | rfl | rfl | rfl | rfl
      · have v1 := vf_list sR (by omega)
        have sh1 : Sh (.list LR) 5 2000 := (sh_list (fun x hx => (sR x hx).sh) lR).mono (by decide) (by decide)
        exact .inl ⟨by unfold flat flatL flatL; rw [v1.fl]; rfl, (fun ys e => by
          rcases e with e | e
          · cases e
            refine ⟨(show 1 ≤ 1000 by decide), fun z hz => ?_⟩
            rw [List.mem_singleton.mp hz]
            exact ⟨v1.fl, fun ys e => by cases e⟩
          · cases e), (sh_list (fun x hx => by rw [List.mem_singleton.mp hx]; exact sh1) (Nat.le_refl 1)).mono (by decide) (by decide)⟩
      · exact vl (ap sR (o1 sp0)) (by rw [List.length_append]; simp only [List.length_cons, List.length_nil]; omega)
      · exact vl (fun x h => absurd h (List.not_mem_nil)) (Nat.zero_le _)
      · exact .inl (vf_tup (fun x h => absurd h (List.not_mem_nil)) (Nat.zero_le _))
      · exact ve el_none rfl rfl
      · exact ve (el_int (by decide)) rfl rfl
      · exact ve (el_int (by decide)) rfl rfl
      · exact ve el_bool rfl rfl
      · exact ve (el_str (by decide +kernel) (by decide +kernel)) rfl rfl
      · exact ve (el_str (by decide +kernel) (by decide +kernel)) rfl rfl
      · exact .inl ⟨rfl, (fun ys e => by rcases e with e | e <;> cases e), sh_dict0⟩
  · simp only [List.mem_cons, List.not_mem_nil, or_false] at hv
    rcases hv with rfl | rfl
    · exact .inl ⟨rfl, (fun ys e => by rcases e with e | e <;> cases e), (sh_dict1 (n := 0) (m := 0) (bigI (by decide)) (bigI (by decide)) rfl).mono (by decide) (by decide)⟩
    · exact .inr ⟨q, _, rfl, put_same, (sh_tuple (k := 1) (m := 0) (n := 2) (fun x hx => by
        simp only [List.mem_cons, List.not_mem_nil, or_false] at hx
        rcases hx with rfl | rfl
        · exact bigI (Nat.lt_of_lt_of_le hr0.1 (by decide))
        · exact sh_kD fun n e => Nat.lt_of_lt_of_le (hr0.2 n e) (by decide)) (Nat.le_refl _)).mono (by decide) (by decide), rfl⟩
theorem vc_ok {w : Int} {S : List PyData} {b0 b1 s4 s5 s6 s7 s8 s10 s11 s12 : SD} (hr : Sm R) (hl : R.length ≤ 4) (hS : ∀ x, x ∈ S → SpV x) (hSl : S.length ≤ 40)
    (kk : ∀ Vs, (∀ v, v ∈ Vs → VF v) → Vs.length ≤ 40 → Wp (VD o [b0, b1, .d (.list (rsD R)), .d (.int w), s4, s5, s6, s7, s8, .d (.list S), .d (.list Vs), s11, s12]) φ KF X) :
    Wp (VC o [b0, b1, .d (.list (rsD R)), .d (.int w), s4, s5, s6, s7, s8, .d (.list S), s10, s11, s12]) φ KF X := by
  have sR := sp_rows hr
  have c1 := cut_len (rsD R) none (some w)
  have c2 := cut_len (rsD R) (some (w + 1)) none
  rw [rsD_len] at c1 c2
  unfold VC
  generalize VD o = T at kk ⊢
  fail "mi"
  rw [if_pos (by omega)]
  refine lc_pure (fun x => .list (cutD (rsD R) none (some w) ++ [x] ++ cutD (rsD R) (some (w + 1)) none)) (fun _ => true) _ _ (fun x hx => ?_) ?_
  · refine ⟨_, rfl, fun K' q => ?_, fun _ K' q => ?_⟩
    · unfold tTrue; rw [W_ret]; exact q
    · fail "mi"
      rw [if_pos (by omega)]
      fail "mi"
      rw [if_pos (by (try simp only [List.length_append, List.length_cons, List.length_nil]); omega)]
      fail "mi"
      exact q
  · rw [List.filter_eq_self.mpr (fun _ _ => rfl)]
    fail "mi"
    refine kk _ (fun v hv => ?_) (by rw [List.length_map]; exact hSl)
    obtain ⟨x, hx, rfl⟩ := List.mem_map.mp hv
    refine vf_list (fun y hy => ?_) (by simp only [List.length_append, List.length_cons, List.length_nil]; omega)
    rcases List.mem_append.mp hy with hy | hy
    · rcases List.mem_append.mp hy with hy | hy
      · exact sR _ (cut_mem hy)
      · rw [List.mem_singleton.mp hy]; exact hS x hx
    · exact sR _ (cut_mem hy)
theorem values_ok {P : Rows} {l kp : Int} {kp' : Option Int} (hb : Box φ p (j + 1)) (gF : GR (P ++ [(l, some kp)])) (gR : GR (P ++ [(l, kp')])) (hk : kp' = none ∨ kp' = some kp) (sm : ∀ r, r ∈ P → ∃ k, r.2 = some k)
    (kk : ∀ vs φ', (∀ q, q ≠ p → φ q ≠ none → φ' q = φ q) → Box φ' p j → (∀ v, v ∈ vs → VV φ' v) → K (.d (.list vs)) φ') :
    Wp (m__law_values o [.d (ptrD p), .d (.list (rsD (P ++ [(l, some kp)]))), .d (.list (rsD (P ++ [(l, kp')])))]) φ K X := by
  have dF := gd_of gF
  have dR := gd_of gR
  have lf := dF.len
  have lr := dR.len
  have hin : (l, some kp) ∈ P ++ [(l, some kp)] := by simp
  have l0 := gF.l0 _ hin
  have l1 := gF.l1 _ hin
  have k0 := gF.k0 _ hin kp rfl
  have k1 := gF.k1 _ hin kp rfl
  simp only [] at l0 l1
  have hlP : P.length ≤ 3 := by rw [List.length_append] at lf; simp only [List.length_cons, List.length_nil] at lf; omega
  have hll : (P ++ [(l, kp')]).length = (P ++ [(l, some kp)]).length := by rw [List.length_append, List.length_append]; rfl
  have sF : ∀ r, r ∈ P ++ [(l, some kp)] → ∃ k, r.2 = some k := fun r hr => by
    rcases List.mem_append.mp hr with h | h
    · exact sm r h
    · rw [List.mem_singleton.mp h]; exact ⟨kp, rfl⟩
  have vd := fun (φ : Sg) (w : Int) (Vs : List PyData) (b0 s4 s5 s6 s7 s8 s9 s11 s12 : SD) => vd_ok (o := o) (φ := φ) (K := K) (X := X) (P := P) (l := l) (kp := kp) (kp' := kp') (w := w) (Vs := Vs) (b0 := b0) (s4 := s4) (s5 := s5) (s6 := s6) (s7 := s7) (s8 := s8) (s9 := s9) (s11 := s11) (s12 := s12) hlP dF.sm dR.sm ⟨by omega, l1⟩ ⟨by omega, k1⟩
  have vc := fun (φ : Sg) (w : Int) (S : List PyData) (b0 b1 s4 s5 s6 s7 s8 s10 s11 s12 : SD) (KF : Fl → Sg → Prop) (X : XC) => vc_ok (o := o) (φ := φ) (KF := KF) (X := X) (R := P ++ [(l, kp')]) (w := w) (S := S) (b0 := b0) (b1 := b1) (s4 := s4) (s5 := s5) (s6 := s6) (s7 := s7) (s8 := s8) (s10 := s10) (s11 := s11) (s12 := s12) dR.sm lr.2
  have vb := fun (φ : Sg) (b0 b1 b2 b3 s9 s10 s11 s12 : SD) (a h a' h' f : Int) (b : Option Int) (KF : Fl → Sg → Prop) (X : XC) => vb_ok (o := o) (φ := φ) (KF := KF) (X := X) (b0 := b0) (b1 := b1) (b2 := b2) (b3 := b3) (s9 := s9) (s10 := s10) (s11 := s11) (s12 := s12) (a := a) (h := h) (a' := a') (h' := h') (f := f) (b := b)
  generalize hLR : P ++ [(l, kp')] = R at *
  generalize hLF : P ++ [(l, some kp)] = F at *
  rw [values_eq]
  refine mdef_wp ?_
  generalize VB o = TB at vb ⊢
  generalize VC o = TC at vc vb ⊢
  generalize VD o = TD at vd vc ⊢
  fail "mi"
  rw [rsD_len]
  refine take_ok (j := j) hb (by omega) (by omega) fun w φ1 w0 w1 b1 s1 => ?_
  fail "mi"
  have hw : w < F.length := by omega
  have rR := at_row (R := R) w0 w1
  have rF := at_row (R := F) w0 hw
  generalize hm : (if w - 1 > 0 then w - 1 else 0) = m
  have m0 : 0 ≤ m ∧ m < F.length := by rw [← hm]; split <;> omega
  have rM := at_row (R := F) m0.1 m0.2
  obtain ⟨hF, eF⟩ := sF _ rF.2
  obtain ⟨hM, eM⟩ := sF _ rM.2
  have a0 := gR.l0 _ rR.2
  have a1 := gR.l1 _ rR.2
  have h0 := gF.k0 _ rF.2 hF eF
  have h1 := gF.k1 _ rF.2 hF eF
  have am0 := gF.l0 _ rM.2
  have am1 := gF.l1 _ rM.2
  have hm0 := gF.k0 _ rM.2 hM eM
  have hm1 := gF.k1 _ rM.2 hM eM
  have bk := gR.k0 _ rR.2
  have bk1 := gR.k1 _ rR.2
  rw [rR.1]
  unfold rwD
  fail "mi"
  rw [rF.1]
  unfold rwD
  fail "mi"
  rw [eF, show kD (some hF) = .int hF from rfl]
  fail "mi"
  rw [hm, rM.1, show rwD (rowAt F m) = .tuple [.int (rowAt F m).1, kD (rowAt F m).2] from rfl, eM, show kD (some hM) = .int hM from rfl]
  fail "mi"
  refine vb φ1 _ _ _ _ _ _ _ _ _ hF (rowAt F m).1 hM _ (rowAt R w).2 _ _ ⟨by omega, a1⟩ ⟨by omega, h1⟩ ⟨by omega, am1⟩ ⟨by omega, by omega⟩ (fun n e => by have := bk n e; have := bk1 n e; omega) fun S hS hSl => ?_
  refine vc φ1 w S _ _ _ _ _ _ _ _ _ _ _ _ hS hSl fun Vs hV hVl => ?_
  refine vd φ1 w Vs _ _ _ _ _ _ _ _ _ hV hVl fun vs φ2 e2 hv => ?_
  refine kk vs φ2 (fun q hq hq2 => ?_) (b1.at_ ?_) hv
  · have e1 := s1 q hq
    cases ec : φ1 q with
    | none => rw [e1] at ec; exact absurd ec hq2
    | some c => rw [e2 q c ec, ← e1, ec]
  · cases ec : φ1 p with
    | none => exact absurd ec b1.live
    | some c => exact e2 p c ec
end
end Mi.K18

/-! K18r -/
set_option Elab.async false
set_option linter.all false
set_option maxRecDepth 100000
set_option maxHeartbeats 1000000
/-! ## two rules by turns -/
namespace Mi.K18
open PySem L2 Eg Mi
local macro_rules | `(tactic| fail "mi") => `(tactic| try simp (config := { decide := false, zeta := true, implicitDefEqProofs := false }) only [Mi.sSeq, Mi.sIf, Mi.sRet, Mi.sRetF, Mi.sRetN, Mi.sRetV, Mi.sNext, Mi.sAsg, Mi.sAsgF, Mi.sAsgC, Mi.sAsgC0, Mi.sDrop, Mi.sRaise, Mi.sFrz, Mi.sApp, Mi.sAppE, Mi.sSet, Mi.sPar, Mi.setAllS, Mi.pNil, Mi.pD, Mi.pF, Mi.setT_n, Mi.setAt, Mi.xC, Mi.xV, Mi.x1, Mi.x2, Mi.xIf, Mi.xAnd, Mi.xOr, Mi.xNot, Mi.tV, Mi.tAn, Mi.tOrr, Mi.tNo, Mi.tTrue, Mi.aNil, Mi.aC, Mi.aScr, Mi.aKw, Eg.swap2, Mi.xTup, Mi.xCall, Mi.xCall0, Mi.ofF, Mi.fLst, Mi.fList, Mi.iEnumM, Mi.fCat, Mi.fRep, Mi.xFld, Mi.xMeth, Mi.xMeth0, Mi.xMethK, Mi.xMake, Mi.sFldS, Mi.iLstM, Mi.iZipM, Mi.iEnumAM, Mi.xBy2, Mi.fRev, Mi.fLcD, Mi.sForD, Mi.sRaise0, Mi.sTry2, Mi.sAugI, Mi.sSetSl, Mi.fSl, Mi.x1D, Mi.x2d, Mi.fLcE, Mi.xReprN, Mi.iRevM, Mi.iRng3M, Mi.iRng2M, Mi.fLrg1, Mi.fCatV, Mi.sShr, Mi.sExt, Mi.sTryU, Mi.uGo, Mi.sSetSlP, Mi.xSlD, Mi.fLcZ, Mi.fSortSet, Mi.fIn, Mi.sTryM, Mi.mGo, Mi.xMakeK, Mi.fCall, Mi.fCall0, Mi.sSetSlE, Mi.iStrM, Mi.xJoin, Mi.unF, Mi.xIxD, Mi.keyOf, Mi.sSetD, Mi.xDc, Mi.xIdx, Mi.x2o, Mi.fSortSetN, Mi.xNewD, Mi.sTabF0, Mi.sTabF, Mi.tabAt, Mi.fBits, Mi.fLcX, Mi.fListZ, Mi.xIsiO, Mi.xIsiC, Mi.isL_dat, Mi.isL_ins, Mi.isC_dat, Mi.lo_int, Mi.lo_bool, Mi.lo_none, Mi.lo_str, Mi.lo_list, Mi.lo_tup, Mi.lo_d0, Mi.key_i, Mi.key_s, Mi.xInR, Mi.xIxR, Mi.xGet1, Mi.xGet2, Mi.xPop1, Mi.xPop2, Mi.xSetd, Mi.sDelD, Mi.sExtE, Mi.fSort, Mi.xSlS, Mi.fMulS_s, Mi.fIxS_s, Mi.fAdd_s, Mi.fInS_s, Mi.xSlD, Mi.iStrM, Mi.signs_s, Mi.setT_l2, Mi.setT_l3, Mi.setT_t2, Mi.setT_t3, Mi.xDictE, Mi.xReprE, Mi.sExtU, Mi.xTupD, Mi.xDictN, Mi.fMeth, Mi.fMeth0, Mi.fMethK, Mi.fIf, Mi.bn_tt, Mi.bn_tf, Mi.bn_ft, Mi.bn_ff, Option.getD_some, Option.getD_none, Option.isSome_some, Option.isSome_none, String.reduceEq, Mi.xNew, Mi.xIsi, Mi.xLen, Mi.xLenV, Mi.xIx, Mi.xIxV, Mi.xSl, Mi.xSlV, Mi.oNo, Mi.oAt, Mi.xTuple, Mi.xChain, Mi.xBy, Mi.xRepr, Mi.unF, Mi.fLc, Mi.wipeD, Mi.sTry, Mi.hGo, Mi.iRng1M, Mi.iRng2M, Mi.M.ret_bind, Mi.M.exc_bind, Mi.M.bad_bind, Mi.e_some, Mi.e_none, Mi.e_cret, Mi.e_cexc, Mi.e_cbad, Mi.e_nret, Mi.e_nexc, Mi.e_nbad, Mi.e_asB, Mi.e_true, Mi.e_false, Mi.W_ite, Mi.W_ret, Mi.W_exc, Mi.W_bad, Mi.W_bind, Mi.W_nox, Mi.W_catch, Mi.W_getLp, Mi.W_put, Mi.toRt_nx, Mi.toRt_rt, Mi.toRt_rf, Mi.toRt_xx, Mi.dat_nil, Mi.dat_cons, Mi.short, Mi.rdat_d, Mi.rdat_f, Mi.sd_d, Mi.sd_s, Mi.sn_int, Mi.sn_bool, Mi.sn_none, Mi.sn_str, Mi.sn_list, Mi.sn_tup, Mi.sn_d0, Mi.e_seenP, Mi.ptrOf_ptr, Mi.p_bool, Mi.p_int, Mi.p_none, Mi.p_str, Mi.p_list, Mi.p_tuple, Mi.sFor, Mi.iSeqM, Mi.ixN_0, Mi.ixN_1, Mi.ixN_2, Mi.ixN_3, Mi.ixN_4, Mi.ixN_5, Mi.atI_0, Mi.atI_1, Mi.atI_2, Mi.atI_3, Mi.atI_4, Mi.atI_5, Mi.isInt_int, Mi.isInt_bool, Mi.isInt_none, Mi.isInt_str, Mi.isInt_list, Mi.isInt_tup, Mi.isInt_dct, Mi.isBool_int, Mi.isBool_bool, Mi.isBool_none, Mi.isBool_str, Mi.isBool_list, Mi.isBool_tup, Mi.isBool_dct, Mi.isStr_int, Mi.isStr_bool, Mi.isStr_none, Mi.isStr_str, Mi.isStr_list, Mi.isStr_tup, Mi.isStr_dct, Mi.isLst_int, Mi.isLst_bool, Mi.isLst_none, Mi.isLst_str, Mi.isLst_list, Mi.isLst_tup, Mi.isLst_dct, Mi.isTup_int, Mi.isTup_bool, Mi.isTup_none, Mi.isTup_str, Mi.isTup_list, Mi.isTup_tup, Mi.isTup_dct, Mi.isDct_int, Mi.isDct_bool, Mi.isDct_none, Mi.isDct_str, Mi.isDct_list, Mi.isDct_tup, Mi.isDct_dct, Mi.isNone_int, Mi.isNone_bool, Mi.isNone_none, Mi.isNone_str, Mi.isNone_list, Mi.isNone_tup, Mi.isNone_dct, Mi.isPtr_int, Mi.isPtr_bool, Mi.isPtr_none, Mi.isPtr_str, Mi.isPtr_list, Mi.isPtr_tup, Mi.isPtr_d0, Mi.fAdd_i, Mi.fAdd_l, Mi.fAdd_t, Mi.fSub_i, Mi.fMul_i, Mi.fMul_l, Mi.fMod_i, Mi.fDiv_i, Mi.fPow_i, Mi.fCmp_i, Mi.fEq_i, Mi.fEq_s, Mi.fNe_i, Mi.fNe_s, Mi.fIsN_n, Mi.fNotN_n, Mi.fIx_l, Mi.fIx_t, Mi.fNeg_i, Mi.fLen_l, Mi.fLen_t, Mi.fAbs_i, Mi.fInt_i, Mi.fInt_b, Mi.fMax2_i, Mi.fMin2_i, Mi.fGcd_i, Mi.items_l, Mi.items_t, Mi.sliced_l, Mi.sliced_t, List.map_cons, List.map_nil, List.length_cons, List.length_nil, List.nil_append, List.cons_append, List.replicate, List.replicate_succ, List.replicate_zero, List.zip_cons_cons, List.zip_nil_right, Int.cast_ofNat_Int, Nat.reduceAdd, Nat.reduceSub, Nat.zero_add, Nat.reduceLeDiff, Nat.reduceEqDiff, List.getElem?_cons_zero, List.getElem?_cons_succ, List.getElem?_nil, List.set_cons_zero, List.set_cons_succ, List.set_nil, ite_true, ite_false, if_true, if_false, Option.map_some, Option.map_none, Option.some.injEq, Bool.not_true, Bool.not_false, decide_eq_true_eq, decide_true, decide_false, Int.reduceLT, Int.reduceLE, Int.reduceEq, Int.reduceNeg, Int.reduceAdd, Int.reduceSub, Int.reduceMul, Int.reducePow, Int.reduceToNat, Int.reduceEq, ne_eq, not_true_eq_false, not_false_eq_true, true_and, and_true, false_and, and_false, reduceCtorEq, eq_self])
/-- rows drawn: of all grains kept a while, and with the last one's end -/
structure Rw (F R : Rows) : Prop where
  ex : ∃ P l kp kp', F = P ++ [(l, some kp)] ∧ R = P ++ [(l, kp')] ∧ GR F ∧ GR R ∧ (kp' = none ∨ kp' = some kp) ∧ ∀ r, r ∈ P → ∃ k, r.2 = some k
theorem Rw.gd {F R : Rows} (h : Rw F R) : Gd R := by
  obtain ⟨P, l, kp, kp', rfl, rfl, gF, gR, _⟩ := h.ex
  exact gd_of gR
theorem p_some {P : Rows} {x : Int × Option Int} (g : GR (P ++ [x])) : ∀ r, r ∈ P → ∃ k, r.2 = some k := fun r hr => by
  obtain ⟨i, hi, e⟩ := List.getElem_of_mem hr
  have h1 : (P ++ [x])[i]? = some r := by rw [List.getElem?_append_left hi, List.getElem?_eq_getElem hi, e]
  have hl : i + 1 < (P ++ [x]).length := by rw [List.length_append]; simp only [List.length_cons, List.length_nil]; omega
  obtain ⟨ka, ek, _⟩ := g.fol _ (mem_zip h1 (List.getElem?_eq_getElem hl))
  exact ⟨ka, ek⟩
section
variable {φ : Sg} {K : Rt → Sg → Prop} {X : XC} {o r0 r1 : Addr} {p : Addr} {j : Nat} {KF : Fl → Sg → Prop} {R0 R1 F0 F1 : Rows}
abbrev rst (p r0 r1 : Addr) (F0 F1 R0 R1 : Rows) (s3 s5 s6 s7 s8 s9 s10 s11 : SD) : List SD := [.d (ptrD p), .d (.list [.list (rsD F0), .list (rsD F1)]), .d (.list [.list (rsD R0), .list (rsD R1)]), s3, .d (.list [ptrD r0, ptrD r1]), s5, s6, s7, s8, s9, s10, s11]
noncomputable def TG' (o_Rules : Addr) : S := (sIf (tNo (tV (xCall0 (m__law_grains_right o_Rules) (aC (xIx (xV 4) (x2 fMod (xV 6) (xC (.int 2)))) (aC (xIx (xV 2) (x2 fMod (xV 6) (xC (.int 2)))) (aC (x2 fDiv (xV 6) (xC (.int 2))) aNil)))))) (sRet (xC (.bool false))) sNext)
noncomputable def TA' (o_Rules : Addr) : S := (sSeq (sAsg (.n 7) (x2 fSub (xC (.int 1)) (xV 7)))
  (sIf (tNo (tV (xCall0 (m__law_asked_right o_Rules) (aC (xV 8) (aC (xCall0 (m__law_are_rules o_Rules) (aC (xV 8) aNil)) (aC (xV 7) aNil)))))) (sRet (xC (.bool false))) sNext))
noncomputable def TL' (o_Rules : Addr) : S := (sIf (tNo (tV (xCall0 (m__law_asked_right o_Rules) (aC (xFld o_Rules "rows" (xIx (xV 4) (xV 5))) (aC (xC (.bool true)) (aC (xV 5) aNil)))))) (sRet (xC (.bool false))) sNext)
noncomputable def TV' (o_Rules : Addr) : S := (sSeq (sFor (iSeqM (xCall0 (m__law_values o_Rules) (aC (xV 0) (aC (xIxV 1 (xV 5)) (aC (xIx (xV 2) (xV 5)) aNil))))) (.n 8) (TA' o_Rules)) (TL' o_Rules))
noncomputable def TE' (o_Rules : Addr) : S := (sTry Ls (sSeq (sDrop (xMake o_Rules (m_Rules____init__ o_Rules) (aC (xV 8) aNil)))
  (sRet (xC (.bool false)))) [("InvalidRules", 11, (sIf (tOrr (tNo (tV (xIsiC [o_Rules] o_Rules (xBy 11 "given")))) (tV (xEqO [o_Rules] [(o_Rules, (m_Rules____eq__ o_Rules))] true (xBy 11 "given") (xV 8)))) (sRet (xC (.bool false))) sNext))])
noncomputable def TF' (o_Rules : Addr) : S := (sRet (xAnd (xCall (m__law_equal_right o_Rules) (aC (xV 4) (aC (xV 2) aNil))) (xCall0 (m__law_grains_right o_Rules) (aC (xIx (xV 4) (xC (.int 0))) (aC (xIx (xV 2) (xC (.int 0))) (aC (xC (.int 1)) aNil))))))
theorem right_eq {o_Rules : Addr} : m__law_right o_Rules = mDef 12 1 ((sSeq (sAsgF 1 (fLst (aC (xCall0 (m__law_rows o_Rules) (aC (xV 0) aNil)) (aC (xCall0 (m__law_rows o_Rules) (aC (xV 0) aNil)) aNil))))
  (sSeq (sIf (tV (x2 fEq (xCall0 (m__law_take o_Rules) (aC (xV 0) (aC (xC (.int 3)) aNil))) (xC (.int 0)))) (sSet 1 (xC (.int 1)) (ofF (fList (xIxV 1 (xC (.int 0)))))) sNext)
  (sSeq (sFrz 1 (sAsg (.n 2) (ofF (fLc (iSeqM (xV 1)) (.n 9) tTrue (xCall0 (m__law_ended o_Rules) (aC (xV 0) (aC (xV 9) aNil))) [9]))))
  (sSeq (sAsg (.n 3) (ofF (fLc (iSeqM (xV 2)) (.n 10) tTrue (xNew (fList (xV 10))) [10])))
  (sSeq (sAsg (.n 4) (ofF (fLst (aC (xMake o_Rules (m_Rules____init__ o_Rules) (aC (xIx (xV 3) (xC (.int 0))) aNil)) (aC (xMake o_Rules (m_Rules____init__ o_Rules) (aC (xIx (xV 3) (xC (.int 1))) aNil)) aNil)))))
  (sSeq (sFor (iSeqM (ofF (fLst (aC (xC (.int 0)) (aC (xC (.int 1)) aNil))))) (.n 5) (sSetSlE (fLst (aC (xTup (aC (xC (.int 1)) (aC (xC (.int 1)) aNil))) aNil)) (xIx (xV 3) (xV 5)) oNo oNo))
  (sSeq (sFor (iRng1M (aC (xC (.int 4)) aNil)) (.n 6) (TG' o_Rules))
  (sSeq (sAsg (.n 7) (xC (.int 0)))
  (sSeq (sFor (iSeqM (ofF (fLst (aC (xC (.int 0)) (aC (xC (.int 1)) aNil))))) (.n 5) (TV' o_Rules))
  (sSeq (sFor (iSeqM (xV 4)) (.n 8) (TE' o_Rules))
  (TF' o_Rules)))))))))))) := rfl
theorem tg_ok {s3 s5 s7 s8 s9 s10 s11 : SD} {t : Int} (ht : t = 0 ∨ t = 1 ∨ t = 2 ∨ t = 3) (h0 : Ru o φ r0 R0) (h1 : Ru o φ r1 R1) (g0 : Gd R0) (g1 : Gd R1)
    (kk : ∀ φ', Ext φ φ' → KF (.nx (rst p r0 r1 F0 F1 R0 R1 s3 s5 (.d (.int t)) s7 s8 s9 s10 s11)) φ') : Wp (TG' o (rst p r0 r1 F0 F1 R0 R1 s3 s5 (.d (.int t)) s7 s8 s9 s10 s11)) φ KF X := by
  have gr := fun (r : Addr) (R : Rows) (w : Int) (K : Rt → Sg → Prop) (X : XC) (hr : Ru o φ r R) (g : Gd R) => grains_ok (o := o) (φ := φ) (r := r) (R := R) (w := w) (K := K) (X := X) hr g.sm g.len.1 g.len.2
  unfold TG'
  generalize m__law_grains_right o = T at gr ⊢
  rcases ht with rfl | rfl | rfl | rfl
  all_goals
    fail "mi"
    simp only [Int.reduceMod]
    fail "mi"
    rw [if_pos (show (Int.natAbs 2).log2 < 9000 by decide)]
    fail "mi"
  · refine gr r0 R0 _ _ _ h0 g0 fun φ' e => ?_
    fail "mi"
    exact kk φ' e
  · refine gr r1 R1 _ _ _ h1 g1 fun φ' e => ?_
    fail "mi"
    exact kk φ' e
  · refine gr r0 R0 _ _ _ h0 g0 fun φ' e => ?_
    fail "mi"
    exact kk φ' e
  · refine gr r1 R1 _ _ _ h1 g1 fun φ' e => ?_
    fail "mi"
    exact kk φ' e
theorem VV.ext {φ' : Sg} {v : PyData} (h : VV φ v) (e : Ext φ φ') : VV φ' v := by
  rcases h with h | ⟨q, k, a, b, c, d⟩
  · exact .inl h
  · exact .inr ⟨q, k, a, e q _ b, c, d⟩
theorem ta_ok {s3 s5 s6 s9 s10 s11 : SD} {t : Int} {v : PyData} (hv : VV φ v)
    (kk : ∀ φ', Ext φ φ' → KF (.nx (rst p r0 r1 F0 F1 R0 R1 s3 s5 s6 (.d (.int (1 - t))) (.d v) s9 s10 s11)) φ') : Wp (TA' o (rst p r0 r1 F0 F1 R0 R1 s3 s5 s6 (.d (.int t)) (.d v) s9 s10 s11)) φ KF X := by
  unfold TA'
  rcases hv with h | ⟨q, k, rfl, hq, sk, hn⟩
  · have ak := fun (w : Int) (K : Rt → Sg → Prop) (X : XC) => asked_ok (o := o) (φ := φ) (K := K) (X := X) (v := v) (w := w) h.fl h.vb h.sh
    generalize m__law_asked_right o = T at ak ⊢
    fail "mi"
    refine law_are_ok h.fl h.vb ?_
    fail "mi"
    refine ak _ _ _ fun φ' e => ?_
    fail "mi"
    exact kk φ' e
  · have ak := fun (w : Int) (K : Rt → Sg → Prop) (X : XC) => asked_opq (o := o) (φ := φ) (K := K) (X := X) (w := w) hq sk (bigI (by decide)) hn
    generalize m__law_asked_right o = T at ak ⊢
    fail "mi"
    refine law_are_no (nls_opq hq) ?_
    fail "mi"
    refine ak _ _ _ fun φ' e => ?_
    fail "mi"
    exact kk φ' e
theorem tup_vf {R : Rows} (g : Gd R) : flat (.tuple (rsD R)) = true ∧ Vb (.tuple (rsD R)) ∧ Sh (.tuple (rsD R)) 8 9000 := by
  have l := g.len
  exact ⟨by unfold flat; exact sm_flat, vb_rs g.sm (by omega) ⟨.inr rfl⟩, (sh_tup (g.sm.sh (by omega) (k := 0))).mono (by decide) (by decide)⟩
theorem tl_ok {s3 s6 s7 s8 s9 s10 s11 : SD} {t : Int} (ht : t = 0 ∨ t = 1) (h0 : Ru o φ r0 R0) (h1 : Ru o φ r1 R1) (g0 : Gd R0) (g1 : Gd R1)
    (kk : ∀ φ', Ext φ φ' → KF (.nx (rst p r0 r1 F0 F1 R0 R1 s3 (.d (.int t)) s6 s7 s8 s9 s10 s11)) φ') : Wp (TL' o (rst p r0 r1 F0 F1 R0 R1 s3 (.d (.int t)) s6 s7 s8 s9 s10 s11)) φ KF X := by
  have ak := fun (R : Rows) (g : Gd R) (w : Int) (K : Rt → Sg → Prop) (X : XC) (kk : ∀ φ', Ext φ φ' → K (.d (.bool true)) φ') => (show Wp (m__law_asked_right o [.d (.tuple (rsD R)), .d (.bool true), .d (.int w)]) φ K X from by
    have := asked_ok (o := o) (φ := φ) (K := K) (X := X) (v := .tuple (rsD R)) (w := w) (tup_vf g).1 (tup_vf g).2.1 (tup_vf g).2.2 kk
    rw [show rulesB (.tuple (rsD R)) = itemsB (rsD R) from rfl, g.ok] at this
    exact this)
  unfold TL'
  generalize m__law_asked_right o = T at ak ⊢
  rcases ht with rfl | rfl
  · fail "mi"
    rw [w_seeI h0, lk_rows]
    fail "mi"
    refine ak R0 g0 _ _ _ fun φ' e => ?_
    fail "mi"
    exact kk φ' e
  · fail "mi"
    rw [w_seeI h1, lk_rows]
    fail "mi"
    refine ak R1 g1 _ _ _ fun φ' e => ?_
    fail "mi"
    exact kk φ' e
theorem rw_values {F R : Rows} (h : Rw F R) (hb : Box φ p (j + 1))
    (kk : ∀ vs φ', (∀ q, q ≠ p → φ q ≠ none → φ' q = φ q) → Box φ' p j → (∀ v, v ∈ vs → VV φ' v) → K (.d (.list vs)) φ') : Wp (m__law_values o [.d (ptrD p), .d (.list (rsD F)), .d (.list (rsD R))]) φ K X := by
  obtain ⟨P, l, kp, kp', rfl, rfl, gF, gR, hk, sm⟩ := h.ex
  exact values_ok hb gF gR hk sm kk
theorem tv_ok {s3 s6 s8 s9 s10 s11 : SD} {t w : Int} (ht : t = 0 ∨ t = 1) (hb : Box φ p (j + 1)) (n0 : r0 ≠ p) (n1 : r1 ≠ p) (h0 : Ru o φ r0 R0) (h1 : Ru o φ r1 R1) (w0 : Rw F0 R0) (w1 : Rw F1 R1)
    (kk : ∀ φ' w' s8', Ru o φ' r0 R0 → Ru o φ' r1 R1 → Box φ' p j → KF (.nx (rst p r0 r1 F0 F1 R0 R1 s3 (.d (.int t)) s6 (.d (.int w')) s8' s9 s10 s11)) φ') : Wp (TV' o (rst p r0 r1 F0 F1 R0 R1 s3 (.d (.int t)) s6 (.d (.int w)) s8 s9 s10 s11)) φ KF X := by
  have va := fun (F R : Rows) (h : Rw F R) (K : Rt → Sg → Prop) (X : XC) => rw_values (o := o) (φ := φ) (K := K) (X := X) h hb
  have ta := fun (φ : Sg) (s3 s5 s6 s9 s10 s11 : SD) (t : Int) (v : PyData) (KF : Fl → Sg → Prop) (X : XC) => ta_ok (o := o) (φ := φ) (p := p) (r0 := r0) (r1 := r1) (F0 := F0) (F1 := F1) (R0 := R0) (R1 := R1) (KF := KF) (X := X) (s3 := s3) (s5 := s5) (s6 := s6) (s9 := s9) (s10 := s10) (s11 := s11) (t := t) (v := v)
  have tl := fun (φ : Sg) (s3 s6 s7 s8 s9 s10 s11 : SD) (KF : Fl → Sg → Prop) (X : XC) (h0 : Ru o φ r0 R0) (h1 : Ru o φ r1 R1) => tl_ok (o := o) (φ := φ) (p := p) (r0 := r0) (r1 := r1) (F0 := F0) (F1 := F1) (R0 := R0) (R1 := R1) (KF := KF) (X := X) (s3 := s3) (s6 := s6) (s7 := s7) (s8 := s8) (s9 := s9) (s10 := s10) (s11 := s11) ht h0 h1 w0.gd w1.gd
  unfold TV'
  generalize m__law_values o = T at va ⊢
  generalize TA' o = TA at ta ⊢
  generalize TL' o = TL at tl ⊢
  have go : ∀ (vs : List PyData) (φ1 : Sg), Ru o φ1 r0 R0 → Ru o φ1 r1 R1 → Box φ1 p j → (∀ v, v ∈ vs → VV φ1 v) → Wp (forGo (.n 8) TA vs (rst p r0 r1 F0 F1 R0 R1 s3 (.d (.int t)) s6 (.d (.int w)) s8 s9 s10 s11)) φ1 (fun fl φ1 => Wp (match fl with
      | .nx δ1 => TL δ1
      | fl => M.ret fl) φ1 KF X) X := fun vs φ1 a0 a1 b1 hv => by
    refine for_wp (fun ds δ φ' => (∃ w' s8', δ = rst p r0 r1 F0 F1 R0 R1 s3 (.d (.int t)) s6 (.d (.int w')) s8' s9 s10 s11) ∧ Ru o φ' r0 R0 ∧ Ru o φ' r1 R1 ∧ Box φ' p j ∧ ∀ v, v ∈ ds → VV φ' v) (fun v ds δ φ' hI => ?_) (fun δ φ' hI => ?_) _ _ _ ⟨⟨_, _, rfl⟩, a0, a1, b1, hv⟩
    · obtain ⟨⟨w', s8', rfl⟩, b0, b1, bb, hv⟩ := hI
      refine ⟨_, rfl, ?_⟩
      refine ta φ' _ _ _ _ _ _ w' v _ _ (hv v List.mem_cons_self) fun φ2 e => ?_
      rw [turn_nx]
      exact ⟨⟨_, _, rfl⟩, e _ _ b0, e _ _ b1, bb.at_ (by
        cases ec : φ' p with
        | none => exact absurd ec bb.live
        | some c => exact e p c ec), fun v h => (hv v (List.mem_cons_of_mem _ h)).ext e⟩
    · obtain ⟨⟨w', s8', rfl⟩, b0, b1, bb, hv⟩ := hI
      refine tl φ' _ _ _ _ _ _ _ _ _ b0 b1 fun φ2 e => ?_
      exact kk φ2 w' _ (e _ _ b0) (e _ _ b1) (bb.at_ (by
        cases ec : φ' p with
        | none => exact absurd ec bb.live
        | some c => exact e p c ec))
  have st : ∀ {φ' : Sg} {r : Addr} {R : Rows}, (∀ q, q ≠ p → φ q ≠ none → φ' q = φ q) → r ≠ p → Ru o φ r R → Ru o φ' r R := fun hs hn hr => by
    show _ = _
    rw [hs _ hn (by rw [hr]; exact fun z => nomatch z)]
    exact hr
  rcases ht with rfl | rfl
  · fail "mi"
    refine va F0 R0 w0 _ _ fun vs φ1 hs b1 hv => ?_
    fail "mi"
    exact go vs φ1 (st hs n0 h0) (st hs n1 h1) b1 hv
  · fail "mi"
    refine va F1 R1 w1 _ _ fun vs φ1 hs b1 hv => ?_
    fail "mi"
    exact go vs φ1 (st hs n0 h0) (st hs n1 h1) b1 hv
theorem te_ok {s3 s5 s6 s7 s9 s10 s11 : SD} {r : Addr} {R : Rows} (hr : Ru o φ r R)
    (kk : ∀ φ', Ext φ φ' → KF (.nx (rst p r0 r1 F0 F1 R0 R1 s3 s5 s6 s7 (.d (ptrD r)) s9 s10 .u)) φ') : Wp (TE' o (rst p r0 r1 F0 F1 R0 R1 s3 s5 s6 s7 (.d (ptrD r)) s9 s10 s11)) φ KF X := by
  unfold TE'
  fail "mi"
  refine make_no (fun φ' e => nls_ins (C := o) (e r _ hr)) fun φ2 e2 => ?_
  rw [if_pos (show "InvalidRules" ∈ Ls by decide)]
  have hr2 : Ru o φ2 r R := e2 r _ hr
  fail "mi"
  have co : List.contains [o] o = true := by simp
  rw [look_ins hr2 co]
  have ic : isC o (.ins o [(("rows" : Str), .tuple (rsD R))]) = true := by show decide (o = o) = true; exact decide_eq_true rfl
  fail "mi"
  rw [ic]
  fail "mi"
  rw [w_eqO]
  fail "mi"
  refine eqT_ok hr2 hr2 ?_
  rw [decide_eq_true (rfl : R = R)]
  fail "mi"
  try simp only [Bool.bne_true, Bool.not_true]
  fail "mi"
  exact kk φ2 e2
end
end Mi.K18

/-! K18z0 -/
set_option Elab.async false
set_option linter.all false
set_option maxRecDepth 100000
set_option maxHeartbeats 1000000
/-! ## the law -/
namespace Mi.K18
open PySem L2 Eg Mi
local macro_rules | `(tactic| fail "mi") => `(tactic| try simp (config := { decide := false, zeta := true, implicitDefEqProofs := false }) only [Mi.sSeq, Mi.sIf, Mi.sRet, Mi.sRetF, Mi.sRetN, Mi.sRetV, Mi.sNext, Mi.sAsg, Mi.sAsgF, Mi.sAsgC, Mi.sAsgC0, Mi.sDrop, Mi.sRaise, Mi.sFrz, Mi.sApp, Mi.sAppE, Mi.sSet, Mi.sPar, Mi.setAllS, Mi.pNil, Mi.pD, Mi.pF, Mi.setT_n, Mi.setAt, Mi.xC, Mi.xV, Mi.x1, Mi.x2, Mi.xIf, Mi.xAnd, Mi.xOr, Mi.xNot, Mi.tV, Mi.tAn, Mi.tOrr, Mi.tNo, Mi.tTrue, Mi.aNil, Mi.aC, Mi.aScr, Mi.aKw, Eg.swap2, Mi.xTup, Mi.xCall, Mi.xCall0, Mi.ofF, Mi.fLst, Mi.fList, Mi.iEnumM, Mi.fCat, Mi.fRep, Mi.xFld, Mi.xMeth, Mi.xMeth0, Mi.xMethK, Mi.xMake, Mi.sFldS, Mi.iLstM, Mi.iZipM, Mi.iEnumAM, Mi.xBy2, Mi.fRev, Mi.fLcD, Mi.sForD, Mi.sRaise0, Mi.sTry2, Mi.sAugI, Mi.sSetSl, Mi.fSl, Mi.x1D, Mi.x2d, Mi.fLcE, Mi.xReprN, Mi.iRevM, Mi.iRng3M, Mi.iRng2M, Mi.fLrg1, Mi.fCatV, Mi.sShr, Mi.sExt, Mi.sTryU, Mi.uGo, Mi.sSetSlP, Mi.xSlD, Mi.fLcZ, Mi.fSortSet, Mi.fIn, Mi.sTryM, Mi.mGo, Mi.xMakeK, Mi.fCall, Mi.fCall0, Mi.sSetSlE, Mi.iStrM, Mi.xJoin, Mi.unF, Mi.xIxD, Mi.keyOf, Mi.sSetD, Mi.xDc, Mi.xIdx, Mi.x2o, Mi.fSortSetN, Mi.xNewD, Mi.sTabF0, Mi.sTabF, Mi.tabAt, Mi.fBits, Mi.fLcX, Mi.fListZ, Mi.xIsiO, Mi.xIsiC, Mi.isL_dat, Mi.isL_ins, Mi.isC_dat, Mi.lo_int, Mi.lo_bool, Mi.lo_none, Mi.lo_str, Mi.lo_list, Mi.lo_tup, Mi.lo_d0, Mi.key_i, Mi.key_s, Mi.xInR, Mi.xIxR, Mi.xGet1, Mi.xGet2, Mi.xPop1, Mi.xPop2, Mi.xSetd, Mi.sDelD, Mi.sExtE, Mi.fSort, Mi.xSlS, Mi.fMulS_s, Mi.fIxS_s, Mi.fAdd_s, Mi.fInS_s, Mi.xSlD, Mi.iStrM, Mi.signs_s, Mi.setT_l2, Mi.setT_l3, Mi.setT_t2, Mi.setT_t3, Mi.xDictE, Mi.xReprE, Mi.sExtU, Mi.xTupD, Mi.xDictN, Mi.fMeth, Mi.fMeth0, Mi.fMethK, Mi.fIf, Mi.bn_tt, Mi.bn_tf, Mi.bn_ft, Mi.bn_ff, Option.getD_some, Option.getD_none, Option.isSome_some, Option.isSome_none, String.reduceEq, Mi.xNew, Mi.xIsi, Mi.xLen, Mi.xLenV, Mi.xIx, Mi.xIxV, Mi.xSl, Mi.xSlV, Mi.oNo, Mi.oAt, Mi.xTuple, Mi.xChain, Mi.xBy, Mi.xRepr, Mi.unF, Mi.fLc, Mi.wipeD, Mi.sTry, Mi.hGo, Mi.iRng1M, Mi.iRng2M, Mi.M.ret_bind, Mi.M.exc_bind, Mi.M.bad_bind, Mi.e_some, Mi.e_none, Mi.e_cret, Mi.e_cexc, Mi.e_cbad, Mi.e_nret, Mi.e_nexc, Mi.e_nbad, Mi.e_asB, Mi.e_true, Mi.e_false, Mi.W_ite, Mi.W_ret, Mi.W_exc, Mi.W_bad, Mi.W_bind, Mi.W_nox, Mi.W_catch, Mi.W_getLp, Mi.W_put, Mi.toRt_nx, Mi.toRt_rt, Mi.toRt_rf, Mi.toRt_xx, Mi.dat_nil, Mi.dat_cons, Mi.short, Mi.rdat_d, Mi.rdat_f, Mi.sd_d, Mi.sd_s, Mi.sn_int, Mi.sn_bool, Mi.sn_none, Mi.sn_str, Mi.sn_list, Mi.sn_tup, Mi.sn_d0, Mi.e_seenP, Mi.ptrOf_ptr, Mi.p_bool, Mi.p_int, Mi.p_none, Mi.p_str, Mi.p_list, Mi.p_tuple, Mi.sFor, Mi.iSeqM, Mi.ixN_0, Mi.ixN_1, Mi.ixN_2, Mi.ixN_3, Mi.ixN_4, Mi.ixN_5, Mi.atI_0, Mi.atI_1, Mi.atI_2, Mi.atI_3, Mi.atI_4, Mi.atI_5, Mi.isInt_int, Mi.isInt_bool, Mi.isInt_none, Mi.isInt_str, Mi.isInt_list, Mi.isInt_tup, Mi.isInt_dct, Mi.isBool_int, Mi.isBool_bool, Mi.isBool_none, Mi.isBool_str, Mi.isBool_list, Mi.isBool_tup, Mi.isBool_dct, Mi.isStr_int, Mi.isStr_bool, Mi.isStr_none, Mi.isStr_str, Mi.isStr_list, Mi.isStr_tup, Mi.isStr_dct, Mi.isLst_int, Mi.isLst_bool, Mi.isLst_none, Mi.isLst_str, Mi.isLst_list, Mi.isLst_tup, Mi.isLst_dct, Mi.isTup_int, Mi.isTup_bool, Mi.isTup_none, Mi.isTup_str, Mi.isTup_list, Mi.isTup_tup, Mi.isTup_dct, Mi.isDct_int, Mi.isDct_bool, Mi.isDct_none, Mi.isDct_str, Mi.isDct_list, Mi.isDct_tup, Mi.isDct_dct, Mi.isNone_int, Mi.isNone_bool, Mi.isNone_none, Mi.isNone_str, Mi.isNone_list, Mi.isNone_tup, Mi.isNone_dct, Mi.isPtr_int, Mi.isPtr_bool, Mi.isPtr_none, Mi.isPtr_str, Mi.isPtr_list, Mi.isPtr_tup, Mi.isPtr_d0, Mi.fAdd_i, Mi.fAdd_l, Mi.fAdd_t, Mi.fSub_i, Mi.fMul_i, Mi.fMul_l, Mi.fMod_i, Mi.fDiv_i, Mi.fPow_i, Mi.fCmp_i, Mi.fEq_i, Mi.fEq_s, Mi.fNe_i, Mi.fNe_s, Mi.fIsN_n, Mi.fNotN_n, Mi.fIx_l, Mi.fIx_t, Mi.fNeg_i, Mi.fLen_l, Mi.fLen_t, Mi.fAbs_i, Mi.fInt_i, Mi.fInt_b, Mi.fMax2_i, Mi.fMin2_i, Mi.fGcd_i, Mi.items_l, Mi.items_t, Mi.sliced_l, Mi.sliced_t, List.map_cons, List.map_nil, List.length_cons, List.length_nil, List.nil_append, List.cons_append, List.replicate, List.replicate_succ, List.replicate_zero, List.zip_cons_cons, List.zip_nil_right, Int.cast_ofNat_Int, Nat.reduceAdd, Nat.reduceSub, Nat.zero_add, Nat.reduceLeDiff, Nat.reduceEqDiff, List.getElem?_cons_zero, List.getElem?_cons_succ, List.getElem?_nil, List.set_cons_zero, List.set_cons_succ, List.set_nil, ite_true, ite_false, if_true, if_false, Option.map_some, Option.map_none, Option.some.injEq, Bool.not_true, Bool.not_false, decide_eq_true_eq, decide_true, decide_false, Int.reduceLT, Int.reduceLE, Int.reduceEq, Int.reduceNeg, Int.reduceAdd, Int.reduceSub, Int.reduceMul, Int.reducePow, Int.reduceToNat, Int.reduceEq, ne_eq, not_true_eq_false, not_false_eq_true, true_and, and_true, false_and, and_false, reduceCtorEq, eq_self])
section
variable {φ : Sg} {K : Rt → Sg → Prop} {X : XC} {o r0 r1 : Addr} {p : Addr} {j : Nat} {KF : Fl → Sg → Prop} {R0 R1 F0 F1 : Rows}
/-- the loops, the rules once made -/
theorem tail_ok {q0 q1 : Addr} {s5 s6 s7 s8 s9 s10 s11 : SD} {ys0 ys1 : List PyData} (hb : Box φ p (j + 2)) (n0 : r0 ≠ p) (n1 : r1 ≠ p) (h0 : Ru o φ r0 R0) (h1 : Ru o φ r1 R1) (w0 : Rw F0 R0) (w1 : Rw F1 R1) (a0 : φ q0 = some (.lst ys0)) (a1 : φ q1 = some (.lst ys1)) (b0 : ys0.length ≤ 10) (b1 : ys1.length ≤ 10) (m0 : q0 ≠ p) (m1 : q1 ≠ p) (m2 : q0 ≠ q1)
    (kk : ∀ φ', Box φ' p j → K (.d (.bool true)) φ') :
    Wp (((sSeq (sFor (iSeqM (ofF (fLst (aC (xC (.int 0)) (aC (xC (.int 1)) aNil))))) (.n 5) (sSetSlE (fLst (aC (xTup (aC (xC (.int 1)) (aC (xC (.int 1)) aNil))) aNil)) (xIx (xV 3) (xV 5)) oNo oNo))
  (sSeq (sFor (iRng1M (aC (xC (.int 4)) aNil)) (.n 6) (TG' o))
  (sSeq (sAsg (.n 7) (xC (.int 0)))
  (sSeq (sFor (iSeqM (ofF (fLst (aC (xC (.int 0)) (aC (xC (.int 1)) aNil))))) (.n 5) (TV' o))
  (sSeq (sFor (iSeqM (xV 4)) (.n 8) (TE' o))
  (TF' o)))))))  (rst p r0 r1 F0 F1 R0 R1 (.d (.list [ptrD q0, ptrD q1])) s5 s6 s7 s8 s9 s10 s11)) φ (fun fl φ1 => Wp (toRt [] fl) φ1 K X) (fun _ _ _ => False) := by
  have tg := fun (φ : Sg) (s3 s5 s7 s8 s9 s10 s11 : SD) (t : Int) (KF : Fl → Sg → Prop) (X : XC) (ht : t = 0 ∨ t = 1 ∨ t = 2 ∨ t = 3) (h0 : Ru o φ r0 R0) (h1 : Ru o φ r1 R1) => tg_ok (o := o) (φ := φ) (p := p) (r0 := r0) (r1 := r1) (F0 := F0) (F1 := F1) (R0 := R0) (R1 := R1) (KF := KF) (X := X) (s3 := s3) (s5 := s5) (s7 := s7) (s8 := s8) (s9 := s9) (s10 := s10) (s11 := s11) ht h0 h1 w0.gd w1.gd
  have tv := fun (φ : Sg) (j : Nat) (s3 s6 s8 s9 s10 s11 : SD) (t w : Int) (KF : Fl → Sg → Prop) (X : XC) (ht : t = 0 ∨ t = 1) (hb : Box φ p (j + 1)) (h0 : Ru o φ r0 R0) (h1 : Ru o φ r1 R1) => tv_ok (o := o) (φ := φ) (p := p) (r0 := r0) (r1 := r1) (F0 := F0) (F1 := F1) (R0 := R0) (R1 := R1) (KF := KF) (X := X) (s3 := s3) (s6 := s6) (s8 := s8) (s9 := s9) (s10 := s10) (s11 := s11) (t := t) (w := w) ht hb n0 n1 h0 h1 w0 w1
  have te := fun (φ : Sg) (s3 s5 s6 s7 s9 s10 s11 : SD) (r : Addr) (R : Rows) (KF : Fl → Sg → Prop) (X : XC) => te_ok (o := o) (φ := φ) (p := p) (r0 := r0) (r1 := r1) (F0 := F0) (F1 := F1) (R0 := R0) (R1 := R1) (KF := KF) (X := X) (s3 := s3) (s5 := s5) (s6 := s6) (s7 := s7) (s9 := s9) (s10 := s10) (s11 := s11) (r := r) (R := R)
  have tf : ∀ (φ : Sg) (s3 s5 s6 s7 s8 s9 s10 s11 : SD), Ru o φ r0 R0 → Ru o φ r1 R1 → (∀ φ', Ext φ φ' → K (.d (.bool true)) φ') → Wp (TF' o (rst p r0 r1 F0 F1 R0 R1 s3 s5 s6 s7 s8 s9 s10 s11)) φ (fun fl φ1 => Wp (toRt [] fl) φ1 K X) (fun _ _ _ => False) := fun φ s3 s5 s6 s7 s8 s9 s10 s11 h0 h1 kk => by
    have eq := fun (K : Rt → Sg → Prop) (X : XC) => equal_ok (o := o) (φ := φ) (K := K) (X := X) h0 h1 w0.gd
    have gr := fun (φ : Sg) (w : Int) (K : Rt → Sg → Prop) (X : XC) (hr : Ru o φ r0 R0) => grains_ok (o := o) (φ := φ) (r := r0) (R := R0) (w := w) (K := K) (X := X) hr w0.gd.sm w0.gd.len.1 w0.gd.len.2
    unfold TF'
    generalize m__law_grains_right o = T1 at gr ⊢
    generalize m__law_equal_right o = T2 at eq ⊢
    fail "mi"
    refine eq _ _ fun φ1 e1 => ?_
    fail "mi"
    refine gr φ1 _ _ _ (e1 r0 _ h0) fun φ2 e2 => ?_
    fail "mi"
    exact kk φ2 (e1.trans e2)
  generalize TG' o = TG at tg ⊢
  generalize TV' o = TV at tv ⊢
  generalize TE' o = TE at te ⊢
  generalize TF' o = TF at tf ⊢
  fail "mi"
  rw [for_cons]
  fail "mi"
  have d0 : r0 ≠ q0 := fun e => by subst e; have z := a0.symm.trans h0; cases z
  have d1 : r1 ≠ q0 := fun e => by subst e; have z := a0.symm.trans h1; cases z
  have d2 : r0 ≠ q1 := fun e => by subst e; have z := a1.symm.trans h0; cases z
  have d3 : r1 ≠ q1 := fun e => by subst e; have z := a1.symm.trans h1; cases z
  rw [W_getL a0, if_pos (by rw [HT.sIx_none, HT.sIx_none]; omega)]
  fail "mi"
  refine ⟨(by rw [a0]; exact fun z => nomatch z), ?_⟩
  generalize hc0 : Cell.lst _ = c0
  have a1' : put φ q0 c0 q1 = some (.lst ys1) := by rw [put_ne (Ne.symm m2)]; exact a1
  rw [for_cons]
  fail "mi"
  rw [W_getL a1', if_pos (by rw [HT.sIx_none, HT.sIx_none]; omega)]
  fail "mi"
  refine ⟨(by rw [a1']; exact fun z => nomatch z), ?_⟩
  generalize hc1 : Cell.lst _ = c1
  have st : ∀ x, x ≠ q0 → x ≠ q1 → put (put φ q0 c0) q1 c1 x = φ x := fun x e0 e1 => by rw [put_ne e1, put_ne e0]
  have h0' : Ru o (put (put φ q0 c0) q1 c1) r0 R0 := by show _ = _; rw [st _ d0 d2]; exact h0
  have h1' : Ru o (put (put φ q0 c0) q1 c1) r1 R1 := by show _ = _; rw [st _ d1 d3]; exact h1
  have hb' : Box (put (put φ q0 c0) q1 c1) p (j + 2) := hb.at_ (st p (Ne.symm m0) (Ne.symm m1))
  generalize put (put φ q0 c0) q1 c1 = φ1 at *
  rw [for_nil]
  fail "mi"
  have bx : ∀ {φ' φ2 : Sg} {j : Nat}, Box φ' p j → Ext φ' φ2 → Box φ2 p j := fun {φ' φ2 j} b e => b.at_ (by
    cases ec : φ' p with
    | none => exact absurd ec b.live
    | some c => exact e p c ec)
  refine for_wp (fun ds δ φ' => (∃ s6', δ = rst p r0 r1 F0 F1 R0 R1 (.d (.list [ptrD q0, ptrD q1])) (.d (.int 1)) s6' s7 s8 s9 s10 s11) ∧ Ru o φ' r0 R0 ∧ Ru o φ' r1 R1 ∧ Box φ' p (j + 2) ∧ ∀ y, y ∈ ds → ∃ t : Int, y = .int t ∧ (t = 0 ∨ t = 1 ∨ t = 2 ∨ t = 3)) (fun y ds δ φ' hI => ?_) (fun δ φ' hI => ?_) _ _ _ ⟨⟨_, rfl⟩, h0', h1', hb', fun y hy => ?_⟩
  · obtain ⟨⟨s6', rfl⟩, e0, e1, eb, hy⟩ := hI
    obtain ⟨t, rfl, ht⟩ := hy y List.mem_cons_self
    refine ⟨_, rfl, ?_⟩
    refine tg φ' _ _ _ _ _ _ _ t _ _ ht e0 e1 fun φ2 e => ?_
    rw [turn_nx]
    exact ⟨⟨_, rfl⟩, e _ _ e0, e _ _ e1, bx eb e, fun y h => hy y (List.mem_cons_of_mem _ h)⟩
  · obtain ⟨⟨s6', rfl⟩, e0, e1, eb, hy⟩ := hI
    fail "mi"
    rw [for_cons]
    fail "mi"
    refine tv φ' (j + 1) _ _ _ _ _ _ 0 0 _ _ (.inl rfl) eb e0 e1 fun φ2 w' s8' f0 f1 fb => ?_
    fail "mi"
    rw [for_cons]
    fail "mi"
    refine tv φ2 j _ _ _ _ _ _ 1 w' _ _ (.inr rfl) fb f0 f1 fun φ3 w'' s8'' g0 g1 gb => ?_
    fail "mi"
    rw [for_nil]
    fail "mi"
    rw [for_cons]
    fail "mi"
    refine te φ3 _ _ _ _ _ _ _ r0 R0 _ _ g0 fun φ4 x4 => ?_
    fail "mi"
    rw [for_cons]
    fail "mi"
    refine te φ4 _ _ _ _ _ _ _ r1 R1 _ _ (x4 _ _ g1) fun φ5 x5 => ?_
    fail "mi"
    rw [for_nil]
    fail "mi"
    have x45 := x4.trans x5
    exact tf φ5 _ _ _ _ _ _ _ _ (x45 _ _ g0) (x45 _ _ g1) fun φ6 x6 => kk φ6 (bx gb (x45.trans x6))
  · simp only [upto, List.range, List.range.loop, List.map_cons, List.map_nil, List.mem_cons, List.not_mem_nil, or_false] at hy
    rcases hy with h | h | h | h
    · exact ⟨0, h, .inl rfl⟩
    · exact ⟨1, h, .inr (.inl rfl)⟩
    · exact ⟨2, h, .inr (.inr (.inl rfl))⟩
    · exact ⟨3, h, .inr (.inr (.inr rfl))⟩
theorem right_ok (hb : Box φ p (j + 60)) (kk : ∀ φ', Box φ' p j → K (.d (.bool true)) φ') : Wp (m__law_right o [.d (ptrD p)]) φ K X := by
  rw [right_eq]
  refine mdef_wp ?_
  have tl := fun (φ : Sg) (r0 r1 : Addr) (F0 F1 R0 R1 : Rows) (q0 q1 : Addr) (s5 s6 s7 s8 s9 s10 s11 : SD) (ys0 ys1 : List PyData) => tail_ok (o := o) (φ := φ) (K := K) (X := X) (p := p) (j := j) (r0 := r0) (r1 := r1) (F0 := F0) (F1 := F1) (R0 := R0) (R1 := R1) (q0 := q0) (q1 := q1) (s5 := s5) (s6 := s6) (s7 := s7) (s8 := s8) (s9 := s9) (s10 := s10) (s11 := s11) (ys0 := ys0) (ys1 := ys1)
  generalize ((sSeq (sFor (iSeqM (ofF (fLst (aC (xC (.int 0)) (aC (xC (.int 1)) aNil))))) (.n 5) (sSetSlE (fLst (aC (xTup (aC (xC (.int 1)) (aC (xC (.int 1)) aNil))) aNil)) (xIx (xV 3) (xV 5)) oNo oNo))
  (sSeq (sFor (iRng1M (aC (xC (.int 4)) aNil)) (.n 6) (TG' o))
  (sSeq (sAsg (.n 7) (xC (.int 0)))
  (sSeq (sFor (iSeqM (ofF (fLst (aC (xC (.int 0)) (aC (xC (.int 1)) aNil))))) (.n 5) (TV' o))
  (sSeq (sFor (iSeqM (xV 4)) (.n 8) (TE' o))
  (TF' o))))))) = TT at tl ⊢
  have mk : ∀ (φ1 : Sg) (F0 R0 F1 R1 : Rows), Rw F0 R0 → Rw F1 R1 → Box φ1 p (j + 2) → Wp ((sSeq (sAsg (.n 3) (ofF (fLc (iSeqM (xV 2)) (.n 10) tTrue (xNew (fList (xV 10))) [10])))
  (sSeq (sAsg (.n 4) (ofF (fLst (aC (xMake o (m_Rules____init__ o) (aC (xIx (xV 3) (xC (.int 0))) aNil)) (aC (xMake o (m_Rules____init__ o) (aC (xIx (xV 3) (xC (.int 1))) aNil)) aNil))))) TT)) [.d (ptrD p), .d (.list [.list (rsD F0), .list (rsD F1)]), .d (.list [.list (rsD R0), .list (rsD R1)]), .u, .u, .u, .u, .u, .u, .u, .u, .u]) φ1 (fun fl φ1 => Wp (toRt [] fl) φ1 K X) (fun _ _ _ => False) := fun φ1 F0 R0 F1 R1 w0 w1 b1 => by
    have g0 := w0.gd
    have g1 := w1.gd
    have l0 := g0.len
    have l1 := g1.len
    have v0 : Vb (.list (rsD R0)) := vb_rs g0.sm (by omega) ⟨.inl rfl⟩
    have v1 : Vb (.list (rsD R1)) := vb_rs g1.sm (by omega) ⟨.inl rfl⟩
    fail "mi"
    rw [lc_cons]
    unfold tTrue
    fail "mi"
    rw [W_new]
    intro q0 hq0
    fail "mi"
    rw [lc_cons]
    fail "mi"
    rw [W_new]
    intro q1 hq1
    fail "mi"
    rw [lc_nil]
    fail "mi"
    have q01 : q0 ≠ q1 := fun e => by rw [e, put_same] at hq1; cases hq1
    have pq0 : p ≠ q0 := fun e => b1.live (by rw [e]; exact hq0)
    have pq1 : p ≠ q1 := fun e => by
      have : put φ1 q0 (.lst (rsD R0)) q1 = none := hq1
      rw [← e, put_ne pq0] at this
      exact b1.live this
    refine make_ok (.p (by rw [put_ne q01]; exact put_same)) v0 (fun _ r0 xs hr0 hx _ => ?_) (fun e => by rw [show rulesB (.list (rsD R0)) = itemsB (rsD R0) from rfl, g0.ok] at e; cases e)
    have ex : xs = rsD R0 := by rcases hx.seq with e | e <;> cases e; rfl
    subst ex
    have e0 := ext_put (c := rowsI o (rsD R0)) hr0
    have a1 := e0 q1 _ put_same
    have a0 := e0 q0 _ (by rw [put_ne q01]; exact put_same)
    have pr0 : p ≠ r0 := fun e => by rw [← e, put_ne pq1, put_ne pq0] at hr0; exact b1.live hr0
    have hb2 : Box (put (put (put φ1 q0 (.lst (rsD R0))) q1 (.lst (rsD R1))) r0 (rowsI o (rsD R0))) p (j + 2) := b1.at_ (by rw [put_ne pr0, put_ne pq1, put_ne pq0])
    have c0 : put (put (put φ1 q0 (.lst (rsD R0))) q1 (.lst (rsD R1))) r0 (rowsI o (rsD R0)) r0 = some (rowsI o (rsD R0)) := put_same
    generalize put (put (put φ1 q0 (.lst (rsD R0))) q1 (.lst (rsD R1))) r0 (rowsI o (rsD R0)) = φ2 at *
    refine make_ok (.p a1) v1 (fun _ r1 xs hr1 hx _ => ?_) (fun e => by rw [show rulesB (.list (rsD R1)) = itemsB (rsD R1) from rfl, g1.ok] at e; cases e)
    have ex : xs = rsD R1 := by rcases hx.seq with e | e <;> cases e; rfl
    subst ex
    have e1 := ext_put (c := rowsI o (rsD R1)) hr1
    have pr1 : p ≠ r1 := fun e => hb2.live (by rw [e]; exact hr1)
    refine tl _ r0 r1 F0 F1 R0 R1 q0 q1 _ _ _ _ _ _ _ _ _ (hb2.at_ (put_ne pr1)) (Ne.symm pr0) (Ne.symm pr1) (e1 _ _ c0) put_same w0 w1 (e1 _ _ a0) (e1 _ _ a1) (by rw [rsD_len]; omega) (by rw [rsD_len]; omega) (Ne.symm pq0) (Ne.symm pq1) q01 kk
  generalize (sSeq (sAsg (.n 3) (ofF (fLc (iSeqM (xV 2)) (.n 10) tTrue (xNew (fList (xV 10))) [10])))
  (sSeq (sAsg (.n 4) (ofF (fLst (aC (xMake o (m_Rules____init__ o) (aC (xIx (xV 3) (xC (.int 0))) aNil)) (aC (xMake o (m_Rules____init__ o) (aC (xIx (xV 3) (xC (.int 1))) aNil)) aNil))))) TT)) = TM at mk ⊢
  have fr : ∀ (φ1 : Sg) (P0 P1 : Rows) (l0 k0 l1 k1 : Int) (sl : SD), (sl = .own [.list (rsD (P0 ++ [(l0, some k0)])), .list (rsD (P1 ++ [(l1, some k1)]))] ∨ sl = .d (.list [.list (rsD (P0 ++ [(l0, some k0)])), .list (rsD (P1 ++ [(l1, some k1)]))])) → GR (P0 ++ [(l0, some k0)]) → GR (P0 ++ [(l0, none)]) → GR (P1 ++ [(l1, some k1)]) → GR (P1 ++ [(l1, none)]) → Box φ1 p (j + 4) → Wp ((sSeq (sFrz 1 (sAsg (.n 2) (ofF (fLc (iSeqM (xV 1)) (.n 9) tTrue (xCall0 (m__law_ended o) (aC (xV 0) (aC (xV 9) aNil))) [9])))) TM) [.d (ptrD p), sl, .u, .u, .u, .u, .u, .u, .u, .u, .u, .u]) φ1 (fun fl φ1 => Wp (toRt [] fl) φ1 K X) (fun _ _ _ => False) := fun φ1 P0 P1 l0 k0 l1 k1 sl hsl g0 n0 g1 n1 b1 => by
    have d0 := (gd_of g0).len.2
    have d1 := (gd_of g1).len.2
    rw [List.length_append] at d0 d1
    have en := fun (φ : Sg) (P : Rows) (l kp : Int) (j : Nat) (K : Rt → Sg → Prop) (X : XC) => ended_ok (o := o) (φ := φ) (K := K) (X := X) (p := p) (P := P) (l := l) (kp := kp) (j := j)
    generalize m__law_ended o = T at en ⊢
    rcases hsl with rfl | rfl
    all_goals
      fail "mi"
      rw [lc_cons]
      unfold tTrue
      fail "mi"
      refine en φ1 P0 l0 k0 (j + 3) _ _ b1 (by omega) fun kp0 φ2 r hk0 hr b2 s2 => ?_
      rw [hr]
      fail "mi"
      rw [lc_cons]
      fail "mi"
      refine en φ2 P1 l1 k1 (j + 2) _ _ b2 (by omega) fun kp1 φ3 r' hk1 hr' b3 s3 => ?_
      rw [hr']
      fail "mi"
      rw [lc_nil]
      fail "mi"
      exact mk φ3 _ (P0 ++ [(l0, kp0)]) _ (P1 ++ [(l1, kp1)]) ⟨P0, l0, k0, kp0, rfl, rfl, g0, by rcases hk0 with rfl | rfl <;> assumption, hk0, p_some g0⟩ ⟨P1, l1, k1, kp1, rfl, rfl, g1, by rcases hk1 with rfl | rfl <;> assumption, hk1, p_some g1⟩ b3
  generalize (sSeq (sFrz 1 (sAsg (.n 2) (ofF (fLc (iSeqM (xV 1)) (.n 9) tTrue (xCall0 (m__law_ended o) (aC (xV 0) (aC (xV 9) aNil))) [9])))) TM) = TN at fr ⊢
  have rk := fun (φ : Sg) (j : Nat) (K : Rt → Sg → Prop) (X : XC) => rows_ok (o := o) (φ := φ) (K := K) (X := X) (p := p) (j := j)
  generalize m__law_rows o = T at rk ⊢
  fail "mi"
  refine rk φ (j + 40) _ _ hb fun P0 l0 k0 φ1 g0 n0 b1 s1 => ?_
  fail "mi"
  refine rk φ1 (j + 20) _ _ b1 fun P1 l1 k1 φ2 g1 n1 b2 s2 => ?_
  fail "mi"
  refine take_ok (j := j + 19) b2 (by decide) (by decide) fun w φ3 _ _ b3 s3 => ?_
  fail "mi"
  by_cases hw : w = 0
  · rw [if_pos hw]
    fail "mi"
    exact fr φ3 P0 P0 l0 k0 l0 k0 _ (.inl rfl) g0 n0 g0 n0 (b3.less (by omega))
  · rw [if_neg hw]
    exact fr φ3 P0 P1 l0 k0 l1 k1 _ (.inl rfl) g0 n0 g1 n1 (b3.less (by omega))
theorem law_ok {ns : List Int} : Wp (m_law o [.scr ns]) φ (fun r _ => r = .d (.bool true)) X := by
  have ri : ∀ {φ : Sg} {b : Addr} {j : Nat} {K : Rt → Sg → Prop} {X : XC}, Box φ b (j + 60) → (∀ φ', Box φ' b j → K (.d (.bool true)) φ') → Wp (m__law_right o [.d (ptrD b)]) φ K X := right_ok
  unfold m_law
  generalize m__law_right o = T1 at ri ⊢
  refine mdef_wp ?_
  fail "mi"
  generalize hN : (if (if (ns.length : Int) < 4 then (ns.length : Int) else 4) > 2 then (if (ns.length : Int) < 4 then (ns.length : Int) else 4) else 2) = N
  have N0 : 2 ≤ N ∧ N ≤ 4 := by rw [← hN]; split <;> split <;> omega
  rw [if_pos (show _ by omega)]
  fail "mi"
  refine for_wp (fun ds δ φ' => (∀ x, x ∈ ds → ∃ w : Int, x = .int w ∧ 0 ≤ w ∧ w < 4) ∧ ∃ s1 : SD, δ = [.scr ns, s1]) (fun x xs δ φ1 hI => ?_) (fun δ φ1 hI => ?_) _ _ _ ⟨fun x hx => ?_, _, rfl⟩
  · obtain ⟨hw, s1, rfl⟩ := hI
    obtain ⟨w, rfl, w0, w4⟩ := hw x List.mem_cons_self
    refine ⟨_, rfl, ?_⟩
    fail "mi"
    rw [cell_eq]
    refine clm_ok w0 (by omega) fun z => ?_
    fail "mi"
    rw [box_eq]
    refine bxm_ok fun p φ2 _ b2 _ => ?_
    fail "mi"
    refine ri (j := 20000) (b2.less (by decide)) fun φ3 b3 => ?_
    fail "mi"
    rw [turn_nx]
    exact ⟨fun x hx => hw x (List.mem_cons_of_mem _ hx), _, rfl⟩
  · obtain ⟨_, s1, rfl⟩ := hI
    fail "mi"
    try rfl
  · obtain ⟨i, hi, rfl⟩ := List.mem_map.mp hx
    exact ⟨i, rfl, by omega, by have := List.mem_range.mp hi; omega⟩
end
end Mi.K18

/-! EgEndN -/
set_option Elab.async false
set_option linter.all false
set_option maxRecDepth 100000
set_option maxHeartbeats 2000000
/-! ## The end: a law's def whose promise asks for what is known of the guards -/
namespace Eg
open PySem PySem.Spec PyProof.Rows L2
section
variable {P : Program} {w : World} {K : PySem.W.Frag} {mg mb : Str → Option Value} {k : Nat} {fa a : Addr} {fd : FuncData} {x : Str} {sp : Sp} {s₁ : Shared} {vs : List Value} {ns : List Int}
/-- one heap: at most the script is tracked, frozen -/
theorem told_atN {H : Hp} {o : Obj} {us : List V} (KX : K.In s₁.heap) (hm : s₁.heap.Ns mainGlobals mg) (hb : s₁.heap.Ns builtinsNs mb) (hbb : ∀ y : Str, y ≠ "__name__" → mb y = bootBuiltins y) (lim : s₁.heap.NoLimit) (hg : s₁.gens = #[])
    (ha : s₁.heap.get? a = some o) (nd : ∀ es ep, o.data ≠ .dict es ep) (room : Room k callerA)
    (hy : ∃ mm, s₁.heap.Ns sysModules mm) (F : ∀ base : Heap, K.In base → base.Ns mainGlobals mg → (∃ o, base.get? sysModules = some o) → FnG P w K mg base (L2N.CX P w) k fa fd [x] sp) (bd : ∀ (s : Shared) (u : Value), BindsTo s fd ⟨[u], []⟩ [(x, u)])
    (hH : ∀ b, H b = none ∨ (b = a ∧ H b = some (.frz o (.lst us)))) (ok : HOk P w H s₁.heap) (hK : H a ≠ none → K.lookup a = none)
    (hs : sp [.ref a] H (fun v _ => v = .bl true) fun _ _ _ => False) : codeAny (model P w) callerA (.call (.ref fa) ⟨[.ref a], []⟩) (Told s₁) s₁ := by
  have only : ∀ b, H b ≠ none → b = a := fun b n => (hH b).elim (fun z => absurd z n) fun z => z.1
  have free : ∀ {b : Addr} {u : Obj}, s₁.heap.get? b = some u → b ≠ a → H b = none := fun {b u} _ n => (hH b).elim id fun z => absurd z.1 n
  have based : ∀ {b : Addr} {u : Obj}, s₁.heap.get? b = some u → H b = none → (hidT s₁.heap H).get? b = some u := fun e n => hidT_get e n
  have nsB : ∀ {b : Addr} {m : Str → Option Value}, s₁.heap.Ns b m → (hidT s₁.heap H).Ns b m := fun {b m} q => by
    obtain ⟨u, es, ep, e, d, r⟩ := q
    refine ⟨u, es, ep, based e (free e fun z => ?_), d, r⟩
    subst z
    rw [ha] at e
    cases e
    exact nd _ _ d
  have kin : K.In (hidT s₁.heap H) := fun b u e => based (KX b u e) (by
    rcases hH b with z | ⟨rfl, z⟩
    · exact z
    · have := hK (by rw [z]; simp)
      rw [this] at e
      cases e)
  have md : Mod K mg (hidT s₁.heap H) := by
    obtain ⟨mc, l1, l2⟩ := lim
    exact { kin := kin, glob := nsB hm, blt := ⟨mb, nsB hb, hbb⟩, nolimit := ⟨mc, nsB l1, l2⟩ }
  have env : Env0 P w K mg (hidT s₁.heap H) callerA [] s₁ H :=
    { frames := rfl, mod := md, bs := fun b u e => of_hidT e, bsz := Nat.le_of_eq (hidT_size _ _), funs := trivial, frf := fun b z => absurd (show b ∈ ([] : List Addr) from z) (by simp), hok := ok, bare := .of_eq hg }
  have sy : ∃ o, (hidT s₁.heap H).get? sysModules = some o := by
    obtain ⟨mm, y⟩ := hy
    obtain ⟨o', _, _, e, _⟩ := nsB y
    exact ⟨o', e⟩
  have run := (F _ kin (nsB hm) sy).run callerA [] s₁ H ⟨[.ref a], []⟩ [.ref a] [.ref a] _ _ room rfl env (bd s₁ (.ref a)) (.cons rfl .nil) hs
  refine codeAny_mono run fun r s' q => ?_
  match r, q with
  | .error e, q =>
    obtain ⟨_, _, _, _, _, _, _, _, _, _, _, _, z⟩ := q
    exact z.elim
  | .ok .next, q => exact q.elim
  | .ok .brk, q => exact q.elim
  | .ok .cont, q => exact q.elim
  | .ok (.ret u), q =>
    obtain ⟨v, H', os, bare, un, ok', rv, hv⟩ := q
    cases (show v = .bl true from hv)
    cases (show u = Value.bool true from rv)
    refine ⟨rfl, .of_keep fun b u e => ?_, os, bare⟩
    rcases hH b with z | ⟨rfl, z⟩
    · exact un.keep b u e z (fun y => absurd (show b ∈ ([] : List Addr) from y) (by simp)) (by simp)
    · rw [ha] at e
      cases e
      exact (ok' _ _ (un.frzs _ _ _ z)).1
/-- the goal that the head leaves, from the promise of the law's def -/
theorem walk_ofGN {l : PySem.W.OpenLaw} {n k : Nat} {q : Program} {loose : List Str} {XP : (Str → Option Value) → Heap → Prop} {YP : World → Heap → Prop} {d : DefRec} {K : Params → PySem.W.Frag} {sp : PySem.W.Frag → Sp} {x : Str}
    (hn : l.most = some n) (hz : n ≤ sizeLine) (nodef : d.params.defaults = []) (room : Room k callerA) (imp : importsNone q = true) (part : ∀ (w : World) (h : Heap), YP w h → (K w.params).In h)
    (F : ∀ (w : World) (mg : Str → Option Value) (fa : Addr) (h : Heap), (K w.params).In h → h.Ns mainGlobals mg → mg d.name = some (.ref fa) →
      ∃ fd : FuncData, (∀ (s : Shared) (u : Value), BindsTo s fd ⟨[u], []⟩ [(x, u)]) ∧ ∀ base : Heap, (K w.params).In base → base.Ns mainGlobals mg → (∃ o, base.get? sysModules = some o) → FnG l.prog w (K w.params) mg base (L2N.CX l.prog w) k fa fd [x] (sp (K w.params)))
    (hs : ∀ (w : World) (H : Hp) (a : Addr) (ns : List Int), ns.length ≤ n → ScrAt (K w.params) H a ns → (∀ b, H b = none ∨ ∃ o us, H b = some (.frz o (.lst us))) → sp (K w.params) [.ref a] H (fun v _ => v = .bl true) fun _ _ _ => False) :
    PySem.W.WalkO q loose XP YP l.row.toRowW d [] (fun f vs => PySem.call f vs) := by
  refine Att.attach_call hn nodef fun w s₀ s₁ mg mb fa o pm cd doc a vs ns G Y ho hd hcd hmg hobj hints hlen hg => ?_
  have KX := part w _ Y
  obtain ⟨fd, bd, F'⟩ := F w mg fa _ KX G.T.g hmg
  have sy : ∃ mm, s₁.heap.Ns sysModules mm := let ⟨mm, y, _⟩ := (G.T.seer imp).mods; ⟨mm, y⟩
  have rv := vals_ints hints
  have len := Nat.le_trans hlen hz
  have nd : ∀ es ep, ({ cls := .type "list", data := .seq vs.toArray } : Obj).data ≠ .dict es ep := fun _ _ e => nomatch e
  cases hk : (K w.params).lookup a with
  | some u =>
    have e := KX a u hk
    rw [hobj] at e
    cases e
    refine told_atN (us := []) (H := fun _ => none) KX G.T.g G.T.b G.T.builtins G.T.nolimit hg hobj nd room sy F' bd (fun _ => .inl rfl) (fun b u z => nomatch (show (none : Option HO) = some u from z)) (fun z => absurd rfl z) ?_
    refine hs w _ a ns hlen (.inr fun H => .inr ⟨_, vs.toArray, _, hk, rfl, rfl, rfl, ?_, by simpa using rv⟩) fun b => .inl rfl
    rw [List.size_toArray, hints.length]
    exact len
  | none =>
    have at_ : ∀ b, (if b = a then some (HO.frz { cls := .type "list", data := .seq vs.toArray } (.lst (ns.map V.int))) else none) = none ∨
        (b = a ∧ (if b = a then some (HO.frz { cls := .type "list", data := .seq vs.toArray } (.lst (ns.map V.int))) else none) = some (.frz { cls := .type "list", data := .seq vs.toArray } (.lst (ns.map V.int)))) := fun b => by
      by_cases e : b = a
      · exact .inr ⟨e, if_pos e⟩
      · exact .inl (if_neg e)
    refine told_atN (us := ns.map V.int) (H := fun b => if b = a then some (.frz { cls := .type "list", data := .seq vs.toArray } (.lst (ns.map V.int))) else none) KX G.T.g G.T.b G.T.builtins G.T.nolimit hg hobj nd room sy F' bd at_ (fun b u z => ?_) (fun _ => hk)
      (hs w _ a ns hlen (.inl ⟨_, if_pos rfl⟩) fun b => (at_ b).elim .inl fun z => .inr ⟨_, _, z.2⟩)
    rcases at_ b with e | ⟨e1, e2⟩
    · cases e.symm.trans z
    · cases e2.symm.trans z
      subst e1
      exact ⟨hobj, by rw [List.length_map]; exact len, vs, _, rv, hobj⟩
end
end Eg

/-! K18z -/
set_option Elab.async false
set_option linter.all false
set_option maxRecDepth 100000
set_option maxHeartbeats 2000000

namespace Mi.K18
open PySem PySem.Spec PyProof.Rows L2 Eg Mi
/-- a promise that knows no classes -/
def SpAll (K : PySem.W.Frag) : Sp := fun vs H Q E => ∀ (cl : String → Addr) (o_Rules : Addr), SpM K cl (m_law o_Rules) vs H Q E
theorem fnG_all {P : Program} {w : World} {K : PySem.W.Frag} {mg : Str → Option Value} {base : Heap} {CX : CXT} {k : Nat} {f : Addr} {fd : FuncData} {ps : List Str} {cl : String → Addr} {o_Rules : Addr} (F : FnG P w K mg base CX k f fd ps (SpM K cl (m_law o_Rules))) : FnG P w K mg base CX k f fd ps (SpAll K) := ⟨fun vs H Q E h => F.len vs H Q E (h cl o_Rules), fun A outer s H args us vs Q E hr hgd hE hb hv h => F.run A outer s H args us vs Q E hr hgd hE hb hv (h cl o_Rules)⟩
theorem spm_of {K : PySem.W.Frag} {cl : String → Addr} {m : List AV → M Rt} {H : Hp} {a : Addr} {ns : List Int} (hs : ScrAt K H a ns) (q : Wp (m [.scr ns]) (fun _ => none) (fun r _ => r = .d (.bool true)) (fun _ _ _ => False)) : SpM K cl m [.ref a] H (fun v _ => v = .bl true) (fun _ _ _ => False) :=
  ⟨fun _ => none, fun _ => none, H, [.scr ns], ⟨Ex.refl _, (fun _ _ h => nomatch h)⟩, (fun _ _ h => nomatch h), .cons (.scr hs) .nil, by
    rw [Wp_eq] at q
    refine M.wp_mono (fun r φ' e => ?_) (fun _ _ _ h => h.elim) _ _ q
    subst e
    intro v τ' G' H' _ _ rp
    cases rp; rfl⟩
theorem start {K : PySem.W.Frag} {H : Hp} {a : Addr} {ns : List Int} (hs : ScrAt K H a ns) (hH : ∀ b, H b = none ∨ ∃ o us, H b = some (.frz o (.lst us))) : SpAll K [.ref a] H (fun v _ => v = .bl true) (fun _ _ _ => False) := fun cl o_Rules => spm_of hs law_ok
theorem all_mk {w : World} {K : PySem.W.Frag} {h : Heap} {mg : Str → Option Value} {fa : Addr}
    {GR : Addr}
    {C_InvalidRules I_InvalidRules : Addr} {nm_InvalidRules q_InvalidRules : Str} {N_InvalidRules : Addr} {bs_InvalidRules : List Value} {sn_InvalidRules : List Str} {sub_InvalidRules : List Value} {ab_InvalidRules : Bool} {col_InvalidRules : Option Bool} {dd_InvalidRules : Option Addr} {m0_InvalidRules m1_InvalidRules m2_InvalidRules m3_InvalidRules m5_InvalidRules : Option Value}
    {oc_InvalidRules : Value} {od_InvalidRules : Option Addr} {doc_InvalidRules pm_InvalidRules : Value} {an_InvalidRules : Option Addr} {cd_InvalidRules ct_InvalidRules : Value} {sl_InvalidRules : Array (Option Value)} {p1_InvalidRules p2_InvalidRules r1_InvalidRules r2_InvalidRules r3_InvalidRules r4_InvalidRules : Pos}
    {C_NoGrain I_NoGrain : Addr} {nm_NoGrain q_NoGrain : Str} {N_NoGrain : Addr} {bs_NoGrain : List Value} {sn_NoGrain : List Str} {sub_NoGrain : List Value} {ab_NoGrain : Bool} {col_NoGrain : Option Bool} {dd_NoGrain : Option Addr} {m0_NoGrain m1_NoGrain m2_NoGrain m3_NoGrain m5_NoGrain : Option Value}
    {oc_NoGrain : Value} {od_NoGrain : Option Addr} {doc_NoGrain pm_NoGrain : Value} {an_NoGrain : Option Addr} {cd_NoGrain ct_NoGrain : Value} {sl_NoGrain : Array (Option Value)} {p1_NoGrain p2_NoGrain r1_NoGrain r2_NoGrain r3_NoGrain r4_NoGrain : Pos}
    {tk__MOST_GRAINS : Nat}
    {C_Rules : Addr}
    {cd_Rules : ClassData}
    {A_is_list : Addr} {ocis_list : Value} {odis_list : Option Addr} {kVis_list dcis_list pmis_list : Value} {anis_list : Option Addr} {cdis_list ctis_list : Value} {slis_list : Array (Option Value)}
    {A_is_integer : Addr} {ocis_integer : Value} {odis_integer : Option Addr} {kVis_integer dcis_integer pmis_integer : Value} {anis_integer : Option Addr} {cdis_integer ctis_integer : Value} {slis_integer : Array (Option Value)}
    {A_is_count : Addr} {ocis_count : Value} {odis_count : Option Addr} {kVis_count dcis_count pmis_count : Value} {anis_count : Option Addr} {cdis_count ctis_count : Value} {slis_count : Array (Option Value)}
    {A_is_positive : Addr} {ocis_positive : Value} {odis_positive : Option Addr} {kVis_positive dcis_positive pmis_positive : Value} {anis_positive : Option Addr} {cdis_positive ctis_positive : Value} {slis_positive : Array (Option Value)}
    {A__are_rules : Addr} {oc_are_rules : Value} {od_are_rules : Option Addr} {kV_are_rules dc_are_rules pm_are_rules : Value} {an_are_rules : Option Addr} {cd_are_rules ct_are_rules : Value} {sl_are_rules : Array (Option Value)}
    {A__is_row : Addr} {oc_is_row : Value} {od_is_row : Option Addr} {kV_is_row dc_is_row pm_is_row : Value} {an_is_row : Option Addr} {cd_is_row ct_is_row : Value} {sl_is_row : Array (Option Value)}
    {A__may_follow : Addr} {oc_may_follow : Value} {od_may_follow : Option Addr} {kV_may_follow dc_may_follow pm_may_follow : Value} {an_may_follow : Option Addr} {cd_may_follow ct_may_follow : Value} {sl_may_follow : Array (Option Value)}
    {A__law_cell : Addr} {oc_law_cell : Value} {od_law_cell : Option Addr} {kV_law_cell dc_law_cell pm_law_cell : Value} {an_law_cell : Option Addr} {cd_law_cell ct_law_cell : Value} {sl_law_cell : Array (Option Value)}
    {A__law_box : Addr} {oc_law_box : Value} {od_law_box : Option Addr} {kV_law_box dc_law_box pm_law_box : Value} {an_law_box : Option Addr} {cd_law_box ct_law_box : Value} {sl_law_box : Array (Option Value)}
    {A__law_take : Addr} {oc_law_take : Value} {od_law_take : Option Addr} {kV_law_take dc_law_take pm_law_take : Value} {an_law_take : Option Addr} {cd_law_take ct_law_take : Value} {sl_law_take : Array (Option Value)}
    {A__law_rows : Addr} {oc_law_rows : Value} {od_law_rows : Option Addr} {kV_law_rows dc_law_rows pm_law_rows : Value} {an_law_rows : Option Addr} {cd_law_rows ct_law_rows : Value} {sl_law_rows : Array (Option Value)}
    {A__law_is_count : Addr} {oc_law_is_count : Value} {od_law_is_count : Option Addr} {kV_law_is_count dc_law_is_count pm_law_is_count : Value} {an_law_is_count : Option Addr} {cd_law_is_count ct_law_is_count : Value} {sl_law_is_count : Array (Option Value)}
    {A__law_are_rules : Addr} {oc_law_are_rules : Value} {od_law_are_rules : Option Addr} {kV_law_are_rules dc_law_are_rules pm_law_are_rules : Value} {an_law_are_rules : Option Addr} {cd_law_are_rules ct_law_are_rules : Value} {sl_law_are_rules : Array (Option Value)}
    {A__law_ended : Addr} {oc_law_ended : Value} {od_law_ended : Option Addr} {kV_law_ended dc_law_ended pm_law_ended : Value} {an_law_ended : Option Addr} {cd_law_ended ct_law_ended : Value} {sl_law_ended : Array (Option Value)}
    {A__law_values : Addr} {oc_law_values : Value} {od_law_values : Option Addr} {kV_law_values dc_law_values pm_law_values : Value} {an_law_values : Option Addr} {cd_law_values ct_law_values : Value} {sl_law_values : Array (Option Value)}
    {A__law_asked_right : Addr} {oc_law_asked_right : Value} {od_law_asked_right : Option Addr} {kV_law_asked_right dc_law_asked_right pm_law_asked_right : Value} {an_law_asked_right : Option Addr} {cd_law_asked_right ct_law_asked_right : Value} {sl_law_asked_right : Array (Option Value)}
    {A__law_of_grain : Addr} {oc_law_of_grain : Value} {od_law_of_grain : Option Addr} {kV_law_of_grain dc_law_of_grain pm_law_of_grain : Value} {an_law_of_grain : Option Addr} {cd_law_of_grain ct_law_of_grain : Value} {sl_law_of_grain : Array (Option Value)}
    {A__law_grains_right : Addr} {oc_law_grains_right : Value} {od_law_grains_right : Option Addr} {kV_law_grains_right dc_law_grains_right pm_law_grains_right : Value} {an_law_grains_right : Option Addr} {cd_law_grains_right ct_law_grains_right : Value} {sl_law_grains_right : Array (Option Value)}
    {A__law_equal_right : Addr} {oc_law_equal_right : Value} {od_law_equal_right : Option Addr} {kV_law_equal_right dc_law_equal_right pm_law_equal_right : Value} {an_law_equal_right : Option Addr} {cd_law_equal_right ct_law_equal_right : Value} {sl_law_equal_right : Array (Option Value)}
    {A__law_right : Addr} {oc_law_right : Value} {od_law_right : Option Addr} {kV_law_right dc_law_right pm_law_right : Value} {an_law_right : Option Addr} {cd_law_right ct_law_right : Value} {sl_law_right : Array (Option Value)}
    {A_law : Addr} {oclaw : Value} {odlaw : Option Addr} {kVlaw dclaw pmlaw : Value} {anlaw : Option Addr} {cdlaw ctlaw : Value} {sllaw : Array (Option Value)}
    {A_Rules____init__ : Addr} {ocRules____init__ : Value} {odRules____init__ : Option Addr} {kVRules____init__ dcRules____init__ pmRules____init__ : Value} {anRules____init__ : Option Addr} {cdRules____init__ ctRules____init__ : Value} {slRules____init__ : Array (Option Value)}
    {A_Rules____eq__ : Addr} {ocRules____eq__ : Value} {odRules____eq__ : Option Addr} {kVRules____eq__ dcRules____eq__ pmRules____eq__ : Value} {anRules____eq__ : Option Addr} {cdRules____eq__ ctRules____eq__ : Value} {slRules____eq__ : Array (Option Value)}
    {A_Rules____len__ : Addr} {ocRules____len__ : Value} {odRules____len__ : Option Addr} {kVRules____len__ dcRules____len__ pmRules____len__ : Value} {anRules____len__ : Option Addr} {cdRules____len__ ctRules____len__ : Value} {slRules____len__ : Array (Option Value)}
    {A_Rules__length : Addr} {ocRules__length : Value} {odRules__length : Option Addr} {kVRules__length dcRules__length pmRules__length : Value} {anRules__length : Option Addr} {cdRules__length ctRules__length : Value} {slRules__length : Array (Option Value)}
    {A_Rules__keep : Addr} {ocRules__keep : Value} {odRules__keep : Option Addr} {kVRules__keep dcRules__keep pmRules__keep : Value} {anRules__keep : Option Addr} {cdRules__keep ctRules__keep : Value} {slRules__keep : Array (Option Value)}
    {A_Rules__step : Addr} {ocRules__step : Value} {odRules__step : Option Addr} {kVRules__step dcRules__step pmRules__step : Value} {anRules__step : Option Addr} {cdRules__step ctRules__step : Value} {slRules__step : Array (Option Value)}
    {A_Rules___ask_grain : Addr} {ocRules___ask_grain : Value} {odRules___ask_grain : Option Addr} {kVRules___ask_grain dcRules___ask_grain pmRules___ask_grain : Value} {anRules___ask_grain : Option Addr} {cdRules___ask_grain ctRules___ask_grain : Value} {slRules___ask_grain : Array (Option Value)} (X : K.In h) (G : h.Ns mainGlobals mg) (hfa : mg "law" = some (.ref fa))
    (gC_InvalidRules : PySem.W.nsIn K mainGlobals "InvalidRules" = some (some (.ref C_InvalidRules)))
    (cl_InvalidRules : K.lookup C_InvalidRules = some (excClassObj nm_InvalidRules q_InvalidRules C_InvalidRules N_InvalidRules bs_InvalidRules (.ref GR :: PySem.ESX.exTail) true sn_InvalidRules sub_InvalidRules ab_InvalidRules col_InvalidRules dd_InvalidRules m0_InvalidRules m1_InvalidRules m2_InvalidRules m3_InvalidRules m5_InvalidRules "Exception.__new__"))
    (sa_InvalidRules : PySem.W.findIn K (.ref C_InvalidRules) "__setattr__" = some (some (.builtin "object.__setattr__")))
    (ga_InvalidRules : PySem.W.findIn K (.ref C_InvalidRules) "__getattribute__" = some (some (.builtin "BaseException.__getattribute__")))
    (gg_InvalidRules : PySem.W.findIn K (.ref C_InvalidRules) "__getattr__" = some none)
    (nn_InvalidRules : PySem.W.findIn K (.ref C_InvalidRules) "given" = some none)
    (iC_InvalidRules : PySem.W.findIn K (.ref C_InvalidRules) "__init__" = some (some (.ref I_InvalidRules)))
    (tC_InvalidRules : PySem.W.typeIn K (.ref I_InvalidRules) = some (.type "function"))
    (fn_InvalidRules : K.lookup I_InvalidRules = some ⟨oc_InvalidRules, od_InvalidRules, .func (PySem.W.fnOf "__init__" "InvalidRules.__init__" (PySem.EgX.iA_givenN p1_InvalidRules p2_InvalidRules) (PySem.EgX.iB_givenN r1_InvalidRules r2_InvalidRules r3_InvalidRules r4_InvalidRules) PySem.EgX.iS_givenN .none .none doc_InvalidRules pm_InvalidRules an_InvalidRules cd_InvalidRules ct_InvalidRules), sl_InvalidRules⟩)
    (co_InvalidRules : PySem.W.codeIn K cd_InvalidRules "InvalidRules.__init__" = true)
    (kC_InvalidRules : PySem.W.keepIn K (.ref C_InvalidRules) = true)
    (eC_InvalidRules : PySem.W.subIn K (.ref C_InvalidRules) (.type "BaseException") = some true)
    (ty_InvalidRules : PySem.W.typeIn K (.ref C_InvalidRules) = some (.type "type"))
    (hd_InvalidRules : PySem.W.hasDictIn K C_InvalidRules = true)
    (ss_InvalidRules : PySem.W.subIn K (.ref C_InvalidRules) (.ref C_InvalidRules) = some true)
    (gC_NoGrain : PySem.W.nsIn K mainGlobals "NoGrain" = some (some (.ref C_NoGrain)))
    (cl_NoGrain : K.lookup C_NoGrain = some (excClassObj nm_NoGrain q_NoGrain C_NoGrain N_NoGrain bs_NoGrain (.ref GR :: PySem.ESX.exTail) true sn_NoGrain sub_NoGrain ab_NoGrain col_NoGrain dd_NoGrain m0_NoGrain m1_NoGrain m2_NoGrain m3_NoGrain m5_NoGrain "Exception.__new__"))
    (sa_NoGrain : PySem.W.findIn K (.ref C_NoGrain) "__setattr__" = some (some (.builtin "object.__setattr__")))
    (ga_NoGrain : PySem.W.findIn K (.ref C_NoGrain) "__getattribute__" = some (some (.builtin "BaseException.__getattribute__")))
    (gg_NoGrain : PySem.W.findIn K (.ref C_NoGrain) "__getattr__" = some none)
    (nn_NoGrain : PySem.W.findIn K (.ref C_NoGrain) "grain" = some none)
    (iC_NoGrain : PySem.W.findIn K (.ref C_NoGrain) "__init__" = some (some (.ref I_NoGrain)))
    (tC_NoGrain : PySem.W.typeIn K (.ref I_NoGrain) = some (.type "function"))
    (fn_NoGrain : K.lookup I_NoGrain = some ⟨oc_NoGrain, od_NoGrain, .func (PySem.W.fnOf "__init__" "NoGrain.__init__" (PySem.EgX.iA_grainN p1_NoGrain p2_NoGrain) (PySem.EgX.iB_grainN r1_NoGrain r2_NoGrain r3_NoGrain r4_NoGrain) PySem.EgX.iS_grainN .none .none doc_NoGrain pm_NoGrain an_NoGrain cd_NoGrain ct_NoGrain), sl_NoGrain⟩)
    (co_NoGrain : PySem.W.codeIn K cd_NoGrain "NoGrain.__init__" = true)
    (kC_NoGrain : PySem.W.keepIn K (.ref C_NoGrain) = true)
    (eC_NoGrain : PySem.W.subIn K (.ref C_NoGrain) (.type "BaseException") = some true)
    (ty_NoGrain : PySem.W.typeIn K (.ref C_NoGrain) = some (.type "type"))
    (hd_NoGrain : PySem.W.hasDictIn K C_NoGrain = true)
    (ss_NoGrain : PySem.W.subIn K (.ref C_NoGrain) (.ref C_NoGrain) = some true)
    (ne_InvalidRules_NoGrain : PySem.W.subIn K (.ref C_InvalidRules) (.ref C_NoGrain) = some false)
    (ne_NoGrain_InvalidRules : PySem.W.subIn K (.ref C_NoGrain) (.ref C_InvalidRules) = some false)
    (m_abs : PySem.W.nsIn K mainGlobals "abs" = some none)
    (m_all : PySem.W.nsIn K mainGlobals "all" = some none)
    (m_bool : PySem.W.nsIn K mainGlobals "bool" = some none)
    (m_dict : PySem.W.nsIn K mainGlobals "dict" = some none)
    (m_int : PySem.W.nsIn K mainGlobals "int" = some none)
    (m_isinstance : PySem.W.nsIn K mainGlobals "isinstance" = some none)
    (m_len : PySem.W.nsIn K mainGlobals "len" = some none)
    (m_list : PySem.W.nsIn K mainGlobals "list" = some none)
    (m_max : PySem.W.nsIn K mainGlobals "max" = some none)
    (m_min : PySem.W.nsIn K mainGlobals "min" = some none)
    (m_range : PySem.W.nsIn K mainGlobals "range" = some none)
    (m_repr : PySem.W.nsIn K mainGlobals "repr" = some none)
    (m_str : PySem.W.nsIn K mainGlobals "str" = some none)
    (m_sum : PySem.W.nsIn K mainGlobals "sum" = some none)
    (m_tuple : PySem.W.nsIn K mainGlobals "tuple" = some none)
    (m_zip : PySem.W.nsIn K mainGlobals "zip" = some none)
    (k__MOST_GRAINS : PySem.W.nsIn K mainGlobals "_MOST_GRAINS" = some (some (.int 4 tk__MOST_GRAINS)))
    (oc_hn : PySem.W.specialIn K (.builtin "object.__class__") "__get__" = some (some (.builtin "getset_descriptor.__get__")))
    (oc_htk : PySem.W.takesIn K (.builtin "object.__class__") = some true)
    (cA_Rules : PySem.W.nsIn K mainGlobals "Rules" = some (some (.ref C_Rules)))
    (pg_Rules : PySem.W.plainGet K C_Rules Str.empty = true)
    (hd_Rules : PySem.W.hasDictIn K C_Rules = true)
    (po_Rules : PySem.W.plainOver K C_Rules = true)
    (sa_Rules : PySem.W.findIn K (.ref C_Rules) "__setattr__" = some (some (.builtin "object.__setattr__")))
    (ha_Rules : PySem.W.findIn K (.ref C_Rules) "__class__" = some (some (.builtin "object.__class__")))
    (ci_Rules : PySem.W.clsIn K C_Rules = some cd_Rules)
    (mr_Rules : cd_Rules.mro = [.ref C_Rules, .type "object"])
    (tt_Rules : PySem.W.typeIn K (.ref C_Rules) = some (.type "type"))
    (ne_Rules : PySem.W.findIn K (.ref C_Rules) "__ne__" = some (some (.builtin "object.__ne__")))
    (mk_Rules : PySem.W.makesIn K C_Rules = true)
    (kc_Rules : PySem.W.keepIn K (.ref C_Rules) = true)
    (no_Rules_rows : PySem.W.findIn K (.ref C_Rules) "rows" = some none)
    (a_is_list : PySem.W.nsIn K mainGlobals "is_list" = some (some (.ref A_is_list)))
    (l_is_list : K.lookup A_is_list = some ⟨ocis_list, odis_list, .func (PySem.W.fnOf "is_list" "is_list" (defArgs s_is_list) (defBody s_is_list) (defScope s_is_list) .none kVis_list dcis_list pmis_list anis_list cdis_list ctis_list), slis_list⟩)
    (c_is_list : PySem.W.codeIn K cdis_list "is_list" = true)
    (k_is_list : PySem.W.keepIn K (.ref A_is_list) = true)
    (a_is_integer : PySem.W.nsIn K mainGlobals "is_integer" = some (some (.ref A_is_integer)))
    (l_is_integer : K.lookup A_is_integer = some ⟨ocis_integer, odis_integer, .func (PySem.W.fnOf "is_integer" "is_integer" (defArgs s_is_integer) (defBody s_is_integer) (defScope s_is_integer) .none kVis_integer dcis_integer pmis_integer anis_integer cdis_integer ctis_integer), slis_integer⟩)
    (c_is_integer : PySem.W.codeIn K cdis_integer "is_integer" = true)
    (k_is_integer : PySem.W.keepIn K (.ref A_is_integer) = true)
    (a_is_count : PySem.W.nsIn K mainGlobals "is_count" = some (some (.ref A_is_count)))
    (l_is_count : K.lookup A_is_count = some ⟨ocis_count, odis_count, .func (PySem.W.fnOf "is_count" "is_count" (defArgs s_is_count) (defBody s_is_count) (defScope s_is_count) .none kVis_count dcis_count pmis_count anis_count cdis_count ctis_count), slis_count⟩)
    (c_is_count : PySem.W.codeIn K cdis_count "is_count" = true)
    (k_is_count : PySem.W.keepIn K (.ref A_is_count) = true)
    (a_is_positive : PySem.W.nsIn K mainGlobals "is_positive" = some (some (.ref A_is_positive)))
    (l_is_positive : K.lookup A_is_positive = some ⟨ocis_positive, odis_positive, .func (PySem.W.fnOf "is_positive" "is_positive" (defArgs s_is_positive) (defBody s_is_positive) (defScope s_is_positive) .none kVis_positive dcis_positive pmis_positive anis_positive cdis_positive ctis_positive), slis_positive⟩)
    (c_is_positive : PySem.W.codeIn K cdis_positive "is_positive" = true)
    (k_is_positive : PySem.W.keepIn K (.ref A_is_positive) = true)
    (a__are_rules : PySem.W.nsIn K mainGlobals "_are_rules" = some (some (.ref A__are_rules)))
    (l__are_rules : K.lookup A__are_rules = some ⟨oc_are_rules, od_are_rules, .func (PySem.W.fnOf "_are_rules" "_are_rules" (defArgs s__are_rules) (defBody s__are_rules) (defScope s__are_rules) .none kV_are_rules dc_are_rules pm_are_rules an_are_rules cd_are_rules ct_are_rules), sl_are_rules⟩)
    (c__are_rules : PySem.W.codeIn K cd_are_rules "_are_rules" = true)
    (k__are_rules : PySem.W.keepIn K (.ref A__are_rules) = true)
    (a__is_row : PySem.W.nsIn K mainGlobals "_is_row" = some (some (.ref A__is_row)))
    (l__is_row : K.lookup A__is_row = some ⟨oc_is_row, od_is_row, .func (PySem.W.fnOf "_is_row" "_is_row" (defArgs s__is_row) (defBody s__is_row) (defScope s__is_row) .none kV_is_row dc_is_row pm_is_row an_is_row cd_is_row ct_is_row), sl_is_row⟩)
    (c__is_row : PySem.W.codeIn K cd_is_row "_is_row" = true)
    (k__is_row : PySem.W.keepIn K (.ref A__is_row) = true)
    (a__may_follow : PySem.W.nsIn K mainGlobals "_may_follow" = some (some (.ref A__may_follow)))
    (l__may_follow : K.lookup A__may_follow = some ⟨oc_may_follow, od_may_follow, .func (PySem.W.fnOf "_may_follow" "_may_follow" (defArgs s__may_follow) (defBody s__may_follow) (defScope s__may_follow) .none kV_may_follow dc_may_follow pm_may_follow an_may_follow cd_may_follow ct_may_follow), sl_may_follow⟩)
    (c__may_follow : PySem.W.codeIn K cd_may_follow "_may_follow" = true)
    (k__may_follow : PySem.W.keepIn K (.ref A__may_follow) = true)
    (a__law_cell : PySem.W.nsIn K mainGlobals "_law_cell" = some (some (.ref A__law_cell)))
    (l__law_cell : K.lookup A__law_cell = some ⟨oc_law_cell, od_law_cell, .func (PySem.W.fnOf "_law_cell" "_law_cell" (defArgs s__law_cell) (defBody s__law_cell) (defScope s__law_cell) .none kV_law_cell dc_law_cell pm_law_cell an_law_cell cd_law_cell ct_law_cell), sl_law_cell⟩)
    (c__law_cell : PySem.W.codeIn K cd_law_cell "_law_cell" = true)
    (k__law_cell : PySem.W.keepIn K (.ref A__law_cell) = true)
    (a__law_box : PySem.W.nsIn K mainGlobals "_law_box" = some (some (.ref A__law_box)))
    (l__law_box : K.lookup A__law_box = some ⟨oc_law_box, od_law_box, .func (PySem.W.fnOf "_law_box" "_law_box" (defArgs s__law_box) (defBody s__law_box) (defScope s__law_box) .none kV_law_box dc_law_box pm_law_box an_law_box cd_law_box ct_law_box), sl_law_box⟩)
    (c__law_box : PySem.W.codeIn K cd_law_box "_law_box" = true)
    (k__law_box : PySem.W.keepIn K (.ref A__law_box) = true)
    (a__law_take : PySem.W.nsIn K mainGlobals "_law_take" = some (some (.ref A__law_take)))
    (l__law_take : K.lookup A__law_take = some ⟨oc_law_take, od_law_take, .func (PySem.W.fnOf "_law_take" "_law_take" (defArgs s__law_take) (defBody s__law_take) (defScope s__law_take) .none kV_law_take dc_law_take pm_law_take an_law_take cd_law_take ct_law_take), sl_law_take⟩)
    (c__law_take : PySem.W.codeIn K cd_law_take "_law_take" = true)
    (k__law_take : PySem.W.keepIn K (.ref A__law_take) = true)
    (a__law_rows : PySem.W.nsIn K mainGlobals "_law_rows" = some (some (.ref A__law_rows)))
    (l__law_rows : K.lookup A__law_rows = some ⟨oc_law_rows, od_law_rows, .func (PySem.W.fnOf "_law_rows" "_law_rows" (defArgs s__law_rows) (defBody s__law_rows) (defScope s__law_rows) .none kV_law_rows dc_law_rows pm_law_rows an_law_rows cd_law_rows ct_law_rows), sl_law_rows⟩)
    (c__law_rows : PySem.W.codeIn K cd_law_rows "_law_rows" = true)
    (k__law_rows : PySem.W.keepIn K (.ref A__law_rows) = true)
    (a__law_is_count : PySem.W.nsIn K mainGlobals "_law_is_count" = some (some (.ref A__law_is_count)))
    (l__law_is_count : K.lookup A__law_is_count = some ⟨oc_law_is_count, od_law_is_count, .func (PySem.W.fnOf "_law_is_count" "_law_is_count" (defArgs s__law_is_count) (defBody s__law_is_count) (defScope s__law_is_count) .none kV_law_is_count dc_law_is_count pm_law_is_count an_law_is_count cd_law_is_count ct_law_is_count), sl_law_is_count⟩)
    (c__law_is_count : PySem.W.codeIn K cd_law_is_count "_law_is_count" = true)
    (k__law_is_count : PySem.W.keepIn K (.ref A__law_is_count) = true)
    (a__law_are_rules : PySem.W.nsIn K mainGlobals "_law_are_rules" = some (some (.ref A__law_are_rules)))
    (l__law_are_rules : K.lookup A__law_are_rules = some ⟨oc_law_are_rules, od_law_are_rules, .func (PySem.W.fnOf "_law_are_rules" "_law_are_rules" (defArgs s__law_are_rules) (defBody s__law_are_rules) (defScope s__law_are_rules) .none kV_law_are_rules dc_law_are_rules pm_law_are_rules an_law_are_rules cd_law_are_rules ct_law_are_rules), sl_law_are_rules⟩)
    (c__law_are_rules : PySem.W.codeIn K cd_law_are_rules "_law_are_rules" = true)
    (k__law_are_rules : PySem.W.keepIn K (.ref A__law_are_rules) = true)
    (a__law_ended : PySem.W.nsIn K mainGlobals "_law_ended" = some (some (.ref A__law_ended)))
    (l__law_ended : K.lookup A__law_ended = some ⟨oc_law_ended, od_law_ended, .func (PySem.W.fnOf "_law_ended" "_law_ended" (defArgs s__law_ended) (defBody s__law_ended) (defScope s__law_ended) .none kV_law_ended dc_law_ended pm_law_ended an_law_ended cd_law_ended ct_law_ended), sl_law_ended⟩)
    (c__law_ended : PySem.W.codeIn K cd_law_ended "_law_ended" = true)
    (k__law_ended : PySem.W.keepIn K (.ref A__law_ended) = true)
    (a__law_values : PySem.W.nsIn K mainGlobals "_law_values" = some (some (.ref A__law_values)))
    (l__law_values : K.lookup A__law_values = some ⟨oc_law_values, od_law_values, .func (PySem.W.fnOf "_law_values" "_law_values" (defArgs s__law_values) (defBody s__law_values) (defScope s__law_values) .none kV_law_values dc_law_values pm_law_values an_law_values cd_law_values ct_law_values), sl_law_values⟩)
    (c__law_values : PySem.W.codeIn K cd_law_values "_law_values" = true)
    (k__law_values : PySem.W.keepIn K (.ref A__law_values) = true)
    (a__law_asked_right : PySem.W.nsIn K mainGlobals "_law_asked_right" = some (some (.ref A__law_asked_right)))
    (l__law_asked_right : K.lookup A__law_asked_right = some ⟨oc_law_asked_right, od_law_asked_right, .func (PySem.W.fnOf "_law_asked_right" "_law_asked_right" (defArgs s__law_asked_right) (defBody s__law_asked_right) (defScope s__law_asked_right) .none kV_law_asked_right dc_law_asked_right pm_law_asked_right an_law_asked_right cd_law_asked_right ct_law_asked_right), sl_law_asked_right⟩)
    (c__law_asked_right : PySem.W.codeIn K cd_law_asked_right "_law_asked_right" = true)
    (k__law_asked_right : PySem.W.keepIn K (.ref A__law_asked_right) = true)
    (a__law_of_grain : PySem.W.nsIn K mainGlobals "_law_of_grain" = some (some (.ref A__law_of_grain)))
    (l__law_of_grain : K.lookup A__law_of_grain = some ⟨oc_law_of_grain, od_law_of_grain, .func (PySem.W.fnOf "_law_of_grain" "_law_of_grain" (defArgs s__law_of_grain) (defBody s__law_of_grain) (defScope s__law_of_grain) .none kV_law_of_grain dc_law_of_grain pm_law_of_grain an_law_of_grain cd_law_of_grain ct_law_of_grain), sl_law_of_grain⟩)
    (c__law_of_grain : PySem.W.codeIn K cd_law_of_grain "_law_of_grain" = true)
    (k__law_of_grain : PySem.W.keepIn K (.ref A__law_of_grain) = true)
    (a__law_grains_right : PySem.W.nsIn K mainGlobals "_law_grains_right" = some (some (.ref A__law_grains_right)))
    (l__law_grains_right : K.lookup A__law_grains_right = some ⟨oc_law_grains_right, od_law_grains_right, .func (PySem.W.fnOf "_law_grains_right" "_law_grains_right" (defArgs s__law_grains_right) (defBody s__law_grains_right) (defScope s__law_grains_right) .none kV_law_grains_right dc_law_grains_right pm_law_grains_right an_law_grains_right cd_law_grains_right ct_law_grains_right), sl_law_grains_right⟩)
    (c__law_grains_right : PySem.W.codeIn K cd_law_grains_right "_law_grains_right" = true)
    (k__law_grains_right : PySem.W.keepIn K (.ref A__law_grains_right) = true)
    (a__law_equal_right : PySem.W.nsIn K mainGlobals "_law_equal_right" = some (some (.ref A__law_equal_right)))
    (l__law_equal_right : K.lookup A__law_equal_right = some ⟨oc_law_equal_right, od_law_equal_right, .func (PySem.W.fnOf "_law_equal_right" "_law_equal_right" (defArgs s__law_equal_right) (defBody s__law_equal_right) (defScope s__law_equal_right) .none kV_law_equal_right dc_law_equal_right pm_law_equal_right an_law_equal_right cd_law_equal_right ct_law_equal_right), sl_law_equal_right⟩)
    (c__law_equal_right : PySem.W.codeIn K cd_law_equal_right "_law_equal_right" = true)
    (k__law_equal_right : PySem.W.keepIn K (.ref A__law_equal_right) = true)
    (a__law_right : PySem.W.nsIn K mainGlobals "_law_right" = some (some (.ref A__law_right)))
    (l__law_right : K.lookup A__law_right = some ⟨oc_law_right, od_law_right, .func (PySem.W.fnOf "_law_right" "_law_right" (defArgs s__law_right) (defBody s__law_right) (defScope s__law_right) .none kV_law_right dc_law_right pm_law_right an_law_right cd_law_right ct_law_right), sl_law_right⟩)
    (c__law_right : PySem.W.codeIn K cd_law_right "_law_right" = true)
    (k__law_right : PySem.W.keepIn K (.ref A__law_right) = true)
    (a_law : PySem.W.nsIn K mainGlobals "law" = some (some (.ref A_law)))
    (l_law : K.lookup A_law = some ⟨oclaw, odlaw, .func (PySem.W.fnOf "law" "law" (defArgs s_law) (defBody s_law) (defScope s_law) .none kVlaw dclaw pmlaw anlaw cdlaw ctlaw), sllaw⟩)
    (c_law : PySem.W.codeIn K cdlaw "law" = true)
    (k_law : PySem.W.keepIn K (.ref A_law) = true)
    (a_Rules____init__ : PySem.W.findIn K (.ref C_Rules) "__init__" = some (some (.ref A_Rules____init__)))
    (i_Rules____init__ : PySem.W.isFn K (.ref A_Rules____init__) = true)
    (l_Rules____init__ : K.lookup A_Rules____init__ = some ⟨ocRules____init__, odRules____init__, .func (PySem.W.fnOf "__init__" "Rules.__init__" (defArgs s_Rules____init__) (defBody s_Rules____init__) (defScope s_Rules____init__) .none kVRules____init__ dcRules____init__ pmRules____init__ anRules____init__ cdRules____init__ ctRules____init__), slRules____init__⟩)
    (c_Rules____init__ : PySem.W.codeIn K cdRules____init__ "Rules.__init__" = true)
    (k_Rules____init__ : PySem.W.keepIn K (.ref A_Rules____init__) = true)
    (a_Rules____eq__ : PySem.W.findIn K (.ref C_Rules) "__eq__" = some (some (.ref A_Rules____eq__)))
    (i_Rules____eq__ : PySem.W.isFn K (.ref A_Rules____eq__) = true)
    (l_Rules____eq__ : K.lookup A_Rules____eq__ = some ⟨ocRules____eq__, odRules____eq__, .func (PySem.W.fnOf "__eq__" "Rules.__eq__" (defArgs s_Rules____eq__) (defBody s_Rules____eq__) (defScope s_Rules____eq__) .none kVRules____eq__ dcRules____eq__ pmRules____eq__ anRules____eq__ cdRules____eq__ ctRules____eq__), slRules____eq__⟩)
    (c_Rules____eq__ : PySem.W.codeIn K cdRules____eq__ "Rules.__eq__" = true)
    (k_Rules____eq__ : PySem.W.keepIn K (.ref A_Rules____eq__) = true)
    (a_Rules____len__ : PySem.W.findIn K (.ref C_Rules) "__len__" = some (some (.ref A_Rules____len__)))
    (i_Rules____len__ : PySem.W.isFn K (.ref A_Rules____len__) = true)
    (l_Rules____len__ : K.lookup A_Rules____len__ = some ⟨ocRules____len__, odRules____len__, .func (PySem.W.fnOf "__len__" "Rules.__len__" (defArgs s_Rules____len__) (defBody s_Rules____len__) (defScope s_Rules____len__) .none kVRules____len__ dcRules____len__ pmRules____len__ anRules____len__ cdRules____len__ ctRules____len__), slRules____len__⟩)
    (c_Rules____len__ : PySem.W.codeIn K cdRules____len__ "Rules.__len__" = true)
    (k_Rules____len__ : PySem.W.keepIn K (.ref A_Rules____len__) = true)
    (a_Rules__length : PySem.W.findIn K (.ref C_Rules) "length" = some (some (.ref A_Rules__length)))
    (i_Rules__length : PySem.W.isFn K (.ref A_Rules__length) = true)
    (l_Rules__length : K.lookup A_Rules__length = some ⟨ocRules__length, odRules__length, .func (PySem.W.fnOf "length" "Rules.length" (defArgs s_Rules__length) (defBody s_Rules__length) (defScope s_Rules__length) .none kVRules__length dcRules__length pmRules__length anRules__length cdRules__length ctRules__length), slRules__length⟩)
    (c_Rules__length : PySem.W.codeIn K cdRules__length "Rules.length" = true)
    (k_Rules__length : PySem.W.keepIn K (.ref A_Rules__length) = true)
    (a_Rules__keep : PySem.W.findIn K (.ref C_Rules) "keep" = some (some (.ref A_Rules__keep)))
    (i_Rules__keep : PySem.W.isFn K (.ref A_Rules__keep) = true)
    (l_Rules__keep : K.lookup A_Rules__keep = some ⟨ocRules__keep, odRules__keep, .func (PySem.W.fnOf "keep" "Rules.keep" (defArgs s_Rules__keep) (defBody s_Rules__keep) (defScope s_Rules__keep) .none kVRules__keep dcRules__keep pmRules__keep anRules__keep cdRules__keep ctRules__keep), slRules__keep⟩)
    (c_Rules__keep : PySem.W.codeIn K cdRules__keep "Rules.keep" = true)
    (k_Rules__keep : PySem.W.keepIn K (.ref A_Rules__keep) = true)
    (a_Rules__step : PySem.W.findIn K (.ref C_Rules) "step" = some (some (.ref A_Rules__step)))
    (i_Rules__step : PySem.W.isFn K (.ref A_Rules__step) = true)
    (l_Rules__step : K.lookup A_Rules__step = some ⟨ocRules__step, odRules__step, .func (PySem.W.fnOf "step" "Rules.step" (defArgs s_Rules__step) (defBody s_Rules__step) (defScope s_Rules__step) .none kVRules__step dcRules__step pmRules__step anRules__step cdRules__step ctRules__step), slRules__step⟩)
    (c_Rules__step : PySem.W.codeIn K cdRules__step "Rules.step" = true)
    (k_Rules__step : PySem.W.keepIn K (.ref A_Rules__step) = true)
    (a_Rules___ask_grain : PySem.W.findIn K (.ref C_Rules) "_ask_grain" = some (some (.ref A_Rules___ask_grain)))
    (i_Rules___ask_grain : PySem.W.isFn K (.ref A_Rules___ask_grain) = true)
    (l_Rules___ask_grain : K.lookup A_Rules___ask_grain = some ⟨ocRules___ask_grain, odRules___ask_grain, .func (PySem.W.fnOf "_ask_grain" "Rules._ask_grain" (defArgs s_Rules___ask_grain) (defBody s_Rules___ask_grain) (defScope s_Rules___ask_grain) .none kVRules___ask_grain dcRules___ask_grain pmRules___ask_grain anRules___ask_grain cdRules___ask_grain ctRules___ask_grain), slRules___ask_grain⟩)
    (c_Rules___ask_grain : PySem.W.codeIn K cdRules___ask_grain "Rules._ask_grain" = true)
    (k_Rules___ask_grain : PySem.W.keepIn K (.ref A_Rules___ask_grain) = true) :
    ∃ fd : FuncData, (∀ (s : Shared) (u : Value), BindsTo s fd ⟨[u], []⟩ [("script", u)]) ∧ ∀ base : Heap, K.In base → base.Ns mainGlobals mg → (∃ o, base.get? sysModules = some o) → FnG PySem.Challenge.pw_everygrain_k18_rules_and_their_grains w K mg base (L2N.CX PySem.Challenge.pw_everygrain_k18_rules_and_their_grains w) 9 fa fd ["script"] (SpAll K) := by
  have e := hfa.symm.trans (PySem.W.mg_of X G a_law)
  cases e
  have low_InvalidRules : PySem.EgX.Low_givenN K mg "InvalidRules" "InvalidRules.__init__" C_InvalidRules GR I_InvalidRules := ⟨PySem.W.mg_of X G gC_InvalidRules, ⟨_, _, _, _, _, _, _, _, _, _, _, _, _, _, cl_InvalidRules⟩, sa_InvalidRules, ga_InvalidRules, gg_InvalidRules, nn_InvalidRules, iC_InvalidRules, tC_InvalidRules, kC_InvalidRules, eC_InvalidRules, ty_InvalidRules, hd_InvalidRules, PySem.W.exm_ref eC_InvalidRules hd_InvalidRules ty_InvalidRules ss_InvalidRules, ⟨_, _, _, _, _, _, _, _, _, _, _, _, _, _, fn_InvalidRules, co_InvalidRules⟩⟩
  have low_NoGrain : PySem.EgX.Low_grainN K mg "NoGrain" "NoGrain.__init__" C_NoGrain GR I_NoGrain := ⟨PySem.W.mg_of X G gC_NoGrain, ⟨_, _, _, _, _, _, _, _, _, _, _, _, _, _, cl_NoGrain⟩, sa_NoGrain, ga_NoGrain, gg_NoGrain, nn_NoGrain, iC_NoGrain, tC_NoGrain, kC_NoGrain, eC_NoGrain, ty_NoGrain, hd_NoGrain, PySem.W.exm_ref eC_NoGrain hd_NoGrain ty_NoGrain ss_NoGrain, ⟨_, _, _, _, _, _, _, _, _, _, _, _, _, _, fn_NoGrain, co_NoGrain⟩⟩
  have F_is_list := fun_mk (st := s_is_list) l_is_list c_is_list k_is_list
  have b_is_list := F_is_list.binds (ps := ["value"]) fun _ _ _ _ _ _ us hl => match us, hl with | [_], _ => rfl
  have F_is_integer := fun_mk (st := s_is_integer) l_is_integer c_is_integer k_is_integer
  have b_is_integer := F_is_integer.binds (ps := ["value"]) fun _ _ _ _ _ _ us hl => match us, hl with | [_], _ => rfl
  have F_is_count := fun_mk (st := s_is_count) l_is_count c_is_count k_is_count
  have b_is_count := F_is_count.binds (ps := ["value"]) fun _ _ _ _ _ _ us hl => match us, hl with | [_], _ => rfl
  have F_is_positive := fun_mk (st := s_is_positive) l_is_positive c_is_positive k_is_positive
  have b_is_positive := F_is_positive.binds (ps := ["value"]) fun _ _ _ _ _ _ us hl => match us, hl with | [_], _ => rfl
  have F__are_rules := fun_mk (st := s__are_rules) l__are_rules c__are_rules k__are_rules
  have b__are_rules := F__are_rules.binds (ps := ["rows"]) fun _ _ _ _ _ _ us hl => match us, hl with | [_], _ => rfl
  have F__is_row := fun_mk (st := s__is_row) l__is_row c__is_row k__is_row
  have b__is_row := F__is_row.binds (ps := ["row"]) fun _ _ _ _ _ _ us hl => match us, hl with | [_], _ => rfl
  have F__may_follow := fun_mk (st := s__may_follow) l__may_follow c__may_follow k__may_follow
  have b__may_follow := F__may_follow.binds (ps := ["row", "ahead"]) fun _ _ _ _ _ _ us hl => match us, hl with | [_, _], _ => rfl
  have F__law_cell := fun_mk (st := s__law_cell) l__law_cell c__law_cell k__law_cell
  have b__law_cell := F__law_cell.binds (ps := ["script", "k"]) fun _ _ _ _ _ _ us hl => match us, hl with | [_, _], _ => rfl
  have F__law_box := fun_mk (st := s__law_box) l__law_box c__law_box k__law_box
  have b__law_box := F__law_box.binds (ps := ["great"]) fun _ _ _ _ _ _ us hl => match us, hl with | [_], _ => rfl
  have F__law_take := fun_mk (st := s__law_take) l__law_take c__law_take k__law_take
  have b__law_take := F__law_take.binds (ps := ["box", "many"]) fun _ _ _ _ _ _ us hl => match us, hl with | [_, _], _ => rfl
  have F__law_rows := fun_mk (st := s__law_rows) l__law_rows c__law_rows k__law_rows
  have b__law_rows := F__law_rows.binds (ps := ["box"]) fun _ _ _ _ _ _ us hl => match us, hl with | [_], _ => rfl
  have F__law_is_count := fun_mk (st := s__law_is_count) l__law_is_count c__law_is_count k__law_is_count
  have b__law_is_count := F__law_is_count.binds (ps := ["value"]) fun _ _ _ _ _ _ us hl => match us, hl with | [_], _ => rfl
  have F__law_are_rules := fun_mk (st := s__law_are_rules) l__law_are_rules c__law_are_rules k__law_are_rules
  have b__law_are_rules := F__law_are_rules.binds (ps := ["value"]) fun _ _ _ _ _ _ us hl => match us, hl with | [_], _ => rfl
  have F__law_ended := fun_mk (st := s__law_ended) l__law_ended c__law_ended k__law_ended
  have b__law_ended := F__law_ended.binds (ps := ["box", "rows"]) fun _ _ _ _ _ _ us hl => match us, hl with | [_, _], _ => rfl
  have F__law_values := fun_mk (st := s__law_values) l__law_values c__law_values k__law_values
  have b__law_values := F__law_values.binds (ps := ["box", "full", "rows"]) fun _ _ _ _ _ _ us hl => match us, hl with | [_, _, _], _ => rfl
  have F__law_asked_right := fun_mk (st := s__law_asked_right) l__law_asked_right c__law_asked_right k__law_asked_right
  have b__law_asked_right := F__law_asked_right.binds (ps := ["value", "due", "way"]) fun _ _ _ _ _ _ us hl => match us, hl with | [_, _, _], _ => rfl
  have F__law_of_grain := fun_mk (st := s__law_of_grain) l__law_of_grain c__law_of_grain k__law_of_grain
  have b__law_of_grain := F__law_of_grain.binds (ps := ["rules", "grain", "door", "way"]) fun _ _ _ _ _ _ us hl => match us, hl with | [_, _, _, _], _ => rfl
  have F__law_grains_right := fun_mk (st := s__law_grains_right) l__law_grains_right c__law_grains_right k__law_grains_right
  have b__law_grains_right := F__law_grains_right.binds (ps := ["rules", "rows", "way"]) fun _ _ _ _ _ _ us hl => match us, hl with | [_, _, _], _ => rfl
  have F__law_equal_right := fun_mk (st := s__law_equal_right) l__law_equal_right c__law_equal_right k__law_equal_right
  have b__law_equal_right := F__law_equal_right.binds (ps := ["rules", "rows"]) fun _ _ _ _ _ _ us hl => match us, hl with | [_, _], _ => rfl
  have F__law_right := fun_mk (st := s__law_right) l__law_right c__law_right k__law_right
  have b__law_right := F__law_right.binds (ps := ["box"]) fun _ _ _ _ _ _ us hl => match us, hl with | [_], _ => rfl
  have F_law := fun_mk (st := s_law) l_law c_law k_law
  have b_law := F_law.binds (ps := ["script"]) fun _ _ _ _ _ _ us hl => match us, hl with | [_], _ => rfl
  have F_Rules____init__ := fun_mk (st := s_Rules____init__) l_Rules____init__ c_Rules____init__ k_Rules____init__
  have b_Rules____init__ := F_Rules____init__.binds (ps := ["self", "rows"]) fun _ _ _ _ _ _ us hl => match us, hl with | [_, _], _ => rfl
  have F_Rules____eq__ := fun_mk (st := s_Rules____eq__) l_Rules____eq__ c_Rules____eq__ k_Rules____eq__
  have b_Rules____eq__ := F_Rules____eq__.binds (ps := ["self", "other"]) fun _ _ _ _ _ _ us hl => match us, hl with | [_, _], _ => rfl
  have F_Rules____len__ := fun_mk (st := s_Rules____len__) l_Rules____len__ c_Rules____len__ k_Rules____len__
  have b_Rules____len__ := F_Rules____len__.binds (ps := ["self"]) fun _ _ _ _ _ _ us hl => match us, hl with | [_], _ => rfl
  have F_Rules__length := fun_mk (st := s_Rules__length) l_Rules__length c_Rules__length k_Rules__length
  have b_Rules__length := F_Rules__length.binds (ps := ["self", "grain"]) fun _ _ _ _ _ _ us hl => match us, hl with | [_, _], _ => rfl
  have F_Rules__keep := fun_mk (st := s_Rules__keep) l_Rules__keep c_Rules__keep k_Rules__keep
  have b_Rules__keep := F_Rules__keep.binds (ps := ["self", "grain"]) fun _ _ _ _ _ _ us hl => match us, hl with | [_, _], _ => rfl
  have F_Rules__step := fun_mk (st := s_Rules__step) l_Rules__step c_Rules__step k_Rules__step
  have b_Rules__step := F_Rules__step.binds (ps := ["self", "grain"]) fun _ _ _ _ _ _ us hl => match us, hl with | [_, _], _ => rfl
  have F_Rules___ask_grain := fun_mk (st := s_Rules___ask_grain) l_Rules___ask_grain c_Rules___ask_grain k_Rules___ask_grain
  have b_Rules___ask_grain := F_Rules___ask_grain.binds (ps := ["self", "grain"]) fun _ _ _ _ _ _ us hl => match us, hl with | [_, _], _ => rfl
  have clx : ∃ clf : String → Addr, clf "InvalidRules" = C_InvalidRules ∧ clf "NoGrain" = C_NoGrain := ⟨fun c => if c = "InvalidRules" then C_InvalidRules else C_NoGrain, by simp, by simp⟩
  obtain ⟨clf, q_cl_InvalidRules, q_cl_NoGrain⟩ := clx
  have lowc_InvalidRules : PySem.EgX.Low_givenN K mg "InvalidRules" "InvalidRules.__init__" (clf "InvalidRules") GR I_InvalidRules := by rw [q_cl_InvalidRules]; exact low_InvalidRules
  have lowc_NoGrain : PySem.EgX.Low_grainN K mg "NoGrain" "NoGrain.__init__" (clf "NoGrain") GR I_NoGrain := by rw [q_cl_NoGrain]; exact low_NoGrain
  have exx : ∀ C, C ∈ Ls → ∀ n, n ∈ Ls → PySem.W.exmOne K (.ref (clf C)) (.ref (clf n)) = some (decide (C = n)) := by
    intro C hC n hn
    simp only [Ls, List.mem_cons, List.not_mem_nil, or_false] at hC hn
    rcases hC with rfl | rfl <;> rcases hn with rfl | rfl
    · rw [q_cl_InvalidRules]; exact PySem.W.exm_ref eC_InvalidRules hd_InvalidRules ty_InvalidRules ss_InvalidRules
    · rw [q_cl_InvalidRules, q_cl_NoGrain]; exact PySem.W.exm_ref eC_NoGrain hd_NoGrain ty_NoGrain ne_InvalidRules_NoGrain
    · rw [q_cl_NoGrain, q_cl_InvalidRules]; exact PySem.W.exm_ref eC_InvalidRules hd_InvalidRules ty_InvalidRules ne_NoGrain_InvalidRules
    · rw [q_cl_NoGrain]; exact PySem.W.exm_ref eC_NoGrain hd_NoGrain ty_NoGrain ss_NoGrain
  refine ⟨PySem.W.fnOf "law" "law" (defArgs s_law) (defBody s_law) (defScope s_law) .none kVlaw dclaw pmlaw anlaw cdlaw ctlaw, fun s u => .of_eq rfl, fun base KB _ SY => ?_⟩
  exact fnG_all (ok_law (P := PySem.Challenge.pw_everygrain_k18_rules_and_their_grains) (w := w) (K := K) (mg := mg) (base := base) { sys := SY, m_abs := PySem.W.mg_none_of X G m_abs, m_all := PySem.W.mg_none_of X G m_all, m_bool := PySem.W.mg_none_of X G m_bool, m_dict := PySem.W.mg_none_of X G m_dict, m_int := PySem.W.mg_none_of X G m_int, m_isinstance := PySem.W.mg_none_of X G m_isinstance, m_len := PySem.W.mg_none_of X G m_len, m_list := PySem.W.mg_none_of X G m_list, m_max := PySem.W.mg_none_of X G m_max, m_min := PySem.W.mg_none_of X G m_min, m_range := PySem.W.mg_none_of X G m_range, m_repr := PySem.W.mg_none_of X G m_repr, m_str := PySem.W.mg_none_of X G m_str, m_sum := PySem.W.mg_none_of X G m_sum, m_tuple := PySem.W.mg_none_of X G m_tuple, m_zip := PySem.W.mg_none_of X G m_zip, k__MOST_GRAINS := ⟨_, PySem.W.mg_of X G k__MOST_GRAINS, ⟨_, rfl⟩⟩, grain := GR, cl := clf, i_InvalidRules := I_InvalidRules, low_InvalidRules := lowc_InvalidRules, i_NoGrain := I_NoGrain, low_NoGrain := lowc_NoGrain, ex := exx, a_is_list := A_is_list, fd_is_list := _, F_is_list := F_is_list, b_is_list := b_is_list, g_is_list := PySem.W.mg_of X G a_is_list, a_is_integer := A_is_integer, fd_is_integer := _, F_is_integer := F_is_integer, b_is_integer := b_is_integer, g_is_integer := PySem.W.mg_of X G a_is_integer, a_is_count := A_is_count, fd_is_count := _, F_is_count := F_is_count, b_is_count := b_is_count, g_is_count := PySem.W.mg_of X G a_is_count, a_is_positive := A_is_positive, fd_is_positive := _, F_is_positive := F_is_positive, b_is_positive := b_is_positive, g_is_positive := PySem.W.mg_of X G a_is_positive, a__are_rules := A__are_rules, fd__are_rules := _, F__are_rules := F__are_rules, b__are_rules := b__are_rules, g__are_rules := PySem.W.mg_of X G a__are_rules, a__is_row := A__is_row, fd__is_row := _, F__is_row := F__is_row, b__is_row := b__is_row, g__is_row := PySem.W.mg_of X G a__is_row, a__may_follow := A__may_follow, fd__may_follow := _, F__may_follow := F__may_follow, b__may_follow := b__may_follow, g__may_follow := PySem.W.mg_of X G a__may_follow, a__law_cell := A__law_cell, fd__law_cell := _, F__law_cell := F__law_cell, b__law_cell := b__law_cell, g__law_cell := PySem.W.mg_of X G a__law_cell, a__law_box := A__law_box, fd__law_box := _, F__law_box := F__law_box, b__law_box := b__law_box, g__law_box := PySem.W.mg_of X G a__law_box, a__law_take := A__law_take, fd__law_take := _, F__law_take := F__law_take, b__law_take := b__law_take, g__law_take := PySem.W.mg_of X G a__law_take, a__law_rows := A__law_rows, fd__law_rows := _, F__law_rows := F__law_rows, b__law_rows := b__law_rows, g__law_rows := PySem.W.mg_of X G a__law_rows, a__law_is_count := A__law_is_count, fd__law_is_count := _, F__law_is_count := F__law_is_count, b__law_is_count := b__law_is_count, g__law_is_count := PySem.W.mg_of X G a__law_is_count, a__law_are_rules := A__law_are_rules, fd__law_are_rules := _, F__law_are_rules := F__law_are_rules, b__law_are_rules := b__law_are_rules, g__law_are_rules := PySem.W.mg_of X G a__law_are_rules, a__law_ended := A__law_ended, fd__law_ended := _, F__law_ended := F__law_ended, b__law_ended := b__law_ended, g__law_ended := PySem.W.mg_of X G a__law_ended, a__law_values := A__law_values, fd__law_values := _, F__law_values := F__law_values, b__law_values := b__law_values, g__law_values := PySem.W.mg_of X G a__law_values, a__law_asked_right := A__law_asked_right, fd__law_asked_right := _, F__law_asked_right := F__law_asked_right, b__law_asked_right := b__law_asked_right, g__law_asked_right := PySem.W.mg_of X G a__law_asked_right, a__law_of_grain := A__law_of_grain, fd__law_of_grain := _, F__law_of_grain := F__law_of_grain, b__law_of_grain := b__law_of_grain, g__law_of_grain := PySem.W.mg_of X G a__law_of_grain, a__law_grains_right := A__law_grains_right, fd__law_grains_right := _, F__law_grains_right := F__law_grains_right, b__law_grains_right := b__law_grains_right, g__law_grains_right := PySem.W.mg_of X G a__law_grains_right, a__law_equal_right := A__law_equal_right, fd__law_equal_right := _, F__law_equal_right := F__law_equal_right, b__law_equal_right := b__law_equal_right, g__law_equal_right := PySem.W.mg_of X G a__law_equal_right, a__law_right := A__law_right, fd__law_right := _, F__law_right := F__law_right, b__law_right := b__law_right, g__law_right := PySem.W.mg_of X G a__law_right, a_law := fa, fd_law := _, F_law := F_law, b_law := b_law, g_law := PySem.W.mg_of X G a_law, a_Rules____init__ := A_Rules____init__, fd_Rules____init__ := _, F_Rules____init__ := F_Rules____init__, b_Rules____init__ := b_Rules____init__, a_Rules____eq__ := A_Rules____eq__, fd_Rules____eq__ := _, F_Rules____eq__ := F_Rules____eq__, b_Rules____eq__ := b_Rules____eq__, a_Rules____len__ := A_Rules____len__, fd_Rules____len__ := _, F_Rules____len__ := F_Rules____len__, b_Rules____len__ := b_Rules____len__, a_Rules__length := A_Rules__length, fd_Rules__length := _, F_Rules__length := F_Rules__length, b_Rules__length := b_Rules__length, a_Rules__keep := A_Rules__keep, fd_Rules__keep := _, F_Rules__keep := F_Rules__keep, b_Rules__keep := b_Rules__keep, a_Rules__step := A_Rules__step, fd_Rules__step := _, F_Rules__step := F_Rules__step, b_Rules__step := b_Rules__step, a_Rules___ask_grain := A_Rules___ask_grain, fd_Rules___ask_grain := _, F_Rules___ask_grain := F_Rules___ask_grain, b_Rules___ask_grain := b_Rules___ask_grain, os := fun C hC => by simp only [List.mem_cons, List.not_mem_nil, or_false] at hC; rcases hC with rfl <;> first | exact ⟨⟨pg_Rules, hd_Rules, po_Rules, sa_Rules⟩, ha_Rules, oc_hn, oc_htk, L2.mroL_of ci_Rules mr_Rules, tt_Rules⟩, c_Rules := C_Rules, C_Rules := ⟨pg_Rules, hd_Rules, po_Rules, sa_Rules⟩, q_Rules := ⟨a_Rules____eq__, ne_Rules, i_Rules____eq__, L2.OwnC.obj ⟨⟨pg_Rules, hd_Rules, po_Rules, sa_Rules⟩, ha_Rules, oc_hn, oc_htk, L2.mroL_of ci_Rules mr_Rules, tt_Rules⟩⟩, ln_Rules := ⟨a_Rules____len__, i_Rules____len__⟩, g_Rules := PySem.W.mg_of X G cA_Rules, M_Rules := ⟨mk_Rules, a_Rules____init__, i_Rules____init__, kc_Rules⟩, n_Rules_rows := no_Rules_rows, h_Rules__length := ⟨a_Rules__length, i_Rules__length, k_Rules__length⟩, h_Rules__keep := ⟨a_Rules__keep, i_Rules__keep, k_Rules__keep⟩, h_Rules__step := ⟨a_Rules__step, i_Rules__step, k_Rules__step⟩, h_Rules___ask_grain := ⟨a_Rules___ask_grain, i_Rules___ask_grain, k_Rules___ask_grain⟩, kb_Rules____init___1_rows := kb_perm [0] fun s us ws h1 h2 => match us, h1, ws, h2 with | [_], _, [_], _ => .of_eq rfl, kb_Rules__keep_1_grain := kb_perm [0] fun s us ws h1 h2 => match us, h1, ws, h2 with | [_], _, [_], _ => .of_eq rfl, kb_Rules__length_1_grain := kb_perm [0] fun s us ws h1 h2 => match us, h1, ws, h2 with | [_], _, [_], _ => .of_eq rfl, kb_Rules__step_1_grain := kb_perm [0] fun s us ws h1 h2 => match us, h1, ws, h2 with | [_], _, [_], _ => .of_eq rfl })
end Mi.K18
open PySem PySem.W PyProof.Rows
set_option maxRecDepth 100000 in
set_option maxHeartbeats 0 in
theorem PySem.Challenge.cw_everygrain_k18_rules_and_their_grains_holds : PySem.Challenge.rw_everygrain_k18_rules_and_their_grains.Holds := by
  w_on; o_law; k_head; (case hw => w_witness2)
  k_fill
  refine Eg.walk_ofGN (l := PySem.Challenge.rw_everygrain_k18_rules_and_their_grains) (n := 63) (k := 9) (x := "script") (sp := Mi.K18.SpAll) rfl (by decide) rfl ⟨rfl, by decide, by decide⟩ (by decide +kernel) (fun w h Y => PySem.W.kIn_of Y) ?F ?S
  case F =>
    intro w mg fa h KX G hmg
    refine' Mi.K18.all_mk KX G hmg ?gC_InvalidRules ?cl_InvalidRules ?sa_InvalidRules ?ga_InvalidRules ?gg_InvalidRules ?nn_InvalidRules ?iC_InvalidRules ?tC_InvalidRules ?fn_InvalidRules ?co_InvalidRules ?kC_InvalidRules ?eC_InvalidRules ?ty_InvalidRules ?hd_InvalidRules ?ss_InvalidRules ?gC_NoGrain ?cl_NoGrain ?sa_NoGrain ?ga_NoGrain ?gg_NoGrain ?nn_NoGrain ?iC_NoGrain ?tC_NoGrain ?fn_NoGrain ?co_NoGrain ?kC_NoGrain ?eC_NoGrain ?ty_NoGrain ?hd_NoGrain ?ss_NoGrain ?ne_InvalidRules_NoGrain ?ne_NoGrain_InvalidRules ?m_abs ?m_all ?m_bool ?m_dict ?m_int ?m_isinstance ?m_len ?m_list ?m_max ?m_min ?m_range ?m_repr ?m_str ?m_sum ?m_tuple ?m_zip ?k__MOST_GRAINS ?oc_hn ?oc_htk ?cA_Rules ?pg_Rules ?hd_Rules ?po_Rules ?sa_Rules ?ha_Rules ?ci_Rules ?mr_Rules ?tt_Rules ?ne_Rules ?mk_Rules ?kc_Rules ?no_Rules_rows ?a_is_list ?l_is_list ?c_is_list ?k_is_list ?a_is_integer ?l_is_integer ?c_is_integer ?k_is_integer ?a_is_count ?l_is_count ?c_is_count ?k_is_count ?a_is_positive ?l_is_positive ?c_is_positive ?k_is_positive ?a__are_rules ?l__are_rules ?c__are_rules ?k__are_rules ?a__is_row ?l__is_row ?c__is_row ?k__is_row ?a__may_follow ?l__may_follow ?c__may_follow ?k__may_follow ?a__law_cell ?l__law_cell ?c__law_cell ?k__law_cell ?a__law_box ?l__law_box ?c__law_box ?k__law_box ?a__law_take ?l__law_take ?c__law_take ?k__law_take ?a__law_rows ?l__law_rows ?c__law_rows ?k__law_rows ?a__law_is_count ?l__law_is_count ?c__law_is_count ?k__law_is_count ?a__law_are_rules ?l__law_are_rules ?c__law_are_rules ?k__law_are_rules ?a__law_ended ?l__law_ended ?c__law_ended ?k__law_ended ?a__law_values ?l__law_values ?c__law_values ?k__law_values ?a__law_asked_right ?l__law_asked_right ?c__law_asked_right ?k__law_asked_right ?a__law_of_grain ?l__law_of_grain ?c__law_of_grain ?k__law_of_grain ?a__law_grains_right ?l__law_grains_right ?c__law_grains_right ?k__law_grains_right ?a__law_equal_right ?l__law_equal_right ?c__law_equal_right ?k__law_equal_right ?a__law_right ?l__law_right ?c__law_right ?k__law_right ?a_law ?l_law ?c_law ?k_law ?a_Rules____init__ ?i_Rules____init__ ?l_Rules____init__ ?c_Rules____init__ ?k_Rules____init__ ?a_Rules____eq__ ?i_Rules____eq__ ?l_Rules____eq__ ?c_Rules____eq__ ?k_Rules____eq__ ?a_Rules____len__ ?i_Rules____len__ ?l_Rules____len__ ?c_Rules____len__ ?k_Rules____len__ ?a_Rules__length ?i_Rules__length ?l_Rules__length ?c_Rules__length ?k_Rules__length ?a_Rules__keep ?i_Rules__keep ?l_Rules__keep ?c_Rules__keep ?k_Rules__keep ?a_Rules__step ?i_Rules__step ?l_Rules__step ?c_Rules__step ?k_Rules__step ?a_Rules___ask_grain ?i_Rules___ask_grain ?l_Rules___ask_grain ?c_Rules___ask_grain ?k_Rules___ask_grain
    (case gC_InvalidRules => k_is); (case cl_InvalidRules => k_is); (case sa_InvalidRules => k_is); (case ga_InvalidRules => k_is); (case gg_InvalidRules => k_is); (case nn_InvalidRules => k_is)
    (case iC_InvalidRules => k_is); (case tC_InvalidRules => k_is); (case fn_InvalidRules => k_is); (case co_InvalidRules => k_is); (case kC_InvalidRules => k_is); (case eC_InvalidRules => k_is)
    (case ty_InvalidRules => k_is); (case hd_InvalidRules => k_is); (case ss_InvalidRules => k_is); (case gC_NoGrain => k_is); (case cl_NoGrain => k_is); (case sa_NoGrain => k_is)
    (case ga_NoGrain => k_is); (case gg_NoGrain => k_is); (case nn_NoGrain => k_is); (case iC_NoGrain => k_is); (case tC_NoGrain => k_is); (case fn_NoGrain => k_is)
    (case co_NoGrain => k_is); (case kC_NoGrain => k_is); (case eC_NoGrain => k_is); (case ty_NoGrain => k_is); (case hd_NoGrain => k_is); (case ss_NoGrain => k_is)
    (case ne_InvalidRules_NoGrain => k_is); (case ne_NoGrain_InvalidRules => k_is); (case m_abs => k_is); (case m_all => k_is); (case m_bool => k_is); (case m_dict => k_is)
    (case m_int => k_is); (case m_isinstance => k_is); (case m_len => k_is); (case m_list => k_is); (case m_max => k_is); (case m_min => k_is)
    (case m_range => k_is); (case m_repr => k_is); (case m_str => k_is); (case m_sum => k_is); (case m_tuple => k_is); (case m_zip => k_is)
    (case k__MOST_GRAINS => k_is); (case oc_hn => k_is); (case oc_htk => k_is); (case cA_Rules => k_is); (case pg_Rules => k_is); (case hd_Rules => k_is)
    (case po_Rules => k_is); (case sa_Rules => k_is); (case ha_Rules => k_is); (case ci_Rules => k_is); (case mr_Rules => exact rfl); (case tt_Rules => k_is)
    (case ne_Rules => k_is); (case mk_Rules => k_is); (case kc_Rules => k_is); (case no_Rules_rows => k_is); (case a_is_list => k_is); (case l_is_list => k_is)
    (case c_is_list => k_is); (case k_is_list => k_is); (case a_is_integer => k_is); (case l_is_integer => k_is); (case c_is_integer => k_is); (case k_is_integer => k_is)
    (case a_is_count => k_is); (case l_is_count => k_is); (case c_is_count => k_is); (case k_is_count => k_is); (case a_is_positive => k_is); (case l_is_positive => k_is)
    (case c_is_positive => k_is); (case k_is_positive => k_is); (case a__are_rules => k_is); (case l__are_rules => k_is); (case c__are_rules => k_is); (case k__are_rules => k_is)
    (case a__is_row => k_is); (case l__is_row => k_is); (case c__is_row => k_is); (case k__is_row => k_is); (case a__may_follow => k_is); (case l__may_follow => k_is)
    (case c__may_follow => k_is); (case k__may_follow => k_is); (case a__law_cell => k_is); (case l__law_cell => k_is); (case c__law_cell => k_is); (case k__law_cell => k_is)
    (case a__law_box => k_is); (case l__law_box => k_is); (case c__law_box => k_is); (case k__law_box => k_is); (case a__law_take => k_is); (case l__law_take => k_is)
    (case c__law_take => k_is); (case k__law_take => k_is); (case a__law_rows => k_is); (case l__law_rows => k_is); (case c__law_rows => k_is); (case k__law_rows => k_is)
    (case a__law_is_count => k_is); (case l__law_is_count => k_is); (case c__law_is_count => k_is); (case k__law_is_count => k_is); (case a__law_are_rules => k_is); (case l__law_are_rules => k_is)
    (case c__law_are_rules => k_is); (case k__law_are_rules => k_is); (case a__law_ended => k_is); (case l__law_ended => k_is); (case c__law_ended => k_is); (case k__law_ended => k_is)
    (case a__law_values => k_is); (case l__law_values => k_is); (case c__law_values => k_is); (case k__law_values => k_is); (case a__law_asked_right => k_is); (case l__law_asked_right => k_is)
    (case c__law_asked_right => k_is); (case k__law_asked_right => k_is); (case a__law_of_grain => k_is); (case l__law_of_grain => k_is); (case c__law_of_grain => k_is); (case k__law_of_grain => k_is)
    (case a__law_grains_right => k_is); (case l__law_grains_right => k_is); (case c__law_grains_right => k_is); (case k__law_grains_right => k_is); (case a__law_equal_right => k_is); (case l__law_equal_right => k_is)
    (case c__law_equal_right => k_is); (case k__law_equal_right => k_is); (case a__law_right => k_is); (case l__law_right => k_is); (case c__law_right => k_is); (case k__law_right => k_is)
    (case a_law => k_is); (case l_law => k_is); (case c_law => k_is); (case k_law => k_is); (case a_Rules____init__ => k_is); (case i_Rules____init__ => k_is)
    (case l_Rules____init__ => k_is); (case c_Rules____init__ => k_is); (case k_Rules____init__ => k_is); (case a_Rules____eq__ => k_is); (case i_Rules____eq__ => k_is); (case l_Rules____eq__ => k_is)
    (case c_Rules____eq__ => k_is); (case k_Rules____eq__ => k_is); (case a_Rules____len__ => k_is); (case i_Rules____len__ => k_is); (case l_Rules____len__ => k_is); (case c_Rules____len__ => k_is)
    (case k_Rules____len__ => k_is); (case a_Rules__length => k_is); (case i_Rules__length => k_is); (case l_Rules__length => k_is); (case c_Rules__length => k_is); (case k_Rules__length => k_is)
    (case a_Rules__keep => k_is); (case i_Rules__keep => k_is); (case l_Rules__keep => k_is); (case c_Rules__keep => k_is); (case k_Rules__keep => k_is); (case a_Rules__step => k_is)
    (case i_Rules__step => k_is); (case l_Rules__step => k_is); (case c_Rules__step => k_is); (case k_Rules__step => k_is); (case a_Rules___ask_grain => k_is); (case i_Rules___ask_grain => k_is)
    (case l_Rules___ask_grain => k_is); (case c_Rules___ask_grain => k_is); (case k_Rules___ask_grain => k_is)
  case S =>
    intro w H a ns hl hs hH
    exact Mi.K18.start hs hH

