import PyProof.Rows.All
import Wide.All
import OpenK.AllK
import Wide.FinOn
import HandS.ForMost
import HandS.ForExc
import HandS.ExcSuper
import HandS.TryMany
import HandS.IsInst
import HandS.Style
import HandS.TupAny
import HandS.Zip
import PyProof.ReprBulk
import HandS.Ends
import PySem.Challenge.RW_everygrain_k09_folds_by_walks
import PyProof.EqAt
import PyProof.EqKinds
import PyProof.TupleCall
import Open.SpecLaws
import KE.OsGo
import HandS.ForSpec
import HandS.ExcIs
/-! EgExc -/
set_option Elab.async false
set_option linter.all false
set_option maxRecDepth 100000
set_option maxHeartbeats 2000000
/-! ## Own errors: class C(G) over class G(Exception), with __init__(self, given): self.given = given -/
namespace PySem
namespace EgX
open Builtin Builtin.ObjectAttr
open PySem.W PySem.Calls PyProof.Rows PySem.HandSPX

abbrev mroG (C G : Addr) : List Value := .ref C :: .ref G :: PySem.ESX.exTail
theorem mroG_con (C G : Addr) (Y : String) : (mroG C G).contains (.type Y) = PySem.ESX.exTail.contains (.type Y) := by
  show List.contains (Value.ref C :: Value.ref G :: PySem.ESX.exTail) (.type Y) = _
  rw [List.contains_cons, List.contains_cons]
  rfl
theorem tailG_con (G : Addr) (Y : String) : (Value.ref G :: PySem.ESX.exTail).contains (.type Y) = PySem.ESX.exTail.contains (.type Y) := by
  rw [List.contains_cons]
  rfl
section
variable {prog : Program} {w : World} {A : Around} {E : Value → Shared → Prop} {R : Result → Shared → Prop} {hp : Heap} {g : Array GenState} {d : Drawn} {t : Nat} {os : OsState}
theorem osaG {K : W.Frag} {nam : Str} {u1 : Tok} {vv : Value} {x C G : Addr} {fv : Array Value} {cd : ClassData}
    (kin : K.In hp) (hx : hp.get? x = some { cls := .ref C, data := .fields fv }) (hcd : W.clsIn K C = some cd) (hm : cd.mro = mroG C G) (hh : cd.hasDict = true) (ha : W.findIn K (.ref C) nam = some none)
    (fin : ∀ h2 tk2 dx, (∀ b o, b ≠ x → hp.get? b = some o → h2.get? b = some o) → hp.objs.size ≤ dx → dx ≠ x →
      h2.get? x = some { cls := .ref C, dict := some dx, data := .fields fv } →
      h2.Ns1 dx (fun y => if y = nam then some vv else none) → R (.ok (.ret .none)) ⟨h2, g, d, tk2, os⟩) :
    codeAny (model prog w) A (.call (.builtin "object.__setattr__") ⟨[.ref x, .str nam u1, vv], []⟩) R ⟨hp, g, d, t, os⟩ := by
  have inst : W.InstAt hp x { cls := .ref C, data := .fields fv } C none := ⟨hx, rfl, rfl, trivial⟩
  have xs : x ≠ hp.objs.size := Nat.ne_of_lt (Heap.lt_size hx)
  have fo := F.store_object
  have has : W.mroIn K C (.type "object") = some true := by
    unfold W.mroIn
    rw [hcd, Option.bind_some, hm, if_neg (show ¬ (List.isEmpty (mroG C G) = true) from Bool.false_ne_true), mroG_con]
    decide +kernel
  have isob : W.Looks (model prog w) hp (isInstance (.ref x) (.type "object")) true := inst.type.andThen (W.looks_mroIn kin has)
  refine codeAny_call_builtin fo.slot.plain fo.entry (@W.check_slot (model prog w) _ _ ⟨hp, g, d, t, os⟩ "object.__setattr__" "object" "__setattr__" (.ref x) [.str nam u1, vv] [] _ fo.kind fo.split isob (fo.args (.ref x) (.str nam u1) vv) ?_)
  have lm : W.Looks (model prog w) hp (mroOf (.ref C)) cd.mro := (W.looks_clsIn kin hcd).andThen .now
  have ln : W.Looks (model prog w) hp (storeTaker? none) none := .now
  have lc : W.Looks (model prog w) hp (classData C) cd := W.looks_clsIn kin hcd
  have pass : refuseLoop (.ref x) "__setattr__" cd.mro = pure () := by
    rw [hm, refuseLoop_ref, refuseLoop_ref]
    exact F.store_Exception.passes _
  rw [W.osa_eq, refuse_eq]
  refine wpAny_bind (wpAny_bind (inst.type.at (wpAny_bind (lm.at ?_))))
  rw [pass]
  refine wpAny_pure (wpAny_bind (inst.type.at (wpAny_bind ((W.looks_findIn kin ha).at (wpAny_bind (ln.at ?_))))))
  show wpAny _ _ (storeInOwnDict (.ref x) (.ref C) (.str nam u1) nam vv false) _ _ _
  obtain ⟨nm, bs, mro, ns, qn, hd, sn, sb, ab, col, del⟩ := cd
  dsimp only at hh
  subst hh
  unfold storeInOwnDict ownDictForStores
  repeat (first | with_reducible refine store_in_new ?_ ?_ | with_reducible refine wpAny_loadPart_at hx ?_ | with_reducible refine lc.at ?_ | wp_step)
  · exact ⟨_, #[], _, (Heap.get?_update_ne _ _ _ _ xs.symm).trans (Heap.get?_push_at rfl rfl), rfl, fun e he => absurd he (by simp), fun _ => rfl⟩
  · intro h2 tk2 hn2 same
    have hx1 : (hp.push { cls := .type "dict", data := .dict #[] }).get? x = some { cls := .ref C, data := .fields fv } := Heap.get?_push_of_some _ hx
    refine fin h2 tk2 hp.objs.size (fun b o hb ho => ?_) (Nat.le_refl _) xs.symm ?_ hn2
    · exact (same.2 b (Nat.ne_of_lt (Heap.lt_size ho))).trans ((Heap.get?_update_ne _ _ _ _ hb).trans (Heap.get?_push_of_some _ ho))
    · exact (same.2 x xs).trans (Heap.get?_update_self _ hx1 rfl)
end
end EgX
end PySem

/-! EgLow -/
set_option Elab.async false
set_option linter.all false
set_option maxRecDepth 100000
set_option maxHeartbeats 2000000
/-! ### an own error with the field given -/
namespace PySem
namespace EgX
open PySem.W PySem.Calls PyProof.Rows PySem.HandSPX
def iA_given (p1 p2 : Pos) : Arguments :=
  { posonlyargs := [], args := [{ arg := "self", annotation := none, pos := p1 }, { arg := "given", annotation := none, pos := p2 }],
    vararg := none, kwonlyargs := [], kw_defaults := [], kwarg := none, defaults := [] }
def iB_given (q1 q2 q3 q4 : Pos) : List Stmt := [.Assign [.Attribute (.Name "self" q1) "given" q2] (.Name "given" q3) q4]
def iS_given : Scope :=
  { kind := .function, names := [(PySem.Str.ofString "self", .local), (PySem.Str.ofString "given", .local)], isGenerator := false, isCoroutine := false, more := [] }
/-- the class cn at C under G, its __init__ at fI -/
structure Low_given (K : Frag) (mg : Str → Option Value) (cn qn : Str) (C G fI : Addr) : Prop where
  gC : mg cn = some (.ref C)
  cls : ∃ nm q N bs sn sub ab col dd k0 k1 k2 k3 k5, K.lookup C = some (excClassObj nm q C N bs (.ref G :: PySem.ESX.exTail) true sn sub ab col dd k0 k1 k2 k3 k5 "Exception.__new__")
  sa : findIn K (.ref C) "__setattr__" = some (some (.builtin "object.__setattr__"))
  ga : findIn K (.ref C) "__getattribute__" = some (some (.builtin "BaseException.__getattribute__"))
  gg : findIn K (.ref C) "__getattr__" = some none
  noN : findIn K (.ref C) "given" = some none
  iC : findIn K (.ref C) "__init__" = some (some (.ref fI))
  tC : typeIn K (.ref fI) = some (.type "function")
  kC : keepIn K (.ref C) = true
  exC : subIn K (.ref C) (.type "BaseException") = some true
  tyC : typeIn K (.ref C) = some (.type "type")
  hdC : hasDictIn K C = true
  te : exmOne K (.ref C) (.ref C) = some true
  fn : ∃ (oc : Value) (od : Option Addr) (doc pm : Value) (an : Option Addr) (cdv ct : Value) (osl : Array (Option Value)) (p1 p2 q1 q2 q3 q4 : Pos),
    K.lookup fI = some ⟨oc, od, .func (fnOf "__init__" qn (iA_given p1 p2) (iB_given q1 q2 q3 q4) iS_given .none .none doc pm an cdv ct), osl⟩ ∧ codeIn K cdv qn = true
theorem ldC_given {M : Model} {s : Shared} {nn : Str} {sc : Scope} {L a : Addr} {cd : Value} {m : Str → Option Value} {x : Str} {pos : Pos} {v : Value} {Q : Value → Shared → Prop} {A : Around} {E : Value → Shared → Prop}
    (hn : s.heap.Ns L m) (hv : m x = some v) (h : Q v s)
    (hk : sc.kind = .function := by rfl) (hl : (envOfC nn sc L a cd).kindOf x = some .local := by rfl) (hd : (x == ("__debug__" : Str)) = false := by decide) :
    wpAny M A (eval (.Name x pos) (envOfC nn sc L a cd)) Q E s :=
  wpAny_Name (wpAny_loadName_local hk hl hn hv h) hd
structure InitEnd_given (h h' : Heap) (x C dx t1 : Addr) (v : Value) : Prop where
  keep : ∀ b o, b ≠ x → h.get? b = some o → h'.get? b = some o
  obj : h'.get? x = some { cls := .ref C, dict := some dx, data := .fields #[.ref t1, .none, .none, .none, .bool false, .none] }
  dbig : h.objs.size ≤ dx
  dne : dx ≠ x
  ns : h'.Ns1 dx (fun y => if y = "given" then some v else none)
structure Made_given (h h' : Heap) (e C d : Addr) (v : Value) : Prop where
  keep : ∀ b o, h.get? b = some o → h'.get? b = some o
  new : h.objs.size ≤ e
  obj : ∃ oe vs, h'.get? e = some oe ∧ oe.cls = .ref C ∧ oe.dict = some d ∧ oe.data = .fields vs ∧ vs[1]? = some .none
  dbig : h.objs.size ≤ d
  dne : d ≠ e
  ns : h'.Ns1 d (fun y => if y = "given" then some v else none)
section
variable {prog : Program} {w : World} {A : Around} {E : Value → Shared → Prop} {R : Result → Shared → Prop} {s : Shared} {K : Frag} {mg : Str → Option Value} {C G fI : Addr} {cn qn : Str}
theorem init_given (T : Low_given K mg cn qn C G fI) {x t0 : Addr} {v : Value} (kin : K.In s.heap) (hlim : s.heap.NoLimit) (hx : s.heap.get? x = some (excO C t0)) (hnx : K.lookup x = none) (hroom : A.depth < recursionLimit)
    (fin : ∀ h' tk dx, InitEnd_given s.heap h' x C dx t0 v → R (.ok (.ret .none)) { s with heap := h', toks := tk }) :
    codeAny (model prog w) A (.call (.ref fI) ⟨[.ref x, v], []⟩) R s := by
  obtain ⟨oc, od, doc, pm, an, cdv, ct, osl, p1, p2, q1, q2, q3, q4, ho, hcd⟩ := T.fn
  obtain ⟨nm, q, N, bs, sn, sub, ab, col, dd, k0, k1, k2, k3, k5, hC⟩ := T.cls
  have hcl : clsIn K C = some { name := nm, bases := bs, mro := mroG C G, ns := N, qualname := q, hasDict := true, slotNames := sn, subclasses := sub, abstract := ab, collection := col, hasDel := false } := by
    unfold clsIn
    rw [hC] <;> rfl
  refine Att.call_fn (binds := [("self", .ref x), ("given", v)]) kin hlim ho hcd hroom (BindsTo.of_eq (by first | rfl | with_unfolding_all rfl)) (by first | rfl | decide | with_unfolding_all rfl) (fun s1 IC => ?_) rfl rfl rfl
  obtain ⟨h1, tk1, rfl⟩ := IC.toInCall.same
  have k : ∀ b o, s.heap.get? b = some o → h1.get? b = some o := IC.toInCall.keep
  have hn := IC.toInCall.ns
  have kin1 : K.In h1 := kin.keeps k
  have hx1 := k _ _ hx
  show wpAny _ _ (execs _ _) _ _ _
  refine wpAny_execs_cons (plainObj_wpAny_Assign_Attribute ?_)
  refine ldC_given (v := v) hn (by first | rfl | with_unfolding_all rfl | kernel_rfl) (ldC_given (v := .ref x) hn (by first | rfl | with_unfolding_all rfl | kernel_rfl) ?_)
  refine set_plain kin1 (ox := excO C t0) (od := none) ⟨hx1, rfl, rfl, trivial⟩ T.sa ?_
  refine osaG kin1 hx1 hcl rfl rfl T.noN (fun h3 tk3 dx k3 dn dne hx3 hn3 => ?_)
  show wpAny _ _ (execs _ _) _ _ _
  have z : s.heap.objs.size < h1.objs.size := hn.lt
  exact wpAny_execs_nil (fin h3 tk3 dx ⟨fun b o hb e => k3 b o hb (k b o e), hx3, Nat.le_of_lt (Nat.lt_of_lt_of_le z dn), dne, hn3⟩)
theorem made_given (T : Low_given K mg cn qn C G fI) {v : Value} (kin : K.In s.heap) (hlim : s.heap.NoLimit) (hroom : A.depth + 1 < recursionLimit)
    (fin : ∀ h' tk e d, Made_given s.heap h' e C d v → R (.ok (.ret (.ref e))) { s with heap := h', toks := tk }) :
    codeAny (model prog w) A (.call (.ref C) ⟨[v], []⟩) R s := by
  obtain ⟨nm, q, N, bs, sn, sub, ab, col, dd, k0, k1, k2, k3, k5, hC⟩ := T.cls
  obtain ⟨hp, g, dr, tk, os⟩ := s
  have k : ∀ b o, hp.get? b = some o → ((hp.push (kdv_tup [v])).push (excO C hp.objs.size)).get? b = some o :=
    fun b o e => Heap.get?_push_of_some _ (Heap.get?_push_of_some _ e)
  have hget : ((hp.push (kdv_tup [v])).push (excO C hp.objs.size)).get? (hp.objs.size + 1) = some (excO C hp.objs.size) := by heap_get
  have hnx : K.lookup (hp.objs.size + 1) = none := by
    cases e : K.lookup (hp.objs.size + 1) with
    | none => rfl
    | some o =>
      have z : hp.get? (hp.objs.size + 1) = some o := kin _ _ e
      exact absurd (Nat.lt_of_succ_lt (Heap.lt_size z)) (Nat.lt_irrefl _)
  refine call_own F.excBase_Exception (fun Y => tailG_con G Y) (kin _ _ hC) (looks_findIn kin T.iC) (fun self => bind_fn kin self T.tC) (by rw [sizeLine_eq]; show 1 ≤ 16777216; decide) ?_
  refine init_given (s := ⟨(hp.push (kdv_tup [v])).push (excO C hp.objs.size), g, dr, tk, os⟩) T (kin.keeps k) (hlim.keeps k) hget hnx ?_ fun h' tk' dx ⟨k', hx, dn, dne, hns⟩ => ?_
  · show A.depth + 1 < recursionLimit
    exact hroom
  · have old : ∀ b o, hp.get? b = some o → h'.get? b = some o := fun b o e => k' b o (Nat.ne_of_lt (Nat.lt_succ_of_lt (Heap.lt_size e))) (k b o e)
    have z : hp.objs.size + 1 + 1 ≤ dx := by
      first
        | (simpa only [Heap.size_push] using dn)
        | exact dn
    exact ⟨rfl, fin h' tk' (hp.objs.size + 1) dx ⟨old, Nat.le_succ _, ⟨_, _, hx, rfl, rfl, rfl, rfl⟩, Nat.le_trans (Nat.le_trans (Nat.le_succ _) (Nat.le_succ _)) z, dne, hns⟩⟩
end
end EgX
end PySem
namespace L2
open PySem PySem.Spec PyProof.Rows
theorem relO_given {v : V} {v' : Value} (r : RelV v v') (f : Str) : RelO (List.lookup f [(("given" : Str), v)]) (if f = "given" then some v' else none) := by
  by_cases hw : f = "given"
  · subst hw
    rw [if_pos rfl, show List.lookup ("given" : Str) [(("given" : Str), v)] = some v by simp [List.lookup]]
    exact r
  · rw [if_neg hw, show List.lookup f [(("given" : Str), v)] = none by simp [List.lookup, show (f == ("given" : Str)) = false by simpa using hw]]
    trivial
section
variable {X : Cx} {C G fI : Addr} {cn qn : Str}
/-- C(e), being made to be raised -/
def tMk_given (C : Addr) (ta : TA) : St → Hp → XK → Prop := fun σ H Q => ta σ H fun vs H1 =>
  ∃ v, vs = [v] ∧ ∀ d, H1 d = none → Q (.ref C) (some d) (upd H1 d (.xd [(("given" : Str), v)]))
theorem pmk_given {a : Expr} {ta : TA} {p pos : Pos} {k : Nat} (T : PySem.EgX.Low_given X.K X.mg cn qn C G fI) (hr : Room k X.A) (ha : PA X [a] ta) (hg : Gl X cn) (hdb : (cn == ("__debug__" : Str)) = false)
    (he : starEach (a :: []) X.env = (false, eval a X.env) :: starEach [] X.env := by rfl) (hpl : (backTo pos (starEach [] X.env)).any (·.1) = false := by rfl) :
    PMk X (.Call (.Name cn p) [a] [] pos) (tMk_given C ta) := by
  intro pins s σ H Q I h
  refine wpAny_Call_Name_kw (ld_glob I hg T.gC ?_ hdb)
  refine PySem.W.callWith_K (h₀ := X.base) I.ok.mod.kin T.kC (thn (ha.run pos pins s σ H _ I h) fun us s1 hh => ?_) he hpl
  obtain ⟨vs, H1, I1, r1, v, ev, q1⟩ := hh
  subst ev
  refine ⟨I1.kIn, ?_⟩
  cases r1 with
  | cons rv rn =>
    rename_i v' us'
    cases rn
    show wpAny _ _ (call (.ref C) [v']) _ _ _
    have hlim := I1.nolimit
    obtain ⟨hp, g, dr, tk, os⟩ := s1
    refine wpAny_call (PySem.EgX.made_given T I1.kIn hlim (by have := hr.dp; omega) fun h' tk' e d M => ?_)
    show MkP X pins σ Q (.ref e) ⟨h', g, dr, tk', os⟩
    obtain ⟨oe, fv, hoe, hc, hd, hdat, h1⟩ := M.obj
    have hns := M.ns
    obtain ⟨G', g1, g2⟩ := restrict h' fun b => decide (b ≠ e)
    have gk : ∀ b, b ≠ e → G'.get? b = h'.get? b := fun b hb => g1 b (decide_eq_true hb)
    have ge : G'.get? e = none := g2 e (by simp)
    have old : ∀ b o, hp.get? b = some o → G'.get? b = some o := fun b o q =>
      (gk b (Nat.ne_of_lt (Nat.lt_of_lt_of_le (Heap.lt_size q) M.new))).trans (M.keep b o q)
    have ob : ObjOk X.prog X.w (upd H1 d (.xd [(("given" : Str), v)])) G' d (.xd [(("given" : Str), v)]) :=
      ⟨_, hns.at (fun o q => (gk d M.dne).trans q), fun f => relO_given rv f⟩
    have J : Inv X pins σ (upd H1 d (.xd [(("given" : Str), v)])) ⟨G', g, dr, tk', os⟩ := I1.laid (t' := tk') old M.dbig ob
    refine ⟨e, oe, fv, ⟨G', g, dr, tk', os⟩, _, .ref C, some d, rfl, J, fun b o q => ?_, ge, hoe, ⟨hc, hd⟩, hdat, h1, ?_, rfl, I1.bare, raises_own T.exC T.tyC, q1 d (I1.hok.fresh M.dbig)⟩
    · by_cases hb : b = e
      · have q' : G'.get? b = some o := q
        rw [hb, ge] at q'
        cases q'
      · exact (gk b hb).symm.trans q
    · rw [upd_ne (Ne.symm M.dne)]
      exact I1.hok.fresh M.new
def tRaise_given (C : Addr) (W : WX) (ta : TA) : TS := fun _ σ H => tMk_given C ta σ H fun cls d H' => W cls d σ H'
theorem ps_raise_given {a : Expr} {ta : TA} {W : WX} {p pos pos2 : Pos} {k : Nat} (hc : X.calm = true) (T : PySem.EgX.Low_given X.K X.mg cn qn C G fI) (hr : Room k X.A) (tk : Takes X W) (ha : PA X [a] ta) (hg : Gl X cn := by rfl) (hdb : (cn == ("__debug__" : Str)) = false := by decide)
    (he : starEach (a :: []) X.env = (false, eval a X.env) :: starEach [] X.env := by rfl) (hpl : (backTo pos (starEach [] X.env)).any (·.1) = false := by rfl) :
    PS X (.Raise (some (.Call (.Name cn p) [a] [] pos)) none pos2) (tRaise_given C W ta) := ps_raise hc tk (pmk_given T hr ha hg hdb he hpl)
/-- e.given, e the error that the suite holds (at a; its class cls, its dict d) -/
def tBy_given (C : Addr) (a : Addr) (cls : Value) (d : Option Addr) (te : TE) : TE := fun σ H Q => te σ H fun x H1 =>
  x = .ref a ∧ cls = .ref C ∧ ∃ (dd : Addr) (v : V), d = some dd ∧ H1 dd = some (.xd [(("given" : Str), v)]) ∧ Q v H1
theorem pe_by_given {a : Addr} {oe : Obj} {cls : Value} {d : Option Addr} {pn : List (Addr × Obj)} {e : Expr} {te : TE} {pos : Pos} (T : PySem.EgX.Low_given X.K X.mg cn qn C G fI) (hz : Zc cls d oe) (hf : ∃ vs, oe.data = .fields vs)
    (he : PE (X.suite a ((a, oe) :: pn)) e te) (hb : attributeBase e "given" X.env (eval e X.env) = eval e X.env := by rfl) :
    PE (X.suite a ((a, oe) :: pn)) (.Attribute e "given" pos) (tBy_given C a cls d te) := by
  refine ⟨fun pins s σ H Q I h => ?_⟩
  refine attr_of hb (thn (he.run pins s σ H _ I h) fun u s1 hh => ?_)
  obtain ⟨x, H1, I1, rx, ex, ec, dd, v, ed, ea, q⟩ := hh
  subst ex
  obtain rfl : u = Value.ref a := rx
  subst ec
  subst ed
  obtain ⟨ha, _⟩ := I1.pin (a, oe) (List.mem_append_left _ List.mem_cons_self)
  obtain ⟨vs, hd⟩ := hf
  have hx : ObjOk X.prog X.w H1 s1.heap dd (.xd [(("given" : Str), v)]) := I1.hok dd _ ea
  obtain ⟨mA, hns, hr⟩ := hx
  obtain ⟨od, ho, hl⟩ := lookIn_ns hns
  have l : List.lookup ("given" : Str) [(("given" : Str), v)] = some v := by simp [List.lookup]
  obtain ⟨u, hu, ru⟩ := RelO.some_of (v := v) (o := mA "given") (by rw [← l]; exact hr "given")
  have J : PySem.W.InstAt s1.heap a oe C (some od) := ⟨ha, hz.1, by unfold PySem.W.notCls; rw [hd] <;> rfl, by rw [hz.2]; exact ho⟩
  exact HandSPX.exc_get I1.kIn J T.ga T.gg T.exC (PySem.W.findObj_own T.hdC T.noN rfl (by rw [hl, hu])) (handed_of ru) ⟨v, H1, I1.tok _, ru, q⟩
end
end L2

/-! EgCall -/
set_option Elab.async false
set_option linter.all false
set_option maxRecDepth 100000
set_option maxHeartbeats 2000000
/-! ## Defs whose calls carry what is known of the guards (repr of a list asks it) -/
namespace L2
open PySem PySem.Spec PyProof.Rows
abbrev Gd (A : Around) : Prop := A.guards = some []
/-- the def at f keeps sp, wherever nothing is being told by repr -/
structure FnG (P : Program) (w : World) (K : PySem.W.Frag) (mg : Str → Option Value) (base : Heap) (CX : CXT) (k : Nat) (f : Addr) (fd : FuncData) (ps : List Str) (sp : Sp) : Prop where
  len : ∀ vs H Q E, sp vs H Q E → vs.length = ps.length
  run : ∀ (A : Around) (outer : List Env) (s : Shared) (H : Hp) (args : Args) (us : List Value) (vs : List V) (Q : VK) (E : XK), Room k A → Gd A → Env0 P w K mg base A outer s H →
    BindsTo s fd args (ps.zip us) → Vals vs us → sp vs H Q E → codeAny (model P w) A (.call (.ref f) args) (CR CX outer P w H s Q E) s
section
variable {X : Cx} {CX : CXT} {k : Nat} {f : Addr} {fd : FuncData} {ps ks : List Str} {sp : Sp} {E : St → XK} {x : Str} {p pos : Pos} {e : Expr} {es : List Expr} {kws : List Keyword} {t tk : TA}
theorem run_g {pins : List (Addr × Obj)} {σ : St} {H : Hp} {s : Shared} {Q : VK} {us ws : List Value} {vs : List V} {kw : List (Str × Value)} (F : FnG X.prog X.w X.K X.mg X.base CX k f fd ps sp) (hr : Room k X.A) (hgd : Gd X.A)
    (hb : BindsTo s fd ⟨us, kw⟩ (ps.zip ws)) (hx : PassesAt CX X σ (E σ)) (I : Inv X pins σ H s) (r : Vals vs ws) (h : sp vs H Q (E σ)) :
    wpAny (model X.prog X.w) X.A (call (.ref f) us kw) (EP X pins σ Q) X.xe s := by
  refine wpAny_call (codeAny_mono (F.run X.A X.stack s H ⟨us, kw⟩ ws vs Q (E σ) hr hgd I.env0 hb r h) fun r s' hq => ?_)
  cases r with
  | error e => exact hx pins H s e s' I hq
  | ok fl =>
    cases fl with
    | ret u => exact I.after hq
    | next => exact False.elim hq
    | brk => exact False.elim hq
    | cont => exact False.elim hq
/-- the arguments' values put in the parameters' order -/
def tCallG (sp : Sp) (E : St → XK) (t : TA) : TE := fun σ H Q => t σ H fun vs H1 => sp vs H1 Q (E σ)
theorem pe_callG (F : FnG X.prog X.w X.K X.mg X.base CX k f fd ps sp) (hr : Room k X.A) (hgd : Gd X.A) (hg : Gl X x) (hm : X.mg x = some (.ref f)) (hk : PySem.W.keepIn X.K (.ref f) = true) (hb : Binds X.K fd ps [])
    (hx : ∀ σ, PassesAt CX X σ (E σ)) (ha : PA X (e :: es) t) (hdb : (x == ("__debug__" : Str)) = false := by decide)
    (he : starEach (e :: es) X.env = (false, eval e X.env) :: starEach es X.env := by rfl) (hpl : (backTo pos (starEach es X.env)).any (·.1) = false := by rfl) :
    PE X (.Call (.Name x p) (e :: es) [] pos) (tCallG sp E t) := by
  refine ⟨fun pins s σ H Q I h => ?_⟩
  refine wpAny_Call_Name_kw (ld_glob I hg hm ?_ hdb)
  refine PySem.W.callWith_K (h₀ := X.base) I.ok.mod.kin hk (thn (ha.run pos pins s σ H _ I h) fun us s1 ⟨vs, H1, I1, r, q⟩ => ⟨I1.kIn, ?_⟩) he hpl
  have hl : us.length = ps.length := by rw [← r.length]; exact F.len _ _ _ _ q
  have b := hb s1 us I1.kIn (by rw [List.append_nil]; exact hl)
  rw [List.append_nil] at b
  exact run_g F hr hgd b (hx σ) I1 r q
theorem pe_callG0 (F : FnG X.prog X.w X.K X.mg X.base CX k f fd ps sp) (hr : Room k X.A) (hgd : Gd X.A) (hg : Gl X x) (hm : X.mg x = some (.ref f)) (hk : PySem.W.keepIn X.K (.ref f) = true) (hb : Binds X.K fd ps [])
    (hx : ∀ σ, PassesAt CX X σ (E σ)) (hdb : (x == ("__debug__" : Str)) = false := by decide) : PE X (.Call (.Name x p) [] [] pos) (tCallG sp E tNil) := by
  refine ⟨fun pins s σ H Q I h => ?_⟩
  refine wpAny_Call_Name_kw (ld_glob I hg hm ?_ hdb)
  have hl : ([] : List Value).length = ps.length := F.len [] H Q (E σ) h
  have b := hb s [] I.kIn (by rw [List.append_nil]; exact hl)
  rw [List.append_nil] at b
  exact PySem.W.callWith_K0 I.kIn hk (run_g (us := []) F hr hgd b (hx σ) I .nil h)
/-- how a call with the keywords ks binds: gV puts the positional values and the keywords' values in the parameters' order -/
structure KB (fd : FuncData) (ps ks : List Str) (n : Nat) (g : List Value → List Value → List Value) (gV : List V → List V → List V) : Prop where
  to : ∀ (s : Shared) (us ws : List Value), us.length = n → ws.length = ks.length → BindsTo s fd ⟨us, ks.zip ws⟩ (ps.zip (g us ws))
  rel : ∀ {vs : List V} {us : List Value} {zs : List V} {ws : List Value}, Vals vs us → Vals zs ws → us.length = n → ws.length = ks.length → Vals (gV vs zs) (g us ws)
def tCallGK (sp : Sp) (gV : List V → List V → List V) (n m : Nat) (E : St → XK) (t tk : TA) : TE := fun σ H Q => t σ H fun vs H1 => tk σ H1 fun zs H2 => vs.length = n ∧ zs.length = m ∧ sp (gV vs zs) H2 Q (E σ)
variable {n : Nat} {g : List Value → List Value → List Value} {gV : List V → List V → List V}
theorem pe_callGK (F : FnG X.prog X.w X.K X.mg X.base CX k f fd ps sp) (hr : Room k X.A) (hgd : Gd X.A) (hg : Gl X x) (hm : X.mg x = some (.ref f)) (hk : PySem.W.keepIn X.K (.ref f) = true) (hb : KB fd ps ks n g gV)
    (hx : ∀ σ, PassesAt CX X σ (E σ)) (ha : PA X (e :: es) t) (hkw : PK X kws tk) (hall : (backToKw pos (keywordEach kws X.env)).all (·.1.isSome) = true := by rfl) (hks : (backToKw pos (keywordEach kws X.env)).filterMap (·.1) = ks := by rfl)
    (hdb : (x == ("__debug__" : Str)) = false := by decide) (he : starEach (e :: es) X.env = (false, eval e X.env) :: starEach es X.env := by rfl)
    (hpl : ((backTo pos (starEach (e :: es) X.env)).any (·.1) || (backToKw pos (keywordEach kws X.env)).any (·.1.isNone)) = false := by rfl) :
    PE X (.Call (.Name x p) (e :: es) kws pos) (tCallGK sp gV n ks.length E t tk) := by
  refine ⟨fun pins s σ H Q I h => ?_⟩
  refine wpAny_Call_Name_kw (ld_glob I hg hm ?_ hdb)
  refine PySem.W.callWith_KW (h₀ := X.base) I.ok.mod.kin hk hall (thn (ha.run pos pins s σ H _ I h) fun us s1 ⟨vs, H1, I1, r, q⟩ => ?_) hpl he
  refine thn (hkw.run pos pins s1 σ H1 _ I1 q) fun ws s2 ⟨zs, H2, I2, rz, l1, l2, q2⟩ => ⟨I2.kIn, ?_⟩
  rw [hks]
  have u1 : us.length = n := by rw [← r.length]; exact l1
  have u2 : ws.length = ks.length := by rw [← rz.length]; exact l2
  exact run_g F hr hgd (hb.to s2 us ws u1 u2) (hx σ) I2 (hb.rel r rz u1 u2) q2
theorem pe_callGK0 (F : FnG X.prog X.w X.K X.mg X.base CX k f fd ps sp) (hr : Room k X.A) (hgd : Gd X.A) (hg : Gl X x) (hm : X.mg x = some (.ref f)) (hk : PySem.W.keepIn X.K (.ref f) = true) (hb : KB fd ps ks 0 g gV)
    (hx : ∀ σ, PassesAt CX X σ (E σ)) (hkw : PK X kws tk) (hall : (backToKw pos (keywordEach kws X.env)).all (·.1.isSome) = true := by rfl) (hks : (backToKw pos (keywordEach kws X.env)).filterMap (·.1) = ks := by rfl)
    (hdb : (x == ("__debug__" : Str)) = false := by decide)
    (hpl : ((backTo pos (starEach [] X.env)).any (·.1) || (backToKw pos (keywordEach kws X.env)).any (·.1.isNone)) = false := by rfl) :
    PE X (.Call (.Name x p) [] kws pos) (tCallGK sp gV 0 ks.length E tNil tk) := by
  refine ⟨fun pins s σ H Q I h => ?_⟩
  refine wpAny_Call_Name_kw (ld_glob I hg hm ?_ hdb)
  refine PySem.W.callWith_KW0 (h₀ := X.base) I.ok.mod.kin hk hall ?_ hpl
  refine thn (hkw.run pos pins s σ H _ I h) fun ws s2 ⟨zs, H2, I2, rz, l1, l2, q2⟩ => ⟨I2.kIn, ?_⟩
  rw [hks]
  have u2 : ws.length = ks.length := by rw [← rz.length]; exact l2
  exact run_g F hr hgd (hb.to s2 [] ws rfl u2) (hx σ) I2 (hb.rel .nil rz rfl u2) q2
end
section
variable {P : Program} {w : World} {K : PySem.W.Frag} {mg : Str → Option Value} {base : Heap} {CX : CXT}
/-- a def by its body -/
theorem fng_of {k : Nat} {f : Addr} {name qual : Str} {params : Arguments} {body : List Stmt} {scope : Scope} {dV kV doc pm cdv ct oc : Value} {an od : Option Addr}
    {osl : Array (Option Value)} {N ps : List Str} {sp : Sp} (lk : K.lookup f = some ⟨oc, od, .func (PySem.W.fnOf name qual params body scope dV kV doc pm an cdv ct), osl⟩) (hcd : PySem.W.codeIn K cdv qual = true) (S : FnScope N ps scope)
    (len : ∀ vs H Q E, sp vs H Q E → vs.length = ps.length)
    (hbody : ∀ (A : Around) (outer : List Env) (s : Shared) (H : Hp) (vs : List V) (Q : VK) (E : XK), Room k (A.deeper (envOfC qual scope s.heap.objs.size f cdv)) → Gd A → sp vs H Q E →
      ∃ t, PSs (cxOf CX P w K mg base N qual scope f cdv A outer s H E) body t ∧ t { nx := fun _ H' => Q .non H', rt := Q } (start N vs) H) :
    FnG P w K mg base CX (k + 1) f (PySem.W.fnOf name qual params body scope dV kV doc pm an cdv ct) ps sp := by
  refine ⟨len, fun A outer s H args us vs Q E hr hgd e0 hb r hsp => ?_⟩
  have hl := len _ _ _ _ hsp
  have kx : K.In s.heap := e0.mod.kin.keeps fun b o e => (e0.bs b o e).1
  have lim : s.heap.NoLimit := e0.mod.nolimit.keeps fun b o e => (e0.bs b o e).1
  have hkind : ∀ y ∈ ps.zip us, scope.names.lookup y.1 = some .local ∨ (scope.names.lookup y.1 = some .cell ∧ ((cellsFrom (s.heap.objs.size + 1) scope.names []).lookup y.1).isSome = true) := by
    rintro ⟨n, v⟩ hy
    rcases S.par n (List.of_mem_zip hy).1 with q | q
    · exact .inl q
    · exact .inr ⟨q, PySem.W.cellsFrom_some _ _ _ (.inl q)⟩
  refine codeAny_call_function hr.depth (kx _ _ lk) rfl S.co S.gen rfl (PySem.W.codeRec_of kx hcd) (hb _ _ _ _ ?_)
  refine wpAny_newFunctionEnv_cells S.kind hkind fun env he s1 x => ?_
  subst he
  refine ⟨lim.keeps x.toInCall.keep, codeAny_func ?_⟩
  obtain ⟨t, ht, hq⟩ := hbody A outer s H vs Q E (hr.deeper _) hgd hsp
  have inv : Inv (cxOf CX P w K mg base N qual scope f cdv A outer s H E) [] (start N vs) H s1 := inv_start S hr.hd e0 hl r x
  refine wpAny_mono (ht.run [] s1 (start N vs) H _ inv hq) (fun fl s' hs => ?_) fun e s' hs => hs
  cases fl with
  | ret u =>
    obtain ⟨v, σ', H', J, rv, q⟩ := hs
    exact ⟨v, H', J.os, J.bare, J.base, J.hok, rv, q⟩
  | next =>
    obtain ⟨σ', H', J, q⟩ := hs
    exact ⟨V.non, H', J.os, J.bare, J.base, J.hok, rfl, q⟩
  | brk =>
    obtain ⟨_, _, _, q⟩ := hs
    exact False.elim q
  | cont =>
    obtain ⟨_, _, _, q⟩ := hs
    exact False.elim q
/-- every def of the text is taken as one that may raise -/
theorem Fun.okG {x qual : Str} {st : Stmt} {f : Addr} {fd : FuncData} {N ps : List Str} {k : Nat} {sp : Sp} (F : Fun K x qual st f fd) (S : FnScope N ps (defScope st)) (len : ∀ vs H Q E, sp vs H Q E → vs.length = ps.length)
    (hbody : ∀ (cdv : Value) (A : Around) (outer : List Env) (s : Shared) (H : Hp) (vs : List V) (Q : VK) (E : XK), Room k (A.deeper (envOfC qual (defScope st) s.heap.objs.size f cdv)) → Gd (A.deeper (envOfC qual (defScope st) s.heap.objs.size f cdv)) → sp vs H Q E →
      ∃ t, PSs (cxOf (L2.CX P w) P w K mg base N qual (defScope st) f cdv A outer s H E) (defBody st) t ∧ t { nx := fun _ H' => Q .non H', rt := Q } (start N vs) H) : FnG P w K mg base (L2.CX P w) (k + 1) f fd ps sp := by
  obtain ⟨oc, od, kV, doc, pm, an, cdv, ct, osl, rfl, lk, hcd⟩ := F.ex
  exact fng_of lk hcd S len fun A outer s H vs Q E hr hgd hsp => hbody cdv A outer s H vs Q E hr hgd hsp
theorem FnG.mono {j k : Nat} {f : Addr} {fd : FuncData} {ps : List Str} {sp : Sp} (F : FnG P w K mg base CX j f fd ps sp) (h : j ≤ k) : FnG P w K mg base CX k f fd ps sp :=
  ⟨F.len, fun A outer s H args us vs Q E hr => F.run A outer s H args us vs Q E (hr.mono h)⟩
end
end L2

/-! EgData -/
set_option Elab.async false
set_option linter.all false
set_option maxRecDepth 100000
set_option maxHeartbeats 2000000
/-! ## Data as read at a known part of the heap -/
namespace Eg
open PySem L2
def keyD : Key → PyData
  | .inl i => .int i
  | .inr x => .str x
/-- an object as such, whatever stands there -/
def ptrD (p : Addr) : PyData := .dict [(.none, .int ((2 : Int) ^ 3000 + (p : Nat)))]
mutual
inductive Rp (G : Hp) : V → PyData → Prop
  | non : Rp G .non .none
  | bl (b : Bool) : Rp G (.bl b) (.bool b)
  | int (i : Int) : Rp G (.int i) (.int i)
  | str (x : Str) : Rp G (.str x) (.str x)
  | lst {a : Addr} {xs : List V} {ds : List PyData} : G a = some (.lst xs) → RpL G xs ds → Rp G (.ref a) (.list ds)
  | tup {a : Addr} {xs : List V} {ds : List PyData} : G a = some (.tup xs) → RpL G xs ds → Rp G (.ref a) (.tuple ds)
  | dct {a : Addr} {kvs : List (Key × V)} {es : List (PyData × PyData)} : G a = some (.dK kvs) → RpK G kvs es → Rp G (.ref a) (.dict es)
  | ptr (p : Addr) : Rp G (.ref p) (ptrD p)
inductive RpL (G : Hp) : List V → List PyData → Prop
  | nil : RpL G [] []
  | cons {v : V} {vs : List V} {d : PyData} {ds : List PyData} : Rp G v d → RpL G vs ds → RpL G (v :: vs) (d :: ds)
inductive RpK (G : Hp) : List (Key × V) → List (PyData × PyData) → Prop
  | nil : RpK G [] []
  | cons {k : Key} {v : V} {kvs : List (Key × V)} {d : PyData} {es : List (PyData × PyData)} : Rp G v d → RpK G kvs es → RpK G ((k, v) :: kvs) ((keyD k, d) :: es)
end
/-- all that is tracked stays -/
def Ex (H H' : Hp) : Prop := ∀ a o, H a = some o → H' a = some o
theorem Ex.refl (H : Hp) : Ex H H := fun _ _ h => h
theorem Ex.trans {H H1 H2 : Hp} (a : Ex H H1) (b : Ex H1 H2) : Ex H H2 := fun x o h => b x o (a x o h)
theorem Ex.new {H : Hp} {p : Addr} {o : HO} (h : H p = none) : Ex H (upd H p o) := fun a u e => by
  rw [upd_ne (ne_of_none e h)]
  exact e
mutual
theorem Rp.mono {G G' : Hp} (e : Ex G G') : ∀ (d : PyData) (v : V), Rp G v d → Rp G' v d
  | .none, _, h => by cases h; exact .non
  | .bool b, _, h => by cases h; exact .bl b
  | .int i, _, h => by cases h; exact .int i
  | .str x, _, h => by cases h; exact .str x
  | .list ds, _, h => by
    cases h with
    | lst h1 h2 => exact .lst (e _ _ h1) (RpL.mono e ds _ h2)
  | .tuple ds, _, h => by
    cases h with
    | tup h1 h2 => exact .tup (e _ _ h1) (RpL.mono e ds _ h2)
  | .dict es, _, h => by
    cases h with
    | dct h1 h2 => exact .dct (e _ _ h1) (RpK.mono e es _ h2)
    | ptr p => exact .ptr p
theorem RpL.mono {G G' : Hp} (e : Ex G G') : ∀ (ds : List PyData) (vs : List V), RpL G vs ds → RpL G' vs ds
  | [], _, h => by cases h; exact .nil
  | d :: ds, _, h => by
    cases h with
    | cons h1 h2 => exact .cons (Rp.mono e d _ h1) (RpL.mono e ds _ h2)
theorem RpK.mono {G G' : Hp} (e : Ex G G') : ∀ (ds : List (PyData × PyData)) (vs : List (Key × V)), RpK G vs ds → RpK G' vs ds
  | [], _, h => by cases h; exact .nil
  | (k, d) :: ds, _, h => by
    cases h with
    | cons h1 h2 => exact .cons (Rp.mono e d _ h1) (RpK.mono e ds _ h2)
end
theorem RpL.len {G : Hp} : ∀ {vs : List V} {ds : List PyData}, RpL G vs ds → vs.length = ds.length
  | [], _, h => by cases h; rfl
  | v :: vs, _, h => by
    cases h with
    | cons h1 h2 =>
      rw [List.length_cons, List.length_cons, RpL.len h2]
theorem RpL.get {G : Hp} : ∀ {vs : List V} {ds : List PyData} {i : Nat} {d : PyData}, RpL G vs ds → ds[i]? = some d → ∃ v, vs[i]? = some v ∧ Rp G v d
  | [], _, _, _, h, e => by cases h; simp at e
  | v :: vs, _, 0, _, h, e => by
    cases h with
    | cons h1 h2 =>
      simp at e
      subst e
      exact ⟨v, by simp, h1⟩
  | v :: vs, _, i + 1, _, h, e => by
    cases h with
    | cons h1 h2 =>
      obtain ⟨w, q1, q2⟩ := RpL.get (i := i) h2 (by simpa using e)
      exact ⟨w, by simpa using q1, q2⟩
theorem RpL.getV {G : Hp} : ∀ {vs : List V} {ds : List PyData} {i : Nat} {v : V}, RpL G vs ds → vs[i]? = some v → ∃ d, ds[i]? = some d ∧ Rp G v d
  | [], _, _, _, h, e => by simp at e
  | v :: vs, _, 0, _, h, e => by
    cases h with
    | cons h1 h2 =>
      simp at e
      subst e
      exact ⟨_, by simp, h1⟩
  | v :: vs, _, i + 1, _, h, e => by
    cases h with
    | cons h1 h2 =>
      obtain ⟨w, q1, q2⟩ := RpL.getV (i := i) h2 (by simpa using e)
      exact ⟨w, by simpa using q1, q2⟩
theorem RpL.app {G : Hp} : ∀ {vs ws : List V} {ds es : List PyData}, RpL G vs ds → RpL G ws es → RpL G (vs ++ ws) (ds ++ es)
  | [], _, _, _, h, k => by cases h; exact k
  | v :: vs, _, _, _, h, k => by
    cases h with
    | cons h1 h2 => exact .cons h1 (RpL.app h2 k)
theorem RpL.take {G : Hp} : ∀ {vs : List V} {ds : List PyData} (n : Nat), RpL G vs ds → RpL G (vs.take n) (ds.take n)
  | [], _, n, h => by cases h; simp; exact .nil
  | v :: vs, _, 0, h => by simp; exact .nil
  | v :: vs, _, n + 1, h => by
    cases h with
    | cons h1 h2 => simpa using RpL.cons h1 (RpL.take n h2)
theorem RpL.drop {G : Hp} : ∀ {vs : List V} {ds : List PyData} (n : Nat), RpL G vs ds → RpL G (vs.drop n) (ds.drop n)
  | [], _, n, h => by cases h; simp; exact .nil
  | v :: vs, _, 0, h => by simpa using h
  | v :: vs, _, n + 1, h => by
    cases h with
    | cons h1 h2 => simpa using RpL.drop n h2
theorem RpL.set {G : Hp} {x : V} {d : PyData} (r : Rp G x d) : ∀ {vs : List V} {ds : List PyData} (n : Nat), RpL G vs ds → RpL G (vs.set n x) (ds.set n d)
  | [], _, n, h => by cases h; simp; exact .nil
  | v :: vs, _, 0, h => by
    cases h with
    | cons h1 h2 => simpa using RpL.cons r h2
  | v :: vs, _, n + 1, h => by
    cases h with
    | cons h1 h2 => simpa using RpL.cons h1 (RpL.set r n h2)
theorem RpL.rev {G : Hp} : ∀ {vs : List V} {ds : List PyData}, RpL G vs ds → RpL G vs.reverse ds.reverse
  | [], _, h => by cases h; exact .nil
  | v :: vs, _, h => by
    cases h with
    | cons h1 h2 =>
      rw [List.reverse_cons, List.reverse_cons]
      exact RpL.app (RpL.rev h2) (.cons h1 .nil)
/-- lists of plain ints, bools, texts -/
theorem RpL.ints {G : Hp} : ∀ {vs : List V} {ns : List Int}, RpL G vs (ns.map .int) → vs = ns.map V.int
  | [], [], _ => rfl
  | [], n :: ns, h => by cases h
  | v :: vs, [], h => by cases h
  | v :: vs, n :: ns, h => by
    cases h with
    | cons h1 h2 =>
      cases h1
      rw [RpL.ints h2]
      rfl
theorem RpL.of_ints {G : Hp} : ∀ (ns : List Int), RpL G (ns.map V.int) (ns.map .int)
  | [] => .nil
  | n :: ns => .cons (.int n) (RpL.of_ints ns)
theorem RpL.bools {G : Hp} : ∀ {vs : List V} {ns : List Bool}, RpL G vs (ns.map .bool) → vs = ns.map V.bl
  | [], [], _ => rfl
  | [], n :: ns, h => by cases h
  | v :: vs, [], h => by cases h
  | v :: vs, n :: ns, h => by
    cases h with
    | cons h1 h2 =>
      cases h1
      rw [RpL.bools h2]
      rfl
/-! ### the layer's own relation, and the library's -/
mutual
theorem Rp.dp {K : PySem.W.Frag} {G : Hp} : ∀ (d : PyData) (v : V), Rp G v d → d.hasDict = false → Dp K G v d
  | .none, _, h, _ => by cases h; exact .non
  | .bool b, _, h, _ => by cases h; exact .bl b
  | .int i, _, h, _ => by cases h; exact .int i
  | .str x, _, h, _ => by cases h; exact .str x
  | .list ds, _, h, e => by
    cases h with
    | lst h1 h2 => exact .lst (SqL.of h1) (RpL.dp ds _ h2 (by simpa [PyData.hasDict] using e))
  | .tuple ds, _, h, e => by
    cases h with
    | tup h1 h2 => exact .tup (SqT.of h1) (RpL.dp ds _ h2 (by simpa [PyData.hasDict] using e))
  | .dict es, _, h, e => by simp [PyData.hasDict] at e
theorem RpL.dp {K : PySem.W.Frag} {G : Hp} : ∀ (ds : List PyData) (vs : List V), RpL G vs ds → PyData.hasDictAll ds = false → DpAll K G vs ds
  | [], _, h, _ => by cases h; exact .nil
  | d :: ds, _, h, e => by
    cases h with
    | cons h1 h2 =>
      simp [PyData.hasDictAll] at e
      exact .cons (Rp.dp d _ h1 e.1) (RpL.dp ds _ h2 e.2)
end
section
variable {X : Cx} {pins : List (Addr × Obj)} {σ : St} {H : Hp} {s : Shared}
/-- the module's table of modules stands in the written part: nothing that is tracked is it -/
theorem nosys (I : Inv X pins σ H s) (hs : ∃ o, X.base.get? sysModules = some o) {a : Addr} {o : HO} (e : H a = some o) : sysModules ≠ a := by
  intro z
  obtain ⟨o1, h1⟩ := hs
  have h2 := (I.bs _ _ h1).2
  rw [z, e] at h2
  cases h2
mutual
theorem Rp.reads (I : Inv X pins σ H s) (hs : ∃ o, X.base.get? sysModules = some o) : ∀ (d : PyData) (v : V) (u : Value), Rp H v d → d.showable = true → RelV v u → ∃ as, Reads s.heap u d as ∧ sysModules ∉ as
  | .none, _, _, h, _, r => by
    cases h
    cases r
    exact ⟨_, .none, by simp⟩
  | .bool b, _, _, h, _, r => by
    cases h
    cases r
    exact ⟨_, .bool b, by simp⟩
  | .int i, _, _, h, _, r => by
    cases h
    obtain ⟨t, rfl⟩ := r
    exact ⟨_, .int i t, by simp⟩
  | .str x, _, _, h, _, r => by
    cases h
    obtain ⟨t, rfl⟩ := r
    exact ⟨_, .str x t, by simp⟩
  | .list ds, _, _, h, sh, r => by
    cases h with
    | lst h1 h2 =>
      cases r
      obtain ⟨its, rv, ⟨o, n, ho, hc, _, hd⟩, _⟩ := I.list (SqL.of h1)
      obtain ⟨as, hr, ha⟩ := RpL.reads I hs ds _ its h2 (by simpa [PyData.showable] using sh) rv
      refine ⟨_, .list ho hc hd hr, ?_⟩
      rw [List.mem_cons, not_or]
      exact ⟨nosys I hs h1, ha⟩
  | .tuple ds, _, _, h, sh, r => by
    cases h with
    | tup h1 h2 =>
      cases r
      obtain ⟨its, rv, ⟨o, ho, hc, n, hd⟩, _⟩ := I.tuple (SqT.of h1)
      obtain ⟨as, hr, ha⟩ := RpL.reads I hs ds _ its h2 (by simpa [PyData.showable] using sh) rv
      exact ⟨_, .tuple ho hc hd hr, ha⟩
  | .dict es, _, _, h, sh, r => by
    cases h with
    | dct h1 h2 =>
      cases r
      obtain ⟨z, hsy, vs, rel, o, e1, ep, ho, hx, hd, _, hp, _⟩ := dk_of I.hok h1
      obtain ⟨bs, r1, r2, n2⟩ := RpK.reads I hs es _ vs e1.toList h2 (by simpa [PyData.showable] using sh) rel hp
      refine ⟨_, .dict ho hx.1 hd r1 r2, ?_⟩
      rw [List.mem_append, List.mem_singleton, not_or]
      exact ⟨nosys I hs h1, n2⟩
    | ptr p =>
      exfalso
      have z : (((2 : Int) ^ 3000 + (p : Nat)).natAbs.log2 < 1920) := by simpa [ptrD, PyData.showable, PyData.showableKv] using sh
      have z2 : (2 : Nat) ^ 3000 ≤ ((2 : Int) ^ 3000 + (p : Nat)).natAbs := by
        have e : ((2 : Int) ^ 3000 + (p : Nat)) = (((2 : Nat) ^ 3000 + p : Nat) : Int) := by
          rw [Int.natCast_add, Int.natCast_pow]
          rfl
        rw [e, Int.natAbs_natCast]
        exact Nat.le_add_right _ _
      have z3 := (Nat.le_log2 (n := ((2 : Int) ^ 3000 + (p : Nat)).natAbs) (k := 3000) (by
        have : 0 < (2 : Nat) ^ 3000 := Nat.two_pow_pos 3000
        omega)).mpr z2
      omega
theorem RpL.reads (I : Inv X pins σ H s) (hs : ∃ o, X.base.get? sysModules = some o) : ∀ (ds : List PyData) (vs : List V) (us : List Value), RpL H vs ds → PyData.showableAll ds = true → Vals vs us → ∃ as, ReadsAll s.heap us ds as ∧ sysModules ∉ as
  | [], _, _, h, _, r => by
    cases h
    cases r
    exact ⟨_, .nil, by simp⟩
  | d :: ds, _, _, h, sh, r => by
    cases h with
    | cons h1 h2 =>
      cases r with
      | cons r1 r2 =>
        obtain ⟨as, q1, n1⟩ := Rp.reads I hs d _ _ h1 (by simp [PyData.showableAll] at sh; exact sh.1) r1
        obtain ⟨bs, q2, n2⟩ := RpL.reads I hs ds _ _ h2 (by simp [PyData.showableAll] at sh; exact sh.2) r2
        refine ⟨_, .cons q1 q2, ?_⟩
        rw [List.mem_append, not_or]
        exact ⟨n1, n2⟩
theorem RpK.reads (I : Inv X pins σ H s) (hs : ∃ o, X.base.get? sysModules = some o) : ∀ (es : List (PyData × PyData)) (kvs : List (Key × V)) (us : List (Key × Value)) (l : List DictEntry), RpK H kvs es → PyData.showableKv es = true → KV kvs us → Pairs (mixKind X.prog X.w) l us →
    ∃ bs : List Addr, ReadsAll s.heap (l.map (·.key)) (es.map (·.1)) [] ∧ ReadsAll s.heap (l.map (·.val)) (es.map (·.2)) bs ∧ sysModules ∉ bs
  | [], _, _, _, h, _, r, p => by
    cases h
    cases r
    cases p
    exact ⟨_, .nil, .nil, by simp⟩
  | (k, d) :: ds, _, _, _, h, sh, r, p => by
    cases h with
    | @cons k v kv d _ h1 h2 =>
      cases r with
      | cons r1 r2 =>
        cases p with
        | @cons e kv2 es2 us2 p0 p1 p2 =>
          obtain ⟨as, q1, n1⟩ := Rp.reads I hs d _ _ h1 (by simp [PyData.showableKv] at sh; exact sh.1.2) r1.2
          obtain ⟨bs, q0, q2, n2⟩ := RpK.reads I hs ds _ _ _ h2 (by simp [PyData.showableKv] at sh; exact sh.2) r2 p2
          have hk : Reads s.heap e.key (keyD k) [] := by
            have p0' := p0
            rw [← r1.1] at p0'
            rcases keyIs_shape p0' with ⟨i, t, e1, e2⟩ | ⟨x, t, e1, e2⟩
            · subst e1
              rw [e2]
              exact .int i t
            · subst e1
              rw [e2]
              exact .str x t
          refine ⟨as ++ bs, .cons hk q0, .cons (by show Reads s.heap e.val d as; rw [p1]; exact q1) q2, ?_⟩
          rw [List.mem_append, not_or]
          exact ⟨n1, n2⟩
end
/-- repr of data: of a size that is told, not too deep -/
def rRepr : List V → Hp → VK → Prop := fun xs H Q => ∃ v d, xs = [v] ∧ Rp H v d ∧ d.showable = true ∧ d.depth ≤ 50 ∧ d.shown.length ≤ sizeLine ∧ Q (.str d.shown) H
theorem call_reprD (hs : ∃ o, X.base.get? sysModules = some o) (hgd : Gd X.A) (hu : X.A.units + 64 < cLine) : CallR X (.builtin "repr") rRepr := by
  intro pins s σ H xs us Q I r h
  obtain ⟨v, d, rfl, hd, h1, h2, h3, q⟩ := h
  obtain ⟨u, rfl, ru⟩ := vals1 r
  obtain ⟨as, rd, hn⟩ := Rp.reads I hs d v u hd h1 ru
  have fin : ∀ h' u tk, (∀ b o, s.heap.get? b = some o → h'.get? b = some o) → EP X pins σ Q (.str d.shown u) { s with heap := h', toks := tk } := fun h' u tk k => ⟨.str d.shown, H, I.kept k, ⟨u, rfl⟩, q⟩
  cases rd with
  | none => exact PySem.P.repr_of_none ⟨.str _, H, I.tok _, ⟨_, rfl⟩, q⟩
  | bool b => exact PySem.P.repr_of_bool ⟨.str _, H, I.tok _, ⟨_, rfl⟩, q⟩
  | int i t => exact PySem.P.repr_of_int (by simpa [PyData.showable] using h1) ⟨.str _, H, I.tok _, ⟨_, rfl⟩, q⟩
  | str x t => exact PySem.P.repr_of_str ⟨.str _, H, I.tok _, ⟨_, rfl⟩, q⟩ h3
  | list a b c e => exact repr_of_reads' (.list a b c e) h1 (fun _ => hn) hgd (by omega) (fun _ _ z => z) fin h3
  | tuple a b c e => exact repr_of_reads' (.tuple a b c e) h1 (fun _ => hn) hgd (by omega) (fun _ _ z => z) fin h3
  | dict a b c e f => exact repr_of_reads' (.dict a b c e f) h1 (fun _ => hn) hgd (by omega) (fun _ _ z => z) fin h3
end
end Eg

/-! EgWp -/
set_option Elab.async false
set_option linter.all false
set_option maxRecDepth 100000
set_option maxHeartbeats 2000000
/-! ## What a reading does, said of data alone -/
namespace Eg
open PySem L2
/-- what a slot holds: anything; data; a list of its own, that nothing else holds; the box of draws; an error that a suite holds -/
inductive SD where
  | u | d (x : PyData) | own (xs : List PyData) | bx | exn (a C dd : Addr) (fld : Str) (x : PyData) | both (x : PyData) (p : Addr) | scr (K : PySem.W.Frag) (ns : List Int)
/-- the ints of a script, where it stands -/
def ScrAt (K : PySem.W.Frag) (G : Hp) (a : Addr) (ns : List Int) : Prop := (∃ o, G a = some (.frz o (.lst (ns.map V.int)))) ∨ ∀ H : Hp, SqL K H a (ns.map V.int)
theorem ScrAt.mono {K : PySem.W.Frag} {G G' : Hp} {a : Addr} {ns : List Int} (e : Ex G G') (h : ScrAt K G a ns) : ScrAt K G' a ns := h.elim (fun ⟨o, q⟩ => .inl ⟨o, e _ _ q⟩) .inr
theorem ScrAt.sq {K : PySem.W.Frag} {G H : Hp} {a : Addr} {ns : List Int} (e : Ex G H) (h : ScrAt K G a ns) : SqL K H a (ns.map V.int) := h.elim (fun ⟨o, q⟩ => .inl (.inr ⟨o, e _ _ q⟩)) fun q => q H
/-- which objects are boxes of draws -/
abbrev Bx := Addr → Prop
abbrev draws : Int := 1000000000000
structure Wd (b : Bx) (G H : Hp) (φ : Nat) : Prop where
  ex : Ex G H
  bx : ∀ p, b p → G p = none ∧ ∃ (g : Int) (f : Bool) (c n : Int), H p = some (.lst [.int g, .bl f, .int c, .int n]) ∧ 0 ≤ g ∧ 0 ≤ c ∧ c < 2147483647 ∧ 0 ≤ n ∧ n + φ ≤ draws
structure Go (b : Bx) (G H G' H' : Hp) : Prop where
  ex : Ex G G'
  keep : ∀ a o, ¬ b a → H a = some o → H' a = some o
  priv : ∀ a, ¬ b a → H a ≠ none → G a = none → G' a = none
theorem Go.refl (b : Bx) (G H : Hp) : Go b G H G H := ⟨Ex.refl _, fun _ _ _ h => h, fun _ _ _ h => h⟩
theorem Go.trans {b : Bx} {G H G1 H1 G2 H2 : Hp} (x : Go b G H G1 H1) (y : Go b G1 H1 G2 H2) : Go b G H G2 H2 :=
  ⟨x.ex.trans y.ex, fun a o hb h => y.keep a o hb (x.keep a o hb h), fun a hb h n => y.priv a hb (fun z => by
    cases e : H a with
    | none => exact h e
    | some o => rw [x.keep a o hb e] at z; cases z) (x.priv a hb h n)⟩
theorem Wd.ne {b : Bx} {G H : Hp} {φ : Nat} {p : Addr} (w : Wd b G H φ) (hp : H p = none) : ¬ b p := fun z => by
  obtain ⟨_, g, f, c, n, e, _⟩ := w.bx p z
  rw [hp] at e
  cases e
theorem Wd.gn {b : Bx} {G H : Hp} {φ : Nat} {p : Addr} (w : Wd b G H φ) (hp : H p = none) : G p = none := by
  cases e : G p with
  | none => rfl
  | some o => rw [w.ex p o e] at hp; cases hp
theorem Wd.less {b : Bx} {G H : Hp} {φ φ' : Nat} (w : Wd b G H φ) (h : φ' ≤ φ) : Wd b G H φ' := ⟨w.ex, fun p e => by
  obtain ⟨g0, g, f, c, n, e, h1, h2, h3, h4, h5⟩ := w.bx p e
  exact ⟨g0, g, f, c, n, e, h1, h2, h3, h4, by omega⟩⟩
/-- a new object that is known from now on -/
theorem Wd.laid {b : Bx} {G H : Hp} {φ : Nat} {p : Addr} {o : HO} (w : Wd b G H φ) (hp : H p = none) : Wd b (upd G p o) (upd H p o) φ := ⟨fun a u e => by
    by_cases h : a = p
    · subst h; rw [upd_same] at e ⊢; exact e
    · rw [upd_ne h] at e ⊢; exact w.ex a u e, fun q e => by
    obtain ⟨g0, g, f, c, n, e1, r⟩ := w.bx q e
    have hn : q ≠ p := fun z => by subst z; exact w.ne hp e
    exact ⟨by rw [upd_ne hn]; exact g0, g, f, c, n, by rw [upd_ne hn]; exact e1, r⟩⟩
theorem Go.laid {b : Bx} {G H : Hp} {φ : Nat} {p : Addr} {o : HO} (w : Wd b G H φ) (hp : H p = none) : Go b G H (upd G p o) (upd H p o) :=
  ⟨Ex.new (w.gn hp), fun a u _ e => by rw [upd_ne (ne_of_none e hp)]; exact e, fun a _ h n => by
    have hn : a ≠ p := fun z => h (by rw [z]; exact hp)
    rw [upd_ne hn]; exact n⟩
/-- a new object that is nobody's yet -/
theorem Wd.aside {b : Bx} {G H : Hp} {φ : Nat} {p : Addr} {o : HO} (w : Wd b G H φ) (hp : H p = none) : Wd b G (upd H p o) φ :=
  ⟨fun a u e => by rw [upd_ne (ne_of_none (w.ex a u e) hp)]; exact w.ex a u e, fun q e => by
    obtain ⟨g0, g, f, c, n, e1, r⟩ := w.bx q e
    have hn : q ≠ p := fun z => by subst z; exact w.ne hp e
    exact ⟨g0, g, f, c, n, by rw [upd_ne hn]; exact e1, r⟩⟩
theorem Go.aside {b : Bx} {G H : Hp} {φ : Nat} {p : Addr} {o : HO} (w : Wd b G H φ) (hp : H p = none) : Go b G H G (upd H p o) :=
  ⟨Ex.refl _, fun a u _ e => by rw [upd_ne (ne_of_none e hp)]; exact e, fun a _ h n => n⟩
/-- an own object is changed -/
theorem Wd.put {b : Bx} {G H : Hp} {φ : Nat} {p : Addr} {o : HO} (w : Wd b G H φ) (hp : G p = none) (hb : ¬ b p) : Wd b G (upd H p o) φ :=
  ⟨fun a u e => by rw [upd_ne (ne_of_none e hp)]; exact w.ex a u e, fun q e => by
    obtain ⟨g0, g, f, c, n, e1, r⟩ := w.bx q e
    have hn : q ≠ p := fun z => by subst z; exact hb e
    exact ⟨g0, g, f, c, n, by rw [upd_ne hn]; exact e1, r⟩⟩
/-- an own object becomes known -/
theorem Wd.know {b : Bx} {G H : Hp} {φ : Nat} {p : Addr} {o : HO} (w : Wd b G H φ) (hp : H p = some o) (hb : ¬ b p) : Wd b (upd G p o) H φ :=
  ⟨fun a u e => by
    by_cases h : a = p
    · subst h; rw [upd_same] at e; cases e; exact hp
    · rw [upd_ne h] at e; exact w.ex a u e, fun q e => by
    obtain ⟨g0, r⟩ := w.bx q e
    have hn : q ≠ p := fun z => by subst z; exact hb e
    exact ⟨by rw [upd_ne hn]; exact g0, r⟩⟩

inductive SlR (b : Bx) (H0 G H : Hp) : Option V → SD → Prop
  | u {o : Option V} : SlR b H0 G H o .u
  | d {v : V} {x : PyData} : Rp G v x → SlR b H0 G H (some v) (.d x)
  | own {p : Addr} {xs : List PyData} {vs : List V} : H p = some (.lst vs) → G p = none → H0 p = none → ¬ b p → RpL G vs xs → SlR b H0 G H (some (.ref p)) (.own xs)
  | bx {p : Addr} : b p → SlR b H0 G H (some (.ref p)) .bx
  | exn {a C dd : Addr} {fld : Str} {x : PyData} {v : V} : G dd = some (.xd [(fld, v)]) → Rp G v x → SlR b H0 G H (some (.ref a)) (.exn a C dd fld x)
  | both {p : Addr} {x : PyData} : Rp G (.ref p) x → SlR b H0 G H (some (.ref p)) (.both x p)
  | scr {K : PySem.W.Frag} {a : Addr} {ns : List Int} : ScrAt K G a ns → SlR b H0 G H (some (.ref a)) (.scr K ns)
structure Sl (b : Bx) (H0 G H : Hp) (σ : L2.St) (δ : List SD) : Prop where
  len : σ.length = δ.length
  at_ : ∀ (i : Nat) (o : Option V) (s : SD), σ[i]? = some o → δ[i]? = some s → SlR b H0 G H o s
  apart : ∀ (i j : Nat) (p : Addr) (xs ys : List PyData), i ≠ j → σ[i]? = some (some (.ref p)) → δ[i]? = some (.own xs) → δ[j]? = some (.own ys) → σ[j]? ≠ some (some (.ref p))
section
variable {b : Bx} {H0 G H G' H' : Hp} {σ : L2.St} {δ : List SD} {φ : Nat}
theorem SlR.go {o : Option V} {s : SD} (g : Go b G H G' H') (h : SlR b H0 G H o s) : SlR b H0 G' H' o s := by
  cases h with
  | u => exact .u
  | d r => exact .d (Rp.mono g.ex _ _ r)
  | own h1 h2 h3 h4 h5 => exact .own (g.keep _ _ h4 h1) (g.priv _ h4 (by rw [h1]; simp) h2) h3 h4 (RpL.mono g.ex _ _ h5)
  | bx e => exact .bx e
  | exn e r => exact .exn (g.ex _ _ e) (Rp.mono g.ex _ _ r)
  | both r => exact .both (Rp.mono g.ex _ _ r)
  | scr r => exact .scr (r.mono g.ex)
theorem Sl.go (g : Go b G H G' H') (h : Sl b H0 G H σ δ) : Sl b H0 G' H' σ δ := ⟨h.len, fun i o s e1 e2 => (h.at_ i o s e1 e2).go g, h.apart⟩
theorem Sl.get (h : Sl b H0 G H σ δ) {i : Nat} {s : SD} (e : δ[i]? = some s) : ∃ o, σ[i]? = some o ∧ SlR b H0 G H o s := by
  have hi : i < δ.length := (List.getElem?_eq_some_iff.mp e).1
  have hi2 : i < σ.length := by rw [h.len]; exact hi
  exact ⟨σ[i], List.getElem?_eq_getElem hi2, h.at_ i _ s (List.getElem?_eq_getElem hi2) e⟩
/-- a slot is set to what no slot owns -/
theorem Sl.set (h : Sl b H0 G H σ δ) {i : Nat} {o : Option V} {s : SD} (r : SlR b H0 G H o s) (hs : ∀ xs, s ≠ .own xs) : Sl b H0 G H (σ.set i o) (δ.set i s) := by
  refine ⟨by rw [List.length_set, List.length_set, h.len], fun j q t e1 e2 => ?_, fun j k p xs ys hjk e1 e2 e3 e4 => ?_⟩
  · by_cases hij : i = j
    · subst hij
      have hl : i < σ.length := by simpa using (List.getElem?_eq_some_iff.mp e1).1
      rw [List.getElem?_set_self hl] at e1
      rw [List.getElem?_set_self (by rw [← h.len]; exact hl)] at e2
      cases e1; cases e2; exact r
    · rw [List.getElem?_set_ne hij] at e1 e2
      exact h.at_ j q t e1 e2
  · by_cases hij : i = j
    · subst hij
      have hl : i < δ.length := by simpa using (List.getElem?_eq_some_iff.mp e2).1
      rw [List.getElem?_set_self hl] at e2
      cases e2; exact hs _ rfl
    · by_cases hik : i = k
      · subst hik
        have hl : i < δ.length := by simpa using (List.getElem?_eq_some_iff.mp e3).1
        rw [List.getElem?_set_self hl] at e3
        cases e3; exact hs _ rfl
      · rw [List.getElem?_set_ne hij] at e1 e2
        rw [List.getElem?_set_ne hik] at e3 e4
        exact h.apart j k p xs ys hjk e1 e2 e3 e4
/-- a slot is set to a new list of its own -/
theorem Sl.setOwn (h : Sl b H0 G H σ δ) {i : Nat} {p : Addr} {xs : List PyData} (r : SlR b H0 G H (some (.ref p)) (.own xs)) (hp : ∀ j ys, j ≠ i → δ[j]? = some (.own ys) → σ[j]? ≠ some (some (.ref p))) :
    Sl b H0 G H (σ.set i (some (.ref p))) (δ.set i (.own xs)) := by
  refine ⟨by rw [List.length_set, List.length_set, h.len], fun j q t e1 e2 => ?_, fun j k p' xs' ys hjk e1 e2 e3 e4 => ?_⟩
  · by_cases hij : i = j
    · subst hij
      have hl : i < σ.length := by simpa using (List.getElem?_eq_some_iff.mp e1).1
      rw [List.getElem?_set_self hl] at e1
      rw [List.getElem?_set_self (by rw [← h.len]; exact hl)] at e2
      cases e1; cases e2; exact r
    · rw [List.getElem?_set_ne hij] at e1 e2
      exact h.at_ j q t e1 e2
  · by_cases hij : i = j
    · subst hij
      have hl : i < σ.length := by simpa using (List.getElem?_eq_some_iff.mp e1).1
      rw [List.getElem?_set_self hl] at e1
      cases e1
      rw [List.getElem?_set_ne hjk] at e3 e4
      exact hp k ys (Ne.symm hjk) e3 e4
    · by_cases hik : i = k
      · subst hik
        have hl : i < σ.length := by simpa using (List.getElem?_eq_some_iff.mp e4).1
        rw [List.getElem?_set_self hl] at e4
        cases e4
        rw [List.getElem?_set_ne hij] at e1 e2
        exact hp j xs' (Ne.symm hij) e2 e1
      · rw [List.getElem?_set_ne hij] at e1 e2
        rw [List.getElem?_set_ne hik] at e3 e4
        exact h.apart j k p' xs' ys hjk e1 e2 e3 e4
/-- the own lists of a frame are apart from what is new -/
theorem Sl.newOwn (h : Sl b H0 G H σ δ) {p : Addr} (hp : H p = none) (j : Nat) (ys : List PyData) (e : δ[j]? = some (.own ys)) : σ[j]? ≠ some (some (.ref p)) := fun z => by
  have r := h.at_ j _ _ z e
  cases r with
  | own h1 _ _ _ _ => rw [hp] at h1; cases h1
end

/-! ### expressions -/
abbrev XC := Addr → Str → PyData → Nat → Prop
abbrev X0 : XC := fun _ _ _ _ => False
def WD (W : WX) (te : TE) (δ : List SD) (φ : Nat) (K : PyData → Nat → Prop) (XK : XC) : Prop :=
  ∀ (b : Bx) (H0 G H : Hp) (σ : L2.St) (Q : VK), Wd b G H φ → Sl b H0 G H σ δ →
    (∀ v d φ' G' H', Wd b G' H' φ' → Go b G H G' H' → Rp G' v d → K d φ' → Q v H') →
    (∀ C fld dd v d φ' G' H', Wd b G' H' φ' → Go b G H G' H' → G' dd = some (.xd [(fld, v)]) → Rp G' v d → XK C fld d φ' → W (.ref C) (some dd) σ H') → te σ H Q
/-- the value is a new list -/
def WF (W : WX) (te : TE) (δ : List SD) (φ : Nat) (K : List PyData → Nat → Prop) (XK : XC) : Prop :=
  ∀ (b : Bx) (H0 G H : Hp) (σ : L2.St) (Q : VK), Wd b G H φ → Sl b H0 G H σ δ →
    (∀ p vs ds φ' G' H', Wd b G' H' φ' → Go b G H G' H' → H p = none → H' p = some (.lst vs) → G' p = none → RpL G' vs ds → K ds φ' → Q (.ref p) H') →
    (∀ C fld dd v d φ' G' H', Wd b G' H' φ' → Go b G H G' H' → G' dd = some (.xd [(fld, v)]) → Rp G' v d → XK C fld d φ' → W (.ref C) (some dd) σ H') → te σ H Q
def WT (W : WX) (te : TT) (δ : List SD) (φ : Nat) (K : Bool → Nat → Prop) (XK : XC) : Prop :=
  ∀ (b : Bx) (H0 G H : Hp) (σ : L2.St) (Q : Bool → Hp → Prop), Wd b G H φ → Sl b H0 G H σ δ →
    (∀ c φ' G' H', Wd b G' H' φ' → Go b G H G' H' → K c φ' → Q c H') →
    (∀ C fld dd v d φ' G' H', Wd b G' H' φ' → Go b G H G' H' → G' dd = some (.xd [(fld, v)]) → Rp G' v d → XK C fld d φ' → W (.ref C) (some dd) σ H') → te σ H Q
/-- arguments: data, or the box -/
inductive AV where
  | d (x : PyData) | bx | both (x : PyData) (p : Addr) | scr (K : PySem.W.Frag) (ns : List Int)
inductive ArgR (b : Bx) (G : Hp) : V → AV → Prop
  | d {v : V} {x : PyData} : Rp G v x → ArgR b G v (.d x)
  | bx {p : Addr} : b p → ArgR b G (.ref p) .bx
  | both {p : Addr} {x : PyData} : Rp G (.ref p) x → ArgR b G (.ref p) (.both x p)
  | scr {K : PySem.W.Frag} {a : Addr} {ns : List Int} : ScrAt K G a ns → ArgR b G (.ref a) (.scr K ns)
inductive ArgsR (b : Bx) (G : Hp) : List V → List AV → Prop
  | nil : ArgsR b G [] []
  | cons {v : V} {a : AV} {vs : List V} {as : List AV} : ArgR b G v a → ArgsR b G vs as → ArgsR b G (v :: vs) (a :: as)
def WA (W : WX) (ta : TA) (δ : List SD) (φ : Nat) (K : List AV → Nat → Prop) (XK : XC) : Prop :=
  ∀ (b : Bx) (H0 G H : Hp) (σ : L2.St) (Q : List V → Hp → Prop), Wd b G H φ → Sl b H0 G H σ δ →
    (∀ vs as φ' G' H', Wd b G' H' φ' → Go b G H G' H' → ArgsR b G' vs as → K as φ' → Q vs H') →
    (∀ C fld dd v d φ' G' H', Wd b G' H' φ' → Go b G H G' H' → G' dd = some (.xd [(fld, v)]) → Rp G' v d → XK C fld d φ' → W (.ref C) (some dd) σ H') → ta σ H Q
/-- an operation on two values, on one, on a list of values -/
def RD (r : R2) (x y : PyData) (φ : Nat) (K : PyData → Nat → Prop) : Prop :=
  ∀ (b : Bx) (G H : Hp) (v w : V) (Q : VK), Wd b G H φ → Rp G v x → Rp G w y → (∀ z d φ' G' H', Wd b G' H' φ' → Go b G H G' H' → Rp G' z d → K d φ' → Q z H') → r v w H Q
def RU (r : V → Hp → VK → Prop) (x : PyData) (φ : Nat) (K : PyData → Nat → Prop) : Prop :=
  ∀ (b : Bx) (G H : Hp) (v : V) (Q : VK), Wd b G H φ → Rp G v x → (∀ z d φ' G' H', Wd b G' H' φ' → Go b G H G' H' → Rp G' z d → K d φ' → Q z H') → r v H Q
def RL (r : List V → Hp → VK → Prop) (as : List AV) (φ : Nat) (K : PyData → Nat → Prop) : Prop :=
  ∀ (b : Bx) (G H : Hp) (vs : List V) (Q : VK), Wd b G H φ → ArgsR b G vs as → (∀ z d φ' G' H', Wd b G' H' φ' → Go b G H G' H' → Rp G' z d → K d φ' → Q z H') → r vs H Q
theorem ArgR.mono {b : Bx} {G G' : Hp} {v : V} {a : AV} (e : Ex G G') (h : ArgR b G v a) : ArgR b G' v a := by
  cases h with
  | d r => exact .d (Rp.mono e _ _ r)
  | bx e => exact .bx e
  | both r => exact .both (Rp.mono e _ _ r)
  | scr r => exact .scr (r.mono e)
section
variable {W : WX} {δ : List SD} {φ : Nat} {K : PyData → Nat → Prop} {XK : XC} {te ta tb tc : TE} {t u : TT}
theorem wd_var {i : Nat} {x : PyData} (h : δ[i]? = some (.d x)) (k : K x φ) : WD W (tVar i) δ φ K XK := fun b H0 G H σ Q w s q _ => by
  obtain ⟨o, e, r⟩ := s.get h
  cases r with
  | d r => exact ⟨_, e, q _ _ _ G H w (Go.refl _ _ _) r k⟩
theorem wd_varB {i : Nat} {x : PyData} {p : Addr} (h : δ[i]? = some (.both x p)) (k : K x φ) : WD W (tVar i) δ φ K XK := fun b H0 G H σ Q w s q _ => by
  obtain ⟨o, e, r⟩ := s.get h
  cases r with
  | both r => exact ⟨_, e, q _ _ _ G H w (Go.refl _ _ _) r k⟩
/-- .. as the object that it is -/
theorem wd_varP {i : Nat} {x : PyData} {p : Addr} (h : δ[i]? = some (.both x p)) (k : K (ptrD p) φ) : WD W (tVar i) δ φ K XK := fun b H0 G H σ Q w s q _ => by
  obtain ⟨o, e, r⟩ := s.get h
  cases r with
  | both r => exact ⟨_, e, q _ _ _ G H w (Go.refl _ _ _) (.ptr p) k⟩
theorem wd_int {i : Int} (k : K (.int i) φ) : WD W (tC (.int i)) δ φ K XK := fun b H0 G H σ Q w s q _ => q _ _ _ G H w (Go.refl _ _ _) (.int i) k
theorem wd_bl {i : Bool} (k : K (.bool i) φ) : WD W (tC (.bl i)) δ φ K XK := fun b H0 G H σ Q w s q _ => q _ _ _ G H w (Go.refl _ _ _) (.bl i) k
theorem wd_str {i : Str} (k : K (.str i) φ) : WD W (tC (.str i)) δ φ K XK := fun b H0 G H σ Q w s q _ => q _ _ _ G H w (Go.refl _ _ _) (.str i) k
theorem wd_non (k : K .none φ) : WD W (tC .non) δ φ K XK := fun b H0 G H σ Q w s q _ => q _ _ _ G H w (Go.refl _ _ _) .non k
theorem wd_op {r : R2} (h : WD W ta δ φ (fun x φ1 => WD W tb δ φ1 (fun y φ2 => RD r x y φ2 K) XK) XK) : WD W (tOp r ta tb) δ φ K XK := fun b H0 G H σ Q w s q e =>
  h b H0 G H σ _ w s (fun v d φ1 G1 H1 w1 g1 r1 k1 => k1 b H0 G1 H1 σ _ w1 (s.go g1) (fun v2 d2 φ2 G2 H2 w2 g2 r2 k2 =>
    k2 b G2 H2 v v2 Q w2 (Rp.mono g2.ex _ _ r1) r2 fun z d φ' G' H' w' g' r' k' => q z d φ' G' H' w' ((g1.trans g2).trans g') r' k')
    fun C f dd v d φ' G' H' w' g' e1 r' k' => e C f dd v d φ' G' H' w' (g1.trans g') e1 r' k') e
theorem wd_un {r : V → Hp → VK → Prop} (h : WD W ta δ φ (fun x φ1 => RU r x φ1 K) XK) : WD W (tUn r ta) δ φ K XK := fun b H0 G H σ Q w s q e =>
  h b H0 G H σ _ w s (fun v d φ1 G1 H1 w1 g1 r1 k1 => k1 b G1 H1 v Q w1 r1 fun z d φ' G' H' w' g' r' k' => q z d φ' G' H' w' (g1.trans g') r' k') e
theorem wd_if (h : WT W t δ φ (fun c φ1 => (c = true → WD W ta δ φ1 K XK) ∧ (c = false → WD W tb δ φ1 K XK)) XK) : WD W (tIf t ta tb) δ φ K XK := fun b H0 G H σ Q w s q e =>
  h b H0 G H σ _ w s (fun c φ1 G1 H1 w1 g1 k1 => by
    cases c with
    | true => exact k1.1 rfl b H0 G1 H1 σ Q w1 (s.go g1) (fun z d φ' G' H' w' g' r' k' => q z d φ' G' H' w' (g1.trans g') r' k') fun C f dd v d φ' G' H' w' g' e1 r' k' => e C f dd v d φ' G' H' w' (g1.trans g') e1 r' k'
    | false => exact k1.2 rfl b H0 G1 H1 σ Q w1 (s.go g1) (fun z d φ' G' H' w' g' r' k' => q z d φ' G' H' w' (g1.trans g') r' k') fun C f dd v d φ' G' H' w' g' e1 r' k' => e C f dd v d φ' G' H' w' (g1.trans g') e1 r' k') e
theorem wd_andV (h : WD W ta δ φ (fun x φ1 => ∃ c, x = .bool c ∧ (c = true → WD W tb δ φ1 K XK) ∧ (c = false → K (.bool false) φ1)) XK) : WD W (tAndV ta tb) δ φ K XK := fun b H0 G H σ Q w s q e =>
  h b H0 G H σ _ w s (fun v d φ1 G1 H1 w1 g1 r1 k1 => by
    obtain ⟨c, rfl, k2, k3⟩ := k1
    cases r1
    refine ⟨c, rfl, ?_⟩
    cases c with
    | true => exact k2 rfl b H0 G1 H1 σ Q w1 (s.go g1) (fun z d φ' G' H' w' g' r' k' => q z d φ' G' H' w' (g1.trans g') r' k') fun C f dd v d φ' G' H' w' g' e1 r' k' => e C f dd v d φ' G' H' w' (g1.trans g') e1 r' k'
    | false => exact q _ _ _ _ _ w1 g1 (.bl false) (k3 rfl)) e
theorem wd_orV (h : WD W ta δ φ (fun x φ1 => ∃ c, x = .bool c ∧ (c = true → K (.bool true) φ1) ∧ (c = false → WD W tb δ φ1 K XK)) XK) : WD W (tOrV ta tb) δ φ K XK := fun b H0 G H σ Q w s q e =>
  h b H0 G H σ _ w s (fun v d φ1 G1 H1 w1 g1 r1 k1 => by
    obtain ⟨c, rfl, k2, k3⟩ := k1
    cases r1
    refine ⟨c, rfl, ?_⟩
    cases c with
    | true => exact q _ _ _ _ _ w1 g1 (.bl true) (k2 rfl)
    | false => exact k3 rfl b H0 G1 H1 σ Q w1 (s.go g1) (fun z d φ' G' H' w' g' r' k' => q z d φ' G' H' w' (g1.trans g') r' k') fun C f dd v d φ' G' H' w' g' e1 r' k' => e C f dd v d φ' G' H' w' (g1.trans g') e1 r' k') e
theorem wd_notV (h : WD W ta δ φ (fun x φ1 => ∃ c, x = .bool c ∧ K (.bool (!c)) φ1) XK) : WD W (tNotV ta) δ φ K XK := fun b H0 G H σ Q w s q e =>
  h b H0 G H σ _ w s (fun v d φ1 G1 H1 w1 g1 r1 k1 => by
    obtain ⟨c, rfl, k2⟩ := k1
    cases r1
    exact ⟨c, rfl, q _ _ _ _ _ w1 g1 (.bl _) k2⟩) e
/-! tests -/
theorem wt_B {K : Bool → Nat → Prop} (h : WD W te δ φ (fun x φ1 => ∃ c, x = .bool c ∧ K c φ1) XK) : WT W (tB te) δ φ K XK := fun b H0 G H σ Q w s q e =>
  h b H0 G H σ _ w s (fun v d φ1 G1 H1 w1 g1 r1 k1 => by
    obtain ⟨c, rfl, k2⟩ := k1
    cases r1
    exact ⟨c, rfl, q _ _ _ _ w1 g1 k2⟩) e
theorem wt_test {K : Bool → Nat → Prop} (h : WD W te δ φ (fun x φ1 => ∃ c, x = .bool c ∧ K c φ1) XK) : WT W (tTest te) δ φ K XK := wt_B h
theorem wt_and {K : Bool → Nat → Prop} (h : WT W t δ φ (fun c φ1 => (c = true → WT W u δ φ1 K XK) ∧ (c = false → K false φ1)) XK) : WT W (tAnd t u) δ φ K XK := fun b H0 G H σ Q w s q e =>
  h b H0 G H σ _ w s (fun c φ1 G1 H1 w1 g1 k1 => by
    cases c with
    | true => exact k1.1 rfl b H0 G1 H1 σ Q w1 (s.go g1) (fun c φ' G' H' w' g' k' => q c φ' G' H' w' (g1.trans g') k') fun C f dd v d φ' G' H' w' g' e1 r' k' => e C f dd v d φ' G' H' w' (g1.trans g') e1 r' k'
    | false => exact q _ _ _ _ w1 g1 (k1.2 rfl)) e
theorem wt_or {K : Bool → Nat → Prop} (h : WT W t δ φ (fun c φ1 => (c = true → K true φ1) ∧ (c = false → WT W u δ φ1 K XK)) XK) : WT W (tOr t u) δ φ K XK := fun b H0 G H σ Q w s q e =>
  h b H0 G H σ _ w s (fun c φ1 G1 H1 w1 g1 k1 => by
    cases c with
    | true => exact q _ _ _ _ w1 g1 (k1.1 rfl)
    | false => exact k1.2 rfl b H0 G1 H1 σ Q w1 (s.go g1) (fun c φ' G' H' w' g' k' => q c φ' G' H' w' (g1.trans g') k') fun C f dd v d φ' G' H' w' g' e1 r' k' => e C f dd v d φ' G' H' w' (g1.trans g') e1 r' k') e
theorem wt_not {K : Bool → Nat → Prop} (h : WT W t δ φ (fun c φ1 => K (!c) φ1) XK) : WT W (tNot t) δ φ K XK := fun b H0 G H σ Q w s q e =>
  h b H0 G H σ _ w s (fun c φ1 G1 H1 w1 g1 k1 => q _ _ _ _ w1 g1 k1) e
theorem wt_yes {K : Bool → Nat → Prop} (h : K true φ) : WT W tYes δ φ K XK := fun b H0 G H σ Q w s q e => q _ _ _ _ w (Go.refl _ _ _) h
/-! arguments -/
theorem wa_nil {K : List AV → Nat → Prop} (h : K [] φ) : WA W tNil δ φ K XK := fun b H0 G H σ Q w s q e => q [] [] φ G H w (Go.refl _ _ _) .nil h
theorem wa_cons {tr : TA} {K : List AV → Nat → Prop} (h : WD W te δ φ (fun x φ1 => WA W tr δ φ1 (fun as φ2 => K (.d x :: as) φ2) XK) XK) : WA W (tCons te tr) δ φ K XK := fun b H0 G H σ Q w s q e =>
  h b H0 G H σ _ w s (fun v d φ1 G1 H1 w1 g1 r1 k1 => k1 b H0 G1 H1 σ _ w1 (s.go g1) (fun vs as φ2 G2 H2 w2 g2 r2 k2 => q _ _ _ _ _ w2 (g1.trans g2) (.cons (.d (Rp.mono g2.ex _ _ r1)) r2) k2)
    fun C f dd v d φ' G' H' w' g' e1 r' k' => e C f dd v d φ' G' H' w' (g1.trans g') e1 r' k') e
theorem wa_box {tr : TA} {i : Nat} {K : List AV → Nat → Prop} (hb : δ[i]? = some .bx) (h : WA W tr δ φ (fun as φ2 => K (.bx :: as) φ2) XK) : WA W (tCons (tVar i) tr) δ φ K XK := fun b H0 G H σ Q w s q e => by
  obtain ⟨o, e1, r⟩ := s.get hb
  cases r with
  | bx eb => exact ⟨_, e1, h b H0 G H σ _ w s (fun vs as φ2 G2 H2 w2 g2 r2 k2 => q _ _ _ _ _ w2 g2 (.cons (.bx eb) r2) k2) e⟩
theorem wa_both {tr : TA} {i : Nat} {x : PyData} {p : Addr} {K : List AV → Nat → Prop} (hb : δ[i]? = some (.both x p)) (h : WA W tr δ φ (fun as φ2 => K (.both x p :: as) φ2) XK) : WA W (tCons (tVar i) tr) δ φ K XK := fun b H0 G H σ Q w s q e => by
  obtain ⟨o, e1, r⟩ := s.get hb
  cases r with
  | both eb => exact ⟨_, e1, h b H0 G H σ _ w s (fun vs as φ2 G2 H2 w2 g2 r2 k2 => q _ _ _ _ _ w2 g2 (.cons (.both (Rp.mono g2.ex _ _ eb)) r2) k2) e⟩
theorem ArgsR.data {b : Bx} {G : Hp} : ∀ {vs : List V} {xs : List PyData}, ArgsR b G vs (xs.map .d) → RpL G vs xs
  | [], [], _ => .nil
  | [], _ :: _, h => by cases h
  | _ :: _, [], h => by cases h
  | v :: vs, x :: xs, h => by
    cases h with
    | cons h1 h2 =>
      cases h1 with
      | d r => exact .cons r (ArgsR.data h2)
/-! displays -/
theorem wd_tup {ta : TA} (h : WA W ta δ φ (fun as φ1 => ∃ xs : List PyData, as = xs.map .d ∧ xs.length ≤ 10000000 ∧ K (.tuple xs) φ1) XK) : WD W (tTup ta) δ φ K XK := fun b H0 G H σ Q w s q e =>
  h b H0 G H σ _ w s (fun vs as φ1 G1 H1 w1 g1 r1 k1 => by
    obtain ⟨xs, rfl, hl, k⟩ := k1
    have rl := r1.data
    refine ⟨by rw [rl.len]; exact Nat.le_trans hl (by decide), fun p hp => ?_⟩
    exact q _ _ _ _ _ (w1.laid hp) (g1.trans (Go.laid w1 hp)) (.tup upd_same (RpL.mono (Ex.new (w1.gn hp)) _ _ rl)) k) e
theorem wf_lst {ta : TA} {K : List PyData → Nat → Prop} (h : WA W ta δ φ (fun as φ1 => ∃ xs : List PyData, as = xs.map .d ∧ xs.length ≤ 10000000 ∧ K xs φ1) XK) : WF W (tLst ta) δ φ K XK := fun b H0 G H σ Q w s q e =>
  h b H0 G H σ _ w s (fun vs as φ1 G1 H1 w1 g1 r1 k1 => by
    obtain ⟨xs, rfl, hl, k⟩ := k1
    have rl := r1.data
    refine ⟨by rw [rl.len]; exact Nat.le_trans hl (by decide), fun p hp => ?_⟩
    have hp0 : H p = none := by
      cases z : H p with
      | none => rfl
      | some o =>
        by_cases hb : b p
        · obtain ⟨_, g0, f, c, n, e1, _⟩ := w1.bx p hb
          rw [hp] at e1; cases e1
        · rw [g1.keep p o hb z] at hp; cases hp
    exact q _ _ _ _ _ _ (w1.aside hp) (g1.trans (Go.aside w1 hp)) hp0 upd_same (w1.gn hp) rl k) e
theorem wd_of_wf (h : WF W te δ φ (fun ds φ1 => K (.list ds) φ1) XK) : WD W te δ φ K XK := fun b H0 G H σ Q w s q e =>
  h b H0 G H σ _ w s (fun p vs ds φ1 G1 H1 w1 g1 hp hp1 gp rl k => by
    refine q _ _ _ (upd G1 p (.lst vs)) H1 (w1.know hp1 (w.ne hp)) ⟨g1.ex.trans (Ex.new gp), g1.keep, fun a hb ha hn => ?_⟩ (.lst upd_same (RpL.mono (Ex.new gp) _ _ rl)) k
    have hne : a ≠ p := fun z => ha (by rw [z]; exact hp)
    rw [upd_ne hne]
    exact g1.priv a hb ha hn) e
theorem wd_lst {ta : TA} (h : WA W ta δ φ (fun as φ1 => ∃ xs : List PyData, as = xs.map .d ∧ xs.length ≤ 10000000 ∧ K (.list xs) φ1) XK) : WD W (tLst ta) δ φ K XK := wd_of_wf (wf_lst h)
/-! calls of built-ins by values, calls of defs -/
theorem wd_cb {r : List V → Hp → VK → Prop} {ta : TA} (h : WA W ta δ φ (fun as φ1 => RL r as φ1 K) XK) : WD W (tCB r ta) δ φ K XK := fun b H0 G H σ Q w s q e =>
  h b H0 G H σ _ w s (fun vs as φ1 G1 H1 w1 g1 r1 k1 => k1 b G1 H1 vs Q w1 r1 fun z d φ' G' H' w' g' r' k' => q z d φ' G' H' w' (g1.trans g') r' k') e
/-- a def's promise, by data: what it hands back (K), a new list that it hands back (F), an error that it lets out -/
abbrev PD := List AV → Nat → (PyData → Nat → Prop) → (List PyData → Nat → Prop) → XC → Prop
def SpD (P : PD) : Sp := fun vs H Q E => ∃ (b : Bx) (G : Hp) (φ : Nat) (as : List AV) (K : PyData → Nat → Prop) (F : List PyData → Nat → Prop) (XK : XC), Wd b G H φ ∧ ArgsR b G vs as ∧ P as φ K F XK ∧
  (∀ v d φ' G' H', Wd b G' H' φ' → Go b G H G' H' → Rp G' v d → K d φ' → Q v H') ∧
  (∀ p ws ds φ' G' H', Wd b G' H' φ' → Go b G H G' H' → H p = none → H' p = some (.lst ws) → G' p = none → RpL G' ws ds → F ds φ' → Q (.ref p) H') ∧
  (∀ C fld dd v d φ' G' H', Wd b G' H' φ' → Go b G H G' H' → G' dd = some (.xd [(fld, v)]) → Rp G' v d → XK C fld d φ' → E (.ref C) (some dd) H')
/-- what was new behind g1 was new ahead of it -/
theorem Go.was {b : Bx} {G H G' H' : Hp} {φ : Nat} {p : Addr} (g : Go b G H G' H') (w : Wd b G' H' φ) (h : H' p = none) : H p = none := by
  cases z : H p with
  | none => rfl
  | some o =>
    rw [g.keep p o (w.ne h) z] at h
    cases h
/-- a new list becomes data -/
theorem fresh_data {b : Bx} {G H G1 H1 : Hp} {φ φ1 : Nat} {p : Addr} {vs : List V} {ds : List PyData} (w : Wd b G H φ) (w1 : Wd b G1 H1 φ1) (g1 : Go b G H G1 H1) (hp : H p = none) (hp1 : H1 p = some (.lst vs)) (gp : G1 p = none) (rl : RpL G1 vs ds) :
    ∃ G2, Wd b G2 H1 φ1 ∧ Go b G H G2 H1 ∧ Rp G2 (.ref p) (.list ds) := by
  refine ⟨upd G1 p (.lst vs), w1.know hp1 (w.ne hp), ⟨g1.ex.trans (Ex.new gp), g1.keep, fun a hb ha hn => ?_⟩, .lst upd_same (RpL.mono (Ex.new gp) _ _ rl)⟩
  have hne : a ≠ p := fun z => ha (by rw [z]; exact hp)
  rw [upd_ne hne]
  exact g1.priv a hb ha hn
theorem wd_callX {P : PD} {ta : TA} (h : WA W ta δ φ (fun as φ1 => P as φ1 K (fun ds φ2 => K (.list ds) φ2) XK) XK) : WD W (tCallG (SpD P) (WE W) ta) δ φ K XK := fun b H0 G H σ Q w s q e =>
  h b H0 G H σ _ w s (fun vs as φ1 G1 H1 w1 g1 r1 k1 => ⟨b, G1, φ1, as, K, _, XK, w1, r1, k1, fun z d φ' G' H' w' g' r' k' => q z d φ' G' H' w' (g1.trans g') r' k',
    fun p ws ds φ' G' H' w' g' hp hp' gp rl k' => by
      obtain ⟨G2, w2, g2, r2⟩ := fresh_data w w' (g1.trans g') (Go.was g1 w1 hp) hp' gp rl
      exact q _ _ _ _ _ w2 g2 r2 k',
    fun C f dd v d φ' G' H' w' g' e1 r' k' => e C f dd v d φ' G' H' w' (g1.trans g') e1 r' k'⟩) e
theorem wd_call {P : PD} {ta : TA} (h : WA W ta δ φ (fun as φ1 => P as φ1 K (fun ds φ2 => K (.list ds) φ2) X0) XK) : WD W (tCallG (SpD P) (fun _ => E0) ta) δ φ K XK := fun b H0 G H σ Q w s q e =>
  h b H0 G H σ _ w s (fun vs as φ1 G1 H1 w1 g1 r1 k1 => ⟨b, G1, φ1, as, K, _, X0, w1, r1, k1, fun z d φ' G' H' w' g' r' k' => q z d φ' G' H' w' (g1.trans g') r' k',
    fun p ws ds φ' G' H' w' g' hp hp' gp rl k' => by
      obtain ⟨G2, w2, g2, r2⟩ := fresh_data w w' (g1.trans g') (Go.was g1 w1 hp) hp' gp rl
      exact q _ _ _ _ _ w2 g2 r2 k',
    fun C f dd v d φ' G' H' w' g' e1 r' k' => k'.elim⟩) e
theorem ArgsR.len {b : Bx} {G : Hp} {vs : List V} {as : List AV} (h : ArgsR b G vs as) : vs.length = as.length := by
  induction h with
  | nil => rfl
  | cons _ _ ih => rw [List.length_cons, List.length_cons, ih]
theorem ArgsR.mono {b : Bx} {G G' : Hp} {vs : List V} {as : List AV} (e : Ex G G') (h : ArgsR b G vs as) : ArgsR b G' vs as := by
  induction h with
  | nil => exact .nil
  | cons h1 _ ih => exact .cons (h1.mono e) ih
/-- one keyword, no positional argument -/
theorem wd_callK1X {P : PD} {tk : TA} (h : WA W tk δ φ (fun as φ1 => as.length = 1 ∧ P as φ1 K (fun ds φ2 => K (.list ds) φ2) XK) XK) : WD W (tCallGK (SpD P) (fun _ zs => zs) 0 1 (WE W) tNil tk) δ φ K XK := fun b H0 G H σ Q w s q e =>
  h b H0 G H σ _ w s (fun vs as φ1 G1 H1 w1 g1 r1 k1 => ⟨rfl, by rw [r1.len]; exact k1.1, b, G1, φ1, as, K, _, XK, w1, r1, k1.2, fun z d φ' G' H' w' g' r' k' => q z d φ' G' H' w' (g1.trans g') r' k',
    fun p ws ds φ' G' H' w' g' hp hp' gp rl k' => by
      obtain ⟨G2, w2, g2, r2⟩ := fresh_data w w' (g1.trans g') (Go.was g1 w1 hp) hp' gp rl
      exact q _ _ _ _ _ w2 g2 r2 k',
    fun C f dd v d φ' G' H' w' g' e1 r' k' => e C f dd v d φ' G' H' w' (g1.trans g') e1 r' k'⟩) e
theorem wd_callK1 {P : PD} {tk : TA} (h : WA W tk δ φ (fun as φ1 => as.length = 1 ∧ P as φ1 K (fun ds φ2 => K (.list ds) φ2) X0) XK) : WD W (tCallGK (SpD P) (fun _ zs => zs) 0 1 (fun _ => E0) tNil tk) δ φ K XK := fun b H0 G H σ Q w s q e =>
  h b H0 G H σ _ w s (fun vs as φ1 G1 H1 w1 g1 r1 k1 => ⟨rfl, by rw [r1.len]; exact k1.1, b, G1, φ1, as, K, _, X0, w1, r1, k1.2, fun z d φ' G' H' w' g' r' k' => q z d φ' G' H' w' (g1.trans g') r' k',
    fun p ws ds φ' G' H' w' g' hp hp' gp rl k' => by
      obtain ⟨G2, w2, g2, r2⟩ := fresh_data w w' (g1.trans g') (Go.was g1 w1 hp) hp' gp rl
      exact q _ _ _ _ _ w2 g2 r2 k',
    fun C f dd v d φ' G' H' w' g' e1 r' k' => k'.elim⟩) e
end
end Eg

/-! EgWs -/
set_option Elab.async false
set_option linter.all false
set_option maxRecDepth 100000
set_option maxHeartbeats 2000000
namespace Eg
open PySem L2
/-! ## statements -/
structure DE where
  nx : List SD → Nat → Prop
  bk : List SD → Nat → Prop
  ct : List SD → Nat → Prop
  rt : PyData → Nat → Prop
  rf : List PyData → Nat → Prop
  xx : Addr → Str → PyData → List SD → Nat → Prop
/-- from a def's entry on; b0: the boxes at the entry -/
structure St (b0 : Bx) (G0 H0 : Hp) (b : Bx) (G H : Hp) : Prop where
  go : Go b0 G0 H0 G H
  sub : ∀ p, b0 p → b p
  new : ∀ p, b p → ¬ b0 p → H0 p = none
theorem St.step {b0 b : Bx} {G0 H0 G H G' H' : Hp} (s : St b0 G0 H0 b G H) (g : Go b G H G' H') : St b0 G0 H0 b G' H' := by
  have nb : ∀ a o, ¬ b0 a → H0 a = some o → ¬ b a := fun a o h e z => by
    rw [s.new a z h] at e
    cases e
  refine ⟨⟨s.go.ex.trans g.ex, fun a o h e => g.keep a o (nb a o h e) (s.go.keep a o h e), fun a h hn gn => ?_⟩, s.sub, s.new⟩
  cases e : H0 a with
  | none => exact absurd e hn
  | some o =>
    refine g.priv a (nb a o h e) ?_ (s.go.priv a h hn gn)
    rw [s.go.keep a o h e]
    simp
theorem St.refl (b : Bx) (G H : Hp) : St b G H b G H := ⟨Go.refl _ _ _, fun _ h => h, fun _ h n => absurd h n⟩
theorem Wd.sub {b0 b : Bx} {G H : Hp} {φ : Nat} (w : Wd b G H φ) (h : ∀ p, b0 p → b p) : Wd b0 G H φ := ⟨w.ex, fun p e => w.bx p (h p e)⟩
/-- what stands behind a statement -/
structure Behind (W : WX) (b0 : Bx) (G0 H0 : Hp) (D : Ends) (de : DE) : Prop where
  nx : ∀ b δ φ G H σ, Wd b G H φ → St b0 G0 H0 b G H → Sl b H0 G H σ δ → de.nx δ φ → D.nx σ H
  bk : ∀ b δ φ G H σ, Wd b G H φ → St b0 G0 H0 b G H → Sl b H0 G H σ δ → de.bk δ φ → D.bk σ H
  ct : ∀ b δ φ G H σ, Wd b G H φ → St b0 G0 H0 b G H → Sl b H0 G H σ δ → de.ct δ φ → D.ct σ H
  rt : ∀ b v d φ G H, Wd b G H φ → St b0 G0 H0 b G H → Rp G v d → de.rt d φ → D.rt v H
  rf : ∀ b p vs ds φ G H, Wd b G H φ → St b0 G0 H0 b G H → H0 p = none → H p = some (.lst vs) → G p = none → ¬ b p → RpL G vs ds → de.rf ds φ → D.rt (.ref p) H
  xx : ∀ b C fld dd v d δ φ G H σ, Wd b G H φ → St b0 G0 H0 b G H → Sl b H0 G H σ δ → G dd = some (.xd [(fld, v)]) → Rp G v d → de.xx C fld d δ φ → W (.ref C) (some dd) σ H
def WS (W : WX) (ts : TS) (δ : List SD) (φ : Nat) (de : DE) : Prop :=
  ∀ (b0 b : Bx) (G0 H0 G H : Hp) (σ : L2.St) (D : Ends), Wd b G H φ → St b0 G0 H0 b G H → Sl b H0 G H σ δ → Behind W b0 G0 H0 D de → ts D σ H
section
variable {W : WX} {δ : List SD} {φ : Nat} {de : DE} {te : TE} {ts tu tw : TS} {t : TT}
theorem ws_next (h : de.nx δ φ) : WS W tNext δ φ de := fun b0 b G0 H0 G H σ D w g s B => B.nx _ _ _ _ _ _ w g s h
theorem ws_seq (h : WS W ts δ φ { de with nx := fun δ1 φ1 => WS W tu δ1 φ1 de }) : WS W (tSeq ts tu) δ φ de := fun b0 b G0 H0 G H σ D w g s B =>
  h b0 b G0 H0 G H σ _ w g s ⟨fun b1 δ1 φ1 G1 H1 σ1 w1 g1 s1 k => k b0 b1 G0 H0 G1 H1 σ1 D w1 g1 s1 B, B.bk, B.ct, B.rt, B.rf, B.xx⟩
theorem ws_brk (h : de.bk δ φ) : WS W tBreak δ φ de := fun b0 b G0 H0 G H σ D w g s B => B.bk _ _ _ _ _ _ w g s h
theorem ws_cont (h : de.ct δ φ) : WS W tCont δ φ de := fun b0 b G0 H0 G H σ D w g s B => B.ct _ _ _ _ _ _ w g s h
theorem exc {b0 b : Bx} {G0 H0 G H : Hp} {σ : L2.St} {D : Ends} (g : St b0 G0 H0 b G H) (s : Sl b H0 G H σ δ) (B : Behind W b0 G0 H0 D de) :
    ∀ C fld dd v d φ' G' H', Wd b G' H' φ' → Go b G H G' H' → G' dd = some (.xd [(fld, v)]) → Rp G' v d → (fun C f d φ => de.xx C f d δ φ) C fld d φ' → W (.ref C) (some dd) σ H' :=
  fun C f dd v d φ' G' H' w' g' e r k => B.xx b C f dd v d δ φ' G' H' σ w' (g.step g') (s.go g') e r k
theorem ws_ret (h : WD W te δ φ de.rt fun C f d φ => de.xx C f d δ φ) : WS W (tRet te) δ φ de := fun b0 b G0 H0 G H σ D w g s B =>
  h b H0 G H σ _ w s (fun v d φ' G' H' w' g' r k => B.rt b v d φ' G' H' w' (g.step g') r k) (exc g s B)
theorem ws_retN (h : de.rt .none φ) : WS W tRetN δ φ de := fun b0 b G0 H0 G H σ D w g s B => B.rt _ _ _ _ _ _ w g .non h
theorem ws_drop (h : WD W te δ φ (fun _ φ1 => de.nx δ φ1) fun C f d φ => de.xx C f d δ φ) : WS W (tDrop te) δ φ de := fun b0 b G0 H0 G H σ D w g s B =>
  h b H0 G H σ _ w s (fun v d φ' G' H' w' g' r k => B.nx _ _ _ _ _ _ w' (g.step g') (s.go g') k) (exc g s B)
theorem ws_if (h : WT W t δ φ (fun c φ1 => (c = true → WS W tu δ φ1 de) ∧ (c = false → WS W tw δ φ1 de)) fun C f d φ => de.xx C f d δ φ) : WS W (tIfS t tu tw) δ φ de := fun b0 b G0 H0 G H σ D w g s B =>
  h b H0 G H σ _ w s (fun c φ1 G1 H1 w1 g1 k => by
    cases c with
    | true => exact k.1 rfl b0 b G0 H0 G1 H1 σ D w1 (g.step g1) (s.go g1) B
    | false => exact k.2 rfl b0 b G0 H0 G1 H1 σ D w1 (g.step g1) (s.go g1) B) (exc g s B)
theorem ws_asg {i : Nat} (h : WD W te δ φ (fun d φ1 => de.nx (δ.set i (.d d)) φ1) fun C f d φ => de.xx C f d δ φ) : WS W (tAsg te (gName i)) δ φ de := fun b0 b G0 H0 G H σ D w g s B =>
  h b H0 G H σ _ w s (fun v d φ' G' H' w' g' r k => B.nx _ _ _ _ _ _ w' (g.step g') ((s.go g').set (.d r) (fun _ z => nomatch z)) k) (exc g s B)
/-- what is new now was new at the entry -/
theorem St.was {b0 b : Bx} {G0 H0 G H : Hp} {φ : Nat} {p : Addr} (g : St b0 G0 H0 b G H) (w : Wd b G H φ) (h : H p = none) : H0 p = none := by
  cases z : H0 p with
  | none => rfl
  | some o =>
    have hb : ¬ b0 p := fun q => w.ne h (g.sub p q)
    rw [g.go.keep p o hb z] at h
    cases h
/-- a new list of one's own -/
theorem ws_asgF {i : Nat} (h : WF W te δ φ (fun ds φ1 => de.nx (δ.set i (.own ds)) φ1) fun C f d φ => de.xx C f d δ φ) : WS W (tAsg te (gName i)) δ φ de := fun b0 b G0 H0 G H σ D w g s B =>
  h b H0 G H σ _ w s (fun p vs ds φ' G' H' w' g' hp hp' gp r k =>
    B.nx _ _ _ _ _ _ w' (g.step g') ((s.go g').setOwn (.own hp' gp (g.was w hp) (w.ne hp) r) (fun j ys _ e => s.newOwn hp j ys e)) k) (exc g s B)
/-- an own list is given out: it is data from now on -/
theorem ws_freeze (i : Nat) {xs : List PyData} (hi : δ[i]? = some (.own xs)) (h : WS W ts (δ.set i (.d (.list xs))) φ de) : WS W ts δ φ de := fun b0 b G0 H0 G H σ D w g s B => by
  obtain ⟨o, e, r⟩ := s.get hi
  cases r with
  | @own p _ vs h1 h2 h3 h4 h5 =>
    have hx : Ex G (upd G p (.lst vs)) := Ex.new h2
    have g1 : St b0 G0 H0 b (upd G p (.lst vs)) H := ⟨⟨g.go.ex.trans hx, g.go.keep, fun a hb ha hn => by
      have hne : a ≠ p := fun z => ha (by rw [z]; exact h3)
      rw [upd_ne hne]
      exact g.go.priv a hb ha hn⟩, g.sub, g.new⟩
    have hl : i < σ.length := (List.getElem?_eq_some_iff.mp e).1
    have hσ : σ.set i (some (.ref p)) = σ := by
      apply List.ext_getElem?
      intro j
      by_cases hij : i = j
      · subst hij; rw [List.getElem?_set_self hl, e]
      · rw [List.getElem?_set_ne hij]
    refine h b0 b G0 H0 (upd G p (.lst vs)) H σ D (w.know h1 h4) g1 ⟨by rw [s.len, List.length_set], fun j q t e1 e2 => ?_, fun j k p' xs' ys hjk e1 e2 e3 e4 => ?_⟩ B
    · by_cases hij : i = j
      · subst hij
        rw [List.getElem?_set_self (by rw [← s.len]; exact hl)] at e2
        rw [e] at e1
        cases e1; cases e2
        exact .d (.lst upd_same (RpL.mono hx _ _ h5))
      · rw [List.getElem?_set_ne hij] at e2
        have r2 := s.at_ j q t e1 e2
        cases r2 with
        | u => exact .u
        | d r => exact .d (Rp.mono hx _ _ r)
        | own k1 k2 k3 k4 k5 =>
          refine .own k1 ?_ k3 k4 (RpL.mono hx _ _ k5)
          rw [upd_ne (fun z => by subst z; exact s.apart i j _ _ _ hij e hi e2 e1)]
          exact k2
        | bx e => exact .bx e
        | exn e r => exact .exn (hx _ _ e) (Rp.mono hx _ _ r)
        | both r => exact .both (Rp.mono hx _ _ r)
        | scr r => exact .scr (r.mono hx)
    · by_cases hij : i = j
      · subst hij
        rw [List.getElem?_set_self (by rw [← s.len]; exact hl)] at e2
        cases e2
      · by_cases hik : i = k
        · subst hik
          rw [List.getElem?_set_self (by rw [← s.len]; exact hl)] at e3
          cases e3
        · rw [List.getElem?_set_ne hij] at e2
          rw [List.getElem?_set_ne hik] at e3
          exact s.apart j k p' xs' ys hjk e1 e2 e3 e4
/-- own.append(e) -/
theorem ws_append {K : PySem.W.Frag} {i : Nat} {xs : List PyData} (hi : δ[i]? = some (.own xs)) (h : WD W te δ φ (fun d φ1 => xs.length < 10000000 ∧ de.nx (δ.set i (.own (xs ++ [d]))) φ1) fun C f d φ => de.xx C f d δ φ) :
    WS W (tDrop (tBM K "list" rAppend (tVar i) (tCons te tNil))) δ φ de := fun b0 b G0 H0 G H σ D w g s B => by
  obtain ⟨o, e, r⟩ := s.get hi
  cases r with
  | @own p _ vs h1 h2 h3 h4 h5 =>
    refine ⟨_, e, .inl ⟨rfl, _, SqL.of h1⟩, h b H0 G H σ _ w s (fun v d φ' G' H' w' g' r' k => ?_) (exc g s B)⟩
    have h1' := g'.keep p _ h4 h1
    have h2' := g'.priv p h4 (by rw [h1]; simp) h2
    refine ⟨p, vs, v, rfl, rfl, h1', by rw [h5.len]; exact Nat.lt_trans k.1 (by decide), ?_⟩
    have hl : i < σ.length := (List.getElem?_eq_some_iff.mp e).1
    have hσ : σ.set i (some (.ref p)) = σ := by
      apply List.ext_getElem?
      intro j
      by_cases hij : i = j
      · subst hij; rw [List.getElem?_set_self hl, e]
      · rw [List.getElem?_set_ne hij]
    have w2 : Wd b G' (upd H' p (.lst (vs ++ [v]))) φ' := w'.put h2' h4
    have g2 : St b0 G0 H0 b G' (upd H' p (.lst (vs ++ [v]))) := ⟨⟨(g.step g').go.ex, fun a u hb q => by
      have hne : a ≠ p := fun z => by rw [z, h3] at q; cases q
      rw [upd_ne hne]
      exact (g.step g').go.keep a u hb q, (g.step g').go.priv⟩, g.sub, g.new⟩
    refine B.nx b (δ.set i (.own (xs ++ [d]))) φ' G' (upd H' p (.lst (vs ++ [v]))) σ w2 g2 ?_ k.2
    have s' := s.go g'
    refine ⟨by rw [s.len, List.length_set], fun j q t e1 e2 => ?_, fun j k p' xs' ys hjk e1 e2 e3 e4 => ?_⟩
    · by_cases hij : i = j
      · subst hij
        rw [List.getElem?_set_self (by rw [← s.len]; exact hl)] at e2
        rw [e] at e1
        cases e1; cases e2
        exact .own upd_same h2' h3 h4 (RpL.app (RpL.mono g'.ex _ _ h5) (.cons r' .nil))
      · rw [List.getElem?_set_ne hij] at e2
        have r2 := s'.at_ j q t e1 e2
        cases r2 with
        | u => exact .u
        | d r => exact .d r
        | own k1 k2 k3 k4 k5 =>
          refine .own ?_ k2 k3 k4 k5
          rw [upd_ne (fun z => by subst z; exact s.apart i j _ _ _ hij e hi e2 e1)]
          exact k1
        | bx e => exact .bx e
        | exn e r => exact .exn e r
        | both r => exact .both r
        | scr r => exact .scr r
    · by_cases hij : i = j
      · subst hij
        rw [List.getElem?_set_self (by rw [← s.len]; exact hl)] at e2
        cases e2
        rw [List.getElem?_set_ne hjk] at e3
        exact s.apart i k p' xs ys hjk e1 hi e3 e4
      · by_cases hik : i = k
        · subst hik
          rw [List.getElem?_set_ne hij] at e2
          exact s.apart j i p' xs' xs hjk e1 e2 hi e4
        · rw [List.getElem?_set_ne hij] at e2
          rw [List.getElem?_set_ne hik] at e3
          exact s.apart j k p' xs' ys hjk e1 e2 e3 e4
/-- raise C(e) -/
theorem ws_raise_given {C : Addr} {ta : TA} (h : WA W ta δ φ (fun as φ1 => ∃ x, as = [.d x] ∧ de.xx C "given" x δ φ1) fun C f d φ => de.xx C f d δ φ) : WS W (tRaise_given C W ta) δ φ de := fun b0 b G0 H0 G H σ D w g s B =>
  h b H0 G H σ _ w s (fun vs as φ1 G1 H1 w1 g1 r1 k1 => by
    obtain ⟨x, rfl, k⟩ := k1
    cases r1 with
    | cons r1 r2 =>
      cases r2
      cases r1 with
      | d r =>
        rename_i v
        refine ⟨_, rfl, fun dd hd => ?_⟩
        have w2 := w1.laid (o := .xd [(("given" : Str), v)]) hd
        have g2 := Go.laid (o := .xd [(("given" : Str), v)]) w1 hd
        exact B.xx b C "given" dd _ x δ φ1 _ _ σ w2 ((g.step g1).step g2) ((s.go g1).go g2) upd_same (Rp.mono g2.ex _ _ r) k) (exc g s B)
/-! ### targets -/
def WG (g : TG) (x : PyData) (δ : List SD) (φ : Nat) (K : List SD → Nat → Prop) : Prop :=
  ∀ (b : Bx) (H0 G H : Hp) (v : V) (σ : L2.St) (Q : L2.St → Hp → Prop), Wd b G H φ → Sl b H0 G H σ δ → Rp G v x →
    (∀ δ' φ' G' H' σ', Wd b G' H' φ' → Go b G H G' H' → Sl b H0 G' H' σ' δ' → K δ' φ' → Q σ' H') → g v σ H Q
def WGs (g : TGs) (xs : List PyData) (δ : List SD) (φ : Nat) (K : List SD → Nat → Prop) : Prop :=
  ∀ (b : Bx) (H0 G H : Hp) (vs : List V) (σ : L2.St) (Q : L2.St → Hp → Prop), Wd b G H φ → Sl b H0 G H σ δ → RpL G vs xs →
    (∀ δ' φ' G' H' σ', Wd b G' H' φ' → Go b G H G' H' → Sl b H0 G' H' σ' δ' → K δ' φ' → Q σ' H') → g vs σ H Q
theorem wg_name {i : Nat} {x : PyData} {K : List SD → Nat → Prop} (h : K (δ.set i (.d x)) φ) : WG (gName i) x δ φ K := fun b H0 G H v σ Q w s r q => q _ _ _ _ _ w (Go.refl _ _ _) (s.set (.d r) (fun _ z => nomatch z)) h
theorem wg_tup {K0 : PySem.W.Frag} {n : Nat} {t : TGs} {xs : List PyData} {K : List SD → Nat → Prop} (hn : xs.length = n) (h : WGs t xs δ φ K) : WG (gTup K0 n t) (.tuple xs) δ φ K := fun b H0 G H v σ Q w s r q => by
  cases r with
  | tup h1 h2 => exact ⟨_, _, rfl, SqT.of (w.ex _ _ h1), by rw [h2.len]; exact hn, h b H0 G H _ σ Q w s h2 q⟩
theorem wgs_nil {K : List SD → Nat → Prop} (h : K δ φ) : WGs gNil [] δ φ K := fun b H0 G H vs σ Q w s r q => by
  cases r
  exact ⟨rfl, q _ _ _ _ _ w (Go.refl _ _ _) s h⟩
theorem wgs_cons {i : Nat} {u : TGs} {x : PyData} {xs : List PyData} {K : List SD → Nat → Prop} (h : WGs u xs (δ.set i (.d x)) φ K) : WGs (gCons (gName i) u) (x :: xs) δ φ K := fun b H0 G H vs σ Q w s r q => by
  cases r with
  | cons h1 h2 => exact ⟨_, _, rfl, h b H0 G H _ _ Q w (s.set (.d h1) (fun _ z => nomatch z)) h2 q⟩
theorem ws_asgG {g : TG} (h : WD W te δ φ (fun d φ1 => WG g d δ φ1 de.nx) fun C f d φ => de.xx C f d δ φ) : WS W (tAsg te g) δ φ de := fun b0 b G0 H0 G H σ D w gg s B =>
  h b H0 G H σ _ w s (fun v d φ' G' H' w' g' r k => k b H0 G' H' v σ D.nx w' (s.go g') r fun δ2 φ2 G2 H2 σ2 w2 g2 s2 k2 => B.nx b δ2 φ2 G2 H2 σ2 w2 ((gg.step g').step g2) s2 k2) (exc gg s B)
/-- return of a new list -/
theorem ws_retF (h : WF W te δ φ de.rf fun C f d φ => de.xx C f d δ φ) : WS W (tRet te) δ φ de := fun b0 b G0 H0 G H σ D w g s B =>
  h b H0 G H σ _ w s (fun p vs ds φ' G' H' w' g' hp hp' gp r k => B.rf b p vs ds φ' G' H' w' (g.step g') (g.was w hp) hp' gp (w.ne hp) r k) (exc g s B)
/-- return of an own list -/
theorem ws_retOwn {i : Nat} {xs : List PyData} (hi : δ[i]? = some (.own xs)) (h : de.rf xs φ) : WS W (tRet (tVar i)) δ φ de := fun b0 b G0 H0 G H σ D w g s B => by
  obtain ⟨o, e, r⟩ := s.get hi
  cases r with
  | own h1 h2 h3 h4 h5 => exact ⟨_, e, B.rf b _ _ xs φ G H w g h3 h1 h2 h4 h5 h⟩
/-- x = f(..), f may hand back a new list -/
theorem ws_asgCall {P : PD} {i : Nat} {ta : TA} (h : WA W ta δ φ (fun as φ1 => P as φ1 (fun d φ2 => de.nx (δ.set i (.d d)) φ2) (fun ds φ2 => de.nx (δ.set i (.own ds)) φ2) X0) fun C f d φ => de.xx C f d δ φ) :
    WS W (tAsg (tCallG (SpD P) (fun _ => E0) ta) (gName i)) δ φ de := fun b0 b G0 H0 G H σ D w g s B =>
  h b H0 G H σ _ w s (fun vs as φ1 G1 H1 w1 g1 r1 k1 => ⟨b, G1, φ1, as, _, _, X0, w1, r1, k1,
    fun v d φ' G' H' w' g' r k => B.nx _ _ _ _ _ _ w' ((g.step g1).step g') (((s.go g1).go g').set (.d r) (fun _ z => nomatch z)) k,
    fun p ws ds φ' G' H' w' g' hp hp' gp rl k => B.nx _ _ _ _ _ _ w' ((g.step g1).step g') (((s.go g1).go g').setOwn (.own hp' gp ((g.step g1).was w1 hp) (w1.ne hp) rl) (fun j ys _ e => (s.go g1).newOwn hp j ys e)) k,
    fun C f dd v d φ' G' H' w' g' e1 r' k' => k'.elim⟩) (exc g s B)
/-- two names at once -/
theorem ws_par {i j : Nat} {ta tb : TE} (h : WD W ta δ φ (fun x φ1 => WD W tb δ φ1 (fun y φ2 => de.nx ((δ.set i (.d x)).set j (.d y)) φ2) fun C f d φ => de.xx C f d δ φ) fun C f d φ => de.xx C f d δ φ) :
    WS W (tPar i j (tCons ta (tCons tb tNil))) δ φ de := fun b0 b G0 H0 G H σ D w g s B =>
  h b H0 G H σ _ w s (fun v x φ1 G1 H1 w1 g1 r1 k1 => k1 b H0 G1 H1 σ _ w1 (s.go g1) (fun u y φ2 G2 H2 w2 g2 r2 k2 => ⟨v, u, rfl,
    B.nx _ _ _ _ _ _ w2 ((g.step g1).step g2) (((((s.go g1).go g2).set (.d (Rp.mono g2.ex _ _ r1)) (fun _ z => nomatch z))).set (.d r2) (fun _ z => nomatch z)) k2⟩) (exc (g.step g1) (s.go g1) B)) (exc g s B)
theorem ws_parF2 {i j : Nat} {ta tb : TE} (hij : i ≠ j) (h : WD W ta δ φ (fun x φ1 => WF W tb δ φ1 (fun y φ2 => de.nx ((δ.set i (.d x)).set j (.own y)) φ2) fun C f d φ => de.xx C f d δ φ) fun C f d φ => de.xx C f d δ φ) :
    WS W (tPar i j (tCons ta (tCons tb tNil))) δ φ de := fun b0 b G0 H0 G H σ D w g s B =>
  h b H0 G H σ _ w s (fun v x φ1 G1 H1 w1 g1 r1 k1 => k1 b H0 G1 H1 σ _ w1 (s.go g1) (fun p vs y φ2 G2 H2 w2 g2 hp hp' gp r2 k2 => ⟨v, .ref p, rfl, by
    have s2 := ((s.go g1).go g2).set (i := i) (.d (Rp.mono g2.ex _ _ r1)) (fun _ z => nomatch z)
    refine B.nx _ _ _ _ _ _ w2 ((g.step g1).step g2) (s2.setOwn (.own hp' gp ((g.step g1).was w1 hp) (w1.ne hp) r2) (fun k ys hk e => ?_)) k2
    by_cases hik : i = k
    · subst hik
      have hl : i < δ.length := by simpa using (List.getElem?_eq_some_iff.mp e).1
      rw [List.getElem?_set_self hl] at e
      cases e
    · rw [List.getElem?_set_ne hik] at e ⊢
      exact (s.go g1).newOwn hp k ys e⟩) (exc (g.step g1) (s.go g1) B)) (exc g s B)
theorem ws_parF1 {i j : Nat} {ta tb : TE} (hij : i ≠ j) (h : WF W ta δ φ (fun x φ1 => WD W tb δ φ1 (fun y φ2 => de.nx ((δ.set i (.own x)).set j (.d y)) φ2) fun C f d φ => de.xx C f d δ φ) fun C f d φ => de.xx C f d δ φ) :
    WS W (tPar i j (tCons ta (tCons tb tNil))) δ φ de := fun b0 b G0 H0 G H σ D w g s B =>
  h b H0 G H σ _ w s (fun p vs x φ1 G1 H1 w1 g1 hp hp' gp r1 k1 => k1 b H0 G1 H1 σ _ w1 (s.go g1) (fun u y φ2 G2 H2 w2 g2 r2 k2 => ⟨.ref p, u, rfl, by
    have hb := w.ne hp
    have s2 := ((s.go g1).go g2).setOwn (i := i) (.own (g2.keep p _ hb hp') (g2.priv p hb (by rw [hp']; simp) gp) (g.was w hp) hb (RpL.mono g2.ex _ _ r1)) (fun k ys hk e => s.newOwn hp k ys e)
    exact B.nx _ _ _ _ _ _ w2 ((g.step g1).step g2) (s2.set (.d r2) (fun _ z => nomatch z)) k2⟩) (exc (g.step g1) (s.go g1) B)) (exc g s B)
/-- three names at once; the last one a new list -/
theorem ws_par3F {i j l : Nat} {ta tb tc : TE} (hil : i ≠ l) (hjl : j ≠ l)
    (h : WD W ta δ φ (fun x φ1 => WD W tb δ φ1 (fun y φ2 => WF W tc δ φ2 (fun z φ3 => de.nx (((δ.set i (.d x)).set j (.d y)).set l (.own z)) φ3) fun C f d φ => de.xx C f d δ φ) fun C f d φ => de.xx C f d δ φ) fun C f d φ => de.xx C f d δ φ) :
    WS W (tPar3 i j l (tCons ta (tCons tb (tCons tc tNil)))) δ φ de := fun b0 b G0 H0 G H σ D w g s B =>
  h b H0 G H σ _ w s (fun v x φ1 G1 H1 w1 g1 r1 k1 => k1 b H0 G1 H1 σ _ w1 (s.go g1) (fun u y φ2 G2 H2 w2 g2 r2 k2 => k2 b H0 G2 H2 σ _ w2 ((s.go g1).go g2) (fun p vs z φ3 G3 H3 w3 g3 hp hp' gp r3 k3 => ⟨v, u, .ref p, rfl, by
    have s3 := ((((s.go g1).go g2).go g3).set (i := i) (.d (Rp.mono (g2.ex.trans g3.ex) _ _ r1)) (fun _ z => nomatch z)).set (i := j) (.d (Rp.mono g3.ex _ _ r2)) (fun _ z => nomatch z)
    refine B.nx _ _ _ _ _ _ w3 (((g.step g1).step g2).step g3) (s3.setOwn (.own hp' gp (((g.step g1).step g2).was w2 hp) (w2.ne hp) r3) (fun k ys hk e => ?_)) k3
    have no : ∀ (k' : Nat) (ys : List PyData), δ[k']? = some (SD.own ys) → σ[k']? ≠ some (some (V.ref p)) := fun k' ys e => ((s.go g1).go g2).newOwn hp k' ys e
    by_cases hjk : j = k
    · subst hjk
      have hl : j < (δ.set i (SD.d x)).length := by simpa using (List.getElem?_eq_some_iff.mp e).1
      rw [List.getElem?_set_self hl] at e
      cases e
    · rw [List.getElem?_set_ne hjk] at e ⊢
      by_cases hik : i = k
      · subst hik
        have hl : i < δ.length := by simpa using (List.getElem?_eq_some_iff.mp e).1
        rw [List.getElem?_set_self hl] at e
        cases e
      · rw [List.getElem?_set_ne hik] at e ⊢
        exact no k ys e⟩)
    (exc ((g.step g1).step g2) ((s.go g1).go g2) B)) (exc (g.step g1) (s.go g1) B)) (exc g s B)
end
end Eg

/-! EgOps -/
set_option Elab.async false
set_option linter.all false
set_option maxRecDepth 100000
set_option maxHeartbeats 2000000
namespace L2
open PySem PySem.Spec PyProof.Rows
/-- + of ints, lists, tuples, texts -/
def rAddI : R2 := rI0 fun i j => .int (i + j)
def rAddS : R2 := fun x y H Q => ∃ i j, x = .str i ∧ y = .str j ∧ i.length + j.length ≤ sizeLine ∧ Q (.str (i ++ j)) H
def rPlus (K : PySem.W.Frag) : R2 := fun x y H Q => rAddI x y H Q ∨ (rCat x y H Q ∨ (rCatA K x y H Q ∨ rAddS x y H Q))
theorem op_plus {X : Cx} : OpR X (binaryOp .Add) (rPlus X.K) := op_add.or (op_cat.or (op_catA.or op_add_str))
/-- * of ints, of a list and an int -/
def rMulI : R2 := rI CMul fun i j => .int (i * j)
def rTimes (K : PySem.W.Frag) : R2 := fun x y H Q => rMulI x y H Q ∨ rRep x y H Q
theorem op_times {X : Cx} : OpR X (binaryOp .Mult) (rTimes X.K) := op_mul.or op_rep
def rEqU (K : PySem.W.Frag) : R2 := fun x y H Q => rEq x y H Q ∨ rEqD K x y H Q
theorem op_eqU {X : Cx} (hu : X.A.units + 64 < cLine) : OpR X (compareOp .Eq) (rEqU X.K) := op_eq.or (op_eqD hu)
def rNeU (K : PySem.W.Frag) : R2 := fun x y H Q => rNe x y H Q ∨ rNeD K x y H Q
theorem op_neU {X : Cx} (hu : X.A.units + 64 < cLine) : OpR X (compareOp .NotEq) (rNeU X.K) := op_ne.or (op_neD hu)
def rSlU (K : PySem.W.Frag) : V → Option Int → Option Int → Hp → VK → Prop := fun x lo hi H Q => rSlL K x lo hi H Q ∨ (rSlA K x lo hi H Q ∨ rSlS x lo hi H Q)
theorem sl_any {X : Cx} : SlR X (rSlU X.K) := sl_list.or (sl_tupA.or sl_str)
/-- a loop over a list or a tuple -/
def iSeq (K : PySem.W.Frag) (tl : TE) : TI := fun σ H R => tl σ H fun x H1 => ∃ a, x = .ref a ∧ (((∃ xs, SqL K H1 a xs) ∧ R (Itl K a) H1) ∨ ((∃ xs, SqT K H1 a xs) ∧ R (Itt K a) H1))
theorem pi_seq {X : Cx} {tg l : Expr} {tl : TE} (hl : PE X l tl) : PI X tg l (iSeq X.K tl) := by
  refine ⟨fun pins s σ H R I h => ?_⟩
  refine thn (hl.run pins s σ H _ I h) fun v s1 ⟨x, H1, I1, r1, q1⟩ => ?_
  obtain ⟨a, rfl, q⟩ := q1
  cases r1
  have fp : ∀ b ∈ [s1.heap.objs.size], FpOk X pins H1 b := fun b hb => by
    have e : b = s1.heap.objs.size := by simpa using hb
    subst e
    exact I1.fpOk (Nat.le_refl _) (I1.hok.fresh (Nat.le_refl _))
  rcases q with ⟨⟨xs, hq⟩, q⟩ | ⟨⟨xs, hq⟩, q⟩
  · obtain ⟨its, rv, p, hz⟩ := I1.list hq
    exact wpAny_pyIter_list p.isList ⟨s1.heap.objs.size, [s1.heap.objs.size], _, _, H1, rfl, I1.kept (t' := s1.toks) fun b o e => Heap.get?_push_of_some _ e, turn_list a _, ⟨_, Heap.get?_push_size _ rfl, rfl, rfl⟩, fp, q⟩
  · obtain ⟨its, rv, p, hz⟩ := I1.tuple hq
    exact wpAny_pyIter_tuple (show s1.heap.IsTuple a its.toArray from p) ⟨s1.heap.objs.size, [s1.heap.objs.size], _, _, H1, rfl, I1.kept (t' := s1.toks) fun b o e => Heap.get?_push_of_some _ e, turn_tuple a _, ⟨_, Heap.get?_push_size _ rfl, rfl, rfl⟩, fp, q⟩
end L2
namespace Eg
open PySem L2
section
variable {W : WX} {δ : List SD} {φ : Nat} {K : PyData → Nat → Prop} {XK : XC} {te ta tb tc : TE} {t u : TT} {KF : PySem.W.Frag}
/-- an operation that leaves the heap alone -/
theorem rd_pure {r : R2} {x y z : PyData} (h : ∀ (b : Bx) (G H : Hp) (v w : V) (Q : VK), Wd b G H φ → Rp G v x → Rp G w y → (∀ zv, Rp G zv z → Q zv H) → r v w H Q) (k : K z φ) : RD r x y φ K :=
  fun b G H v w Q wd rx ry q => h b G H v w Q wd rx ry fun zv rz => q zv z φ G H wd (Go.refl _ _ _) rz k
theorem rd_plus_int {i j : Int} (k : K (.int (i + j)) φ) : RD (rPlus KF) (.int i) (.int j) φ K := rd_pure (fun b G H v w Q wd rx ry q => by
  cases rx; cases ry; exact .inl ⟨i, j, rfl, rfl, q _ (.int _)⟩) k
theorem rd_plus_str {i j : Str} (hl : i.length + j.length ≤ 10000000) (k : K (.str (i ++ j)) φ) : RD (rPlus KF) (.str i) (.str j) φ K := rd_pure (fun b G H v w Q wd rx ry q => by
  cases rx; cases ry; exact .inr (.inr (.inr ⟨i, j, rfl, rfl, Nat.le_trans hl (by decide), q _ (.str _)⟩))) k
theorem rd_plus_list {xs ys : List PyData} (hl : xs.length + ys.length ≤ 10000000) (k : K (.list (xs ++ ys)) φ) : RD (rPlus KF) (.list xs) (.list ys) φ K := fun b G H v w Q wd rx ry q => by
  cases rx with
  | lst a1 a2 =>
    cases ry with
    | lst b1 b2 =>
      refine .inr (.inl ⟨_, _, _, _, rfl, rfl, wd.ex _ _ a1, wd.ex _ _ b1, by rw [a2.len, b2.len]; exact Nat.le_trans hl (by decide), fun p hp => ?_⟩)
      exact q _ _ φ _ _ (wd.laid hp) (Go.laid wd hp) (.lst upd_same (RpL.mono (Ex.new (wd.gn hp)) _ _ (RpL.app a2 b2))) k
theorem rd_plus_tup {xs ys : List PyData} (hl : xs.length + ys.length ≤ 10000000) (k : K (.tuple (xs ++ ys)) φ) : RD (rPlus KF) (.tuple xs) (.tuple ys) φ K := fun b G H v w Q wd rx ry q => by
  cases rx with
  | tup a1 a2 =>
    cases ry with
    | tup b1 b2 =>
      refine .inr (.inr (.inl ⟨_, _, _, _, rfl, rfl, SqT.of (wd.ex _ _ a1), SqT.of (wd.ex _ _ b1), by rw [a2.len, b2.len]; exact Nat.le_trans hl (by decide), fun e => ?_, fun e e' => ?_, fun e e' p hp => ?_⟩))
      · have z := a2.len
        rw [e] at z
        have z2 : xs = [] := List.eq_nil_of_length_eq_zero z.symm
        subst z2
        exact q _ _ φ _ _ wd (Go.refl _ _ _) (.tup b1 b2) k
      · have z := b2.len
        rw [e'] at z
        have z2 : ys = [] := List.eq_nil_of_length_eq_zero z.symm
        subst z2
        rw [List.append_nil] at k
        exact q _ _ φ _ _ wd (Go.refl _ _ _) (.tup a1 a2) k
      · exact q _ _ φ _ _ (wd.laid hp) (Go.laid wd hp) (.tup upd_same (RpL.mono (Ex.new (wd.gn hp)) _ _ (RpL.app a2 b2))) k
theorem rd_sub {i j : Int} (k : K (.int (i - j)) φ) : RD (rI0 fun i j => .int (i - j)) (.int i) (.int j) φ K := rd_pure (fun b G H v w Q wd rx ry q => by
  cases rx; cases ry; exact ⟨i, j, rfl, rfl, q _ (.int _)⟩) k
theorem rd_mul {i j : Int} (h : (-(2 ^ 64) < i ∧ i < 2 ^ 64) ∨ (-(2 ^ 64) < j ∧ j < 2 ^ 64)) (k : K (.int (i * j)) φ) : RD (rTimes KF) (.int i) (.int j) φ K := rd_pure (fun b G H v w Q wd rx ry q => by
  cases rx; cases ry; exact .inl ⟨i, j, rfl, rfl, h, q _ (.int _)⟩) k
theorem rd_rep {xs : List PyData} {n : Nat} (h : xs.length * n ≤ 10000000) (hn : n ≤ 1000000) (k : K (.list (List.replicate n xs).flatten) φ) : RD (rTimes KF) (.list xs) (.int n) φ K := fun b G H v w Q wd rx ry q => by
  cases rx with
  | lst a1 a2 =>
    cases ry
    have fl : ∀ m : Nat, RpL G (List.replicate m _).flatten (List.replicate m xs).flatten := fun m => by
      induction m with
      | zero => exact .nil
      | succ m ih =>
        rw [List.replicate_succ, List.replicate_succ, List.flatten_cons, List.flatten_cons]
        exact RpL.app a2 ih
    refine .inr ⟨_, _, _, rfl, rfl, wd.ex _ _ a1, by omega, by omega, by rw [a2.len, Int.toNat_natCast]; exact Nat.le_trans h (by decide), fun p hp => ?_⟩
    rw [Int.toNat_natCast]
    exact q _ _ φ _ _ (wd.laid hp) (Go.laid wd hp) (.lst upd_same (RpL.mono (Ex.new (wd.gn hp)) _ _ (fl n))) k
theorem rd_mod {i j : Int} (h : 0 < j) (k : K (.int (i % j)) φ) : RD (rI (fun _ j => 0 < j) fun i j => .int (i % j)) (.int i) (.int j) φ K := rd_pure (fun b G H v w Q wd rx ry q => by
  cases rx; cases ry; exact ⟨i, j, rfl, rfl, h, q _ (.int _)⟩) k
theorem rd_fdiv {i j : Int} (h : 0 < j ∧ j < 1073741824) (k : K (.int (i / j)) φ) : RD (rI CDiv fun i j => .int (i / j)) (.int i) (.int j) φ K := rd_pure (fun b G H v w Q wd rx ry q => by
  cases rx; cases ry; exact ⟨i, j, rfl, rfl, h, q _ (.int _)⟩) k
theorem rd_pow {i : Int} {j : Nat} (h : j ≤ 1000000 ∧ i.natAbs < 2 ^ 64) (k : K (.int (i ^ j)) φ) : RD (rI CPow fun i j => .int (i ^ j.toNat)) (.int i) (.int j) φ K := rd_pure (fun b G H v w Q wd rx ry q => by
  cases rx; cases ry; exact ⟨i, j, rfl, rfl, ⟨by omega, by omega, h.2⟩, q _ (.int _)⟩) k
theorem rd_cmp {p : Int → Int → Bool} {i j : Int} (k : K (.bool (p i j)) φ) : RD (rI0 fun i j => .bl (p i j)) (.int i) (.int j) φ K := rd_pure (fun b G H v w Q wd rx ry q => by
  cases rx; cases ry; exact ⟨i, j, rfl, rfl, q _ (.bl _)⟩) k
theorem rd_eq_int {i j : Int} (k : K (.bool (decide (i = j))) φ) : RD (rEqU KF) (.int i) (.int j) φ K := rd_pure (fun b G H v w Q wd rx ry q => by
  cases rx; cases ry
  refine .inl ⟨rfl, q _ ?_⟩
  have e : decide (V.int i = V.int j) = decide (i = j) := by
    by_cases h : i = j
    · subst h; simp
    · rw [decide_eq_false h, decide_eq_false (fun z => h (V.int.inj z))]
  rw [e]
  exact .bl _) k
theorem rd_ne_int {i j : Int} (k : K (.bool (!decide (i = j))) φ) : RD (rNeU KF) (.int i) (.int j) φ K := rd_pure (fun b G H v w Q wd rx ry q => by
  cases rx; cases ry
  refine .inl ⟨rfl, q _ ?_⟩
  have e : decide (V.int i = V.int j) = decide (i = j) := by
    by_cases h : i = j
    · subst h; simp
    · rw [decide_eq_false h, decide_eq_false (fun z => h (V.int.inj z))]
  rw [e]
  exact .bl _) k
theorem rd_eq_str {i j : Str} (k : K (.bool (decide (i = j))) φ) : RD (rEqU KF) (.str i) (.str j) φ K := rd_pure (fun b G H v w Q wd rx ry q => by
  cases rx; cases ry
  refine .inl ⟨rfl, q _ ?_⟩
  have e : decide (V.str i = V.str j) = decide (i = j) := by
    by_cases h : i = j
    · subst h; simp
    · rw [decide_eq_false h, decide_eq_false (fun z => h (V.str.inj z))]
  rw [e]
  exact .bl _) k
theorem rd_ne_str {i j : Str} (k : K (.bool (!decide (i = j))) φ) : RD (rNeU KF) (.str i) (.str j) φ K := rd_pure (fun b G H v w Q wd rx ry q => by
  cases rx; cases ry
  refine .inl ⟨rfl, q _ ?_⟩
  have e : decide (V.str i = V.str j) = decide (i = j) := by
    by_cases h : i = j
    · subst h; simp
    · rw [decide_eq_false h, decide_eq_false (fun z => h (V.str.inj z))]
  rw [e]
  exact .bl _) k
theorem rd_eqD {x y : PyData} (hx : x.hasDict = false) (hy : y.hasDict = false) (sx : SeqAt.shaped x = true) (sy : SeqAt.shaped y = true) (k : K (.bool (PyData.eqv x y)) φ) : RD (rEqU KF) x y φ K := rd_pure (fun b G H v w Q wd rx ry q =>
  .inr ⟨x, y, (Rp.mono wd.ex _ _ rx).dp x v hx, (Rp.mono wd.ex _ _ ry).dp y w hy, sx, sy, q _ (.bl _)⟩) k
theorem rd_neD {x y : PyData} (hx : x.hasDict = false) (hy : y.hasDict = false) (sx : SeqAt.shaped x = true) (sy : SeqAt.shaped y = true) (k : K (.bool (!PyData.eqv x y)) φ) : RD (rNeU KF) x y φ K := rd_pure (fun b G H v w Q wd rx ry q =>
  .inr ⟨x, y, (Rp.mono wd.ex _ _ rx).dp x v hx, (Rp.mono wd.ex _ _ ry).dp y w hy, sx, sy, q _ (.bl _)⟩) k
def isNone : PyData → Bool
  | .none => true
  | _ => false
theorem Rp.isNone {G : Hp} {v : V} {d : PyData} (h : Rp G v d) : decide (v = .non) = isNone d := by
  cases h <;> first | rfl | (exact decide_eq_false (fun z => nomatch z))
theorem rd_isN {x : PyData} (k : K (.bool (isNone x)) φ) : RD (fun x y H Q => y = .non ∧ Q (.bl (decide (x = .non))) H) x .none φ K := rd_pure (fun b G H v w Q wd rx ry q => by
  cases ry
  refine ⟨rfl, q _ ?_⟩
  rw [rx.isNone]
  exact .bl _) k
theorem rd_notN {x : PyData} (k : K (.bool (!isNone x)) φ) : RD (fun x y H Q => y = .non ∧ Q (.bl (!decide (x = .non))) H) x .none φ K := rd_pure (fun b G H v w Q wd rx ry q => by
  cases ry
  refine ⟨rfl, q _ ?_⟩
  rw [rx.isNone]
  exact .bl _) k
theorem atI_rp {G : Hp} {vs : List V} {ds : List PyData} {i : Int} {d : PyData} (h : RpL G vs ds) (e : atI ds i = some d) : ∃ v, atI vs i = some v ∧ Rp G v d := by
  unfold atI at e ⊢
  rw [h.len]
  cases z : ixN ds.length i with
  | none => rw [z] at e; cases e
  | some j =>
    rw [z] at e
    exact h.get e
theorem rd_ix_list {ds : List PyData} {i : Int} {d : PyData} (e : atI ds i = some d) (k : K d φ) : RD (rIx KF) (.list ds) (.int i) φ K := rd_pure (fun b G H v w Q wd rx ry q => by
  cases ry
  cases rx with
  | lst a1 a2 =>
    obtain ⟨v, e1, r⟩ := atI_rp a2 e
    exact .inl ⟨_, _, i, v, rfl, rfl, SqL.of (wd.ex _ _ a1), e1, q _ r⟩) k
theorem rd_ix_tup {ds : List PyData} {i : Int} {d : PyData} (e : atI ds i = some d) (k : K d φ) : RD (rIx KF) (.tuple ds) (.int i) φ K := rd_pure (fun b G H v w Q wd rx ry q => by
  cases ry
  cases rx with
  | tup a1 a2 =>
    obtain ⟨v, e1, r⟩ := atI_rp a2 e
    exact .inr (.inl ⟨_, _, i, v, rfl, rfl, SqT.of (wd.ex _ _ a1), e1, q _ r⟩)) k
theorem ru_neg {i : Int} (k : K (.int (-i)) φ) : RU (rU fun i => .int (-i)) (.int i) φ K := fun b G H v Q wd rx q => by
  cases rx
  exact ⟨i, rfl, q _ _ _ _ _ wd (Go.refl _ _ _) (.int _) k⟩
/-! slices -/
def WO (W : WX) (to : TO) (δ : List SD) (φ : Nat) (K : Option Int → Nat → Prop) (XK : XC) : Prop :=
  ∀ (b : Bx) (H0 G H : Hp) (σ : L2.St) (Q : Option Int → Hp → Prop), Wd b G H φ → Sl b H0 G H σ δ →
    (∀ c φ' G' H', Wd b G' H' φ' → Go b G H G' H' → K c φ' → Q c H') →
    (∀ C fld dd v d φ' G' H', Wd b G' H' φ' → Go b G H G' H' → G' dd = some (.xd [(fld, v)]) → Rp G' v d → XK C fld d φ' → W (.ref C) (some dd) σ H') → to σ H Q
theorem wo_none {K : Option Int → Nat → Prop} (h : K none φ) : WO W tNoPart δ φ K XK := fun b H0 G H σ Q w s q e => q _ _ _ _ w (Go.refl _ _ _) h
theorem wo_some {K : Option Int → Nat → Prop} (h : WD W te δ φ (fun d φ1 => ∃ i, d = .int i ∧ K (some i) φ1) XK) : WO W (tPart te) δ φ K XK := fun b H0 G H σ Q w s q e =>
  h b H0 G H σ _ w s (fun v d φ1 G1 H1 w1 g1 r1 k1 => by
    obtain ⟨i, rfl, k⟩ := k1
    cases r1
    exact ⟨i, rfl, q _ _ _ _ w1 g1 k⟩) e
def cutD (xs : List PyData) (lo hi : Option Int) : List PyData := (xs.drop (HT.sIx xs.length 0 lo)).take (HT.sIx xs.length xs.length hi - HT.sIx xs.length 0 lo)
theorem RpL.cut {G : Hp} {vs : List V} {ds : List PyData} (lo hi : Option Int) (h : RpL G vs ds) : RpL G (cutV vs lo hi) (cutD ds lo hi) := by
  unfold cutV cutD
  rw [h.len]
  exact (h.drop _).take _
/-- what a slice of data is -/
def sliced (x : PyData) (lo hi : Option Int) : Option PyData := match x with
  | .list xs => some (.list (cutD xs lo hi))
  | .tuple xs => some (.tuple (cutD xs lo hi))
  | _ => none
theorem cutD_whole {xs : List PyData} {lo hi : Option Int} (h : HT.sIx xs.length 0 lo = 0 ∧ HT.sIx xs.length xs.length hi = xs.length) : cutD xs lo hi = xs := by
  unfold cutD
  rw [h.1, h.2]
  simp
theorem wd_slice {tl th : TO} (h : WD W te δ φ (fun x φ1 => WO W tl δ φ1 (fun lo φ2 => WO W th δ φ2 (fun hi φ3 => ∃ y, sliced x lo hi = some y ∧ K y φ3) XK) XK) XK) : WD W (tSl (rSlU KF) te tl th) δ φ K XK := fun b H0 G H σ Q w s q e =>
  h b H0 G H σ _ w s (fun v d φ1 G1 H1 w1 g1 r1 k1 => k1 b H0 G1 H1 σ _ w1 (s.go g1) (fun lo φ2 G2 H2 w2 g2 k2 => k2 b H0 G2 H2 σ _ w2 ((s.go g1).go g2) (fun hi φ3 G3 H3 w3 g3 k3 => by
    obtain ⟨y, e1, k⟩ := k3
    have r3 := Rp.mono (g2.ex.trans g3.ex) _ _ r1
    have gg := (g1.trans g2).trans g3
    cases r3 with
    | @lst a xs ds a1 a2 =>
      cases (show some (PyData.list (cutD ds lo hi)) = some y from e1)
      refine .inl ⟨_, _, rfl, SqL.of (w3.ex _ _ a1), fun p hp => ?_⟩
      exact q _ _ _ _ _ (w3.laid hp) (gg.trans (Go.laid w3 hp)) (.lst upd_same (RpL.mono (Ex.new (w3.gn hp)) _ _ (RpL.cut lo hi a2))) k
    | @tup a xs ds a1 a2 =>
      cases (show some (PyData.tuple (cutD ds lo hi)) = some y from e1)
      refine .inr (.inl ⟨_, _, rfl, SqT.of (w3.ex _ _ a1), fun hw => ?_, fun hw p hp => ?_⟩)
      · rw [a2.len] at hw
        rw [cutD_whole hw] at k
        exact q _ _ _ _ _ w3 gg (.tup a1 a2) k
      · exact q _ _ _ _ _ (w3.laid hp) (gg.trans (Go.laid w3 hp)) (.tup upd_same (RpL.mono (Ex.new (w3.gn hp)) _ _ (RpL.cut lo hi a2))) k
    | _ => exact nomatch e1)
    fun C f dd v d φ' G' H' w' g' e1 r' k' => e C f dd v d φ' G' H' w' ((g1.trans g2).trans g') e1 r' k')
    fun C f dd v d φ' G' H' w' g' e1 r' k' => e C f dd v d φ' G' H' w' (g1.trans g') e1 r' k') e
end
end Eg

/-! EgLoop -/
set_option Elab.async false
set_option linter.all false
set_option maxRecDepth 100000
set_option maxHeartbeats 2000000
namespace Eg
open PySem L2
/-- the items of a list or a tuple -/
def itemsOf : PyData → Option (List PyData)
  | .list xs => some xs
  | .tuple xs => some xs
  | _ => none
section
variable {W : WX} {δ : List SD} {φ : Nat} {de : DE} {tl : TE} {tb : TS} {g : TG} {KF : PySem.W.Frag}
theorem back_to {b0 b b1 : Bx} {G0 H0 G1 H1 G H : Hp} (g1 : St b0 G0 H0 b1 G1 H1) (g2 : St b0 G1 H0 b G H) : St b0 G0 H0 b G H :=
  ⟨⟨g1.go.ex.trans g2.go.ex, g2.go.keep, fun a hb ha hn => g2.go.priv a hb ha (g1.go.priv a hb ha hn)⟩, g2.sub, g2.new⟩
theorem start_at {b0 b1 : Bx} {G0 H0 G1 H1 : Hp} (g1 : St b0 G0 H0 b1 G1 H1) : St b0 G1 H0 b1 G1 H1 := ⟨⟨Ex.refl _, g1.go.keep, fun _ _ _ h => h⟩, g1.sub, g1.new⟩
theorem Behind.from {b0 b1 : Bx} {G0 H0 G1 H1 : Hp} {D : Ends} {de de' : DE} {N : L2.St → Hp → Prop} (g1 : St b0 G0 H0 b1 G1 H1) (B : Behind W b0 G0 H0 D de)
    (hN : ∀ b δ φ G H σ, Wd b G H φ → St b0 G1 H0 b G H → Sl b H0 G H σ δ → de'.nx δ φ → N σ H) (hC : ∀ b δ φ G H σ, Wd b G H φ → St b0 G1 H0 b G H → Sl b H0 G H σ δ → de'.ct δ φ → N σ H) (hb : de'.bk = de.nx) (hr : de'.rt = de.rt) (hf : de'.rf = de.rf) (hx : de'.xx = de.xx) :
    Behind W b0 G1 H0 { D with nx := N, ct := N, bk := D.nx } de' :=
  ⟨hN, fun b δ φ G H σ w g s k => B.nx b δ φ G H σ w (back_to g1 g) s (by rw [← hb]; exact k), hC, fun b v d φ G H w g r k => B.rt b v d φ G H w (back_to g1 g) r (by rw [← hr]; exact k),
    fun b p vs ds φ G H w g h0 h1 h2 h3 r k => B.rf b p vs ds φ G H w (back_to g1 g) h0 h1 h2 h3 r (by rw [← hf]; exact k),
    fun b C f dd v d δ φ G H σ w g s e r k => B.xx b C f dd v d δ φ G H σ w (back_to g1 g) s e r (by rw [← hx]; exact k)⟩
/-- for .. in a list or a tuple, by a word over the turn, the slots and the draws left -/
theorem ws_for (h : WD W tl δ φ (fun d φ1 => ∃ ds, itemsOf d = some ds ∧ ∃ I : Nat → List SD → Nat → Prop, I 0 δ φ1 ∧
      (∀ i x δ' φ', ds[i]? = some x → I i δ' φ' → WG g x δ' φ' (fun δ2 φ2 => WS W tb δ2 φ2 { de with nx := I (i + 1), ct := I (i + 1), bk := de.nx })) ∧ (∀ δ' φ', I ds.length δ' φ' → de.nx δ' φ')) fun C f d φ => de.xx C f d δ φ) :
    WS W (tFor (iSeq KF tl) g tb) δ φ de := fun b0 b G0 H0 G H σ D w gg s B =>
  h b H0 G H σ _ w s (fun v d φ1 G1 H1 w1 g1 r1 k1 => by
    obtain ⟨ds, he, I, h0, hs, hd⟩ := k1
    have gA : St b0 G0 H0 b G1 H1 := gg.step g1
    let Pv : Nat → L2.St → Hp → Prop := fun i σ' H' => ∃ b' G' φ' δ', Wd b' G' H' φ' ∧ St b0 G1 H0 b' G' H' ∧ Sl b' H0 G' H' σ' δ' ∧ I i δ' φ'
    have P0 : Pv 0 σ H1 := ⟨b, G1, φ1, δ, w1, start_at gA, s.go g1, h0⟩
    have turn : ∀ (xs : List V), RpL G1 xs ds → ∀ i x σ' H', xs[i]? = some x → Pv i σ' H' → g x σ' H' fun σ2 H2 => tb { D with nx := Pv (i + 1), ct := Pv (i + 1), bk := D.nx } σ2 H2 := by
      intro xs hx i x σ' H' hi ⟨b', G', φ', δ', w', g', s', k'⟩
      obtain ⟨y, hy, ry⟩ := hx.getV hi
      refine hs i y δ' φ' hy k' b' H0 G' H' x σ' _ w' s' (Rp.mono g'.go.ex _ _ ry) fun δ2 φ2 G2 H2 σ2 w2 g2 s2 k2 => ?_
      exact k2 b0 b' G1 H0 G2 H2 σ2 _ w2 (g'.step g2) s2 (B.from (de' := { de with nx := I (i + 1), ct := I (i + 1), bk := de.nx }) gA (fun b δ φ G H σ w g s k => ⟨b, G, φ, δ, w, g, s, k⟩) (fun b δ φ G H σ w g s k => ⟨b, G, φ, δ, w, g, s, k⟩) rfl rfl rfl rfl)
    have fin : ∀ n, n = ds.length → ∀ σ' H', Pv n σ' H' → D.nx σ' H' := by
      rintro n rfl σ' H' ⟨b', G', φ', δ', w', g', s', k'⟩
      exact B.nx _ _ _ _ _ _ w' (back_to gA g') s' (hd _ _ k')
    cases r1 with
    | @lst a xs ds' a1 a2 =>
      cases (show some ds' = some ds from he)
      refine ⟨a, rfl, .inl ⟨⟨xs, SqL.of (w1.ex _ _ a1)⟩, for_list Pv P0 (fun i σ' H' _ ⟨_, G', _, _, w', g', _, _⟩ => SqL.of (w'.ex _ _ (g'.go.ex _ _ a1))) (turn xs a2) (fin _ a2.len)⟩⟩
    | @tup a xs ds' a1 a2 =>
      cases (show some ds' = some ds from he)
      refine ⟨a, rfl, .inr ⟨⟨xs, SqT.of (w1.ex _ _ a1)⟩, for_tup Pv P0 (fun i σ' H' _ ⟨_, G', _, _, w', g', _, _⟩ => SqT.of (w'.ex _ _ (g'.go.ex _ _ a1))) (turn xs a2) (fin _ a2.len)⟩⟩
    | _ => exact nomatch he) (exc gg s B)
/-- for .. in range(n) -/
theorem ws_forR {ta : TA} {j : Nat} (h : WA W ta δ φ (fun as φ1 => ∃ n : Int, as = [.d (.int n)] ∧ n < 2 ^ 62 ∧ -(2 ^ 62) ≤ n ∧ ∃ I : Nat → List SD → Nat → Prop, I 0 δ φ1 ∧
      (∀ (i : Nat) δ' φ', (i : Int) < n → I i δ' φ' → WS W tb (δ'.set j (.d (.int (i : Int)))) φ' { de with nx := I (i + 1), ct := I (i + 1), bk := de.nx }) ∧ (∀ δ' φ', I n.toNat δ' φ' → de.nx δ' φ')) fun C f d φ => de.xx C f d δ φ) :
    WS W (tFor (iRng1 ta) (gName j) tb) δ φ de := fun b0 b G0 H0 G H σ D w gg s B =>
  h b H0 G H σ _ w s (fun vs as φ1 G1 H1 w1 g1 r1 k1 => by
    obtain ⟨n, rfl, n1, n2, I, h0, hs, hd⟩ := k1
    have gA : St b0 G0 H0 b G1 H1 := gg.step g1
    cases r1 with
    | cons r1 r2 =>
      cases r2
      cases r1 with
      | d r =>
        cases r
        refine ⟨n, rfl, n2, n1, for_range (lo := 0) (n := n.toNat) (fun i σ' H' => ∃ b' G' φ' δ', Wd b' G' H' φ' ∧ St b0 G1 H0 b' G' H' ∧ Sl b' H0 G' H' σ' δ' ∧ I i δ' φ') ⟨b, G1, φ1, δ, w1, start_at gA, s.go g1, h0⟩ ?_ ?_⟩
        · rintro i σ' H' hi ⟨b', G', φ', δ', w', g', s', k'⟩
          have e0 : (0 : Int) + (i : Int) = (i : Int) := Int.zero_add _
          show tb _ (σ'.set j (some (.int ((0 : Int) + (i : Int))))) H'
          rw [e0]
          exact hs i δ' φ' (by omega) k' b0 b' G1 H0 G' H' _ _ w' g' (s'.set (.d (.int _)) (fun _ z => nomatch z)) (B.from (de' := { de with nx := I (i + 1), ct := I (i + 1), bk := de.nx }) gA (fun b δ φ G H σ w g s k => ⟨b, G, φ, δ, w, g, s, k⟩) (fun b δ φ G H σ w g s k => ⟨b, G, φ, δ, w, g, s, k⟩) rfl rfl rfl rfl)
        · rintro σ' H' ⟨b', G', φ', δ', w', g', s', k'⟩
          exact B.nx _ _ _ _ _ _ w' (back_to gA g') s' (hd _ _ k')) (exc gg s B)
end
/-! ## comprehensions -/
def wipeD (δ : List SD) : List Nat → List SD
  | [] => δ
  | v :: vs => (wipeD δ vs).set v .u
theorem Sl.wipe {b : Bx} {H0 G H : Hp} {σ : L2.St} {δ : List SD} (s : Sl b H0 G H σ δ) : ∀ vs : List Nat, Sl b H0 G H (L2.wipe σ vs) (wipeD δ vs)
  | [] => s
  | v :: vs => (Sl.wipe s vs).set .u (fun _ z => nomatch z)
theorem wipe1 (σ : L2.St) (i : Nat) (o : Option V) : L2.wipe ((L2.wipe σ [i]).set i o) [i] = L2.wipe σ [i] := by
  show ((σ.set i none).set i o).set i none = σ.set i none
  rw [List.set_set, List.set_set]
theorem wipe2 (σ : L2.St) (i j : Nat) (hij : i ≠ j) (o p : Option V) : L2.wipe (((L2.wipe σ [i, j]).set i o).set j p) [i, j] = L2.wipe σ [i, j] := by
  show (((((σ.set j none).set i none).set i o).set j p).set j none).set i none = (σ.set j none).set i none
  apply List.ext_getElem?
  intro k
  by_cases h1 : i = k
  · subst h1
    simp only [List.getElem?_set, List.length_set]
    simp
  · by_cases h2 : j = k
    · subst h2
      simp only [List.getElem?_set, List.length_set]
      simp [h1]
    · simp only [List.getElem?_set, List.length_set]
      simp [h1, h2]
/-- the comprehension's own names are bound -/
def CG (g : TG) (vs : List Nat) (x : PyData) (δ : List SD) (φ : Nat) (K : List SD → Nat → Prop) : Prop :=
  ∀ (b : Bx) (H0 G H : Hp) (v : V) (σ : L2.St) (Q : L2.St → Hp → Prop), Wd b G H φ → Sl b H0 G H σ δ → Rp G v x →
    (∀ δ' G' H' σ', L2.wipe σ' vs = L2.wipe σ vs → Wd b G' H' φ → Go b G H G' H' → Sl b H0 G' H' σ' δ' → K δ' φ → Q σ' H') → g v (L2.wipe σ vs) H Q
section
variable {W : WX} {δ : List SD} {φ : Nat} {te tl : TE} {tt : TT} {g : TG} {KF : PySem.W.Frag} {XK : XC}
theorem cg_name {i : Nat} {x : PyData} {K : List SD → Nat → Prop} (h : K ((wipeD δ [i]).set i (.d x)) φ) : CG (gName i) [i] x δ φ K := fun b H0 G H v σ Q w s r q =>
  q _ G H _ (wipe1 σ i _) w (Go.refl _ _ _) ((Sl.wipe s [i]).set (.d r) (fun _ z => nomatch z)) h
theorem cg_pair {K0 : PySem.W.Frag} {i j : Nat} {x y : PyData} {K : List SD → Nat → Prop} (hij : i ≠ j) (h : K (((wipeD δ [i, j]).set i (.d x)).set j (.d y)) φ) : CG (gTup K0 2 (gCons (gName i) (gCons (gName j) gNil))) [i, j] (.tuple [x, y]) δ φ K := fun b H0 G H v σ Q w s r q => by
  cases r with
  | tup h1 h2 =>
    cases h2 with
    | cons r1 h2 =>
      cases h2 with
      | cons r2 h2 =>
        cases h2
        exact ⟨_, _, rfl, SqT.of (w.ex _ _ h1), rfl, _, _, rfl, _, _, rfl, rfl,
          q _ G H _ (wipe2 σ i j hij _ _) w (Go.refl _ _ _) (((Sl.wipe s [i, j]).set (.d r1) (fun _ z => nomatch z)).set (.d r2) (fun _ z => nomatch z)) h⟩
/-- one turn of a comprehension, said of data -/
def Turns (W : WX) (g : TG) (vs : List Nat) (tt : TT) (te : TE) (δ : List SD) (ds : List PyData) (I : Nat → List PyData → Nat → Prop) : Prop :=
  ∀ i x acc φ', ds[i]? = some x → I i acc φ' → acc.length < 10000000 ∧ CG g vs x δ φ' fun δ2 φ2 => WT W tt δ2 φ2 (fun c φ3 => (c = true → WD W te δ2 φ3 (fun y φ4 => I (i + 1) (acc ++ [y]) φ4) X0) ∧ (c = false → I (i + 1) acc φ3)) X0
/-- what stands at D between two turns -/
def Mid (b : Bx) (G1 H1 : Hp) (D : Addr) (I : List PyData → Nat → Prop) (H : Hp) : Prop :=
  ∃ G φ vs ds, Wd b G H φ ∧ Go b G1 H1 G H ∧ H D = some (.lst vs) ∧ G D = none ∧ RpL G vs ds ∧ I ds φ
theorem turn_of {b : Bx} {H0 G1 H1 : Hp} {σ : L2.St} {D : Addr} {vs : List Nat} {ds : List PyData} {I : Nat → List PyData → Nat → Prop} (s1 : Sl b H0 G1 H1 σ δ) (h : Turns W g vs tt te δ ds I) {i : Nat} {x : V} {y : PyData} {H' : Hp} (hy : ds[i]? = some y)
    (hb : ¬ b D) (hD1 : H1 D = none) {G' : Hp} {φ' : Nat} {as : List V} {acc : List PyData} (w' : Wd b G' H' φ') (g' : Go b G1 H1 G' H') (hD : H' D = some (.lst as)) (gD : G' D = none) (ra : RpL G' as acc) (k : I i acc φ') (ry : Rp G' x y) :
    g x (L2.wipe σ vs) H' fun σ2 H2 => L2.wipe σ2 vs = L2.wipe σ vs ∧ tt σ2 H2 fun c H3 =>
      if c = true then te σ2 H3 fun y H4 => ∃ acc, H4 D = some (.lst acc) ∧ acc.length < sizeLine ∧ Mid b G1 H1 D (I (i + 1)) (upd H4 D (.lst (acc ++ [y]))) else Mid b G1 H1 D (I (i + 1)) H3 := by
  obtain ⟨hl, hc⟩ := h i y acc φ' hy k
  refine hc b H0 G' H' x σ _ w' (s1.go g') ry fun δ2 G2 H2 σ2 e2 w2 g2 s2 k2 => ⟨e2, ?_⟩
  refine k2 b H0 G2 H2 σ2 _ w2 s2 (fun c φ3 G3 H3 w3 g3 k3 => ?_) (fun _ _ _ _ _ _ _ _ _ _ _ _ z => z.elim)
  have hD3 : H3 D = some (.lst as) := g3.keep D _ hb (g2.keep D _ hb hD)
  have gD3 : G3 D = none := (g2.trans g3).priv D hb (by rw [hD]; simp) gD
  have ra3 : RpL G3 as acc := RpL.mono (g2.trans g3).ex _ _ ra
  have gg3 : Go b G1 H1 G3 H3 := (g'.trans g2).trans g3
  cases c with
  | false => exact ⟨G3, φ3, as, acc, w3, gg3, hD3, gD3, ra3, k3.2 rfl⟩
  | true =>
    refine k3.1 rfl b H0 G3 H3 σ2 _ w3 (s2.go g3) (fun v d φ4 G4 H4 w4 g4 r4 k4 => ?_) (fun _ _ _ _ _ _ _ _ _ _ _ _ z => z.elim)
    have hD4 : H4 D = some (.lst as) := g4.keep D _ hb hD3
    have gD4 : G4 D = none := g4.priv D hb (by rw [hD3]; simp) gD3
    refine ⟨as, hD4, by rw [ra.len]; exact Nat.lt_trans hl (by decide), G4, φ4, as ++ [v], acc ++ [d], w4.put gD4 hb, ?_, upd_same, gD4, RpL.app (RpL.mono g4.ex _ _ ra3) (.cons r4 .nil), k4⟩
    have gg4 := gg3.trans g4
    exact ⟨gg4.ex, fun a o ha e => by
      have hne : a ≠ D := fun z => by rw [z, hD1] at e; cases e
      rw [upd_ne hne]
      exact gg4.keep a o ha e, gg4.priv⟩
theorem mid_start {b : Bx} {G1 H1 : Hp} {D : Addr} {φ1 : Nat} {I : List PyData → Nat → Prop} (w1 : Wd b G1 H1 φ1) (hD : H1 D = none) (k : I [] φ1) : Mid b G1 H1 D I (upd H1 D (.lst [])) :=
  ⟨G1, φ1, [], [], w1.aside hD, Go.aside w1 hD, upd_same, w1.gn hD, .nil, k⟩
/-- [e for x in xs if ..], xs a list or a tuple -/
theorem wf_lc {vs : List Nat} {K : List PyData → Nat → Prop} (h : WD W tl δ φ (fun d φ1 => ∃ ds, itemsOf d = some ds ∧ ∃ I : Nat → List PyData → Nat → Prop, I 0 [] φ1 ∧ Turns W g vs tt te δ ds I ∧ (∀ acc φ', I ds.length acc φ' → K acc φ')) XK) :
    WF W (tLc (iSeq KF tl) g tt te vs) δ φ K XK := fun b H0 G H σ Q w s q e =>
  h b H0 G H σ _ w s (fun v d φ1 G1 H1 w1 g1 r1 k1 => by
    obtain ⟨ds, he, I, h0, hs, hd⟩ := k1
    have fin : ∀ D, H1 D = none → ∀ n, n = ds.length → ∀ H', Mid b G1 H1 D (I n) H' → Q (.ref D) H' := by
      rintro D hD n rfl H' ⟨G', φ', as, acc, w', g', e1, e2, ra, k⟩
      exact q D as acc φ' G' H' w' (g1.trans g') (Go.was g1 w1 hD) e1 e2 ra (hd _ _ k)
    cases r1 with
    | @lst a xs ds' a1 a2 =>
      cases (show some ds' = some ds from he)
      refine ⟨a, rfl, .inl ⟨⟨xs, SqL.of (w1.ex _ _ a1)⟩, fun D hD => ?_⟩⟩
      refine lc_list (fun i H' => Mid b G1 H1 D (I i) H') (mid_start w1 hD h0) (fun i H' _ ⟨G', _, _, _, w', g', _⟩ => SqL.of (w'.ex _ _ (g'.ex _ _ a1))) (fun i x H' hi ⟨G', φ', as, acc, w', g', e1, e2, ra, k⟩ => ?_) (fun H' m => fin D hD _ a2.len H' m)
      obtain ⟨y, hy, ry⟩ := a2.getV hi
      exact turn_of (s.go g1) hs hy (w1.ne hD) hD w' g' e1 e2 ra k (Rp.mono g'.ex _ _ ry)
    | @tup a xs ds' a1 a2 =>
      cases (show some ds' = some ds from he)
      refine ⟨a, rfl, .inr ⟨⟨xs, SqT.of (w1.ex _ _ a1)⟩, fun D hD => ?_⟩⟩
      refine lc_tup (fun i H' => Mid b G1 H1 D (I i) H') (mid_start w1 hD h0) (fun i H' _ ⟨G', _, _, _, w', g', _⟩ => SqT.of (w'.ex _ _ (g'.ex _ _ a1))) (fun i x H' hi ⟨G', φ', as, acc, w', g', e1, e2, ra, k⟩ => ?_) (fun H' m => fin D hD _ a2.len H' m)
      obtain ⟨y, hy, ry⟩ := a2.getV hi
      exact turn_of (s.go g1) hs hy (w1.ne hD) hD w' g' e1 e2 ra k (Rp.mono g'.ex _ _ ry)
    | _ => exact nomatch he) e
/-- the ints below n, as data -/
def upto (n : Nat) : List PyData := (List.range n).map fun (i : Nat) => PyData.int (i : Int)
theorem upto_get {n i : Nat} (h : i < n) : (upto n)[i]? = some (.int (i : Int)) := by
  unfold upto
  rw [List.getElem?_map, List.getElem?_range h]
  rfl
theorem upto_len (n : Nat) : (upto n).length = n := by unfold upto; rw [List.length_map, List.length_range]
/-- [e for k in range(n) if ..] -/
theorem wf_lcR {vs : List Nat} {ta : TA} {K : List PyData → Nat → Prop} (h : WA W ta δ φ (fun as φ1 => ∃ n : Int, as = [.d (.int n)] ∧ n < 2 ^ 62 ∧ -(2 ^ 62) ≤ n ∧ ∃ I : Nat → List PyData → Nat → Prop, I 0 [] φ1 ∧ Turns W g vs tt te δ (upto n.toNat) I ∧ (∀ acc φ', I n.toNat acc φ' → K acc φ')) XK) :
    WF W (tLc (iRng1 ta) g tt te vs) δ φ K XK := fun b H0 G H σ Q w s q e =>
  h b H0 G H σ _ w s (fun v as φ1 G1 H1 w1 g1 r1 k1 => by
    obtain ⟨n, rfl, n1, n2, I, h0, hs, hd⟩ := k1
    cases r1 with
    | cons r1 r2 =>
      cases r2
      cases r1 with
      | d r =>
        cases r
        refine ⟨n, rfl, n2, n1, fun D hD => ?_⟩
        refine lc_range (lo := 0) (n := n.toNat) (fun i H' => Mid b G1 H1 D (I i) H') (mid_start w1 hD h0) (fun i H' hi ⟨G', φ', as, acc, w', g', e1, e2, ra, k⟩ => ?_) (fun H' ⟨G', φ', as, acc, w', g', e1, e2, ra, k⟩ => ?_)
        · have e0 : (0 : Int) + (i : Int) = (i : Int) := Int.zero_add _
          rw [e0]
          exact turn_of (s.go g1) hs (upto_get hi) (w1.ne hD) hD w' g' e1 e2 ra k (.int _)
        · exact q D as acc φ' G' H' w' (g1.trans g') (Go.was g1 w1 hD) e1 e2 ra (hd _ _ k)) e
/-- the pairs of zip -/
def zipD (xs ys : List PyData) : List PyData := List.zipWith (fun x y => PyData.tuple [x, y]) xs ys
theorem zipD_get {xs ys : List PyData} {i : Nat} {x y : PyData} (h1 : xs[i]? = some x) (h2 : ys[i]? = some y) : (zipD xs ys)[i]? = some (.tuple [x, y]) := by
  unfold zipD
  rw [List.getElem?_zipWith, h1, h2]
theorem zipD_len (xs ys : List PyData) : (zipD xs ys).length = min xs.length ys.length := by unfold zipD; rw [List.length_zipWith]
/-- [e for a, b in zip(xs, ys) if ..], both lists or both tuples -/
theorem wf_lcZ {vs : List Nat} {ta : TA} {K : List PyData → Nat → Prop} (h : WA W ta δ φ (fun as φ1 => ∃ xs ys, (as = [.d (.list xs), .d (.list ys)] ∨ as = [.d (.tuple xs), .d (.tuple ys)]) ∧
      ∃ I : Nat → List PyData → Nat → Prop, I 0 [] φ1 ∧ Turns W g vs tt te δ (zipD xs ys) I ∧ (∀ acc φ', I (min xs.length ys.length) acc φ' → K acc φ')) XK) :
    WF W (tLc (RZ.iZipA KF ta) g tt te vs) δ φ K XK := fun b H0 G H σ Q w s q e =>
  h b H0 G H σ _ w s (fun v as φ1 G1 H1 w1 g1 r1 k1 => by
    obtain ⟨xs, ys, he, I, h0, hs, hd⟩ := k1
    have go : ∀ (D : Addr) (i : Nat) (x y : V) (dx dy : PyData) (T : Addr) (H' : Hp), H1 D = none → xs[i]? = some dx → ys[i]? = some dy → Rp G1 x dx → Rp G1 y dy → Mid b G1 H1 D (I i) H' → H' T = none →
        g (.ref T) (L2.wipe σ vs) (upd H' T (.tup [x, y])) fun σ2 H2 => L2.wipe σ2 vs = L2.wipe σ vs ∧ tt σ2 H2 fun c H3 =>
          if c = true then te σ2 H3 fun y H4 => ∃ acc, H4 D = some (.lst acc) ∧ acc.length < sizeLine ∧ Mid b G1 H1 D (I (i + 1)) (upd H4 D (.lst (acc ++ [y]))) else Mid b G1 H1 D (I (i + 1)) H3 := by
      rintro D i x y dx dy T H' hD hx hy rx ry ⟨G', φ', as, acc, w', g', e1, e2, ra, k⟩ hT
      have hDT : D ≠ T := ne_of_none e1 hT
      have g2 := Go.laid (o := .tup [x, y]) w' hT
      refine turn_of (s.go g1) hs (zipD_get hx hy) (w1.ne hD) hD (w'.laid (o := .tup [x, y]) hT) (g'.trans g2) (by rw [upd_ne hDT]; exact e1) (by rw [upd_ne hDT]; exact e2) (RpL.mono g2.ex _ _ ra) k ?_
      exact .tup upd_same (.cons (Rp.mono (g'.ex.trans g2.ex) _ _ rx) (.cons (Rp.mono (g'.ex.trans g2.ex) _ _ ry) .nil))
    have fin : ∀ D, H1 D = none → ∀ n, n = min xs.length ys.length → ∀ H', Mid b G1 H1 D (I n) H' → Q (.ref D) H' := by
      rintro D hD n rfl H' ⟨G', φ', as, acc, w', g', e1, e2, ra, k⟩
      exact q D as acc φ' G' H' w' (g1.trans g') (Go.was g1 w1 hD) e1 e2 ra (hd _ _ k)
    rcases he with rfl | rfl
    · cases r1 with
      | cons r1 r2 =>
        cases r2 with
        | cons r2 r3 =>
          cases r3
          cases r1 with
          | d r1 =>
            cases r2 with
            | d r2 =>
              cases r1 with
              | @lst a ax _ a1 a2 =>
                cases r2 with
                | @lst c cx _ c1 c2 =>
                  refine ⟨a, c, ax, cx, rfl, .inl ⟨SqL.of (w1.ex _ _ a1), SqL.of (w1.ex _ _ c1), fun D hD => ?_⟩⟩
                  refine ⟨fun i m H' => m = min xs.length ys.length - i ∧ i ≤ min xs.length ys.length ∧ Mid b G1 H1 D (I i) H', ⟨_, rfl, Nat.zero_le _, mid_start w1 hD h0⟩, ?_⟩
                  rintro i m H' ⟨rfl, hi, mm⟩
                  obtain ⟨G', φ', as, acc, w', g', rest⟩ := id mm
                  have qx : SqL KF H' a ax := SqL.of (w'.ex _ _ (g'.ex _ _ a1))
                  have qy : SqL KF H' c cx := SqL.of (w'.ex _ _ (g'.ex _ _ c1))
                  have l1 := a2.len
                  have l2 := c2.len
                  by_cases hlt : i < min xs.length ys.length
                  · have hx : ax[i]? = some ax[i] := List.getElem?_eq_getElem (by omega)
                    have hy : cx[i]? = some cx[i] := List.getElem?_eq_getElem (by omega)
                    refine .inr ⟨⟨ax, cx, _, _, qx, qy, hx, hy⟩, Mid b G1 H1 D (I (i + 1)), fun H2 m2 => ⟨min xs.length ys.length - (i + 1), by omega, rfl, hlt, m2⟩, fun v H2 y => ?_⟩
                    obtain ⟨T, x', y', rfl, hT, rfl, f1, f2⟩ := y
                    obtain ⟨dx, ex, rx⟩ := a2.getV (f1 ax qx)
                    obtain ⟨dy, ey, ry⟩ := c2.getV (f2 cx qy)
                    exact go D i x' y' dx dy T H' hD ex ey rx ry mm hT
                  · exact .inl ⟨⟨ax, cx, qx, qy, by omega⟩, fin D hD i (by omega) H' mm⟩
    · cases r1 with
      | cons r1 r2 =>
        cases r2 with
        | cons r2 r3 =>
          cases r3
          cases r1 with
          | d r1 =>
            cases r2 with
            | d r2 =>
              cases r1 with
              | @tup a ax _ a1 a2 =>
                cases r2 with
                | @tup c cx _ c1 c2 =>
                  refine ⟨a, c, ax, cx, rfl, .inr ⟨SqT.of (w1.ex _ _ a1), SqT.of (w1.ex _ _ c1), fun D hD => ?_⟩⟩
                  refine ⟨fun i m H' => m = min xs.length ys.length - i ∧ i ≤ min xs.length ys.length ∧ Mid b G1 H1 D (I i) H', ⟨_, rfl, Nat.zero_le _, mid_start w1 hD h0⟩, ?_⟩
                  rintro i m H' ⟨rfl, hi, mm⟩
                  obtain ⟨G', φ', as, acc, w', g', rest⟩ := id mm
                  have qx : SqT KF H' a ax := SqT.of (w'.ex _ _ (g'.ex _ _ a1))
                  have qy : SqT KF H' c cx := SqT.of (w'.ex _ _ (g'.ex _ _ c1))
                  have l1 := a2.len
                  have l2 := c2.len
                  by_cases hlt : i < min xs.length ys.length
                  · have hx : ax[i]? = some ax[i] := List.getElem?_eq_getElem (by omega)
                    have hy : cx[i]? = some cx[i] := List.getElem?_eq_getElem (by omega)
                    refine .inr ⟨⟨ax, cx, _, _, qx, qy, hx, hy⟩, Mid b G1 H1 D (I (i + 1)), fun H2 m2 => ⟨min xs.length ys.length - (i + 1), by omega, rfl, hlt, m2⟩, fun v H2 y => ?_⟩
                    obtain ⟨T, x', y', rfl, hT, rfl, f1, f2⟩ := y
                    obtain ⟨dx, ex, rx⟩ := a2.getV (f1 ax qx)
                    obtain ⟨dy, ey, ry⟩ := c2.getV (f2 cx qy)
                    exact go D i x' y' dx dy T H' hD ex ey rx ry mm hT
                  · exact .inl ⟨⟨ax, cx, qx, qy, by omega⟩, fin D hD i (by omega) H' mm⟩) e
end
end Eg

/-! EgTry -/
set_option Elab.async false
set_option linter.all false
set_option maxRecDepth 100000
set_option maxHeartbeats 2000000
/-! ## try with several clauses, each with its name -/
namespace L2
open PySem PySem.Spec PyProof.Rows
abbrev Suite := Addr → Value → Option Addr → TS
/-- the ends of a suite whose name is unbound behind it -/
def unb (i : Nat) (D : Ends) : Ends := { nx := fun σ H => D.nx (σ.set i none) H, rt := D.rt, bk := fun σ H => D.bk (σ.set i none) H, ct := fun σ H => D.ct (σ.set i none) H }
def wTry (K : PySem.W.Frag) (Wo : WX) (D : Ends) : List (Value × Nat × Suite) → WX
  | [] => Wo
  | (c, i, ts) :: r => fun cls d σ H => ∃ b, PySem.W.exmOne K cls c = some b ∧ (b = true → ∀ a, H a = none → ts a cls d (unb i D) (σ.set i (some (.ref a))) H) ∧ (b = false → wTry K Wo D r cls d σ H)
inductive HdsA (X : Cx) : List ExceptHandler → List (Value × Nat × Suite) → Prop
  | nil : HdsA X [] []
  | cons {x n : Str} {c : Value} {i : Nat} {ts : Suite} {s0 : Stmt} {suite : List Stmt} {np pos' : Pos} {hds : List ExceptHandler} {l : List (Value × Nat × Suite)} (hc : Names X x c) (hi : X.N[i]? = some n) (hln : X.env.kindOf n = some .local)
      (hsu : ∀ (a : Addr) (oe : Obj) (cls : Value) (d : Option Addr) (pn : List (Addr × Obj)), Zc cls d oe → (∃ vs, oe.data = .fields vs) → PSs (X.suite a ((a, oe) :: pn)) (s0 :: suite) (ts a cls d)) (r : HdsA X hds l) :
      HdsA X (.ExceptHandler (some (.Name x np)) (some n) (s0 :: suite) pos' :: hds) ((c, i, ts) :: l)
section
variable {X : Cx} {body : List Stmt} {h₀ : ExceptHandler} {hds : List ExceptHandler} {l : List (Value × Nat × Suite)} {pos : Pos} {tb : WX → TS} {Wo : WX}
theorem ps_try_named (hs : X.stack = X.env :: X.outer) (hf : X.env.frame = some X.env.locals) (hN : X.N.Nodup) (tk : Takes X Wo)
    (hb : ∀ (W : WX) (pn : List (Addr × Obj)) (xe : Value → Shared → Prop), Takes (X.tr pn xe) W → PassesOwn (model X.prog X.w) X.A X.env xe → PSs (X.tr pn xe) body (tb W))
    (hh : HdsA X (h₀ :: hds) l) : PS X (.Try body (h₀ :: hds) [] [] pos) (fun D σ H => tb (wTry X.K Wo D l) D σ H) := by
  refine ⟨fun pins s σ H D inv h => ?_⟩
  have ok := inv.ok
  have fr : X.A.frames = some (X.env :: X.outer) := by
    rw [ok.frames, hs]
  refine wpAny_Try_except ?_
  refine wpAny_mono ((hb (wTry X.K Wo D l) (X.pn ++ pins) (fun e s₁ => wpAny (model X.prog X.w) X.A (noteFrame e X.env) (fun _ s₂ => wpAny (model X.prog X.w) X.A (setFlight e none)
    (fun _ s₃ => wpAny (model X.prog X.w) X.A (handleBy e X.env (h₀ :: hds)) (SP X pins D) X.xe s₃) X.xe s₂) X.xe s₁) (fun u s' air => ?_) PassesOwn.looking).run [] s σ H D (inv.toTry _) h) (fun f s1 done => ?_) (fun e s1 he => he)
  · obtain ⟨a, B, sI, pins', σ', H', cls, d, rfl, J', nb, up, sky, na, os, ag, wish⟩ := air
    have J : Inv X pins σ' H' sI := J'.ofTry ok
    have sky' : Sky B (X.env :: X.outer) a (Zc cls d) X.env.locals s'.heap := by
      rw [← hs]
      exact sky
    show wpAny (model X.prog X.w) X.A (noteFrame (.ref a) X.env) _ _ _
    refine Sky.land Zc.steady fr hf sky' fun h3 fl3 up3 => ?_
    have J3 : Inv X pins σ' H' { s' with heap := h3 } := J.landed nb fl3.1 (up.trans up3) os ag
    obtain ⟨oe3, vs3, he3, hz3, hd3⟩ := fl3.there
    have nfr : a ∉ frs (X.env :: X.outer) := fun hm => by
      obtain ⟨_, o', e', hnf⟩ := fl3.2.2.1.mem hm
      rw [he3] at e'
      cases e'
      exact hnf _ hd3
    have nL : a ≠ X.env.locals := fun z => nfr (List.mem_filterMap.mpr ⟨X.env, List.mem_cons_self, by rw [hf, z]⟩)
    have nF : a ∉ X.fs := fun hm => by
      obtain ⟨e, he, q⟩ := List.mem_filterMap.mp hm
      exact nfr (List.mem_filterMap.mpr ⟨e, List.mem_cons_of_mem _ he, q⟩)
    have S3 := J3.suite he3 hd3 na nL nF
    have go : ∀ {hds' : List ExceptHandler} {l' : List (Value × Nat × Suite)}, HdsA X hds' l' → wTry X.K Wo D l' cls d σ' H' →
        wpAny (model X.prog X.w) X.A (handleBy (.ref a) X.env hds') (SP X pins D) X.xe { s' with heap := h3 } := by
      intro hds' l' hk
      induction hk with
      | nil =>
        intro w
        refine wpAny_handleBy_nil ?_
        obtain ⟨k1, k2, k3, oe, vs, T, oT, ts', he, hz, hd, h1, hr⟩ := id fl3
        unfold PySem.passOn
        refine wpAny_bind (wpAny_field he hd h1 ?_)
        rw [if_neg (show ¬ ((Value.ref T == Value.none) = true) from by simp)]
        have fin : wpAny (model X.prog X.w) X.A (setFlight (.ref a) X.env.frame) (fun _ s4 => wpAny (model X.prog X.w) X.A (throw (.ref a) : Sem Flow) (SP X pins D) X.xe s4) X.xe { s' with heap := h3 } := by
          rw [hf]
          refine HandSPX.setFlight_upZ fl3 fun h4 hh4 up4 => wpAny_throw (tk _ _ ?_)
          refine ⟨a, B, sI, pins, σ', H', cls, d, rfl, J, nb, (up.trans up3).trans up4, .inr (.inr ?_), na, os, ag, w⟩
          rw [hs]
          exact hh4
        first
          | exact wpAny_bind (wpAny_pure (wpAny_bind fin))
          | exact wpAny_bind fin
      | @cons x n c i ts s0 suite np pos' hds2 l2 hc hi hln hsu r ih =>
        intro w
        obtain ⟨b, hb1, hyes, hno⟩ := w
        refine wpAny_handleBy_cons (codeAny_handlers_test ?_) (by intro q; cases q)
        have LT : PySem.W.Looks (model X.prog X.w) h3 (typeOf (.ref a)) cls := fun A Q E s k q => wpAny_typeOf_ref (k _ _ he3) (by rw [hz3.1]; exact q)
        have LM := PySem.W.exm_one (M := model X.prog X.w) (J3.kIn) LT hb1
        have test : ∀ {Q : Value → Shared → Prop} {E : Value → Shared → Prop}, Q c { s' with heap := h3 } →
            wpAny (model X.prog X.w) (X.A.mark (some (.ref a))) (eval (.Name x np) X.env) Q E { s' with heap := h3 } := fun {Q E} q => by
          obtain ⟨hg, hdbg, hm | ⟨hm, hv, hnn⟩⟩ := hc
          · exact ld_glob (X := X.suite a ((a, oe3) :: (X.pn ++ pins))) S3 hg hm q hdbg
          · exact ld_blt (X := X.suite a ((a, oe3) :: (X.pn ++ pins))) S3 hg hm hv q hnn hdbg
        refine test (LM.here ?_)
        cases b with
        | true =>
          refine codeAny_handlers_suite_as ?_
          refine HandSPX.lands_againZ fl3 fun h4 fl4 up4 => ?_
          have J4 : Inv X pins σ' H' { s' with heap := h4 } := J.landed nb fl4.1 ((up.trans up3).trans up4) os ag
          obtain ⟨oe4, vs4, he4, hz4, hd4⟩ := fl4.there
          have S4 := J4.suite he4 hd4 na nL nF
          refine store_ok (X := X.suite a ((a, oe4) :: (X.pn ++ pins))) (v := .ref a) S4 hN hi (.inl hln) rfl (fun s5 S5 => ?_) (.inr hln)
          refine wpAny_mono ((hsu a oe4 cls d (X.pn ++ pins) hz4 ⟨_, hd4⟩).run [] s5 _ H' _ S5 (hyes rfl a na)) (fun f s6 hsp => ?_) (fun _ _ z => False.elim z)
          have shut : ∀ {σ6 : St} {H6 : Hp} {Q : Shared → Prop}, Inv (X.suite a ((a, oe4) :: (X.pn ++ pins))) [] σ6 H6 s6 → (∀ s7, Inv X pins (σ6.set i none) H6 s7 → Q s7) →
              wpAny (model X.prog X.w) X.A (do bindName X.env n .none; unbindBehindTheSuite X.env n pos') (fun _ s7 => Q s7) X.xe s6 := fun {σ6 H6 Q} S6 hq => gone_ok (S6.unsuite ok) hN hi hln hq
          cases f with
          | next =>
            obtain ⟨σ6, H6, S6, q6⟩ := hsp
            exact shut S6 fun s7 J7 => ⟨_, _, J7, q6⟩
          | brk =>
            obtain ⟨σ6, H6, S6, q6⟩ := hsp
            exact shut S6 fun s7 J7 => ⟨_, _, J7, q6⟩
          | cont =>
            obtain ⟨σ6, H6, S6, q6⟩ := hsp
            exact shut S6 fun s7 J7 => ⟨_, _, J7, q6⟩
          | ret u =>
            obtain ⟨v6, σ6, H6, S6, r6, q6⟩ := hsp
            exact shut S6 fun s7 J7 => ⟨_, _, _, J7, r6, q6⟩
        | false =>
          show wpAny _ X.A (handleBy (.ref a) X.env hds2) _ _ _
          exact ih (hno rfl)
    exact go hh wish
  · cases f with
    | next =>
      obtain ⟨σ', H', J', q⟩ := done
      exact wpAny_execs_nil ⟨σ', H', J'.ofTry ok, q⟩
    | brk =>
      obtain ⟨σ', H', J', q⟩ := done
      exact ⟨σ', H', J'.ofTry ok, q⟩
    | cont =>
      obtain ⟨σ', H', J', q⟩ := done
      exact ⟨σ', H', J'.ofTry ok, q⟩
    | ret u =>
      obtain ⟨v, σ', H', J', r, q⟩ := done
      exact ⟨v, σ', H', J'.ofTry ok, r, q⟩
end
end L2
namespace Eg
open PySem L2
/-- what the clauses make of an error, said of data -/
def HX (K : PySem.W.Frag) (W : WX) (de : DE) (C : Addr) (fld : Str) (x : PyData) (δ : List SD) (φ : Nat) : List (Value × Nat × Suite) → Prop
  | [] => de.xx C fld x δ φ
  | (c, i, ts) :: r => ∃ b, PySem.W.exmOne K (.ref C) c = some b ∧ (b = true → ∀ a dd, WS W (ts a (.ref C) (some dd)) (δ.set i (.exn a C dd fld x)) φ
      { de with nx := fun δ φ => de.nx (δ.set i .u) φ, bk := fun δ φ => de.bk (δ.set i .u) φ, ct := fun δ φ => de.ct (δ.set i .u) φ }) ∧ (b = false → HX K W de C fld x δ φ r)
section
variable {W : WX} {δ : List SD} {φ : Nat} {de : DE} {KF : PySem.W.Frag} {tb : WX → TS} {l : List (Value × Nat × Suite)}
theorem ws_try (h : ∀ W', WS W' (tb W') δ φ { de with xx := fun C fld x δ1 φ1 => HX KF W de C fld x δ1 φ1 l }) : WS W (fun D σ H => tb (wTry KF W D l) D σ H) δ φ de := fun b0 b G0 H0 G H σ D w g s B => by
  refine h _ b0 b G0 H0 G H σ D w g s ⟨B.nx, B.bk, B.ct, B.rt, B.rf, fun b1 C fld dd v d δ1 φ1 G1 H1 σ1 w1 g1 s1 e1 r1 k => ?_⟩
  have k' : HX KF W de C fld d δ1 φ1 l := k
  clear k h
  induction l with
  | nil => exact B.xx b1 C fld dd v d δ1 φ1 G1 H1 σ1 w1 g1 s1 e1 r1 k'
  | cons p r ih =>
    obtain ⟨c, i, ts⟩ := p
    obtain ⟨bb, hb, h1, h2⟩ := k'
    refine ⟨bb, hb, fun hbb a ha => ?_, fun hbb => ih (h2 hbb)⟩
    refine h1 hbb a dd b0 b1 G0 H0 G1 H1 _ (unb i D) w1 g1 (s1.set (.exn e1 r1) (fun _ z => nomatch z)) ⟨fun b2 δ2 φ2 G2 H2 σ2 w2 g2 s2 k2 => ?_, fun b2 δ2 φ2 G2 H2 σ2 w2 g2 s2 k2 => ?_, fun b2 δ2 φ2 G2 H2 σ2 w2 g2 s2 k2 => ?_, B.rt, B.rf, B.xx⟩
    · exact B.nx _ _ _ _ _ _ w2 g2 (s2.set (o := none) .u (fun _ z => nomatch z)) k2
    · exact B.bk _ _ _ _ _ _ w2 g2 (s2.set (o := none) .u (fun _ z => nomatch z)) k2
    · exact B.ct _ _ _ _ _ _ w2 g2 (s2.set (o := none) .u (fun _ z => nomatch z)) k2
theorem wd_by_given {i : Nat} {a C dd : Addr} {x : PyData} {K : PyData → Nat → Prop} {XK : XC} (hi : δ[i]? = some (.exn a C dd "given" x)) (k : K x φ) : WD W (tBy_given C a (.ref C) (some dd) (tVar i)) δ φ K XK := fun b H0 G H σ Q w s q e => by
  obtain ⟨o, e1, r⟩ := s.get hi
  cases r with
  | exn h1 h2 => exact ⟨_, e1, rfl, rfl, dd, _, rfl, w.ex _ _ h1, q _ _ _ _ _ w (Go.refl _ _ _) h2 k⟩
end
/-! ## a def by its body -/
def sdOf : AV → SD
  | .d x => .d x
  | .bx => .bx
  | .both x p => .both x p
  | .scr K ns => .scr K ns
theorem start_sl {b : Bx} {G H : Hp} {vs : List V} {as : List AV} (h : ArgsR b G vs as) (m : Nat) : Sl b H G H (vs.map some ++ List.replicate m none) (as.map sdOf ++ List.replicate m .u) := by
  have hl : vs.length = as.length := by
    clear m
    induction h with
    | nil => rfl
    | cons _ _ ih => rw [List.length_cons, List.length_cons, ih]
  have own : ∀ (j : Nat) ys, (as.map sdOf ++ List.replicate m SD.u)[j]? ≠ some (.own ys) := fun j ys z => by
    rw [List.getElem?_append] at z
    split at z
    · rw [List.getElem?_map] at z
      cases q : as[j]? with
      | none => rw [q] at z; cases z
      | some a => rw [q] at z; cases a <;> cases z
    · rw [List.getElem?_replicate] at z
      split at z <;> cases z
  refine ⟨by simp [hl], fun i o s e1 e2 => ?_, fun i j p xs ys _ _ e2 _ => absurd e2 (own i xs)⟩
  have get : ∀ {vs : List V} {as : List AV} {i : Nat} {v : V} {a : AV}, ArgsR b G vs as → vs[i]? = some v → as[i]? = some a → ArgR b G v a := by
    intro vs as i v a h
    induction h generalizing i with
    | nil => intro e; simp at e
    | cons h1 _ ih =>
      intro e1 e2
      cases i with
      | zero => simp at e1 e2; subst e1; subst e2; exact h1
      | succ i => exact ih (by simpa using e1) (by simpa using e2)
  by_cases hi : i < vs.length
  · rw [List.getElem?_append_left (by simpa using hi), List.getElem?_map, List.getElem?_eq_getElem hi] at e1
    rw [List.getElem?_append_left (by simpa [← hl] using hi), List.getElem?_map, List.getElem?_eq_getElem (by rw [← hl]; exact hi)] at e2
    cases e1; cases e2
    have r := get h (List.getElem?_eq_getElem hi) (List.getElem?_eq_getElem (by rw [← hl]; exact hi))
    show SlR b H G H (some vs[i]) (sdOf as[i])
    generalize vs[i] = v at r
    generalize as[i] = a at r
    cases r with
    | d r => exact .d r
    | bx e => exact .bx e
    | both r => exact .both r
    | scr r => exact .scr r
  · rw [List.getElem?_append_right (by simpa [← hl] using hi), List.getElem?_replicate] at e2
    split at e2
    · cases e2; exact .u
    · cases e2
/-- the slots at the entry -/
def startD (n : Nat) (as : List AV) : List SD := as.map sdOf ++ List.replicate (n - as.length) .u
section
variable {P : Program} {w : World} {K : PySem.W.Frag} {mg : Str → Option Value} {base : Heap}
theorem fn_data {x qual : Str} {st : Stmt} {f : Addr} {fd : FuncData} {N ps : List Str} {k : Nat} {Pd : PD} (F : Fun K x qual st f fd) (S : FnScope N ps (defScope st)) (len : ∀ as φ Kc F XK, Pd as φ Kc F XK → as.length = ps.length)
    (hbody : ∀ (cdv : Value) (A : Around) (outer : List Env) (s : Shared) (H : Hp) (E : XK), Room k (A.deeper (PyProof.Rows.envOfC qual (defScope st) s.heap.objs.size f cdv)) → Gd (A.deeper (PyProof.Rows.envOfC qual (defScope st) s.heap.objs.size f cdv)) →
      ∃ t, PSs (cxOf (L2.CX P w) P w K mg base N qual (defScope st) f cdv A outer s H E) (defBody st) t ∧
        ∀ as φ Kc F XK, Pd as φ Kc F XK → WS (fun cls d _ H => E cls d H) t (startD N.length as) φ { nx := fun _ φ => Kc .none φ, bk := fun _ _ => False, ct := fun _ _ => False, rt := Kc, rf := F, xx := fun C fld x _ φ => XK C fld x φ }) :
    FnG P w K mg base (L2.CX P w) (k + 1) f fd ps (SpD Pd) := by
  refine F.okG S (fun vs H Q E h => ?_) (fun cdv A outer s H vs Q E hr hgd h => ?_)
  · obtain ⟨b, G, φ, as, Kc, Fr, XK, _, ha, hp, _⟩ := h
    rw [ha.len]
    exact len _ _ _ _ _ hp
  · obtain ⟨b, G, φ, as, Kc, Fr, XK, wd, ha, hp, kq, kf, ke⟩ := h
    obtain ⟨t, ht, hw⟩ := hbody cdv A outer s H E hr hgd
    refine ⟨t, ht, ?_⟩
    have st := start_sl (H := H) ha (N.length - vs.length)
    have e1 : startD N.length as = as.map sdOf ++ List.replicate (N.length - vs.length) .u := by rw [ha.len]; rfl
    rw [← e1] at st
    exact hw as φ Kc Fr XK hp b b G H G H (start N vs) _ wd (St.refl _ _ _) st ⟨fun b1 δ φ G1 H1 σ w1 g1 s1 k1 => kq _ _ _ _ _ (w1.sub g1.sub) g1.go .non k1, fun b1 δ φ G1 H1 σ w1 g1 s1 k1 => k1.elim, fun b1 δ φ G1 H1 σ w1 g1 s1 k1 => k1.elim,
      fun b1 v d φ G1 H1 w1 g1 r1 k1 => kq _ _ _ _ _ (w1.sub g1.sub) g1.go r1 k1, fun b1 p vs ds φ G1 H1 w1 g1 h0 h1 h2 h3 r1 k1 => kf _ _ _ _ _ _ (w1.sub g1.sub) g1.go h0 h1 h2 r1 k1,
      fun b1 C fld dd v d δ φ G1 H1 σ w1 g1 s1 e r k1 => ke _ _ _ _ _ _ _ _ (w1.sub g1.sub) g1.go e r k1⟩
end
end Eg

/-! EgBuilt -/
set_option Elab.async false
set_option linter.all false
set_option maxRecDepth 100000
set_option maxHeartbeats 2000000
/-! ## built-ins, said of data -/
namespace Eg
open PySem L2
def isInt : PyData → Bool
  | .int _ => true | .bool _ => true | _ => false
def isBool : PyData → Bool
  | .bool _ => true | _ => false
def isStr : PyData → Bool
  | .str _ => true | _ => false
def isLst : PyData → Bool
  | .list _ => true | _ => false
def isTup : PyData → Bool
  | .tuple _ => true | _ => false
def isDct : PyData → Bool
  | .dict _ => true | _ => false
/-- an object as such -/
def isPtr : PyData → Bool
  | .dict ((.none, _) :: _) => true
  | _ => false
def tyN : PyData → String
  | .none => "NoneType" | .bool _ => "bool" | .int _ => "int" | .str _ => "str" | .list _ => "list" | .tuple _ => "tuple" | .dict _ => "dict"
theorem Rp.ty {KF : PySem.W.Frag} {G H : Hp} {v : V} {d : PyData} (r : Rp G v d) (e : Ex G H) (hp : isPtr d = false) : TyX KF H v (.type (tyN d)) := by
  cases r with
  | non => exact .base .non
  | bl b => exact .base (.bl b)
  | int i => exact .base (.int i)
  | str x => exact .base (.str x)
  | lst h _ => exact .base (.lst (e _ _ h))
  | tup h _ => exact .base (.tup (e _ _ h))
  | dct h _ => exact .base (.dK (e _ _ h))
  | ptr p => cases hp
section
variable {W : WX} {δ : List SD} {φ : Nat} {K : PyData → Nat → Prop} {XK : XC} {te ta tb tc : TE} {t u : TT} {KF : PySem.W.Frag}
theorem wd_isi {n : String} {p : PyData → Bool} (hp : ∀ d, kitB (tyN d) n = some (p d)) (h : WD W te δ φ (fun d φ1 => isPtr d = false ∧ K (.bool (p d)) φ1) XK) : WD W (tCB (rIsi KF) (tCons te (tCons (tC (.ty n)) tNil))) δ φ K XK := fun b H0 G H σ Q w s q e =>
  h b H0 G H σ _ w s (fun v d φ1 G1 H1 w1 g1 r1 k1 => ⟨v, .ty n, _, _, p d, rfl, .ty n, r1.ty w1.ex k1.1, kit_ty (hp d), q _ _ _ _ _ w1 g1 (.bl _) k1.2⟩) e
theorem isi_int (d : PyData) : kitB (tyN d) "int" = some (isInt d) := by cases d <;> (simp only [tyN, isInt]; decide +kernel)
theorem isi_bool (d : PyData) : kitB (tyN d) "bool" = some (isBool d) := by cases d <;> (simp only [tyN, isBool]; decide +kernel)
theorem isi_str (d : PyData) : kitB (tyN d) "str" = some (isStr d) := by cases d <;> (simp only [tyN, isStr]; decide +kernel)
theorem isi_list (d : PyData) : kitB (tyN d) "list" = some (isLst d) := by cases d <;> (simp only [tyN, isLst]; decide +kernel)
theorem isi_tuple (d : PyData) : kitB (tyN d) "tuple" = some (isTup d) := by cases d <;> (simp only [tyN, isTup]; decide +kernel)
theorem isi_dict (d : PyData) : kitB (tyN d) "dict" = some (isDct d) := by cases d <;> (simp only [tyN, isDct]; decide +kernel)
theorem kit2 {KF : PySem.W.Frag} {a n m : String} {b1 b2 : Bool} (h1 : kitB a n = some b1) (h2 : kitB a m = some b2) : PySem.W.kitAny KF (.type a) [.type n, .type m] = some (b1 || b2) := by
  refine kitAny_cons (kit_ty h1) (fun e => ?_) (fun e => ?_)
  · refine kitAny_cons (kit_ty h2) (fun e2 => ?_) (fun e2 => ?_)
    · rw [e, e2]; rfl
    · rw [e, e2]; rfl
  · rw [e]; rfl
theorem wd_isi2 {n m : String} {p p2 : PyData → Bool} (hp : ∀ d, kitB (tyN d) n = some (p d)) (hp2 : ∀ d, kitB (tyN d) m = some (p2 d)) (h : WD W te δ φ (fun d φ1 => isPtr d = false ∧ K (.bool (p d || p2 d)) φ1) XK) :
    WD W (tCB (rIsiT KF) (tCons te (tCons (tTup (tCons (tC (.ty n)) (tCons (tC (.ty m)) tNil))) tNil))) δ φ K XK := fun b H0 G H σ Q w s q e =>
  h b H0 G H σ _ w s (fun v d φ1 G1 H1 w1 g1 r1 k1 => by
    refine ⟨by show 2 ≤ sizeLine; decide, fun p1 hp1 => ?_⟩
    refine ⟨v, p1, _, _, [.type n, .type m], p d || p2 d, rfl, upd_same, .cons (.ty n) (.cons (.ty m) .nil), r1.ty (w1.aside (o := .tup [.ty n, .ty m]) hp1).ex k1.1, kit2 (hp d) (hp2 d), ?_⟩
    exact q _ _ _ _ _ (w1.aside hp1) (g1.trans (Go.aside w1 hp1)) (.bl _) k1.2) e
theorem rl_pure {r : List V → Hp → VK → Prop} {as : List AV} {z : PyData} (h : ∀ (b : Bx) (G H : Hp) (vs : List V) (Q : VK), Wd b G H φ → ArgsR b G vs as → (∀ zv, Rp G zv z → Q zv H) → r vs H Q) (k : K z φ) : RL r as φ K :=
  fun b G H vs Q wd ra q => h b G H vs Q wd ra fun zv rz => q zv z φ G H wd (Go.refl _ _ _) rz k
theorem args1 {b : Bx} {G : Hp} {vs : List V} {x : PyData} (h : ArgsR b G vs [.d x]) : ∃ v, vs = [v] ∧ Rp G v x := by
  cases h with
  | cons h1 h2 =>
    cases h2
    cases h1 with
    | d r => exact ⟨_, rfl, r⟩
theorem args2 {b : Bx} {G : Hp} {vs : List V} {x y : PyData} (h : ArgsR b G vs [.d x, .d y]) : ∃ v w, vs = [v, w] ∧ Rp G v x ∧ Rp G w y := by
  cases h with
  | cons h1 h2 =>
    cases h2 with
    | cons h2 h3 =>
      cases h3
      cases h1 with
      | d r1 => cases h2 with
        | d r2 => exact ⟨_, _, rfl, r1, r2⟩
def rLenU (K : PySem.W.Frag) : List V → Hp → VK → Prop := fun xs H Q => ∃ x n, xs = [x] ∧ LenV K x H n ∧ Q (.int n) H
def rListU (K : PySem.W.Frag) : List V → Hp → VK → Prop := fun xs H Q => ∃ p ys, xs = [.ref p] ∧ (SqL K H p ys ∨ SqT K H p ys) ∧ ∀ l, H l = none → Q (.ref l) (upd H l (.lst ys))
def rTupleU (K : PySem.W.Frag) : List V → Hp → VK → Prop := fun xs H Q => ∃ p ys, xs = [.ref p] ∧ ((SqL K H p ys ∧ ∀ l, H l = none → Q (.ref l) (upd H l (.tup ys))) ∨ (SqT K H p ys ∧ Q (.ref p) H))
def lenD : PyData → Option Nat
  | .list xs => some xs.length
  | .tuple xs => some xs.length
  | .str s => if s.length ≤ 10000000 then some s.length else none
  | _ => none
theorem rl_len {x : PyData} {n : Nat} (h : lenD x = some n) (k : K (.int n) φ) : RL (rLenU KF) [.d x] φ K := rl_pure (z := .int n) (fun b G H vs Q wd ra q => by
  obtain ⟨v, rfl, r⟩ := args1 ra
  refine ⟨v, n, rfl, ?_, q _ (.int _)⟩
  cases r with
  | str s =>
    have h' : (if s.length ≤ 10000000 then some s.length else none) = some n := h
    by_cases hs : s.length ≤ 10000000
    · rw [if_pos hs] at h'
      cases h'
      exact ⟨Nat.le_trans hs (by decide), rfl⟩
    · rw [if_neg hs] at h'; cases h'
  | lst h1 h2 => cases (show some _ = some n from h); exact .inl ⟨_, SqL.of (wd.ex _ _ h1), h2.len.symm⟩
  | tup h1 h2 => cases (show some _ = some n from h); exact .inr ⟨_, SqT.of (wd.ex _ _ h1), h2.len.symm⟩
  | _ => cases h) k
theorem rl_abs {i : Int} (k : K (.int (if i < 0 then -i else i)) φ) : RL (fun xs H Q => ∃ i, xs = [.int i] ∧ Q (.int (if i < 0 then -i else i)) H) [.d (.int i)] φ K := rl_pure (fun b G H vs Q wd ra q => by
  obtain ⟨v, rfl, r⟩ := args1 ra
  cases r
  exact ⟨i, rfl, q _ (.int _)⟩) k
theorem rl_int {i : Int} (k : K (.int i) φ) : RL (fun xs H Q => (∃ i, xs = [.int i] ∧ Q (.int i) H) ∨ ∃ k, xs = [.bl k] ∧ Q (.int (if k then 1 else 0)) H) [.d (.int i)] φ K := rl_pure (fun b G H vs Q wd ra q => by
  obtain ⟨v, rfl, r⟩ := args1 ra
  cases r
  exact .inl ⟨i, rfl, q _ (.int _)⟩) k
theorem rl_intB {i : Bool} (k : K (.int (if i then 1 else 0)) φ) : RL (fun xs H Q => (∃ i, xs = [.int i] ∧ Q (.int i) H) ∨ ∃ k, xs = [.bl k] ∧ Q (.int (if k then 1 else 0)) H) [.d (.bool i)] φ K := rl_pure (fun b G H vs Q wd ra q => by
  obtain ⟨v, rfl, r⟩ := args1 ra
  cases r
  exact .inr ⟨i, rfl, q _ (.int _)⟩) k
theorem rl_max2 {i j : Int} (k : K (.int (if j > i then j else i)) φ) : RL (fun xs H Q => ∃ i j, xs = [.int i, .int j] ∧ Q (.int (if j > i then j else i)) H) [.d (.int i), .d (.int j)] φ K := rl_pure (fun b G H vs Q wd ra q => by
  obtain ⟨v, w, rfl, r1, r2⟩ := args2 ra
  cases r1; cases r2
  exact ⟨i, j, rfl, q _ (.int _)⟩) k
theorem rl_min2 {i j : Int} (k : K (.int (if j < i then j else i)) φ) : RL (fun xs H Q => ∃ i j, xs = [.int i, .int j] ∧ Q (.int (if j < i then j else i)) H) [.d (.int i), .d (.int j)] φ K := rl_pure (fun b G H vs Q wd ra q => by
  obtain ⟨v, w, rfl, r1, r2⟩ := args2 ra
  cases r1; cases r2
  exact ⟨i, j, rfl, q _ (.int _)⟩) k
theorem ints_of {b : Bx} {G H : Hp} {v : V} {ns : List Int} (wd : Wd b G H φ) (r : Rp G v (.list (ns.map .int))) : ∃ a, v = .ref a ∧ SqL KF H a (ns.map V.int) := by
  cases r with
  | lst h1 h2 =>
    have e := RpL.ints h2
    subst e
    exact ⟨_, rfl, SqL.of (wd.ex _ _ h1)⟩
theorem rl_sum {ns : List Int} (k : K (.int ns.sum) φ) : RL (rSum KF) [.d (.list (ns.map .int))] φ K := rl_pure (fun b G H vs Q wd ra q => by
  obtain ⟨v, rfl, r⟩ := args1 ra
  obtain ⟨a, rfl, h⟩ := ints_of (KF := KF) wd r
  exact ⟨a, ns, rfl, h, q _ (.int _)⟩) k
theorem rl_max {ns : List Int} (hn : 0 < ns.length) (k : ∀ m, m ∈ ns → (∀ y, y ∈ ns → y ≤ m) → K (.int m) φ) : RL (rMax KF) [.d (.list (ns.map .int))] φ K := fun b G H vs Q wd ra q => by
  obtain ⟨v, rfl, r⟩ := args1 ra
  obtain ⟨a, rfl, h⟩ := ints_of (KF := KF) wd r
  exact ⟨a, ns, rfl, h, hn, fun m h1 h2 => q _ _ _ _ _ wd (Go.refl _ _ _) (.int m) (k m h1 h2)⟩
theorem rl_min {ns : List Int} (hn : 0 < ns.length) (k : ∀ m, m ∈ ns → (∀ y, y ∈ ns → m ≤ y) → K (.int m) φ) : RL (rMin KF) [.d (.list (ns.map .int))] φ K := fun b G H vs Q wd ra q => by
  obtain ⟨v, rfl, r⟩ := args1 ra
  obtain ⟨a, rfl, h⟩ := ints_of (KF := KF) wd r
  exact ⟨a, ns, rfl, h, hn, fun m h1 h2 => q _ _ _ _ _ wd (Go.refl _ _ _) (.int m) (k m h1 h2)⟩
theorem rl_all {bs : List Bool} (k : K (.bool (bs.all id)) φ) : RL (rAll KF) [.d (.list (bs.map .bool))] φ K := rl_pure (fun b G H vs Q wd ra q => by
  obtain ⟨v, rfl, r⟩ := args1 ra
  cases r with
  | lst h1 h2 =>
    have e := RpL.bools h2
    subst e
    exact ⟨_, bs, rfl, SqL.of (wd.ex _ _ h1), q _ (.bl _)⟩) k
theorem rl_repr {x : PyData} (h1 : x.showable = true) (h2 : x.depth ≤ 50) (h3 : x.shown.length ≤ sizeLine) (k : K (.str x.shown) φ) : RL rRepr [.d x] φ K := rl_pure (fun b G H vs Q wd ra q => by
  obtain ⟨v, rfl, r⟩ := args1 ra
  exact ⟨v, x, rfl, Rp.mono wd.ex _ _ r, h1, h2, h3, q _ (.str _)⟩) k
theorem rl_str {i : Int} (h : i.natAbs.log2 < 1920) (k : K (.str (toString i)) φ) : RL (fun xs H Q => ∃ i, xs = [.int i] ∧ i.natAbs.log2 < 1920 ∧ Q (.str (toString i)) H) [.d (.int i)] φ K := rl_pure (fun b G H vs Q wd ra q => by
  obtain ⟨v, rfl, r⟩ := args1 ra
  cases r
  exact ⟨i, rfl, h, q _ (.str _)⟩) k
/-- list(..): a new list -/
theorem wf_list {K : List PyData → Nat → Prop} (h : WD W te δ φ (fun d φ1 => ∃ ds, itemsOf d = some ds ∧ K ds φ1) XK) :
    WF W (tCB (rListU KF) (tCons te tNil)) δ φ K XK := fun b H0 G H σ Q w s q e =>
  h b H0 G H σ _ w s (fun v d φ1 G1 H1 w1 g1 r1 k1 => by
    obtain ⟨ds, he, k⟩ := k1
    cases r1 with
    | @lst a xs ds' h1 h2 =>
      cases (show some ds' = some ds from he)
      exact ⟨a, xs, rfl, .inl (SqL.of (w1.ex _ _ h1)), fun l hl => q _ _ _ _ _ _ (w1.aside hl) (g1.trans (Go.aside w1 hl)) (Go.was g1 w1 hl) upd_same (w1.gn hl) h2 k⟩
    | @tup a xs ds' h1 h2 =>
      cases (show some ds' = some ds from he)
      exact ⟨a, xs, rfl, .inr (SqT.of (w1.ex _ _ h1)), fun l hl => q _ _ _ _ _ _ (w1.aside hl) (g1.trans (Go.aside w1 hl)) (Go.was g1 w1 hl) upd_same (w1.gn hl) h2 k⟩
    | _ => cases he) e
theorem wd_list (h : WD W te δ φ (fun d φ1 => ∃ ds, itemsOf d = some ds ∧ K (.list ds) φ1) XK) :
    WD W (tCB (rListU KF) (tCons te tNil)) δ φ K XK := wd_of_wf (wf_list h)
/-- tuple(..) -/
theorem wd_tuple (h : WD W te δ φ (fun d φ1 => ∃ ds, itemsOf d = some ds ∧ K (.tuple ds) φ1) XK) :
    WD W (tCB (rTupleU KF) (tCons te tNil)) δ φ K XK := fun b H0 G H σ Q w s q e =>
  h b H0 G H σ _ w s (fun v d φ1 G1 H1 w1 g1 r1 k1 => by
    obtain ⟨ds, he, k⟩ := k1
    cases r1 with
    | @lst a xs ds' h1 h2 =>
      cases (show some ds' = some ds from he)
      exact ⟨a, xs, rfl, .inl ⟨SqL.of (w1.ex _ _ h1), fun l hl => q _ _ _ _ _ (w1.laid hl) (g1.trans (Go.laid w1 hl)) (.tup upd_same (RpL.mono (Ex.new (w1.gn hl)) _ _ h2)) k⟩⟩
    | @tup a xs ds' h1 h2 =>
      cases (show some ds' = some ds from he)
      exact ⟨a, xs, rfl, .inr ⟨SqT.of (w1.ex _ _ h1), q _ _ _ _ _ w1 g1 (.tup h1 h2) k⟩⟩
    | _ => cases he) e
theorem wd_imp {K' : PyData → Nat → Prop} (h : WD W te δ φ K XK) (hk : ∀ d φ', K d φ' → K' d φ') : WD W te δ φ K' XK := fun b H0 G H σ Q w s q e => h b H0 G H σ Q w s (fun v d φ' G' H' w' g' r k => q v d φ' G' H' w' g' r (hk _ _ k)) e
theorem ws_less {ts : TS} {de : DE} {φ' : Nat} (h : WS W ts δ φ' de) (hl : φ' ≤ φ) : WS W ts δ φ de := fun b0 b G0 H0 G H σ D w g s B => h b0 b G0 H0 G H σ D (w.less hl) g s B
theorem wd_less {φ' : Nat} (h : WD W te δ φ' K XK) (hl : φ' ≤ φ) : WD W te δ φ K XK := fun b H0 G H σ Q w s q e => h b H0 G H σ Q (w.less hl) s q e
end
end Eg

/-! EgPlain -/
set_option Elab.async false
set_option linter.all false
namespace Eg
open PySem L2
mutual
/-- nothing in it stands for an object as such -/
def plain : PyData → Bool
  | .list xs => decide (xs.length ≤ 1000000) && plainAll xs
  | .tuple xs => decide (xs.length ≤ 1000000) && plainAll xs
  | .dict es => plainKv es
  | .str s => decide (s.length ≤ 1000000)
  | _ => true
def plainAll : List PyData → Bool
  | [] => true
  | x :: xs => plain x && plainAll xs
def plainKv : List (PyData × PyData) → Bool
  | [] => true
  | (k, v) :: r => !isNone k && plain v && plainKv r
end
theorem plain_ptr {x : PyData} (h : plain x = true) : isPtr x = false := by
  cases x with
  | dict es =>
    cases es with
    | nil => rfl
    | cons p r =>
      obtain ⟨k, v⟩ := p
      cases k <;> first | rfl | (simp [plain, plainKv, isNone] at h)
  | _ => rfl
theorem plain_get : ∀ {xs : List PyData} {i : Nat} {x : PyData}, plainAll xs = true → xs[i]? = some x → plain x = true
  | [], _, _, _, e => by simp at e
  | y :: ys, 0, x, h, e => by
    simp [plainAll] at h
    simp at e
    rw [← e]
    exact h.1
  | y :: ys, i + 1, x, h, e => by
    simp [plainAll] at h
    exact plain_get h.2 (by simpa using e)
theorem plain_cons {x : PyData} {xs : List PyData} : plainAll (x :: xs) = true ↔ plain x = true ∧ plainAll xs = true := by simp [plainAll]
theorem plain_list {xs : List PyData} (h : plain (.list xs) = true) : plainAll xs = true := by simp [plain] at h; exact h.2
theorem plain_tup {xs : List PyData} (h : plain (.tuple xs) = true) : plainAll xs = true := by simp [plain] at h; exact h.2
theorem plain_items {x : PyData} {xs : List PyData} (h : plain x = true) (e : itemsOf x = some xs) : plainAll xs = true ∧ xs.length ≤ 1000000 := by
  cases x <;> first | (cases (show some _ = some _ from e); simp [plain] at h; exact ⟨h.2, h.1⟩) | cases e
section
variable {W : WX} {δ : List SD} {φ : Nat} {te tl : TE} {KF : PySem.W.Frag} {XK : XC} {K : PyData → Nat → Prop}
theorem take_map_succ {f : PyData → PyData} {ds : List PyData} {k : Nat} {x : PyData} (h : ds[k]? = some x) : (ds.take (k + 1)).map f = (ds.take k).map f ++ [f x] := by
  rw [List.take_add_one, h, List.map_append]
  rfl
/-- [e for x in xs], e a function of x -/
theorem wf_map {i : Nat} {vs : List Nat} {f : PyData → PyData} {KL : List PyData → Nat → Prop} (hv : vs = [i]) (h : WD W tl δ φ (fun d φ1 => ∃ ds, itemsOf d = some ds ∧ ds.length ≤ 1000000 ∧
      (∀ x, x ∈ ds → WD W te ((wipeD δ [i]).set i (.d x)) φ1 (fun y φ' => y = f x ∧ φ' = φ1) X0) ∧ KL (ds.map f) φ1) XK) : WF W (tLc (iSeq KF tl) (gName i) tYes te vs) δ φ KL XK := by
  subst hv
  refine wf_lc (fun b H0 G H σ Q w s q e => h b H0 G H σ Q w s (fun v d φ' G' H' w' g' r k => q v d φ' G' H' w' g' r ?_) e)
  obtain ⟨ds, h1, h2, h3, h4⟩ := k
  refine ⟨ds, h1, fun k acc φ2 => acc = (ds.take k).map f ∧ φ2 = φ', ⟨by simp, rfl⟩, fun k x acc φ2 hk ⟨ha, hφ⟩ => ?_, fun acc φ2 ⟨ha, hφ⟩ => ?_⟩
  · subst ha; subst hφ
    refine ⟨by rw [List.length_map, List.length_take]; omega, cg_name (wt_yes ⟨fun _ => ?_, fun e => nomatch e⟩)⟩
    refine wd_imp (h3 x (List.mem_of_getElem? hk)) fun y φ3 ⟨e1, e2⟩ => ?_
    subst e1; subst e2
    exact ⟨(take_map_succ hk).symm, rfl⟩
  · subst hφ
    rw [ha, List.take_length]
    exact h4
theorem wd_mapB {i : Nat} {vs : List Nat} {p : PyData → Bool} (hv : vs = [i]) (h : WD W tl δ φ (fun d φ1 => ∃ ds, itemsOf d = some ds ∧ ds.length ≤ 1000000 ∧
      (∀ x, x ∈ ds → WD W te ((wipeD δ [i]).set i (.d x)) φ1 (fun y φ' => y = .bool (p x) ∧ φ' = φ1) X0) ∧ K (.list ((ds.map p).map .bool)) φ1) XK) : WD W (tLc (iSeq KF tl) (gName i) tYes te vs) δ φ K XK := by
  refine wd_of_wf (wf_map (f := fun x => .bool (p x)) hv (wd_imp h fun d φ1 ⟨ds, h1, h2, h3, h4⟩ => ⟨ds, h1, h2, h3, ?_⟩))
  rw [List.map_map] at h4
  exact h4
/-- [e for a, b in zip(xs, ys)] -/
theorem wd_mapZ {i j : Nat} {vs : List Nat} {ta : TA} {p : PyData → PyData → Bool} (hij : i ≠ j) (hv : vs = [i, j]) (h : WA W ta δ φ (fun as φ1 => ∃ (xs ys : List PyData), (as = [.d (.list xs), .d (.list ys)] ∨ as = [.d (.tuple xs), .d (.tuple ys)]) ∧ xs.length ≤ 1000000 ∧
      (∀ (k : Nat) (x y : PyData), xs[k]? = some x → ys[k]? = some y → WD W te (((wipeD δ [i, j]).set i (.d x)).set j (.d y)) φ1 (fun z φ' => z = .bool (p x y) ∧ φ' = φ1) X0) ∧ K (.list ((List.zipWith p xs ys).map .bool)) φ1) XK) :
    WD W (tLc (RZ.iZipA KF ta) (gTup KF 2 (gCons (gName i) (gCons (gName j) gNil))) tYes te vs) δ φ K XK := by
  subst hv
  refine wd_of_wf (wf_lcZ (fun b H0 G H σ Q w s q e => h b H0 G H σ Q w s (fun vs as φ' G' H' w' g' r k => q vs as φ' G' H' w' g' r ?_) e))
  obtain ⟨xs, ys, h1, h2, h3, h4⟩ := k
  refine ⟨xs, ys, h1, fun k acc φ2 => acc = ((List.zipWith p xs ys).take k).map .bool ∧ φ2 = φ', ⟨by simp, rfl⟩, fun k z acc φ2 hk ⟨ha, hφ⟩ => ?_, fun acc φ2 ⟨ha, hφ⟩ => ?_⟩
  · subst ha; subst hφ
    unfold zipD at hk
    rw [List.getElem?_zipWith] at hk
    cases hx : xs[k]? with
    | none => rw [hx] at hk; simp at hk
    | some x =>
      cases hy : ys[k]? with
      | none => rw [hx, hy] at hk; simp at hk
      | some y =>
        rw [hx, hy] at hk
        cases (show some _ = some _ from hk)
        refine ⟨by rw [List.length_map, List.length_take, List.length_zipWith]; omega, cg_pair hij (wt_yes ⟨fun _ => ?_, fun e => nomatch e⟩)⟩
        refine wd_imp (h3 k x y hx hy) fun z φ3 ⟨e1, e2⟩ => ?_
        subst e1; subst e2
        refine ⟨?_, rfl⟩
        have hz : (List.zipWith p xs ys)[k]? = some (p x y) := by rw [List.getElem?_zipWith, hx, hy]
        rw [List.take_add_one, hz, List.map_append]
        rfl
  · subst hφ
    rw [ha, List.take_of_length_le (by rw [List.length_zipWith]; omega)]
    exact h4
end
theorem pick_t {c : Bool} {A B : Prop} (h : c = true) (a : A) : (c = true → A) ∧ (c = false → B) := ⟨fun _ => a, fun e => absurd (h.symm.trans e) (by decide)⟩
theorem pick_f {c : Bool} {A B : Prop} (h : c = false) (a : B) : (c = true → A) ∧ (c = false → B) := ⟨fun e => absurd (h.symm.trans e) (by decide), fun _ => a⟩
theorem ptr_and {d : PyData} {A : Prop} (h : isPtr d = false) (a : A) : isPtr d = false ∧ A := ⟨h, a⟩
end Eg
namespace Eg
open PySem L2
theorem plain_mem : ∀ {xs : List PyData} {x : PyData}, plainAll xs = true → x ∈ xs → plain x = true := by
  intro xs x h hx
  obtain ⟨i, hi⟩ := List.getElem?_of_mem hx
  exact plain_get h hi
end Eg

/-! EgOwn -/
set_option Elab.async false
set_option linter.all false
set_option maxRecDepth 100000
set_option maxHeartbeats 2000000
/-! ## own lists and boxes, read and changed in place -/
namespace Eg
open PySem L2
theorem set_same {σ : L2.St} {i : Nat} {o : Option V} (e : σ[i]? = some o) : σ.set i o = σ := by
  have hl : i < σ.length := (List.getElem?_eq_some_iff.mp e).1
  apply List.ext_getElem?
  intro j
  by_cases hij : i = j
  · subst hij; rw [List.getElem?_set_self hl, e]
  · rw [List.getElem?_set_ne hij]
/-- the list of slot i is changed to what reads as xs' -/
theorem own_put {b0 b : Bx} {G0 H0 G H : Hp} {σ : L2.St} {δ : List SD} {φ : Nat} {i : Nat} {p : Addr} {xs xs' : List PyData} {ws : List V} (w : Wd b G H φ) (g : St b0 G0 H0 b G H) (s : Sl b H0 G H σ δ)
    (e : σ[i]? = some (some (.ref p))) (hi : δ[i]? = some (.own xs)) (h2 : G p = none) (h3 : H0 p = none) (h4 : ¬ b p) (r : RpL G ws xs') :
    Wd b G (upd H p (.lst ws)) φ ∧ St b0 G0 H0 b G (upd H p (.lst ws)) ∧ Sl b H0 G (upd H p (.lst ws)) σ (δ.set i (.own xs')) := by
  have hl : i < σ.length := (List.getElem?_eq_some_iff.mp e).1
  refine ⟨w.put h2 h4, ⟨⟨g.go.ex, fun a u hb q => ?_, g.go.priv⟩, g.sub, g.new⟩, ⟨by rw [s.len, List.length_set], fun j q t e1 e2 => ?_, fun j k p' ys zs hjk e1 e2 e3 e4 => ?_⟩⟩
  · have hne : a ≠ p := fun z => by rw [z, h3] at q; cases q
    rw [upd_ne hne]
    exact g.go.keep a u hb q
  · by_cases hij : i = j
    · subst hij
      rw [List.getElem?_set_self (by rw [← s.len]; exact hl)] at e2
      rw [e] at e1
      cases e1; cases e2
      exact .own upd_same h2 h3 h4 r
    · rw [List.getElem?_set_ne hij] at e2
      have r2 := s.at_ j q t e1 e2
      cases r2 with
      | u => exact .u
      | d r => exact .d r
      | own k1 k2 k3 k4 k5 =>
        refine .own ?_ k2 k3 k4 k5
        rw [upd_ne (fun z => by subst z; exact s.apart i j _ _ _ hij e hi e2 e1)]
        exact k1
      | bx e => exact .bx e
      | exn e r => exact .exn e r
      | both r => exact .both r
      | scr r => exact .scr r
  · by_cases hij : i = j
    · subst hij
      rw [List.getElem?_set_ne hjk] at e3
      exact s.apart i k p' xs zs hjk e1 hi e3 e4
    · by_cases hik : i = k
      · subst hik
        rw [List.getElem?_set_ne hij] at e2
        exact s.apart j i p' ys xs hjk e1 e2 hi e4
      · rw [List.getElem?_set_ne hij] at e2
        rw [List.getElem?_set_ne hik] at e3
        exact s.apart j k p' ys zs hjk e1 e2 e3 e4
section
variable {W : WX} {δ : List SD} {φ : Nat} {de : DE} {te : TE} {ts : TS} {KF : PySem.W.Frag} {XK : XC} {K : PyData → Nat → Prop}
/-- own[k] = e -/
theorem ws_setOwn {i : Nat} {k : Int} {xs : List PyData} (hi : δ[i]? = some (.own xs)) (h : WD W te δ φ (fun d φ1 => ∃ j, ixN xs.length k = some j ∧ de.nx (δ.set i (.own (xs.set j d))) φ1) fun C f d φ => de.xx C f d δ φ) :
    WS W (tAsg te (gSub (tVar i) (tC (.int k)) rSetL)) δ φ de := fun b0 b G0 H0 G H σ D w g s B =>
  h b H0 G H σ _ w s (fun v d φ' G' H' w' g' r' k' => by
    obtain ⟨j, hj, k'⟩ := k'
    have s' := s.go g'
    obtain ⟨o, e, r⟩ := s'.get hi
    cases r with
    | @own p _ vs h1 h2 h3 h4 h5 =>
      obtain ⟨w2, g2, s2⟩ := own_put (ws := vs.set j v) w' (g.step g') s' e hi h2 h3 h4 (RpL.set r' j h5)
      exact ⟨_, e, p, vs, k, j, rfl, rfl, h1, by rw [h5.len]; exact hj, B.nx b _ φ' G' _ σ w2 g2 s2 k'⟩) (exc g s B)
/-- own[..] -/
theorem wd_ixOwn {i : Nat} {xs : List PyData} (hi : δ[i]? = some (.own xs)) (h : WD W te δ φ (fun d φ1 => ∃ (k : Int) (z : PyData), d = .int k ∧ atI xs k = some z ∧ K z φ1) XK) : WD W (tOp (rIx KF) (tVar i) te) δ φ K XK := fun b H0 G H σ Q w s q e => by
  obtain ⟨o, e1, r⟩ := s.get hi
  cases r with
  | @own p _ vs h1 h2 h3 h4 h5 =>
    refine ⟨_, e1, h b H0 G H σ _ w s (fun v d φ' G' H' w' g' r' k' => ?_) e⟩
    obtain ⟨k, z, rfl, hz, kk⟩ := k'
    cases r'
    obtain ⟨u, e2, r2⟩ := atI_rp (RpL.mono g'.ex _ _ h5) hz
    exact .inl ⟨_, _, k, u, rfl, rfl, SqL.of (g'.keep _ _ h4 h1), e2, q _ _ _ _ _ w' g' r2 kk⟩
theorem wd_isNOwn {i : Nat} {xs : List PyData} (hi : δ[i]? = some (.own xs)) (k : K (.bool false) φ) : WD W (tOp (fun x y H Q => y = .non ∧ Q (.bl (decide (x = .non))) H) (tVar i) (tC .non)) δ φ K XK := fun b H0 G H σ Q w s q e => by
  obtain ⟨o, e1, r⟩ := s.get hi
  cases r with
  | @own p _ vs h1 h2 h3 h4 h5 => exact ⟨_, e1, rfl, q _ _ _ _ _ w (Go.refl _ _ _) (.bl false) k⟩
theorem wd_tupleOwn {i : Nat} {xs : List PyData} (hi : δ[i]? = some (.own xs)) (k : K (.tuple xs) φ) : WD W (tCB (rTupleU KF) (tCons (tVar i) tNil)) δ φ K XK := fun b H0 G H σ Q w s q e => by
  obtain ⟨o, e1, r⟩ := s.get hi
  cases r with
  | @own p _ vs h1 h2 h3 h4 h5 => exact ⟨_, e1, p, vs, rfl, .inl ⟨SqL.of h1, fun l hl => q _ _ _ _ _ (w.laid hl) (Go.laid w hl) (.tup upd_same (RpL.mono (Ex.new (w.gn hl)) _ _ h5)) k⟩⟩
/-! boxes -/
theorem box_at {b : Bx} {H0 G H : Hp} {σ : L2.St} {i : Nat} (w : Wd b G H φ) (s : Sl b H0 G H σ δ) (hi : δ[i]? = some .bx) :
    ∃ p, σ[i]? = some (some (.ref p)) ∧ b p ∧ G p = none ∧ ∃ (g : Int) (f : Bool) (c n : Int), H p = some (.lst [.int g, .bl f, .int c, .int n]) ∧ 0 ≤ g ∧ 0 ≤ c ∧ c < 2147483647 ∧ 0 ≤ n ∧ n + φ ≤ draws := by
  obtain ⟨o, e1, r⟩ := s.get hi
  cases r with
  | bx hb =>
    obtain ⟨gp, r⟩ := w.bx _ hb
    exact ⟨_, e1, hb, gp, r⟩
theorem wd_box0 {i : Nat} (hi : δ[i]? = some .bx) (k : ∀ g : Int, 0 ≤ g → K (.int g) φ) : WD W (tOp (rIx KF) (tVar i) (tC (.int 0))) δ φ K XK := fun b H0 G H σ Q w s q e => by
  obtain ⟨p, e1, hb, gp, g, f, c, n, hp, h1, h2, h3, h4, h5⟩ := box_at w s hi
  exact ⟨_, e1, .inl ⟨_, _, 0, _, rfl, rfl, SqL.of hp, rfl, q _ _ _ _ _ w (Go.refl _ _ _) (.int _) (k g h1)⟩⟩
theorem wd_box1 {i : Nat} (hi : δ[i]? = some .bx) (k : ∀ f : Bool, K (.bool f) φ) : WD W (tOp (rIx KF) (tVar i) (tC (.int 1))) δ φ K XK := fun b H0 G H σ Q w s q e => by
  obtain ⟨p, e1, hb, gp, g, f, c, n, hp, h1, h2, h3, h4, h5⟩ := box_at w s hi
  exact ⟨_, e1, .inl ⟨_, _, 1, _, rfl, rfl, SqL.of hp, rfl, q _ _ _ _ _ w (Go.refl _ _ _) (.bl _) (k f)⟩⟩
theorem wd_box2 {i : Nat} (hi : δ[i]? = some .bx) (k : ∀ c : Int, 0 ≤ c → c < 2147483647 → K (.int c) φ) : WD W (tOp (rIx KF) (tVar i) (tC (.int 2))) δ φ K XK := fun b H0 G H σ Q w s q e => by
  obtain ⟨p, e1, hb, gp, g, f, c, n, hp, h1, h2, h3, h4, h5⟩ := box_at w s hi
  exact ⟨_, e1, .inl ⟨_, _, 2, _, rfl, rfl, SqL.of hp, rfl, q _ _ _ _ _ w (Go.refl _ _ _) (.int _) (k c h2 h3)⟩⟩
theorem wd_box3 {i : Nat} (hi : δ[i]? = some .bx) (k : ∀ n : Int, 0 ≤ n → n + φ ≤ draws → K (.int n) φ) : WD W (tOp (rIx KF) (tVar i) (tC (.int 3))) δ φ K XK := fun b H0 G H σ Q w s q e => by
  obtain ⟨p, e1, hb, gp, g, f, c, n, hp, h1, h2, h3, h4, h5⟩ := box_at w s hi
  exact ⟨_, e1, .inl ⟨_, _, 3, _, rfl, rfl, SqL.of hp, rfl, q _ _ _ _ _ w (Go.refl _ _ _) (.int _) (k n h4 h5)⟩⟩
/-- a box is changed to a box with no more draws done than are let -/
theorem box_put {b0 b : Bx} {G0 H0 G H : Hp} {σ : L2.St} {φ' : Nat} {p : Addr} {g c n : Int} {f : Bool} (w : Wd b G H φ) (st : St b0 G0 H0 b G H) (s : Sl b H0 G H σ δ) (hb : b p)
    (h1 : 0 ≤ g) (h2 : 0 ≤ c) (h3 : c < 2147483647) (h4 : 0 ≤ n) (h5 : n + φ' ≤ draws) (hl : φ' ≤ φ) :
    Wd b G (upd H p (.lst [.int g, .bl f, .int c, .int n])) φ' ∧ St b0 G0 H0 b G (upd H p (.lst [.int g, .bl f, .int c, .int n])) ∧ Sl b H0 G (upd H p (.lst [.int g, .bl f, .int c, .int n])) σ δ := by
  have gp := (w.bx p hb).1
  have hp : H p ≠ none := by
    obtain ⟨_, g, f, c, n, e, _⟩ := w.bx p hb
    rw [e]; simp
  refine ⟨⟨fun a u e => ?_, fun q hq => ?_⟩, ⟨⟨st.go.ex, fun a u ha e => ?_, st.go.priv⟩, st.sub, st.new⟩, ⟨s.len, fun j o t e1 e2 => ?_, s.apart⟩⟩
  · have hn : a ≠ p := fun z => by rw [z, gp] at e; cases e
    rw [upd_ne hn]; exact w.ex a u e
  · by_cases hq2 : q = p
    · subst hq2
      exact ⟨gp, g, f, c, n, upd_same, h1, h2, h3, h4, h5⟩
    · obtain ⟨g0, g', f', c', n', e1, r1, r2, r3, r4, r5⟩ := w.bx q hq
      exact ⟨g0, g', f', c', n', by rw [upd_ne hq2]; exact e1, r1, r2, r3, r4, by omega⟩
  · have hn : a ≠ p := fun z => by
      subst z
      by_cases hb0 : b0 a
      · exact ha hb0
      · rw [st.new a hb hb0] at e; cases e
    rw [upd_ne hn]; exact st.go.keep a u ha e
  · have r2 := s.at_ j o t e1 e2
    cases r2 with
    | u => exact .u
    | d r => exact .d r
    | own k1 k2 k3 k4 k5 => exact .own (by rw [upd_ne (fun z => by subst z; exact k4 hb)]; exact k1) k2 k3 k4 k5
    | bx e => exact .bx e
    | exn e r => exact .exn e r
    | both r => exact .both r
    | scr r => exact .scr r
theorem ws_setBox0 {i : Nat} (hi : δ[i]? = some .bx) (h : WD W te δ φ (fun d φ1 => ∃ g : Int, d = .int g ∧ 0 ≤ g ∧ de.nx δ φ1) fun C f d φ => de.xx C f d δ φ) :
    WS W (tAsg te (gSub (tVar i) (tC (.int 0)) rSetL)) δ φ de := fun b0 b G0 H0 G H σ D w g s B =>
  h b H0 G H σ _ w s (fun v d φ' G' H' w' g' r' k' => by
    obtain ⟨m, rfl, hm, k'⟩ := k'
    cases r'
    have s' := s.go g'
    obtain ⟨p, e1, hb, gp, g0, f, c, n, hp, h1, h2, h3, h4, h5⟩ := box_at w' s' hi
    obtain ⟨w2, g2, s2⟩ := box_put (f := f) w' (g.step g') s' hb hm h2 h3 h4 h5 (Nat.le_refl _)
    exact ⟨_, e1, p, _, 0, 0, rfl, rfl, hp, rfl, B.nx b _ φ' G' _ σ w2 g2 s2 k'⟩) (exc g s B)
theorem ws_setBox3 {i : Nat} (hi : δ[i]? = some .bx) (h : WD W te δ φ (fun d φ1 => ∃ (m : Int) (φ2 : Nat), d = .int m ∧ 0 ≤ m ∧ m + φ2 ≤ draws ∧ φ2 ≤ φ1 ∧ de.nx δ φ2) fun C f d φ => de.xx C f d δ φ) :
    WS W (tAsg te (gSub (tVar i) (tC (.int 3)) rSetL)) δ φ de := fun b0 b G0 H0 G H σ D w g s B =>
  h b H0 G H σ _ w s (fun v d φ' G' H' w' g' r' k' => by
    obtain ⟨m, φ2, rfl, hm, hm2, hl, k'⟩ := k'
    cases r'
    have s' := s.go g'
    obtain ⟨p, e1, hb, gp, g0, f, c, n, hp, h1, h2, h3, h4, h5⟩ := box_at w' s' hi
    obtain ⟨w2, g2, s2⟩ := box_put (f := f) w' (g.step g') s' hb h1 h2 h3 hm hm2 hl
    exact ⟨_, e1, p, _, 3, 3, rfl, rfl, hp, rfl, B.nx b _ φ2 G' _ σ w2 g2 s2 k'⟩) (exc g s B)
/-- an own list of the right form becomes a box -/
theorem ws_box (i : Nat) {g c n : Int} {f : Bool} (hi : δ[i]? = some (.own [.int g, .bool f, .int c, .int n])) (h1 : 0 ≤ g) (h2 : 0 ≤ c) (h3 : c < 2147483647) (h4 : 0 ≤ n) (h5 : n + φ ≤ draws)
    (h : WS W ts (δ.set i .bx) φ de) : WS W ts δ φ de := fun b0 b G0 H0 G H σ D w st s B => by
  obtain ⟨o, e, r⟩ := s.get hi
  cases r with
  | @own p _ vs k1 k2 k3 k4 k5 =>
    have hv : vs = [.int g, .bl f, .int c, .int n] := by
      cases k5 with
      | cons r1 k5 => cases k5 with
        | cons r2 k5 => cases k5 with
          | cons r3 k5 => cases k5 with
            | cons r4 k5 =>
              cases k5; cases r1; cases r2; cases r3; cases r4; rfl
    subst hv
    have hl : i < σ.length := (List.getElem?_eq_some_iff.mp e).1
    refine h b0 (fun q => b q ∨ q = p) G0 H0 G H σ D ⟨w.ex, fun q hq => ?_⟩ ⟨⟨st.go.ex, st.go.keep, st.go.priv⟩, fun q hq => .inl (st.sub q hq), fun q hq hn => ?_⟩ ⟨by rw [s.len, List.length_set], fun j q t e1 e2 => ?_, fun j k p' xs ys hjk e1 e2 e3 e4 => ?_⟩ B
    · rcases hq with hq | rfl
      · exact w.bx q hq
      · exact ⟨k2, g, f, c, n, k1, h1, h2, h3, h4, h5⟩
    · rcases hq with hq | rfl
      · exact st.new q hq hn
      · exact k3
    · by_cases hij : i = j
      · subst hij
        rw [List.getElem?_set_self (by rw [← s.len]; exact hl)] at e2
        rw [e] at e1
        cases e1; cases e2
        exact .bx (.inr rfl)
      · rw [List.getElem?_set_ne hij] at e2
        have r2 := s.at_ j q t e1 e2
        cases r2 with
        | u => exact .u
        | d r => exact .d r
        | own m1 m2 m3 m4 m5 => exact .own m1 m2 m3 (fun z => z.elim m4 fun z => by subst z; exact s.apart i j _ _ _ hij e hi e2 e1) m5
        | bx e => exact .bx (.inl e)
        | exn e r => exact .exn e r
        | both r => exact .both r
        | scr r => exact .scr r
    · by_cases hij : i = j
      · subst hij
        rw [List.getElem?_set_self (by rw [← s.len]; exact hl)] at e2
        cases e2
      · by_cases hik : i = k
        · subst hik
          rw [List.getElem?_set_self (by rw [← s.len]; exact hl)] at e3
          cases e3
        · rw [List.getElem?_set_ne hij] at e2
          rw [List.getElem?_set_ne hik] at e3
          exact s.apart j k p' xs ys hjk e1 e2 e3 e4
/-! dicts that are displayed, lists turned round -/
theorem wd_dnew (k : K (.dict []) φ) : WD W tDNewK δ φ K XK := fun b H0 G H σ Q w s q e p hp =>
  q _ _ _ _ _ (w.laid hp) (Go.laid w hp) (.dct upd_same .nil) k
theorem wd_disp1 {i j : Int} (k : K (.dict [(.int i, .int j)]) φ) : WD W (tDisp [(tC (.int i), tC (.int j))]) δ φ K XK := fun b H0 G H σ Q w s q e p hp => by
  refine ⟨upd_same, [(.inl i, .int j)], rfl, Nat.le_of_ble_eq_true rfl, ?_⟩
  have w1 := w.aside (o := .dK []) hp
  have hpb := w.ne hp
  have w2 : Wd b (upd G p (.dK [(.inl i, .int j)])) (upd (upd H p (.dK [])) p (.dK [(.inl i, .int j)])) φ := (w1.put (o := .dK [(.inl i, .int j)]) (w.gn hp) hpb).know upd_same hpb
  refine q _ (.dict [(.int i, .int j)]) φ (upd G p (.dK [(.inl i, .int j)])) _ w2 ⟨Ex.new (w.gn hp), fun a u _ e => ?_, fun a _ h n => ?_⟩ (.dct upd_same (.cons (k := .inl i) (.int j) .nil)) k
  · rw [upd_ne (ne_of_none e hp), upd_ne (ne_of_none e hp)]; exact e
  · have hn : a ≠ p := fun z => h (by rw [z]; exact hp)
    rw [upd_ne hn]; exact n
theorem wf_rev {KL : List PyData → Nat → Prop} (h : WD W te δ φ (fun d φ1 => ∃ ds, d = .list ds ∧ KL ds.reverse φ1) XK) : WF W (tRevL KF te) δ φ KL XK := fun b H0 G H σ Q w s q e =>
  h b H0 G H σ _ w s (fun v d φ1 G1 H1 w1 g1 r1 k1 => by
    obtain ⟨ds, rfl, k⟩ := k1
    cases r1 with
    | @lst a xs _ h1 h2 => exact ⟨a, xs, rfl, SqL.of (w1.ex _ _ h1), fun l hl => q _ _ _ _ _ _ (w1.aside hl) (g1.trans (Go.aside w1 hl)) (Go.was g1 w1 hl) upd_same (w1.gn hl) (RpL.rev h2) k⟩) e
theorem wd_rev (h : WD W te δ φ (fun d φ1 => ∃ ds, d = .list ds ∧ K (.list ds.reverse) φ1) XK) : WD W (tRevL KF te) δ φ K XK := wd_of_wf (wf_rev h)
end
end Eg

/-! EgMore -/
set_option Elab.async false
set_option linter.all false
set_option maxRecDepth 100000
set_option maxHeartbeats 2000000
namespace L2
open PySem PySem.Spec PyProof.Rows
def tTryN (K : PySem.W.Frag) (Wo : WX) (l : List (Value × Nat × Suite)) (tb : WX → TS) : TS := fun D σ H => tb (wTry K Wo D l) D σ H
theorem ps_try_n {X : Cx} {body : List Stmt} {h₀ : ExceptHandler} {hds : List ExceptHandler} {l : List (Value × Nat × Suite)} {pos : Pos} {tb : WX → TS} {Wo : WX} (hs : X.stack = X.env :: X.outer) (hf : X.env.frame = some X.env.locals) (hN : X.N.Nodup) (tk : Takes X Wo)
    (hb : ∀ (W : WX) (pn : List (Addr × Obj)) (xe : Value → Shared → Prop), Takes (X.tr pn xe) W → PassesOwn (model X.prog X.w) X.A X.env xe → PSs (X.tr pn xe) body (tb W))
    (hh : HdsA X (h₀ :: hds) l) : PS X (.Try body (h₀ :: hds) [] [] pos) (tTryN X.K Wo l tb) := ps_try_named hs hf hN tk hb hh
end L2
namespace Eg
open PySem L2
theorem ws_tryN {W : WX} {δ : List SD} {φ : Nat} {de : DE} {KF : PySem.W.Frag} {tb : WX → TS} {l : List (Value × Nat × Suite)} (h : ∀ W', WS W' (tb W') δ φ { de with xx := fun C fld x δ1 φ1 => HX KF W de C fld x δ1 φ1 l }) : WS W (tTryN KF W l tb) δ φ de := ws_try h
section
variable {W : WX} {δ : List SD} {φ : Nat} {de : DE} {te : TE} {ts : TS} {KF : PySem.W.Frag} {XK : XC} {K : PyData → Nat → Prop}
theorem wt_imp {t : TT} {K K' : Bool → Nat → Prop} (h : WT W t δ φ K XK) (hk : ∀ c φ', K c φ' → K' c φ') : WT W t δ φ K' XK := fun b H0 G H σ Q w s q e => h b H0 G H σ Q w s (fun c φ' G' H' w' g' k => q c φ' G' H' w' g' (hk _ _ k)) e
theorem wd_x0 (h : WD W te δ φ K X0) : WD W te δ φ K XK := fun b H0 G H σ Q w s q e => h b H0 G H σ Q w s q fun _ _ _ _ _ _ _ _ _ _ _ _ z => z.elim
/-- ds[i], whichever it is -/
theorem rd_ixMem {ds : List PyData} {i : Int} (h0 : 0 ≤ i) (h1 : i < ds.length) (k : ∀ (j : Nat) d, i = j → ds[j]? = some d → K d φ) : RD (rIx KF) (.list ds) (.int i) φ K := by
  obtain ⟨j, rfl⟩ := Int.eq_ofNat_of_zero_le h0
  have hj : j < ds.length := by omega
  exact rd_ix_list (L2.atI_nat (List.getElem?_eq_getElem hj)) (k j _ rfl (List.getElem?_eq_getElem hj))
/-- a, b = e, [] -/
theorem ws_parNil2 {i j : Nat} {ta : TE} (hij : i ≠ j) (h : WD W ta δ φ (fun x φ1 => de.nx ((δ.set i (.d x)).set j (.own [])) φ1) fun C f d φ => de.xx C f d δ φ) :
    WS W (tPar i j (tCons ta (tCons (tLst tNil) tNil))) δ φ de :=
  ws_parF2 hij (wd_imp h fun d φ' k => wf_lst (wa_nil ⟨[], rfl, Nat.zero_le _, k⟩))
/-- a, b = [], e -/
theorem ws_parNil1 {i j : Nat} {tb : TE} (hij : i ≠ j) (h : WD W tb δ φ (fun y φ2 => de.nx ((δ.set i (.own [])).set j (.d y)) φ2) fun C f d φ => de.xx C f d δ φ) :
    WS W (tPar i j (tCons (tLst tNil) (tCons tb tNil))) δ φ de :=
  ws_parF1 hij (wf_lst (wa_nil ⟨[], rfl, Nat.zero_le _, h⟩))
/-- a, b, c = e, f, [] -/
theorem ws_par3Nil {i j l : Nat} {ta tb : TE} (hil : i ≠ l) (hjl : j ≠ l)
    (h : WD W ta δ φ (fun x φ1 => WD W tb δ φ1 (fun y φ2 => de.nx (((δ.set i (.d x)).set j (.d y)).set l (.own [])) φ2) fun C f d φ => de.xx C f d δ φ) fun C f d φ => de.xx C f d δ φ) :
    WS W (tPar3 i j l (tCons ta (tCons tb (tCons (tLst tNil) tNil)))) δ φ de :=
  ws_par3F hil hjl (wd_imp h fun d φ' k => wd_imp k fun d2 φ2 k2 => wf_lst (wa_nil ⟨[], rfl, Nat.zero_le _, k2⟩))
/-- a choice between two values that are told ahead -/
theorem wd_ite {t : TT} {ta tb : TE} (x y : PyData) (h : WT W t δ φ (fun c φ1 => WD W ta δ φ1 (fun z φ' => z = x ∧ φ' = φ1) X0 ∧ WD W tb δ φ1 (fun z φ' => z = y ∧ φ' = φ1) X0 ∧ K (if c = true then x else y) φ1) XK) : WD W (tIf t ta tb) δ φ K XK :=
  wd_if (wt_imp h fun c φ1 ⟨h1, h2, k⟩ => ⟨fun e => wd_x0 (wd_imp h1 fun d φ' ⟨e1, e2⟩ => by subst e1; subst e2; rw [if_pos e] at k; exact k), fun e => wd_x0 (wd_imp h2 fun d φ' ⟨e1, e2⟩ => by subst e1; subst e2; rw [if_neg (by rw [e]; decide)] at k; exact k)⟩)
/-- x = [..] -/
theorem ws_asgLst {i : Nat} {ta : TA} (h : WA W ta δ φ (fun as φ1 => ∃ xs : List PyData, as = xs.map .d ∧ xs.length ≤ 10000000 ∧ de.nx (δ.set i (.own xs)) φ1) fun C f d φ => de.xx C f d δ φ) : WS W (tAsg (tLst ta) (gName i)) δ φ de := ws_asgF (wf_lst h)
/-- return [..]: a new list -/
theorem ws_retLst {ta : TA} (h : WA W ta δ φ (fun as φ1 => ∃ xs : List PyData, as = xs.map .d ∧ xs.length ≤ 10000000 ∧ de.rf xs φ1) fun C f d φ => de.xx C f d δ φ) : WS W (tRet (tLst ta)) δ φ de := ws_retF (wf_lst h)
/-- return list(..): a new list -/
theorem ws_retList (h : WD W te δ φ (fun d φ1 => ∃ ds, itemsOf d = some ds ∧ de.rf ds φ1) fun C f d φ => de.xx C f d δ φ) : WS W (tRet (tCB (rListU KF) (tCons te tNil))) δ φ de := ws_retF (wf_list h)
/-- return a if t else b -/
theorem ws_retIf {t : TT} {ta tb : TE} (h : WT W t δ φ (fun c φ1 => (c = true → WS W (tRet ta) δ φ1 de) ∧ (c = false → WS W (tRet tb) δ φ1 de)) fun C f d φ => de.xx C f d δ φ) : WS W (tRet (tIf t ta tb)) δ φ de := fun b0 b G0 H0 G H σ D w g s B =>
  h b H0 G H σ _ w s (fun c φ1 G1 H1 w1 g1 k => by
    cases c with
    | true => exact k.1 rfl b0 b G0 H0 G1 H1 σ D w1 (g.step g1) (s.go g1) B
    | false => exact k.2 rfl b0 b G0 H0 G1 H1 σ D w1 (g.step g1) (s.go g1) B) (exc g s B)
/-- f(e, ..), f may hand back a new list: handed on -/
theorem ws_retCall {P : PD} {ta : TA} (h : WA W ta δ φ (fun as φ1 => P as φ1 de.rt de.rf X0) fun C f d φ => de.xx C f d δ φ) : WS W (tRet (tCallG (SpD P) (fun _ => E0) ta)) δ φ de := fun b0 b G0 H0 G H σ D w g s B =>
  h b H0 G H σ _ w s (fun vs as φ1 G1 H1 w1 g1 r1 k1 => ⟨b, G1, φ1, as, _, _, X0, w1, r1, k1,
    fun v d φ' G' H' w' g' r k => B.rt _ _ _ _ _ _ w' ((g.step g1).step g') r k,
    fun p ws ds φ' G' H' w' g' hp hp' gp rl k => B.rf b p ws ds φ' G' H' w' ((g.step g1).step g') ((g.step g1).was w1 hp) hp' gp (w1.ne hp) rl k,
    fun C f dd v d φ' G' H' w' g' e1 r' k' => k'.elim⟩) (exc g s B)
theorem rl_both {r : List V → Hp → VK → Prop} {x : PyData} {p : Addr} (h : RL r [.d x] φ K) : RL r [.both x p] φ K := fun b G H vs Q wd ra q => by
  refine h b G H vs Q wd ?_ q
  cases ra with
  | cons h1 h2 =>
    cases h1 with
    | both r1 => exact .cons (.d r1) h2
/-! a script, as it stands -/
theorem wa_scr {tr : TA} {i : Nat} {KS : PySem.W.Frag} {ns : List Int} {K : List AV → Nat → Prop} (hb : δ[i]? = some (.scr KS ns)) (h : WA W tr δ φ (fun as φ2 => K (.scr KS ns :: as) φ2) XK) : WA W (tCons (tVar i) tr) δ φ K XK := fun b H0 G H σ Q w s q e => by
  obtain ⟨o, e1, r⟩ := s.get hb
  cases r with
  | scr r => exact ⟨_, e1, h b H0 G H σ _ w s (fun vs as φ2 G2 H2 w2 g2 r2 k2 => q _ _ _ _ _ w2 g2 (.cons (.scr (r.mono g2.ex)) r2) k2) e⟩
theorem rl_lenScr {ns : List Int} (k : K (.int ns.length) φ) : RL (rLenU KF) [.scr KF ns] φ K := fun b G H vs Q wd ra q => by
  cases ra with
  | cons h1 h2 =>
    cases h2
    cases h1 with
    | @scr _ a _ r => exact ⟨_, ns.length, rfl, .inl ⟨_, r.sq wd.ex, by rw [List.length_map]⟩, q _ _ _ _ _ wd (Go.refl _ _ _) (.int _) k⟩
theorem wd_ixScr {i : Nat} {ns : List Int} (hi : δ[i]? = some (.scr KF ns)) (h : WD W te δ φ (fun d φ1 => ∃ (k z : Int), d = .int k ∧ atI ns k = some z ∧ K (.int z) φ1) XK) : WD W (tOp (rIx KF) (tVar i) te) δ φ K XK := fun b H0 G H σ Q w s q e => by
  obtain ⟨o, e1, r⟩ := s.get hi
  cases r with
  | @scr _ a _ r =>
    refine ⟨_, e1, h b H0 G H σ _ w s (fun v d φ' G' H' w' g' r' k' => ?_) e⟩
    obtain ⟨k, z, rfl, hz, kk⟩ := k'
    cases r'
    refine .inl ⟨_, _, k, .int z, rfl, rfl, (r.mono g'.ex).sq w'.ex, ?_, q _ _ _ _ _ w' g' (.int z) kk⟩
    unfold atI at hz ⊢
    rw [List.length_map]
    cases hx : ixN ns.length k with
    | none => rw [hx] at hz; cases hz
    | some j =>
      rw [hx] at hz
      show (ns.map V.int)[j]? = some (.int z)
      rw [List.getElem?_map, show ns[j]? = some z from hz]
      rfl
theorem wd_slScr {i : Nat} {ns : List Int} {tl th : TO} (hi : δ[i]? = some (.scr KF ns)) (h : WO W tl δ φ (fun lo φ2 => WO W th δ φ2 (fun hi φ3 => K (.list (Eg.cutD (ns.map PyData.int) lo hi)) φ3) XK) XK) : WD W (tSl (rSlU KF) (tVar i) tl th) δ φ K XK := fun b H0 G H σ Q w s q e => by
  obtain ⟨o, e1, r⟩ := s.get hi
  cases r with
  | @scr _ a _ r =>
    refine ⟨_, e1, h b H0 G H σ _ w s (fun lo φ2 G2 H2 w2 g2 k2 => k2 b H0 G2 H2 σ _ w2 (s.go g2) (fun hi φ3 G3 H3 w3 g3 k3 => ?_) fun C f dd v d φ' G' H' w' g' e1 r' k' => e C f dd v d φ' G' H' w' (g2.trans g') e1 r' k') e⟩
    have gg := g2.trans g3
    refine .inl ⟨_, _, rfl, (r.mono gg.ex).sq w3.ex, fun p hp => ?_⟩
    exact q _ _ _ _ _ (w3.laid hp) (gg.trans (Go.laid w3 hp)) (.lst upd_same (RpL.mono (Ex.new (w3.gn hp)) _ _ (RpL.cut lo hi (RpL.of_ints ns)))) k3
end
end Eg

/-! EgGrow -/
set_option Elab.async false
set_option linter.all false
set_option maxRecDepth 100000
set_option maxHeartbeats 2000000
/-! ## a list that is handed to a call and grows behind it; the call told it as such -/
namespace Eg
open PySem L2
theorem ptr_inv {G : Hp} {v : V} {p : Addr} (h : Rp G v (ptrD p)) : v = .ref p := by
  generalize hx : ptrD p = x at h
  cases h with
  | dct h1 h2 =>
    unfold ptrD at hx
    injection hx with hx
    rw [← hx] at h2
    generalize hk : PyData.none = kk at h2
    cases h2 with
    | @cons k _ _ _ _ _ _ => cases k <;> cases hk
  | ptr q =>
    unfold ptrD at hx
    injection hx with hx
    injection hx with hx _
    injection hx with _ hx
    injection hx with hx
    have : (p : Int) = q := Int.add_left_cancel hx
    rw [Int.ofNat_inj.mp this]
  | _ => unfold ptrD at hx; cases hx
section
variable {W : WX} {δ : List SD} {φ : Nat} {de : DE} {te : TE} {rest : TS} {KF : PySem.W.Frag}
theorem ws_tellGrow {P : PD} {j t : Nat} {more : Str} {xs : List PyData} (hjt : j ≠ t) (hj : δ[j]? = some (.own xs)) (ht : t < δ.length) (hl : xs.length < 10000000)
    (h : WD W te δ φ (fun d φ1 => ∀ p, P [.d d, .both (.list xs) p] φ1 (fun _ _ => False) (fun ds φ2 => ∃ wd : Str, ds = [.str wd, ptrD p] ∧ WS W rest ((δ.set j (.d (.list (xs ++ [.str more])))).set t (.d (.list [.str wd, .list (xs ++ [.str more])]))) φ2 de) X0) fun C f d φ => de.xx C f d δ φ) :
    WS W (tSeq (tAsg (tCallG (SpD P) (fun _ => E0) (tCons te (tCons (tVar j) tNil))) (gName t)) (tSeq (tIfS (tB (tCB (rIsi KF) (tCons (tVar j) (tCons (tC (.ty "list")) tNil)))) (tDrop (tBM KF "list" rAppend (tVar j) (tCons (tC (.str more)) tNil))) tNext) rest)) δ φ de := fun b0 b G0 H0 G H σ D w g s B =>
  h b H0 G H σ _ w s (fun v d φ1 G1 H1 w1 g1 r1 k1 => by
    have s1 := s.go g1
    have st1 := g.step g1
    obtain ⟨o, e, r⟩ := s1.get hj
    cases r with
    | @own p _ vs h1 h2 h3 h4 h5 =>
      have hx : Ex G1 (upd G1 p (.lst vs)) := Ex.new h2
      have rp : Rp (upd G1 p (.lst vs)) (.ref p) (.list xs) := .lst upd_same (RpL.mono hx _ _ h5)
      refine ⟨_, e, b, upd G1 p (.lst vs), φ1, [.d d, .both (.list xs) p], (fun _ _ => False), _, X0, w1.know h1 h4, .cons (.d (Rp.mono hx _ _ r1)) (.cons (.both rp) .nil), k1 p, fun _ _ _ _ _ _ _ _ k => k.elim, fun a ws ds φ' G' H' w' g' ha ha' ga rl k => ?_, fun _ _ _ _ _ _ _ _ _ _ _ _ k => k.elim⟩
      obtain ⟨wd, rfl, kk⟩ := k
      have hws : ws = [.str wd, .ref p] := by
        cases rl with
        | cons q1 rl => cases rl with
          | cons q2 rl => cases rl; cases q1; rw [ptr_inv q2]
      subst hws
      have hp' : H' p = some (.lst vs) := g'.keep p _ h4 h1
      have hap : a ≠ p := fun z => by rw [z, h1] at ha; cases ha
      have hab : ¬ b a := w1.ne ha
      have hj' : (σ.set t (some (V.ref a)))[j]? = some (some (.ref p)) := by rw [List.getElem?_set_ne (Ne.symm hjt)]; exact e
      have g2 : G' p = some (.lst vs) := g'.ex _ _ upd_same
      refine ⟨_, hj', ⟨.ref p, .ty "list", _, _, true, rfl, .ty "list", (Rp.lst (xs := vs) (ds := xs) g2 (RpL.mono (hx.trans g'.ex) _ _ h5)).ty w'.ex rfl, kit_ty (isi_list (.list xs)), ?_⟩⟩
      refine ⟨true, rfl, ?_⟩
      show (if true = true then _ else _)
      rw [if_pos rfl]
      refine ⟨_, hj', .inl ⟨rfl, _, SqL.of hp'⟩, p, vs, .str more, rfl, rfl, hp', by rw [h5.len]; exact Nat.lt_trans hl (by decide), ?_⟩
      have hxG : Ex G1 (upd (upd G1 p (.lst (vs ++ [.str more]))) a (.lst [.str wd, .ref p])) := fun q u eq => by
        have q1 : q ≠ p := fun z => by rw [z, h2] at eq; cases eq
        have q2 : q ≠ a := fun z => by
          have := w1.ex q u eq
          rw [z, ha] at this; cases this
        rw [upd_ne q2, upd_ne q1]; exact eq
      have keep2 : ∀ q u, q ≠ p → ¬ b q → H1 q = some u → upd H' p (.lst (vs ++ [.str more])) q = some u := fun q u hq hb eq => by
        rw [upd_ne hq]; exact g'.keep q u hb eq
      have rpl : Rp (upd (upd G1 p (.lst (vs ++ [.str more]))) a (.lst [.str wd, .ref p])) (.ref p) (.list (xs ++ [.str more])) :=
        .lst (by rw [upd_ne (Ne.symm hap), upd_same]) (RpL.app (RpL.mono hxG _ _ h5) (.cons (.str more) .nil))
      have w2 : Wd b (upd (upd G1 p (.lst (vs ++ [.str more]))) a (.lst [.str wd, .ref p])) (upd H' p (.lst (vs ++ [.str more]))) φ' := by
        refine ⟨fun q u eq => ?_, fun q hq => ?_⟩
        · by_cases qa : q = a
          · subst qa
            rw [upd_same] at eq
            rw [upd_ne hap, ha']; exact eq
          · rw [upd_ne qa] at eq
            by_cases qp : q = p
            · subst qp; rw [upd_same] at eq ⊢; exact eq
            · rw [upd_ne qp] at eq ⊢
              exact w'.ex q u (g'.ex q u (hx q u eq))
        · have qp : q ≠ p := fun z => h4 (by rw [← z]; exact hq)
          have qa : q ≠ a := fun z => hab (by rw [← z]; exact hq)
          obtain ⟨_, rr⟩ := w'.bx q hq
          exact ⟨by rw [upd_ne qa, upd_ne qp]; exact (w1.bx q hq).1, by rw [upd_ne qp]; exact rr⟩
      have nb : ∀ q u, ¬ b0 q → H0 q = some u → ¬ b q := fun q u h e z => by
        rw [st1.new q z h] at e
        cases e
      have g2' : St b0 G0 H0 b (upd (upd G1 p (.lst (vs ++ [.str more]))) a (.lst [.str wd, .ref p])) (upd H' p (.lst (vs ++ [.str more]))) := by
        refine ⟨⟨st1.go.ex.trans hxG, fun q u hb eq => ?_, fun q hb hn gn => ?_⟩, st1.sub, st1.new⟩
        · exact keep2 q u (fun z => by rw [z, h3] at eq; cases eq) (nb q u hb eq) (st1.go.keep q u hb eq)
        · have q1 : q ≠ p := fun z => hn (by rw [z]; exact h3)
          have q2 : q ≠ a := fun z => hn (by rw [z]; exact st1.was w1 ha)
          rw [upd_ne q2, upd_ne q1]
          exact st1.go.priv q hb hn gn
      have hjl : j < δ.length := (List.getElem?_eq_some_iff.mp hj).1
      have slots : ∀ (i : Nat) (o : Option V) (q : SD), i ≠ j → σ[i]? = some o → δ[i]? = some q → SlR b H0 (upd (upd G1 p (.lst (vs ++ [.str more]))) a (.lst [.str wd, .ref p])) (upd H' p (.lst (vs ++ [.str more]))) o q := fun i o q hij e1 e2 => by
        have r2 := s1.at_ i o q e1 e2
        cases r2 with
        | u => exact .u
        | d r => exact .d (Rp.mono hxG _ _ r)
        | @own q' ys us m1 m2 m3 m4 m5 =>
          have n1 : q' ≠ p := fun z => by subst z; exact s1.apart j i _ _ _ (Ne.symm hij) e hj e2 e1
          have n2 : q' ≠ a := fun z => by subst z; rw [m1] at ha; cases ha
          exact .own (keep2 q' _ n1 m4 m1) (by rw [upd_ne n2, upd_ne n1]; exact m2) m3 m4 (RpL.mono hxG _ _ m5)
        | bx e => exact .bx e
        | exn e r => exact .exn (hxG _ _ e) (Rp.mono hxG _ _ r)
        | both r => exact .both (Rp.mono hxG _ _ r)
        | scr r => exact .scr (r.mono hxG)
      refine kk b0 b G0 H0 _ _ (σ.set t (some (.ref a))) D w2 g2' ⟨by rw [List.length_set, List.length_set, List.length_set, s1.len], fun i o q e1 e2 => ?_, fun i k p2 ys zs hik e1 e2 e3 e4 => ?_⟩ B
      · by_cases hit : t = i
        · subst hit
          rw [List.getElem?_set_self (by rw [s1.len]; exact ht)] at e1
          rw [List.getElem?_set_self (by rw [List.length_set]; exact ht)] at e2
          cases e1; cases e2
          exact .d (.lst upd_same (.cons (.str wd) (.cons rpl .nil)))
        · rw [List.getElem?_set_ne hit] at e1 e2
          by_cases hij : j = i
          · subst hij
            rw [List.getElem?_set_self hjl] at e2
            rw [e] at e1
            cases e1; cases e2
            exact .d rpl
          · rw [List.getElem?_set_ne hij] at e2
            exact slots i o q (Ne.symm hij) e1 e2
      · have key : ∀ (m : Nat) (us : List PyData), ((δ.set j (SD.d (.list (xs ++ [.str more])))).set t (SD.d (.list [.str wd, .list (xs ++ [.str more])])))[m]? = some (.own us) → m ≠ t ∧ δ[m]? = some (.own us) := fun m us em => by
          by_cases hmt : t = m
          · subst hmt
            rw [List.getElem?_set_self (by rw [List.length_set]; exact ht)] at em
            cases em
          · rw [List.getElem?_set_ne hmt] at em
            by_cases hmj : j = m
            · subst hmj
              rw [List.getElem?_set_self hjl] at em
              cases em
            · rw [List.getElem?_set_ne hmj] at em
              exact ⟨Ne.symm hmt, em⟩
        obtain ⟨i1, i2⟩ := key i ys e2
        obtain ⟨k1', k2'⟩ := key k zs e3
        rw [List.getElem?_set_ne (Ne.symm i1)] at e1
        rw [List.getElem?_set_ne (Ne.symm k1')] at e4
        exact s1.apart i k p2 ys zs hik e1 i2 k2' e4) (exc g s B)
end
end Eg

/-! EgTame -/
set_option Elab.async false
set_option linter.all false
/-! ## data that is short enough to be shown -/
namespace Eg
open PySem L2
structure Tame (d : PyData) (k m : Nat) : Prop where
  sh : d.showable = true
  ls : d.leavesShort 40 = true
  dp : d.depth ≤ k
  bk : d.bulk ≤ m
theorem Tame.mono {d : PyData} {k m k' m' : Nat} (h : Tame d k m) (h1 : k ≤ k') (h2 : m ≤ m') : Tame d k' m' := ⟨h.sh, h.ls, Nat.le_trans h.dp h1, Nat.le_trans h.bk h2⟩
theorem tame_none {k m : Nat} : Tame .none k m := ⟨by simp [PyData.showable], by simp [PyData.leavesShort], by simp [PyData.depth], by simp [PyData.bulk]⟩
theorem tame_bool {b : Bool} {k m : Nat} : Tame (.bool b) k m := ⟨by simp [PyData.showable], by simp [PyData.leavesShort], by simp [PyData.depth], by simp [PyData.bulk]⟩
theorem small_log {i : Int} (h : i.natAbs < 10 ^ 30) : i.natAbs.log2 < 1920 := by
  by_cases h0 : i.natAbs = 0
  · rw [h0]; decide
  · refine (Nat.log2_lt h0).mpr (Nat.lt_of_lt_of_le h ?_)
    exact Nat.le_trans (show (10 : Nat) ^ 30 ≤ 2 ^ 100 by decide) (Nat.pow_le_pow_right (by decide) (by decide))
theorem tame_int {i : Int} {k m : Nat} (h : i.natAbs < 10 ^ 30) : Tame (.int i) k m := by
  refine ⟨?_, ?_, by simp [PyData.depth], by simp [PyData.bulk]⟩
  · simp only [PyData.showable, decide_eq_true_eq]
    exact small_log h
  · simp only [PyData.leavesShort, decide_eq_true_eq]
    rw [PyData.shown_int, ofString_length]
    exact Nat.le_trans (int_text_length_le10 (by decide) h) (by decide)
theorem tame_str {x : Str} {k m : Nat} (h : x.cps.size ≤ m) (hc : (x.cps.toList.all fun c => decide (c < 16 ^ 8)) = true) : Tame (.str x) k m :=
  ⟨by simp [PyData.showable], by simpa only [PyData.leavesShort] using hc, by simp [PyData.depth], by simpa only [PyData.bulk] using h⟩
theorem all_of {xs : List PyData} {k m : Nat} (h : ∀ x, x ∈ xs → Tame x k m) : PyData.showableAll xs = true ∧ PyData.leavesShortAll 40 xs = true ∧ PyData.depthAll xs ≤ k ∧ PyData.bulkAll xs ≤ xs.length * (m + 1) := by
  induction xs with
  | nil => exact ⟨by simp [PyData.showableAll], by simp [PyData.leavesShortAll], by simp [PyData.depthAll], by simp [PyData.bulkAll]⟩
  | cons x r ih =>
    obtain ⟨h1, h2, h3, h4⟩ := ih fun y hy => h y (List.mem_cons_of_mem _ hy)
    obtain ⟨g1, g2, g3, g4⟩ := h x (by simp)
    refine ⟨by simp only [PyData.showableAll, g1, h1, Bool.and_self], by simp only [PyData.leavesShortAll, g2, h2, Bool.and_self], ?_, ?_⟩
    · simp only [PyData.depthAll]; omega
    · simp only [PyData.bulkAll, List.length_cons]
      rw [Nat.add_mul, Nat.one_mul]
      omega
theorem tame_list {xs : List PyData} {k m n : Nat} (h : ∀ x, x ∈ xs → Tame x k m) (hn : xs.length ≤ n) : Tame (.list xs) (k + 1) (n * (m + 1)) := by
  obtain ⟨h1, h2, h3, h4⟩ := all_of h
  exact ⟨by simpa only [PyData.showable] using h1, by simpa only [PyData.leavesShort] using h2, by simp only [PyData.depth]; omega, by simp only [PyData.bulk]; exact Nat.le_trans h4 (Nat.mul_le_mul_right _ hn)⟩
theorem tame_tuple {xs : List PyData} {k m n : Nat} (h : ∀ x, x ∈ xs → Tame x k m) (hn : xs.length ≤ n) : Tame (.tuple xs) (k + 1) (n * (m + 1)) := by
  obtain ⟨h1, h2, h3, h4⟩ := all_of h
  exact ⟨by simpa only [PyData.showable] using h1, by simpa only [PyData.leavesShort] using h2, by simp only [PyData.depth]; omega, by simp only [PyData.bulk]; exact Nat.le_trans h4 (Nat.mul_le_mul_right _ hn)⟩
theorem Tame.fits {d : PyData} (h : Tame d 50 300000) : d.shown.length ≤ sizeLine := by
  have := PyData.shown_le_bulk 40 (by decide) d h.ls
  have hb := h.bk
  have hs : sizeLine = 16777216 := by decide
  rw [hs]; omega
section
variable {φ : Nat} {K : PyData → Nat → Prop}
theorem rl_reprT {x : PyData} (h : Tame x 50 300000) (k : K (.str x.shown) φ) : RL rRepr [.d x] φ K := rl_repr h.sh h.dp h.fits k
end
theorem tame_text {i : Int} {k m : Nat} (h : i.natAbs < 10 ^ 19) (hm : 20 ≤ m) : Tame (.str ((toString i : String) : Str)) k m := by
  have hl : (Str.ofString (toString i)).length ≤ 20 := by
    rw [ofString_length]
    exact int_text_length_le10 (by decide) h
  refine tame_str (Nat.le_trans hl hm) ?_
  rw [List.all_eq_true]
  intro c hc
  rw [Str.ofString_eq_toList] at hc
  obtain ⟨ch, _, rfl⟩ := List.mem_map.mp hc
  exact decide_eq_true (Nat.lt_of_lt_of_le ch.val.toNat_lt (by decide))
theorem all_app (xs ys : List PyData) : PyData.showableAll (xs ++ ys) = (PyData.showableAll xs && PyData.showableAll ys) ∧ PyData.leavesShortAll 40 (xs ++ ys) = (PyData.leavesShortAll 40 xs && PyData.leavesShortAll 40 ys) ∧ PyData.depthAll (xs ++ ys) = max (PyData.depthAll xs) (PyData.depthAll ys) ∧ PyData.bulkAll (xs ++ ys) = PyData.bulkAll xs + PyData.bulkAll ys := by
  induction xs with
  | nil => exact ⟨by simp [PyData.showableAll], by simp [PyData.leavesShortAll], by simp [PyData.depthAll], by simp [PyData.bulkAll]⟩
  | cons x r ih =>
    obtain ⟨h1, h2, h3, h4⟩ := ih
    simp only [List.cons_append, PyData.showableAll, PyData.leavesShortAll, PyData.depthAll, PyData.bulkAll, h1, h2, h3, h4, Bool.and_assoc]
    exact ⟨trivial, trivial, by omega, by omega⟩
theorem tame_grow {xs : List PyData} {y : PyData} {k m n : Nat} (h : Tame (.list xs) (k + 1) m) (hy : Tame y k n) : Tame (.list (xs ++ [y])) (k + 1) (m + n + 1) := by
  obtain ⟨a1, a2, a3, a4⟩ := all_app xs [y]
  obtain ⟨h1, h2, h3, h4⟩ := h
  obtain ⟨g1, g2, g3, g4⟩ := hy
  simp only [PyData.showable, PyData.leavesShort, PyData.depth, PyData.bulk] at h1 h2 h3 h4
  refine ⟨?_, ?_, ?_, ?_⟩
  · simp only [PyData.showable, a1, h1, PyData.showableAll, g1, Bool.and_self]
  · simp only [PyData.leavesShort, a2, h2, PyData.leavesShortAll, g2, Bool.and_self]
  · simp only [PyData.depth, a3, PyData.depthAll]; omega
  · simp only [PyData.bulk, a4, PyData.bulkAll]; omega
end Eg

/-! EgEnd -/
set_option Elab.async false
set_option linter.all false
set_option maxRecDepth 100000
set_option maxHeartbeats 2000000
/-! ## The end: a law's def whose promise asks for what is known of the guards -/
namespace Eg
open PySem PySem.Spec PyProof.Rows L2
/-- what is wanted of the call of a law's def -/
abbrev Told (s₁ : Shared) (r : Result) (s' : Shared) : Prop := r = .ok (.ret (.bool true)) ∧ OldK s₁.heap s'.heap ∧ s'.os = s₁.os ∧ AllBare s'.gens
section
variable {P : Program} {w : World} {K : PySem.W.Frag} {mg mb : Str → Option Value} {k : Nat} {fa a : Addr} {fd : FuncData} {x : Str} {sp : Sp} {s₁ : Shared} {vs : List Value} {ns : List Int}
/-- one heap: at most the script is tracked, frozen -/
theorem told_at {H : Hp} {o : Obj} {us : List V} (KX : K.In s₁.heap) (hm : s₁.heap.Ns mainGlobals mg) (hb : s₁.heap.Ns builtinsNs mb) (hbb : ∀ y : Str, y ≠ "__name__" → mb y = bootBuiltins y) (lim : s₁.heap.NoLimit) (hg : s₁.gens = #[])
    (ha : s₁.heap.get? a = some o) (nd : ∀ es ep, o.data ≠ .dict es ep) (room : Room k callerA)
    (hy : ∃ mm, s₁.heap.Ns sysModules mm) (F : ∀ base : Heap, K.In base → base.Ns mainGlobals mg → (∃ o, base.get? sysModules = some o) → FnG P w K mg base (L2.CX P w) k fa fd [x] sp) (bd : ∀ (s : Shared) (u : Value), BindsTo s fd ⟨[u], []⟩ [(x, u)])
    (hH : ∀ b, H b = none ∨ (b = a ∧ H b = some (.frz o (.lst us)))) (ok : HOk P w H s₁.heap) (hK : H a ≠ none → K.lookup a = none)
    (hs : sp [.ref a] H (fun v _ => v = .bl true) fun _ _ _ => False) : codeAny (model P w) callerA (.call (.ref fa) ⟨[.ref a], []⟩) (Told s₁) s₁ := by
  have only : ∀ b, H b ≠ none → b = a := fun b n => (hH b).elim (fun z => absurd z n) fun z => z.1
  have free : ∀ {b : Addr} {u : Obj}, s₁.heap.get? b = some u → b ≠ a → H b = none := fun {b u} _ n => (hH b).elim id fun z => absurd z.1 n
  have based : ∀ {b : Addr} {u : Obj}, s₁.heap.get? b = some u → H b = none → (hidT s₁.heap H).get? b = some u := fun e n => hidT_get e n
  have nsB : ∀ {b : Addr} {m : Str → Option Value}, s₁.heap.Ns b m → (hidT s₁.heap H).Ns b m := fun {b m} q => by
    obtain ⟨u, es, ep, e, d, r⟩ := q
    refine ⟨u, es, ep, based e (free e fun z => ?_), d, r⟩
    subst z
    rw [ha] at e
    cases e
    exact nd _ _ d
  have kin : K.In (hidT s₁.heap H) := fun b u e => based (KX b u e) (by
    rcases hH b with z | ⟨rfl, z⟩
    · exact z
    · have := hK (by rw [z]; simp)
      rw [this] at e
      cases e)
  have md : Mod K mg (hidT s₁.heap H) := by
    obtain ⟨mc, l1, l2⟩ := lim
    exact { kin := kin, glob := nsB hm, blt := ⟨mb, nsB hb, hbb⟩, nolimit := ⟨mc, nsB l1, l2⟩ }
  have env : Env0 P w K mg (hidT s₁.heap H) callerA [] s₁ H :=
    { frames := rfl, mod := md, bs := fun b u e => of_hidT e, bsz := Nat.le_of_eq (hidT_size _ _), funs := trivial, frf := fun b z => absurd (show b ∈ ([] : List Addr) from z) (by simp), hok := ok, bare := .of_eq hg }
  have sy : ∃ o, (hidT s₁.heap H).get? sysModules = some o := by
    obtain ⟨mm, y⟩ := hy
    obtain ⟨o', _, _, e, _⟩ := nsB y
    exact ⟨o', e⟩
  have run := (F _ kin (nsB hm) sy).run callerA [] s₁ H ⟨[.ref a], []⟩ [.ref a] [.ref a] _ _ room rfl env (bd s₁ (.ref a)) (.cons rfl .nil) hs
  refine codeAny_mono run fun r s' q => ?_
  match r, q with
  | .error e, q =>
    obtain ⟨_, _, _, _, _, _, _, _, _, _, _, _, z⟩ := q
    exact z.elim
  | .ok .next, q => exact q.elim
  | .ok .brk, q => exact q.elim
  | .ok .cont, q => exact q.elim
  | .ok (.ret u), q =>
    obtain ⟨v, H', os, bare, un, ok', rv, hv⟩ := q
    cases (show v = .bl true from hv)
    cases (show u = Value.bool true from rv)
    refine ⟨rfl, .of_keep fun b u e => ?_, os, bare⟩
    rcases hH b with z | ⟨rfl, z⟩
    · exact un.keep b u e z (fun y => absurd (show b ∈ ([] : List Addr) from y) (by simp)) (by simp)
    · rw [ha] at e
      cases e
      exact (ok' _ _ (un.frzs _ _ _ z)).1
/-- the goal that the head leaves, from the promise of the law's def -/
theorem walk_ofG {l : PySem.W.OpenLaw} {n k : Nat} {q : Program} {loose : List Str} {XP : (Str → Option Value) → Heap → Prop} {YP : World → Heap → Prop} {d : DefRec} {K : Params → PySem.W.Frag} {sp : PySem.W.Frag → Sp} {x : Str}
    (hn : l.most = some n) (hz : n ≤ sizeLine) (nodef : d.params.defaults = []) (room : Room k callerA) (imp : importsNone q = true) (part : ∀ (w : World) (h : Heap), YP w h → (K w.params).In h)
    (F : ∀ (w : World) (mg : Str → Option Value) (fa : Addr) (h : Heap), (K w.params).In h → h.Ns mainGlobals mg → mg d.name = some (.ref fa) →
      ∃ fd : FuncData, (∀ (s : Shared) (u : Value), BindsTo s fd ⟨[u], []⟩ [(x, u)]) ∧ ∀ base : Heap, (K w.params).In base → base.Ns mainGlobals mg → (∃ o, base.get? sysModules = some o) → FnG l.prog w (K w.params) mg base (L2.CX l.prog w) k fa fd [x] (sp (K w.params)))
    (hs : ∀ (w : World) (H : Hp) (a : Addr) (ns : List Int), ns.length ≤ n → ScrAt (K w.params) H a ns → (∀ b, H b = none ∨ ∃ o us, H b = some (.frz o (.lst us))) → sp (K w.params) [.ref a] H (fun v _ => v = .bl true) fun _ _ _ => False) :
    PySem.W.WalkO q loose XP YP l.row.toRowW d [] (fun f vs => PySem.call f vs) := by
  refine Att.attach_call hn nodef fun w s₀ s₁ mg mb fa o pm cd doc a vs ns G Y ho hd hcd hmg hobj hints hlen hg => ?_
  have KX := part w _ Y
  obtain ⟨fd, bd, F'⟩ := F w mg fa _ KX G.T.g hmg
  have sy : ∃ mm, s₁.heap.Ns sysModules mm := let ⟨mm, y, _⟩ := (G.T.seer imp).mods; ⟨mm, y⟩
  have rv := vals_ints hints
  have len := Nat.le_trans hlen hz
  have nd : ∀ es ep, ({ cls := .type "list", data := .seq vs.toArray } : Obj).data ≠ .dict es ep := fun _ _ e => nomatch e
  cases hk : (K w.params).lookup a with
  | some u =>
    have e := KX a u hk
    rw [hobj] at e
    cases e
    refine told_at (us := []) (H := fun _ => none) KX G.T.g G.T.b G.T.builtins G.T.nolimit hg hobj nd room sy F' bd (fun _ => .inl rfl) (fun b u z => nomatch (show (none : Option HO) = some u from z)) (fun z => absurd rfl z) ?_
    refine hs w _ a ns hlen (.inr fun H => .inr ⟨_, vs.toArray, _, hk, rfl, rfl, rfl, ?_, by simpa using rv⟩) fun b => .inl rfl
    rw [List.size_toArray, hints.length]
    exact len
  | none =>
    have at_ : ∀ b, (if b = a then some (HO.frz { cls := .type "list", data := .seq vs.toArray } (.lst (ns.map V.int))) else none) = none ∨
        (b = a ∧ (if b = a then some (HO.frz { cls := .type "list", data := .seq vs.toArray } (.lst (ns.map V.int))) else none) = some (.frz { cls := .type "list", data := .seq vs.toArray } (.lst (ns.map V.int)))) := fun b => by
      by_cases e : b = a
      · exact .inr ⟨e, if_pos e⟩
      · exact .inl (if_neg e)
    refine told_at (us := ns.map V.int) (H := fun b => if b = a then some (.frz { cls := .type "list", data := .seq vs.toArray } (.lst (ns.map V.int))) else none) KX G.T.g G.T.b G.T.builtins G.T.nolimit hg hobj nd room sy F' bd at_ (fun b u z => ?_) (fun _ => hk)
      (hs w _ a ns hlen (.inl ⟨_, if_pos rfl⟩) fun b => (at_ b).elim .inl fun z => .inr ⟨_, _, z.2⟩)
    rcases at_ b with e | ⟨e1, e2⟩
    · cases e.symm.trans z
    · cases e2.symm.trans z
      subst e1
      exact ⟨hobj, by rw [List.length_map]; exact len, vs, _, rv, hobj⟩
end
end Eg

/-! K9c -/
set_option Elab.async false
set_option linter.all false
set_option maxRecDepth 100000
set_option maxHeartbeats 2000000

namespace K9
open PySem PySem.Spec PyProof.Rows L2 Eg

def top (i : Nat) : Stmt := PySem.Challenge.pw_everygrain_k09_folds_by_walks.main.body.getD i (.Pass ⟨0, 0, 0, 0⟩)
abbrev s_is_list : Stmt := top 5
theorem sc_is_list : FnScope ["value"] ["value"] (defScope s_is_list) := ⟨rfl, rfl, rfl, by decide +kernel, rfl, by decide +kernel, by decide +kernel⟩
abbrev s_is_integer : Stmt := top 6
theorem sc_is_integer : FnScope ["value"] ["value"] (defScope s_is_integer) := ⟨rfl, rfl, rfl, by decide +kernel, rfl, by decide +kernel, by decide +kernel⟩
abbrev s_is_count : Stmt := top 7
theorem sc_is_count : FnScope ["value"] ["value"] (defScope s_is_count) := ⟨rfl, rfl, rfl, by decide +kernel, rfl, by decide +kernel, by decide +kernel⟩
abbrev s__is_point : Stmt := top 9
theorem sc__is_point : FnScope ["value"] ["value"] (defScope s__is_point) := ⟨rfl, rfl, rfl, by decide +kernel, rfl, by decide +kernel, by decide +kernel⟩
abbrev s_is_points : Stmt := top 10
theorem sc_is_points : FnScope ["value", "point", "following"] ["value"] (defScope s_is_points) := ⟨rfl, rfl, rfl, by decide +kernel, rfl, by decide +kernel, by decide +kernel⟩
abbrev s__is_rows : Stmt := top 11
theorem sc__is_rows : FnScope ["value", "row"] ["value"] (defScope s__is_rows) := ⟨rfl, rfl, rfl, by decide +kernel, rfl, by decide +kernel, by decide +kernel⟩
abbrev s_fold_of : Stmt := top 12
theorem sc_fold_of : FnScope ["rows", "told", "row"] ["rows"] (defScope s_fold_of) := ⟨rfl, rfl, rfl, by decide +kernel, rfl, by decide +kernel, by decide +kernel⟩
abbrev s_fold : Stmt := top 13
theorem sc_fold : FnScope ["points"] ["points"] (defScope s_fold) := ⟨rfl, rfl, rfl, by decide +kernel, rfl, by decide +kernel, by decide +kernel⟩
abbrev s__fold_of_row : Stmt := top 14
theorem sc__fold_of_row : FnScope ["points", "values", "time", "value"] ["points"] (defScope s__fold_of_row) := ⟨rfl, rfl, rfl, by decide +kernel, rfl, by decide +kernel, by decide +kernel⟩
abbrev s__put_beside : Stmt := top 15
theorem sc__put_beside : FnScope ["one", "other", "first", "last"] ["one", "other"] (defScope s__put_beside) := ⟨rfl, rfl, rfl, by decide +kernel, rfl, by decide +kernel, by decide +kernel⟩
abbrev s__summed : Stmt := top 16
theorem sc__summed : FnScope ["one", "other"] ["one", "other"] (defScope s__summed) := ⟨rfl, rfl, rfl, by decide +kernel, rfl, by decide +kernel, by decide +kernel⟩
abbrev s__law_cell : Stmt := top 18
theorem sc__law_cell : FnScope ["script", "k"] ["script", "k"] (defScope s__law_cell) := ⟨rfl, rfl, rfl, by decide +kernel, rfl, by decide +kernel, by decide +kernel⟩
abbrev s__law_box : Stmt := top 19
theorem sc__law_box : FnScope ["great"] ["great"] (defScope s__law_box) := ⟨rfl, rfl, rfl, by decide +kernel, rfl, by decide +kernel, by decide +kernel⟩
abbrev s__law_take : Stmt := top 20
theorem sc__law_take : FnScope ["box", "many", "mixed", "digit"] ["box", "many"] (defScope s__law_take) := ⟨rfl, rfl, rfl, by decide +kernel, rfl, by decide +kernel, by decide +kernel⟩
abbrev s__law_value : Stmt := top 21
theorem sc__law_value : FnScope ["box", "way"] ["box"] (defScope s__law_value) := ⟨rfl, rfl, rfl, by decide +kernel, rfl, by decide +kernel, by decide +kernel⟩
abbrev s__law_row : Stmt := top 22
theorem sc__law_row : FnScope ["box", "pool", "found", "share", "time"] ["box", "pool"] (defScope s__law_row) := ⟨rfl, rfl, rfl, by decide +kernel, rfl, by decide +kernel, by decide +kernel⟩
abbrev s__law_pool : Stmt := top 23
theorem sc__law_pool : FnScope ["box", "time", "gap", "found", "turn"] ["box"] (defScope s__law_pool) := ⟨rfl, rfl, rfl, by decide +kernel, rfl, by decide +kernel, by decide +kernel⟩
abbrev s__law_rows : Stmt := top 24
theorem sc__law_rows : FnScope ["box", "shared", "many", "found", "pool", "turn"] ["box"] (defScope s__law_rows) := ⟨rfl, rfl, rfl, by decide +kernel, rfl, by decide +kernel, by decide +kernel⟩
abbrev s__law_long : Stmt := top 25
theorem sc__law_long : FnScope ["box", "time", "found", "turn"] ["box"] (defScope s__law_long) := ⟨rfl, rfl, rfl, by decide +kernel, rfl, by decide +kernel, by decide +kernel⟩
abbrev s__law_is_count : Stmt := top 26
theorem sc__law_is_count : FnScope ["value"] ["value"] (defScope s__law_is_count) := ⟨rfl, rfl, rfl, by decide +kernel, rfl, by decide +kernel, by decide +kernel⟩
abbrev s__law_is_row : Stmt := top 27
theorem sc__law_is_row : FnScope ["value", "ahead", "point"] ["value"] (defScope s__law_is_row) := ⟨rfl, rfl, rfl, by decide +kernel, rfl, by decide +kernel, by decide +kernel⟩
abbrev s__law_fold : Stmt := top 28
theorem sc__law_fold : FnScope ["rows", "found", "row", "point"] ["rows"] (defScope s__law_fold) := ⟨rfl, rfl, rfl, by decide +kernel, rfl, by decide +kernel, by decide +kernel⟩
abbrev s__law_spoilt : Stmt := top 29
theorem sc__law_spoilt : FnScope ["box", "row", "way", "at", "time", "value", "odd"] ["box", "row"] (defScope s__law_spoilt) := ⟨rfl, rfl, rfl, by decide +kernel, rfl, by decide +kernel, by decide +kernel⟩
abbrev s__law_asked : Stmt := top 30
theorem sc__law_asked : FnScope ["door", "value", "e"] ["door", "value"] (defScope s__law_asked) := ⟨rfl, rfl, rfl, by decide +kernel, rfl, by decide +kernel, by decide +kernel⟩
abbrev s__law_copy : Stmt := top 31
theorem sc__law_copy : FnScope ["value"] ["value"] (defScope s__law_copy) := ⟨rfl, rfl, rfl, by decide +kernel, rfl, by decide +kernel, by decide +kernel⟩
abbrev s__law_refused : Stmt := top 32
theorem sc__law_refused : FnScope ["door", "value", "handed", "told"] ["door", "value"] (defScope s__law_refused) := ⟨rfl, rfl, rfl, by decide +kernel, rfl, by decide +kernel, by decide +kernel⟩
abbrev s__law_row_right : Stmt := top 33
theorem sc__law_row_right : FnScope ["value", "rows", "at", "among", "due", "wide", "row"] ["value", "rows", "at"] (defScope s__law_row_right) := ⟨rfl, rfl, rfl, by decide +kernel, rfl, by decide +kernel, by decide +kernel⟩
abbrev s__law_rows_right : Stmt := top 34
theorem sc__law_rows_right : FnScope ["rows", "due", "before", "row", "turned"] ["rows"] (defScope s__law_rows_right) := ⟨rfl, rfl, rfl, by decide +kernel, rfl, by decide +kernel, by decide +kernel⟩
abbrev s__law_bare_right : Stmt := top 35
theorem sc__law_bare_right : FnScope ["value"] [] (defScope s__law_bare_right) := ⟨rfl, rfl, rfl, by decide +kernel, rfl, by decide +kernel, by decide +kernel⟩
abbrev s_law : Stmt := top 36
theorem sc_law : FnScope ["script", "k", "box", "turn", "rows", "row", "spoil", "value"] ["script"] (defScope s_law) := ⟨rfl, rfl, rfl, by decide +kernel, rfl, by decide +kernel, by decide +kernel⟩
/-- what the top has left -/
structure Tx (K : PySem.W.Frag) (mg : Str → Option Value) (base : Heap) where
  sys : ∃ o, base.get? sysModules = some o
  m_abs : mg "abs" = none
  m_all : mg "all" = none
  m_bool : mg "bool" = none
  m_int : mg "int" = none
  m_isinstance : mg "isinstance" = none
  m_len : mg "len" = none
  m_list : mg "list" = none
  m_max : mg "max" = none
  m_min : mg "min" = none
  m_range : mg "range" = none
  m_repr : mg "repr" = none
  m_str : mg "str" = none
  m_sum : mg "sum" = none
  m_tuple : mg "tuple" = none
  m_zip : mg "zip" = none
  grain : Addr
  c_InvalidPoints : Addr
  i_InvalidPoints : Addr
  low_InvalidPoints : PySem.EgX.Low_given K mg "InvalidPoints" "InvalidPoints.__init__" c_InvalidPoints grain i_InvalidPoints
  c_InvalidRows : Addr
  i_InvalidRows : Addr
  low_InvalidRows : PySem.EgX.Low_given K mg "InvalidRows" "InvalidRows.__init__" c_InvalidRows grain i_InvalidRows
  ne_InvalidPoints_InvalidRows : PySem.W.exmOne K (.ref c_InvalidPoints) (.ref c_InvalidRows) = some false
  ne_InvalidRows_InvalidPoints : PySem.W.exmOne K (.ref c_InvalidRows) (.ref c_InvalidPoints) = some false
  a_is_list : Addr
  fd_is_list : FuncData
  g_is_list : mg "is_list" = some (.ref a_is_list)
  F_is_list : Fun K "is_list" "is_list" s_is_list a_is_list fd_is_list
  b_is_list : Binds K fd_is_list ["value"] []
  a_is_integer : Addr
  fd_is_integer : FuncData
  g_is_integer : mg "is_integer" = some (.ref a_is_integer)
  F_is_integer : Fun K "is_integer" "is_integer" s_is_integer a_is_integer fd_is_integer
  b_is_integer : Binds K fd_is_integer ["value"] []
  a_is_count : Addr
  fd_is_count : FuncData
  g_is_count : mg "is_count" = some (.ref a_is_count)
  F_is_count : Fun K "is_count" "is_count" s_is_count a_is_count fd_is_count
  b_is_count : Binds K fd_is_count ["value"] []
  a__is_point : Addr
  fd__is_point : FuncData
  g__is_point : mg "_is_point" = some (.ref a__is_point)
  F__is_point : Fun K "_is_point" "_is_point" s__is_point a__is_point fd__is_point
  b__is_point : Binds K fd__is_point ["value"] []
  a_is_points : Addr
  fd_is_points : FuncData
  g_is_points : mg "is_points" = some (.ref a_is_points)
  F_is_points : Fun K "is_points" "is_points" s_is_points a_is_points fd_is_points
  b_is_points : Binds K fd_is_points ["value"] []
  a__is_rows : Addr
  fd__is_rows : FuncData
  g__is_rows : mg "_is_rows" = some (.ref a__is_rows)
  F__is_rows : Fun K "_is_rows" "_is_rows" s__is_rows a__is_rows fd__is_rows
  b__is_rows : Binds K fd__is_rows ["value"] []
  a_fold_of : Addr
  fd_fold_of : FuncData
  g_fold_of : mg "fold_of" = some (.ref a_fold_of)
  F_fold_of : Fun K "fold_of" "fold_of" s_fold_of a_fold_of fd_fold_of
  b_fold_of : Binds K fd_fold_of ["rows"] []
  a_fold : Addr
  fd_fold : FuncData
  g_fold : mg "fold" = some (.ref a_fold)
  F_fold : Fun K "fold" "fold" s_fold a_fold fd_fold
  b_fold : Binds K fd_fold ["points"] []
  a__fold_of_row : Addr
  fd__fold_of_row : FuncData
  g__fold_of_row : mg "_fold_of_row" = some (.ref a__fold_of_row)
  F__fold_of_row : Fun K "_fold_of_row" "_fold_of_row" s__fold_of_row a__fold_of_row fd__fold_of_row
  b__fold_of_row : Binds K fd__fold_of_row ["points"] []
  a__put_beside : Addr
  fd__put_beside : FuncData
  g__put_beside : mg "_put_beside" = some (.ref a__put_beside)
  F__put_beside : Fun K "_put_beside" "_put_beside" s__put_beside a__put_beside fd__put_beside
  b__put_beside : Binds K fd__put_beside ["one", "other"] []
  a__summed : Addr
  fd__summed : FuncData
  g__summed : mg "_summed" = some (.ref a__summed)
  F__summed : Fun K "_summed" "_summed" s__summed a__summed fd__summed
  b__summed : Binds K fd__summed ["one", "other"] []
  a__law_cell : Addr
  fd__law_cell : FuncData
  g__law_cell : mg "_law_cell" = some (.ref a__law_cell)
  F__law_cell : Fun K "_law_cell" "_law_cell" s__law_cell a__law_cell fd__law_cell
  b__law_cell : Binds K fd__law_cell ["script", "k"] []
  a__law_box : Addr
  fd__law_box : FuncData
  g__law_box : mg "_law_box" = some (.ref a__law_box)
  F__law_box : Fun K "_law_box" "_law_box" s__law_box a__law_box fd__law_box
  b__law_box : Binds K fd__law_box ["great"] []
  a__law_take : Addr
  fd__law_take : FuncData
  g__law_take : mg "_law_take" = some (.ref a__law_take)
  F__law_take : Fun K "_law_take" "_law_take" s__law_take a__law_take fd__law_take
  b__law_take : Binds K fd__law_take ["box", "many"] []
  a__law_value : Addr
  fd__law_value : FuncData
  g__law_value : mg "_law_value" = some (.ref a__law_value)
  F__law_value : Fun K "_law_value" "_law_value" s__law_value a__law_value fd__law_value
  b__law_value : Binds K fd__law_value ["box"] []
  a__law_row : Addr
  fd__law_row : FuncData
  g__law_row : mg "_law_row" = some (.ref a__law_row)
  F__law_row : Fun K "_law_row" "_law_row" s__law_row a__law_row fd__law_row
  b__law_row : Binds K fd__law_row ["box", "pool"] []
  a__law_pool : Addr
  fd__law_pool : FuncData
  g__law_pool : mg "_law_pool" = some (.ref a__law_pool)
  F__law_pool : Fun K "_law_pool" "_law_pool" s__law_pool a__law_pool fd__law_pool
  b__law_pool : Binds K fd__law_pool ["box"] []
  a__law_rows : Addr
  fd__law_rows : FuncData
  g__law_rows : mg "_law_rows" = some (.ref a__law_rows)
  F__law_rows : Fun K "_law_rows" "_law_rows" s__law_rows a__law_rows fd__law_rows
  b__law_rows : Binds K fd__law_rows ["box"] []
  a__law_long : Addr
  fd__law_long : FuncData
  g__law_long : mg "_law_long" = some (.ref a__law_long)
  F__law_long : Fun K "_law_long" "_law_long" s__law_long a__law_long fd__law_long
  b__law_long : Binds K fd__law_long ["box"] []
  a__law_is_count : Addr
  fd__law_is_count : FuncData
  g__law_is_count : mg "_law_is_count" = some (.ref a__law_is_count)
  F__law_is_count : Fun K "_law_is_count" "_law_is_count" s__law_is_count a__law_is_count fd__law_is_count
  b__law_is_count : Binds K fd__law_is_count ["value"] []
  a__law_is_row : Addr
  fd__law_is_row : FuncData
  g__law_is_row : mg "_law_is_row" = some (.ref a__law_is_row)
  F__law_is_row : Fun K "_law_is_row" "_law_is_row" s__law_is_row a__law_is_row fd__law_is_row
  b__law_is_row : Binds K fd__law_is_row ["value"] []
  a__law_fold : Addr
  fd__law_fold : FuncData
  g__law_fold : mg "_law_fold" = some (.ref a__law_fold)
  F__law_fold : Fun K "_law_fold" "_law_fold" s__law_fold a__law_fold fd__law_fold
  b__law_fold : Binds K fd__law_fold ["rows"] []
  a__law_spoilt : Addr
  fd__law_spoilt : FuncData
  g__law_spoilt : mg "_law_spoilt" = some (.ref a__law_spoilt)
  F__law_spoilt : Fun K "_law_spoilt" "_law_spoilt" s__law_spoilt a__law_spoilt fd__law_spoilt
  b__law_spoilt : Binds K fd__law_spoilt ["box", "row"] []
  a__law_asked : Addr
  fd__law_asked : FuncData
  g__law_asked : mg "_law_asked" = some (.ref a__law_asked)
  F__law_asked : Fun K "_law_asked" "_law_asked" s__law_asked a__law_asked fd__law_asked
  b__law_asked : Binds K fd__law_asked ["door", "value"] []
  a__law_copy : Addr
  fd__law_copy : FuncData
  g__law_copy : mg "_law_copy" = some (.ref a__law_copy)
  F__law_copy : Fun K "_law_copy" "_law_copy" s__law_copy a__law_copy fd__law_copy
  b__law_copy : Binds K fd__law_copy ["value"] []
  a__law_refused : Addr
  fd__law_refused : FuncData
  g__law_refused : mg "_law_refused" = some (.ref a__law_refused)
  F__law_refused : Fun K "_law_refused" "_law_refused" s__law_refused a__law_refused fd__law_refused
  b__law_refused : Binds K fd__law_refused ["door", "value"] []
  a__law_row_right : Addr
  fd__law_row_right : FuncData
  g__law_row_right : mg "_law_row_right" = some (.ref a__law_row_right)
  F__law_row_right : Fun K "_law_row_right" "_law_row_right" s__law_row_right a__law_row_right fd__law_row_right
  b__law_row_right : Binds K fd__law_row_right ["value", "rows", "at"] []
  a__law_rows_right : Addr
  fd__law_rows_right : FuncData
  g__law_rows_right : mg "_law_rows_right" = some (.ref a__law_rows_right)
  F__law_rows_right : Fun K "_law_rows_right" "_law_rows_right" s__law_rows_right a__law_rows_right fd__law_rows_right
  b__law_rows_right : Binds K fd__law_rows_right ["rows"] []
  a__law_bare_right : Addr
  fd__law_bare_right : FuncData
  g__law_bare_right : mg "_law_bare_right" = some (.ref a__law_bare_right)
  F__law_bare_right : Fun K "_law_bare_right" "_law_bare_right" s__law_bare_right a__law_bare_right fd__law_bare_right
  b__law_bare_right : Binds K fd__law_bare_right [] []
  a_law : Addr
  fd_law : FuncData
  g_law : mg "law" = some (.ref a_law)
  F_law : Fun K "law" "law" s_law a_law fd_law
  b_law : Binds K fd_law ["script"] []
  kb_fold_0_points : KB fd_fold ["points"] ["points"] 0 (fun _ ws => ws) (fun _ zs => zs)
  kb_fold_of_0_rows : KB fd_fold_of ["rows"] ["rows"] 0 (fun _ ws => ws) (fun _ zs => zs)
  kb_is_points_0_value : KB fd_is_points ["value"] ["value"] 0 (fun _ ws => ws) (fun _ zs => zs)
end K9

/-! K9m -/
set_option Elab.async false
set_option linter.all false
namespace K9
open PySem PySem.Spec PyProof.Rows L2 Eg
/-! ## the mathematics of points -/
/-- a count: an int from 0 on -/
def isCnt : PyData → Bool
  | .int i => decide (0 ≤ i)
  | _ => false
def isVal : PyData → Bool
  | .int _ => true
  | _ => false
theorem isVal_eq (x : PyData) : (isInt x && !isBool x) = isVal x := by cases x <;> rfl
def isPt : PyData → Bool
  | .tuple [a, b] => isCnt a && isVal b
  | _ => false
end K9
namespace K9
open PySem PySem.Spec PyProof.Rows L2 Eg
def timeOf : PyData → Int
  | .tuple (.int t :: _) => t
  | _ => 0
/-- ascending times -/
def asc : List PyData → Bool
  | x :: y :: r => decide (timeOf x < timeOf y) && asc (y :: r)
  | _ => true
def isPts : PyData → Bool
  | .list xs => xs.all isPt && asc xs
  | .tuple xs => xs.all isPt && asc xs
  | _ => false
end K9
namespace K9
open PySem PySem.Spec PyProof.Rows L2 Eg
theorem pt_shape {x : PyData} (h : isPt x = true) : ∃ (t v : Int), x = .tuple [.int t, .int v] ∧ 0 ≤ t := by
  cases x with
  | tuple ds =>
    rcases ds with _ | ⟨a, _ | ⟨b, _ | ⟨c, ds⟩⟩⟩
    · cases h
    · cases h
    · have h' : (isCnt a && isVal b) = true := h
      rw [Bool.and_eq_true] at h'
      cases a with
      | int t =>
        cases b with
        | int v => exact ⟨t, v, rfl, of_decide_eq_true h'.1⟩
        | _ => cases h'.2
      | _ => cases h'.1
    · cases h
  | _ => cases h
theorem cut_tail (ds : List PyData) : Eg.cutD ds (some 1) none = ds.drop 1 := by
  unfold Eg.cutD
  rw [show HT.sIx ds.length 0 (some 1) = min 1 ds.length from HT.sIx_nat ds.length 0 1, HT.sIx_none]
  cases ds with
  | nil => rfl
  | cons x r =>
    rw [show min 1 (x :: r).length = 1 by rw [List.length_cons]; omega]
    show (List.take ((x :: r).length - 1) r) = r
    rw [List.length_cons, Nat.add_sub_cancel]
    exact List.take_length
theorem asc_zip : ∀ ds : List PyData, (List.zipWith (fun x y => decide (timeOf x < timeOf y)) ds (ds.drop 1)).all id = asc ds
  | [] => rfl
  | [x] => rfl
  | x :: y :: r => by
    have ih := asc_zip (y :: r)
    show (decide (timeOf x < timeOf y) && (List.zipWith (fun x y => decide (timeOf x < timeOf y)) (y :: r) ((y :: r).drop 1)).all id) = _
    rw [ih]
    rfl
theorem all_map {p : PyData → Bool} (ds : List PyData) : (ds.map p).all id = ds.all p := by
  induction ds with
  | nil => rfl
  | cons x r ih => rw [List.map_cons, List.all_cons, List.all_cons, ih]; rfl
/-- the items of a row of points -/
def isRows : PyData → Bool
  | .list xs => xs.all isPts
  | .tuple xs => xs.all isPts
  | _ => false
/-- (time, value) -/
def tv : PyData → Int × Int
  | .tuple [.int t, .int v] => (t, v)
  | _ => (0, 0)
theorem tv_eq {x : PyData} (h : isPt x = true) : x = .tuple [.int (tv x).1, .int (tv x).2] := by
  obtain ⟨t, v, rfl, _⟩ := pt_shape h
  rfl
def vals (ds : List PyData) : List Int := ds.map fun d => (tv d).2
/-- the least and the greatest of some ints -/
def least : List Int → Int
  | [] => 0
  | [x] => x
  | x :: r => if x ≤ least r then x else least r
def most : List Int → Int
  | [] => 0
  | [x] => x
  | x :: r => if most r ≤ x then x else most r
theorem least_is : ∀ {ns : List Int} {m : Int}, m ∈ ns → (∀ y, y ∈ ns → m ≤ y) → m = least ns
  | [], m, h, _ => by simp at h
  | [x], m, h, _ => by simp at h; exact h
  | x :: y :: r, m, h, hl => by
    show m = if x ≤ least (y :: r) then x else least (y :: r)
    have hx := hl x (by simp)
    by_cases hm : m ∈ y :: r
    · have e := least_is hm fun z hz => hl z (by simp at hz ⊢; exact .inr hz)
      by_cases c : x ≤ least (y :: r)
      · rw [if_pos c]; omega
      · rw [if_neg c]; exact e
    · have e : m = x := by
        rcases List.mem_cons.mp h with e | e
        · exact e
        · exact absurd e hm
      have hle : x ≤ least (y :: r) := by
        have mem : ∀ {l : List Int}, l ≠ [] → least l ∈ l := by
          intro l
          induction l with
          | nil => intro z; exact absurd rfl z
          | cons a l ih =>
            intro _
            cases l with
            | nil => simp [least]
            | cons b l =>
              show (if a ≤ least (b :: l) then a else least (b :: l)) ∈ _
              by_cases c : a ≤ least (b :: l)
              · rw [if_pos c]; simp
              · rw [if_neg c]; exact List.mem_cons_of_mem _ (ih (by simp))
        have := hl _ (List.mem_cons_of_mem x (mem (l := y :: r) (by simp)))
        omega
      rw [if_pos hle]; exact e
theorem most_is : ∀ {ns : List Int} {m : Int}, m ∈ ns → (∀ y, y ∈ ns → y ≤ m) → m = most ns
  | [], m, h, _ => by simp at h
  | [x], m, h, _ => by simp at h; exact h
  | x :: y :: r, m, h, hl => by
    show m = if most (y :: r) ≤ x then x else most (y :: r)
    have hx := hl x (by simp)
    by_cases hm : m ∈ y :: r
    · have e := most_is hm fun z hz => hl z (by simp at hz ⊢; exact .inr hz)
      by_cases c : most (y :: r) ≤ x
      · rw [if_pos c]; omega
      · rw [if_neg c]; exact e
    · have e : m = x := by
        rcases List.mem_cons.mp h with e | e
        · exact e
        · exact absurd e hm
      have hle : most (y :: r) ≤ x := by
        have mem : ∀ {l : List Int}, l ≠ [] → most l ∈ l := by
          intro l
          induction l with
          | nil => intro z; exact absurd rfl z
          | cons a l ih =>
            intro _
            cases l with
            | nil => simp [most]
            | cons b l =>
              show (if most (b :: l) ≤ a then a else most (b :: l)) ∈ _
              by_cases c : most (b :: l) ≤ a
              · rw [if_pos c]; simp
              · rw [if_neg c]; exact List.mem_cons_of_mem _ (ih (by simp))
        have := hl _ (List.mem_cons_of_mem x (mem (l := y :: r) (by simp)))
        omega
      rw [if_pos hle]; exact e
end K9

/-! K9f -/
set_option Elab.async false
set_option linter.all false
namespace K9
open PySem PySem.Spec PyProof.Rows L2 Eg
/-! ## folds -/
structure Fd where
  n : Int
  s : Int
  lo : Int
  hi : Int
  f : Int × Int
  l : Int × Int
abbrev ptD (p : Int × Int) : PyData := .tuple [.int p.1, .int p.2]
abbrev Fd.d (x : Fd) : PyData := .tuple [.int x.n, .int x.s, .int x.lo, .int x.hi, ptD x.f, ptD x.l]
def fdD : Option Fd → PyData
  | none => .none
  | some x => x.d
def besF (a b : Fd) : Fd := ⟨a.n + b.n, a.s + b.s, if b.lo < a.lo then b.lo else a.lo, if b.hi > a.hi then b.hi else a.hi, if b.f.1 < a.f.1 then b.f else a.f, if b.l.1 ≥ a.l.1 then b.l else a.l⟩
def besO : Option Fd → Option Fd → Option Fd
  | none, y => y
  | some x, none => some x
  | some x, some y => some (besF x y)
def lastOf : List PyData → PyData
  | [] => .none
  | [x] => x
  | _ :: y :: r => lastOf (y :: r)
theorem atI_lastOf : ∀ (x : PyData) (r : List PyData), atI (x :: r) (-1) = some (lastOf (x :: r)) := by
  have key : ∀ (r : List PyData) (x : PyData), ∃ ys, x :: r = ys ++ [lastOf (x :: r)] := by
    intro r
    induction r with
    | nil => intro x; exact ⟨[], rfl⟩
    | cons y r ih =>
      intro x
      obtain ⟨ys, h⟩ := ih y
      exact ⟨x :: ys, by show x :: y :: r = x :: ys ++ [lastOf (y :: r)]; rw [List.cons_append, ← h]⟩
  intro x r
  obtain ⟨ys, h⟩ := key r x
  have e : lastOf (x :: r) = lastOf (ys ++ [lastOf (x :: r)]) := congrArg lastOf h
  rw [h]
  rw [← e]
  exact L2.atI_last ys _
theorem lastOf_mem : ∀ (x : PyData) (r : List PyData), lastOf (x :: r) ∈ x :: r
  | x, [] => by simp [lastOf]
  | x, y :: r => List.mem_cons_of_mem _ (lastOf_mem y r)
def rowF : List PyData → Option Fd
  | [] => none
  | x :: r => some ⟨((x :: r).length : Int), (vals (x :: r)).sum, least (vals (x :: r)), most (vals (x :: r)), tv x, tv (lastOf (x :: r))⟩
def itemsL : PyData → List PyData
  | .list xs => xs
  | .tuple xs => xs
  | _ => []
/-- the fold of a list of rows, row by row -/
def rowsF (rows : List PyData) : Option Fd := (rows.map fun r => rowF (itemsL r)).foldl besO none
theorem ptD_tv {x : PyData} (h : isPt x = true) : ptD (tv x) = x := (tv_eq h).symm
/-- [v for t, v in points] -/
theorem wf_vals {W : WX} {δ : List SD} {φ : Nat} {tl : TE} {KF : PySem.W.Frag} {XK : XC} {i j : Nat} {vs : List Nat} {KL : List PyData → Nat → Prop} (hij : i ≠ j) (hi : i < δ.length) (hj : j < δ.length) (hv : vs = [i, j])
    (h : WD W tl δ φ (fun d φ1 => ∃ ds, itemsOf d = some ds ∧ ds.length ≤ 1000000 ∧ (∀ x, x ∈ ds → isPt x = true) ∧ KL ((vals ds).map .int) φ1) XK) :
    WF W (tLc (iSeq KF tl) (gTup KF 2 (gCons (gName i) (gCons (gName j) gNil))) tYes (tVar j) vs) δ φ KL XK := by
  subst hv
  refine wf_lc (fun b H0 G H σ Q w s q e => h b H0 G H σ Q w s (fun v d φ' G' H' w' g' r k => q v d φ' G' H' w' g' r ?_) e)
  obtain ⟨ds, h1, h2, h3, h4⟩ := k
  refine ⟨ds, h1, fun k acc φ2 => acc = (ds.take k).map (fun d => PyData.int (tv d).2) ∧ φ2 = φ', ⟨by simp, rfl⟩, fun k x acc φ2 hk ⟨ha, hφ⟩ => ?_, fun acc φ2 ⟨ha, hφ⟩ => ?_⟩
  · subst ha; subst hφ
    have hx := h3 x (List.mem_of_getElem? hk)
    obtain ⟨t, v, rfl, _⟩ := pt_shape hx
    refine ⟨by rw [List.length_map, List.length_take]; omega, cg_pair hij (wt_yes ⟨fun _ => ?_, fun e => nomatch e⟩)⟩
    have hl : (wipeD δ [i, j]).length = δ.length := by simp [wipeD]
    refine wd_var (x := .int v) (by rw [List.getElem?_set_self (by rw [List.length_set, hl]; exact hj)]) ⟨?_, rfl⟩
    exact (take_map_succ (f := fun d => PyData.int (tv d).2) hk).symm
  · subst hφ
    rw [ha, List.take_length]
    unfold vals at h4
    rw [List.map_map] at h4
    exact h4
theorem rowsF_succ {ds : List PyData} {i : Nat} {z : PyData} (h : ds[i]? = some z) : rowsF (ds.take (i + 1)) = besO (rowsF (ds.take i)) (rowF (itemsL z)) := by
  unfold rowsF
  rw [List.take_add_one, h, List.map_append, List.foldl_append]
  rfl
end K9

/-! K9g -/
set_option Elab.async false
set_option linter.all false
namespace K9
open PySem PySem.Spec PyProof.Rows L2 Eg
/-! ## rows that are drawn -/
def Good (ps : List (Int × Int)) : Prop := (ps.map Prod.fst).Pairwise (· < ·) ∧ ∀ p, p ∈ ps → 0 ≤ p.1 ∧ p.1 < 1000000000000 ∧ -1000000000000 < p.2 ∧ p.2 < 1000000000000
abbrev rowD (ps : List (Int × Int)) : PyData := .list (ps.map ptD)
end K9

/-! K9h -/
set_option Elab.async false
set_option linter.all false
namespace K9
open PySem PySem.Spec PyProof.Rows L2 Eg
/-! ## the law's own walks -/
def rowAux (t : Int) : List PyData → Bool
  | [] => true
  | x :: r => isPt x && (decide (t < timeOf x) && rowAux (timeOf x) r)
theorem rowAux_eq : ∀ (ds : List PyData) (t : Int), rowAux t ds = (ds.all isPt && ((match ds with | [] => true | x :: _ => decide (t < timeOf x)) && asc ds))
  | [], _ => rfl
  | [x], t => by
    show (isPt x && (decide (t < timeOf x) && true)) = ((isPt x && true) && (decide (t < timeOf x) && true))
    simp
  | x :: y :: r, t => by
    have ih := rowAux_eq (y :: r) (timeOf x)
    show (isPt x && (decide (t < timeOf x) && rowAux (timeOf x) (y :: r))) = ((isPt x && (y :: r).all isPt) && (decide (t < timeOf x) && (decide (timeOf x < timeOf y) && asc (y :: r))))
    rw [ih]
    show (isPt x && (decide (t < timeOf x) && ((y :: r).all isPt && (decide (timeOf x < timeOf y) && asc (y :: r))))) = _
    cases isPt x <;> cases decide (t < timeOf x) <;> cases (y :: r).all isPt <;> rfl
theorem rowAux_pts (ds : List PyData) : rowAux (-1) ds = (ds.all isPt && asc ds) := by
  rw [rowAux_eq]
  cases ds with
  | nil => rfl
  | cons x r =>
    cases h : (x :: r).all isPt with
    | false => rfl
    | true =>
      have hx : isPt x = true := List.all_eq_true.mp h x (by simp)
      obtain ⟨t, v, rfl, ht⟩ := pt_shape hx
      show (true && (decide (-1 < t) && _)) = _
      rw [show decide (-1 < t) = true from decide_eq_true (by omega), Bool.true_and]
/-- a point is added to a fold -/
def stepF (f : Fd) (p : Int × Int) : Fd := ⟨f.n + 1, f.s + p.2, if p.2 < f.lo then p.2 else f.lo, if p.2 > f.hi then p.2 else f.hi, if p.1 < f.f.1 then p else f.f, if p.1 ≥ f.l.1 then p else f.l⟩
def addF : Option Fd → Int × Int → Option Fd
  | none, p => some (stepF ⟨0, 0, p.2, p.2, p, p⟩ p)
  | some f, p => some (stepF f p)
def walkF (o : Option Fd) (ds : List PyData) : Option Fd := ds.foldl (fun o x => addF o (tv x)) o
def walkAll (rows : List PyData) : Option Fd := rows.foldl (fun o r => walkF o (itemsL r)) none
abbrev Fd.its (x : Fd) : List PyData := [.int x.n, .int x.s, .int x.lo, .int x.hi, ptD x.f, ptD x.l]
def slotF : Option Fd → SD
  | none => .d .none
  | some f => .own f.its
theorem walkF_succ {o : Option Fd} {ds : List PyData} {i : Nat} {z : PyData} (h : ds[i]? = some z) : walkF o (ds.take (i + 1)) = addF (walkF o (ds.take i)) (tv z) := by
  unfold walkF
  rw [List.take_add_one, h, List.foldl_append]
  rfl
theorem walkAll_succ {ds : List PyData} {i : Nat} {z : PyData} (h : ds[i]? = some z) : walkAll (ds.take (i + 1)) = walkF (walkAll (ds.take i)) (itemsL z) := by
  unfold walkAll
  rw [List.take_add_one, h, List.foldl_append]
  rfl
theorem itemsOf_pts {x : PyData} (h : isPts x = true) : itemsOf x = some (itemsL x) := by
  cases x <;> first | rfl | cases h
theorem isPts_mem {x y : PyData} (h : isPts x = true) (hy : y ∈ itemsL x) : isPt y = true := by
  cases x with
  | list ds =>
    have h' : (ds.all isPt && asc ds) = true := h
    rw [Bool.and_eq_true] at h'
    exact List.all_eq_true.mp h'.1 y hy
  | tuple ds =>
    have h' : (ds.all isPt && asc ds) = true := h
    rw [Bool.and_eq_true] at h'
    exact List.all_eq_true.mp h'.1 y hy
  | _ => cases h
theorem its_step (f : Fd) (t v : Int) : (stepF f (t, v)).its = [.int (f.n + 1), .int (f.s + v), if decide (v < f.lo) = true then .int v else .int f.lo, if decide (v > f.hi) = true then .int v else .int f.hi, if decide (t < f.f.1) = true then ptD (t, v) else ptD f.f, if decide (t ≥ f.l.1) = true then ptD (t, v) else ptD f.l] := by
  show [PyData.int (f.n + 1), .int (f.s + v), .int (if v < f.lo then v else f.lo), .int (if v > f.hi then v else f.hi), ptD (if t < f.f.1 then (t, v) else f.f), ptD (if t ≥ f.l.1 then (t, v) else f.l)] = _
  simp only [decide_eq_true_eq]
  rw [apply_ite PyData.int, apply_ite PyData.int, apply_ite ptD, apply_ite ptD]
end K9

/-! K9x -/
set_option Elab.async false
set_option linter.all false
namespace K9
open PySem PySem.Spec PyProof.Rows L2 Eg
/-! ## the two folds are one -/
def one (p : Int × Int) : Fd := ⟨1, p.2, p.2, p.2, p, p⟩
theorem addF_bes (o : Option Fd) (p : Int × Int) : addF o p = besO o (some (one p)) := by
  cases o with
  | none =>
    show some (stepF ⟨0, 0, p.2, p.2, p, p⟩ p) = some (one p)
    unfold stepF one
    simp
  | some f => rfl
theorem besF_assoc (a b c : Fd) : besF (besF a b) c = besF a (besF b c) := by
  unfold besF
  simp only [Fd.mk.injEq]
  refine ⟨by omega, by omega, ?_, ?_, ?_, ?_⟩
  · (repeat' split) <;> omega
  · (repeat' split) <;> omega
  · by_cases h1 : b.f.1 < a.f.1 <;> by_cases h2 : c.f.1 < b.f.1 <;> by_cases h3 : c.f.1 < a.f.1 <;> simp [h1, h2, h3] <;> omega
  · by_cases h1 : b.l.1 ≥ a.l.1 <;> by_cases h2 : c.l.1 ≥ b.l.1 <;> by_cases h3 : c.l.1 ≥ a.l.1 <;> simp [h1, h2, h3] <;> omega
theorem besO_assoc (a b c : Option Fd) : besO (besO a b) c = besO a (besO b c) := by
  cases a <;> cases b <;> cases c <;> first | rfl | exact congrArg some (besF_assoc _ _ _)
theorem besO_none (a : Option Fd) : besO a none = a := by cases a <;> rfl
theorem walkF_cons (o : Option Fd) (x : PyData) (r : List PyData) : walkF o (x :: r) = walkF (besO o (some (one (tv x)))) r := by
  show walkF (addF o (tv x)) r = _
  rw [addF_bes]
theorem walkF_bes : ∀ (ds : List PyData) (o : Option Fd), walkF o ds = besO o (walkF none ds)
  | [], o => (besO_none o).symm
  | x :: r, o => by
    rw [walkF_cons, walkF_cons, walkF_bes r, walkF_bes r (besO none _), ← besO_assoc]
    rfl
theorem tv_time {x : PyData} (h : isPt x = true) : timeOf x = (tv x).1 := by
  obtain ⟨t, v, rfl, _⟩ := pt_shape h
  rfl
theorem asc_last : ∀ (r : List PyData) (x y : PyData), asc (x :: y :: r) = true → timeOf x < timeOf (lastOf (y :: r))
  | [], x, y, h => by
    have h' : (decide (timeOf x < timeOf y) && asc [y]) = true := h
    rw [Bool.and_eq_true] at h'
    exact of_decide_eq_true h'.1
  | z :: r, x, y, h => by
    have h' : (decide (timeOf x < timeOf y) && asc (y :: z :: r)) = true := h
    rw [Bool.and_eq_true] at h'
    have := of_decide_eq_true h'.1
    have h2 := asc_last r y z h'.2
    show timeOf x < timeOf (lastOf (z :: r))
    omega
theorem walk_row : ∀ ds : List PyData, (ds.all isPt && asc ds) = true → walkF none ds = rowF ds
  | [], _ => rfl
  | [x], h => by
    rw [walkF_cons]
    show some (one (tv x)) = some ⟨1, (vals [x]).sum, least (vals [x]), most (vals [x]), tv x, tv x⟩
    unfold one vals
    simp [least, most]
  | x :: y :: r, h => by
    rw [Bool.and_eq_true] at h
    have ha : (decide (timeOf x < timeOf y) && asc (y :: r)) = true := h.2
    rw [Bool.and_eq_true] at ha
    have hp : isPt x = true ∧ (y :: r).all isPt = true := by
      have := h.1
      rw [List.all_cons, Bool.and_eq_true] at this
      exact this
    have hy : isPt y = true := List.all_eq_true.mp hp.2 y (by simp)
    have ih := walk_row (y :: r) (by rw [hp.2, ha.2]; rfl)
    have hl := asc_last r x y h.2
    have ht := of_decide_eq_true ha.1
    rw [tv_time hp.1] at hl ht
    rw [tv_time hy] at ht
    rw [tv_time (List.all_eq_true.mp hp.2 _ (lastOf_mem y r))] at hl
    rw [walkF_cons, walkF_bes, ih]
    show some (besF (one (tv x)) ⟨((y :: r).length : Int), (vals (y :: r)).sum, least (vals (y :: r)), most (vals (y :: r)), tv y, tv (lastOf (y :: r))⟩) = some ⟨((x :: y :: r).length : Int), (vals (x :: y :: r)).sum, least (vals (x :: y :: r)), most (vals (x :: y :: r)), tv x, tv (lastOf (y :: r))⟩
    unfold besF one
    simp only [Option.some.injEq, Fd.mk.injEq]
    refine ⟨?_, ?_, ?_, ?_, ?_, ?_⟩
    · rw [List.length_cons (a := x)]; omega
    · show _ = ((tv x).2 :: vals (y :: r)).sum
      rw [List.sum_cons]
    · show _ = (if (tv x).2 ≤ least (vals (y :: r)) then (tv x).2 else least (vals (y :: r)))
      by_cases c : (tv x).2 ≤ least (vals (y :: r))
      · rw [if_pos c, if_neg (by omega)]
      · rw [if_neg c, if_pos (by omega)]
    · show _ = (if most (vals (y :: r)) ≤ (tv x).2 then (tv x).2 else most (vals (y :: r)))
      by_cases c : most (vals (y :: r)) ≤ (tv x).2
      · rw [if_pos c, if_neg (by omega)]
      · rw [if_neg c, if_pos (by omega)]
    · rw [if_neg (by omega)]
    · rw [if_pos (by omega)]
theorem walk_pts {x : PyData} (h : isPts x = true) (o : Option Fd) : walkF o (itemsL x) = besO o (rowF (itemsL x)) := by
  rw [walkF_bes, walk_row]
  cases x <;> first | exact h | cases h
theorem rowsF_fold (rows : List PyData) : rowsF rows = rows.foldl (fun o r => besO o (rowF (itemsL r))) none := by
  unfold rowsF
  rw [List.foldl_map]
theorem walk_rows {rows : List PyData} (h : ∀ r, r ∈ rows → isPts r = true) : walkAll rows = rowsF rows := by
  rw [rowsF_fold]
  unfold walkAll
  have key : ∀ (rows : List PyData) (o : Option Fd), (∀ r, r ∈ rows → isPts r = true) → rows.foldl (fun o r => walkF o (itemsL r)) o = rows.foldl (fun o r => besO o (rowF (itemsL r))) o := by
    intro rows
    induction rows with
    | nil => intro o _; rfl
    | cons r rs ih =>
      intro o h
      show rs.foldl _ (walkF o (itemsL r)) = rs.foldl _ (besO o (rowF (itemsL r)))
      rw [walk_pts (h r (by simp)), ih _ fun q hq => h q (List.mem_cons_of_mem _ hq)]
  exact key rows none h
/-! sizes -/
def Bo (p : Int × Int) : Prop := -1000000000000000 < p.1 ∧ p.1 < 1000000000000000 ∧ -1000000000000000 < p.2 ∧ p.2 < 1000000000000000
structure Fb (f : Fd) (n : Nat) : Prop where
  n0 : 0 ≤ f.n
  n1 : f.n ≤ n
  s0 : -(n * 1000000000000000 : Int) ≤ f.s
  s1 : f.s ≤ n * 1000000000000000
  lo : -1000000000000000 < f.lo ∧ f.lo < 1000000000000000
  hi : -1000000000000000 < f.hi ∧ f.hi < 1000000000000000
  pf : Bo f.f
  pl : Bo f.l
def Fbo (o : Option Fd) (n : Nat) : Prop := ∀ f, o = some f → Fb f n
theorem Fb.step {f : Fd} {n : Nat} {p : Int × Int} (h : Fb f n) (hp : Bo p) : Fb (stepF f p) (n + 1) := by
  obtain ⟨h1, h2, h3, h4, h5, h6, h7, h8⟩ := h
  have hp' := hp
  unfold Bo at hp'
  refine ⟨by show 0 ≤ f.n + 1; omega, by show f.n + 1 ≤ _; omega, by show _ ≤ f.s + p.2; push_cast; omega, by show f.s + p.2 ≤ _; push_cast; omega, ?_, ?_, ?_, ?_⟩
  · show -1000000000000000 < (if p.2 < f.lo then p.2 else f.lo) ∧ (if p.2 < f.lo then p.2 else f.lo) < 1000000000000000
    split <;> omega
  · show -1000000000000000 < (if p.2 > f.hi then p.2 else f.hi) ∧ (if p.2 > f.hi then p.2 else f.hi) < 1000000000000000
    split <;> omega
  · show Bo (if p.1 < f.f.1 then p else f.f)
    split
    · exact hp
    · exact h7
  · show Bo (if p.1 ≥ f.l.1 then p else f.l)
    split
    · exact hp
    · exact h8
theorem Fbo.add {o : Option Fd} {n : Nat} {p : Int × Int} (h : Fbo o n) (hp : Bo p) : Fbo (addF o p) (n + 1) := by
  intro f hf
  cases o with
  | none =>
    cases hf
    have hp' := hp
    unfold Bo at hp'
    exact Fb.step (f := ⟨0, 0, p.2, p.2, p, p⟩) ⟨by show (0 : Int) ≤ 0; omega, by show (0 : Int) ≤ _; omega, by show _ ≤ (0 : Int); omega, by show (0 : Int) ≤ _; omega, ⟨hp'.2.2.1, hp'.2.2.2⟩, ⟨hp'.2.2.1, hp'.2.2.2⟩, hp, hp⟩ hp
  | some g =>
    cases hf
    exact (h g rfl).step hp
theorem Fbo.walk : ∀ {ds : List PyData} {o : Option Fd} {n : Nat}, Fbo o n → (∀ y, y ∈ ds → Bo (tv y)) → Fbo (walkF o ds) (n + ds.length)
  | [], o, n, h, _ => h
  | x :: r, o, n, h, hb => by
    have := Fbo.walk (ds := r) (h.add (hb x (by simp))) fun y hy => hb y (List.mem_cons_of_mem _ hy)
    rw [List.length_cons, show n + (r.length + 1) = n + 1 + r.length by omega]
    exact this
theorem Fbo.rows {rows : List PyData} {m : Nat} (h : ∀ r, r ∈ rows → (itemsL r).length ≤ m ∧ ∀ y, y ∈ itemsL r → Bo (tv y)) : Fbo (walkAll rows) (rows.length * m) := by
  have key : ∀ (rows : List PyData) (o : Option Fd) (n : Nat), Fbo o n → (∀ r, r ∈ rows → (itemsL r).length ≤ m ∧ ∀ y, y ∈ itemsL r → Bo (tv y)) → Fbo (rows.foldl (fun o r => walkF o (itemsL r)) o) (n + rows.length * m) := by
    intro rows
    induction rows with
    | nil => intro o n h _; simpa using h
    | cons r rs ih =>
      intro o n h hr
      obtain ⟨h1, h2⟩ := hr r (by simp)
      have hw : Fbo (walkF o (itemsL r)) (n + m) := fun f hf => by
        have q := h.walk h2 f hf
        exact ⟨q.n0, by have := q.n1; omega, by have := q.s0; omega, by have := q.s1; omega, q.lo, q.hi, q.pf, q.pl⟩
      have := ih _ _ hw fun q hq => hr q (List.mem_cons_of_mem _ hq)
      rw [List.length_cons, Nat.add_mul, Nat.one_mul, show n + (rs.length * m + m) = n + m + rs.length * m by omega]
      exact this
  have := key rows none 0 (fun f hf => by cases hf) h
  rw [Nat.zero_add] at this
  exact this
theorem tame_fold {o : Option Fd} {n : Nat} (h : Fbo o n) (hn : n ≤ 1000000) : Tame (fdD o) 2 100 := by
  cases o with
  | none => exact tame_none
  | some f =>
    obtain ⟨h1, h2, h3, h4, h5, h6, h7, h8⟩ := h f rfl
    unfold Bo at h7 h8
    refine (tame_tuple (k := 1) (m := 10) (n := 6) (fun x hx => ?_) (by simp)).mono (by decide) (by decide)
    simp only [List.mem_cons, List.not_mem_nil, or_false] at hx
    have pt : ∀ p : Int × Int, Bo p → Tame (ptD p) 1 10 := fun p hp => by
      unfold Bo at hp
      refine (tame_tuple (k := 0) (m := 1) (n := 2) (fun x hx => ?_) (by simp)).mono (by decide) (by decide)
      simp only [List.mem_cons, List.not_mem_nil, or_false] at hx
      rcases hx with rfl | rfl <;> exact tame_int (by omega)
    rcases hx with rfl | rfl | rfl | rfl | rfl | rfl
    · exact tame_int (by omega)
    · exact tame_int (by omega)
    · exact tame_int (by omega)
    · exact tame_int (by omega)
    · exact pt _ h7
    · exact pt _ h8
end K9

/-! K9i -/
set_option Elab.async false
set_option linter.all false
namespace K9
open PySem PySem.Spec PyProof.Rows L2 Eg
/-! ## values that are drawn near rows -/
def Lf (x : PyData) : Prop := Eg.plain x = true ∧ Tame x 0 20 ∧ ∀ i, x = .int i → -1000000000000000 < i ∧ i < 1000000000000000
def El (x : PyData) : Prop := Eg.plain x = true ∧ Tame x 1 70 ∧ (isPt x = true → Bo (tv x))
def Vl (x : PyData) : Prop := Eg.plain x = true ∧ Tame x 2 2000 ∧ (itemsL x).length ≤ 20 ∧ ∀ y, y ∈ itemsL x → isPt y = true → Bo (tv y)
theorem lf_int {i : Int} (h : -1000000000000000 < i ∧ i < 1000000000000000) : Lf (.int i) := ⟨rfl, tame_int (by omega), fun j e => by cases e; exact h⟩
theorem lf_bool {b : Bool} : Lf (.bool b) := ⟨rfl, tame_bool, fun _ e => by cases e⟩
theorem lf_none : Lf .none := ⟨rfl, tame_none, fun _ e => by cases e⟩
theorem lf_text {i : Int} (h : -1000000000000000 < i ∧ i < 1000000000000000) : Lf (.str (toString i : String)) := by
  have t : Tame (.str (toString i : String)) 0 20 := tame_text (by omega) (by decide)
  refine ⟨?_, t, fun _ e => by cases e⟩
  have hb : (Str.ofString (toString i)).length ≤ 20 := by
    have h := t.bk
    simp only [PyData.bulk] at h
    exact h
  exact decide_eq_true (Nat.le_trans hb (by decide))
theorem lf_str {x : Str} (h : x.cps.size ≤ 20) (hc : (x.cps.toList.all fun c => decide (c < 16 ^ 8)) = true) : Lf (.str x) := ⟨decide_eq_true (Nat.le_trans (show x.length ≤ 20 from h) (by decide)), tame_str h hc, fun _ e => by cases e⟩
theorem Lf.el {x : PyData} (h : Lf x) : El x := ⟨h.1, h.2.1.mono (by decide) (by decide), fun e => by
  obtain ⟨t, v, rfl, _⟩ := pt_shape e
  have := h.2.1.dp
  simp [PyData.depth] at this⟩
theorem Lf.vl {x : PyData} (h : Lf x) : Vl x := by
  have hi : itemsL x = [] := by
    have := h.2.1.dp
    cases x <;> first | rfl | (simp [PyData.depth] at this)
  exact ⟨h.1, h.2.1.mono (by decide) (by decide), by rw [hi]; decide, fun y hy => by rw [hi] at hy; cases hy⟩
theorem plainAll_of {xs : List PyData} (h : ∀ x, x ∈ xs → Eg.plain x = true) : plainAll xs = true := by
  induction xs with
  | nil => rfl
  | cons x r ih => exact plain_cons.mpr ⟨h x (by simp), ih fun y hy => h y (List.mem_cons_of_mem _ hy)⟩
theorem plain_tup_of {xs : List PyData} (h : ∀ x, x ∈ xs → Eg.plain x = true) (hl : xs.length ≤ 1000000) : Eg.plain (.tuple xs) = true := by
  simp only [Eg.plain, plainAll_of h, Bool.and_true, decide_eq_true_eq]; exact hl
theorem plain_list_of {xs : List PyData} (h : ∀ x, x ∈ xs → Eg.plain x = true) (hl : xs.length ≤ 1000000) : Eg.plain (.list xs) = true := by
  simp only [Eg.plain, plainAll_of h, Bool.and_true, decide_eq_true_eq]; exact hl
theorem el_tup {xs : List PyData} (h : ∀ x, x ∈ xs → Lf x) (hl : xs.length ≤ 3) : El (.tuple xs) := ⟨plain_tup_of (fun x hx => (h x hx).1) (by omega), (tame_tuple (fun x hx => (h x hx).2.1) hl).mono (by decide) (by decide), fun e => by
  obtain ⟨t, v, e2, _⟩ := pt_shape e
  injection e2 with e2
  subst e2
  have h1 := (h (.int t) (by simp)).2.2 t rfl
  have h2 := (h (.int v) (by simp)).2.2 v rfl
  exact ⟨h1.1, h1.2, h2.1, h2.2⟩⟩
theorem el_list {xs : List PyData} (h : ∀ x, x ∈ xs → Lf x) (hl : xs.length ≤ 3) : El (.list xs) := ⟨plain_list_of (fun x hx => (h x hx).1) (by omega), (tame_list (fun x hx => (h x hx).2.1) hl).mono (by decide) (by decide), fun e => by cases e⟩
theorem vl_list {xs : List PyData} (h : ∀ x, x ∈ xs → El x) (hl : xs.length ≤ 20) : Vl (.list xs) := ⟨plain_list_of (fun x hx => (h x hx).1) (by omega), (tame_list (fun x hx => (h x hx).2.1) hl).mono (by decide) (by decide), hl, fun y hy => (h y hy).2.2⟩
theorem vl_tup {xs : List PyData} (h : ∀ x, x ∈ xs → El x) (hl : xs.length ≤ 20) : Vl (.tuple xs) := ⟨plain_tup_of (fun x hx => (h x hx).1) (by omega), (tame_tuple (fun x hx => (h x hx).2.1) hl).mono (by decide) (by decide), hl, fun y hy => (h y hy).2.2⟩
theorem el_tup1 {a : PyData} (h1 : Lf a) : El (.tuple [a]) := el_tup (by simp; exact h1) (by simp)
theorem el_tup2 {a b : PyData} (h1 : Lf a) (h2 : Lf b) : El (.tuple [a, b]) := el_tup (by simp; exact ⟨h1, h2⟩) (by simp)
theorem el_tup3 {a b c : PyData} (h1 : Lf a) (h2 : Lf b) (h3 : Lf c) : El (.tuple [a, b, c]) := el_tup (by simp; exact ⟨h1, h2, h3⟩) (by simp)
theorem el_list2 {a b : PyData} (h1 : Lf a) (h2 : Lf b) : El (.list [a, b]) := el_list (by simp; exact ⟨h1, h2⟩) (by simp)
theorem cutD_mem {xs : List PyData} {lo hi : Option Int} {x : PyData} (h : x ∈ Eg.cutD xs lo hi) : x ∈ xs := List.mem_of_mem_drop (List.mem_of_mem_take h)
theorem cutD_len (xs : List PyData) (lo hi : Option Int) : (Eg.cutD xs lo hi).length ≤ xs.length := by
  unfold Eg.cutD
  rw [List.length_take, List.length_drop]; omega
theorem dict31 : Vl (.dict [(.int 3, .int 1)]) := by
  refine ⟨rfl, ?_, by decide, fun y hy => by cases hy⟩
  refine ⟨?_, ?_, ?_, ?_⟩
  · simp only [PyData.showable, PyData.showableKv, Bool.and_true, Bool.and_eq_true, decide_eq_true_eq]
    exact ⟨small_log (i := 3) (by decide), small_log (i := 1) (by decide)⟩
  · simp only [PyData.leavesShort, PyData.leavesShortKv, Bool.and_true, Bool.and_eq_true]
    exact ⟨(tame_int (k := 0) (m := 0) (i := 3) (by decide)).ls, (tame_int (k := 0) (m := 0) (i := 1) (by decide)).ls⟩
  · simp [PyData.depth, PyData.depthKv]
  · simp [PyData.bulk, PyData.bulkKv]
/-- a point of a good row -/
def Bd (i : Int) : Prop := -1000000000000 < i ∧ i < 1000000000000
theorem pt_el {p : Int × Int} (h1 : Bd p.1) (h2 : Bd p.2) : El (ptD p) := el_tup2 (lf_int (by unfold Bd at h1; omega)) (lf_int (by unfold Bd at h2; omega))
theorem good_bd {ps : List (Int × Int)} (h : Good ps) {p : Int × Int} (hp : p ∈ ps) : Bd p.1 ∧ Bd p.2 := by
  have := h.2 p hp
  unfold Bd; omega
end K9

/-! K9j -/
set_option Elab.async false
set_option linter.all false
namespace K9
open PySem PySem.Spec PyProof.Rows L2 Eg
/-! ## good rows among others -/
theorem good_asc : ∀ {ps : List (Int × Int)}, (ps.map Prod.fst).Pairwise (· < ·) → asc (ps.map ptD) = true
  | [], _ => rfl
  | [_], _ => rfl
  | p :: q :: r, h => by
    have h' := List.pairwise_cons.mp h
    have h1 : p.1 < q.1 := h'.1 q.1 (by simp)
    show (decide (p.1 < q.1) && asc ((q :: r).map ptD)) = true
    rw [decide_eq_true h1, good_asc h'.2]; rfl
theorem good_all {ps : List (Int × Int)} (h : Good ps) : (ps.map ptD).all isPt = true := by
  rw [List.all_eq_true]
  intro x hx
  obtain ⟨p, hp, rfl⟩ := List.mem_map.mp hx
  have h0 := (h.2 p hp).1
  show (decide (0 ≤ p.1) && true) = true
  rw [decide_eq_true h0]; rfl
theorem good_pts {ps : List (Int × Int)} (h : Good ps) : isPts (rowD ps) = true := by
  show ((ps.map ptD).all isPt && asc (ps.map ptD)) = true
  rw [good_all h, good_asc h.1]; rfl
theorem vl_row {ps : List (Int × Int)} (h : Good ps) (hl : ps.length ≤ 8) : Vl (rowD ps) := vl_list (fun x hx => by
  obtain ⟨p, hp, rfl⟩ := List.mem_map.mp hx
  exact pt_el (good_bd h hp).1 (good_bd h hp).2) (by rw [List.length_map]; omega)
theorem copy_split {x : PyData} {A : PyData → Prop} (k : A x) : (∀ ds, x = .list ds → A (.list ds)) ∧ (isLst x = false → A x) := ⟨fun ds e => e ▸ k, fun _ => k⟩
theorem tame_two {b c : Bool} : Tame (.list [.bool b, .bool c]) 50 300000 := (tame_list (k := 0) (m := 0) (n := 2) (fun x hx => by
  simp only [List.mem_cons, List.not_mem_nil, or_false] at hx
  rcases hx with rfl | rfl <;> exact tame_bool) (by simp)).mono (by decide) (by decide)
theorem not_dec {a b : Str} (h : a = b) : (!decide (a = b)) = false := by rw [decide_eq_true h]; rfl
/-- as a tuple -/
def tupD (x : PyData) : PyData := .tuple (itemsL x)
theorem tupD_pts {x : PyData} (h : isPts x = true) : isPts (tupD x) = true := by cases x <;> first | exact h | cases h
theorem tupD_items (x : PyData) : itemsL (tupD x) = itemsL x := rfl
theorem isPts_tupD {x : PyData} (h : isPts x = true) : itemsOf x = some (itemsL x) := itemsOf_pts h
theorem tame_told {o : Option Fd} {n : Nat} {w : Str} (h : Fbo o n) (hn : n ≤ 1000000) (hw : Tame (.str w) 0 20) : Tame (.list [.str w, fdD o]) 50 300000 := (tame_list (k := 2) (m := 100) (n := 2) (fun x hx => by
  simp only [List.mem_cons, List.not_mem_nil, or_false] at hx
  rcases hx with rfl | rfl
  · exact hw.mono (by decide) (by decide)
  · exact tame_fold h hn) (by simp)).mono (by decide) (by decide)
theorem tame_w {w : Str} (h : w.cps.size ≤ 20) (hc : (w.cps.toList.all fun c => decide (c < 16 ^ 8)) = true) : Tame (.str w) 0 20 := tame_str h hc
/-- rows that may be told -/
theorem vl_bo {x : PyData} (hv : Vl x) (hp : isPts x = true) : (itemsL x).length ≤ 400 ∧ ∀ y, y ∈ itemsL x → Bo (tv y) := ⟨by have := hv.2.2.1; omega, fun y hy => hv.2.2.2 y hy (isPts_mem hp hy)⟩
theorem fbo_rows {rows : List PyData} (h : ∀ r, r ∈ rows → Vl r ∧ isPts r = true) : Fbo (rowsF rows) (rows.length * 400) := by
  rw [← walk_rows fun r hr => (h r hr).2]
  exact Fbo.rows fun r hr => vl_bo (h r hr).1 (h r hr).2
theorem rowsF_map {rows : List PyData} {f : PyData → PyData} (h : ∀ r, r ∈ rows → itemsL (f r) = itemsL r) : rowsF (rows.map f) = rowsF rows := by
  unfold rowsF
  rw [List.map_map]
  congr 1
  exact List.map_congr_left fun r hr => by show rowF (itemsL (f r)) = _; rw [h r hr]
theorem rowsF_app (a b : List PyData) : rowsF (a ++ b) = (b.map fun r => rowF (itemsL r)).foldl besO (rowsF a) := by
  unfold rowsF
  rw [List.map_append, List.foldl_append]
theorem rowsF_mid {a b b' : List PyData} (h : b'.map (fun r => rowF (itemsL r)) = b.map (fun r => rowF (itemsL r))) : rowsF (a ++ b') = rowsF (a ++ b) := by
  rw [rowsF_app, rowsF_app, h]
end K9

/-! K9k -/
set_option Elab.async false
set_option linter.all false
namespace K9
open PySem PySem.Spec PyProof.Rows L2 Eg
def chk0 (z : PyData) : Bool := Eg.plain z && (z.showable && (z.leavesShort 40 && (decide (z.depth ≤ 10) && decide (z.bulk ≤ 1000))))
def chkR (z : PyData) : Bool := chk0 z && !isRows z
def chkP (z : PyData) : Bool := chk0 z && !isPts z
theorem chk0_of {z : PyData} (h : chk0 z = true) : Eg.plain z = true ∧ Tame z 10 150000 := by
  simp only [chk0, Bool.and_eq_true, decide_eq_true_eq] at h
  exact ⟨h.1, h.2.1, h.2.2.1, h.2.2.2.1, by have := h.2.2.2.2; omega⟩
theorem chk_of {z : PyData} (h : chkR z = true) : Eg.plain z = true ∧ Tame z 10 150000 ∧ True ∧ isRows z = false := by
  simp only [chkR, Bool.and_eq_true, Bool.not_eq_true'] at h
  exact ⟨(chk0_of h.1).1, (chk0_of h.1).2, trivial, h.2⟩
theorem chkP_of {z : PyData} (h : chkP z = true) : Eg.plain z = true ∧ Tame z 10 150000 ∧ isPts z = false := by
  simp only [chkP, Bool.and_eq_true, Bool.not_eq_true'] at h
  exact ⟨(chk0_of h.1).1, (chk0_of h.1).2, h.2⟩
end K9

/-! K9l -/
set_option Elab.async false
set_option linter.all false
namespace K9
open PySem PySem.Spec PyProof.Rows L2 Eg
theorem lay_all {xs : List PyData} (h : ∀ x, x ∈ xs → x.canLay0 = true) : PyData.canLayAll0 xs = true := by
  induction xs with
  | nil => simp [PyData.canLayAll0]
  | cons x r ih => simp only [PyData.canLayAll0, h x (by simp), ih fun y hy => h y (List.mem_cons_of_mem _ hy), Bool.and_self]
theorem nodict_all {xs : List PyData} (h : ∀ x, x ∈ xs → x.hasDict = false) : PyData.hasDictAll xs = false := by
  induction xs with
  | nil => simp [PyData.hasDictAll]
  | cons x r ih => simp only [PyData.hasDictAll, h x (by simp), ih fun y hy => h y (List.mem_cons_of_mem _ hy), Bool.or_self]
theorem row_lay (ps : List (Int × Int)) : (rowD ps).canLay0 = true ∧ (rowD ps).hasDict = false := by
  constructor
  · simp only [rowD, PyData.canLay0]
    refine lay_all fun x hx => ?_
    obtain ⟨p, hp, rfl⟩ := List.mem_map.mp hx
    simp [PyData.canLay0, PyData.canLayAll0]
  · simp only [rowD, PyData.hasDict]
    refine nodict_all fun x hx => ?_
    obtain ⟨p, hp, rfl⟩ := List.mem_map.mp hx
    simp [PyData.hasDict, PyData.hasDictAll]
theorem rows_lay {rs : List (List (Int × Int))} (hr : ∀ r, r ∈ rs → Good r ∧ r.length ≤ 8) (hl : rs.length ≤ 5) : (PyData.list (rs.map rowD)).hasDict = false ∧ SeqAt.shaped (.list (rs.map rowD)) = true := by
  have hd : (PyData.list (rs.map rowD)).depth ≤ 64 := ((tame_list (k := 2) (m := 2000) (n := 5) (fun x hx => by
    obtain ⟨ps, hp, rfl⟩ := List.mem_map.mp hx
    exact (vl_row (hr ps hp).1 (hr ps hp).2).2.1) (by rw [List.length_map]; exact hl)).mono (k' := 64) (m' := 100000) (by decide) (by decide)).dp
  refine ⟨?_, ?_⟩
  · simp only [PyData.hasDict]
    refine nodict_all fun x hx => ?_
    obtain ⟨ps, hp, rfl⟩ := List.mem_map.mp hx
    exact (row_lay ps).2
  · unfold SeqAt.shaped
    rw [Bool.and_eq_true]
    refine ⟨?_, decide_eq_true hd⟩
    simp only [PyData.canLay0]
    refine lay_all fun x hx => ?_
    obtain ⟨ps, hp, rfl⟩ := List.mem_map.mp hx
    exact (row_lay ps).1
theorem eqv_nil (rs : List (List (Int × Int))) : PyData.eqv (.list (rs.map rowD)) (.list []) = decide (rs = []) := by
  cases rs with
  | nil => simp [PyData.eqv, PyData.eqvAll]
  | cons r q => simp [PyData.eqv, PyData.eqvAll]
end K9

/-! K9t1 -/
set_option Elab.async false
set_option linter.all false
set_option maxRecDepth 100000
set_option maxHeartbeats 2000000

namespace K9
open PySem PySem.Spec PyProof.Rows L2 Eg
theorem noX {X : Cx} : ∀ σ, PassesAt (L2.CX X.prog X.w) X σ ((fun _ => E0) σ) := fun σ pins H s e s' I h => passL pins σ H s e s' I h
local macro_rules | `(tactic| walk_at "eg len") => `(tactic| (intro as φ K F XK h; first
  | (obtain ⟨e, r⟩ := h; subst e; rfl) | (obtain ⟨x, e, r⟩ := h; subst e; rfl) | (obtain ⟨x, y, e, r⟩ := h; subst e; rfl) | (obtain ⟨x, y, z, e, r⟩ := h; subst e; rfl) | (obtain ⟨x, y, z, u, e, r⟩ := h; subst e; rfl)
  | (rcases h with h | h <;> first | (obtain ⟨x, e, r⟩ := h; subst e; rfl) | (obtain ⟨x, y, e, r⟩ := h; subst e; rfl) | (obtain ⟨x, y, z, e, r⟩ := h; subst e; rfl) | (obtain ⟨x, y, z, u, e, r⟩ := h; subst e; rfl))))
/-- one step ahead -/
local macro_rules | `(tactic| walk_at "eg one") => `(tactic| (first
  | (with_reducible first
    | refine ws_seq ?_ | refine ws_if ?_ | refine ws_ret ?_ | refine ws_retN ?_ | refine ws_next ?_ | refine ws_asg ?_ | refine ws_drop ?_ | refine ws_par ?_
    | refine wd_int ?_ | refine wd_bl ?_ | refine wd_str ?_ | refine wd_non ?_
    | refine wd_isi isi_int ?_ | refine wd_isi isi_bool ?_ | refine wd_isi isi_str ?_ | refine wd_isi isi_list ?_ | refine wd_isi isi_tuple ?_ | refine wd_isi isi_dict ?_ | refine wd_isi2 isi_list isi_tuple ?_
    | refine wd_list ?_ | refine wd_tuple ?_
    | refine wd_callX ?_ | refine wd_call ?_ | refine wd_callK1X ?_ | refine wd_callK1 ?_ | refine wd_cb ?_ | refine wd_op ?_ | refine wd_un ?_ | refine wd_if ?_ | refine wd_andV ?_ | refine wd_orV ?_ | refine wd_notV ?_
    | refine wd_tup ?_ | refine wd_lst ?_ | refine wd_slice ?_ | refine wo_none ?_ | refine wo_some ?_
    | refine wt_B ?_ | refine wt_test ?_ | refine wt_and ?_ | refine wt_or ?_ | refine wt_not ?_ | refine wt_yes ?_
    | refine wa_nil ?_
    | refine rd_plus_int ?_ | refine rd_sub ?_ | refine rd_cmp ?_ | refine rd_eq_int ?_ | refine rd_ne_int ?_ | refine rd_eq_str ?_ | refine rd_ne_str ?_ | refine rd_isN ?_ | refine rd_notN ?_ | refine ru_neg ?_
    | refine rl_abs ?_ | refine rl_int ?_ | refine rl_intB ?_ | refine rl_max2 ?_ | refine rl_min2 ?_ | refine rl_sum ?_ | refine rl_all ?_)
  | ((with_reducible refine' wd_var ?h ?_); (case h => rfl))
  | ((with_reducible refine' wd_varB ?h ?_); (case h => rfl))
  | ((with_reducible refine' wa_box ?h ?_); (case h => rfl))
  | (with_reducible refine wa_cons ?_)
  | ((with_reducible refine' rl_len ?h ?_); (case h => rfl))
  | ((with_reducible refine' rd_ix_list ?h ?_); (case h => rfl))
  | ((with_reducible refine' rd_ix_tup ?h ?_); (case h => rfl))
  | ((with_reducible refine' ptr_and ?h ?_); (case h => first | rfl | assumption | exact plain_ptr (by assumption)))
  | ((with_reducible refine' pick_t ?h ?_); (case h => rfl))
  | ((with_reducible refine' pick_f ?h ?_); (case h => rfl))
  | (with_reducible refine ⟨_, rfl, ?_⟩) | (with_reducible refine ⟨rfl, ?_⟩) | (refine ⟨_, rfl, ?_⟩)))
local macro_rules | `(tactic| walk_at "eg") => `(tactic| repeat ((first | walk_at "eg one"); (try dsimp only)))

section
variable {P : Program} {w : World} {K : PySem.W.Frag} {mg : Str → Option Value} {base : Heap}
def P_is_list : PD := fun as φ K F XK => ∃ x, as = [.d x] ∧ isPtr x = false ∧ K (.bool (isLst x || isTup x)) φ
theorem ok_is_list (T : Tx K mg base) : FnG P w K mg base (L2.CX P w) 1 T.a_is_list T.fd_is_list ["value"] (SpD (P_is_list)) := by
  refine fn_data T.F_is_list sc_is_list ?len (fun cdv A outer s H E hr hgd => ⟨_, (pss_one (ps_ret (pe_callB (r := rIsiT K) call_isiT (by rfl) T.m_isinstance (by decide +kernel) (pa_cons (pv 0) (pa_cons (pe_tup (pa_cons (pe_bltn (v := .ty "list") (u := .type "list") (by rfl) T.m_list (by decide +kernel) rfl) (pa_cons (pe_bltn (v := .ty "tuple") (u := .type "tuple") (by rfl) T.m_tuple (by decide +kernel) rfl) pa_nil))) pa_nil))))), fun as φ Kc F XK h => ?body⟩)
  case len => walk_at "eg len"
  case body =>
    obtain ⟨x, rfl, hp, k⟩ := h
    walk_at "eg"
    exact k
def P_is_integer : PD := fun as φ K F XK => ∃ x, as = [.d x] ∧ isPtr x = false ∧ K (.bool (isVal x)) φ
theorem ok_is_integer (T : Tx K mg base) : FnG P w K mg base (L2.CX P w) 1 T.a_is_integer T.fd_is_integer ["value"] (SpD (P_is_integer)) := by
  refine fn_data T.F_is_integer sc_is_integer ?len (fun cdv A outer s H E hr hgd => ⟨_, (pss_one (ps_ret (pe_and (pe_callB (r := rIsi K) call_isi (by rfl) T.m_isinstance (by decide +kernel) (pa_cons (pv 0) (pa_cons (pe_bltn (v := .ty "int") (u := .type "int") (by rfl) T.m_int (by decide +kernel) rfl) pa_nil))) (pe_one (pe_not (pe_callB (r := rIsi K) call_isi (by rfl) T.m_isinstance (by decide +kernel) (pa_cons (pv 0) (pa_cons (pe_bltn (v := .ty "bool") (u := .type "bool") (by rfl) T.m_bool (by decide +kernel) rfl) pa_nil)))))))), fun as φ Kc F XK h => ?body⟩)
  case len => walk_at "eg len"
  case body =>
    obtain ⟨x, rfl, hp, k⟩ := h
    cases x <;> (walk_at "eg"; exact k)
def P_is_count : PD := fun as φ K F XK => ∃ x, as = [.d x] ∧ isPtr x = false ∧ K (.bool (isCnt x)) φ
theorem ok_is_count (T : Tx K mg base) : FnG P w K mg base (L2.CX P w) 2 T.a_is_count T.fd_is_count ["value"] (SpD (P_is_count)) := by
  have G_is_integer : FnG P w K mg base (L2.CX P w) 1 T.a_is_integer T.fd_is_integer ["value"] (SpD (P_is_integer)) := ok_is_integer T
  refine fn_data T.F_is_count sc_is_count ?len (fun cdv A outer s H E hr hgd => ⟨_, (pss_one (ps_ret (pe_and (pe_callG G_is_integer (hr.mono (by decide)) hgd (by rfl) T.g_is_integer T.F_is_integer.kp T.b_is_integer noX (pa_cons (pv 0) pa_nil)) (pe_one (pe_cmpR op_ge (pv 0) pe_int (nomark _)))))), fun as φ Kc F XK h => ?body⟩)
  case len => walk_at "eg len"
  case body =>
    obtain ⟨x, rfl, hp, k⟩ := h
    cases x <;> (walk_at "eg"; exact k)
def P__is_point : PD := fun as φ K F XK => ∃ x, as = [.d x] ∧ plain x = true ∧ K (.bool (isPt x)) φ
theorem ok__is_point (T : Tx K mg base) : FnG P w K mg base (L2.CX P w) 3 T.a__is_point T.fd__is_point ["value"] (SpD (P__is_point)) := by
  have G_is_count : FnG P w K mg base (L2.CX P w) 2 T.a_is_count T.fd_is_count ["value"] (SpD (P_is_count)) := ok_is_count T
  have G_is_integer : FnG P w K mg base (L2.CX P w) 1 T.a_is_integer T.fd_is_integer ["value"] (SpD (P_is_integer)) := ok_is_integer T
  refine fn_data T.F__is_point sc__is_point ?len (fun cdv A outer s H E hr hgd => ⟨_, (pss_one (ps_ret (pe_and (pe_callB (r := rIsi K) call_isi (by rfl) T.m_isinstance (by decide +kernel) (pa_cons (pv 0) (pa_cons (pe_bltn (v := .ty "tuple") (u := .type "tuple") (by rfl) T.m_tuple (by decide +kernel) rfl) pa_nil))) (pe_and (pe_cmpR (r := rEqU K) (op_eqU hr.units) (pe_callB (r := rLenU K) call_len (by rfl) T.m_len (by decide +kernel) (pa_cons (pv 0) pa_nil)) pe_int (nomark _)) (pe_and (pe_callG G_is_count (hr.mono (by decide)) hgd (by rfl) T.g_is_count T.F_is_count.kp T.b_is_count noX (pa_cons (pe_ix (r := rIx K) ix_seq (pv 0) pe_int (fun _ _ => rfl)) pa_nil)) (pe_one (pe_callG G_is_integer (hr.mono (by decide)) hgd (by rfl) T.g_is_integer T.F_is_integer.kp T.b_is_integer noX (pa_cons (pe_ix (r := rIx K) ix_seq (pv 0) pe_int (fun _ _ => rfl)) pa_nil)))))))), fun as φ Kc F XK h => ?body⟩)
  case len => walk_at "eg len"
  case body =>
    obtain ⟨x, rfl, hp, k⟩ := h
    cases x with
    | tuple ds =>
      rcases ds with _ | ⟨a, _ | ⟨b, _ | ⟨c, ds⟩⟩⟩
      · walk_at "eg"
        exact k
      · walk_at "eg"
        exact k
      · obtain ⟨ha, hb⟩ := plain_cons.mp (plain_tup hp)
        have hb := (plain_cons.mp hb).1
        walk_at "eg"
        refine ⟨fun e => ?_, fun e => ?_⟩
        · walk_at "eg"
          have e2 : isPt (.tuple [a, b]) = isVal b := by simp [isPt, e]
          rw [e2] at k
          exact k
        · have e2 : isPt (.tuple [a, b]) = false := by simp [isPt, e]
          rw [e2] at k
          exact k
      · walk_at "eg"
        exact k
    | _ =>
      walk_at "eg"
      exact k
end
end K9

/-! K9t2 -/
set_option Elab.async false
set_option linter.all false
set_option maxRecDepth 100000
set_option maxHeartbeats 2000000

namespace K9
open PySem PySem.Spec PyProof.Rows L2 Eg
local macro_rules | `(tactic| walk_at "eg len") => `(tactic| (intro as φ K F XK h; first
  | (obtain ⟨e, r⟩ := h; subst e; rfl) | (obtain ⟨x, e, r⟩ := h; subst e; rfl) | (obtain ⟨x, y, e, r⟩ := h; subst e; rfl) | (obtain ⟨x, y, z, e, r⟩ := h; subst e; rfl) | (obtain ⟨x, y, z, u, e, r⟩ := h; subst e; rfl)
  | (rcases h with h | h <;> first | (obtain ⟨x, e, r⟩ := h; subst e; rfl) | (obtain ⟨x, y, e, r⟩ := h; subst e; rfl) | (obtain ⟨x, y, z, e, r⟩ := h; subst e; rfl) | (obtain ⟨x, y, z, u, e, r⟩ := h; subst e; rfl))))
/-- one step ahead -/
local macro_rules | `(tactic| walk_at "eg one") => `(tactic| (first
  | (with_reducible first
    | refine ws_seq ?_ | refine ws_if ?_ | refine ws_ret ?_ | refine ws_retN ?_ | refine ws_next ?_ | refine ws_asg ?_ | refine ws_drop ?_ | refine ws_par ?_
    | refine wd_int ?_ | refine wd_bl ?_ | refine wd_str ?_ | refine wd_non ?_
    | refine wd_isi isi_int ?_ | refine wd_isi isi_bool ?_ | refine wd_isi isi_str ?_ | refine wd_isi isi_list ?_ | refine wd_isi isi_tuple ?_ | refine wd_isi isi_dict ?_ | refine wd_isi2 isi_list isi_tuple ?_
    | refine wd_list ?_ | refine wd_tuple ?_
    | refine wd_callX ?_ | refine wd_call ?_ | refine wd_callK1X ?_ | refine wd_callK1 ?_ | refine wd_cb ?_ | refine wd_op ?_ | refine wd_un ?_ | refine wd_if ?_ | refine wd_andV ?_ | refine wd_orV ?_ | refine wd_notV ?_
    | refine wd_tup ?_ | refine wd_lst ?_ | refine wd_slice ?_ | refine wo_none ?_ | refine wo_some ?_
    | refine wt_B ?_ | refine wt_test ?_ | refine wt_and ?_ | refine wt_or ?_ | refine wt_not ?_ | refine wt_yes ?_
    | refine wa_nil ?_
    | refine rd_plus_int ?_ | refine rd_sub ?_ | refine rd_cmp ?_ | refine rd_eq_int ?_ | refine rd_ne_int ?_ | refine rd_eq_str ?_ | refine rd_ne_str ?_ | refine rd_isN ?_ | refine rd_notN ?_ | refine ru_neg ?_
    | refine rl_abs ?_ | refine rl_int ?_ | refine rl_intB ?_ | refine rl_max2 ?_ | refine rl_min2 ?_ | refine rl_sum ?_ | refine rl_all ?_)
  | ((with_reducible refine' wd_var ?h ?_); (case h => rfl))
  | ((with_reducible refine' wd_varB ?h ?_); (case h => rfl))
  | ((with_reducible refine' wa_box ?h ?_); (case h => rfl))
  | (with_reducible refine wa_cons ?_)
  | ((with_reducible refine' rl_len ?h ?_); (case h => rfl))
  | ((with_reducible refine' rd_ix_list ?h ?_); (case h => rfl))
  | ((with_reducible refine' rd_ix_tup ?h ?_); (case h => rfl))
  | ((with_reducible refine' ptr_and ?h ?_); (case h => first | rfl | assumption | exact plain_ptr (by assumption)))
  | ((with_reducible refine' pick_t ?h ?_); (case h => rfl))
  | ((with_reducible refine' pick_f ?h ?_); (case h => rfl))
  | (with_reducible refine ⟨_, rfl, ?_⟩) | (with_reducible refine ⟨rfl, ?_⟩) | (refine ⟨_, rfl, ?_⟩)))
local macro_rules | `(tactic| walk_at "eg") => `(tactic| repeat ((first | walk_at "eg one"); (try dsimp only)))

section
variable {P : Program} {w : World} {K : PySem.W.Frag} {mg : Str → Option Value} {base : Heap}
def P_is_points : PD := fun as φ K F XK => ∃ x, as = [.d x] ∧ plain x = true ∧ K (.bool (isPts x)) φ
theorem ok_is_points (T : Tx K mg base) : FnG P w K mg base (L2.CX P w) 4 T.a_is_points T.fd_is_points ["value"] (SpD (P_is_points)) := by
  have G_is_list : FnG P w K mg base (L2.CX P w) 1 T.a_is_list T.fd_is_list ["value"] (SpD (P_is_list)) := ok_is_list T
  have G__is_point : FnG P w K mg base (L2.CX P w) 3 T.a__is_point T.fd__is_point ["value"] (SpD (P__is_point)) := ok__is_point T
  refine fn_data T.F_is_points sc_is_points ?len (fun cdv A outer s H E hr hgd => ⟨_, (pss_cons (ps_if (pt_not (pt_val (pe_callG G_is_list (hr.mono (by decide)) hgd (by rfl) T.g_is_list T.F_is_list.kp T.b_is_list noX (pa_cons (pv 0) pa_nil)))) (pss_one (ps_ret pe_bl)) pss_nil) (pss_cons (ps_if (pt_not (pt_val (pe_callB (r := rAll K) (cr_all rfl) (by rfl) T.m_all (by decide +kernel) (pa_cons (pe_lc (own := [("point", 1)]) (tt := tYes) rfl sc_is_points.nd (pi_seq (pv 0)) (blkOk_by (own := [("point", 1)]) (N := ["value", "point", "following"]) (sc := defScope s_is_points) (by decide +kernel)) (fun _ _ _ _ _ => (pg_name (i := 1) sc_is_points.nd rfl (Or.inl rfl))) (fun _ _ _ _ _ => pts_nil) (fun _ _ _ _ _ => (pe_callG G__is_point (hr.mono (by decide)) hgd (by rfl) T.g__is_point T.F__is_point.kp T.b__is_point noX (pa_cons (pv 1) pa_nil)))) pa_nil)))) (pss_one (ps_ret pe_bl)) pss_nil) (pss_one (ps_ret (pe_callB (r := rAll K) (cr_all rfl) (by rfl) T.m_all (by decide +kernel) (pa_cons (pe_lc (own := [("point", 1), ("following", 2)]) (g := gTup K 2 (gCons (gName 1) (gCons (gName 2) gNil))) (tt := tYes) rfl sc_is_points.nd (RZ.pi_zipA (by rfl) T.m_zip (pa_cons (pv 0) (pa_cons (pe_slice (r := rSlU K) sl_any (pv 0) (po_some pe_int) po_none) pa_nil))) (blkOk_by (own := [("point", 1), ("following", 2)]) (N := ["value", "point", "following"]) (sc := defScope s_is_points) (by decide +kernel)) (fun _ _ _ _ _ => (pg_tup rfl (pgs_cons (pg_name (i := 1) sc_is_points.nd rfl (Or.inl rfl)) (pgs_cons (pg_name (i := 2) sc_is_points.nd rfl (Or.inl rfl)) pgs_nil)))) (fun _ _ _ _ _ => pts_nil) (fun _ _ _ _ _ => (pe_cmpR op_lt (pe_ix (r := rIx K) ix_seq (pv 1) pe_int (fun _ _ => rfl)) (pe_ix (r := rIx K) ix_seq (pv 2) pe_int (fun _ _ => rfl)) (nomark _)))) pa_nil)))))), fun as φ Kc F XK h => ?body⟩)
  case len => walk_at "eg len"
  case body =>
    obtain ⟨x, rfl, hp, k⟩ := h
    cases x with
    | list ds =>
      obtain ⟨pa, pl⟩ := plain_items hp rfl
      walk_at "eg"
      refine wd_mapB (p := isPt) rfl ?_
      walk_at "eg"
      refine ⟨pl, fun x hx => ?_, ?_⟩
      · walk_at "eg"
        exact ⟨plain_mem pa hx, rfl, rfl⟩
      walk_at "eg"
      rw [all_map]
      refine ⟨fun e => ?_, fun e => ?_⟩
      · walk_at "eg"
        have e2 : isPts (.list ds) = false := by
          have e3 : ds.all isPt = false := by simpa using e
          show (ds.all isPt && asc ds) = false
          rw [e3]
          rfl
        rw [e2] at k
        exact k
      · have e3 : ds.all isPt = true := by simpa using e
        have hpt : ∀ x, x ∈ ds → isPt x = true := fun x hx => List.all_eq_true.mp e3 x hx
        walk_at "eg"
        refine wd_mapZ (p := fun x y => decide (timeOf x < timeOf y)) (by decide) rfl ?_
        walk_at "eg"
        refine ⟨_, _, .inl rfl, pl, fun i x y hx hy => ?_, ?_⟩
        · rw [cut_tail] at hy
          obtain ⟨t1, v1, rfl, _⟩ := pt_shape (hpt x (List.mem_of_getElem? hx))
          obtain ⟨t2, v2, rfl, _⟩ := pt_shape (hpt y (List.mem_of_mem_drop (List.mem_of_getElem? hy)))
          walk_at "eg"
          first | done | exact ⟨rfl, rfl⟩ | rfl
        · walk_at "eg"
          rw [cut_tail, asc_zip]
          have e2 : isPts (.list ds) = asc ds := by
            show (ds.all isPt && asc ds) = asc ds
            rw [e3, Bool.true_and]
          rw [e2] at k
          exact k
    | tuple ds =>
      obtain ⟨pa, pl⟩ := plain_items hp rfl
      walk_at "eg"
      refine wd_mapB (p := isPt) rfl ?_
      walk_at "eg"
      refine ⟨pl, fun x hx => ?_, ?_⟩
      · walk_at "eg"
        exact ⟨plain_mem pa hx, rfl, rfl⟩
      walk_at "eg"
      rw [all_map]
      refine ⟨fun e => ?_, fun e => ?_⟩
      · walk_at "eg"
        have e2 : isPts (.tuple ds) = false := by
          have e3 : ds.all isPt = false := by simpa using e
          show (ds.all isPt && asc ds) = false
          rw [e3]
          rfl
        rw [e2] at k
        exact k
      · have e3 : ds.all isPt = true := by simpa using e
        have hpt : ∀ x, x ∈ ds → isPt x = true := fun x hx => List.all_eq_true.mp e3 x hx
        walk_at "eg"
        refine wd_mapZ (p := fun x y => decide (timeOf x < timeOf y)) (by decide) rfl ?_
        walk_at "eg"
        refine ⟨_, _, .inr rfl, pl, fun i x y hx hy => ?_, ?_⟩
        · rw [cut_tail] at hy
          obtain ⟨t1, v1, rfl, _⟩ := pt_shape (hpt x (List.mem_of_getElem? hx))
          obtain ⟨t2, v2, rfl, _⟩ := pt_shape (hpt y (List.mem_of_mem_drop (List.mem_of_getElem? hy)))
          walk_at "eg"
          first | done | exact ⟨rfl, rfl⟩ | rfl
        · walk_at "eg"
          rw [cut_tail, asc_zip]
          have e2 : isPts (.tuple ds) = asc ds := by
            show (ds.all isPt && asc ds) = asc ds
            rw [e3, Bool.true_and]
          rw [e2] at k
          exact k
    | _ =>
      walk_at "eg"
      exact k
def P__is_rows : PD := fun as φ K F XK => ∃ x, as = [.d x] ∧ plain x = true ∧ K (.bool (isRows x)) φ
theorem ok__is_rows (T : Tx K mg base) : FnG P w K mg base (L2.CX P w) 5 T.a__is_rows T.fd__is_rows ["value"] (SpD (P__is_rows)) := by
  have G_is_list : FnG P w K mg base (L2.CX P w) 1 T.a_is_list T.fd_is_list ["value"] (SpD (P_is_list)) := ok_is_list T
  have G_is_points : FnG P w K mg base (L2.CX P w) 4 T.a_is_points T.fd_is_points ["value"] (SpD (P_is_points)) := ok_is_points T
  refine fn_data T.F__is_rows sc__is_rows ?len (fun cdv A outer s H E hr hgd => ⟨_, (pss_one (ps_ret (pe_and (pe_callG G_is_list (hr.mono (by decide)) hgd (by rfl) T.g_is_list T.F_is_list.kp T.b_is_list noX (pa_cons (pv 0) pa_nil)) (pe_one (pe_callB (r := rAll K) (cr_all rfl) (by rfl) T.m_all (by decide +kernel) (pa_cons (pe_lc (own := [("row", 1)]) (tt := tYes) rfl sc__is_rows.nd (pi_seq (pv 0)) (blkOk_by (own := [("row", 1)]) (N := ["value", "row"]) (sc := defScope s__is_rows) (by decide +kernel)) (fun _ _ _ _ _ => (pg_name (i := 1) sc__is_rows.nd rfl (Or.inl rfl))) (fun _ _ _ _ _ => pts_nil) (fun _ _ _ _ _ => (pe_callG G_is_points (hr.mono (by decide)) hgd (by rfl) T.g_is_points T.F_is_points.kp T.b_is_points noX (pa_cons (pv 1) pa_nil)))) pa_nil)))))), fun as φ Kc F XK h => ?body⟩)
  case len => walk_at "eg len"
  case body =>
    obtain ⟨x, rfl, hp, k⟩ := h
    cases x with
    | list ds =>
      obtain ⟨pa, pl⟩ := plain_items hp rfl
      walk_at "eg"
      refine wd_mapB (p := isPts) rfl ?_
      walk_at "eg"
      refine ⟨pl, fun x hx => ?_, ?_⟩
      · walk_at "eg"
        exact ⟨plain_mem pa hx, rfl, rfl⟩
      walk_at "eg"
      rw [all_map]
      exact k
    | tuple ds =>
      obtain ⟨pa, pl⟩ := plain_items hp rfl
      walk_at "eg"
      refine wd_mapB (p := isPts) rfl ?_
      walk_at "eg"
      refine ⟨pl, fun x hx => ?_, ?_⟩
      · walk_at "eg"
        exact ⟨plain_mem pa hx, rfl, rfl⟩
      walk_at "eg"
      rw [all_map]
      exact k
    | _ =>
      walk_at "eg"
      exact k
end
end K9

/-! K9t3 -/
set_option Elab.async false
set_option linter.all false
set_option maxRecDepth 100000
set_option maxHeartbeats 2000000

namespace K9
open PySem PySem.Spec PyProof.Rows L2 Eg
local macro_rules | `(tactic| walk_at "eg len") => `(tactic| (intro as φ K F XK h; first
  | (obtain ⟨e, r⟩ := h; subst e; rfl) | (obtain ⟨x, e, r⟩ := h; subst e; rfl) | (obtain ⟨x, y, e, r⟩ := h; subst e; rfl) | (obtain ⟨x, y, z, e, r⟩ := h; subst e; rfl) | (obtain ⟨x, y, z, u, e, r⟩ := h; subst e; rfl)
  | (rcases h with h | h <;> first | (obtain ⟨x, e, r⟩ := h; subst e; rfl) | (obtain ⟨x, y, e, r⟩ := h; subst e; rfl) | (obtain ⟨x, y, z, e, r⟩ := h; subst e; rfl) | (obtain ⟨x, y, z, u, e, r⟩ := h; subst e; rfl))))
/-- one step ahead -/
local macro_rules | `(tactic| walk_at "eg one") => `(tactic| (first
  | ((with_reducible refine' wd_ixOwn ?h ?_); (case h => rfl))
  | ((with_reducible refine' wd_isNOwn ?h ?_); (case h => rfl))
  | ((with_reducible refine' wd_tupleOwn ?h ?_); (case h => rfl))
  | ((with_reducible refine' wd_box0 ?h ?_); (case h => rfl))
  | ((with_reducible refine' wd_box1 ?h ?_); (case h => rfl))
  | ((with_reducible refine' wd_box2 ?h ?_); (case h => rfl))
  | ((with_reducible refine' wd_box3 ?h ?_); (case h => rfl))
  | (with_reducible first
    | refine ws_seq ?_ | refine ws_if ?_ | refine ws_ret ?_ | refine ws_retN ?_ | refine ws_next ?_ | refine ws_asg ?_ | refine ws_drop ?_ | refine ws_par ?_
    | refine wd_int ?_ | refine wd_bl ?_ | refine wd_str ?_ | refine wd_non ?_
    | refine wd_isi isi_int ?_ | refine wd_isi isi_bool ?_ | refine wd_isi isi_str ?_ | refine wd_isi isi_list ?_ | refine wd_isi isi_tuple ?_ | refine wd_isi isi_dict ?_ | refine wd_isi2 isi_list isi_tuple ?_
    | refine wd_list ?_ | refine wd_tuple ?_
    | refine wd_callX ?_ | refine wd_call ?_ | refine wd_callK1X ?_ | refine wd_callK1 ?_ | refine wd_cb ?_ | refine wd_op ?_ | refine wd_un ?_ | refine wd_if ?_ | refine wd_andV ?_ | refine wd_orV ?_ | refine wd_notV ?_
    | refine wd_tup ?_ | refine wd_lst ?_ | refine wd_slice ?_ | refine wo_none ?_ | refine wo_some ?_
    | refine wt_B ?_ | refine wt_test ?_ | refine wt_and ?_ | refine wt_or ?_ | refine wt_not ?_ | refine wt_yes ?_
    | refine wa_nil ?_
    | refine rd_plus_int ?_ | refine rd_sub ?_ | refine rd_cmp ?_ | refine rd_eq_int ?_ | refine rd_ne_int ?_ | refine rd_eq_str ?_ | refine rd_ne_str ?_ | refine rd_isN ?_ | refine rd_notN ?_ | refine ru_neg ?_
    | refine rl_abs ?_ | refine rl_int ?_ | refine rl_intB ?_ | refine rl_max2 ?_ | refine rl_min2 ?_ | refine rl_sum ?_ | refine rl_all ?_)
  | ((with_reducible refine' wd_var ?h ?_); (case h => rfl))
  | ((with_reducible refine' wd_varB ?h ?_); (case h => rfl))
  | ((with_reducible refine' wa_box ?h ?_); (case h => rfl))
  | (with_reducible refine wa_cons ?_)
  | (with_reducible refine wd_dnew ?_) | (with_reducible refine wd_disp1 ?_) | (with_reducible refine wd_rev ?_)
  | ((with_reducible refine' ws_setOwn ?h ?_); (case h => rfl))
  | ((with_reducible refine' ws_setBox0 ?h ?_); (case h => rfl))
  | ((with_reducible refine' ws_setBox3 ?h ?_); (case h => rfl))
  | ((with_reducible refine' rl_len ?h ?_); (case h => rfl))
  | ((with_reducible refine' rd_ix_list ?h ?_); (case h => rfl))
  | ((with_reducible refine' rd_ix_tup ?h ?_); (case h => rfl))
  | ((with_reducible refine' ptr_and ?h ?_); (case h => first | rfl | assumption | exact plain_ptr (by assumption)))
  | ((with_reducible refine' pick_t ?h ?_); (case h => rfl))
  | ((with_reducible refine' pick_f ?h ?_); (case h => rfl))
  | (refine ⟨[_, _], rfl, Nat.le_of_ble_eq_true rfl, ?_⟩) | (refine ⟨[_], rfl, Nat.le_of_ble_eq_true rfl, ?_⟩) | (refine ⟨[_, _, _], rfl, Nat.le_of_ble_eq_true rfl, ?_⟩) | (refine ⟨[_, _, _, _], rfl, Nat.le_of_ble_eq_true rfl, ?_⟩) | (refine ⟨[_, _, _, _, _, _], rfl, Nat.le_of_ble_eq_true rfl, ?_⟩)
  | (with_reducible refine ⟨_, rfl, ?_⟩) | (with_reducible refine ⟨rfl, ?_⟩) | (refine ⟨_, rfl, ?_⟩)))
local macro_rules | `(tactic| walk_at "eg") => `(tactic| repeat ((first | walk_at "eg one"); (try dsimp only)))

section
variable {P : Program} {w : World} {K : PySem.W.Frag} {mg : Str → Option Value} {base : Heap}
def P__summed : PD := fun as φ K F XK => ∃ x y : Fd, as = [.d x.d, .d y.d] ∧ K (.tuple [.int (x.n + y.n), .int (x.s + y.s), .int (if y.lo < x.lo then y.lo else x.lo), .int (if y.hi > x.hi then y.hi else x.hi)]) φ
theorem ok__summed (T : Tx K mg base) : FnG P w K mg base (L2.CX P w) 1 T.a__summed T.fd__summed ["one", "other"] (SpD (P__summed)) := by
  refine fn_data T.F__summed sc__summed ?len (fun cdv A outer s H E hr hgd => ⟨_, (pss_one (ps_ret (pe_tup (pa_cons (pe_op (r := rPlus K) op_plus (pe_ix (r := rIx K) ix_seq (pv 0) pe_int (fun _ _ => rfl)) (pe_ix (r := rIx K) ix_seq (pv 1) pe_int (fun _ _ => rfl))) (pa_cons (pe_op (r := rPlus K) op_plus (pe_ix (r := rIx K) ix_seq (pv 0) pe_int (fun _ _ => rfl)) (pe_ix (r := rIx K) ix_seq (pv 1) pe_int (fun _ _ => rfl))) (pa_cons (pe_callB (call_min2 rfl) (by rfl) T.m_min (by decide +kernel) (pa_cons (pe_ix (r := rIx K) ix_seq (pv 0) pe_int (fun _ _ => rfl)) (pa_cons (pe_ix (r := rIx K) ix_seq (pv 1) pe_int (fun _ _ => rfl)) pa_nil))) (pa_cons (pe_callB (call_max2 rfl) (by rfl) T.m_max (by decide +kernel) (pa_cons (pe_ix (r := rIx K) ix_seq (pv 0) pe_int (fun _ _ => rfl)) (pa_cons (pe_ix (r := rIx K) ix_seq (pv 1) pe_int (fun _ _ => rfl)) pa_nil))) pa_nil))))))), fun as φ Kc F XK h => ?body⟩)
  case len => walk_at "eg len"
  case body =>
    obtain ⟨x, y, rfl, k⟩ := h
    walk_at "eg"
    exact k
def P__put_beside : PD := fun as φ K F XK => ∃ x y : Option Fd, as = [.d (fdD x), .d (fdD y)] ∧ K (fdD (besO x y)) φ
theorem ok__put_beside (T : Tx K mg base) : FnG P w K mg base (L2.CX P w) 2 T.a__put_beside T.fd__put_beside ["one", "other"] (SpD (P__put_beside)) := by
  have G__summed : FnG P w K mg base (L2.CX P w) 1 T.a__summed T.fd__summed ["one", "other"] (SpD (P__summed)) := ok__summed T
  refine fn_data T.F__put_beside sc__put_beside ?len (fun cdv A outer s H E hr hgd => ⟨_, (pss_cons (ps_if (pt_cmpR op_isN (pv 0) pe_non (nomark _)) (pss_one (ps_ret (pv 1))) pss_nil) (pss_cons (ps_if (pt_cmpR op_isN (pv 1) pe_non (nomark _)) (pss_one (ps_ret (pv 0))) pss_nil) (pss_cons (ps_par (i := 2) (j := 3) rfl sc__put_beside.nd rfl rfl (by decide) rfl rfl (pa_cons (pe_ix (r := rIx K) ix_seq (pv 0) pe_int (fun _ _ => rfl)) (pa_cons (pe_ix (r := rIx K) ix_seq (pv 0) pe_int (fun _ _ => rfl)) pa_nil)) (by rfl)) (pss_cons (ps_if (pt_cmpR op_lt (pe_ix (r := rIx K) ix_seq (pe_ix (r := rIx K) ix_seq (pv 1) pe_int (fun _ _ => rfl)) pe_int (fun _ _ => rfl)) (pe_ix (r := rIx K) ix_seq (pv 2) pe_int (fun _ _ => rfl)) (nomark _)) (pss_one (ps_set (i := 2) sc__put_beside.nd rfl (Or.inl rfl) (pe_ix (r := rIx K) ix_seq (pv 1) pe_int (fun _ _ => rfl)))) pss_nil) (pss_cons (ps_if (pt_cmpR op_ge (pe_ix (r := rIx K) ix_seq (pe_ix (r := rIx K) ix_seq (pv 1) pe_int (fun _ _ => rfl)) pe_int (fun _ _ => rfl)) (pe_ix (r := rIx K) ix_seq (pv 3) pe_int (fun _ _ => rfl)) (nomark _)) (pss_one (ps_set (i := 3) sc__put_beside.nd rfl (Or.inl rfl) (pe_ix (r := rIx K) ix_seq (pv 1) pe_int (fun _ _ => rfl)))) pss_nil) (pss_one (ps_ret (pe_op (r := rPlus K) op_plus (pe_callG G__summed (hr.mono (by decide)) hgd (by rfl) T.g__summed T.F__summed.kp T.b__summed noX (pa_cons (pv 0) (pa_cons (pv 1) pa_nil))) (pe_tup (pa_cons (pv 2) (pa_cons (pv 3) pa_nil))))))))))), fun as φ Kc F XK h => ?body⟩)
  case len => walk_at "eg len"
  case body =>
    obtain ⟨x, y, rfl, k⟩ := h
    cases x with
    | none =>
      walk_at "eg"
      exact k
    | some x =>
      cases y with
      | none =>
        walk_at "eg"
        exact k
      | some y =>
        dsimp only [fdD]
        walk_at "eg"
        have fin : ∀ f l : PyData, f = (if y.f.1 < x.f.1 then ptD y.f else ptD x.f) → l = (if y.l.1 ≥ x.l.1 then ptD y.l else ptD x.l) → Kc (.tuple [.int (x.n + y.n), .int (x.s + y.s), .int (if y.lo < x.lo then y.lo else x.lo), .int (if y.hi > x.hi then y.hi else x.hi), f, l]) φ := by
          intro f l hf hl
          have e : fdD (besO (some x) (some y)) = .tuple [.int (x.n + y.n), .int (x.s + y.s), .int (if y.lo < x.lo then y.lo else x.lo), .int (if y.hi > x.hi then y.hi else x.hi), f, l] := by
            rw [hf, hl]
            show PyData.tuple [_, _, _, _, ptD (if y.f.1 < x.f.1 then y.f else x.f), ptD (if y.l.1 ≥ x.l.1 then y.l else x.l)] = _
            rw [apply_ite ptD, apply_ite ptD]
            rfl
          rw [e] at k
          exact k
        refine ⟨fun e1 => ?_, fun e1 => ?_⟩
        · walk_at "eg"
          refine ⟨fun e2 => ?_, fun e2 => ?_⟩
          · walk_at "eg"
            refine ⟨x, y, rfl, ?_⟩
            walk_at "eg"
            refine rd_plus_tup (by exact Nat.le_of_ble_eq_true rfl) ?_
            refine fin _ _ ?_ ?_
            · rw [if_pos (of_decide_eq_true e1)]
            · rw [if_pos (of_decide_eq_true e2)]
          · walk_at "eg"
            refine ⟨x, y, rfl, ?_⟩
            walk_at "eg"
            refine rd_plus_tup (by exact Nat.le_of_ble_eq_true rfl) ?_
            refine fin _ _ ?_ ?_
            · rw [if_pos (of_decide_eq_true e1)]
            · rw [if_neg (of_decide_eq_false e2)]
        · walk_at "eg"
          refine ⟨fun e2 => ?_, fun e2 => ?_⟩
          · walk_at "eg"
            refine ⟨x, y, rfl, ?_⟩
            walk_at "eg"
            refine rd_plus_tup (by exact Nat.le_of_ble_eq_true rfl) ?_
            refine fin _ _ ?_ ?_
            · rw [if_neg (of_decide_eq_false e1)]
            · rw [if_pos (of_decide_eq_true e2)]
          · walk_at "eg"
            refine ⟨x, y, rfl, ?_⟩
            walk_at "eg"
            refine rd_plus_tup (by exact Nat.le_of_ble_eq_true rfl) ?_
            refine fin _ _ ?_ ?_
            · rw [if_neg (of_decide_eq_false e1)]
            · rw [if_neg (of_decide_eq_false e2)]
def P__fold_of_row : PD := fun as φ K F XK => ∃ x, as = [.d x] ∧ plain x = true ∧ isPts x = true ∧ K (fdD (rowF (itemsL x))) φ
theorem ok__fold_of_row (T : Tx K mg base) : FnG P w K mg base (L2.CX P w) 1 T.a__fold_of_row T.fd__fold_of_row ["points"] (SpD (P__fold_of_row)) := by
  refine fn_data T.F__fold_of_row sc__fold_of_row ?len (fun cdv A outer s H E hr hgd => ⟨_, (pss_cons (ps_if (pt_cmpR (r := rEqU K) (op_eqU hr.units) (pe_callB (r := rLenU K) call_len (by rfl) T.m_len (by decide +kernel) (pa_cons (pv 0) pa_nil)) pe_int (nomark _)) (pss_one (ps_ret pe_non)) pss_nil) (pss_cons (ps_setLc (i := 1) (own := [("time", 2), ("value", 3)]) (g := gTup K 2 (gCons (gName 2) (gCons (gName 3) gNil))) (tt := tYes) rfl sc__fold_of_row.nd rfl rfl (sw_true rfl rfl rfl (by decide +kernel)) (pi_seq (pv 0)) (blkOk_by (own := [("time", 2), ("value", 3)]) (N := ["points", "values", "time", "value"]) (sc := defScope s__fold_of_row) (by decide +kernel)) (fun _ _ _ _ _ => (pg_tup rfl (pgs_cons (pg_name (i := 2) sc__fold_of_row.nd rfl (Or.inl rfl)) (pgs_cons (pg_name (i := 3) sc__fold_of_row.nd rfl (Or.inl rfl)) pgs_nil)))) (fun _ _ _ _ _ => pts_nil) (fun _ _ _ _ _ => (pv 3))) (pss_one (ps_ret (pe_tup (pa_cons (pe_callB (r := rLenU K) call_len (by rfl) T.m_len (by decide +kernel) (pa_cons (pv 1) pa_nil)) (pa_cons (pe_callB (r := rSum K) (cr_sum rfl) (by rfl) T.m_sum (by decide +kernel) (pa_cons (pv 1) pa_nil)) (pa_cons (pe_callB (r := rMin K) (cr_min rfl) (by rfl) T.m_min (by decide +kernel) (pa_cons (pv 1) pa_nil)) (pa_cons (pe_callB (r := rMax K) (cr_max rfl) (by rfl) T.m_max (by decide +kernel) (pa_cons (pv 1) pa_nil)) (pa_cons (pe_ix (r := rIx K) ix_seq (pv 0) pe_int (fun _ _ => rfl)) (pa_cons (pe_ix (r := rIx K) ix_seq (pv 0) (pe_un un_neg pe_int) (fun _ _ => rfl)) pa_nil))))))))))), fun as φ Kc F XK h => ?body⟩)
  case len => walk_at "eg len"
  case body =>
    obtain ⟨x, rfl, hp, hq, k⟩ := h
    cases x with
    | list ds =>
      obtain ⟨pa, pl⟩ := plain_items hp rfl
      have hq' : (ds.all isPt && asc ds) = true := hq
      rw [Bool.and_eq_true] at hq'
      have hpt : ∀ x, x ∈ ds → isPt x = true := fun x hx => List.all_eq_true.mp hq'.1 x hx
      cases ds with
      | nil =>
        walk_at "eg"
        exact k
      | cons x r =>
        walk_at "eg"
        refine wd_of_wf (wf_vals (i := 2) (j := 3) (by decide) (Nat.le_of_ble_eq_true rfl) (Nat.le_of_ble_eq_true rfl) rfl ?_)
        walk_at "eg"
        refine ⟨pl, hpt, ?_⟩
        walk_at "eg"
        refine rl_min (by simp [vals]) fun m1 hm1 hl1 => ?_
        walk_at "eg"
        refine rl_max (by simp [vals]) fun m2 hm2 hl2 => ?_
        walk_at "eg"
        refine rd_ix_list (L2.atI_nat (j := 0) rfl) ?_
        walk_at "eg"
        refine rd_ix_list (atI_lastOf x r) ?_
        walk_at "eg"
        have e : fdD (rowF (x :: r)) = .tuple [.int ((vals (x :: r)).map PyData.int).length, .int (vals (x :: r)).sum, .int m1, .int m2, x, lastOf (x :: r)] := by
          show PyData.tuple [.int ((x :: r).length : Int), _, .int (least (vals (x :: r))), .int (most (vals (x :: r))), ptD (tv x), ptD (tv (lastOf (x :: r)))] = _
          rw [ptD_tv (hpt x (by simp)), ptD_tv (hpt _ (lastOf_mem x r)), least_is hm1 hl1, most_is hm2 hl2, List.length_map, show (vals (x :: r)).length = (x :: r).length from List.length_map ..]
        have k' : Kc (fdD (rowF (x :: r))) φ := k
        rw [e] at k'
        exact k'
    | tuple ds =>
      obtain ⟨pa, pl⟩ := plain_items hp rfl
      have hq' : (ds.all isPt && asc ds) = true := hq
      rw [Bool.and_eq_true] at hq'
      have hpt : ∀ x, x ∈ ds → isPt x = true := fun x hx => List.all_eq_true.mp hq'.1 x hx
      cases ds with
      | nil =>
        walk_at "eg"
        exact k
      | cons x r =>
        walk_at "eg"
        refine wd_of_wf (wf_vals (i := 2) (j := 3) (by decide) (Nat.le_of_ble_eq_true rfl) (Nat.le_of_ble_eq_true rfl) rfl ?_)
        walk_at "eg"
        refine ⟨pl, hpt, ?_⟩
        walk_at "eg"
        refine rl_min (by simp [vals]) fun m1 hm1 hl1 => ?_
        walk_at "eg"
        refine rl_max (by simp [vals]) fun m2 hm2 hl2 => ?_
        walk_at "eg"
        refine rd_ix_tup (L2.atI_nat (j := 0) rfl) ?_
        walk_at "eg"
        refine rd_ix_tup (atI_lastOf x r) ?_
        walk_at "eg"
        have e : fdD (rowF (x :: r)) = .tuple [.int ((vals (x :: r)).map PyData.int).length, .int (vals (x :: r)).sum, .int m1, .int m2, x, lastOf (x :: r)] := by
          show PyData.tuple [.int ((x :: r).length : Int), _, .int (least (vals (x :: r))), .int (most (vals (x :: r))), ptD (tv x), ptD (tv (lastOf (x :: r)))] = _
          rw [ptD_tv (hpt x (by simp)), ptD_tv (hpt _ (lastOf_mem x r)), least_is hm1 hl1, most_is hm2 hl2, List.length_map, show (vals (x :: r)).length = (x :: r).length from List.length_map ..]
        have k' : Kc (fdD (rowF (x :: r))) φ := k
        rw [e] at k'
        exact k'
    | _ => cases hq
end
end K9

/-! K9t4 -/
set_option Elab.async false
set_option linter.all false
set_option maxRecDepth 100000
set_option maxHeartbeats 2000000

namespace K9
open PySem PySem.Spec PyProof.Rows L2 Eg
local macro_rules | `(tactic| walk_at "eg len") => `(tactic| (intro as φ K F XK h; first
  | (obtain ⟨e, r⟩ := h; subst e; rfl) | (obtain ⟨x, e, r⟩ := h; subst e; rfl) | (obtain ⟨x, y, e, r⟩ := h; subst e; rfl) | (obtain ⟨x, y, z, e, r⟩ := h; subst e; rfl) | (obtain ⟨x, y, z, u, e, r⟩ := h; subst e; rfl)
  | (obtain ⟨x, y, h | ⟨p, h⟩, r⟩ := h <;> (obtain ⟨e, _⟩ := h; subst e; rfl)) | (obtain ⟨x, y, z, h | ⟨p, h⟩, r⟩ := h <;> (obtain ⟨e, _⟩ := h; subst e; rfl))
  | (rcases h with h | h <;> first | (obtain ⟨x, e, r⟩ := h; subst e; rfl) | (obtain ⟨x, y, e, r⟩ := h; subst e; rfl) | (obtain ⟨x, y, z, e, r⟩ := h; subst e; rfl) | (obtain ⟨x, y, z, u, e, r⟩ := h; subst e; rfl))))
/-- one step ahead -/
local macro_rules | `(tactic| walk_at "eg one") => `(tactic| (first
  | ((with_reducible refine' ws_raise_given (wa_cons (wd_varP ?h ?_))); (case h => rfl))
  | (with_reducible refine ws_raise_given ?_)
  | ((with_reducible refine' wd_ixOwn ?h ?_); (case h => rfl))
  | ((with_reducible refine' wd_isNOwn ?h ?_); (case h => rfl))
  | ((with_reducible refine' wd_tupleOwn ?h ?_); (case h => rfl))
  | ((with_reducible refine' wd_box0 ?h ?_); (case h => rfl))
  | ((with_reducible refine' wd_box1 ?h ?_); (case h => rfl))
  | ((with_reducible refine' wd_box2 ?h ?_); (case h => rfl))
  | ((with_reducible refine' wd_box3 ?h ?_); (case h => rfl))
  | (with_reducible first
    | refine ws_seq ?_ | refine ws_if ?_ | refine ws_ret ?_ | refine ws_retN ?_ | refine ws_next ?_ | refine ws_asg ?_ | refine ws_drop ?_ | refine ws_par ?_
    | refine wd_int ?_ | refine wd_bl ?_ | refine wd_str ?_ | refine wd_non ?_
    | refine wd_isi isi_int ?_ | refine wd_isi isi_bool ?_ | refine wd_isi isi_str ?_ | refine wd_isi isi_list ?_ | refine wd_isi isi_tuple ?_ | refine wd_isi isi_dict ?_ | refine wd_isi2 isi_list isi_tuple ?_
    | refine wd_list ?_ | refine wd_tuple ?_
    | refine wd_callX ?_ | refine wd_call ?_ | refine wd_callK1X ?_ | refine wd_callK1 ?_ | refine wd_cb ?_ | refine wd_op ?_ | refine wd_un ?_ | refine wd_if ?_ | refine wd_andV ?_ | refine wd_orV ?_ | refine wd_notV ?_
    | refine wd_tup ?_ | refine wd_lst ?_ | refine wd_slice ?_ | refine wo_none ?_ | refine wo_some ?_
    | refine wt_B ?_ | refine wt_test ?_ | refine wt_and ?_ | refine wt_or ?_ | refine wt_not ?_ | refine wt_yes ?_
    | refine wa_nil ?_
    | refine rd_plus_int ?_ | refine rd_sub ?_ | refine rd_cmp ?_ | refine rd_eq_int ?_ | refine rd_ne_int ?_ | refine rd_eq_str ?_ | refine rd_ne_str ?_ | refine rd_isN ?_ | refine rd_notN ?_ | refine ru_neg ?_
    | refine rl_abs ?_ | refine rl_int ?_ | refine rl_intB ?_ | refine rl_max2 ?_ | refine rl_min2 ?_ | refine rl_sum ?_ | refine rl_all ?_)
  | ((with_reducible refine' wd_var ?h ?_); (case h => rfl))
  | ((with_reducible refine' wd_varB ?h ?_); (case h => rfl))
  | ((with_reducible refine' wa_box ?h ?_); (case h => rfl))
  | (with_reducible refine wa_cons ?_)
  | (with_reducible refine wd_dnew ?_) | (with_reducible refine wd_disp1 ?_) | (with_reducible refine wd_rev ?_)
  | ((with_reducible refine' ws_setOwn ?h ?_); (case h => rfl))
  | ((with_reducible refine' ws_setBox0 ?h ?_); (case h => rfl))
  | ((with_reducible refine' ws_setBox3 ?h ?_); (case h => rfl))
  | ((with_reducible refine' rl_len ?h ?_); (case h => rfl))
  | ((with_reducible refine' rd_ix_list ?h ?_); (case h => rfl))
  | ((with_reducible refine' rd_ix_tup ?h ?_); (case h => rfl))
  | ((with_reducible refine' ptr_and ?h ?_); (case h => first | rfl | assumption | exact plain_ptr (by assumption)))
  | ((with_reducible refine' pick_t ?h ?_); (case h => rfl))
  | ((with_reducible refine' pick_f ?h ?_); (case h => rfl))
  | (refine ⟨[_, _], rfl, Nat.le_of_ble_eq_true rfl, ?_⟩) | (refine ⟨[_], rfl, Nat.le_of_ble_eq_true rfl, ?_⟩) | (refine ⟨[_, _, _], rfl, Nat.le_of_ble_eq_true rfl, ?_⟩) | (refine ⟨[_, _, _, _], rfl, Nat.le_of_ble_eq_true rfl, ?_⟩) | (refine ⟨[_, _, _, _, _, _], rfl, Nat.le_of_ble_eq_true rfl, ?_⟩)
  | (with_reducible refine ⟨_, rfl, ?_⟩) | (with_reducible refine ⟨rfl, ?_⟩) | (refine ⟨_, rfl, ?_⟩)))
local macro_rules | `(tactic| walk_at "eg") => `(tactic| repeat ((first | walk_at "eg one"); (try dsimp only)))

section
variable {P : Program} {w : World} {K : PySem.W.Frag} {mg : Str → Option Value} {base : Heap}
def P_fold (T : Tx K mg base) : PD := fun as φ K F XK => ∃ x y, (as = [.d x] ∧ y = x ∨ ∃ p, as = [.both x p] ∧ y = ptrD p) ∧ plain x = true ∧ (isPts x = true → K (fdD (rowF (itemsL x))) φ) ∧ (isPts x = false → XK T.c_InvalidPoints "given" y φ)
theorem ok_fold (T : Tx K mg base) : FnG P w K mg base (L2.CX P w) 5 T.a_fold T.fd_fold ["points"] (SpD (P_fold T)) := by
  have G__fold_of_row : FnG P w K mg base (L2.CX P w) 1 T.a__fold_of_row T.fd__fold_of_row ["points"] (SpD (P__fold_of_row)) := ok__fold_of_row T
  have G_is_points : FnG P w K mg base (L2.CX P w) 4 T.a_is_points T.fd_is_points ["value"] (SpD (P_is_points)) := ok_is_points T
  refine fn_data T.F_fold sc_fold ?len (fun cdv A outer s H E hr hgd => ⟨_, (pss_cons (ps_if (pt_not (pt_val (pe_callG G_is_points (hr.mono (by decide)) hgd (by rfl) T.g_is_points T.F_is_points.kp T.b_is_points noX (pa_cons (pv 0) pa_nil)))) (pss_one (ps_raise_given rfl T.low_InvalidPoints (hr.mono (Nat.zero_le _)) (takes_of rfl rfl rfl rfl) (pa_cons (pv 0) pa_nil))) pss_nil) (pss_one (ps_ret (pe_callG G__fold_of_row (hr.mono (by decide)) hgd (by rfl) T.g__fold_of_row T.F__fold_of_row.kp T.b__fold_of_row noX (pa_cons (pv 0) pa_nil))))), fun as φ Kc F XK h => ?body⟩)
  case len => walk_at "eg len"
  case body =>
    obtain ⟨x, y, hv, hp, k1, k2⟩ := h
    rcases hv with ⟨rfl, hy⟩ | ⟨p, rfl, hy⟩ <;> rw [hy] at k2 <;> clear hy
    · walk_at "eg"
      refine ⟨hp, ?_⟩
      walk_at "eg"
      refine ⟨fun e => ?_, fun e => ?_⟩
      · have e' : isPts x = false := by simpa using e
        walk_at "eg"
        exact k2 e'
      · have e' : isPts x = true := by simpa using e
        walk_at "eg"
        exact ⟨hp, e', k1 e'⟩
    · walk_at "eg"
      refine ⟨hp, ?_⟩
      walk_at "eg"
      refine ⟨fun e => ?_, fun e => ?_⟩
      · have e' : isPts x = false := by simpa using e
        walk_at "eg"
        exact k2 e'
      · have e' : isPts x = true := by simpa using e
        walk_at "eg"
        exact ⟨hp, e', k1 e'⟩
def P_fold_of (T : Tx K mg base) : PD := fun as φ K F XK => ∃ x y, (as = [.d x] ∧ y = x ∨ ∃ p, as = [.both x p] ∧ y = ptrD p) ∧ plain x = true ∧ (isRows x = true → K (fdD (rowsF (itemsL x))) φ) ∧ (isRows x = false → XK T.c_InvalidRows "given" y φ)
theorem ok_fold_of (T : Tx K mg base) : FnG P w K mg base (L2.CX P w) 6 T.a_fold_of T.fd_fold_of ["rows"] (SpD (P_fold_of T)) := by
  have G__is_rows : FnG P w K mg base (L2.CX P w) 5 T.a__is_rows T.fd__is_rows ["value"] (SpD (P__is_rows)) := ok__is_rows T
  have G__put_beside : FnG P w K mg base (L2.CX P w) 2 T.a__put_beside T.fd__put_beside ["one", "other"] (SpD (P__put_beside)) := ok__put_beside T
  have G__fold_of_row : FnG P w K mg base (L2.CX P w) 1 T.a__fold_of_row T.fd__fold_of_row ["points"] (SpD (P__fold_of_row)) := ok__fold_of_row T
  refine fn_data T.F_fold_of sc_fold_of ?len (fun cdv A outer s H E hr hgd => ⟨_, (pss_cons (ps_if (pt_not (pt_val (pe_callG G__is_rows (hr.mono (by decide)) hgd (by rfl) T.g__is_rows T.F__is_rows.kp T.b__is_rows noX (pa_cons (pv 0) pa_nil)))) (pss_one (ps_raise_given rfl T.low_InvalidRows (hr.mono (Nat.zero_le _)) (takes_of rfl rfl rfl rfl) (pa_cons (pv 0) pa_nil))) pss_nil) (pss_cons (ps_set (i := 1) sc_fold_of.nd rfl (Or.inl rfl) pe_non) (pss_cons (ps_for (passes_of rfl) rfl (pi_seq (pv 0)) (pg_name (i := 2) sc_fold_of.nd rfl (Or.inl rfl)) (pss_one (ps_set (i := 1) sc_fold_of.nd rfl (Or.inl rfl) (pe_callG G__put_beside (hr.mono (by decide)) hgd (by rfl) T.g__put_beside T.F__put_beside.kp T.b__put_beside noX (pa_cons (pv 1) (pa_cons (pe_callG G__fold_of_row (hr.mono (by decide)) hgd (by rfl) T.g__fold_of_row T.F__fold_of_row.kp T.b__fold_of_row noX (pa_cons (pv 2) pa_nil)) pa_nil)))))) (pss_one (ps_ret (pv 1)))))), fun as φ Kc F XK h => ?body⟩)
  case len => walk_at "eg len"
  case body =>
    obtain ⟨x, y, hv, hp, k1, k2⟩ := h
    rcases hv with ⟨rfl, hy⟩ | ⟨p, rfl, hy⟩ <;> rw [hy] at k2 <;> clear hy
    · cases x with
      | list ds =>
        obtain ⟨pa, pl⟩ := plain_items hp rfl
        walk_at "eg"
        refine ⟨hp, ?_⟩
        walk_at "eg"
        refine ⟨fun e => ?_, fun e => ?_⟩
        · have e' : isRows (.list ds) = false := by simpa using e
          walk_at "eg"
          exact k2 e'
        · have hr : isRows (.list ds) = true := by simpa using e
          have hr' : ds.all isPts = true := hr
          walk_at "eg"
          refine ws_for ?_
          walk_at "eg"
          refine ⟨fun i δ' φ' => φ' = φ ∧ ∃ r, δ' = [.d (.list ds), .d (fdD (rowsF (ds.take i))), r], ⟨rfl, _, rfl⟩, fun i z δ' φ' hz hI => ?_, fun δ' φ' hI => ?_⟩
          · obtain ⟨rfl, r, rfl⟩ := hI
            have hm := List.mem_of_getElem? hz
            refine wg_name ?_
            walk_at "eg"
            refine ⟨plain_mem pa hm, List.all_eq_true.mp hr' z hm, ?_⟩
            walk_at "eg"
            refine ⟨_, _, rfl, ?_⟩
            walk_at "eg"
            refine ⟨.d z, ?_⟩
            rw [rowsF_succ hz]
            rfl
          · obtain ⟨rfl, r, rfl⟩ := hI
            rw [List.take_length]
            walk_at "eg"
            exact k1 hr
      | tuple ds =>
        obtain ⟨pa, pl⟩ := plain_items hp rfl
        walk_at "eg"
        refine ⟨hp, ?_⟩
        walk_at "eg"
        refine ⟨fun e => ?_, fun e => ?_⟩
        · have e' : isRows (.tuple ds) = false := by simpa using e
          walk_at "eg"
          exact k2 e'
        · have hr : isRows (.tuple ds) = true := by simpa using e
          have hr' : ds.all isPts = true := hr
          walk_at "eg"
          refine ws_for ?_
          walk_at "eg"
          refine ⟨fun i δ' φ' => φ' = φ ∧ ∃ r, δ' = [.d (.tuple ds), .d (fdD (rowsF (ds.take i))), r], ⟨rfl, _, rfl⟩, fun i z δ' φ' hz hI => ?_, fun δ' φ' hI => ?_⟩
          · obtain ⟨rfl, r, rfl⟩ := hI
            have hm := List.mem_of_getElem? hz
            refine wg_name ?_
            walk_at "eg"
            refine ⟨plain_mem pa hm, List.all_eq_true.mp hr' z hm, ?_⟩
            walk_at "eg"
            refine ⟨_, _, rfl, ?_⟩
            walk_at "eg"
            refine ⟨.d z, ?_⟩
            rw [rowsF_succ hz]
            rfl
          · obtain ⟨rfl, r, rfl⟩ := hI
            rw [List.take_length]
            walk_at "eg"
            exact k1 hr
      | _ =>
        walk_at "eg"
        try refine ⟨hp, ?_⟩
        walk_at "eg"
        exact k2 rfl
    · cases x with
      | list ds =>
        obtain ⟨pa, pl⟩ := plain_items hp rfl
        walk_at "eg"
        refine ⟨hp, ?_⟩
        walk_at "eg"
        refine ⟨fun e => ?_, fun e => ?_⟩
        · have e' : isRows (.list ds) = false := by simpa using e
          walk_at "eg"
          exact k2 e'
        · have hr : isRows (.list ds) = true := by simpa using e
          have hr' : ds.all isPts = true := hr
          walk_at "eg"
          refine ws_for ?_
          walk_at "eg"
          refine ⟨fun i δ' φ' => φ' = φ ∧ ∃ r, δ' = [.both (.list ds) p, .d (fdD (rowsF (ds.take i))), r], ⟨rfl, _, rfl⟩, fun i z δ' φ' hz hI => ?_, fun δ' φ' hI => ?_⟩
          · obtain ⟨rfl, r, rfl⟩ := hI
            have hm := List.mem_of_getElem? hz
            refine wg_name ?_
            walk_at "eg"
            refine ⟨plain_mem pa hm, List.all_eq_true.mp hr' z hm, ?_⟩
            walk_at "eg"
            refine ⟨_, _, rfl, ?_⟩
            walk_at "eg"
            refine ⟨.d z, ?_⟩
            rw [rowsF_succ hz]
            rfl
          · obtain ⟨rfl, r, rfl⟩ := hI
            rw [List.take_length]
            walk_at "eg"
            exact k1 hr
      | tuple ds =>
        obtain ⟨pa, pl⟩ := plain_items hp rfl
        walk_at "eg"
        refine ⟨hp, ?_⟩
        walk_at "eg"
        refine ⟨fun e => ?_, fun e => ?_⟩
        · have e' : isRows (.tuple ds) = false := by simpa using e
          walk_at "eg"
          exact k2 e'
        · have hr : isRows (.tuple ds) = true := by simpa using e
          have hr' : ds.all isPts = true := hr
          walk_at "eg"
          refine ws_for ?_
          walk_at "eg"
          refine ⟨fun i δ' φ' => φ' = φ ∧ ∃ r, δ' = [.both (.tuple ds) p, .d (fdD (rowsF (ds.take i))), r], ⟨rfl, _, rfl⟩, fun i z δ' φ' hz hI => ?_, fun δ' φ' hI => ?_⟩
          · obtain ⟨rfl, r, rfl⟩ := hI
            have hm := List.mem_of_getElem? hz
            refine wg_name ?_
            walk_at "eg"
            refine ⟨plain_mem pa hm, List.all_eq_true.mp hr' z hm, ?_⟩
            walk_at "eg"
            refine ⟨_, _, rfl, ?_⟩
            walk_at "eg"
            refine ⟨.d z, ?_⟩
            rw [rowsF_succ hz]
            rfl
          · obtain ⟨rfl, r, rfl⟩ := hI
            rw [List.take_length]
            walk_at "eg"
            exact k1 hr
      | _ =>
        walk_at "eg"
        try refine ⟨hp, ?_⟩
        walk_at "eg"
        exact k2 rfl
end
end K9

/-! K9u1 -/
set_option Elab.async false
set_option linter.all false
set_option maxRecDepth 100000
set_option maxHeartbeats 2000000

namespace K9
open PySem PySem.Spec PyProof.Rows L2 Eg
local macro_rules | `(tactic| walk_at "eg len") => `(tactic| (intro as φ K F XK h; first
  | (obtain ⟨e, r⟩ := h; subst e; rfl) | (obtain ⟨x, e, r⟩ := h; subst e; rfl) | (obtain ⟨x, y, e, r⟩ := h; subst e; rfl) | (obtain ⟨x, y, z, e, r⟩ := h; subst e; rfl) | (obtain ⟨x, y, z, u, e, r⟩ := h; subst e; rfl)
  | (obtain ⟨x, y, h | ⟨p, h⟩, r⟩ := h <;> (obtain ⟨e, _⟩ := h; subst e; rfl)) | (obtain ⟨x, y, z, h | ⟨p, h⟩, r⟩ := h <;> (obtain ⟨e, _⟩ := h; subst e; rfl))
  | (rcases h with h | h <;> first | (obtain ⟨x, e, r⟩ := h; subst e; rfl) | (obtain ⟨x, y, e, r⟩ := h; subst e; rfl) | (obtain ⟨x, y, z, e, r⟩ := h; subst e; rfl) | (obtain ⟨x, y, z, u, e, r⟩ := h; subst e; rfl))))
/-- one step ahead -/
local macro_rules | `(tactic| walk_at "eg one") => `(tactic| (first
  | ((with_reducible refine' ws_raise_given (wa_cons (wd_varP ?h ?_))); (case h => rfl))
  | (with_reducible refine ws_raise_given ?_)
  | ((with_reducible refine' wd_ixOwn ?h ?_); (case h => rfl))
  | ((with_reducible refine' wd_isNOwn ?h ?_); (case h => rfl))
  | ((with_reducible refine' wd_tupleOwn ?h ?_); (case h => rfl))
  | ((with_reducible refine' wd_box0 ?h ?_); (case h => rfl))
  | ((with_reducible refine' wd_box1 ?h ?_); (case h => rfl))
  | ((with_reducible refine' wd_box2 ?h ?_); (case h => rfl))
  | ((with_reducible refine' wd_box3 ?h ?_); (case h => rfl))
  | (with_reducible first
    | refine ws_seq ?_ | refine ws_if ?_ | refine ws_ret ?_ | refine ws_retN ?_ | refine ws_next ?_ | refine ws_asg ?_ | refine ws_drop ?_ | refine ws_par ?_
    | refine wd_int ?_ | refine wd_bl ?_ | refine wd_str ?_ | refine wd_non ?_
    | refine wd_isi isi_int ?_ | refine wd_isi isi_bool ?_ | refine wd_isi isi_str ?_ | refine wd_isi isi_list ?_ | refine wd_isi isi_tuple ?_ | refine wd_isi isi_dict ?_ | refine wd_isi2 isi_list isi_tuple ?_
    | refine wd_list ?_ | refine wd_tuple ?_
    | refine wd_callX ?_ | refine wd_call ?_ | refine wd_callK1X ?_ | refine wd_callK1 ?_ | refine wd_cb ?_ | refine wd_op ?_ | refine wd_un ?_ | refine wd_if ?_ | refine wd_andV ?_ | refine wd_orV ?_ | refine wd_notV ?_
    | refine wd_tup ?_ | refine wd_lst ?_ | refine wd_slice ?_ | refine wo_none ?_ | refine wo_some ?_
    | refine wt_B ?_ | refine wt_test ?_ | refine wt_and ?_ | refine wt_or ?_ | refine wt_not ?_ | refine wt_yes ?_
    | refine wa_nil ?_
    | refine rd_plus_int ?_ | refine rd_sub ?_ | refine rd_cmp ?_ | refine rd_eq_int ?_ | refine rd_ne_int ?_ | refine rd_eq_str ?_ | refine rd_ne_str ?_ | refine rd_isN ?_ | refine rd_notN ?_ | refine ru_neg ?_
    | refine rl_abs ?_ | refine rl_int ?_ | refine rl_intB ?_ | refine rl_max2 ?_ | refine rl_min2 ?_ | refine rl_sum ?_ | refine rl_all ?_)
  | ((with_reducible refine' wd_var ?h ?_); (case h => rfl))
  | ((with_reducible refine' wd_varB ?h ?_); (case h => rfl))
  | ((with_reducible refine' wa_box ?h ?_); (case h => rfl))
  | (with_reducible refine wa_cons ?_)
  | (with_reducible refine wd_dnew ?_) | (with_reducible refine wd_disp1 ?_) | (with_reducible refine wd_rev ?_)
  | ((with_reducible refine' ws_setOwn ?h ?_); (case h => rfl))
  | ((with_reducible refine' ws_setBox0 ?h ?_); (case h => rfl))
  | ((with_reducible refine' ws_setBox3 ?h ?_); (case h => rfl))
  | ((with_reducible refine' rl_len ?h ?_); (case h => rfl))
  | ((with_reducible refine' rd_ix_list ?h ?_); (case h => rfl))
  | ((with_reducible refine' rd_ix_tup ?h ?_); (case h => rfl))
  | ((with_reducible refine' ptr_and ?h ?_); (case h => first | rfl | assumption | exact plain_ptr (by assumption)))
  | ((with_reducible refine' pick_t ?h ?_); (case h => rfl))
  | ((with_reducible refine' pick_f ?h ?_); (case h => rfl))
  | (refine ⟨[_, _], rfl, Nat.le_of_ble_eq_true rfl, ?_⟩) | (refine ⟨[_], rfl, Nat.le_of_ble_eq_true rfl, ?_⟩) | (refine ⟨[_, _, _], rfl, Nat.le_of_ble_eq_true rfl, ?_⟩) | (refine ⟨[_, _, _, _], rfl, Nat.le_of_ble_eq_true rfl, ?_⟩) | (refine ⟨[_, _, _, _, _, _], rfl, Nat.le_of_ble_eq_true rfl, ?_⟩)
  | (with_reducible refine ⟨_, rfl, ?_⟩) | (with_reducible refine ⟨rfl, ?_⟩) | (refine ⟨_, rfl, ?_⟩)))
local macro_rules | `(tactic| walk_at "eg") => `(tactic| repeat ((first | walk_at "eg one"); (try dsimp only)))

section
variable {P : Program} {w : World} {K : PySem.W.Frag} {mg : Str → Option Value} {base : Heap}
def P__law_take : PD := fun as φ K F XK => ∃ n : Int, as = [.bx, .d (.int n)] ∧ 0 < n ∧ n < 1073741824 ∧ 1 ≤ φ ∧ ∀ r : Int, 0 ≤ r → r < n → K (.int r) (φ - 1)
theorem ok__law_take (T : Tx K mg base) : FnG P w K mg base (L2.CX P w) 1 T.a__law_take T.fd__law_take ["box", "many"] (SpD (P__law_take)) := by
  refine fn_data T.F__law_take sc__law_take ?len (fun cdv A outer s H E hr hgd => ⟨_, (pss_cons (ps_if (PW.pt (pw_and (pt_val (pe_ix (r := rIx K) ix_seq (pv 0) pe_int (fun _ _ => rfl))) (pw_and1 (pt_cmpR op_gt (pe_ix (r := rIx K) ix_seq (pv 0) pe_int (fun _ _ => rfl)) pe_int (nomark _))))) (pss_cons (ps_set (i := 3) sc__law_take.nd rfl (Or.inl rfl) (pe_op op_mod (pe_callTy call_int1 (by rfl) T.m_int (by decide +kernel) (pa_cons (pe_ix (r := rIx K) ix_seq (pv 0) pe_int (fun _ _ => rfl)) pa_nil)) (pv 1))) (pss_cons (ps_asg (pe_op op_fdiv (pe_ix (r := rIx K) ix_seq (pv 0) pe_int (fun _ _ => rfl)) (pv 1)) (pg_sub (pv 0) pe_int set_list)) (pss_one (ps_ret (pv 3))))) pss_nil) (pss_cons (ps_asg (pe_op (r := rPlus K) op_plus (pe_ix (r := rIx K) ix_seq (pv 0) pe_int (fun _ _ => rfl)) pe_int) (pg_sub (pv 0) pe_int set_list)) (pss_cons (ps_set (i := 2) sc__law_take.nd rfl (Or.inl rfl) (pe_op op_mod (pe_callTy call_int1 (by rfl) T.m_int (by decide +kernel) (pa_cons (pe_op op_pow (pe_op (r := rPlus K) op_plus (pe_op (r := rPlus K) op_plus (pe_ix (r := rIx K) ix_seq (pv 0) pe_int (fun _ _ => rfl)) (pe_op (r := rTimes K) op_times pe_int (pe_ix (r := rIx K) ix_seq (pv 0) pe_int (fun _ _ => rfl)))) pe_int) pe_int) pa_nil)) pe_int)) (pss_one (ps_ret (pe_op op_mod (pe_op op_fdiv (pe_op op_mod (pe_callTy call_int1 (by rfl) T.m_int (by decide +kernel) (pa_cons (pe_op op_pow (pe_op (r := rPlus K) op_plus (pe_op (r := rTimes K) op_times (pv 2) pe_int) (pe_op (r := rTimes K) op_times pe_int (pe_ix (r := rIx K) ix_seq (pv 0) pe_int (fun _ _ => rfl)))) pe_int) pa_nil)) pe_int) pe_int) (pv 1))))))), fun as φ Kc F XK h => ?body⟩)
  case len => walk_at "eg len"
  case body =>
    obtain ⟨n, rfl, n1, n2, hφ, k⟩ := h
    walk_at "eg"
    intro f
    walk_at "eg"
    refine ⟨fun ef => ?_, fun ef => ?_⟩
    · walk_at "eg"
      intro g hg
      walk_at "eg"
      refine ⟨fun eg => ?_, fun eg => ?_⟩
      · refine ws_less (φ' := φ - 1) ?_ (by omega)
        walk_at "eg"
        intro g2 hg2
        walk_at "eg"
        refine rd_mod n1 ?_
        walk_at "eg"
        intro g3 hg3
        walk_at "eg"
        refine rd_fdiv ⟨n1, n2⟩ ?_
        walk_at "eg"
        refine ⟨Int.ediv_nonneg hg3 (Int.le_of_lt n1), ?_⟩
        walk_at "eg"
        exact k _ (Int.emod_nonneg _ (Int.ne_of_gt n1)) (Int.emod_lt_of_pos _ n1)
      · walk_at "eg"
        intro m hm hm2
        walk_at "eg"
        refine ⟨m + 1, φ - 1, rfl, by omega, by omega, by omega, ?_⟩
        walk_at "eg"
        intro c hc hc2
        walk_at "eg"
        intro q hq hq2
        have hd : draws = 1000000000000 := rfl
        have hq3 : q ≤ 1000000000000 := by omega
        walk_at "eg"
        refine rd_mul (.inl (by decide)) ?_
        walk_at "eg"
        refine rd_pow (j := 5) ⟨by decide, ?_⟩ ?_
        · omega
        walk_at "eg"
        refine rd_mod (by decide) ?_
        walk_at "eg"
        have x1 := Int.emod_nonneg ((c + 15485863 * q + 179424673) ^ 5) (b := 2147483647) (by decide)
        have x2 := Int.emod_lt_of_pos ((c + 15485863 * q + 179424673) ^ 5) (b := 2147483647) (by decide)
        generalize (c + 15485863 * q + 179424673) ^ 5 % 2147483647 = mx at x1 x2
        refine rd_mul (.inr (by decide)) ?_
        walk_at "eg"
        intro q2 hq4 hq5
        have hq6 : q2 ≤ 1000000000000 := by omega
        walk_at "eg"
        refine rd_mul (.inl (by decide)) ?_
        walk_at "eg"
        refine rd_pow (j := 3) ⟨by decide, ?_⟩ ?_
        · omega
        walk_at "eg"
        refine rd_mod (by decide) ?_
        walk_at "eg"
        refine rd_fdiv (by decide) ?_
        walk_at "eg"
        refine rd_mod n1 ?_
        walk_at "eg"
        exact k _ (Int.emod_nonneg _ (Int.ne_of_gt n1)) (Int.emod_lt_of_pos _ n1)
    · walk_at "eg"
      intro m hm hm2
      walk_at "eg"
      refine ⟨m + 1, φ - 1, rfl, by omega, by omega, by omega, ?_⟩
      walk_at "eg"
      intro c hc hc2
      walk_at "eg"
      intro q hq hq2
      have hd : draws = 1000000000000 := rfl
      have hq3 : q ≤ 1000000000000 := by omega
      walk_at "eg"
      refine rd_mul (.inl (by decide)) ?_
      walk_at "eg"
      refine rd_pow (j := 5) ⟨by decide, ?_⟩ ?_
      · omega
      walk_at "eg"
      refine rd_mod (by decide) ?_
      walk_at "eg"
      have x1 := Int.emod_nonneg ((c + 15485863 * q + 179424673) ^ 5) (b := 2147483647) (by decide)
      have x2 := Int.emod_lt_of_pos ((c + 15485863 * q + 179424673) ^ 5) (b := 2147483647) (by decide)
      generalize (c + 15485863 * q + 179424673) ^ 5 % 2147483647 = mx at x1 x2
      refine rd_mul (.inr (by decide)) ?_
      walk_at "eg"
      intro q2 hq4 hq5
      have hq6 : q2 ≤ 1000000000000 := by omega
      walk_at "eg"
      refine rd_mul (.inl (by decide)) ?_
      walk_at "eg"
      refine rd_pow (j := 3) ⟨by decide, ?_⟩ ?_
      · omega
      walk_at "eg"
      refine rd_mod (by decide) ?_
      walk_at "eg"
      refine rd_fdiv (by decide) ?_
      walk_at "eg"
      refine rd_mod n1 ?_
      walk_at "eg"
      exact k _ (Int.emod_nonneg _ (Int.ne_of_gt n1)) (Int.emod_lt_of_pos _ n1)
end
end K9

/-! K9u2 -/
set_option Elab.async false
set_option linter.all false
set_option maxRecDepth 100000
set_option maxHeartbeats 2000000

namespace K9
open PySem PySem.Spec PyProof.Rows L2 Eg
local macro_rules | `(tactic| walk_at "eg len") => `(tactic| (intro as φ K F XK h; first
  | (obtain ⟨e, r⟩ := h; subst e; rfl) | (obtain ⟨x, e, r⟩ := h; subst e; rfl) | (obtain ⟨x, y, e, r⟩ := h; subst e; rfl) | (obtain ⟨x, y, z, e, r⟩ := h; subst e; rfl) | (obtain ⟨x, y, z, u, e, r⟩ := h; subst e; rfl)
  | (obtain ⟨x, y, h | ⟨p, h⟩, r⟩ := h <;> (obtain ⟨e, _⟩ := h; subst e; rfl)) | (obtain ⟨x, y, z, h | ⟨p, h⟩, r⟩ := h <;> (obtain ⟨e, _⟩ := h; subst e; rfl))
  | (rcases h with h | h <;> first | (obtain ⟨x, e, r⟩ := h; subst e; rfl) | (obtain ⟨x, y, e, r⟩ := h; subst e; rfl) | (obtain ⟨x, y, z, e, r⟩ := h; subst e; rfl) | (obtain ⟨x, y, z, u, e, r⟩ := h; subst e; rfl))))
/-- one step ahead -/
local macro_rules | `(tactic| walk_at "eg one") => `(tactic| (first
  | ((with_reducible refine' ws_raise_given (wa_cons (wd_varP ?h ?_))); (case h => rfl))
  | (with_reducible refine ws_raise_given ?_)
  | ((with_reducible refine' wd_ixOwn ?h ?_); (case h => rfl))
  | ((with_reducible refine' wd_isNOwn ?h ?_); (case h => rfl))
  | ((with_reducible refine' wd_tupleOwn ?h ?_); (case h => rfl))
  | ((with_reducible refine' wd_box0 ?h ?_); (case h => rfl))
  | ((with_reducible refine' wd_box1 ?h ?_); (case h => rfl))
  | ((with_reducible refine' wd_box2 ?h ?_); (case h => rfl))
  | ((with_reducible refine' wd_box3 ?h ?_); (case h => rfl))
  | (with_reducible first
    | refine ws_seq ?_ | refine ws_if ?_ | refine ws_ret ?_ | refine ws_retN ?_ | refine ws_next ?_ | refine ws_asg ?_ | refine ws_drop ?_ | refine ws_par ?_
    | refine wd_int ?_ | refine wd_bl ?_ | refine wd_str ?_ | refine wd_non ?_
    | refine wd_isi isi_int ?_ | refine wd_isi isi_bool ?_ | refine wd_isi isi_str ?_ | refine wd_isi isi_list ?_ | refine wd_isi isi_tuple ?_ | refine wd_isi isi_dict ?_ | refine wd_isi2 isi_list isi_tuple ?_
    | refine wd_list ?_ | refine wd_tuple ?_
    | refine wd_callX ?_ | refine wd_call ?_ | refine wd_callK1X ?_ | refine wd_callK1 ?_ | refine wd_cb ?_ | refine wd_op ?_ | refine wd_un ?_ | refine wd_if ?_ | refine wd_andV ?_ | refine wd_orV ?_ | refine wd_notV ?_
    | refine wd_tup ?_ | refine wd_lst ?_ | refine wd_slice ?_ | refine wo_none ?_ | refine wo_some ?_
    | refine wt_B ?_ | refine wt_test ?_ | refine wt_and ?_ | refine wt_or ?_ | refine wt_not ?_ | refine wt_yes ?_
    | refine wa_nil ?_
    | refine rd_plus_int ?_ | refine rd_sub ?_ | refine rd_cmp ?_ | refine rd_eq_int ?_ | refine rd_ne_int ?_ | refine rd_eq_str ?_ | refine rd_ne_str ?_ | refine rd_isN ?_ | refine rd_notN ?_ | refine ru_neg ?_
    | refine rl_abs ?_ | refine rl_int ?_ | refine rl_intB ?_ | refine rl_max2 ?_ | refine rl_min2 ?_ | refine rl_sum ?_ | refine rl_all ?_)
  | ((with_reducible refine' wd_var ?h ?_); (case h => rfl))
  | ((with_reducible refine' wd_varB ?h ?_); (case h => rfl))
  | ((with_reducible refine' wa_box ?h ?_); (case h => rfl))
  | (with_reducible refine wa_cons ?_)
  | (with_reducible refine wd_dnew ?_) | (with_reducible refine wd_disp1 ?_) | (with_reducible refine wd_rev ?_)
  | ((with_reducible refine' ws_setOwn ?h ?_); (case h => rfl))
  | ((with_reducible refine' ws_setBox0 ?h ?_); (case h => rfl))
  | ((with_reducible refine' ws_setBox3 ?h ?_); (case h => rfl))
  | ((with_reducible refine' rl_len ?h ?_); (case h => rfl))
  | ((with_reducible refine' rd_ix_list ?h ?_); (case h => rfl))
  | ((with_reducible refine' rd_ix_tup ?h ?_); (case h => rfl))
  | ((with_reducible refine' ptr_and ?h ?_); (case h => first | rfl | assumption | exact plain_ptr (by assumption)))
  | ((with_reducible refine' pick_t ?h ?_); (case h => rfl))
  | ((with_reducible refine' pick_f ?h ?_); (case h => rfl))
  | (refine ⟨[_, _], rfl, Nat.le_of_ble_eq_true rfl, ?_⟩) | (refine ⟨[_], rfl, Nat.le_of_ble_eq_true rfl, ?_⟩) | (refine ⟨[_, _, _], rfl, Nat.le_of_ble_eq_true rfl, ?_⟩) | (refine ⟨[_, _, _, _], rfl, Nat.le_of_ble_eq_true rfl, ?_⟩) | (refine ⟨[_, _, _, _, _, _], rfl, Nat.le_of_ble_eq_true rfl, ?_⟩)
  | (with_reducible refine ⟨_, rfl, ?_⟩) | (with_reducible refine ⟨rfl, ?_⟩) | (refine ⟨_, rfl, ?_⟩)))
local macro_rules | `(tactic| walk_at "eg") => `(tactic| repeat ((first | walk_at "eg one"); (try dsimp only)))

section
variable {P : Program} {w : World} {K : PySem.W.Frag} {mg : Str → Option Value} {base : Heap}
def P__law_box : PD := fun as φ K F XK => ∃ g : Int, as = [.d (.int g)] ∧ ∀ (g' c : Int) (f : Bool), 0 ≤ g' → 0 ≤ c → c < 2147483647 → F [.int g', .bool f, .int c, .int 0] φ
theorem ok__law_box (T : Tx K mg base) : FnG P w K mg base (L2.CX P w) 1 T.a__law_box T.fd__law_box ["great"] (SpD (P__law_box)) := by
  refine fn_data T.F__law_box sc__law_box ?len (fun cdv A outer s H E hr hgd => ⟨_, (pss_one (ps_ret (pe_lst (pa_cons (pe_callB call_abs (by rfl) T.m_abs (by decide +kernel) (pa_cons (pv 0) pa_nil)) (pa_cons (pe_cmpR op_ge (pe_callB call_abs (by rfl) T.m_abs (by decide +kernel) (pa_cons (pv 0) pa_nil)) (pe_op op_pow pe_int pe_int) (nomark _)) (pa_cons (pe_op op_mod (pe_callTy call_int1 (by rfl) T.m_int (by decide +kernel) (pa_cons (pe_callB call_abs (by rfl) T.m_abs (by decide +kernel) (pa_cons (pv 0) pa_nil)) pa_nil)) pe_int) (pa_cons pe_int pa_nil))))))), fun as φ Kc F XK h => ?body⟩)
  case len => walk_at "eg len"
  case body =>
    obtain ⟨g, rfl, k⟩ := h
    refine ws_retF (wf_lst ?_)
    walk_at "eg"
    refine rd_pow (i := 10) (j := 18) (by decide) ?_
    walk_at "eg"
    refine rd_mod (by decide) ?_
    walk_at "eg"
    refine k _ _ _ ?_ (Int.emod_nonneg _ (by decide)) (Int.lt_trans (Int.emod_lt_of_pos _ (by decide)) (by decide))
    by_cases hg : g < 0
    · rw [if_pos hg]; omega
    · rw [if_neg hg]; omega
def P__law_value : PD := fun as φ K F XK => as = [.bx] ∧ 2 ≤ φ ∧ ∀ v : Int, -1000000000000 < v → v < 1000000000000 → K (.int v) (φ - 2)
theorem ok__law_value (T : Tx K mg base) : FnG P w K mg base (L2.CX P w) 2 T.a__law_value T.fd__law_value ["box"] (SpD (P__law_value)) := by
  have G__law_take : FnG P w K mg base (L2.CX P w) 1 T.a__law_take T.fd__law_take ["box", "many"] (SpD (P__law_take)) := ok__law_take T
  refine fn_data T.F__law_value sc__law_value ?len (fun cdv A outer s H E hr hgd => ⟨_, (pss_cons (ps_set (i := 1) sc__law_value.nd rfl (Or.inl rfl) (pe_callG G__law_take (hr.mono (by decide)) hgd (by rfl) T.g__law_take T.F__law_take.kp T.b__law_take noX (pa_cons (pv 0) (pa_cons pe_int pa_nil)))) (pss_cons (ps_if (pt_cmpR (r := rEqU K) (op_eqU hr.units) (pv 1) pe_int (nomark _)) (pss_one (ps_ret (pe_op op_sub pe_int (pe_callG G__law_take (hr.mono (by decide)) hgd (by rfl) T.g__law_take T.F__law_take.kp T.b__law_take noX (pa_cons (pv 0) (pa_cons pe_int pa_nil)))))) pss_nil) (pss_cons (ps_if (pt_cmpR (r := rEqU K) (op_eqU hr.units) (pv 1) pe_int (nomark _)) (pss_one (ps_ret (pe_op op_sub (pe_un un_neg pe_int) (pe_callG G__law_take (hr.mono (by decide)) hgd (by rfl) T.g__law_take T.F__law_take.kp T.b__law_take noX (pa_cons (pv 0) (pa_cons pe_int pa_nil)))))) pss_nil) (pss_cons (ps_if (pt_cmpR (r := rEqU K) (op_eqU hr.units) (pv 1) pe_int (nomark _)) (pss_one (ps_ret (pe_op op_sub (pe_callG G__law_take (hr.mono (by decide)) hgd (by rfl) T.g__law_take T.F__law_take.kp T.b__law_take noX (pa_cons (pv 0) (pa_cons pe_int pa_nil))) pe_int))) pss_nil) (pss_one (ps_ret (pe_op op_sub (pe_callG G__law_take (hr.mono (by decide)) hgd (by rfl) T.g__law_take T.F__law_take.kp T.b__law_take noX (pa_cons (pv 0) (pa_cons pe_int pa_nil))) pe_int))))))), fun as φ Kc F XK h => ?body⟩)
  case len => walk_at "eg len"
  case body =>
    obtain ⟨rfl, hφ, k⟩ := h
    walk_at "eg"
    refine ⟨by decide, by decide, by omega, fun r r0 r1 => ?_⟩
    walk_at "eg"
    
    refine ⟨fun e1 => ?_, fun e1 => ?_⟩
    · walk_at "eg"
      refine ⟨by decide, by decide, by omega, fun v v0 v1 => ?_⟩
      walk_at "eg"
    
      exact k _ (by omega) (by omega)
    · walk_at "eg"
      refine ⟨fun e2 => ?_, fun e2 => ?_⟩
      · walk_at "eg"
        refine ⟨by decide, by decide, by omega, fun v v0 v1 => ?_⟩
        walk_at "eg"
    
        exact k _ (by omega) (by omega)
      · walk_at "eg"
        refine ⟨fun e3 => ?_, fun e3 => ?_⟩
        · walk_at "eg"
          refine ⟨by decide, by decide, by omega, fun v v0 v1 => ?_⟩
          walk_at "eg"
    
          exact k _ (by omega) (by omega)
        · walk_at "eg"
          refine ⟨by decide, by decide, by omega, fun v v0 v1 => ?_⟩
          walk_at "eg"
    
          exact k _ (by omega) (by omega)
end
end K9

/-! K9u3 -/
set_option Elab.async false
set_option linter.all false
set_option maxRecDepth 100000
set_option maxHeartbeats 2000000

namespace K9
open PySem PySem.Spec PyProof.Rows L2 Eg
local macro_rules | `(tactic| walk_at "eg len") => `(tactic| (intro as φ K F XK h; first
  | (obtain ⟨e, r⟩ := h; subst e; rfl) | (obtain ⟨x, e, r⟩ := h; subst e; rfl) | (obtain ⟨x, y, e, r⟩ := h; subst e; rfl) | (obtain ⟨x, y, z, e, r⟩ := h; subst e; rfl) | (obtain ⟨x, y, z, u, e, r⟩ := h; subst e; rfl)
  | (obtain ⟨x, y, h | ⟨p, h⟩, r⟩ := h <;> (obtain ⟨e, _⟩ := h; subst e; rfl)) | (obtain ⟨x, y, z, h | ⟨p, h⟩, r⟩ := h <;> (obtain ⟨e, _⟩ := h; subst e; rfl))
  | (rcases h with h | h <;> first | (obtain ⟨x, e, r⟩ := h; subst e; rfl) | (obtain ⟨x, y, e, r⟩ := h; subst e; rfl) | (obtain ⟨x, y, z, e, r⟩ := h; subst e; rfl) | (obtain ⟨x, y, z, u, e, r⟩ := h; subst e; rfl))))
/-- one step ahead -/
local macro_rules | `(tactic| walk_at "eg one") => `(tactic| (first
  | ((with_reducible refine' ws_raise_given (wa_cons (wd_varP ?h ?_))); (case h => rfl))
  | (with_reducible refine ws_raise_given ?_)
  | ((with_reducible refine' ws_retOwn ?h ?_); (case h => rfl))
  | ((with_reducible refine' ws_append ?h ?_); (case h => rfl))
  | ((with_reducible refine' wd_ixOwn ?h ?_); (case h => rfl))
  | ((with_reducible refine' wd_isNOwn ?h ?_); (case h => rfl))
  | ((with_reducible refine' wd_tupleOwn ?h ?_); (case h => rfl))
  | ((with_reducible refine' wd_box0 ?h ?_); (case h => rfl))
  | ((with_reducible refine' wd_box1 ?h ?_); (case h => rfl))
  | ((with_reducible refine' wd_box2 ?h ?_); (case h => rfl))
  | ((with_reducible refine' wd_box3 ?h ?_); (case h => rfl))
  | (with_reducible first
    | refine ws_seq ?_ | refine ws_if ?_ | refine ws_ret ?_ | refine ws_retN ?_ | refine ws_next ?_ | refine ws_asg ?_ | refine ws_drop ?_ | refine ws_par ?_
    | refine wd_int ?_ | refine wd_bl ?_ | refine wd_str ?_ | refine wd_non ?_
    | refine wd_isi isi_int ?_ | refine wd_isi isi_bool ?_ | refine wd_isi isi_str ?_ | refine wd_isi isi_list ?_ | refine wd_isi isi_tuple ?_ | refine wd_isi isi_dict ?_ | refine wd_isi2 isi_list isi_tuple ?_
    | refine wd_list ?_ | refine wd_tuple ?_
    | refine wd_callX ?_ | refine wd_call ?_ | refine wd_callK1X ?_ | refine wd_callK1 ?_ | refine wd_cb ?_ | refine wd_op ?_ | refine wd_un ?_ | refine wd_if ?_ | refine wd_andV ?_ | refine wd_orV ?_ | refine wd_notV ?_
    | refine wd_tup ?_ | refine wd_lst ?_ | refine wd_slice ?_ | refine wo_none ?_ | refine wo_some ?_
    | refine wt_B ?_ | refine wt_test ?_ | refine wt_and ?_ | refine wt_or ?_ | refine wt_not ?_ | refine wt_yes ?_
    | refine wa_nil ?_
    | refine rd_plus_int ?_ | refine rd_sub ?_ | refine rd_cmp ?_ | refine rd_eq_int ?_ | refine rd_ne_int ?_ | refine rd_eq_str ?_ | refine rd_ne_str ?_ | refine rd_isN ?_ | refine rd_notN ?_ | refine ru_neg ?_
    | refine rl_abs ?_ | refine rl_int ?_ | refine rl_intB ?_ | refine rl_max2 ?_ | refine rl_min2 ?_ | refine rl_sum ?_ | refine rl_all ?_)
  | ((with_reducible refine' wd_var ?h ?_); (case h => rfl))
  | ((with_reducible refine' wd_varB ?h ?_); (case h => rfl))
  | ((with_reducible refine' wa_box ?h ?_); (case h => rfl))
  | (with_reducible refine wa_cons ?_)
  | (with_reducible refine wd_dnew ?_) | (with_reducible refine wd_disp1 ?_) | (with_reducible refine wd_rev ?_)
  | ((with_reducible refine' ws_setOwn ?h ?_); (case h => rfl))
  | ((with_reducible refine' ws_setBox0 ?h ?_); (case h => rfl))
  | ((with_reducible refine' ws_setBox3 ?h ?_); (case h => rfl))
  | ((with_reducible refine' rl_len ?h ?_); (case h => rfl))
  | ((with_reducible refine' rd_ix_list ?h ?_); (case h => rfl))
  | ((with_reducible refine' rd_ix_tup ?h ?_); (case h => rfl))
  | ((with_reducible refine' ptr_and ?h ?_); (case h => first | rfl | assumption | exact plain_ptr (by assumption)))
  | ((with_reducible refine' pick_t ?h ?_); (case h => rfl))
  | ((with_reducible refine' pick_f ?h ?_); (case h => rfl))
  | (refine ⟨[_, _], rfl, Nat.le_of_ble_eq_true rfl, ?_⟩) | (refine ⟨[_], rfl, Nat.le_of_ble_eq_true rfl, ?_⟩) | (refine ⟨[_, _, _], rfl, Nat.le_of_ble_eq_true rfl, ?_⟩) | (refine ⟨[_, _, _, _], rfl, Nat.le_of_ble_eq_true rfl, ?_⟩) | (refine ⟨[_, _, _, _, _, _], rfl, Nat.le_of_ble_eq_true rfl, ?_⟩)
  | (with_reducible refine ⟨_, rfl, ?_⟩) | (with_reducible refine ⟨rfl, ?_⟩) | (refine ⟨_, rfl, ?_⟩)))
local macro_rules | `(tactic| walk_at "eg") => `(tactic| repeat ((first | walk_at "eg one"); (try dsimp only)))

section
variable {P : Program} {w : World} {K : PySem.W.Frag} {mg : Str → Option Value} {base : Heap}
def P__law_row : PD := fun as φ K F XK => ∃ ts : List Int, as = [.bx, .d (.list (ts.map .int))] ∧ ts.Pairwise (· < ·) ∧ (∀ t, t ∈ ts → 0 ≤ t ∧ t < 1000000000000) ∧ ts.length ≤ 100 ∧ 1 + 3 * ts.length ≤ φ ∧ ∀ ps : List (Int × Int), Good ps → ps.length ≤ ts.length → F (ps.map ptD) (φ - (1 + 3 * ts.length))
theorem ok__law_row (T : Tx K mg base) : FnG P w K mg base (L2.CX P w) 3 T.a__law_row T.fd__law_row ["box", "pool"] (SpD (P__law_row)) := by
  have G__law_take : FnG P w K mg base (L2.CX P w) 1 T.a__law_take T.fd__law_take ["box", "many"] (SpD (P__law_take)) := ok__law_take T
  have G__law_value : FnG P w K mg base (L2.CX P w) 2 T.a__law_value T.fd__law_value ["box"] (SpD (P__law_value)) := ok__law_value T
  refine fn_data T.F__law_row sc__law_row ?len (fun cdv A outer s H E hr hgd => ⟨_, (pss_cons (ps_par (i := 2) (j := 3) rfl sc__law_row.nd rfl rfl (by decide) rfl rfl (pa_cons (pe_lst pa_nil) (pa_cons (pe_op (r := rPlus K) op_plus pe_int (pe_callG G__law_take (hr.mono (by decide)) hgd (by rfl) T.g__law_take T.F__law_take.kp T.b__law_take noX (pa_cons (pv 0) (pa_cons pe_int pa_nil)))) pa_nil)) (by rfl)) (pss_cons (ps_for (passes_of rfl) rfl (pi_seq (pv 1)) (pg_name (i := 4) sc__law_row.nd rfl (Or.inl rfl)) (pss_one (ps_if (pt_cmpR op_gt (pe_callG G__law_take (hr.mono (by decide)) hgd (by rfl) T.g__law_take T.F__law_take.kp T.b__law_take noX (pa_cons (pv 0) (pa_cons (pv 3) pa_nil))) pe_int (nomark _)) (pss_one (ps_expr (pe_bm PySem.F.plainAttrs_list PySem.F.slot_list_append PySem.F.type_list_append mt_append (pv 2) (pa_cons (pe_tup (pa_cons (pv 4) (pa_cons (pe_callG G__law_value (hr.mono (by decide)) hgd (by rfl) T.g__law_value T.F__law_value.kp T.b__law_value noX (pa_cons (pv 0) pa_nil)) pa_nil))) pa_nil)))) pss_nil))) (pss_one (ps_ret (pv 2))))), fun as φ Kc F XK h => ?body⟩)
  case len => walk_at "eg len"
  case body =>
    obtain ⟨ts, rfl, h1, h2, h3, hφ, k⟩ := h
    refine ws_seq (ws_parF1 (by decide) (wf_lst ?_))
    walk_at "eg"
    refine ⟨[], rfl, by decide, ?_⟩
    walk_at "eg"
    refine ⟨by decide, by decide, by omega, fun s s0 s1 => ?_⟩
    walk_at "eg"
    
    refine ws_for ?_
    walk_at "eg"
    refine ⟨fun i δ' φ' => φ' = φ - 1 - 3 * i ∧ ∃ (ps : List (Int × Int)) (r : SD), (ps.map Prod.fst).Sublist (ts.take i) ∧ (∀ p, p ∈ ps → -1000000000000 < p.2 ∧ p.2 < 1000000000000) ∧ δ' = [.bx, .d (.list (ts.map .int)), .own (ps.map ptD), .d (.int (2 + s)), r], ⟨by omega, [], _, List.nil_sublist _, fun _ h => absurd h (by simp), rfl⟩, fun i z δ' φ' hz hI => ?_, fun δ' φ' hI => ?_⟩
    · obtain ⟨rfl, ps, r, hs, hv, rfl⟩ := hI
      obtain ⟨t, ht, rfl⟩ : ∃ t, ts[i]? = some t ∧ z = .int t := by
        rw [List.getElem?_map] at hz
        cases ht : ts[i]? with
        | none => rw [ht] at hz; cases hz
        | some t => rw [ht] at hz; cases hz; exact ⟨t, rfl, rfl⟩
      have hi : i < ts.length := (List.getElem?_eq_some_iff.mp ht).1
      refine wg_name ?_
      walk_at "eg"
      refine ⟨by omega, by omega, by omega, fun g g0 g1 => ?_⟩
      walk_at "eg"
      have step : (ps.map Prod.fst).Sublist (ts.take (i + 1)) := hs.trans (List.take_sublist_take_left (by omega))
      refine ⟨fun e => ?_, fun e => ?_⟩
      · walk_at "eg"
        refine ⟨rfl, by omega, fun v v0 v1 => ?_⟩
        walk_at "eg"
        have hl := hs.length_le
        rw [List.length_map, List.length_take] at hl
        refine ⟨by rw [List.length_map]; omega, by omega, ps ++ [(t, v)], .d (.int t), ?_, ?_, ?_⟩
        · rw [List.map_append, List.take_add_one, ht]
          exact hs.append (List.Sublist.refl _)
        · intro p hp
          rcases List.mem_append.mp hp with hp | hp
          · exact hv p hp
          · rw [List.mem_singleton.mp hp]; exact ⟨v0, v1⟩
        · rw [List.map_append]
          rfl
      · refine ws_less (φ' := φ - 1 - 3 * (i + 1)) ?_ (by omega)
        walk_at "eg"
        exact ⟨ps, .d (.int t), step, hv, rfl⟩
    · obtain ⟨rfl, ps, r, hs, hv, rfl⟩ := hI
      have hs' : (ps.map Prod.fst).Sublist ts := hs.trans (List.take_sublist _ _)
      have hl := hs'.length_le
      rw [List.length_map] at hl
      have hg : Good ps := ⟨h1.sublist hs', fun p hp => ⟨(h2 _ (hs'.subset (List.mem_map_of_mem hp))).1, (h2 _ (hs'.subset (List.mem_map_of_mem hp))).2, hv p hp⟩⟩
      have k' := k ps hg hl
      rw [List.length_map]
      walk_at "eg"
      rw [show φ - 1 - 3 * ts.length = φ - (1 + 3 * ts.length) by omega]
      exact k'
end
end K9

/-! K9u4 -/
set_option Elab.async false
set_option linter.all false
set_option maxRecDepth 100000
set_option maxHeartbeats 2000000

namespace K9
open PySem PySem.Spec PyProof.Rows L2 Eg
local macro_rules | `(tactic| walk_at "eg len") => `(tactic| (intro as φ K F XK h; first
  | (obtain ⟨e, r⟩ := h; subst e; rfl) | (obtain ⟨x, e, r⟩ := h; subst e; rfl) | (obtain ⟨x, y, e, r⟩ := h; subst e; rfl) | (obtain ⟨x, y, z, e, r⟩ := h; subst e; rfl) | (obtain ⟨x, y, z, u, e, r⟩ := h; subst e; rfl)
  | (obtain ⟨x, y, h | ⟨p, h⟩, r⟩ := h <;> (obtain ⟨e, _⟩ := h; subst e; rfl)) | (obtain ⟨x, y, z, h | ⟨p, h⟩, r⟩ := h <;> (obtain ⟨e, _⟩ := h; subst e; rfl))
  | (rcases h with h | h <;> first | (obtain ⟨x, e, r⟩ := h; subst e; rfl) | (obtain ⟨x, y, e, r⟩ := h; subst e; rfl) | (obtain ⟨x, y, z, e, r⟩ := h; subst e; rfl) | (obtain ⟨x, y, z, u, e, r⟩ := h; subst e; rfl))))
/-- one step ahead -/
local macro_rules | `(tactic| walk_at "eg one") => `(tactic| (first
  | ((with_reducible refine' ws_raise_given (wa_cons (wd_varP ?h ?_))); (case h => rfl))
  | (with_reducible refine ws_raise_given ?_)
  | ((with_reducible refine' ws_retOwn ?h ?_); (case h => rfl))
  | ((with_reducible refine' ws_parNil2 ?h ?_); (case h => decide))
  | ((with_reducible refine' ws_parNil1 ?h ?_); (case h => decide))
  | ((with_reducible refine' ws_par3Nil ?h1 ?h2 ?_); (case h1 => decide); (case h2 => decide))
  | ((with_reducible refine' ws_append ?h ?_); (case h => rfl))
  | ((with_reducible refine' wd_ixOwn ?h ?_); (case h => rfl))
  | ((with_reducible refine' wd_isNOwn ?h ?_); (case h => rfl))
  | ((with_reducible refine' wd_tupleOwn ?h ?_); (case h => rfl))
  | ((with_reducible refine' wd_box0 ?h ?_); (case h => rfl))
  | ((with_reducible refine' wd_box1 ?h ?_); (case h => rfl))
  | ((with_reducible refine' wd_box2 ?h ?_); (case h => rfl))
  | ((with_reducible refine' wd_box3 ?h ?_); (case h => rfl))
  | (with_reducible first
    | refine ws_seq ?_ | refine ws_if ?_ | refine ws_ret ?_ | refine ws_retN ?_ | refine ws_next ?_ | refine ws_asg ?_ | refine ws_drop ?_ | refine ws_par ?_
    | refine wd_int ?_ | refine wd_bl ?_ | refine wd_str ?_ | refine wd_non ?_
    | refine wd_isi isi_int ?_ | refine wd_isi isi_bool ?_ | refine wd_isi isi_str ?_ | refine wd_isi isi_list ?_ | refine wd_isi isi_tuple ?_ | refine wd_isi isi_dict ?_ | refine wd_isi2 isi_list isi_tuple ?_
    | refine wd_list ?_ | refine wd_tuple ?_
    | refine wd_callX ?_ | refine wd_call ?_ | refine wd_callK1X ?_ | refine wd_callK1 ?_ | refine wd_cb ?_ | refine wd_op ?_ | refine wd_un ?_ | refine wd_if ?_ | refine wd_andV ?_ | refine wd_orV ?_ | refine wd_notV ?_
    | refine wd_tup ?_ | refine wd_lst ?_ | refine wd_slice ?_ | refine wo_none ?_ | refine wo_some ?_
    | refine wt_B ?_ | refine wt_test ?_ | refine wt_and ?_ | refine wt_or ?_ | refine wt_not ?_ | refine wt_yes ?_
    | refine wa_nil ?_
    | refine rd_plus_int ?_ | refine rd_sub ?_ | refine rd_cmp ?_ | refine rd_eq_int ?_ | refine rd_ne_int ?_ | refine rd_eq_str ?_ | refine rd_ne_str ?_ | refine rd_isN ?_ | refine rd_notN ?_ | refine ru_neg ?_
    | refine rl_abs ?_ | refine rl_int ?_ | refine rl_intB ?_ | refine rl_max2 ?_ | refine rl_min2 ?_ | refine rl_sum ?_ | refine rl_all ?_)
  | ((with_reducible refine' wd_var ?h ?_); (case h => rfl))
  | ((with_reducible refine' wd_varB ?h ?_); (case h => rfl))
  | ((with_reducible refine' wa_box ?h ?_); (case h => rfl))
  | (with_reducible refine wa_cons ?_)
  | (with_reducible refine wd_dnew ?_) | (with_reducible refine wd_disp1 ?_) | (with_reducible refine wd_rev ?_)
  | ((with_reducible refine' ws_setOwn ?h ?_); (case h => rfl))
  | ((with_reducible refine' ws_setBox0 ?h ?_); (case h => rfl))
  | ((with_reducible refine' ws_setBox3 ?h ?_); (case h => rfl))
  | ((with_reducible refine' rl_len ?h ?_); (case h => rfl))
  | ((with_reducible refine' rd_ix_list ?h ?_); (case h => rfl))
  | ((with_reducible refine' rd_ix_tup ?h ?_); (case h => rfl))
  | ((with_reducible refine' ptr_and ?h ?_); (case h => first | rfl | assumption | exact plain_ptr (by assumption)))
  | ((with_reducible refine' pick_t ?h ?_); (case h => rfl))
  | ((with_reducible refine' pick_f ?h ?_); (case h => rfl))
  | (refine ⟨[_, _], rfl, Nat.le_of_ble_eq_true rfl, ?_⟩) | (refine ⟨[_], rfl, Nat.le_of_ble_eq_true rfl, ?_⟩) | (refine ⟨[_, _, _], rfl, Nat.le_of_ble_eq_true rfl, ?_⟩) | (refine ⟨[_, _, _, _], rfl, Nat.le_of_ble_eq_true rfl, ?_⟩) | (refine ⟨[_, _, _, _, _, _], rfl, Nat.le_of_ble_eq_true rfl, ?_⟩) | (refine ⟨[_, _, _, _, _], rfl, Nat.le_of_ble_eq_true rfl, ?_⟩) | (refine ⟨[_, _, _, _, _, _, _], rfl, Nat.le_of_ble_eq_true rfl, ?_⟩) | (refine ⟨[_, _, _, _, _, _, _, _], rfl, Nat.le_of_ble_eq_true rfl, ?_⟩) | (refine ⟨[_, _, _, _, _, _, _, _, _], rfl, Nat.le_of_ble_eq_true rfl, ?_⟩) | (refine ⟨[_, _, _, _, _, _, _, _, _, _], rfl, Nat.le_of_ble_eq_true rfl, ?_⟩) | (refine ⟨[_, _, _, _, _, _, _, _, _, _, _], rfl, Nat.le_of_ble_eq_true rfl, ?_⟩) | (refine ⟨[_, _, _, _, _, _, _, _, _, _, _, _], rfl, Nat.le_of_ble_eq_true rfl, ?_⟩)
  | (with_reducible refine ⟨_, rfl, ?_⟩) | (with_reducible refine ⟨rfl, ?_⟩) | (refine ⟨_, rfl, ?_⟩)))
local macro_rules | `(tactic| walk_at "eg") => `(tactic| repeat ((first | walk_at "eg one"); (try dsimp only)))

section
variable {P : Program} {w : World} {K : PySem.W.Frag} {mg : Str → Option Value} {base : Heap}
def P__law_pool : PD := fun as φ K F XK => as = [.bx] ∧ 11 ≤ φ ∧ ∀ ts : List Int, ts.Pairwise (· < ·) → (∀ t, t ∈ ts → 0 ≤ t ∧ t < 1000000000000) → ts.length ≤ 8 → F (ts.map .int) (φ - 11)
theorem ok__law_pool (T : Tx K mg base) : FnG P w K mg base (L2.CX P w) 2 T.a__law_pool T.fd__law_pool ["box"] (SpD (P__law_pool)) := by
  have G__law_take : FnG P w K mg base (L2.CX P w) 1 T.a__law_take T.fd__law_take ["box", "many"] (SpD (P__law_take)) := ok__law_take T
  refine fn_data T.F__law_pool sc__law_pool ?len (fun cdv A outer s H E hr hgd => ⟨_, (pss_cons (ps_set (i := 1) sc__law_pool.nd rfl (Or.inl rfl) (pe_ix (r := rIx K) ix_seq (pe_lst (pa_cons pe_int (pa_cons pe_int (pa_cons pe_int (pa_cons (pe_op op_pow pe_int pe_int) (pa_cons pe_int (pa_cons pe_int (pa_cons pe_int pa_nil)))))))) (pe_callG G__law_take (hr.mono (by decide)) hgd (by rfl) T.g__law_take T.F__law_take.kp T.b__law_take noX (pa_cons (pv 0) (pa_cons pe_int pa_nil))) (fun _ _ => rfl))) (pss_cons (ps_par (i := 2) (j := 3) rfl sc__law_pool.nd rfl rfl (by decide) rfl rfl (pa_cons (pe_ix (r := rIx K) ix_seq (pe_lst (pa_cons pe_int (pa_cons pe_int (pa_cons pe_int (pa_cons pe_int pa_nil))))) (pe_callG G__law_take (hr.mono (by decide)) hgd (by rfl) T.g__law_take T.F__law_take.kp T.b__law_take noX (pa_cons (pv 0) (pa_cons pe_int pa_nil))) (fun _ _ => rfl)) (pa_cons (pe_lst pa_nil) pa_nil)) (by rfl)) (pss_cons (ps_for (passes_of rfl) rfl (pi_range1 rfl T.m_range (pa_cons (pe_callG G__law_take (hr.mono (by decide)) hgd (by rfl) T.g__law_take T.F__law_take.kp T.b__law_take noX (pa_cons (pv 0) (pa_cons pe_int pa_nil))) pa_nil)) (pg_name (i := 4) sc__law_pool.nd rfl (Or.inl rfl)) (pss_cons (ps_expr (pe_bm PySem.F.plainAttrs_list PySem.F.slot_list_append PySem.F.type_list_append mt_append (pv 3) (pa_cons (pv 1) pa_nil))) (pss_one (ps_set (i := 1) sc__law_pool.nd rfl (Or.inl rfl) (pe_op (r := rPlus K) op_plus (pe_op (r := rPlus K) op_plus (pv 1) pe_int) (pe_callG G__law_take (hr.mono (by decide)) hgd (by rfl) T.g__law_take T.F__law_take.kp T.b__law_take noX (pa_cons (pv 0) (pa_cons (pe_op (r := rPlus K) op_plus (pv 2) pe_int) pa_nil)))))))) (pss_one (ps_ret (pv 3)))))), fun as φ Kc F XK h => ?body⟩)
  case len => walk_at "eg len"
  case body =>
    obtain ⟨rfl, hφ, k⟩ := h
    walk_at "eg"
    refine rd_pow (i := 10) (j := 11) (by decide) ?_
    walk_at "eg"
    refine ⟨by decide, by decide, by omega, fun s s0 s1 => ?_⟩
    walk_at "eg"
    
    refine rd_ixMem s0 s1 fun j d hj hd => ?_
    have hd := List.mem_of_getElem? hd
    obtain ⟨t0, rfl, ht0, ht1⟩ : ∃ t0 : Int, d = .int t0 ∧ 0 ≤ t0 ∧ t0 ≤ 999999990000 := by
      simp only [List.mem_cons, List.not_mem_nil, or_false] at hd
      rcases hd with rfl | rfl | rfl | rfl | rfl | rfl | rfl <;> exact ⟨_, rfl, by decide, by decide⟩
    walk_at "eg"
    
    walk_at "eg"
    refine ⟨by decide, by decide, by omega, fun g g0 g1 => ?_⟩
    walk_at "eg"
    
    refine rd_ixMem g0 g1 fun j d hj hd => ?_
    have hd := List.mem_of_getElem? hd
    obtain ⟨gp, rfl, hg0, hg1⟩ : ∃ t0 : Int, d = .int t0 ∧ 0 ≤ t0 ∧ t0 ≤ 900 := by
      simp only [List.mem_cons, List.not_mem_nil, or_false] at hd
      rcases hd with rfl | rfl | rfl | rfl <;> exact ⟨_, rfl, by decide, by decide⟩
    walk_at "eg"
    refine ws_forR ?_
    walk_at "eg"
    refine ⟨by decide, by decide, by omega, fun n n0 n1 => ?_⟩
    walk_at "eg"
    
    refine ⟨by omega, by omega, fun i δ' φ' => φ' = φ - 3 - i ∧ ∃ (ts : List Int) (t : Int) (r : SD), ts.Pairwise (· < ·) ∧ (∀ x, x ∈ ts → 0 ≤ x ∧ x < t) ∧ ts.length = i ∧ 0 ≤ t ∧ t ≤ 999999990000 + 901 * i ∧ δ' = [.bx, .d (.int t), .d (.int gp), .own (ts.map .int), r], ⟨by omega, [], t0, _, List.Pairwise.nil, fun _ h => absurd h (by simp), rfl, ht0, by omega, rfl⟩, fun i δ' φ' hi hI => ?_, fun δ' φ' hI => ?_⟩
    · obtain ⟨rfl, ts, t, r, h1, h2, h3, h4, h5, rfl⟩ := hI
      walk_at "eg"
      refine ⟨by rw [List.length_map]; omega, ?_⟩
      walk_at "eg"
      refine ⟨by omega, by omega, by omega, fun a a0 a1 => ?_⟩
      walk_at "eg"
      refine ⟨ts ++ [t], t + 1 + a, .d (.int i), List.pairwise_append.mpr ⟨h1, List.pairwise_singleton _ _, fun x hx y hy => ?_⟩, fun x hx => ?_, ?_, by omega, by omega, ?_⟩
      · rw [List.mem_singleton.mp hy]; exact (h2 x hx).2
      · rcases List.mem_append.mp hx with hx | hx
        · have := h2 x hx; omega
        · rw [List.mem_singleton.mp hx]; omega
      · rw [List.length_append, h3]; rfl
      · rw [List.map_append]; rfl
    · obtain ⟨rfl, ts, t, r, h1, h2, h3, h4, h5, rfl⟩ := hI
      refine ws_less (φ' := φ - 11) ?_ (by omega)
      walk_at "eg"
      exact k ts h1 (fun x hx => ⟨(h2 x hx).1, by have := h2 x hx; omega⟩) (by omega)
end
end K9

/-! K9u5 -/
set_option Elab.async false
set_option linter.all false
set_option maxRecDepth 100000
set_option maxHeartbeats 2000000

namespace K9
open PySem PySem.Spec PyProof.Rows L2 Eg
local macro_rules | `(tactic| walk_at "eg len") => `(tactic| (intro as φ K F XK h; first
  | (obtain ⟨e, r⟩ := h; subst e; rfl) | (obtain ⟨x, e, r⟩ := h; subst e; rfl) | (obtain ⟨x, y, e, r⟩ := h; subst e; rfl) | (obtain ⟨x, y, z, e, r⟩ := h; subst e; rfl) | (obtain ⟨x, y, z, u, e, r⟩ := h; subst e; rfl)
  | (obtain ⟨x, y, h | ⟨p, h⟩, r⟩ := h <;> (obtain ⟨e, _⟩ := h; subst e; rfl)) | (obtain ⟨x, y, z, h | ⟨p, h⟩, r⟩ := h <;> (obtain ⟨e, _⟩ := h; subst e; rfl))
  | (rcases h with h | h <;> first | (obtain ⟨x, e, r⟩ := h; subst e; rfl) | (obtain ⟨x, y, e, r⟩ := h; subst e; rfl) | (obtain ⟨x, y, z, e, r⟩ := h; subst e; rfl) | (obtain ⟨x, y, z, u, e, r⟩ := h; subst e; rfl))))
/-- one step ahead -/
local macro_rules | `(tactic| walk_at "eg one") => `(tactic| (first
  | ((with_reducible refine' ws_raise_given (wa_cons (wd_varP ?h ?_))); (case h => rfl))
  | (with_reducible refine ws_raise_given ?_)
  | ((with_reducible refine' ws_retOwn ?h ?_); (case h => rfl))
  | ((with_reducible refine' ws_parNil2 ?h ?_); (case h => decide))
  | ((with_reducible refine' ws_parNil1 ?h ?_); (case h => decide))
  | ((with_reducible refine' ws_par3Nil ?h1 ?h2 ?_); (case h1 => decide); (case h2 => decide))
  | ((with_reducible refine' ws_append ?h ?_); (case h => rfl))
  | ((with_reducible refine' wd_ixOwn ?h ?_); (case h => rfl))
  | ((with_reducible refine' wd_isNOwn ?h ?_); (case h => rfl))
  | ((with_reducible refine' wd_tupleOwn ?h ?_); (case h => rfl))
  | ((with_reducible refine' wd_box0 ?h ?_); (case h => rfl))
  | ((with_reducible refine' wd_box1 ?h ?_); (case h => rfl))
  | ((with_reducible refine' wd_box2 ?h ?_); (case h => rfl))
  | ((with_reducible refine' wd_box3 ?h ?_); (case h => rfl))
  | (with_reducible first
    | refine ws_seq ?_ | refine ws_if ?_ | refine ws_ret ?_ | refine ws_retN ?_ | refine ws_next ?_ | refine ws_asg ?_ | refine ws_drop ?_ | refine ws_par ?_
    | refine wd_int ?_ | refine wd_bl ?_ | refine wd_str ?_ | refine wd_non ?_
    | refine wd_isi isi_int ?_ | refine wd_isi isi_bool ?_ | refine wd_isi isi_str ?_ | refine wd_isi isi_list ?_ | refine wd_isi isi_tuple ?_ | refine wd_isi isi_dict ?_ | refine wd_isi2 isi_list isi_tuple ?_
    | refine wd_list ?_ | refine wd_tuple ?_
    | refine wd_callX ?_ | refine wd_call ?_ | refine wd_callK1X ?_ | refine wd_callK1 ?_ | refine wd_cb ?_ | refine wd_op ?_ | refine wd_un ?_ | refine wd_if ?_ | refine wd_andV ?_ | refine wd_orV ?_ | refine wd_notV ?_
    | refine wd_tup ?_ | refine wd_lst ?_ | refine wd_slice ?_ | refine wo_none ?_ | refine wo_some ?_
    | refine wt_B ?_ | refine wt_test ?_ | refine wt_and ?_ | refine wt_or ?_ | refine wt_not ?_ | refine wt_yes ?_
    | refine wa_nil ?_
    | refine rd_plus_int ?_ | refine rd_sub ?_ | refine rd_cmp ?_ | refine rd_eq_int ?_ | refine rd_ne_int ?_ | refine rd_eq_str ?_ | refine rd_ne_str ?_ | refine rd_isN ?_ | refine rd_notN ?_ | refine ru_neg ?_
    | refine rl_abs ?_ | refine rl_int ?_ | refine rl_intB ?_ | refine rl_max2 ?_ | refine rl_min2 ?_ | refine rl_sum ?_ | refine rl_all ?_)
  | ((with_reducible refine' wd_var ?h ?_); (case h => rfl))
  | ((with_reducible refine' wd_varB ?h ?_); (case h => rfl))
  | ((with_reducible refine' wa_box ?h ?_); (case h => rfl))
  | (with_reducible refine wa_cons ?_)
  | (with_reducible refine wd_dnew ?_) | (with_reducible refine wd_disp1 ?_) | (with_reducible refine wd_rev ?_)
  | ((with_reducible refine' ws_setOwn ?h ?_); (case h => rfl))
  | ((with_reducible refine' ws_setBox0 ?h ?_); (case h => rfl))
  | ((with_reducible refine' ws_setBox3 ?h ?_); (case h => rfl))
  | ((with_reducible refine' rl_len ?h ?_); (case h => rfl))
  | ((with_reducible refine' rd_ix_list ?h ?_); (case h => rfl))
  | ((with_reducible refine' rd_ix_tup ?h ?_); (case h => rfl))
  | ((with_reducible refine' ptr_and ?h ?_); (case h => first | rfl | assumption | exact plain_ptr (by assumption)))
  | ((with_reducible refine' pick_t ?h ?_); (case h => rfl))
  | ((with_reducible refine' pick_f ?h ?_); (case h => rfl))
  | (refine ⟨[_, _], rfl, Nat.le_of_ble_eq_true rfl, ?_⟩) | (refine ⟨[_], rfl, Nat.le_of_ble_eq_true rfl, ?_⟩) | (refine ⟨[_, _, _], rfl, Nat.le_of_ble_eq_true rfl, ?_⟩) | (refine ⟨[_, _, _, _], rfl, Nat.le_of_ble_eq_true rfl, ?_⟩) | (refine ⟨[_, _, _, _, _, _], rfl, Nat.le_of_ble_eq_true rfl, ?_⟩) | (refine ⟨[_, _, _, _, _], rfl, Nat.le_of_ble_eq_true rfl, ?_⟩) | (refine ⟨[_, _, _, _, _, _, _], rfl, Nat.le_of_ble_eq_true rfl, ?_⟩) | (refine ⟨[_, _, _, _, _, _, _, _], rfl, Nat.le_of_ble_eq_true rfl, ?_⟩) | (refine ⟨[_, _, _, _, _, _, _, _, _], rfl, Nat.le_of_ble_eq_true rfl, ?_⟩) | (refine ⟨[_, _, _, _, _, _, _, _, _, _], rfl, Nat.le_of_ble_eq_true rfl, ?_⟩) | (refine ⟨[_, _, _, _, _, _, _, _, _, _, _], rfl, Nat.le_of_ble_eq_true rfl, ?_⟩) | (refine ⟨[_, _, _, _, _, _, _, _, _, _, _, _], rfl, Nat.le_of_ble_eq_true rfl, ?_⟩)
  | (with_reducible refine ⟨_, rfl, ?_⟩) | (with_reducible refine ⟨rfl, ?_⟩) | (refine ⟨_, rfl, ?_⟩)))
local macro_rules | `(tactic| walk_at "eg") => `(tactic| repeat ((first | walk_at "eg one"); (try dsimp only)))

section
variable {P : Program} {w : World} {K : PySem.W.Frag} {mg : Str → Option Value} {base : Heap}
def P__law_rows : PD := fun as φ K F XK => as = [.bx] ∧ 250 ≤ φ ∧ ∀ rows : List (List (Int × Int)), (∀ r, r ∈ rows → Good r ∧ r.length ≤ 8) → rows.length ≤ 5 → F (rows.map rowD) (φ - 250)
theorem ok__law_rows (T : Tx K mg base) : FnG P w K mg base (L2.CX P w) 4 T.a__law_rows T.fd__law_rows ["box"] (SpD (P__law_rows)) := by
  have G__law_pool : FnG P w K mg base (L2.CX P w) 2 T.a__law_pool T.fd__law_pool ["box"] (SpD (P__law_pool)) := ok__law_pool T
  have G__law_take : FnG P w K mg base (L2.CX P w) 1 T.a__law_take T.fd__law_take ["box", "many"] (SpD (P__law_take)) := ok__law_take T
  have G__law_row : FnG P w K mg base (L2.CX P w) 3 T.a__law_row T.fd__law_row ["box", "pool"] (SpD (P__law_row)) := ok__law_row T
  refine fn_data T.F__law_rows sc__law_rows ?len (fun cdv A outer s H E hr hgd => ⟨_, (pss_cons (ps_par3 (i := 1) (j := 2) (l := 3) rfl sc__law_rows.nd rfl rfl rfl (by decide) (by decide) (by decide) rfl rfl rfl (pa_cons (pe_cmpR (r := rEqU K) (op_eqU hr.units) (pe_callG G__law_take (hr.mono (by decide)) hgd (by rfl) T.g__law_take T.F__law_take.kp T.b__law_take noX (pa_cons (pv 0) (pa_cons pe_int pa_nil))) pe_int (nomark _)) (pa_cons (pe_callG G__law_take (hr.mono (by decide)) hgd (by rfl) T.g__law_take T.F__law_take.kp T.b__law_take noX (pa_cons (pv 0) (pa_cons pe_int pa_nil))) (pa_cons (pe_lst pa_nil) pa_nil))) (by rfl)) (pss_cons (ps_set (i := 4) sc__law_rows.nd rfl (Or.inl rfl) (pe_callG G__law_pool (hr.mono (by decide)) hgd (by rfl) T.g__law_pool T.F__law_pool.kp T.b__law_pool noX (pa_cons (pv 0) pa_nil))) (pss_cons (ps_for (passes_of rfl) rfl (pi_range1 rfl T.m_range (pa_cons (pv 2) pa_nil)) (pg_name (i := 5) sc__law_rows.nd rfl (Or.inl rfl)) (pss_cons (ps_expr (pe_bm PySem.F.plainAttrs_list PySem.F.slot_list_append PySem.F.type_list_append mt_append (pv 3) (pa_cons (pe_callG G__law_row (hr.mono (by decide)) hgd (by rfl) T.g__law_row T.F__law_row.kp T.b__law_row noX (pa_cons (pv 0) (pa_cons (pv 4) pa_nil))) pa_nil))) (pss_one (ps_if (pt_not (pt_val (pv 1))) (pss_one (ps_set (i := 4) sc__law_rows.nd rfl (Or.inl rfl) (pe_callG G__law_pool (hr.mono (by decide)) hgd (by rfl) T.g__law_pool T.F__law_pool.kp T.b__law_pool noX (pa_cons (pv 0) pa_nil)))) pss_nil)))) (pss_one (ps_ret (pv 3)))))), fun as φ Kc F XK h => ?body⟩)
  case len => walk_at "eg len"
  case body =>
    obtain ⟨rfl, hφ, k⟩ := h
    walk_at "eg"
    refine ⟨by decide, by decide, by omega, fun s s0 s1 => ?_⟩
    walk_at "eg"
    refine ⟨by decide, by decide, by omega, fun m m0 m1 => ?_⟩
    walk_at "eg"
    
    refine ⟨rfl, by omega, fun ts h1 h2 h3 => ?_⟩
    walk_at "eg"
    refine ws_forR ?_
    walk_at "eg"
    refine ⟨by omega, by omega, fun i δ' φ' => φ - 13 - 36 * i ≤ φ' ∧ ∃ (rows : List (List (Int × Int))) (ts : List Int) (r : SD), (∀ r, r ∈ rows → Good r ∧ r.length ≤ 8) ∧ rows.length = i ∧ ts.Pairwise (· < ·) ∧ (∀ t, t ∈ ts → 0 ≤ t ∧ t < 1000000000000) ∧ ts.length ≤ 8 ∧ δ' = [.bx, .d (.bool (decide (s = 0))), .d (.int m), .own (rows.map rowD), .d (.list (ts.map .int)), r], ⟨by omega, [], ts, _, fun _ h => absurd h (by simp), rfl, h1, h2, h3, rfl⟩, fun i δ' φ' hi hI => ?_, fun δ' φ' hI => ?_⟩
    · obtain ⟨hφ', rows, ts, r, g1, g2, h1, h2, h3, rfl⟩ := hI
      walk_at "eg"
      refine ⟨h1, h2, by omega, by omega, fun ps hg hl => ?_⟩
      walk_at "eg"
      have gn : ∀ q, q ∈ rows ++ [ps] → Good q ∧ q.length ≤ 8 := fun q hq => by
        rcases List.mem_append.mp hq with hq | hq
        · exact g1 q hq
        · rw [List.mem_singleton.mp hq]; exact ⟨hg, by omega⟩
      refine ⟨by rw [List.length_map]; omega, ?_⟩
      walk_at "eg"
      refine ⟨fun e => ?_, fun e => ?_⟩
      · walk_at "eg"
        refine ⟨rfl, by omega, fun ts' h1' h2' h3' => ?_⟩
        walk_at "eg"
        refine ⟨by omega, rows ++ [ps], ts', .d (.int i), gn, ?_, h1', h2', h3', ?_⟩
        · rw [List.length_append, g2]; rfl
        · rw [List.map_append]; rfl
      · walk_at "eg"
        refine ⟨by omega, rows ++ [ps], ts, .d (.int i), gn, ?_, h1, h2, h3, ?_⟩
        · rw [List.length_append, g2]; rfl
        · rw [List.map_append]; rfl
    · obtain ⟨hφ', rows, ts, r, g1, g2, h1, h2, h3, rfl⟩ := hI
      refine ws_less (φ' := φ - 250) ?_ (by omega)
      walk_at "eg"
      exact k rows g1 (by omega)
def P__law_long : PD := fun as φ K F XK => as = [.bx] ∧ 802 ≤ φ ∧ ∀ ps : List (Int × Int), Good ps → ps.length ≤ 400 → F (ps.map ptD) (φ - 802)
theorem ok__law_long (T : Tx K mg base) : FnG P w K mg base (L2.CX P w) 2 T.a__law_long T.fd__law_long ["box"] (SpD (P__law_long)) := by
  have G__law_take : FnG P w K mg base (L2.CX P w) 1 T.a__law_take T.fd__law_take ["box", "many"] (SpD (P__law_take)) := ok__law_take T
  refine fn_data T.F__law_long sc__law_long ?len (fun cdv A outer s H E hr hgd => ⟨_, (pss_cons (ps_par (i := 1) (j := 2) rfl sc__law_long.nd rfl rfl (by decide) rfl rfl (pa_cons (pe_callG G__law_take (hr.mono (by decide)) hgd (by rfl) T.g__law_take T.F__law_take.kp T.b__law_take noX (pa_cons (pv 0) (pa_cons pe_int pa_nil))) (pa_cons (pe_lst pa_nil) pa_nil)) (by rfl)) (pss_cons (ps_for (passes_of rfl) rfl (pi_range1 rfl T.m_range (pa_cons (pe_ix (r := rIx K) ix_seq (pe_lst (pa_cons pe_int (pa_cons pe_int (pa_cons pe_int (pa_cons pe_int pa_nil))))) (pe_callG G__law_take (hr.mono (by decide)) hgd (by rfl) T.g__law_take T.F__law_take.kp T.b__law_take noX (pa_cons (pv 0) (pa_cons pe_int pa_nil))) (fun _ _ => rfl)) pa_nil)) (pg_name (i := 3) sc__law_long.nd rfl (Or.inl rfl)) (pss_cons (ps_expr (pe_bm PySem.F.plainAttrs_list PySem.F.slot_list_append PySem.F.type_list_append mt_append (pv 2) (pa_cons (pe_tup (pa_cons (pv 1) (pa_cons (pe_ix (r := rIx K) ix_seq (pe_lst (pa_cons (pv 3) (pa_cons (pe_un un_neg (pv 3)) (pa_cons pe_int (pa_cons (pe_op op_sub pe_int (pv 3)) pa_nil))))) (pe_callG G__law_take (hr.mono (by decide)) hgd (by rfl) T.g__law_take T.F__law_take.kp T.b__law_take noX (pa_cons (pv 0) (pa_cons pe_int pa_nil))) (fun _ _ => rfl)) pa_nil))) pa_nil))) (pss_one (ps_set (i := 1) sc__law_long.nd rfl (Or.inl rfl) (pe_op (r := rPlus K) op_plus (pe_op (r := rPlus K) op_plus (pv 1) pe_int) (pe_callG G__law_take (hr.mono (by decide)) hgd (by rfl) T.g__law_take T.F__law_take.kp T.b__law_take noX (pa_cons (pv 0) (pa_cons pe_int pa_nil)))))))) (pss_one (ps_ret (pv 2))))), fun as φ Kc F XK h => ?body⟩)
  case len => walk_at "eg len"
  case body =>
    obtain ⟨rfl, hφ, k⟩ := h
    walk_at "eg"
    refine ⟨by decide, by decide, by omega, fun t0 z0 z1 => ?_⟩
    walk_at "eg"
    
    refine ws_forR ?_
    walk_at "eg"
    refine ⟨by decide, by decide, by omega, fun g g0 g1 => ?_⟩
    walk_at "eg"
    
    refine rd_ixMem g0 g1 fun j d hj hd => ?_
    have hd := List.mem_of_getElem? hd
    obtain ⟨n, rfl, hn0, hn1⟩ : ∃ t0 : Int, d = .int t0 ∧ 0 ≤ t0 ∧ t0 ≤ 400 := by
      simp only [List.mem_cons, List.not_mem_nil, or_false] at hd
      rcases hd with rfl | rfl | rfl | rfl <;> exact ⟨_, rfl, by decide, by decide⟩
    walk_at "eg"
    refine ⟨by omega, by omega, fun i δ' φ' => φ' = φ - 2 - 2 * i ∧ ∃ (ps : List (Int × Int)) (t : Int) (r : SD), (ps.map Prod.fst).Pairwise (· < ·) ∧ (∀ p, p ∈ ps → 0 ≤ p.1 ∧ p.1 < t ∧ -1000 < p.2 ∧ p.2 < 1000) ∧ ps.length = i ∧ 0 ≤ t ∧ t ≤ 5 + 3 * i ∧ δ' = [.bx, .d (.int t), .own (ps.map ptD), r], ⟨by omega, [], t0, _, List.Pairwise.nil, fun _ h => absurd h (by simp), rfl, z0, by omega, rfl⟩, fun i δ' φ' hi hI => ?_, fun δ' φ' hI => ?_⟩
    · obtain ⟨rfl, ps, t, r, h1, h2, h3, h4, h5, rfl⟩ := hI
      walk_at "eg"
      refine ⟨by omega, by omega, by omega, fun a a0 a1 => ?_⟩
      walk_at "eg"
      refine rd_ixMem a0 a1 fun j d hj hd => ?_
      have hd := List.mem_of_getElem? hd
      obtain ⟨v, rfl, hv0, hv1⟩ : ∃ t0 : Int, d = .int t0 ∧ -1000 < t0 ∧ t0 < 1000 := by
        simp only [List.mem_cons, List.not_mem_nil, or_false] at hd
        rcases hd with rfl | rfl | rfl | rfl <;> exact ⟨_, rfl, by omega, by omega⟩
      walk_at "eg"
      refine ⟨by rw [List.length_map]; omega, ?_⟩
      walk_at "eg"
      refine ⟨by omega, by omega, by omega, fun a2 a20 a21 => ?_⟩
      walk_at "eg"
      refine ⟨ps ++ [(t, v)], t + 1 + a2, .d (.int i), ?_, fun p hp => ?_, ?_, by omega, by omega, ?_⟩
      · rw [List.map_append]
        refine List.pairwise_append.mpr ⟨h1, List.pairwise_singleton _ _, fun x hx y hy => ?_⟩
        obtain ⟨p, hp, rfl⟩ := List.mem_map.mp hx
        rw [List.mem_singleton.mp hy]
        exact (h2 p hp).2.1
      · rcases List.mem_append.mp hp with hp | hp
        · have := h2 p hp; omega
        · rw [List.mem_singleton.mp hp]
          exact ⟨h4, by show t < _; omega, hv0, hv1⟩
      · rw [List.length_append, h3]; rfl
      · rw [List.map_append]; rfl
    · obtain ⟨rfl, ps, t, r, h1, h2, h3, h4, h5, rfl⟩ := hI
      refine ws_less (φ' := φ - 802) ?_ (by omega)
      walk_at "eg"
      exact k ps ⟨h1, fun p hp => by have := h2 p hp; omega⟩ (by omega)
end
end K9

/-! K9v1 -/
set_option Elab.async false
set_option linter.all false
set_option maxRecDepth 100000
set_option maxHeartbeats 2000000

namespace K9
open PySem PySem.Spec PyProof.Rows L2 Eg
local macro_rules | `(tactic| walk_at "eg len") => `(tactic| (intro as φ K F XK h; first
  | (obtain ⟨e, r⟩ := h; subst e; rfl) | (obtain ⟨x, e, r⟩ := h; subst e; rfl) | (obtain ⟨x, y, e, r⟩ := h; subst e; rfl) | (obtain ⟨x, y, z, e, r⟩ := h; subst e; rfl) | (obtain ⟨x, y, z, u, e, r⟩ := h; subst e; rfl)
  | (obtain ⟨x, y, h | ⟨p, h⟩, r⟩ := h <;> (obtain ⟨e, _⟩ := h; subst e; rfl)) | (obtain ⟨x, y, z, h | ⟨p, h⟩, r⟩ := h <;> (obtain ⟨e, _⟩ := h; subst e; rfl))
  | (rcases h with h | h <;> first | (obtain ⟨x, e, r⟩ := h; subst e; rfl) | (obtain ⟨x, y, e, r⟩ := h; subst e; rfl) | (obtain ⟨x, y, z, e, r⟩ := h; subst e; rfl) | (obtain ⟨x, y, z, u, e, r⟩ := h; subst e; rfl))))
/-- one step ahead -/
local macro_rules | `(tactic| walk_at "eg one") => `(tactic| (first
  | ((with_reducible refine' ws_raise_given (wa_cons (wd_varP ?h ?_))); (case h => rfl))
  | (with_reducible refine ws_raise_given ?_)
  | ((with_reducible refine' ws_retOwn ?h ?_); (case h => rfl))
  | (with_reducible refine ws_asgLst ?_)
  | ((with_reducible refine' ws_parNil2 ?h ?_); (case h => decide))
  | ((with_reducible refine' ws_parNil1 ?h ?_); (case h => decide))
  | ((with_reducible refine' ws_par3Nil ?h1 ?h2 ?_); (case h1 => decide); (case h2 => decide))
  | ((with_reducible refine' ws_append ?h ?_); (case h => rfl))
  | ((with_reducible refine' wd_ixOwn ?h ?_); (case h => rfl))
  | ((with_reducible refine' wd_isNOwn ?h ?_); (case h => rfl))
  | ((with_reducible refine' wd_tupleOwn ?h ?_); (case h => rfl))
  | ((with_reducible refine' wd_box0 ?h ?_); (case h => rfl))
  | ((with_reducible refine' wd_box1 ?h ?_); (case h => rfl))
  | ((with_reducible refine' wd_box2 ?h ?_); (case h => rfl))
  | ((with_reducible refine' wd_box3 ?h ?_); (case h => rfl))
  | (with_reducible first
    | refine ws_seq ?_ | refine ws_if ?_ | refine ws_ret ?_ | refine ws_retN ?_ | refine ws_next ?_ | refine ws_asg ?_ | refine ws_drop ?_ | refine ws_par ?_
    | refine wd_int ?_ | refine wd_bl ?_ | refine wd_str ?_ | refine wd_non ?_
    | refine wd_isi isi_int ?_ | refine wd_isi isi_bool ?_ | refine wd_isi isi_str ?_ | refine wd_isi isi_list ?_ | refine wd_isi isi_tuple ?_ | refine wd_isi isi_dict ?_ | refine wd_isi2 isi_list isi_tuple ?_
    | refine wd_list ?_ | refine wd_tuple ?_
    | refine wd_callX ?_ | refine wd_call ?_ | refine wd_callK1X ?_ | refine wd_callK1 ?_ | refine wd_cb ?_ | refine wd_op ?_ | refine wd_un ?_ | refine wd_if ?_ | refine wd_andV ?_ | refine wd_orV ?_ | refine wd_notV ?_
    | refine wd_tup ?_ | refine wd_lst ?_ | refine wd_slice ?_ | refine wo_none ?_ | refine wo_some ?_
    | refine wt_B ?_ | refine wt_test ?_ | refine wt_and ?_ | refine wt_or ?_ | refine wt_not ?_ | refine wt_yes ?_
    | refine wa_nil ?_
    | refine rd_plus_int ?_ | refine rd_sub ?_ | refine rd_cmp ?_ | refine rd_eq_int ?_ | refine rd_ne_int ?_ | refine rd_eq_str ?_ | refine rd_ne_str ?_ | refine rd_isN ?_ | refine rd_notN ?_ | refine ru_neg ?_
    | refine rl_abs ?_ | refine rl_int ?_ | refine rl_intB ?_ | refine rl_max2 ?_ | refine rl_min2 ?_ | refine rl_sum ?_ | refine rl_all ?_)
  | ((with_reducible refine' wd_var ?h ?_); (case h => rfl))
  | ((with_reducible refine' wd_varB ?h ?_); (case h => rfl))
  | ((with_reducible refine' wa_box ?h ?_); (case h => rfl))
  | (with_reducible refine wa_cons ?_)
  | (with_reducible refine wd_dnew ?_) | (with_reducible refine wd_disp1 ?_) | (with_reducible refine wd_rev ?_)
  | ((with_reducible refine' ws_setOwn ?h ?_); (case h => rfl))
  | ((with_reducible refine' ws_setBox0 ?h ?_); (case h => rfl))
  | ((with_reducible refine' ws_setBox3 ?h ?_); (case h => rfl))
  | ((with_reducible refine' rl_len ?h ?_); (case h => rfl))
  | ((with_reducible refine' rd_ix_list ?h ?_); (case h => rfl))
  | ((with_reducible refine' rd_ix_tup ?h ?_); (case h => rfl))
  | ((with_reducible refine' ptr_and ?h ?_); (case h => first | rfl | assumption | exact plain_ptr (by assumption)))
  | ((with_reducible refine' pick_t ?h ?_); (case h => rfl))
  | ((with_reducible refine' pick_f ?h ?_); (case h => rfl))
  | (refine ⟨[_, _], rfl, Nat.le_of_ble_eq_true rfl, ?_⟩) | (refine ⟨[_], rfl, Nat.le_of_ble_eq_true rfl, ?_⟩) | (refine ⟨[_, _, _], rfl, Nat.le_of_ble_eq_true rfl, ?_⟩) | (refine ⟨[_, _, _, _], rfl, Nat.le_of_ble_eq_true rfl, ?_⟩) | (refine ⟨[_, _, _, _, _, _], rfl, Nat.le_of_ble_eq_true rfl, ?_⟩) | (refine ⟨[_, _, _, _, _], rfl, Nat.le_of_ble_eq_true rfl, ?_⟩) | (refine ⟨[_, _, _, _, _, _, _], rfl, Nat.le_of_ble_eq_true rfl, ?_⟩) | (refine ⟨[_, _, _, _, _, _, _, _], rfl, Nat.le_of_ble_eq_true rfl, ?_⟩) | (refine ⟨[_, _, _, _, _, _, _, _, _], rfl, Nat.le_of_ble_eq_true rfl, ?_⟩) | (refine ⟨[_, _, _, _, _, _, _, _, _, _], rfl, Nat.le_of_ble_eq_true rfl, ?_⟩) | (refine ⟨[_, _, _, _, _, _, _, _, _, _, _], rfl, Nat.le_of_ble_eq_true rfl, ?_⟩) | (refine ⟨[_, _, _, _, _, _, _, _, _, _, _, _], rfl, Nat.le_of_ble_eq_true rfl, ?_⟩)
  | (with_reducible refine ⟨_, rfl, ?_⟩) | (with_reducible refine ⟨rfl, ?_⟩) | (refine ⟨_, rfl, ?_⟩) | (refine ⟨_, _, rfl, rfl, ?_⟩)))
local macro_rules | `(tactic| walk_at "eg") => `(tactic| repeat ((first | walk_at "eg one"); (try dsimp only)))
local macro_rules | `(tactic| walk_at "eg one v") => `(tactic| (first
  | ((with_reducible refine' ws_raise_given (wa_cons (wd_varP ?h ?_))); (case h => rfl))
  | (with_reducible refine ws_raise_given ?_)
  | ((with_reducible refine' ws_retOwn ?h ?_); (case h => rfl))
  | (with_reducible refine ws_asgLst ?_)
  | ((with_reducible refine' ws_parNil2 ?h ?_); (case h => decide))
  | ((with_reducible refine' ws_parNil1 ?h ?_); (case h => decide))
  | ((with_reducible refine' ws_par3Nil ?h1 ?h2 ?_); (case h1 => decide); (case h2 => decide))
  | ((with_reducible refine' ws_append ?h ?_); (case h => rfl))
  | ((with_reducible refine' wd_ixOwn ?h ?_); (case h => rfl))
  | ((with_reducible refine' wd_isNOwn ?h ?_); (case h => rfl))
  | ((with_reducible refine' wd_tupleOwn ?h ?_); (case h => rfl))
  | ((with_reducible refine' wd_box0 ?h ?_); (case h => rfl))
  | ((with_reducible refine' wd_box1 ?h ?_); (case h => rfl))
  | ((with_reducible refine' wd_box2 ?h ?_); (case h => rfl))
  | ((with_reducible refine' wd_box3 ?h ?_); (case h => rfl))
  | (with_reducible first
    | refine ws_seq ?_ | refine ws_if ?_ | refine ws_ret ?_ | refine ws_retN ?_ | refine ws_next ?_ | refine ws_asg ?_ | refine ws_drop ?_ | refine ws_par ?_
    | refine wd_int ?_ | refine wd_bl ?_ | refine wd_str ?_ | refine wd_non ?_
    | refine wd_isi isi_int ?_ | refine wd_isi isi_bool ?_ | refine wd_isi isi_str ?_ | refine wd_isi isi_list ?_ | refine wd_isi isi_tuple ?_ | refine wd_isi isi_dict ?_ | refine wd_isi2 isi_list isi_tuple ?_
    | refine wd_list ?_ | refine wd_tuple ?_
    | refine wd_callX ?_ | refine wd_call ?_ | refine wd_callK1X ?_ | refine wd_callK1 ?_ | refine wd_cb ?_ | refine wd_op ?_ | refine wd_un ?_ | refine wd_andV ?_ | refine wd_orV ?_ | refine wd_notV ?_
    | refine wd_tup ?_ | refine wd_lst ?_ | refine wd_slice ?_ | refine wo_none ?_ | refine wo_some ?_
    | refine wt_B ?_ | refine wt_test ?_ | refine wt_and ?_ | refine wt_or ?_ | refine wt_not ?_ | refine wt_yes ?_
    | refine wa_nil ?_
    | refine rd_plus_int ?_ | refine rd_sub ?_ | refine rd_cmp ?_ | refine rd_eq_int ?_ | refine rd_ne_int ?_ | refine rd_eq_str ?_ | refine rd_ne_str ?_ | refine rd_isN ?_ | refine rd_notN ?_ | refine ru_neg ?_
    | refine rl_abs ?_ | refine rl_int ?_ | refine rl_intB ?_ | refine rl_max2 ?_ | refine rl_min2 ?_ | refine rl_sum ?_ | refine rl_all ?_)
  | ((with_reducible refine' wd_var ?h ?_); (case h => rfl))
  | ((with_reducible refine' wd_varB ?h ?_); (case h => rfl))
  | ((with_reducible refine' wa_box ?h ?_); (case h => rfl))
  | (with_reducible refine wa_cons ?_)
  | (with_reducible refine wd_dnew ?_) | (with_reducible refine wd_disp1 ?_) | (with_reducible refine wd_rev ?_)
  | ((with_reducible refine' ws_setOwn ?h ?_); (case h => rfl))
  | ((with_reducible refine' ws_setBox0 ?h ?_); (case h => rfl))
  | ((with_reducible refine' ws_setBox3 ?h ?_); (case h => rfl))
  | ((with_reducible refine' rl_len ?h ?_); (case h => rfl))
  | ((with_reducible refine' rd_ix_list ?h ?_); (case h => rfl))
  | ((with_reducible refine' rd_ix_tup ?h ?_); (case h => rfl))
  | ((with_reducible refine' ptr_and ?h ?_); (case h => first | rfl | assumption | exact plain_ptr (by assumption)))
  | ((with_reducible refine' pick_t ?h ?_); (case h => rfl))
  | ((with_reducible refine' pick_f ?h ?_); (case h => rfl))
  | (refine ⟨[_, _], rfl, Nat.le_of_ble_eq_true rfl, ?_⟩) | (refine ⟨[_], rfl, Nat.le_of_ble_eq_true rfl, ?_⟩) | (refine ⟨[_, _, _], rfl, Nat.le_of_ble_eq_true rfl, ?_⟩) | (refine ⟨[_, _, _, _], rfl, Nat.le_of_ble_eq_true rfl, ?_⟩) | (refine ⟨[_, _, _, _, _, _], rfl, Nat.le_of_ble_eq_true rfl, ?_⟩) | (refine ⟨[_, _, _, _, _], rfl, Nat.le_of_ble_eq_true rfl, ?_⟩) | (refine ⟨[_, _, _, _, _, _, _], rfl, Nat.le_of_ble_eq_true rfl, ?_⟩) | (refine ⟨[_, _, _, _, _, _, _, _], rfl, Nat.le_of_ble_eq_true rfl, ?_⟩) | (refine ⟨[_, _, _, _, _, _, _, _, _], rfl, Nat.le_of_ble_eq_true rfl, ?_⟩) | (refine ⟨[_, _, _, _, _, _, _, _, _, _], rfl, Nat.le_of_ble_eq_true rfl, ?_⟩) | (refine ⟨[_, _, _, _, _, _, _, _, _, _, _], rfl, Nat.le_of_ble_eq_true rfl, ?_⟩) | (refine ⟨[_, _, _, _, _, _, _, _, _, _, _, _], rfl, Nat.le_of_ble_eq_true rfl, ?_⟩)
  | (with_reducible refine ⟨_, rfl, ?_⟩) | (with_reducible refine ⟨rfl, ?_⟩) | (refine ⟨_, rfl, ?_⟩) | (refine ⟨_, _, rfl, rfl, ?_⟩)))
local macro_rules | `(tactic| walk_at "eg v") => `(tactic| repeat ((first | walk_at "eg one v"); (try dsimp only)))

section
variable {P : Program} {w : World} {K : PySem.W.Frag} {mg : Str → Option Value} {base : Heap}
def P__law_is_count : PD := fun as φ K F XK => ∃ x, as = [.d x] ∧ isPtr x = false ∧ K (.bool (isCnt x)) φ
theorem ok__law_is_count (T : Tx K mg base) : FnG P w K mg base (L2.CX P w) 1 T.a__law_is_count T.fd__law_is_count ["value"] (SpD (P__law_is_count)) := by
  refine fn_data T.F__law_is_count sc__law_is_count ?len (fun cdv A outer s H E hr hgd => ⟨_, (pss_one (ps_ret (pe_and (pe_callB (r := rIsi K) call_isi (by rfl) T.m_isinstance (by decide +kernel) (pa_cons (pv 0) (pa_cons (pe_bltn (v := .ty "int") (u := .type "int") (by rfl) T.m_int (by decide +kernel) rfl) pa_nil))) (pe_and (pe_not (pe_callB (r := rIsi K) call_isi (by rfl) T.m_isinstance (by decide +kernel) (pa_cons (pv 0) (pa_cons (pe_bltn (v := .ty "bool") (u := .type "bool") (by rfl) T.m_bool (by decide +kernel) rfl) pa_nil)))) (pe_one (pe_cmpR op_ge (pv 0) pe_int (nomark _))))))), fun as φ Kc F XK h => ?body⟩)
  case len => walk_at "eg len"
  case body =>
    obtain ⟨x, rfl, hp, k⟩ := h
    cases x <;> (walk_at "eg"; exact k)
def P__law_is_row : PD := fun as φ K F XK => ∃ x, as = [.d x] ∧ plain x = true ∧ K (.bool (isPts x)) φ
theorem ok__law_is_row (T : Tx K mg base) : FnG P w K mg base (L2.CX P w) 2 T.a__law_is_row T.fd__law_is_row ["value"] (SpD (P__law_is_row)) := by
  have G__law_is_count : FnG P w K mg base (L2.CX P w) 1 T.a__law_is_count T.fd__law_is_count ["value"] (SpD (P__law_is_count)) := ok__law_is_count T
  refine fn_data T.F__law_is_row sc__law_is_row ?len (fun cdv A outer s H E hr hgd => ⟨_, (pss_cons (ps_if (pt_not (pt_val (pe_callB (r := rIsiT K) call_isiT (by rfl) T.m_isinstance (by decide +kernel) (pa_cons (pv 0) (pa_cons (pe_tup (pa_cons (pe_bltn (v := .ty "list") (u := .type "list") (by rfl) T.m_list (by decide +kernel) rfl) (pa_cons (pe_bltn (v := .ty "tuple") (u := .type "tuple") (by rfl) T.m_tuple (by decide +kernel) rfl) pa_nil))) pa_nil))))) (pss_one (ps_ret pe_bl)) pss_nil) (pss_cons (ps_set (i := 1) sc__law_is_row.nd rfl (Or.inl rfl) (pe_un un_neg pe_int)) (pss_cons (ps_for (passes_of rfl) rfl (pi_seq (pv 0)) (pg_name (i := 2) sc__law_is_row.nd rfl (Or.inl rfl)) (pss_cons (ps_if (PW.pt (pw_or (pt_not (pt_val (pe_callB (r := rIsi K) call_isi (by rfl) T.m_isinstance (by decide +kernel) (pa_cons (pv 2) (pa_cons (pe_bltn (v := .ty "tuple") (u := .type "tuple") (by rfl) T.m_tuple (by decide +kernel) rfl) pa_nil))))) (pw_or1 (pt_cmpR (r := rNeU K) (op_neU hr.units) (pe_callB (r := rLenU K) call_len (by rfl) T.m_len (by decide +kernel) (pa_cons (pv 2) pa_nil)) pe_int (nomark _))))) (pss_one (ps_ret pe_bl)) pss_nil) (pss_cons (ps_if (PW.pt (pw_or (pt_not (pt_val (pe_callG G__law_is_count (hr.mono (by decide)) hgd (by rfl) T.g__law_is_count T.F__law_is_count.kp T.b__law_is_count noX (pa_cons (pe_ix (r := rIx K) ix_seq (pv 2) pe_int (fun _ _ => rfl)) pa_nil)))) (pw_or1 (pt_cmpR op_le (pe_ix (r := rIx K) ix_seq (pv 2) pe_int (fun _ _ => rfl)) (pv 1) (nomark _))))) (pss_one (ps_ret pe_bl)) pss_nil) (pss_cons (ps_if (PW.pt (pw_or (pt_not (pt_val (pe_callB (r := rIsi K) call_isi (by rfl) T.m_isinstance (by decide +kernel) (pa_cons (pe_ix (r := rIx K) ix_seq (pv 2) pe_int (fun _ _ => rfl)) (pa_cons (pe_bltn (v := .ty "int") (u := .type "int") (by rfl) T.m_int (by decide +kernel) rfl) pa_nil))))) (pw_or1 (pt_val (pe_callB (r := rIsi K) call_isi (by rfl) T.m_isinstance (by decide +kernel) (pa_cons (pe_ix (r := rIx K) ix_seq (pv 2) pe_int (fun _ _ => rfl)) (pa_cons (pe_bltn (v := .ty "bool") (u := .type "bool") (by rfl) T.m_bool (by decide +kernel) rfl) pa_nil))))))) (pss_one (ps_ret pe_bl)) pss_nil) (pss_one (ps_set (i := 1) sc__law_is_row.nd rfl (Or.inl rfl) (pe_ix (r := rIx K) ix_seq (pv 2) pe_int (fun _ _ => rfl)))))))) (pss_one (ps_ret pe_bl))))), fun as φ Kc F XK h => ?body⟩)
  case len => walk_at "eg len"
  case body =>
    obtain ⟨x, rfl, hp, k⟩ := h
    cases x with
    | list ds =>
      obtain ⟨pa, pl⟩ := plain_items hp rfl
      have e0 : isPts (.list ds) = rowAux (-1) ds := (rowAux_pts ds).symm
      rw [e0] at k
      walk_at "eg"
      refine ws_for ?_
      walk_at "eg"
      refine ⟨fun i δ' φ' => φ' = φ ∧ ∃ (t : Int) (r : SD), rowAux (-1) ds = rowAux t (ds.drop i) ∧ δ' = [.d (.list ds), .d (.int t), r], ⟨rfl, -1, _, rfl, rfl⟩, fun i z δ' φ' hz hI => ?_, fun δ' φ' hI => ?_⟩
      · obtain ⟨rfl, t, r, ha, rfl⟩ := hI
        have hzp := plain_mem pa (List.mem_of_getElem? hz)
        have hd : ds.drop i = z :: ds.drop (i + 1) := (List.drop_eq_getElem?_toList_append (l := ds) (i := i)).trans (by rw [hz]; rfl)
        rw [hd] at ha
        have no : isPt z = false → Kc (.bool false) φ' := fun e => by
          have e2 : rowAux t (z :: ds.drop (i + 1)) = false := by show (isPt z && _) = false; rw [e]; rfl
          rw [ha, e2] at k
          exact k
        refine wg_name ?_
        cases z with
        | tuple es =>
          rcases es with _ | ⟨a, _ | ⟨b, _ | ⟨c, es⟩⟩⟩
          · walk_at "eg"
            exact no rfl
          · walk_at "eg"
            exact no rfl
          · obtain ⟨qa, qb⟩ := plain_cons.mp (plain_tup hzp)
            have qb := (plain_cons.mp qb).1
            have e1 : isPt (.tuple [a, b]) = (isCnt a && isVal b) := rfl
            walk_at "eg"
            cases a with
            | int n =>
              walk_at "eg"
              refine ⟨fun e => ?_, fun e => ?_⟩
              · walk_at "eg"
                refine no ?_
                rw [e1, show isCnt (.int n) = false by simpa using e]
                rfl
              · have hc : isCnt (.int n) = true := by simpa using e
                walk_at "eg"
                refine ⟨fun e2 => ?_, fun e2 => ?_⟩
                · walk_at "eg"
                  have e3 : rowAux t (.tuple [.int n, b] :: ds.drop (i + 1)) = false := by
                    show (isPt _ && (decide (t < n) && _)) = false
                    rw [show decide (t < n) = false from decide_eq_false (by have := of_decide_eq_true e2; omega), Bool.false_and, Bool.and_false]
                  rw [ha, e3] at k
                  exact k
                · have ht : decide (t < n) = true := decide_eq_true (by have := of_decide_eq_false e2; omega)
                  cases b with
                  | int v =>
                    walk_at "eg"
                    refine ⟨n, .d (.tuple [.int n, .int v]), ?_, rfl⟩
                    rw [ha]
                    show (isPt _ && (decide (t < n) && _)) = _
                    rw [ht, e1, hc]
                    rfl
                  | _ =>
                    walk_at "eg"
                    refine no ?_
                    rw [e1, hc]
                    rfl
            | _ =>
              walk_at "eg"
              exact no rfl
          · walk_at "eg"
            exact no rfl
        | _ =>
          walk_at "eg"
          exact no rfl
      · obtain ⟨rfl, t, r, ha, rfl⟩ := hI
        rw [List.drop_length] at ha
        walk_at "eg"
        rw [ha] at k
        exact k
    | tuple ds =>
      obtain ⟨pa, pl⟩ := plain_items hp rfl
      have e0 : isPts (.tuple ds) = rowAux (-1) ds := (rowAux_pts ds).symm
      rw [e0] at k
      walk_at "eg"
      refine ws_for ?_
      walk_at "eg"
      refine ⟨fun i δ' φ' => φ' = φ ∧ ∃ (t : Int) (r : SD), rowAux (-1) ds = rowAux t (ds.drop i) ∧ δ' = [.d (.tuple ds), .d (.int t), r], ⟨rfl, -1, _, rfl, rfl⟩, fun i z δ' φ' hz hI => ?_, fun δ' φ' hI => ?_⟩
      · obtain ⟨rfl, t, r, ha, rfl⟩ := hI
        have hzp := plain_mem pa (List.mem_of_getElem? hz)
        have hd : ds.drop i = z :: ds.drop (i + 1) := (List.drop_eq_getElem?_toList_append (l := ds) (i := i)).trans (by rw [hz]; rfl)
        rw [hd] at ha
        have no : isPt z = false → Kc (.bool false) φ' := fun e => by
          have e2 : rowAux t (z :: ds.drop (i + 1)) = false := by show (isPt z && _) = false; rw [e]; rfl
          rw [ha, e2] at k
          exact k
        refine wg_name ?_
        cases z with
        | tuple es =>
          rcases es with _ | ⟨a, _ | ⟨b, _ | ⟨c, es⟩⟩⟩
          · walk_at "eg"
            exact no rfl
          · walk_at "eg"
            exact no rfl
          · obtain ⟨qa, qb⟩ := plain_cons.mp (plain_tup hzp)
            have qb := (plain_cons.mp qb).1
            have e1 : isPt (.tuple [a, b]) = (isCnt a && isVal b) := rfl
            walk_at "eg"
            cases a with
            | int n =>
              walk_at "eg"
              refine ⟨fun e => ?_, fun e => ?_⟩
              · walk_at "eg"
                refine no ?_
                rw [e1, show isCnt (.int n) = false by simpa using e]
                rfl
              · have hc : isCnt (.int n) = true := by simpa using e
                walk_at "eg"
                refine ⟨fun e2 => ?_, fun e2 => ?_⟩
                · walk_at "eg"
                  have e3 : rowAux t (.tuple [.int n, b] :: ds.drop (i + 1)) = false := by
                    show (isPt _ && (decide (t < n) && _)) = false
                    rw [show decide (t < n) = false from decide_eq_false (by have := of_decide_eq_true e2; omega), Bool.false_and, Bool.and_false]
                  rw [ha, e3] at k
                  exact k
                · have ht : decide (t < n) = true := decide_eq_true (by have := of_decide_eq_false e2; omega)
                  cases b with
                  | int v =>
                    walk_at "eg"
                    refine ⟨n, .d (.tuple [.int n, .int v]), ?_, rfl⟩
                    rw [ha]
                    show (isPt _ && (decide (t < n) && _)) = _
                    rw [ht, e1, hc]
                    rfl
                  | _ =>
                    walk_at "eg"
                    refine no ?_
                    rw [e1, hc]
                    rfl
            | _ =>
              walk_at "eg"
              exact no rfl
          · walk_at "eg"
            exact no rfl
        | _ =>
          walk_at "eg"
          exact no rfl
      · obtain ⟨rfl, t, r, ha, rfl⟩ := hI
        rw [List.drop_length] at ha
        walk_at "eg"
        rw [ha] at k
        exact k
    | _ =>
      walk_at "eg"
      exact k
end
end K9

/-! K9v2 -/
set_option Elab.async false
set_option linter.all false
set_option maxRecDepth 100000
set_option maxHeartbeats 2000000

namespace K9
open PySem PySem.Spec PyProof.Rows L2 Eg
local macro_rules | `(tactic| walk_at "eg len") => `(tactic| (intro as φ K F XK h; first
  | (obtain ⟨e, r⟩ := h; subst e; rfl) | (obtain ⟨x, e, r⟩ := h; subst e; rfl) | (obtain ⟨x, y, e, r⟩ := h; subst e; rfl) | (obtain ⟨x, y, z, e, r⟩ := h; subst e; rfl) | (obtain ⟨x, y, z, u, e, r⟩ := h; subst e; rfl)
  | (obtain ⟨x, y, h | ⟨p, h⟩, r⟩ := h <;> (obtain ⟨e, _⟩ := h; subst e; rfl)) | (obtain ⟨x, y, z, h | ⟨p, h⟩, r⟩ := h <;> (obtain ⟨e, _⟩ := h; subst e; rfl))
  | (rcases h with h | h <;> first | (obtain ⟨x, e, r⟩ := h; subst e; rfl) | (obtain ⟨x, y, e, r⟩ := h; subst e; rfl) | (obtain ⟨x, y, z, e, r⟩ := h; subst e; rfl) | (obtain ⟨x, y, z, u, e, r⟩ := h; subst e; rfl))))
/-- one step ahead -/
local macro_rules | `(tactic| walk_at "eg one") => `(tactic| (first
  | ((with_reducible refine' ws_raise_given (wa_cons (wd_varP ?h ?_))); (case h => rfl))
  | (with_reducible refine ws_raise_given ?_)
  | ((with_reducible refine' ws_retOwn ?h ?_); (case h => rfl))
  | (with_reducible refine ws_asgLst ?_)
  | ((with_reducible refine' ws_parNil2 ?h ?_); (case h => decide))
  | ((with_reducible refine' ws_parNil1 ?h ?_); (case h => decide))
  | ((with_reducible refine' ws_par3Nil ?h1 ?h2 ?_); (case h1 => decide); (case h2 => decide))
  | ((with_reducible refine' ws_append ?h ?_); (case h => rfl))
  | ((with_reducible refine' wd_ixOwn ?h ?_); (case h => rfl))
  | ((with_reducible refine' wd_isNOwn ?h ?_); (case h => rfl))
  | ((with_reducible refine' wd_tupleOwn ?h ?_); (case h => rfl))
  | ((with_reducible refine' wd_box0 ?h ?_); (case h => rfl))
  | ((with_reducible refine' wd_box1 ?h ?_); (case h => rfl))
  | ((with_reducible refine' wd_box2 ?h ?_); (case h => rfl))
  | ((with_reducible refine' wd_box3 ?h ?_); (case h => rfl))
  | (with_reducible first
    | refine ws_seq ?_ | refine ws_if ?_ | refine ws_ret ?_ | refine ws_retN ?_ | refine ws_next ?_ | refine ws_asg ?_ | refine ws_drop ?_ | refine ws_par ?_
    | refine wd_int ?_ | refine wd_bl ?_ | refine wd_str ?_ | refine wd_non ?_
    | refine wd_isi isi_int ?_ | refine wd_isi isi_bool ?_ | refine wd_isi isi_str ?_ | refine wd_isi isi_list ?_ | refine wd_isi isi_tuple ?_ | refine wd_isi isi_dict ?_ | refine wd_isi2 isi_list isi_tuple ?_
    | refine wd_list ?_ | refine wd_tuple ?_
    | refine wd_callX ?_ | refine wd_call ?_ | refine wd_callK1X ?_ | refine wd_callK1 ?_ | refine wd_cb ?_ | refine wd_op ?_ | refine wd_un ?_ | refine wd_if ?_ | refine wd_andV ?_ | refine wd_orV ?_ | refine wd_notV ?_
    | refine wd_tup ?_ | refine wd_lst ?_ | refine wd_slice ?_ | refine wo_none ?_ | refine wo_some ?_
    | refine wt_B ?_ | refine wt_test ?_ | refine wt_and ?_ | refine wt_or ?_ | refine wt_not ?_ | refine wt_yes ?_
    | refine wa_nil ?_
    | refine rd_plus_int ?_ | refine rd_sub ?_ | refine rd_cmp ?_ | refine rd_eq_int ?_ | refine rd_ne_int ?_ | refine rd_eq_str ?_ | refine rd_ne_str ?_ | refine rd_isN ?_ | refine rd_notN ?_ | refine ru_neg ?_
    | refine rl_abs ?_ | refine rl_int ?_ | refine rl_intB ?_ | refine rl_max2 ?_ | refine rl_min2 ?_ | refine rl_sum ?_ | refine rl_all ?_)
  | ((with_reducible refine' wd_var ?h ?_); (case h => rfl))
  | ((with_reducible refine' wd_varB ?h ?_); (case h => rfl))
  | ((with_reducible refine' wa_box ?h ?_); (case h => rfl))
  | (with_reducible refine wa_cons ?_)
  | (with_reducible refine wd_dnew ?_) | (with_reducible refine wd_disp1 ?_) | (with_reducible refine wd_rev ?_)
  | ((with_reducible refine' ws_setOwn ?h ?_); (case h => rfl))
  | ((with_reducible refine' ws_setBox0 ?h ?_); (case h => rfl))
  | ((with_reducible refine' ws_setBox3 ?h ?_); (case h => rfl))
  | ((with_reducible refine' rl_len ?h ?_); (case h => rfl))
  | ((with_reducible refine' rd_ix_list ?h ?_); (case h => rfl))
  | ((with_reducible refine' rd_ix_tup ?h ?_); (case h => rfl))
  | ((with_reducible refine' ptr_and ?h ?_); (case h => first | rfl | assumption | exact plain_ptr (by assumption)))
  | ((with_reducible refine' pick_t ?h ?_); (case h => rfl))
  | ((with_reducible refine' pick_f ?h ?_); (case h => rfl))
  | (refine ⟨[_, _], rfl, Nat.le_of_ble_eq_true rfl, ?_⟩) | (refine ⟨[_], rfl, Nat.le_of_ble_eq_true rfl, ?_⟩) | (refine ⟨[_, _, _], rfl, Nat.le_of_ble_eq_true rfl, ?_⟩) | (refine ⟨[_, _, _, _], rfl, Nat.le_of_ble_eq_true rfl, ?_⟩) | (refine ⟨[_, _, _, _, _, _], rfl, Nat.le_of_ble_eq_true rfl, ?_⟩) | (refine ⟨[_, _, _, _, _], rfl, Nat.le_of_ble_eq_true rfl, ?_⟩) | (refine ⟨[_, _, _, _, _, _, _], rfl, Nat.le_of_ble_eq_true rfl, ?_⟩) | (refine ⟨[_, _, _, _, _, _, _, _], rfl, Nat.le_of_ble_eq_true rfl, ?_⟩) | (refine ⟨[_, _, _, _, _, _, _, _, _], rfl, Nat.le_of_ble_eq_true rfl, ?_⟩) | (refine ⟨[_, _, _, _, _, _, _, _, _, _], rfl, Nat.le_of_ble_eq_true rfl, ?_⟩) | (refine ⟨[_, _, _, _, _, _, _, _, _, _, _], rfl, Nat.le_of_ble_eq_true rfl, ?_⟩) | (refine ⟨[_, _, _, _, _, _, _, _, _, _, _, _], rfl, Nat.le_of_ble_eq_true rfl, ?_⟩)
  | (with_reducible refine ⟨_, rfl, ?_⟩) | (with_reducible refine ⟨rfl, ?_⟩) | (refine ⟨_, rfl, ?_⟩) | (refine ⟨_, _, rfl, rfl, ?_⟩)))
local macro_rules | `(tactic| walk_at "eg") => `(tactic| repeat ((first | walk_at "eg one"); (try dsimp only)))
local macro_rules | `(tactic| walk_at "eg one v") => `(tactic| (first
  | ((with_reducible refine' ws_raise_given (wa_cons (wd_varP ?h ?_))); (case h => rfl))
  | (with_reducible refine ws_raise_given ?_)
  | ((with_reducible refine' ws_retOwn ?h ?_); (case h => rfl))
  | (with_reducible refine ws_asgLst ?_)
  | ((with_reducible refine' ws_parNil2 ?h ?_); (case h => decide))
  | ((with_reducible refine' ws_parNil1 ?h ?_); (case h => decide))
  | ((with_reducible refine' ws_par3Nil ?h1 ?h2 ?_); (case h1 => decide); (case h2 => decide))
  | ((with_reducible refine' ws_append ?h ?_); (case h => rfl))
  | ((with_reducible refine' wd_ixOwn ?h ?_); (case h => rfl))
  | ((with_reducible refine' wd_isNOwn ?h ?_); (case h => rfl))
  | ((with_reducible refine' wd_tupleOwn ?h ?_); (case h => rfl))
  | ((with_reducible refine' wd_box0 ?h ?_); (case h => rfl))
  | ((with_reducible refine' wd_box1 ?h ?_); (case h => rfl))
  | ((with_reducible refine' wd_box2 ?h ?_); (case h => rfl))
  | ((with_reducible refine' wd_box3 ?h ?_); (case h => rfl))
  | (with_reducible first
    | refine ws_seq ?_ | refine ws_if ?_ | refine ws_ret ?_ | refine ws_retN ?_ | refine ws_next ?_ | refine ws_asg ?_ | refine ws_drop ?_ | refine ws_par ?_
    | refine wd_int ?_ | refine wd_bl ?_ | refine wd_str ?_ | refine wd_non ?_
    | refine wd_isi isi_int ?_ | refine wd_isi isi_bool ?_ | refine wd_isi isi_str ?_ | refine wd_isi isi_list ?_ | refine wd_isi isi_tuple ?_ | refine wd_isi isi_dict ?_ | refine wd_isi2 isi_list isi_tuple ?_
    | refine wd_list ?_ | refine wd_tuple ?_
    | refine wd_callX ?_ | refine wd_call ?_ | refine wd_callK1X ?_ | refine wd_callK1 ?_ | refine wd_cb ?_ | refine wd_op ?_ | refine wd_un ?_ | refine wd_andV ?_ | refine wd_orV ?_ | refine wd_notV ?_
    | refine wd_tup ?_ | refine wd_lst ?_ | refine wd_slice ?_ | refine wo_none ?_ | refine wo_some ?_
    | refine wt_B ?_ | refine wt_test ?_ | refine wt_and ?_ | refine wt_or ?_ | refine wt_not ?_ | refine wt_yes ?_
    | refine wa_nil ?_
    | refine rd_plus_int ?_ | refine rd_sub ?_ | refine rd_cmp ?_ | refine rd_eq_int ?_ | refine rd_ne_int ?_ | refine rd_eq_str ?_ | refine rd_ne_str ?_ | refine rd_isN ?_ | refine rd_notN ?_ | refine ru_neg ?_
    | refine rl_abs ?_ | refine rl_int ?_ | refine rl_intB ?_ | refine rl_max2 ?_ | refine rl_min2 ?_ | refine rl_sum ?_ | refine rl_all ?_)
  | ((with_reducible refine' wd_var ?h ?_); (case h => rfl))
  | ((with_reducible refine' wd_varB ?h ?_); (case h => rfl))
  | ((with_reducible refine' wa_box ?h ?_); (case h => rfl))
  | (with_reducible refine wa_cons ?_)
  | (with_reducible refine wd_dnew ?_) | (with_reducible refine wd_disp1 ?_) | (with_reducible refine wd_rev ?_)
  | ((with_reducible refine' ws_setOwn ?h ?_); (case h => rfl))
  | ((with_reducible refine' ws_setBox0 ?h ?_); (case h => rfl))
  | ((with_reducible refine' ws_setBox3 ?h ?_); (case h => rfl))
  | ((with_reducible refine' rl_len ?h ?_); (case h => rfl))
  | ((with_reducible refine' rd_ix_list ?h ?_); (case h => rfl))
  | ((with_reducible refine' rd_ix_tup ?h ?_); (case h => rfl))
  | ((with_reducible refine' ptr_and ?h ?_); (case h => first | rfl | assumption | exact plain_ptr (by assumption)))
  | ((with_reducible refine' pick_t ?h ?_); (case h => rfl))
  | ((with_reducible refine' pick_f ?h ?_); (case h => rfl))
  | (refine ⟨[_, _], rfl, Nat.le_of_ble_eq_true rfl, ?_⟩) | (refine ⟨[_], rfl, Nat.le_of_ble_eq_true rfl, ?_⟩) | (refine ⟨[_, _, _], rfl, Nat.le_of_ble_eq_true rfl, ?_⟩) | (refine ⟨[_, _, _, _], rfl, Nat.le_of_ble_eq_true rfl, ?_⟩) | (refine ⟨[_, _, _, _, _, _], rfl, Nat.le_of_ble_eq_true rfl, ?_⟩) | (refine ⟨[_, _, _, _, _], rfl, Nat.le_of_ble_eq_true rfl, ?_⟩) | (refine ⟨[_, _, _, _, _, _, _], rfl, Nat.le_of_ble_eq_true rfl, ?_⟩) | (refine ⟨[_, _, _, _, _, _, _, _], rfl, Nat.le_of_ble_eq_true rfl, ?_⟩) | (refine ⟨[_, _, _, _, _, _, _, _, _], rfl, Nat.le_of_ble_eq_true rfl, ?_⟩) | (refine ⟨[_, _, _, _, _, _, _, _, _, _], rfl, Nat.le_of_ble_eq_true rfl, ?_⟩) | (refine ⟨[_, _, _, _, _, _, _, _, _, _, _], rfl, Nat.le_of_ble_eq_true rfl, ?_⟩) | (refine ⟨[_, _, _, _, _, _, _, _, _, _, _, _], rfl, Nat.le_of_ble_eq_true rfl, ?_⟩)
  | (with_reducible refine ⟨_, rfl, ?_⟩) | (with_reducible refine ⟨rfl, ?_⟩) | (refine ⟨_, rfl, ?_⟩) | (refine ⟨_, _, rfl, rfl, ?_⟩)))
local macro_rules | `(tactic| walk_at "eg v") => `(tactic| repeat ((first | walk_at "eg one v"); (try dsimp only)))

section
variable {P : Program} {w : World} {K : PySem.W.Frag} {mg : Str → Option Value} {base : Heap}
def P__law_fold : PD := fun as φ K F XK => ∃ rows : List PyData, as = [.d (.list rows)] ∧ (∀ r, r ∈ rows → isPts r = true) ∧ K (fdD (walkAll rows)) φ
theorem ok__law_fold (T : Tx K mg base) : FnG P w K mg base (L2.CX P w) 1 T.a__law_fold T.fd__law_fold ["rows"] (SpD (P__law_fold)) := by
  refine fn_data T.F__law_fold sc__law_fold ?len (fun cdv A outer s H E hr hgd => ⟨_, (pss_cons (ps_set (i := 1) sc__law_fold.nd rfl (Or.inl rfl) pe_non) (pss_cons (ps_for (passes_of rfl) rfl (pi_seq (pv 0)) (pg_name (i := 2) sc__law_fold.nd rfl (Or.inl rfl)) (pss_one (ps_for (passes_of rfl) rfl (pi_seq (pv 2)) (pg_name (i := 3) sc__law_fold.nd rfl (Or.inl rfl)) (pss_cons (ps_if (pt_cmpR op_isN (pv 1) pe_non (nomark _)) (pss_one (ps_set (i := 1) sc__law_fold.nd rfl (Or.inl rfl) (pe_lst (pa_cons pe_int (pa_cons pe_int (pa_cons (pe_ix (r := rIx K) ix_seq (pv 3) pe_int (fun _ _ => rfl)) (pa_cons (pe_ix (r := rIx K) ix_seq (pv 3) pe_int (fun _ _ => rfl)) (pa_cons (pv 3) (pa_cons (pv 3) pa_nil))))))))) pss_nil) (pss_cons (ps_asg (pe_op (r := rPlus K) op_plus (pe_ix (r := rIx K) ix_seq (pv 1) pe_int (fun _ _ => rfl)) pe_int) (pg_sub (pv 1) pe_int set_list)) (pss_cons (ps_asg (pe_op (r := rPlus K) op_plus (pe_ix (r := rIx K) ix_seq (pv 1) pe_int (fun _ _ => rfl)) (pe_ix (r := rIx K) ix_seq (pv 3) pe_int (fun _ _ => rfl))) (pg_sub (pv 1) pe_int set_list)) (pss_cons (ps_asg (pe_ifExp (pt_cmpR op_lt (pe_ix (r := rIx K) ix_seq (pv 3) pe_int (fun _ _ => rfl)) (pe_ix (r := rIx K) ix_seq (pv 1) pe_int (fun _ _ => rfl)) (nomark _)) (pe_ix (r := rIx K) ix_seq (pv 3) pe_int (fun _ _ => rfl)) (pe_ix (r := rIx K) ix_seq (pv 1) pe_int (fun _ _ => rfl))) (pg_sub (pv 1) pe_int set_list)) (pss_cons (ps_asg (pe_ifExp (pt_cmpR op_gt (pe_ix (r := rIx K) ix_seq (pv 3) pe_int (fun _ _ => rfl)) (pe_ix (r := rIx K) ix_seq (pv 1) pe_int (fun _ _ => rfl)) (nomark _)) (pe_ix (r := rIx K) ix_seq (pv 3) pe_int (fun _ _ => rfl)) (pe_ix (r := rIx K) ix_seq (pv 1) pe_int (fun _ _ => rfl))) (pg_sub (pv 1) pe_int set_list)) (pss_cons (ps_asg (pe_ifExp (pt_cmpR op_lt (pe_ix (r := rIx K) ix_seq (pv 3) pe_int (fun _ _ => rfl)) (pe_ix (r := rIx K) ix_seq (pe_ix (r := rIx K) ix_seq (pv 1) pe_int (fun _ _ => rfl)) pe_int (fun _ _ => rfl)) (nomark _)) (pv 3) (pe_ix (r := rIx K) ix_seq (pv 1) pe_int (fun _ _ => rfl))) (pg_sub (pv 1) pe_int set_list)) (pss_one (ps_asg (pe_ifExp (pt_cmpR op_ge (pe_ix (r := rIx K) ix_seq (pv 3) pe_int (fun _ _ => rfl)) (pe_ix (r := rIx K) ix_seq (pe_ix (r := rIx K) ix_seq (pv 1) pe_int (fun _ _ => rfl)) pe_int (fun _ _ => rfl)) (nomark _)) (pv 3) (pe_ix (r := rIx K) ix_seq (pv 1) pe_int (fun _ _ => rfl))) (pg_sub (pv 1) pe_int set_list)))))))))))) (pss_one (ps_ret (pe_ifExp (pt_cmpR op_isN (pv 1) pe_non (nomark _)) pe_non (pe_callTy (r := rTupleU K) call_tuple_of (by rfl) T.m_tuple (by decide +kernel) (pa_cons (pv 1) pa_nil))))))), fun as φ Kc F XK h => ?body⟩)
  case len => walk_at "eg len"
  case body =>
    obtain ⟨rows, rfl, hp, k⟩ := h
    walk_at "eg v"
    refine ws_for ?_
    walk_at "eg v"
    refine ⟨fun i δ' φ' => φ' = φ ∧ ∃ r p, δ' = [.d (.list rows), slotF (walkAll (rows.take i)), r, p], ⟨rfl, _, _, rfl⟩, fun i z δ' φ' hz hI => ?_, fun δ' φ' hI => ?_⟩
    · obtain ⟨rfl, r, p, rfl⟩ := hI
      have hzp := hp z (List.mem_of_getElem? hz)
      refine wg_name ?_
      refine ws_for ?_
      walk_at "eg v"
      refine ⟨itemsL z, itemsOf_pts hzp, fun j δ2 φ2 => φ2 = φ' ∧ ∃ q, δ2 = [.d (.list rows), slotF (walkF (walkAll (rows.take i)) ((itemsL z).take j)), .d z, q], ⟨rfl, _, rfl⟩, fun j x δ2 φ2 hx hJ => ?_, fun δ2 φ2 hJ => ?_⟩
      · obtain ⟨rfl, q, rfl⟩ := hJ
        obtain ⟨t, v, rfl, _⟩ := pt_shape (isPts_mem hzp (List.mem_of_getElem? hx))
        refine wg_name ?_
        cases est : walkF (walkAll (rows.take i)) ((itemsL z).take j) with
        | none =>
          walk_at "eg v"
          refine wd_ite (.int v) (.int v) ?_
          walk_at "eg v"
          refine ⟨?_, ?_, ?_⟩
          · walk_at "eg v"
            first | done | exact ⟨rfl, rfl⟩ | rfl
          · walk_at "eg v"
            first | done | exact ⟨rfl, rfl⟩ | rfl
          walk_at "eg v"
          refine wd_ite (.int v) (.int v) ?_
          walk_at "eg v"
          refine ⟨?_, ?_, ?_⟩
          · walk_at "eg v"
            first | done | exact ⟨rfl, rfl⟩ | rfl
          · walk_at "eg v"
            first | done | exact ⟨rfl, rfl⟩ | rfl
          walk_at "eg v"
          refine wd_ite (ptD (t, v)) (ptD (t, v)) ?_
          walk_at "eg v"
          refine ⟨?_, ?_, ?_⟩
          · walk_at "eg v"
            first | done | exact ⟨rfl, rfl⟩ | rfl
          · walk_at "eg v"
            first | done | exact ⟨rfl, rfl⟩ | rfl
          walk_at "eg v"
          refine wd_ite (ptD (t, v)) (ptD (t, v)) ?_
          walk_at "eg v"
          refine ⟨?_, ?_, ?_⟩
          · walk_at "eg v"
            first | done | exact ⟨rfl, rfl⟩ | rfl
          · walk_at "eg v"
            first | done | exact ⟨rfl, rfl⟩ | rfl
          walk_at "eg v"
          
          refine ⟨.d (ptD (t, v)), ?_⟩
          rw [walkF_succ hx, est]
          show _ = [SD.d (.list rows), SD.own (Fd.its (stepF ⟨0, 0, v, v, (t, v), (t, v)⟩ (t, v))), SD.d z, SD.d (ptD (t, v))]
          rw [its_step]
          rfl
    
        | some f =>
          walk_at "eg v"
          refine wd_ite (.int v) (.int f.lo) ?_
          walk_at "eg v"
          refine ⟨?_, ?_, ?_⟩
          · walk_at "eg v"
            first | done | exact ⟨rfl, rfl⟩ | rfl
          · walk_at "eg v"
            first | done | exact ⟨rfl, rfl⟩ | rfl
          walk_at "eg v"
          refine wd_ite (.int v) (.int f.hi) ?_
          walk_at "eg v"
          refine ⟨?_, ?_, ?_⟩
          · walk_at "eg v"
            first | done | exact ⟨rfl, rfl⟩ | rfl
          · walk_at "eg v"
            first | done | exact ⟨rfl, rfl⟩ | rfl
          walk_at "eg v"
          refine wd_ite (ptD (t, v)) (ptD f.f) ?_
          walk_at "eg v"
          refine ⟨?_, ?_, ?_⟩
          · walk_at "eg v"
            first | done | exact ⟨rfl, rfl⟩ | rfl
          · walk_at "eg v"
            first | done | exact ⟨rfl, rfl⟩ | rfl
          walk_at "eg v"
          refine wd_ite (ptD (t, v)) (ptD f.l) ?_
          walk_at "eg v"
          refine ⟨?_, ?_, ?_⟩
          · walk_at "eg v"
            first | done | exact ⟨rfl, rfl⟩ | rfl
          · walk_at "eg v"
            first | done | exact ⟨rfl, rfl⟩ | rfl
          walk_at "eg v"
          
          refine ⟨.d (ptD (t, v)), ?_⟩
          rw [walkF_succ hx, est]
          show _ = [SD.d (.list rows), SD.own (Fd.its (stepF f (t, v))), SD.d z, SD.d (ptD (t, v))]
          rw [its_step]
          rfl
    
      · obtain ⟨rfl, q, rfl⟩ := hJ
        rw [List.take_length]
        refine ⟨rfl, .d z, q, ?_⟩
        rw [walkAll_succ hz]
    · obtain ⟨rfl, r, p, rfl⟩ := hI
      rw [List.take_length]
      cases est : walkAll rows with
      | none =>
        walk_at "eg"
        rw [est] at k
        exact k
      | some f =>
        walk_at "eg"
        rw [est] at k
        exact k
end
end K9

/-! K9v3 -/
set_option Elab.async false
set_option linter.all false
set_option maxRecDepth 100000
set_option maxHeartbeats 2000000

namespace K9
open PySem PySem.Spec PyProof.Rows L2 Eg
local macro_rules | `(tactic| walk_at "eg len") => `(tactic| (intro as φ K F XK h; first
  | (obtain ⟨e, r⟩ := h; subst e; rfl) | (obtain ⟨x, e, r⟩ := h; subst e; rfl) | (obtain ⟨x, y, e, r⟩ := h; subst e; rfl) | (obtain ⟨x, y, z, e, r⟩ := h; subst e; rfl) | (obtain ⟨x, y, z, u, e, r⟩ := h; subst e; rfl)
  | (obtain ⟨x, y, h | ⟨p, h⟩, r⟩ := h <;> (obtain ⟨e, _⟩ := h; subst e; rfl)) | (obtain ⟨x, y, z, h | ⟨p, h⟩, r⟩ := h <;> (obtain ⟨e, _⟩ := h; subst e; rfl))
  | (rcases h with h | h <;> first | (obtain ⟨x, e, r⟩ := h; subst e; rfl) | (obtain ⟨x, y, e, r⟩ := h; subst e; rfl) | (obtain ⟨x, y, z, e, r⟩ := h; subst e; rfl) | (obtain ⟨x, y, z, u, e, r⟩ := h; subst e; rfl))))
/-- one step ahead -/
local macro_rules | `(tactic| walk_at "eg one") => `(tactic| (first
  | ((with_reducible refine' ws_raise_given (wa_cons (wd_varP ?h ?_))); (case h => rfl))
  | (with_reducible refine ws_raise_given ?_)
  | ((with_reducible refine' wd_ixScr ?h ?_); (case h => rfl))
  | ((with_reducible refine' wd_slScr ?h ?_); (case h => rfl))
  | ((with_reducible refine' wa_scr ?h ?_); (case h => rfl))
  | (with_reducible refine rl_lenScr ?_)
  | (with_reducible refine wd_copy ?_)
  | ((with_reducible refine' ws_retOwn ?h ?_); (case h => rfl))
  | (with_reducible refine ws_asgLst ?_) | (with_reducible refine ws_retLst ?_) | (with_reducible refine ws_retList ?_) | (with_reducible refine ws_retIf ?_)
  | ((with_reducible refine' ws_parNil2 ?h ?_); (case h => decide))
  | ((with_reducible refine' ws_parNil1 ?h ?_); (case h => decide))
  | ((with_reducible refine' ws_par3Nil ?h1 ?h2 ?_); (case h1 => decide); (case h2 => decide))
  | ((with_reducible refine' ws_append ?h ?_); (case h => rfl))
  | ((with_reducible refine' wd_ixOwn ?h ?_); (case h => rfl))
  | ((with_reducible refine' wd_isNOwn ?h ?_); (case h => rfl))
  | ((with_reducible refine' wd_tupleOwn ?h ?_); (case h => rfl))
  | ((with_reducible refine' wd_box0 ?h ?_); (case h => rfl))
  | ((with_reducible refine' wd_box1 ?h ?_); (case h => rfl))
  | ((with_reducible refine' wd_box2 ?h ?_); (case h => rfl))
  | ((with_reducible refine' wd_box3 ?h ?_); (case h => rfl))
  | (with_reducible first
    | refine ws_seq ?_ | refine ws_if ?_ | refine ws_ret ?_ | refine ws_retN ?_ | refine ws_next ?_ | refine ws_asg ?_ | refine ws_drop ?_ | refine ws_par ?_
    | refine wd_int ?_ | refine wd_bl ?_ | refine wd_str ?_ | refine wd_non ?_
    | refine wd_isi isi_int ?_ | refine wd_isi isi_bool ?_ | refine wd_isi isi_str ?_ | refine wd_isi isi_list ?_ | refine wd_isi isi_tuple ?_ | refine wd_isi isi_dict ?_ | refine wd_isi2 isi_list isi_tuple ?_
    | refine wd_list ?_ | refine wd_tuple ?_
    | refine wd_callX ?_ | refine wd_call ?_ | refine wd_callK1X ?_ | refine wd_callK1 ?_ | refine wd_cb ?_ | refine wd_op ?_ | refine wd_un ?_ | refine wd_if ?_ | refine wd_andV ?_ | refine wd_orV ?_ | refine wd_notV ?_
    | refine wd_tup ?_ | refine wd_lst ?_ | refine wd_slice ?_ | refine wo_none ?_ | refine wo_some ?_
    | refine wt_B ?_ | refine wt_test ?_ | refine wt_and ?_ | refine wt_or ?_ | refine wt_not ?_ | refine wt_yes ?_
    | refine wa_nil ?_
    | refine rd_plus_int ?_ | refine rd_sub ?_ | refine rd_cmp ?_ | refine rd_eq_int ?_ | refine rd_ne_int ?_ | refine rd_eq_str ?_ | refine rd_ne_str ?_ | refine rd_isN ?_ | refine rd_notN ?_ | refine ru_neg ?_
    | refine rl_abs ?_ | refine rl_int ?_ | refine rl_intB ?_ | refine rl_max2 ?_ | refine rl_min2 ?_ | refine rl_sum ?_ | refine rl_all ?_)
  | ((with_reducible refine' wd_var ?h ?_); (case h => rfl))
  | ((with_reducible refine' wd_varB ?h ?_); (case h => rfl))
  | ((with_reducible refine' wa_box ?h ?_); (case h => rfl))
  | ((with_reducible refine' wa_both ?h ?_); (case h => rfl))
  | (with_reducible refine wa_cons ?_) | (with_reducible refine rl_both ?_)
  | ((with_reducible refine' wd_by_given ?h ?_); (case h => rfl))
  | (refine wd_callK1X ?_) | (refine wd_callK1 ?_)
  | (with_reducible refine wd_dnew ?_) | (with_reducible refine wd_disp1 ?_) | (with_reducible refine wd_rev ?_)
  | ((with_reducible refine' ws_setOwn ?h ?_); (case h => rfl))
  | ((with_reducible refine' ws_setBox0 ?h ?_); (case h => rfl))
  | ((with_reducible refine' ws_setBox3 ?h ?_); (case h => rfl))
  | ((with_reducible refine' rl_len ?h ?_); (case h => rfl))
  | ((with_reducible refine' rd_ix_list ?h ?_); (case h => rfl))
  | ((with_reducible refine' rd_ix_tup ?h ?_); (case h => rfl))
  | ((with_reducible refine' ptr_and ?h ?_); (case h => first | rfl | assumption | exact plain_ptr (by assumption)))
  | (with_reducible refine pick_t (decide_eq_true rfl) ?_)
  | ((with_reducible refine' pick_t ?h ?_); (case h => rfl))
  | ((with_reducible refine' pick_f ?h ?_); (case h => rfl))
  | (refine ⟨[], rfl, Nat.zero_le _, ?_⟩) | (refine ⟨[_, _], rfl, Nat.le_of_ble_eq_true rfl, ?_⟩) | (refine ⟨[_], rfl, Nat.le_of_ble_eq_true rfl, ?_⟩) | (refine ⟨[_, _, _], rfl, Nat.le_of_ble_eq_true rfl, ?_⟩) | (refine ⟨[_, _, _, _], rfl, Nat.le_of_ble_eq_true rfl, ?_⟩) | (refine ⟨[_, _, _, _, _, _], rfl, Nat.le_of_ble_eq_true rfl, ?_⟩) | (refine ⟨[_, _, _, _, _], rfl, Nat.le_of_ble_eq_true rfl, ?_⟩) | (refine ⟨[_, _, _, _, _, _, _], rfl, Nat.le_of_ble_eq_true rfl, ?_⟩) | (refine ⟨[_, _, _, _, _, _, _, _], rfl, Nat.le_of_ble_eq_true rfl, ?_⟩) | (refine ⟨[_, _, _, _, _, _, _, _, _], rfl, Nat.le_of_ble_eq_true rfl, ?_⟩) | (refine ⟨[_, _, _, _, _, _, _, _, _, _], rfl, Nat.le_of_ble_eq_true rfl, ?_⟩) | (refine ⟨[_, _, _, _, _, _, _, _, _, _, _], rfl, Nat.le_of_ble_eq_true rfl, ?_⟩) | (refine ⟨[_, _, _, _, _, _, _, _, _, _, _, _], rfl, Nat.le_of_ble_eq_true rfl, ?_⟩)
  | (with_reducible refine ⟨_, rfl, ?_⟩) | (with_reducible refine ⟨rfl, ?_⟩) | (refine ⟨_, rfl, ?_⟩) | (refine ⟨_, _, rfl, rfl, ?_⟩)))
local macro_rules | `(tactic| walk_at "eg") => `(tactic| repeat ((first | walk_at "eg one"); (try dsimp only)))
local macro_rules | `(tactic| walk_at "eg one v") => `(tactic| (first
  | ((with_reducible refine' ws_raise_given (wa_cons (wd_varP ?h ?_))); (case h => rfl))
  | (with_reducible refine ws_raise_given ?_)
  | ((with_reducible refine' wd_ixScr ?h ?_); (case h => rfl))
  | ((with_reducible refine' wd_slScr ?h ?_); (case h => rfl))
  | ((with_reducible refine' wa_scr ?h ?_); (case h => rfl))
  | (with_reducible refine rl_lenScr ?_)
  | (with_reducible refine wd_copy ?_)
  | ((with_reducible refine' ws_retOwn ?h ?_); (case h => rfl))
  | (with_reducible refine ws_asgLst ?_) | (with_reducible refine ws_retLst ?_) | (with_reducible refine ws_retList ?_) | (with_reducible refine ws_retIf ?_)
  | ((with_reducible refine' ws_parNil2 ?h ?_); (case h => decide))
  | ((with_reducible refine' ws_parNil1 ?h ?_); (case h => decide))
  | ((with_reducible refine' ws_par3Nil ?h1 ?h2 ?_); (case h1 => decide); (case h2 => decide))
  | ((with_reducible refine' ws_append ?h ?_); (case h => rfl))
  | ((with_reducible refine' wd_ixOwn ?h ?_); (case h => rfl))
  | ((with_reducible refine' wd_isNOwn ?h ?_); (case h => rfl))
  | ((with_reducible refine' wd_tupleOwn ?h ?_); (case h => rfl))
  | ((with_reducible refine' wd_box0 ?h ?_); (case h => rfl))
  | ((with_reducible refine' wd_box1 ?h ?_); (case h => rfl))
  | ((with_reducible refine' wd_box2 ?h ?_); (case h => rfl))
  | ((with_reducible refine' wd_box3 ?h ?_); (case h => rfl))
  | (with_reducible first
    | refine ws_seq ?_ | refine ws_if ?_ | refine ws_ret ?_ | refine ws_retN ?_ | refine ws_next ?_ | refine ws_asg ?_ | refine ws_drop ?_ | refine ws_par ?_
    | refine wd_int ?_ | refine wd_bl ?_ | refine wd_str ?_ | refine wd_non ?_
    | refine wd_isi isi_int ?_ | refine wd_isi isi_bool ?_ | refine wd_isi isi_str ?_ | refine wd_isi isi_list ?_ | refine wd_isi isi_tuple ?_ | refine wd_isi isi_dict ?_ | refine wd_isi2 isi_list isi_tuple ?_
    | refine wd_list ?_ | refine wd_tuple ?_
    | refine wd_callX ?_ | refine wd_call ?_ | refine wd_callK1X ?_ | refine wd_callK1 ?_ | refine wd_cb ?_ | refine wd_op ?_ | refine wd_un ?_ | refine wd_andV ?_ | refine wd_orV ?_ | refine wd_notV ?_
    | refine wd_tup ?_ | refine wd_lst ?_ | refine wd_slice ?_ | refine wo_none ?_ | refine wo_some ?_
    | refine wt_B ?_ | refine wt_test ?_ | refine wt_and ?_ | refine wt_or ?_ | refine wt_not ?_ | refine wt_yes ?_
    | refine wa_nil ?_
    | refine rd_plus_int ?_ | refine rd_sub ?_ | refine rd_cmp ?_ | refine rd_eq_int ?_ | refine rd_ne_int ?_ | refine rd_eq_str ?_ | refine rd_ne_str ?_ | refine rd_isN ?_ | refine rd_notN ?_ | refine ru_neg ?_
    | refine rl_abs ?_ | refine rl_int ?_ | refine rl_intB ?_ | refine rl_max2 ?_ | refine rl_min2 ?_ | refine rl_sum ?_ | refine rl_all ?_)
  | ((with_reducible refine' wd_var ?h ?_); (case h => rfl))
  | ((with_reducible refine' wd_varB ?h ?_); (case h => rfl))
  | ((with_reducible refine' wa_box ?h ?_); (case h => rfl))
  | ((with_reducible refine' wa_both ?h ?_); (case h => rfl))
  | (with_reducible refine wa_cons ?_) | (with_reducible refine rl_both ?_)
  | ((with_reducible refine' wd_by_given ?h ?_); (case h => rfl))
  | (refine wd_callK1X ?_) | (refine wd_callK1 ?_)
  | (with_reducible refine wd_dnew ?_) | (with_reducible refine wd_disp1 ?_) | (with_reducible refine wd_rev ?_)
  | ((with_reducible refine' ws_setOwn ?h ?_); (case h => rfl))
  | ((with_reducible refine' ws_setBox0 ?h ?_); (case h => rfl))
  | ((with_reducible refine' ws_setBox3 ?h ?_); (case h => rfl))
  | ((with_reducible refine' rl_len ?h ?_); (case h => rfl))
  | ((with_reducible refine' rd_ix_list ?h ?_); (case h => rfl))
  | ((with_reducible refine' rd_ix_tup ?h ?_); (case h => rfl))
  | ((with_reducible refine' ptr_and ?h ?_); (case h => first | rfl | assumption | exact plain_ptr (by assumption)))
  | (with_reducible refine pick_t (decide_eq_true rfl) ?_)
  | ((with_reducible refine' pick_t ?h ?_); (case h => rfl))
  | ((with_reducible refine' pick_f ?h ?_); (case h => rfl))
  | (refine ⟨[], rfl, Nat.zero_le _, ?_⟩) | (refine ⟨[_, _], rfl, Nat.le_of_ble_eq_true rfl, ?_⟩) | (refine ⟨[_], rfl, Nat.le_of_ble_eq_true rfl, ?_⟩) | (refine ⟨[_, _, _], rfl, Nat.le_of_ble_eq_true rfl, ?_⟩) | (refine ⟨[_, _, _, _], rfl, Nat.le_of_ble_eq_true rfl, ?_⟩) | (refine ⟨[_, _, _, _, _, _], rfl, Nat.le_of_ble_eq_true rfl, ?_⟩) | (refine ⟨[_, _, _, _, _], rfl, Nat.le_of_ble_eq_true rfl, ?_⟩) | (refine ⟨[_, _, _, _, _, _, _], rfl, Nat.le_of_ble_eq_true rfl, ?_⟩) | (refine ⟨[_, _, _, _, _, _, _, _], rfl, Nat.le_of_ble_eq_true rfl, ?_⟩) | (refine ⟨[_, _, _, _, _, _, _, _, _], rfl, Nat.le_of_ble_eq_true rfl, ?_⟩) | (refine ⟨[_, _, _, _, _, _, _, _, _, _], rfl, Nat.le_of_ble_eq_true rfl, ?_⟩) | (refine ⟨[_, _, _, _, _, _, _, _, _, _, _], rfl, Nat.le_of_ble_eq_true rfl, ?_⟩) | (refine ⟨[_, _, _, _, _, _, _, _, _, _, _, _], rfl, Nat.le_of_ble_eq_true rfl, ?_⟩)
  | (with_reducible refine ⟨_, rfl, ?_⟩) | (with_reducible refine ⟨rfl, ?_⟩) | (refine ⟨_, rfl, ?_⟩) | (refine ⟨_, _, rfl, rfl, ?_⟩)))
local macro_rules | `(tactic| walk_at "eg v") => `(tactic| repeat ((first | walk_at "eg one v"); (try dsimp only)))
local macro_rules | `(tactic| walk_at "eg one w") => `(tactic| (first
  | ((with_reducible refine' ws_raise_given (wa_cons (wd_varP ?h ?_))); (case h => rfl))
  | (with_reducible refine ws_raise_given ?_)
  | ((with_reducible refine' wd_ixScr ?h ?_); (case h => rfl))
  | ((with_reducible refine' wd_slScr ?h ?_); (case h => rfl))
  | ((with_reducible refine' wa_scr ?h ?_); (case h => rfl))
  | (with_reducible refine rl_lenScr ?_)
  | (with_reducible refine wd_copy ?_)
  | ((with_reducible refine' ws_retOwn ?h ?_); (case h => rfl))
  | (with_reducible refine ws_retLst ?_) | (with_reducible refine ws_retList ?_) | (with_reducible refine ws_retIf ?_)
  | ((with_reducible refine' ws_parNil2 ?h ?_); (case h => decide))
  | ((with_reducible refine' ws_parNil1 ?h ?_); (case h => decide))
  | ((with_reducible refine' ws_par3Nil ?h1 ?h2 ?_); (case h1 => decide); (case h2 => decide))
  | ((with_reducible refine' ws_append ?h ?_); (case h => rfl))
  | ((with_reducible refine' wd_ixOwn ?h ?_); (case h => rfl))
  | ((with_reducible refine' wd_isNOwn ?h ?_); (case h => rfl))
  | ((with_reducible refine' wd_tupleOwn ?h ?_); (case h => rfl))
  | ((with_reducible refine' wd_box0 ?h ?_); (case h => rfl))
  | ((with_reducible refine' wd_box1 ?h ?_); (case h => rfl))
  | ((with_reducible refine' wd_box2 ?h ?_); (case h => rfl))
  | ((with_reducible refine' wd_box3 ?h ?_); (case h => rfl))
  | (with_reducible first
    | refine ws_seq ?_ | refine ws_if ?_ | refine ws_ret ?_ | refine ws_retN ?_ | refine ws_next ?_ | refine ws_asg ?_ | refine ws_drop ?_ | refine ws_par ?_
    | refine wd_int ?_ | refine wd_bl ?_ | refine wd_str ?_ | refine wd_non ?_
    | refine wd_isi isi_int ?_ | refine wd_isi isi_bool ?_ | refine wd_isi isi_str ?_ | refine wd_isi isi_list ?_ | refine wd_isi isi_tuple ?_ | refine wd_isi isi_dict ?_ | refine wd_isi2 isi_list isi_tuple ?_
    | refine wd_list ?_ | refine wd_tuple ?_
    | refine wd_callX ?_ | refine wd_call ?_ | refine wd_callK1X ?_ | refine wd_callK1 ?_ | refine wd_cb ?_ | refine wd_op ?_ | refine wd_un ?_ | refine wd_andV ?_ | refine wd_orV ?_ | refine wd_notV ?_
    | refine wd_tup ?_ | refine wd_lst ?_ | refine wd_slice ?_ | refine wo_none ?_ | refine wo_some ?_
    | refine wt_B ?_ | refine wt_test ?_ | refine wt_and ?_ | refine wt_or ?_ | refine wt_not ?_ | refine wt_yes ?_
    | refine wa_nil ?_
    | refine rd_plus_int ?_ | refine rd_sub ?_ | refine rd_cmp ?_ | refine rd_eq_int ?_ | refine rd_ne_int ?_ | refine rd_eq_str ?_ | refine rd_ne_str ?_ | refine rd_isN ?_ | refine rd_notN ?_ | refine ru_neg ?_
    | refine rl_abs ?_ | refine rl_int ?_ | refine rl_intB ?_ | refine rl_max2 ?_ | refine rl_min2 ?_ | refine rl_sum ?_ | refine rl_all ?_)
  | ((with_reducible refine' wd_var ?h ?_); (case h => rfl))
  | ((with_reducible refine' wd_varB ?h ?_); (case h => rfl))
  | ((with_reducible refine' wa_box ?h ?_); (case h => rfl))
  | ((with_reducible refine' wa_both ?h ?_); (case h => rfl))
  | (with_reducible refine wa_cons ?_) | (with_reducible refine rl_both ?_)
  | ((with_reducible refine' wd_by_given ?h ?_); (case h => rfl))
  | (refine wd_callK1X ?_) | (refine wd_callK1 ?_)
  | (with_reducible refine wd_dnew ?_) | (with_reducible refine wd_disp1 ?_) | (with_reducible refine wd_rev ?_)
  | ((with_reducible refine' ws_setOwn ?h ?_); (case h => rfl))
  | ((with_reducible refine' ws_setBox0 ?h ?_); (case h => rfl))
  | ((with_reducible refine' ws_setBox3 ?h ?_); (case h => rfl))
  | ((with_reducible refine' rl_len ?h ?_); (case h => rfl))
  | ((with_reducible refine' rd_ix_list ?h ?_); (case h => rfl))
  | ((with_reducible refine' rd_ix_tup ?h ?_); (case h => rfl))
  | ((with_reducible refine' ptr_and ?h ?_); (case h => first | rfl | assumption | exact plain_ptr (by assumption)))
  | (with_reducible refine pick_t (decide_eq_true rfl) ?_)
  | ((with_reducible refine' pick_t ?h ?_); (case h => rfl))
  | ((with_reducible refine' pick_f ?h ?_); (case h => rfl))
  | (refine ⟨[], rfl, Nat.zero_le _, ?_⟩) | (refine ⟨[_, _], rfl, Nat.le_of_ble_eq_true rfl, ?_⟩) | (refine ⟨[_], rfl, Nat.le_of_ble_eq_true rfl, ?_⟩) | (refine ⟨[_, _, _], rfl, Nat.le_of_ble_eq_true rfl, ?_⟩) | (refine ⟨[_, _, _, _], rfl, Nat.le_of_ble_eq_true rfl, ?_⟩) | (refine ⟨[_, _, _, _, _, _], rfl, Nat.le_of_ble_eq_true rfl, ?_⟩) | (refine ⟨[_, _, _, _, _], rfl, Nat.le_of_ble_eq_true rfl, ?_⟩) | (refine ⟨[_, _, _, _, _, _, _], rfl, Nat.le_of_ble_eq_true rfl, ?_⟩) | (refine ⟨[_, _, _, _, _, _, _, _], rfl, Nat.le_of_ble_eq_true rfl, ?_⟩) | (refine ⟨[_, _, _, _, _, _, _, _, _], rfl, Nat.le_of_ble_eq_true rfl, ?_⟩) | (refine ⟨[_, _, _, _, _, _, _, _, _, _], rfl, Nat.le_of_ble_eq_true rfl, ?_⟩) | (refine ⟨[_, _, _, _, _, _, _, _, _, _, _], rfl, Nat.le_of_ble_eq_true rfl, ?_⟩) | (refine ⟨[_, _, _, _, _, _, _, _, _, _, _, _], rfl, Nat.le_of_ble_eq_true rfl, ?_⟩)
  | (with_reducible refine ⟨_, rfl, ?_⟩) | (with_reducible refine ⟨rfl, ?_⟩) | (refine ⟨_, rfl, ?_⟩) | (refine ⟨_, _, rfl, rfl, ?_⟩)))
local macro_rules | `(tactic| walk_at "eg w") => `(tactic| repeat ((first | walk_at "eg one w"); (try dsimp only)))

section
variable {P : Program} {w : World} {K : PySem.W.Frag} {mg : Str → Option Value} {base : Heap}
def P__law_cell (T : Tx K mg base) : PD := fun as φ Kq F XK => ∃ (ns : List Int) (k : Nat), as = [.scr K ns, .d (.int k)] ∧ ∀ g : Int, Kq (.int g) φ
theorem ok__law_cell (T : Tx K mg base) : FnG P w K mg base (L2.CX P w) 1 T.a__law_cell T.fd__law_cell ["script", "k"] (SpD (P__law_cell T)) := by
  refine fn_data T.F__law_cell sc__law_cell ?len (fun cdv A outer s H E hr hgd => ⟨_, (pss_one (ps_ret (pe_ifExp (pt_cmpR op_lt (pv 1) (pe_callB (r := rLenU K) call_len (by rfl) T.m_len (by decide +kernel) (pa_cons (pv 0) pa_nil)) (nomark _)) (pe_ix (r := rIx K) ix_seq (pv 0) (pv 1) (fun _ _ => rfl)) (pe_op (r := rPlus K) op_plus (pe_op (r := rTimes K) op_times pe_int (pv 1)) (pe_op op_mod (pe_callB (r := rSum K) (cr_sum rfl) (by rfl) T.m_sum (by decide +kernel) (pa_cons (pe_slice (r := rSlU K) sl_any (pv 0) po_none (po_some pe_int)) pa_nil)) pe_int))))), fun as φ Kc F XK h => ?body⟩)
  case len => walk_at "eg len"
  case body =>
    obtain ⟨ns, n, rfl, k⟩ := h
    walk_at "eg"
    refine ⟨fun e => ?_, fun e => ?_⟩
    · have hn : n < ns.length := by
        have := of_decide_eq_true e
        omega
      walk_at "eg"
      refine ⟨n, ns[n], rfl, L2.atI_nat (List.getElem?_eq_getElem hn), ?_⟩
      exact k _
    · walk_at "eg"
      refine rd_mul (.inl (by decide)) ?_
      walk_at "eg"
      rw [show Eg.cutD (ns.map PyData.int) none (some 1) = ((ns.drop (HT.sIx (ns.map PyData.int).length 0 none)).take (HT.sIx (ns.map PyData.int).length (ns.map PyData.int).length (some 1) - HT.sIx (ns.map PyData.int).length 0 none)).map PyData.int by unfold Eg.cutD; rw [List.map_take, List.map_drop]]
      walk_at "eg"
      refine rd_mod (by decide) ?_
      walk_at "eg"
      exact k _
def P__law_copy : PD := fun as φ K F XK => ∃ x, as = [.d x] ∧ isPtr x = false ∧ (∀ ds, x = .list ds → F ds φ) ∧ (isLst x = false → K x φ)
theorem ok__law_copy (T : Tx K mg base) : FnG P w K mg base (L2.CX P w) 1 T.a__law_copy T.fd__law_copy ["value"] (SpD (P__law_copy)) := by
  refine fn_data T.F__law_copy sc__law_copy ?len (fun cdv A outer s H E hr hgd => ⟨_, (pss_one (ps_ret (pe_ifExp (pt_val (pe_callB (r := rIsi K) call_isi (by rfl) T.m_isinstance (by decide +kernel) (pa_cons (pv 0) (pa_cons (pe_bltn (v := .ty "list") (u := .type "list") (by rfl) T.m_list (by decide +kernel) rfl) pa_nil)))) (pe_callTy (r := rListU K) call_list_of (by rfl) T.m_list (by decide +kernel) (pa_cons (pv 0) pa_nil)) (pv 0)))), fun as φ Kc F XK h => ?body⟩)
  case len => walk_at "eg len"
  case body =>
    obtain ⟨x, rfl, hp, k1, k2⟩ := h
    cases x with
    | list ds =>
      walk_at "eg"
      exact k1 ds rfl
    | _ =>
      walk_at "eg"
      exact k2 rfl
def P__law_asked (T : Tx K mg base) : PD := fun as φ K F XK => ∃ (door : Int) (x y : PyData), (as = [.d (.int door), .d x] ∧ y = x ∨ ∃ p, as = [.d (.int door), .both x p] ∧ y = ptrD p) ∧ 0 ≤ door ∧ plain x = true ∧ (door < 2 → isPts x = true → F [.str "told", fdD (rowF (itemsL x))] φ) ∧ (door < 2 → isPts x = false → F [.str "points", y] φ) ∧ (2 ≤ door → isRows x = true → F [.str "told", fdD (rowsF (itemsL x))] φ) ∧ (2 ≤ door → isRows x = false → F [.str "rows", y] φ)
theorem ok__law_asked (T : Tx K mg base) : FnG P w K mg base (L2.CX P w) 7 T.a__law_asked T.fd__law_asked ["door", "value"] (SpD (P__law_asked T)) := by
  have G_fold_of : FnG P w K mg base (L2.CX P w) 6 T.a_fold_of T.fd_fold_of ["rows"] (SpD (P_fold_of T)) := ok_fold_of T
  have G_fold : FnG P w K mg base (L2.CX P w) 5 T.a_fold T.fd_fold ["points"] (SpD (P_fold T)) := ok_fold T
  refine fn_data T.F__law_asked sc__law_asked ?len (fun cdv A outer s H E hr hgd => ⟨_, (pss_one (ps_try_n rfl rfl sc__law_asked.nd (takes_of rfl rfl rfl rfl) (fun W pn xe tk po => (pss_cons (ps_if (pt_cmpR (r := rEqU K) (op_eqU hr.units) (pv 0) pe_int (nomark _)) (pss_one (ps_ret (pe_lst (pa_cons pe_str (pa_cons (pe_callG G_fold (hr.mono (by decide)) hgd (by rfl) T.g_fold T.F_fold.kp T.b_fold (fun σ => passAt tk σ) (pa_cons (pv 1) pa_nil)) pa_nil))))) pss_nil) (pss_cons (ps_if (pt_cmpR (r := rEqU K) (op_eqU hr.units) (pv 0) pe_int (nomark _)) (pss_one (ps_ret (pe_lst (pa_cons pe_str (pa_cons (pe_callGK0 G_fold (hr.mono (by decide)) hgd (by rfl) T.g_fold T.F_fold.kp T.kb_fold_0_points (fun σ => passAt tk σ) (pk_cons (pv 1) pk_nil)) pa_nil))))) pss_nil) (pss_cons (ps_if (pt_cmpR (r := rEqU K) (op_eqU hr.units) (pv 0) pe_int (nomark _)) (pss_one (ps_ret (pe_lst (pa_cons pe_str (pa_cons (pe_callG G_fold_of (hr.mono (by decide)) hgd (by rfl) T.g_fold_of T.F_fold_of.kp T.b_fold_of (fun σ => passAt tk σ) (pa_cons (pv 1) pa_nil)) pa_nil))))) pss_nil) (pss_one (ps_ret (pe_lst (pa_cons pe_str (pa_cons (pe_callGK0 G_fold_of (hr.mono (by decide)) hgd (by rfl) T.g_fold_of T.F_fold_of.kp T.kb_fold_of_0_rows (fun σ => passAt tk σ) (pk_cons (pv 1) pk_nil)) pa_nil))))))))) (.cons (i := 2) ⟨rfl, by decide, Or.inl T.low_InvalidPoints.gC⟩ rfl rfl (fun a oe cls d pn hz hf => (pss_one (ps_ret (pe_lst (pa_cons pe_str (pa_cons (pe_by_given T.low_InvalidPoints hz hf (pv 2)) pa_nil)))))) (.cons (i := 2) ⟨rfl, by decide, Or.inl T.low_InvalidRows.gC⟩ rfl rfl (fun a oe cls d pn hz hf => (pss_one (ps_ret (pe_lst (pa_cons pe_str (pa_cons (pe_by_given T.low_InvalidRows hz hf (pv 2)) pa_nil)))))) .nil)))), fun as φ Kc F XK h => ?body⟩)
  case len => walk_at "eg len"
  case body =>
    obtain ⟨door, x, y, hv, h0, hp, k1, k2, k3, k4⟩ := h
    rcases hv with ⟨rfl, hy⟩ | ⟨p, rfl, hy⟩
    · have wrong : ∀ (W' : WX) (δ1 : List SD) (φ1 : Nat), φ1 = φ → True := fun _ _ _ _ => trivial
      refine ws_tryN fun W' => ?_
      walk_at "eg"
      refine ⟨fun d0 => ?_, fun d0 => ?_⟩
      · walk_at "eg"
        refine ⟨x, y, .inl ⟨rfl, hy⟩, hp, fun e => ?_, fun e => ?_⟩
        · walk_at "eg"
          exact k1 (by have := of_decide_eq_true d0; omega) e
        · refine ⟨true, T.low_InvalidPoints.te, fun _ a dd => ?_, fun z => nomatch z⟩
          walk_at "eg"
          exact k2 (by have := of_decide_eq_true d0; omega) e
      · walk_at "eg"
        refine ⟨fun d1 => ?_, fun d1 => ?_⟩
        · walk_at "eg"
          refine ⟨x, y, .inl ⟨rfl, hy⟩, hp, fun e => ?_, fun e => ?_⟩
          · walk_at "eg"
            exact k1 (by have := of_decide_eq_true d1; omega) e
          · refine ⟨true, T.low_InvalidPoints.te, fun _ a dd => ?_, fun z => nomatch z⟩
            walk_at "eg"
            exact k2 (by have := of_decide_eq_true d1; omega) e
        · walk_at "eg"
          have h2 : 2 ≤ door := by have := of_decide_eq_false d0; have := of_decide_eq_false d1; omega
          refine ⟨fun d2 => ?_, fun d2 => ?_⟩
          · walk_at "eg"
            refine ⟨x, y, .inl ⟨rfl, hy⟩, hp, fun e => ?_, fun e => ?_⟩
            · walk_at "eg"
              exact k3 h2 e
            · refine ⟨false, T.ne_InvalidRows_InvalidPoints, fun z => (nomatch z), fun _ => ⟨true, T.low_InvalidRows.te, fun _ a dd => ?_, fun z => nomatch z⟩⟩
              walk_at "eg"
              exact k4 h2 e
          · walk_at "eg"
            refine ⟨x, y, .inl ⟨rfl, hy⟩, hp, fun e => ?_, fun e => ?_⟩
            · walk_at "eg"
              exact k3 h2 e
            · refine ⟨false, T.ne_InvalidRows_InvalidPoints, fun z => (nomatch z), fun _ => ⟨true, T.low_InvalidRows.te, fun _ a dd => ?_, fun z => nomatch z⟩⟩
              walk_at "eg"
              exact k4 h2 e
    · have wrong : ∀ (W' : WX) (δ1 : List SD) (φ1 : Nat), φ1 = φ → True := fun _ _ _ _ => trivial
      refine ws_tryN fun W' => ?_
      walk_at "eg"
      refine ⟨fun d0 => ?_, fun d0 => ?_⟩
      · walk_at "eg"
        refine ⟨x, y, .inr ⟨p, rfl, hy⟩, hp, fun e => ?_, fun e => ?_⟩
        · walk_at "eg"
          exact k1 (by have := of_decide_eq_true d0; omega) e
        · refine ⟨true, T.low_InvalidPoints.te, fun _ a dd => ?_, fun z => nomatch z⟩
          walk_at "eg"
          exact k2 (by have := of_decide_eq_true d0; omega) e
      · walk_at "eg"
        refine ⟨fun d1 => ?_, fun d1 => ?_⟩
        · walk_at "eg"
          refine ⟨x, y, .inr ⟨p, rfl, hy⟩, hp, fun e => ?_, fun e => ?_⟩
          · walk_at "eg"
            exact k1 (by have := of_decide_eq_true d1; omega) e
          · refine ⟨true, T.low_InvalidPoints.te, fun _ a dd => ?_, fun z => nomatch z⟩
            walk_at "eg"
            exact k2 (by have := of_decide_eq_true d1; omega) e
        · walk_at "eg"
          have h2 : 2 ≤ door := by have := of_decide_eq_false d0; have := of_decide_eq_false d1; omega
          refine ⟨fun d2 => ?_, fun d2 => ?_⟩
          · walk_at "eg"
            refine ⟨x, y, .inr ⟨p, rfl, hy⟩, hp, fun e => ?_, fun e => ?_⟩
            · walk_at "eg"
              exact k3 h2 e
            · refine ⟨false, T.ne_InvalidRows_InvalidPoints, fun z => (nomatch z), fun _ => ⟨true, T.low_InvalidRows.te, fun _ a dd => ?_, fun z => nomatch z⟩⟩
              walk_at "eg"
              exact k4 h2 e
          · walk_at "eg"
            refine ⟨x, y, .inr ⟨p, rfl, hy⟩, hp, fun e => ?_, fun e => ?_⟩
            · walk_at "eg"
              exact k3 h2 e
            · refine ⟨false, T.ne_InvalidRows_InvalidPoints, fun z => (nomatch z), fun _ => ⟨true, T.low_InvalidRows.te, fun _ a dd => ?_, fun z => nomatch z⟩⟩
              walk_at "eg"
              exact k4 h2 e
end
end K9

/-! K9y -/
set_option Elab.async false
set_option linter.all false
namespace K9
open PySem PySem.Spec PyProof.Rows L2 Eg
theorem wa_imp {W : WX} {δ : List SD} {φ : Nat} {ta : TA} {XK : XC} {K K' : List AV → Nat → Prop} (h : WA W ta δ φ K XK) (hk : ∀ as φ', K as φ' → K' as φ') : WA W ta δ φ K' XK := fun b H0 G H σ Q w s q e => h b H0 G H σ Q w s (fun vs as φ' G' H' w' g' r k => q vs as φ' G' H' w' g' r (hk _ _ k)) e
/-- a copy, as data -/
theorem wd_copy {W : WX} {δ : List SD} {φ : Nat} {ta : TA} {XK : XC} {K : PyData → Nat → Prop} (h : WA W ta δ φ (fun as φ1 => ∃ x, as = [.d x] ∧ isPtr x = false ∧ K x φ1) XK) : WD W (tCallG (SpD P__law_copy) (fun _ => E0) ta) δ φ K XK :=
  wd_call (wa_imp h fun as φ1 ⟨x, e, hp, k⟩ => ⟨x, e, hp, fun ds hd => by subst hd; exact k, fun _ => k⟩)
end K9

/-! K9v4 -/
set_option Elab.async false
set_option linter.all false
set_option maxRecDepth 100000
set_option maxHeartbeats 2000000

namespace K9
open PySem PySem.Spec PyProof.Rows L2 Eg
local macro_rules | `(tactic| walk_at "eg len") => `(tactic| (intro as φ K F XK h; first
  | (obtain ⟨e, r⟩ := h; subst e; rfl) | (obtain ⟨x, e, r⟩ := h; subst e; rfl) | (obtain ⟨x, y, e, r⟩ := h; subst e; rfl) | (obtain ⟨x, y, z, e, r⟩ := h; subst e; rfl) | (obtain ⟨x, y, z, u, e, r⟩ := h; subst e; rfl)
  | (obtain ⟨x, y, h | ⟨p, h⟩, r⟩ := h <;> (obtain ⟨e, _⟩ := h; subst e; rfl)) | (obtain ⟨x, y, z, h | ⟨p, h⟩, r⟩ := h <;> (obtain ⟨e, _⟩ := h; subst e; rfl))
  | (rcases h with h | h <;> first | (obtain ⟨x, e, r⟩ := h; subst e; rfl) | (obtain ⟨x, y, e, r⟩ := h; subst e; rfl) | (obtain ⟨x, y, z, e, r⟩ := h; subst e; rfl) | (obtain ⟨x, y, z, u, e, r⟩ := h; subst e; rfl))))
/-- one step ahead -/
local macro_rules | `(tactic| walk_at "eg one") => `(tactic| (first
  | ((with_reducible refine' ws_raise_given (wa_cons (wd_varP ?h ?_))); (case h => rfl))
  | (with_reducible refine ws_raise_given ?_)
  | ((with_reducible refine' ws_retOwn ?h ?_); (case h => rfl))
  | (with_reducible refine ws_asgLst ?_) | (with_reducible refine ws_retLst ?_) | (with_reducible refine ws_retList ?_) | (with_reducible refine ws_retIf ?_)
  | ((with_reducible refine' ws_parNil2 ?h ?_); (case h => decide))
  | ((with_reducible refine' ws_parNil1 ?h ?_); (case h => decide))
  | ((with_reducible refine' ws_par3Nil ?h1 ?h2 ?_); (case h1 => decide); (case h2 => decide))
  | ((with_reducible refine' ws_append ?h ?_); (case h => rfl))
  | ((with_reducible refine' wd_ixOwn ?h ?_); (case h => rfl))
  | ((with_reducible refine' wd_isNOwn ?h ?_); (case h => rfl))
  | ((with_reducible refine' wd_tupleOwn ?h ?_); (case h => rfl))
  | ((with_reducible refine' wd_box0 ?h ?_); (case h => rfl))
  | ((with_reducible refine' wd_box1 ?h ?_); (case h => rfl))
  | ((with_reducible refine' wd_box2 ?h ?_); (case h => rfl))
  | ((with_reducible refine' wd_box3 ?h ?_); (case h => rfl))
  | (with_reducible first
    | refine ws_seq ?_ | refine ws_if ?_ | refine ws_ret ?_ | refine ws_retN ?_ | refine ws_next ?_ | refine ws_asg ?_ | refine ws_drop ?_ | refine ws_par ?_
    | refine wd_int ?_ | refine wd_bl ?_ | refine wd_str ?_ | refine wd_non ?_
    | refine wd_isi isi_int ?_ | refine wd_isi isi_bool ?_ | refine wd_isi isi_str ?_ | refine wd_isi isi_list ?_ | refine wd_isi isi_tuple ?_ | refine wd_isi isi_dict ?_ | refine wd_isi2 isi_list isi_tuple ?_
    | refine wd_list ?_ | refine wd_tuple ?_
    | refine wd_callX ?_ | refine wd_call ?_ | refine wd_callK1X ?_ | refine wd_callK1 ?_ | refine wd_cb ?_ | refine wd_op ?_ | refine wd_un ?_ | refine wd_if ?_ | refine wd_andV ?_ | refine wd_orV ?_ | refine wd_notV ?_
    | refine wd_tup ?_ | refine wd_lst ?_ | refine wd_slice ?_ | refine wo_none ?_ | refine wo_some ?_
    | refine wt_B ?_ | refine wt_test ?_ | refine wt_and ?_ | refine wt_or ?_ | refine wt_not ?_ | refine wt_yes ?_
    | refine wa_nil ?_
    | refine rd_plus_int ?_ | refine rd_sub ?_ | refine rd_cmp ?_ | refine rd_eq_int ?_ | refine rd_ne_int ?_ | refine rd_eq_str ?_ | refine rd_ne_str ?_ | refine rd_isN ?_ | refine rd_notN ?_ | refine ru_neg ?_
    | refine rl_abs ?_ | refine rl_int ?_ | refine rl_intB ?_ | refine rl_max2 ?_ | refine rl_min2 ?_ | refine rl_sum ?_ | refine rl_all ?_)
  | ((with_reducible refine' wd_var ?h ?_); (case h => rfl))
  | ((with_reducible refine' wd_varB ?h ?_); (case h => rfl))
  | ((with_reducible refine' wa_box ?h ?_); (case h => rfl))
  | ((with_reducible refine' wa_both ?h ?_); (case h => rfl))
  | (with_reducible refine wa_cons ?_) | (with_reducible refine rl_both ?_)
  | ((with_reducible refine' wd_by_given ?h ?_); (case h => rfl))
  | (refine wd_callK1X ?_) | (refine wd_callK1 ?_)
  | (with_reducible refine wd_dnew ?_) | (with_reducible refine wd_disp1 ?_) | (with_reducible refine wd_rev ?_)
  | ((with_reducible refine' ws_setOwn ?h ?_); (case h => rfl))
  | ((with_reducible refine' ws_setBox0 ?h ?_); (case h => rfl))
  | ((with_reducible refine' ws_setBox3 ?h ?_); (case h => rfl))
  | ((with_reducible refine' rl_len ?h ?_); (case h => rfl))
  | ((with_reducible refine' rd_ix_list ?h ?_); (case h => rfl))
  | ((with_reducible refine' rd_ix_tup ?h ?_); (case h => rfl))
  | ((with_reducible refine' ptr_and ?h ?_); (case h => first | rfl | assumption | exact plain_ptr (by assumption)))
  | ((with_reducible refine' pick_t ?h ?_); (case h => rfl))
  | ((with_reducible refine' pick_f ?h ?_); (case h => rfl))
  | (refine ⟨[], rfl, Nat.zero_le _, ?_⟩) | (refine ⟨[_, _], rfl, Nat.le_of_ble_eq_true rfl, ?_⟩) | (refine ⟨[_], rfl, Nat.le_of_ble_eq_true rfl, ?_⟩) | (refine ⟨[_, _, _], rfl, Nat.le_of_ble_eq_true rfl, ?_⟩) | (refine ⟨[_, _, _, _], rfl, Nat.le_of_ble_eq_true rfl, ?_⟩) | (refine ⟨[_, _, _, _, _, _], rfl, Nat.le_of_ble_eq_true rfl, ?_⟩) | (refine ⟨[_, _, _, _, _], rfl, Nat.le_of_ble_eq_true rfl, ?_⟩) | (refine ⟨[_, _, _, _, _, _, _], rfl, Nat.le_of_ble_eq_true rfl, ?_⟩) | (refine ⟨[_, _, _, _, _, _, _, _], rfl, Nat.le_of_ble_eq_true rfl, ?_⟩) | (refine ⟨[_, _, _, _, _, _, _, _, _], rfl, Nat.le_of_ble_eq_true rfl, ?_⟩) | (refine ⟨[_, _, _, _, _, _, _, _, _, _], rfl, Nat.le_of_ble_eq_true rfl, ?_⟩) | (refine ⟨[_, _, _, _, _, _, _, _, _, _, _], rfl, Nat.le_of_ble_eq_true rfl, ?_⟩) | (refine ⟨[_, _, _, _, _, _, _, _, _, _, _, _], rfl, Nat.le_of_ble_eq_true rfl, ?_⟩)
  | (with_reducible refine ⟨_, rfl, ?_⟩) | (with_reducible refine ⟨rfl, ?_⟩) | (refine ⟨_, rfl, ?_⟩) | (refine ⟨_, _, rfl, rfl, ?_⟩)))
local macro_rules | `(tactic| walk_at "eg") => `(tactic| repeat ((first | walk_at "eg one"); (try dsimp only)))
local macro_rules | `(tactic| walk_at "eg one v") => `(tactic| (first
  | ((with_reducible refine' ws_raise_given (wa_cons (wd_varP ?h ?_))); (case h => rfl))
  | (with_reducible refine ws_raise_given ?_)
  | ((with_reducible refine' ws_retOwn ?h ?_); (case h => rfl))
  | (with_reducible refine ws_asgLst ?_) | (with_reducible refine ws_retLst ?_) | (with_reducible refine ws_retList ?_) | (with_reducible refine ws_retIf ?_)
  | ((with_reducible refine' ws_parNil2 ?h ?_); (case h => decide))
  | ((with_reducible refine' ws_parNil1 ?h ?_); (case h => decide))
  | ((with_reducible refine' ws_par3Nil ?h1 ?h2 ?_); (case h1 => decide); (case h2 => decide))
  | ((with_reducible refine' ws_append ?h ?_); (case h => rfl))
  | ((with_reducible refine' wd_ixOwn ?h ?_); (case h => rfl))
  | ((with_reducible refine' wd_isNOwn ?h ?_); (case h => rfl))
  | ((with_reducible refine' wd_tupleOwn ?h ?_); (case h => rfl))
  | ((with_reducible refine' wd_box0 ?h ?_); (case h => rfl))
  | ((with_reducible refine' wd_box1 ?h ?_); (case h => rfl))
  | ((with_reducible refine' wd_box2 ?h ?_); (case h => rfl))
  | ((with_reducible refine' wd_box3 ?h ?_); (case h => rfl))
  | (with_reducible first
    | refine ws_seq ?_ | refine ws_if ?_ | refine ws_ret ?_ | refine ws_retN ?_ | refine ws_next ?_ | refine ws_asg ?_ | refine ws_drop ?_ | refine ws_par ?_
    | refine wd_int ?_ | refine wd_bl ?_ | refine wd_str ?_ | refine wd_non ?_
    | refine wd_isi isi_int ?_ | refine wd_isi isi_bool ?_ | refine wd_isi isi_str ?_ | refine wd_isi isi_list ?_ | refine wd_isi isi_tuple ?_ | refine wd_isi isi_dict ?_ | refine wd_isi2 isi_list isi_tuple ?_
    | refine wd_list ?_ | refine wd_tuple ?_
    | refine wd_callX ?_ | refine wd_call ?_ | refine wd_callK1X ?_ | refine wd_callK1 ?_ | refine wd_cb ?_ | refine wd_op ?_ | refine wd_un ?_ | refine wd_andV ?_ | refine wd_orV ?_ | refine wd_notV ?_
    | refine wd_tup ?_ | refine wd_lst ?_ | refine wd_slice ?_ | refine wo_none ?_ | refine wo_some ?_
    | refine wt_B ?_ | refine wt_test ?_ | refine wt_and ?_ | refine wt_or ?_ | refine wt_not ?_ | refine wt_yes ?_
    | refine wa_nil ?_
    | refine rd_plus_int ?_ | refine rd_sub ?_ | refine rd_cmp ?_ | refine rd_eq_int ?_ | refine rd_ne_int ?_ | refine rd_eq_str ?_ | refine rd_ne_str ?_ | refine rd_isN ?_ | refine rd_notN ?_ | refine ru_neg ?_
    | refine rl_abs ?_ | refine rl_int ?_ | refine rl_intB ?_ | refine rl_max2 ?_ | refine rl_min2 ?_ | refine rl_sum ?_ | refine rl_all ?_)
  | ((with_reducible refine' wd_var ?h ?_); (case h => rfl))
  | ((with_reducible refine' wd_varB ?h ?_); (case h => rfl))
  | ((with_reducible refine' wa_box ?h ?_); (case h => rfl))
  | ((with_reducible refine' wa_both ?h ?_); (case h => rfl))
  | (with_reducible refine wa_cons ?_) | (with_reducible refine rl_both ?_)
  | ((with_reducible refine' wd_by_given ?h ?_); (case h => rfl))
  | (refine wd_callK1X ?_) | (refine wd_callK1 ?_)
  | (with_reducible refine wd_dnew ?_) | (with_reducible refine wd_disp1 ?_) | (with_reducible refine wd_rev ?_)
  | ((with_reducible refine' ws_setOwn ?h ?_); (case h => rfl))
  | ((with_reducible refine' ws_setBox0 ?h ?_); (case h => rfl))
  | ((with_reducible refine' ws_setBox3 ?h ?_); (case h => rfl))
  | ((with_reducible refine' rl_len ?h ?_); (case h => rfl))
  | ((with_reducible refine' rd_ix_list ?h ?_); (case h => rfl))
  | ((with_reducible refine' rd_ix_tup ?h ?_); (case h => rfl))
  | ((with_reducible refine' ptr_and ?h ?_); (case h => first | rfl | assumption | exact plain_ptr (by assumption)))
  | ((with_reducible refine' pick_t ?h ?_); (case h => rfl))
  | ((with_reducible refine' pick_f ?h ?_); (case h => rfl))
  | (refine ⟨[], rfl, Nat.zero_le _, ?_⟩) | (refine ⟨[_, _], rfl, Nat.le_of_ble_eq_true rfl, ?_⟩) | (refine ⟨[_], rfl, Nat.le_of_ble_eq_true rfl, ?_⟩) | (refine ⟨[_, _, _], rfl, Nat.le_of_ble_eq_true rfl, ?_⟩) | (refine ⟨[_, _, _, _], rfl, Nat.le_of_ble_eq_true rfl, ?_⟩) | (refine ⟨[_, _, _, _, _, _], rfl, Nat.le_of_ble_eq_true rfl, ?_⟩) | (refine ⟨[_, _, _, _, _], rfl, Nat.le_of_ble_eq_true rfl, ?_⟩) | (refine ⟨[_, _, _, _, _, _, _], rfl, Nat.le_of_ble_eq_true rfl, ?_⟩) | (refine ⟨[_, _, _, _, _, _, _, _], rfl, Nat.le_of_ble_eq_true rfl, ?_⟩) | (refine ⟨[_, _, _, _, _, _, _, _, _], rfl, Nat.le_of_ble_eq_true rfl, ?_⟩) | (refine ⟨[_, _, _, _, _, _, _, _, _, _], rfl, Nat.le_of_ble_eq_true rfl, ?_⟩) | (refine ⟨[_, _, _, _, _, _, _, _, _, _, _], rfl, Nat.le_of_ble_eq_true rfl, ?_⟩) | (refine ⟨[_, _, _, _, _, _, _, _, _, _, _, _], rfl, Nat.le_of_ble_eq_true rfl, ?_⟩)
  | (with_reducible refine ⟨_, rfl, ?_⟩) | (with_reducible refine ⟨rfl, ?_⟩) | (refine ⟨_, rfl, ?_⟩) | (refine ⟨_, _, rfl, rfl, ?_⟩)))
local macro_rules | `(tactic| walk_at "eg v") => `(tactic| repeat ((first | walk_at "eg one v"); (try dsimp only)))
local macro_rules | `(tactic| walk_at "eg one w") => `(tactic| (first
  | ((with_reducible refine' ws_raise_given (wa_cons (wd_varP ?h ?_))); (case h => rfl))
  | (with_reducible refine ws_raise_given ?_)
  | ((with_reducible refine' ws_retOwn ?h ?_); (case h => rfl))
  | (with_reducible refine ws_retLst ?_) | (with_reducible refine ws_retList ?_) | (with_reducible refine ws_retIf ?_)
  | ((with_reducible refine' ws_parNil2 ?h ?_); (case h => decide))
  | ((with_reducible refine' ws_parNil1 ?h ?_); (case h => decide))
  | ((with_reducible refine' ws_par3Nil ?h1 ?h2 ?_); (case h1 => decide); (case h2 => decide))
  | ((with_reducible refine' ws_append ?h ?_); (case h => rfl))
  | ((with_reducible refine' wd_ixOwn ?h ?_); (case h => rfl))
  | ((with_reducible refine' wd_isNOwn ?h ?_); (case h => rfl))
  | ((with_reducible refine' wd_tupleOwn ?h ?_); (case h => rfl))
  | ((with_reducible refine' wd_box0 ?h ?_); (case h => rfl))
  | ((with_reducible refine' wd_box1 ?h ?_); (case h => rfl))
  | ((with_reducible refine' wd_box2 ?h ?_); (case h => rfl))
  | ((with_reducible refine' wd_box3 ?h ?_); (case h => rfl))
  | (with_reducible first
    | refine ws_seq ?_ | refine ws_if ?_ | refine ws_ret ?_ | refine ws_retN ?_ | refine ws_next ?_ | refine ws_asg ?_ | refine ws_drop ?_ | refine ws_par ?_
    | refine wd_int ?_ | refine wd_bl ?_ | refine wd_str ?_ | refine wd_non ?_
    | refine wd_isi isi_int ?_ | refine wd_isi isi_bool ?_ | refine wd_isi isi_str ?_ | refine wd_isi isi_list ?_ | refine wd_isi isi_tuple ?_ | refine wd_isi isi_dict ?_ | refine wd_isi2 isi_list isi_tuple ?_
    | refine wd_list ?_ | refine wd_tuple ?_
    | refine wd_callX ?_ | refine wd_call ?_ | refine wd_callK1X ?_ | refine wd_callK1 ?_ | refine wd_cb ?_ | refine wd_op ?_ | refine wd_un ?_ | refine wd_andV ?_ | refine wd_orV ?_ | refine wd_notV ?_
    | refine wd_tup ?_ | refine wd_lst ?_ | refine wd_slice ?_ | refine wo_none ?_ | refine wo_some ?_
    | refine wt_B ?_ | refine wt_test ?_ | refine wt_and ?_ | refine wt_or ?_ | refine wt_not ?_ | refine wt_yes ?_
    | refine wa_nil ?_
    | refine rd_plus_int ?_ | refine rd_sub ?_ | refine rd_cmp ?_ | refine rd_eq_int ?_ | refine rd_ne_int ?_ | refine rd_eq_str ?_ | refine rd_ne_str ?_ | refine rd_isN ?_ | refine rd_notN ?_ | refine ru_neg ?_
    | refine rl_abs ?_ | refine rl_int ?_ | refine rl_intB ?_ | refine rl_max2 ?_ | refine rl_min2 ?_ | refine rl_sum ?_ | refine rl_all ?_)
  | ((with_reducible refine' wd_var ?h ?_); (case h => rfl))
  | ((with_reducible refine' wd_varB ?h ?_); (case h => rfl))
  | ((with_reducible refine' wa_box ?h ?_); (case h => rfl))
  | ((with_reducible refine' wa_both ?h ?_); (case h => rfl))
  | (with_reducible refine wa_cons ?_) | (with_reducible refine rl_both ?_)
  | ((with_reducible refine' wd_by_given ?h ?_); (case h => rfl))
  | (refine wd_callK1X ?_) | (refine wd_callK1 ?_)
  | (with_reducible refine wd_dnew ?_) | (with_reducible refine wd_disp1 ?_) | (with_reducible refine wd_rev ?_)
  | ((with_reducible refine' ws_setOwn ?h ?_); (case h => rfl))
  | ((with_reducible refine' ws_setBox0 ?h ?_); (case h => rfl))
  | ((with_reducible refine' ws_setBox3 ?h ?_); (case h => rfl))
  | ((with_reducible refine' rl_len ?h ?_); (case h => rfl))
  | ((with_reducible refine' rd_ix_list ?h ?_); (case h => rfl))
  | ((with_reducible refine' rd_ix_tup ?h ?_); (case h => rfl))
  | ((with_reducible refine' ptr_and ?h ?_); (case h => first | rfl | assumption | exact plain_ptr (by assumption)))
  | ((with_reducible refine' pick_t ?h ?_); (case h => rfl))
  | ((with_reducible refine' pick_f ?h ?_); (case h => rfl))
  | (refine ⟨[], rfl, Nat.zero_le _, ?_⟩) | (refine ⟨[_, _], rfl, Nat.le_of_ble_eq_true rfl, ?_⟩) | (refine ⟨[_], rfl, Nat.le_of_ble_eq_true rfl, ?_⟩) | (refine ⟨[_, _, _], rfl, Nat.le_of_ble_eq_true rfl, ?_⟩) | (refine ⟨[_, _, _, _], rfl, Nat.le_of_ble_eq_true rfl, ?_⟩) | (refine ⟨[_, _, _, _, _, _], rfl, Nat.le_of_ble_eq_true rfl, ?_⟩) | (refine ⟨[_, _, _, _, _], rfl, Nat.le_of_ble_eq_true rfl, ?_⟩) | (refine ⟨[_, _, _, _, _, _, _], rfl, Nat.le_of_ble_eq_true rfl, ?_⟩) | (refine ⟨[_, _, _, _, _, _, _, _], rfl, Nat.le_of_ble_eq_true rfl, ?_⟩) | (refine ⟨[_, _, _, _, _, _, _, _, _], rfl, Nat.le_of_ble_eq_true rfl, ?_⟩) | (refine ⟨[_, _, _, _, _, _, _, _, _, _], rfl, Nat.le_of_ble_eq_true rfl, ?_⟩) | (refine ⟨[_, _, _, _, _, _, _, _, _, _, _], rfl, Nat.le_of_ble_eq_true rfl, ?_⟩) | (refine ⟨[_, _, _, _, _, _, _, _, _, _, _, _], rfl, Nat.le_of_ble_eq_true rfl, ?_⟩)
  | (with_reducible refine ⟨_, rfl, ?_⟩) | (with_reducible refine ⟨rfl, ?_⟩) | (refine ⟨_, rfl, ?_⟩) | (refine ⟨_, _, rfl, rfl, ?_⟩)))
local macro_rules | `(tactic| walk_at "eg w") => `(tactic| repeat ((first | walk_at "eg one w"); (try dsimp only)))

section
variable {P : Program} {w : World} {K : PySem.W.Frag} {mg : Str → Option Value} {base : Heap}
def P__law_spoilt : PD := fun as φ K F XK => ∃ ps : List (Int × Int), as = [.bx, .d (.list (ps.map ptD))] ∧ Good ps ∧ ps.length ≤ 8 ∧ 3 ≤ φ ∧ ∀ x, Vl x → K x (φ - 3)
theorem ok__law_spoilt (T : Tx K mg base) : FnG P w K mg base (L2.CX P w) 2 T.a__law_spoilt T.fd__law_spoilt ["box", "row"] (SpD (P__law_spoilt)) := by
  have G__law_take : FnG P w K mg base (L2.CX P w) 1 T.a__law_take T.fd__law_take ["box", "many"] (SpD (P__law_take)) := ok__law_take T
  refine fn_data T.F__law_spoilt sc__law_spoilt ?len (fun cdv A outer s H E hr hgd => ⟨_, (pss_cons (ps_set (i := 2) sc__law_spoilt.nd rfl (Or.inl rfl) (pe_callG G__law_take (hr.mono (by decide)) hgd (by rfl) T.g__law_take T.F__law_take.kp T.b__law_take noX (pa_cons (pv 0) (pa_cons pe_int pa_nil)))) (pss_cons (ps_set (i := 1) sc__law_spoilt.nd rfl (Or.inl rfl) (pe_ifExp (pt_cmpR op_gt (pe_callB (r := rLenU K) call_len (by rfl) T.m_len (by decide +kernel) (pa_cons (pv 1) pa_nil)) pe_int (nomark _)) (pe_callTy (r := rListU K) call_list_of (by rfl) T.m_list (by decide +kernel) (pa_cons (pv 1) pa_nil)) (pe_lst (pa_cons (pe_tup (pa_cons pe_int (pa_cons pe_int pa_nil))) (pa_cons (pe_tup (pa_cons pe_int (pa_cons pe_int pa_nil))) pa_nil))))) (pss_cons (ps_set (i := 3) sc__law_spoilt.nd rfl (Or.inl rfl) (pe_callG G__law_take (hr.mono (by decide)) hgd (by rfl) T.g__law_take T.F__law_take.kp T.b__law_take noX (pa_cons (pv 0) (pa_cons (pe_callB (r := rLenU K) call_len (by rfl) T.m_len (by decide +kernel) (pa_cons (pv 1) pa_nil)) pa_nil)))) (pss_cons (ps_asg (pe_ix (r := rIx K) ix_seq (pv 1) (pv 3) (fun _ _ => rfl)) (pg_tup rfl (pgs_cons (pg_name (i := 4) sc__law_spoilt.nd rfl (Or.inl rfl)) (pgs_cons (pg_name (i := 5) sc__law_spoilt.nd rfl (Or.inl rfl)) pgs_nil)))) (pss_cons (ps_if (pt_cmpR (r := rEqU K) (op_eqU hr.units) (pv 2) pe_int (nomark _)) (pss_one (ps_ret (pe_ix (r := rIx K) ix_seq (pe_lst (pa_cons pe_non (pa_cons pe_int (pa_cons pe_str (pa_cons pe_str (pa_cons pe_bl (pa_cons (pe_disp (pps_cons pe_int pe_int pps_nil) (by rfl) (by rfl) (fun z => by cases z) (by decide)) pa_nil))))))) (pe_callG G__law_take (hr.mono (by decide)) hgd (by rfl) T.g__law_take T.F__law_take.kp T.b__law_take noX (pa_cons (pv 0) (pa_cons pe_int pa_nil))) (fun _ _ => rfl)))) pss_nil) (pss_cons (ps_if (pt_cmpR (r := rEqU K) (op_eqU hr.units) (pv 2) pe_int (nomark _)) (pss_one (ps_ret (pe_op (r := rPlus K) op_plus (pe_slice (r := rSlU K) sl_any (pv 1) po_none (po_some (pe_op (r := rPlus K) op_plus (pv 3) pe_int))) (pe_slice (r := rSlU K) sl_any (pv 1) (po_some (pv 3)) po_none)))) pss_nil) (pss_cons (ps_if (pt_cmpR (r := rEqU K) (op_eqU hr.units) (pv 2) pe_int (nomark _)) (pss_one (ps_ret (pe_op (r := rPlus K) op_plus (pe_op (r := rPlus K) op_plus (pe_slice (r := rSlU K) sl_any (pv 1) po_none (po_some (pv 3))) (pe_lst (pa_cons (pe_tup (pa_cons (pe_op (r := rPlus K) op_plus (pv 4) (pe_ix (r := rIx K) ix_seq (pe_lst (pa_cons pe_int (pa_cons (pe_un un_neg pe_int) (pa_cons pe_int pa_nil)))) (pe_callG G__law_take (hr.mono (by decide)) hgd (by rfl) T.g__law_take T.F__law_take.kp T.b__law_take noX (pa_cons (pv 0) (pa_cons pe_int pa_nil))) (fun _ _ => rfl))) (pa_cons (pv 5) pa_nil))) pa_nil))) (pe_slice (r := rSlU K) sl_any (pv 1) (po_some (pv 3)) po_none)))) pss_nil) (pss_cons (ps_if (pt_cmpR (r := rEqU K) (op_eqU hr.units) (pv 2) pe_int (nomark _)) (pss_one (ps_ret (pe_op (r := rPlus K) op_plus (pe_slice (r := rSlU K) sl_any (pv 1) (po_some (pv 3)) po_none) (pe_slice (r := rSlU K) sl_any (pv 1) po_none (po_some (pv 3)))))) pss_nil) (pss_cons (ps_set (i := 6) sc__law_spoilt.nd rfl (Or.inl rfl) (pe_lst (pa_cons (pe_lst (pa_cons (pv 4) (pa_cons (pv 5) pa_nil))) (pa_cons (pe_tup (pa_cons (pv 4) pa_nil)) (pa_cons (pe_tup (pa_cons (pv 4) (pa_cons (pv 5) (pa_cons (pv 5) pa_nil)))) (pa_cons (pe_tup (pa_cons (pe_op op_sub (pe_un un_neg pe_int) (pv 4)) (pa_cons (pv 5) pa_nil))) (pa_cons (pe_tup (pa_cons (pe_cmpR (r := rEqU K) (op_eqU hr.units) (pv 3) pe_int (nomark _)) (pa_cons (pv 5) pa_nil))) (pa_cons (pe_tup (pa_cons (pv 4) (pa_cons (pe_cmpR op_gt (pv 5) pe_int (nomark _)) pa_nil))) pa_nil)))))))) (pss_cons (ps_set (i := 6) sc__law_spoilt.nd rfl (Or.inl rfl) (pe_op (r := rPlus K) op_plus (pv 6) (pe_lst (pa_cons (pe_tup (pa_cons (pv 4) (pa_cons pe_non pa_nil))) (pa_cons (pe_tup (pa_cons pe_non (pa_cons (pv 5) pa_nil))) (pa_cons (pe_tup (pa_cons (pv 4) (pa_cons (pe_callTy call_str_int (by rfl) T.m_str (by decide +kernel) (pa_cons (pv 5) pa_nil)) pa_nil))) (pa_cons (pv 4) (pa_cons (pe_tup pa_nil) (pa_cons (pe_tup (pa_cons (pe_callTy call_str_int (by rfl) T.m_str (by decide +kernel) (pa_cons (pv 4) pa_nil)) (pa_cons (pv 5) pa_nil))) pa_nil))))))))) (pss_one (ps_ret (pe_op (r := rPlus K) op_plus (pe_op (r := rPlus K) op_plus (pe_slice (r := rSlU K) sl_any (pv 1) po_none (po_some (pv 3))) (pe_lst (pa_cons (pe_ix (r := rIx K) ix_seq (pv 6) (pe_op op_sub (pv 2) pe_int) (fun _ _ => rfl)) pa_nil))) (pe_slice (r := rSlU K) sl_any (pv 1) (po_some (pe_op (r := rPlus K) op_plus (pv 3) pe_int)) po_none)))))))))))))), fun as φ Kc F XK h => ?body⟩)
  case len => walk_at "eg len"
  case body =>
    obtain ⟨ps, rfl, hg, hl, hφ, k⟩ := h
    walk_at "eg w"
    refine ⟨by decide, by decide, by omega, fun way way0 way1 => ?_⟩
    walk_at "eg w"
    
    refine wd_ite (.list (ps.map ptD)) (.list [ptD (3, 1), ptD (5, 0)]) ?_
    walk_at "eg w"
    refine ⟨?_, ?_, ?_⟩
    · walk_at "eg w"
      first | done | exact ⟨rfl, rfl⟩ | rfl
    · walk_at "eg w"
      first | done | exact ⟨rfl, rfl⟩ | rfl
    obtain ⟨qs, hq, hb, q0, q9⟩ : ∃ qs : List (Int × Int), (if decide (0 < ((ps.map ptD).length : Int)) = true then PyData.list (ps.map ptD) else .list [ptD (3, 1), ptD (5, 0)]) = .list (qs.map ptD) ∧ (∀ p, p ∈ qs → Bd p.1 ∧ Bd p.2) ∧ 0 < qs.length ∧ qs.length ≤ 8 := by
      cases ps with
      | nil => exact ⟨[(3, 1), (5, 0)], rfl, by intro p hp; simp at hp; rcases hp with rfl | rfl <;> exact ⟨⟨by decide, by decide⟩, by decide, by decide⟩, by decide, by decide⟩
      | cons p r => exact ⟨p :: r, by rw [if_pos]; exact decide_eq_true (by rw [List.length_map, List.length_cons]; omega), fun p hp => good_bd hg hp, by simp, hl⟩
    rw [hq]
    walk_at "eg w"
    refine ⟨by rw [List.length_map]; omega, by rw [List.length_map]; omega, by omega, fun at_ a0 a1 => ?_⟩
    walk_at "eg w"
    refine ws_asgG ?_
    walk_at "eg w"
    refine rd_ixMem a0 a1 fun j d hj hd => ?_
    obtain ⟨p, hp, rfl⟩ := List.mem_map.mp (List.mem_of_getElem? hd)
    obtain ⟨t, v⟩ := p
    obtain ⟨bt, bv⟩ := hb _ hp
    have bt : Bd t := bt
    have bv : Bd v := bv
    unfold Bd at bt bv
    have ft : Lf (.int t) := lf_int (by omega)
    have fv : Lf (.int v) := lf_int (by omega)
    have el : ∀ x, x ∈ qs.map ptD → El x := fun x hx => by
      obtain ⟨p, hp, rfl⟩ := List.mem_map.mp hx
      exact pt_el (hb p hp).1 (hb p hp).2
    have cut : ∀ lo hi x, x ∈ Eg.cutD (qs.map ptD) lo hi → El x := fun lo hi x hx => el x (cutD_mem hx)
    have cl : ∀ lo hi, (Eg.cutD (qs.map ptD) lo hi).length ≤ 8 := fun lo hi => Nat.le_trans (cutD_len _ _ _) (by rw [List.length_map]; exact q9)
    have two : ∀ lo hi lo2 hi2, Vl (.list (Eg.cutD (qs.map ptD) lo hi ++ Eg.cutD (qs.map ptD) lo2 hi2)) := fun lo hi lo2 hi2 => vl_list (fun x hx => (List.mem_append.mp hx).elim (cut _ _ x) (cut _ _ x)) (by rw [List.length_append]; have := cl lo hi; have := cl lo2 hi2; omega)
    have mid : ∀ lo hi lo2 hi2 y, El y → Vl (.list (Eg.cutD (qs.map ptD) lo hi ++ [y] ++ Eg.cutD (qs.map ptD) lo2 hi2)) := fun lo hi lo2 hi2 y hy => vl_list (fun x hx => (List.mem_append.mp hx).elim (fun hx => (List.mem_append.mp hx).elim (cut _ _ x) fun hx => by rw [List.mem_singleton.mp hx]; exact hy) (cut _ _ x)) (by rw [List.length_append, List.length_append, List.length_singleton]; have := cl lo hi; have := cl lo2 hi2; omega)
    refine wg_tup rfl (wgs_cons (wgs_cons (wgs_nil ?_)))
    walk_at "eg w"
    refine ⟨fun e0 => ?_, fun e0 => ?_⟩
    · walk_at "eg w"
      refine ⟨by decide, by decide, by omega, fun r r0 r1 => ?_⟩
      walk_at "eg w"
      refine rd_ixMem r0 r1 fun j d hj hd => ?_
      refine k d ?_
      have hd := List.mem_of_getElem? hd
      simp only [List.mem_cons, List.not_mem_nil, or_false] at hd
      rcases hd with rfl | rfl | rfl | rfl | rfl | rfl
      · exact lf_none.vl
      · exact (lf_int (by omega)).vl
      · exact (lf_str (by decide +kernel) (by decide +kernel)).vl
      · exact (lf_str (by decide +kernel) (by decide +kernel)).vl
      · exact lf_bool.vl
      · exact dict31
    walk_at "eg w"
    refine ⟨fun e1 => ?_, fun e1 => ?_⟩
    · refine ws_less (φ' := φ - 3) ?_ (by omega)
      walk_at "eg w"
      refine rd_plus_list (by have := cl none (some (at_ + 1)); have := cl (some at_) none; omega) ?_
      exact k _ (two _ _ _ _)
    walk_at "eg w"
    refine ⟨fun e2 => ?_, fun e2 => ?_⟩
    · walk_at "eg w"
      refine ⟨by decide, by decide, by omega, fun r r0 r1 => ?_⟩
      walk_at "eg w"
      refine rd_ixMem r0 r1 fun j d hj hd => ?_
      obtain ⟨u, rfl, u0, u1⟩ : ∃ u : Int, d = .int u ∧ -2 < u ∧ u < 2 := by
        have hd := List.mem_of_getElem? hd
        simp only [List.mem_cons, List.not_mem_nil, or_false] at hd
        rcases hd with rfl | rfl | rfl <;> exact ⟨_, rfl, by decide, by decide⟩
      walk_at "eg w"
      refine rd_plus_list (by have := cl none (some at_); rw [List.length_singleton]; omega) ?_
      walk_at "eg w"
      refine rd_plus_list (by have := cl none (some at_); have := cl (some at_) none; rw [List.length_append, List.length_singleton]; omega) ?_
      exact k _ (mid _ _ _ _ _ (el_tup2 (lf_int (by omega)) fv))
    refine ws_less (φ' := φ - 3) ?_ (by omega)
    walk_at "eg w"
    refine ⟨fun e3 => ?_, fun e3 => ?_⟩
    · walk_at "eg w"
      refine rd_plus_list (by have := cl (some at_) none; have := cl none (some at_); omega) ?_
      exact k _ (two _ _ _ _)
    walk_at "eg w"
    refine rl_str (i := v) (small_log (by omega)) ?_
    walk_at "eg w"
    refine rl_str (i := t) (small_log (by omega)) ?_
    walk_at "eg w"
    refine rd_plus_list (by exact Nat.le_of_ble_eq_true rfl) ?_
    walk_at "eg w"
    have e0 := of_decide_eq_false e0
    have e1 := of_decide_eq_false e1
    have e2 := of_decide_eq_false e2
    have e3 := of_decide_eq_false e3
    refine rd_ixMem (by omega) (show way - 4 < 12 by omega) fun j d hj hd => ?_
    have hdE : El d := by
      have hd := List.mem_of_getElem? hd
      simp only [List.mem_append, List.mem_cons, List.not_mem_nil, or_false] at hd
      rcases hd with (rfl | rfl | rfl | rfl | rfl | rfl) | rfl | rfl | rfl | rfl | rfl | rfl
      · exact el_list2 ft fv
      · exact el_tup1 ft
      · exact el_tup3 ft fv fv
      · exact el_tup2 (lf_int (by omega)) fv
      · exact el_tup2 lf_bool fv
      · exact el_tup2 ft lf_bool
      · exact el_tup2 ft lf_none
      · exact el_tup2 lf_none fv
      · exact el_tup2 ft (lf_text (by omega))
      · exact ft.el
      · exact el_tup (by simp) (by simp)
      · exact el_tup2 (lf_text (by omega)) fv
    walk_at "eg w"
    refine rd_plus_list (by have := cl none (some at_); rw [List.length_singleton]; omega) ?_
    walk_at "eg w"
    refine rd_plus_list (by have := cl none (some at_); have := cl (some (at_ + 1)) none; rw [List.length_append, List.length_singleton]; omega) ?_
    exact k _ (mid _ _ _ _ _ hdE)
end
end K9

/-! K9w1 -/
set_option Elab.async false
set_option linter.all false
set_option maxRecDepth 100000
set_option maxHeartbeats 2000000

namespace K9
open PySem PySem.Spec PyProof.Rows L2 Eg
local macro_rules | `(tactic| walk_at "eg len") => `(tactic| (intro as φ K F XK h; first
  | (obtain ⟨e, r⟩ := h; subst e; rfl) | (obtain ⟨x, e, r⟩ := h; subst e; rfl) | (obtain ⟨x, y, e, r⟩ := h; subst e; rfl) | (obtain ⟨x, y, z, e, r⟩ := h; subst e; rfl) | (obtain ⟨x, y, z, u, e, r⟩ := h; subst e; rfl)
  | (obtain ⟨x, y, h | ⟨p, h⟩, r⟩ := h <;> (obtain ⟨e, _⟩ := h; subst e; rfl)) | (obtain ⟨x, y, z, h | ⟨p, h⟩, r⟩ := h <;> (obtain ⟨e, _⟩ := h; subst e; rfl))
  | (rcases h with h | h <;> first | (obtain ⟨x, e, r⟩ := h; subst e; rfl) | (obtain ⟨x, y, e, r⟩ := h; subst e; rfl) | (obtain ⟨x, y, z, e, r⟩ := h; subst e; rfl) | (obtain ⟨x, y, z, u, e, r⟩ := h; subst e; rfl))))
/-- one step ahead -/
local macro_rules | `(tactic| walk_at "eg one") => `(tactic| (first
  | ((with_reducible refine' ws_raise_given (wa_cons (wd_varP ?h ?_))); (case h => rfl))
  | (with_reducible refine ws_raise_given ?_)
  | ((with_reducible refine' ws_retOwn ?h ?_); (case h => rfl))
  | (with_reducible refine ws_asgLst ?_) | (with_reducible refine ws_retLst ?_) | (with_reducible refine ws_retList ?_) | (with_reducible refine ws_retIf ?_)
  | ((with_reducible refine' ws_parNil2 ?h ?_); (case h => decide))
  | ((with_reducible refine' ws_parNil1 ?h ?_); (case h => decide))
  | ((with_reducible refine' ws_par3Nil ?h1 ?h2 ?_); (case h1 => decide); (case h2 => decide))
  | ((with_reducible refine' ws_append ?h ?_); (case h => rfl))
  | ((with_reducible refine' wd_ixOwn ?h ?_); (case h => rfl))
  | ((with_reducible refine' wd_isNOwn ?h ?_); (case h => rfl))
  | ((with_reducible refine' wd_tupleOwn ?h ?_); (case h => rfl))
  | ((with_reducible refine' wd_box0 ?h ?_); (case h => rfl))
  | ((with_reducible refine' wd_box1 ?h ?_); (case h => rfl))
  | ((with_reducible refine' wd_box2 ?h ?_); (case h => rfl))
  | ((with_reducible refine' wd_box3 ?h ?_); (case h => rfl))
  | (with_reducible first
    | refine ws_seq ?_ | refine ws_if ?_ | refine ws_ret ?_ | refine ws_retN ?_ | refine ws_next ?_ | refine ws_asg ?_ | refine ws_drop ?_ | refine ws_par ?_
    | refine wd_int ?_ | refine wd_bl ?_ | refine wd_str ?_ | refine wd_non ?_
    | refine wd_isi isi_int ?_ | refine wd_isi isi_bool ?_ | refine wd_isi isi_str ?_ | refine wd_isi isi_list ?_ | refine wd_isi isi_tuple ?_ | refine wd_isi isi_dict ?_ | refine wd_isi2 isi_list isi_tuple ?_
    | refine wd_list ?_ | refine wd_tuple ?_
    | refine wd_callX ?_ | refine wd_call ?_ | refine wd_callK1X ?_ | refine wd_callK1 ?_ | refine wd_cb ?_ | refine wd_op ?_ | refine wd_un ?_ | refine wd_if ?_ | refine wd_andV ?_ | refine wd_orV ?_ | refine wd_notV ?_
    | refine wd_tup ?_ | refine wd_lst ?_ | refine wd_slice ?_ | refine wo_none ?_ | refine wo_some ?_
    | refine wt_B ?_ | refine wt_test ?_ | refine wt_and ?_ | refine wt_or ?_ | refine wt_not ?_ | refine wt_yes ?_
    | refine wa_nil ?_
    | refine rd_plus_int ?_ | refine rd_sub ?_ | refine rd_cmp ?_ | refine rd_eq_int ?_ | refine rd_ne_int ?_ | refine rd_eq_str ?_ | refine rd_ne_str ?_ | refine rd_isN ?_ | refine rd_notN ?_ | refine ru_neg ?_
    | refine rl_abs ?_ | refine rl_int ?_ | refine rl_intB ?_ | refine rl_max2 ?_ | refine rl_min2 ?_ | refine rl_sum ?_ | refine rl_all ?_)
  | ((with_reducible refine' wd_var ?h ?_); (case h => rfl))
  | ((with_reducible refine' wd_varB ?h ?_); (case h => rfl))
  | ((with_reducible refine' wa_box ?h ?_); (case h => rfl))
  | ((with_reducible refine' wa_both ?h ?_); (case h => rfl))
  | (with_reducible refine wa_cons ?_) | (with_reducible refine rl_both ?_)
  | ((with_reducible refine' wd_by_given ?h ?_); (case h => rfl))
  | (refine wd_callK1X ?_) | (refine wd_callK1 ?_)
  | (with_reducible refine wd_dnew ?_) | (with_reducible refine wd_disp1 ?_) | (with_reducible refine wd_rev ?_)
  | ((with_reducible refine' ws_setOwn ?h ?_); (case h => rfl))
  | ((with_reducible refine' ws_setBox0 ?h ?_); (case h => rfl))
  | ((with_reducible refine' ws_setBox3 ?h ?_); (case h => rfl))
  | ((with_reducible refine' rl_len ?h ?_); (case h => rfl))
  | ((with_reducible refine' rd_ix_list ?h ?_); (case h => rfl))
  | ((with_reducible refine' rd_ix_tup ?h ?_); (case h => rfl))
  | ((with_reducible refine' ptr_and ?h ?_); (case h => first | rfl | assumption | exact plain_ptr (by assumption)))
  | (with_reducible refine pick_t (decide_eq_true rfl) ?_)
  | ((with_reducible refine' pick_t ?h ?_); (case h => rfl))
  | ((with_reducible refine' pick_f ?h ?_); (case h => rfl))
  | (refine ⟨[], rfl, Nat.zero_le _, ?_⟩) | (refine ⟨[_, _], rfl, Nat.le_of_ble_eq_true rfl, ?_⟩) | (refine ⟨[_], rfl, Nat.le_of_ble_eq_true rfl, ?_⟩) | (refine ⟨[_, _, _], rfl, Nat.le_of_ble_eq_true rfl, ?_⟩) | (refine ⟨[_, _, _, _], rfl, Nat.le_of_ble_eq_true rfl, ?_⟩) | (refine ⟨[_, _, _, _, _, _], rfl, Nat.le_of_ble_eq_true rfl, ?_⟩) | (refine ⟨[_, _, _, _, _], rfl, Nat.le_of_ble_eq_true rfl, ?_⟩) | (refine ⟨[_, _, _, _, _, _, _], rfl, Nat.le_of_ble_eq_true rfl, ?_⟩) | (refine ⟨[_, _, _, _, _, _, _, _], rfl, Nat.le_of_ble_eq_true rfl, ?_⟩) | (refine ⟨[_, _, _, _, _, _, _, _, _], rfl, Nat.le_of_ble_eq_true rfl, ?_⟩) | (refine ⟨[_, _, _, _, _, _, _, _, _, _], rfl, Nat.le_of_ble_eq_true rfl, ?_⟩) | (refine ⟨[_, _, _, _, _, _, _, _, _, _, _], rfl, Nat.le_of_ble_eq_true rfl, ?_⟩) | (refine ⟨[_, _, _, _, _, _, _, _, _, _, _, _], rfl, Nat.le_of_ble_eq_true rfl, ?_⟩)
  | (with_reducible refine ⟨_, rfl, ?_⟩) | (with_reducible refine ⟨rfl, ?_⟩) | (refine ⟨_, rfl, ?_⟩) | (refine ⟨_, _, rfl, rfl, ?_⟩)))
local macro_rules | `(tactic| walk_at "eg") => `(tactic| repeat ((first | walk_at "eg one"); (try dsimp only)))
local macro_rules | `(tactic| walk_at "eg one v") => `(tactic| (first
  | ((with_reducible refine' ws_raise_given (wa_cons (wd_varP ?h ?_))); (case h => rfl))
  | (with_reducible refine ws_raise_given ?_)
  | ((with_reducible refine' ws_retOwn ?h ?_); (case h => rfl))
  | (with_reducible refine ws_asgLst ?_) | (with_reducible refine ws_retLst ?_) | (with_reducible refine ws_retList ?_) | (with_reducible refine ws_retIf ?_)
  | ((with_reducible refine' ws_parNil2 ?h ?_); (case h => decide))
  | ((with_reducible refine' ws_parNil1 ?h ?_); (case h => decide))
  | ((with_reducible refine' ws_par3Nil ?h1 ?h2 ?_); (case h1 => decide); (case h2 => decide))
  | ((with_reducible refine' ws_append ?h ?_); (case h => rfl))
  | ((with_reducible refine' wd_ixOwn ?h ?_); (case h => rfl))
  | ((with_reducible refine' wd_isNOwn ?h ?_); (case h => rfl))
  | ((with_reducible refine' wd_tupleOwn ?h ?_); (case h => rfl))
  | ((with_reducible refine' wd_box0 ?h ?_); (case h => rfl))
  | ((with_reducible refine' wd_box1 ?h ?_); (case h => rfl))
  | ((with_reducible refine' wd_box2 ?h ?_); (case h => rfl))
  | ((with_reducible refine' wd_box3 ?h ?_); (case h => rfl))
  | (with_reducible first
    | refine ws_seq ?_ | refine ws_if ?_ | refine ws_ret ?_ | refine ws_retN ?_ | refine ws_next ?_ | refine ws_asg ?_ | refine ws_drop ?_ | refine ws_par ?_
    | refine wd_int ?_ | refine wd_bl ?_ | refine wd_str ?_ | refine wd_non ?_
    | refine wd_isi isi_int ?_ | refine wd_isi isi_bool ?_ | refine wd_isi isi_str ?_ | refine wd_isi isi_list ?_ | refine wd_isi isi_tuple ?_ | refine wd_isi isi_dict ?_ | refine wd_isi2 isi_list isi_tuple ?_
    | refine wd_list ?_ | refine wd_tuple ?_
    | refine wd_callX ?_ | refine wd_call ?_ | refine wd_callK1X ?_ | refine wd_callK1 ?_ | refine wd_cb ?_ | refine wd_op ?_ | refine wd_un ?_ | refine wd_andV ?_ | refine wd_orV ?_ | refine wd_notV ?_
    | refine wd_tup ?_ | refine wd_lst ?_ | refine wd_slice ?_ | refine wo_none ?_ | refine wo_some ?_
    | refine wt_B ?_ | refine wt_test ?_ | refine wt_and ?_ | refine wt_or ?_ | refine wt_not ?_ | refine wt_yes ?_
    | refine wa_nil ?_
    | refine rd_plus_int ?_ | refine rd_sub ?_ | refine rd_cmp ?_ | refine rd_eq_int ?_ | refine rd_ne_int ?_ | refine rd_eq_str ?_ | refine rd_ne_str ?_ | refine rd_isN ?_ | refine rd_notN ?_ | refine ru_neg ?_
    | refine rl_abs ?_ | refine rl_int ?_ | refine rl_intB ?_ | refine rl_max2 ?_ | refine rl_min2 ?_ | refine rl_sum ?_ | refine rl_all ?_)
  | ((with_reducible refine' wd_var ?h ?_); (case h => rfl))
  | ((with_reducible refine' wd_varB ?h ?_); (case h => rfl))
  | ((with_reducible refine' wa_box ?h ?_); (case h => rfl))
  | ((with_reducible refine' wa_both ?h ?_); (case h => rfl))
  | (with_reducible refine wa_cons ?_) | (with_reducible refine rl_both ?_)
  | ((with_reducible refine' wd_by_given ?h ?_); (case h => rfl))
  | (refine wd_callK1X ?_) | (refine wd_callK1 ?_)
  | (with_reducible refine wd_dnew ?_) | (with_reducible refine wd_disp1 ?_) | (with_reducible refine wd_rev ?_)
  | ((with_reducible refine' ws_setOwn ?h ?_); (case h => rfl))
  | ((with_reducible refine' ws_setBox0 ?h ?_); (case h => rfl))
  | ((with_reducible refine' ws_setBox3 ?h ?_); (case h => rfl))
  | ((with_reducible refine' rl_len ?h ?_); (case h => rfl))
  | ((with_reducible refine' rd_ix_list ?h ?_); (case h => rfl))
  | ((with_reducible refine' rd_ix_tup ?h ?_); (case h => rfl))
  | ((with_reducible refine' ptr_and ?h ?_); (case h => first | rfl | assumption | exact plain_ptr (by assumption)))
  | (with_reducible refine pick_t (decide_eq_true rfl) ?_)
  | ((with_reducible refine' pick_t ?h ?_); (case h => rfl))
  | ((with_reducible refine' pick_f ?h ?_); (case h => rfl))
  | (refine ⟨[], rfl, Nat.zero_le _, ?_⟩) | (refine ⟨[_, _], rfl, Nat.le_of_ble_eq_true rfl, ?_⟩) | (refine ⟨[_], rfl, Nat.le_of_ble_eq_true rfl, ?_⟩) | (refine ⟨[_, _, _], rfl, Nat.le_of_ble_eq_true rfl, ?_⟩) | (refine ⟨[_, _, _, _], rfl, Nat.le_of_ble_eq_true rfl, ?_⟩) | (refine ⟨[_, _, _, _, _, _], rfl, Nat.le_of_ble_eq_true rfl, ?_⟩) | (refine ⟨[_, _, _, _, _], rfl, Nat.le_of_ble_eq_true rfl, ?_⟩) | (refine ⟨[_, _, _, _, _, _, _], rfl, Nat.le_of_ble_eq_true rfl, ?_⟩) | (refine ⟨[_, _, _, _, _, _, _, _], rfl, Nat.le_of_ble_eq_true rfl, ?_⟩) | (refine ⟨[_, _, _, _, _, _, _, _, _], rfl, Nat.le_of_ble_eq_true rfl, ?_⟩) | (refine ⟨[_, _, _, _, _, _, _, _, _, _], rfl, Nat.le_of_ble_eq_true rfl, ?_⟩) | (refine ⟨[_, _, _, _, _, _, _, _, _, _, _], rfl, Nat.le_of_ble_eq_true rfl, ?_⟩) | (refine ⟨[_, _, _, _, _, _, _, _, _, _, _, _], rfl, Nat.le_of_ble_eq_true rfl, ?_⟩)
  | (with_reducible refine ⟨_, rfl, ?_⟩) | (with_reducible refine ⟨rfl, ?_⟩) | (refine ⟨_, rfl, ?_⟩) | (refine ⟨_, _, rfl, rfl, ?_⟩)))
local macro_rules | `(tactic| walk_at "eg v") => `(tactic| repeat ((first | walk_at "eg one v"); (try dsimp only)))
local macro_rules | `(tactic| walk_at "eg one w") => `(tactic| (first
  | ((with_reducible refine' ws_raise_given (wa_cons (wd_varP ?h ?_))); (case h => rfl))
  | (with_reducible refine ws_raise_given ?_)
  | ((with_reducible refine' ws_retOwn ?h ?_); (case h => rfl))
  | (with_reducible refine ws_retLst ?_) | (with_reducible refine ws_retList ?_) | (with_reducible refine ws_retIf ?_)
  | ((with_reducible refine' ws_parNil2 ?h ?_); (case h => decide))
  | ((with_reducible refine' ws_parNil1 ?h ?_); (case h => decide))
  | ((with_reducible refine' ws_par3Nil ?h1 ?h2 ?_); (case h1 => decide); (case h2 => decide))
  | ((with_reducible refine' ws_append ?h ?_); (case h => rfl))
  | ((with_reducible refine' wd_ixOwn ?h ?_); (case h => rfl))
  | ((with_reducible refine' wd_isNOwn ?h ?_); (case h => rfl))
  | ((with_reducible refine' wd_tupleOwn ?h ?_); (case h => rfl))
  | ((with_reducible refine' wd_box0 ?h ?_); (case h => rfl))
  | ((with_reducible refine' wd_box1 ?h ?_); (case h => rfl))
  | ((with_reducible refine' wd_box2 ?h ?_); (case h => rfl))
  | ((with_reducible refine' wd_box3 ?h ?_); (case h => rfl))
  | (with_reducible first
    | refine ws_seq ?_ | refine ws_if ?_ | refine ws_ret ?_ | refine ws_retN ?_ | refine ws_next ?_ | refine ws_asg ?_ | refine ws_drop ?_ | refine ws_par ?_
    | refine wd_int ?_ | refine wd_bl ?_ | refine wd_str ?_ | refine wd_non ?_
    | refine wd_isi isi_int ?_ | refine wd_isi isi_bool ?_ | refine wd_isi isi_str ?_ | refine wd_isi isi_list ?_ | refine wd_isi isi_tuple ?_ | refine wd_isi isi_dict ?_ | refine wd_isi2 isi_list isi_tuple ?_
    | refine wd_list ?_ | refine wd_tuple ?_
    | refine wd_callX ?_ | refine wd_call ?_ | refine wd_callK1X ?_ | refine wd_callK1 ?_ | refine wd_cb ?_ | refine wd_op ?_ | refine wd_un ?_ | refine wd_andV ?_ | refine wd_orV ?_ | refine wd_notV ?_
    | refine wd_tup ?_ | refine wd_lst ?_ | refine wd_slice ?_ | refine wo_none ?_ | refine wo_some ?_
    | refine wt_B ?_ | refine wt_test ?_ | refine wt_and ?_ | refine wt_or ?_ | refine wt_not ?_ | refine wt_yes ?_
    | refine wa_nil ?_
    | refine rd_plus_int ?_ | refine rd_sub ?_ | refine rd_cmp ?_ | refine rd_eq_int ?_ | refine rd_ne_int ?_ | refine rd_eq_str ?_ | refine rd_ne_str ?_ | refine rd_isN ?_ | refine rd_notN ?_ | refine ru_neg ?_
    | refine rl_abs ?_ | refine rl_int ?_ | refine rl_intB ?_ | refine rl_max2 ?_ | refine rl_min2 ?_ | refine rl_sum ?_ | refine rl_all ?_)
  | ((with_reducible refine' wd_var ?h ?_); (case h => rfl))
  | ((with_reducible refine' wd_varB ?h ?_); (case h => rfl))
  | ((with_reducible refine' wa_box ?h ?_); (case h => rfl))
  | ((with_reducible refine' wa_both ?h ?_); (case h => rfl))
  | (with_reducible refine wa_cons ?_) | (with_reducible refine rl_both ?_)
  | ((with_reducible refine' wd_by_given ?h ?_); (case h => rfl))
  | (refine wd_callK1X ?_) | (refine wd_callK1 ?_)
  | (with_reducible refine wd_dnew ?_) | (with_reducible refine wd_disp1 ?_) | (with_reducible refine wd_rev ?_)
  | ((with_reducible refine' ws_setOwn ?h ?_); (case h => rfl))
  | ((with_reducible refine' ws_setBox0 ?h ?_); (case h => rfl))
  | ((with_reducible refine' ws_setBox3 ?h ?_); (case h => rfl))
  | ((with_reducible refine' rl_len ?h ?_); (case h => rfl))
  | ((with_reducible refine' rd_ix_list ?h ?_); (case h => rfl))
  | ((with_reducible refine' rd_ix_tup ?h ?_); (case h => rfl))
  | ((with_reducible refine' ptr_and ?h ?_); (case h => first | rfl | assumption | exact plain_ptr (by assumption)))
  | (with_reducible refine pick_t (decide_eq_true rfl) ?_)
  | ((with_reducible refine' pick_t ?h ?_); (case h => rfl))
  | ((with_reducible refine' pick_f ?h ?_); (case h => rfl))
  | (refine ⟨[], rfl, Nat.zero_le _, ?_⟩) | (refine ⟨[_, _], rfl, Nat.le_of_ble_eq_true rfl, ?_⟩) | (refine ⟨[_], rfl, Nat.le_of_ble_eq_true rfl, ?_⟩) | (refine ⟨[_, _, _], rfl, Nat.le_of_ble_eq_true rfl, ?_⟩) | (refine ⟨[_, _, _, _], rfl, Nat.le_of_ble_eq_true rfl, ?_⟩) | (refine ⟨[_, _, _, _, _, _], rfl, Nat.le_of_ble_eq_true rfl, ?_⟩) | (refine ⟨[_, _, _, _, _], rfl, Nat.le_of_ble_eq_true rfl, ?_⟩) | (refine ⟨[_, _, _, _, _, _, _], rfl, Nat.le_of_ble_eq_true rfl, ?_⟩) | (refine ⟨[_, _, _, _, _, _, _, _], rfl, Nat.le_of_ble_eq_true rfl, ?_⟩) | (refine ⟨[_, _, _, _, _, _, _, _, _], rfl, Nat.le_of_ble_eq_true rfl, ?_⟩) | (refine ⟨[_, _, _, _, _, _, _, _, _, _], rfl, Nat.le_of_ble_eq_true rfl, ?_⟩) | (refine ⟨[_, _, _, _, _, _, _, _, _, _, _], rfl, Nat.le_of_ble_eq_true rfl, ?_⟩) | (refine ⟨[_, _, _, _, _, _, _, _, _, _, _, _], rfl, Nat.le_of_ble_eq_true rfl, ?_⟩)
  | (with_reducible refine ⟨_, rfl, ?_⟩) | (with_reducible refine ⟨rfl, ?_⟩) | (refine ⟨_, rfl, ?_⟩) | (refine ⟨_, _, rfl, rfl, ?_⟩)))
local macro_rules | `(tactic| walk_at "eg w") => `(tactic| repeat ((first | walk_at "eg one w"); (try dsimp only)))

section
variable {P : Program} {w : World} {K : PySem.W.Frag} {mg : Str → Option Value} {base : Heap}
def P__law_refused (T : Tx K mg base) : PD := fun as φ K F XK => ∃ (door : Int) (x : PyData), as = [.d (.int door), .d x] ∧ 0 ≤ door ∧ door < 4 ∧ plain x = true ∧ Tame x 10 150000 ∧ (door < 2 → isPts x = false) ∧ (2 ≤ door → isRows x = false) ∧ K (.bool true) φ
theorem ok__law_refused (T : Tx K mg base) : FnG P w K mg base (L2.CX P w) 8 T.a__law_refused T.fd__law_refused ["door", "value"] (SpD (P__law_refused T)) := by
  have G__law_copy : FnG P w K mg base (L2.CX P w) 1 T.a__law_copy T.fd__law_copy ["value"] (SpD (P__law_copy)) := ok__law_copy T
  have G__law_asked : FnG P w K mg base (L2.CX P w) 7 T.a__law_asked T.fd__law_asked ["door", "value"] (SpD (P__law_asked T)) := ok__law_asked T
  refine fn_data T.F__law_refused sc__law_refused ?len (fun cdv A outer s H E hr hgd => ⟨_, (pss_cons (ps_set (i := 2) sc__law_refused.nd rfl (Or.inl rfl) (pe_callG G__law_copy (hr.mono (by decide)) hgd (by rfl) T.g__law_copy T.F__law_copy.kp T.b__law_copy noX (pa_cons (pv 1) pa_nil))) (pss_cons (ps_set (i := 3) sc__law_refused.nd rfl (Or.inl rfl) (pe_callG G__law_asked (hr.mono (by decide)) hgd (by rfl) T.g__law_asked T.F__law_asked.kp T.b__law_asked noX (pa_cons (pv 0) (pa_cons (pv 2) pa_nil)))) (pss_cons (ps_if (pt_val (pe_callB (r := rIsi K) call_isi (by rfl) T.m_isinstance (by decide +kernel) (pa_cons (pv 2) (pa_cons (pe_bltn (v := .ty "list") (u := .type "list") (by rfl) T.m_list (by decide +kernel) rfl) pa_nil)))) (pss_one (ps_expr (pe_bm PySem.F.plainAttrs_list PySem.F.slot_list_append PySem.F.type_list_append mt_append (pv 2) (pa_cons pe_str pa_nil)))) pss_nil) (pss_one (ps_ret (pe_and (pe_cmpR (r := rEqU K) (op_eqU hr.units) (pe_ix (r := rIx K) ix_seq (pv 3) pe_int (fun _ _ => rfl)) (pe_ix (r := rIx K) ix_seq (pe_lst (pa_cons pe_str (pa_cons pe_str pa_nil))) (pe_op op_fdiv (pv 0) pe_int) (fun _ _ => rfl)) (nomark _)) (pe_one (pe_cmpR (r := rEqU K) (op_eqU hr.units) (pe_callB (Eg.call_reprD T.sys hgd hr.units) (by rfl) T.m_repr (by decide +kernel) (pa_cons (pe_ix (r := rIx K) ix_seq (pv 3) pe_int (fun _ _ => rfl)) pa_nil)) (pe_callB (Eg.call_reprD T.sys hgd hr.units) (by rfl) T.m_repr (by decide +kernel) (pa_cons (pv 2) pa_nil)) (nomark _))))))))), fun as φ Kc F XK h => ?body⟩)
  case len => walk_at "eg len"
  case body =>
    obtain ⟨door, x, rfl, h0, h4, hp, ht, n1, n2, k⟩ := h
    refine ws_seq (ws_asgCall ?_)
    walk_at "eg w"
    refine ⟨fun ds hx => ?_, fun hx => ?_⟩
    · subst hx
      have hl := (plain_items hp rfl).2
      have tg : Tame (.list (ds ++ [.str "more"])) 50 300000 := (tame_grow ht (tame_str (x := "more") (m := 4) (by decide +kernel) (by decide +kernel))).mono (by decide) (by decide)
      refine ws_tellGrow (by decide) rfl (Nat.le_of_ble_eq_true rfl) (by omega) ?_
      walk_at "eg w"
      intro p
      refine ⟨door, .list ds, ptrD p, .inr ⟨p, rfl, rfl⟩, h0, hp, fun a e => absurd (e.symm.trans (n1 a)) (by decide), fun a e => ?_, fun a e => absurd (e.symm.trans (n2 a)) (by decide), fun a e => ?_⟩
      · refine ⟨_, rfl, ?_⟩
        walk_at "eg w"
        refine rd_fdiv (by decide) ?_
        rw [show door / 2 = 0 by omega]
        walk_at "eg w"
        refine rl_reprT tg ?_
        walk_at "eg w"
        refine rl_reprT tg ?_
        walk_at "eg w"
        rw [decide_eq_true rfl]
        exact k
    
      · refine ⟨_, rfl, ?_⟩
        walk_at "eg w"
        refine rd_fdiv (by decide) ?_
        rw [show door / 2 = 1 by omega]
        walk_at "eg w"
        refine rl_reprT tg ?_
        walk_at "eg w"
        refine rl_reprT tg ?_
        walk_at "eg w"
        rw [decide_eq_true rfl]
        exact k
    
    · have tg : Tame x 50 300000 := ht.mono (by decide) (by decide)
      refine ws_seq (ws_asgCall ?_)
      walk_at "eg w"
      refine ⟨door, x, x, .inl ⟨rfl, rfl⟩, h0, hp, fun a e => absurd (e.symm.trans (n1 a)) (by decide), fun a e => ?_, fun a e => absurd (e.symm.trans (n2 a)) (by decide), fun a e => ?_⟩
      · walk_at "eg w"
        refine pick_f hx ?_
        walk_at "eg w"
        refine rd_fdiv (by decide) ?_
        rw [show door / 2 = 0 by omega]
        walk_at "eg w"
        refine rl_reprT tg ?_
        walk_at "eg w"
        refine rl_reprT tg ?_
        walk_at "eg w"
        rw [decide_eq_true rfl]
        exact k
    
      · walk_at "eg w"
        refine pick_f hx ?_
        walk_at "eg w"
        refine rd_fdiv (by decide) ?_
        rw [show door / 2 = 1 by omega]
        walk_at "eg w"
        refine rl_reprT tg ?_
        walk_at "eg w"
        refine rl_reprT tg ?_
        walk_at "eg w"
        rw [decide_eq_true rfl]
        exact k
end
end K9

/-! K9w2 -/
set_option Elab.async false
set_option linter.all false
set_option maxRecDepth 100000
set_option maxHeartbeats 2000000

namespace K9
open PySem PySem.Spec PyProof.Rows L2 Eg
local macro_rules | `(tactic| walk_at "eg len") => `(tactic| (intro as φ K F XK h; first
  | (obtain ⟨e, r⟩ := h; subst e; rfl) | (obtain ⟨x, e, r⟩ := h; subst e; rfl) | (obtain ⟨x, y, e, r⟩ := h; subst e; rfl) | (obtain ⟨x, y, z, e, r⟩ := h; subst e; rfl) | (obtain ⟨x, y, z, u, e, r⟩ := h; subst e; rfl)
  | (obtain ⟨x, y, h | ⟨p, h⟩, r⟩ := h <;> (obtain ⟨e, _⟩ := h; subst e; rfl)) | (obtain ⟨x, y, z, h | ⟨p, h⟩, r⟩ := h <;> (obtain ⟨e, _⟩ := h; subst e; rfl))
  | (rcases h with h | h <;> first | (obtain ⟨x, e, r⟩ := h; subst e; rfl) | (obtain ⟨x, y, e, r⟩ := h; subst e; rfl) | (obtain ⟨x, y, z, e, r⟩ := h; subst e; rfl) | (obtain ⟨x, y, z, u, e, r⟩ := h; subst e; rfl))))
/-- one step ahead -/
local macro_rules | `(tactic| walk_at "eg one") => `(tactic| (first
  | ((with_reducible refine' ws_raise_given (wa_cons (wd_varP ?h ?_))); (case h => rfl))
  | (with_reducible refine ws_raise_given ?_)
  | (with_reducible refine wd_copy ?_)
  | ((with_reducible refine' ws_retOwn ?h ?_); (case h => rfl))
  | (with_reducible refine ws_asgLst ?_) | (with_reducible refine ws_retLst ?_) | (with_reducible refine ws_retList ?_) | (with_reducible refine ws_retIf ?_)
  | ((with_reducible refine' ws_parNil2 ?h ?_); (case h => decide))
  | ((with_reducible refine' ws_parNil1 ?h ?_); (case h => decide))
  | ((with_reducible refine' ws_par3Nil ?h1 ?h2 ?_); (case h1 => decide); (case h2 => decide))
  | ((with_reducible refine' ws_append ?h ?_); (case h => rfl))
  | ((with_reducible refine' wd_ixOwn ?h ?_); (case h => rfl))
  | ((with_reducible refine' wd_isNOwn ?h ?_); (case h => rfl))
  | ((with_reducible refine' wd_tupleOwn ?h ?_); (case h => rfl))
  | ((with_reducible refine' wd_box0 ?h ?_); (case h => rfl))
  | ((with_reducible refine' wd_box1 ?h ?_); (case h => rfl))
  | ((with_reducible refine' wd_box2 ?h ?_); (case h => rfl))
  | ((with_reducible refine' wd_box3 ?h ?_); (case h => rfl))
  | (with_reducible first
    | refine ws_seq ?_ | refine ws_if ?_ | refine ws_ret ?_ | refine ws_retN ?_ | refine ws_next ?_ | refine ws_asg ?_ | refine ws_drop ?_ | refine ws_par ?_
    | refine wd_int ?_ | refine wd_bl ?_ | refine wd_str ?_ | refine wd_non ?_
    | refine wd_isi isi_int ?_ | refine wd_isi isi_bool ?_ | refine wd_isi isi_str ?_ | refine wd_isi isi_list ?_ | refine wd_isi isi_tuple ?_ | refine wd_isi isi_dict ?_ | refine wd_isi2 isi_list isi_tuple ?_
    | refine wd_list ?_ | refine wd_tuple ?_
    | refine wd_callX ?_ | refine wd_call ?_ | refine wd_callK1X ?_ | refine wd_callK1 ?_ | refine wd_cb ?_ | refine wd_op ?_ | refine wd_un ?_ | refine wd_if ?_ | refine wd_andV ?_ | refine wd_orV ?_ | refine wd_notV ?_
    | refine wd_tup ?_ | refine wd_lst ?_ | refine wd_slice ?_ | refine wo_none ?_ | refine wo_some ?_
    | refine wt_B ?_ | refine wt_test ?_ | refine wt_and ?_ | refine wt_or ?_ | refine wt_not ?_ | refine wt_yes ?_
    | refine wa_nil ?_
    | refine rd_plus_int ?_ | refine rd_sub ?_ | refine rd_cmp ?_ | refine rd_eq_int ?_ | refine rd_ne_int ?_ | refine rd_eq_str ?_ | refine rd_ne_str ?_ | refine rd_isN ?_ | refine rd_notN ?_ | refine ru_neg ?_
    | refine rl_abs ?_ | refine rl_int ?_ | refine rl_intB ?_ | refine rl_max2 ?_ | refine rl_min2 ?_ | refine rl_sum ?_ | refine rl_all ?_)
  | ((with_reducible refine' wd_var ?h ?_); (case h => rfl))
  | ((with_reducible refine' wd_varB ?h ?_); (case h => rfl))
  | ((with_reducible refine' wa_box ?h ?_); (case h => rfl))
  | ((with_reducible refine' wa_both ?h ?_); (case h => rfl))
  | (with_reducible refine wa_cons ?_) | (with_reducible refine rl_both ?_)
  | ((with_reducible refine' wd_by_given ?h ?_); (case h => rfl))
  | (refine wd_callK1X ?_) | (refine wd_callK1 ?_)
  | (with_reducible refine wd_dnew ?_) | (with_reducible refine wd_disp1 ?_) | (with_reducible refine wd_rev ?_)
  | ((with_reducible refine' ws_setOwn ?h ?_); (case h => rfl))
  | ((with_reducible refine' ws_setBox0 ?h ?_); (case h => rfl))
  | ((with_reducible refine' ws_setBox3 ?h ?_); (case h => rfl))
  | ((with_reducible refine' rl_len ?h ?_); (case h => rfl))
  | ((with_reducible refine' rd_ix_list ?h ?_); (case h => rfl))
  | ((with_reducible refine' rd_ix_tup ?h ?_); (case h => rfl))
  | ((with_reducible refine' ptr_and ?h ?_); (case h => first | rfl | assumption | exact plain_ptr (by assumption)))
  | (with_reducible refine pick_t (decide_eq_true rfl) ?_)
  | ((with_reducible refine' pick_t ?h ?_); (case h => rfl))
  | ((with_reducible refine' pick_f ?h ?_); (case h => rfl))
  | (refine ⟨[], rfl, Nat.zero_le _, ?_⟩) | (refine ⟨[_, _], rfl, Nat.le_of_ble_eq_true rfl, ?_⟩) | (refine ⟨[_], rfl, Nat.le_of_ble_eq_true rfl, ?_⟩) | (refine ⟨[_, _, _], rfl, Nat.le_of_ble_eq_true rfl, ?_⟩) | (refine ⟨[_, _, _, _], rfl, Nat.le_of_ble_eq_true rfl, ?_⟩) | (refine ⟨[_, _, _, _, _, _], rfl, Nat.le_of_ble_eq_true rfl, ?_⟩) | (refine ⟨[_, _, _, _, _], rfl, Nat.le_of_ble_eq_true rfl, ?_⟩) | (refine ⟨[_, _, _, _, _, _, _], rfl, Nat.le_of_ble_eq_true rfl, ?_⟩) | (refine ⟨[_, _, _, _, _, _, _, _], rfl, Nat.le_of_ble_eq_true rfl, ?_⟩) | (refine ⟨[_, _, _, _, _, _, _, _, _], rfl, Nat.le_of_ble_eq_true rfl, ?_⟩) | (refine ⟨[_, _, _, _, _, _, _, _, _, _], rfl, Nat.le_of_ble_eq_true rfl, ?_⟩) | (refine ⟨[_, _, _, _, _, _, _, _, _, _, _], rfl, Nat.le_of_ble_eq_true rfl, ?_⟩) | (refine ⟨[_, _, _, _, _, _, _, _, _, _, _, _], rfl, Nat.le_of_ble_eq_true rfl, ?_⟩)
  | (with_reducible refine ⟨_, rfl, ?_⟩) | (with_reducible refine ⟨rfl, ?_⟩) | (refine ⟨_, rfl, ?_⟩) | (refine ⟨_, _, rfl, rfl, ?_⟩)))
local macro_rules | `(tactic| walk_at "eg") => `(tactic| repeat ((first | walk_at "eg one"); (try dsimp only)))
local macro_rules | `(tactic| walk_at "eg one v") => `(tactic| (first
  | ((with_reducible refine' ws_raise_given (wa_cons (wd_varP ?h ?_))); (case h => rfl))
  | (with_reducible refine ws_raise_given ?_)
  | (with_reducible refine wd_copy ?_)
  | ((with_reducible refine' ws_retOwn ?h ?_); (case h => rfl))
  | (with_reducible refine ws_asgLst ?_) | (with_reducible refine ws_retLst ?_) | (with_reducible refine ws_retList ?_) | (with_reducible refine ws_retIf ?_)
  | ((with_reducible refine' ws_parNil2 ?h ?_); (case h => decide))
  | ((with_reducible refine' ws_parNil1 ?h ?_); (case h => decide))
  | ((with_reducible refine' ws_par3Nil ?h1 ?h2 ?_); (case h1 => decide); (case h2 => decide))
  | ((with_reducible refine' ws_append ?h ?_); (case h => rfl))
  | ((with_reducible refine' wd_ixOwn ?h ?_); (case h => rfl))
  | ((with_reducible refine' wd_isNOwn ?h ?_); (case h => rfl))
  | ((with_reducible refine' wd_tupleOwn ?h ?_); (case h => rfl))
  | ((with_reducible refine' wd_box0 ?h ?_); (case h => rfl))
  | ((with_reducible refine' wd_box1 ?h ?_); (case h => rfl))
  | ((with_reducible refine' wd_box2 ?h ?_); (case h => rfl))
  | ((with_reducible refine' wd_box3 ?h ?_); (case h => rfl))
  | (with_reducible first
    | refine ws_seq ?_ | refine ws_if ?_ | refine ws_ret ?_ | refine ws_retN ?_ | refine ws_next ?_ | refine ws_asg ?_ | refine ws_drop ?_ | refine ws_par ?_
    | refine wd_int ?_ | refine wd_bl ?_ | refine wd_str ?_ | refine wd_non ?_
    | refine wd_isi isi_int ?_ | refine wd_isi isi_bool ?_ | refine wd_isi isi_str ?_ | refine wd_isi isi_list ?_ | refine wd_isi isi_tuple ?_ | refine wd_isi isi_dict ?_ | refine wd_isi2 isi_list isi_tuple ?_
    | refine wd_list ?_ | refine wd_tuple ?_
    | refine wd_callX ?_ | refine wd_call ?_ | refine wd_callK1X ?_ | refine wd_callK1 ?_ | refine wd_cb ?_ | refine wd_op ?_ | refine wd_un ?_ | refine wd_andV ?_ | refine wd_orV ?_ | refine wd_notV ?_
    | refine wd_tup ?_ | refine wd_lst ?_ | refine wd_slice ?_ | refine wo_none ?_ | refine wo_some ?_
    | refine wt_B ?_ | refine wt_test ?_ | refine wt_and ?_ | refine wt_or ?_ | refine wt_not ?_ | refine wt_yes ?_
    | refine wa_nil ?_
    | refine rd_plus_int ?_ | refine rd_sub ?_ | refine rd_cmp ?_ | refine rd_eq_int ?_ | refine rd_ne_int ?_ | refine rd_eq_str ?_ | refine rd_ne_str ?_ | refine rd_isN ?_ | refine rd_notN ?_ | refine ru_neg ?_
    | refine rl_abs ?_ | refine rl_int ?_ | refine rl_intB ?_ | refine rl_max2 ?_ | refine rl_min2 ?_ | refine rl_sum ?_ | refine rl_all ?_)
  | ((with_reducible refine' wd_var ?h ?_); (case h => rfl))
  | ((with_reducible refine' wd_varB ?h ?_); (case h => rfl))
  | ((with_reducible refine' wa_box ?h ?_); (case h => rfl))
  | ((with_reducible refine' wa_both ?h ?_); (case h => rfl))
  | (with_reducible refine wa_cons ?_) | (with_reducible refine rl_both ?_)
  | ((with_reducible refine' wd_by_given ?h ?_); (case h => rfl))
  | (refine wd_callK1X ?_) | (refine wd_callK1 ?_)
  | (with_reducible refine wd_dnew ?_) | (with_reducible refine wd_disp1 ?_) | (with_reducible refine wd_rev ?_)
  | ((with_reducible refine' ws_setOwn ?h ?_); (case h => rfl))
  | ((with_reducible refine' ws_setBox0 ?h ?_); (case h => rfl))
  | ((with_reducible refine' ws_setBox3 ?h ?_); (case h => rfl))
  | ((with_reducible refine' rl_len ?h ?_); (case h => rfl))
  | ((with_reducible refine' rd_ix_list ?h ?_); (case h => rfl))
  | ((with_reducible refine' rd_ix_tup ?h ?_); (case h => rfl))
  | ((with_reducible refine' ptr_and ?h ?_); (case h => first | rfl | assumption | exact plain_ptr (by assumption)))
  | (with_reducible refine pick_t (decide_eq_true rfl) ?_)
  | ((with_reducible refine' pick_t ?h ?_); (case h => rfl))
  | ((with_reducible refine' pick_f ?h ?_); (case h => rfl))
  | (refine ⟨[], rfl, Nat.zero_le _, ?_⟩) | (refine ⟨[_, _], rfl, Nat.le_of_ble_eq_true rfl, ?_⟩) | (refine ⟨[_], rfl, Nat.le_of_ble_eq_true rfl, ?_⟩) | (refine ⟨[_, _, _], rfl, Nat.le_of_ble_eq_true rfl, ?_⟩) | (refine ⟨[_, _, _, _], rfl, Nat.le_of_ble_eq_true rfl, ?_⟩) | (refine ⟨[_, _, _, _, _, _], rfl, Nat.le_of_ble_eq_true rfl, ?_⟩) | (refine ⟨[_, _, _, _, _], rfl, Nat.le_of_ble_eq_true rfl, ?_⟩) | (refine ⟨[_, _, _, _, _, _, _], rfl, Nat.le_of_ble_eq_true rfl, ?_⟩) | (refine ⟨[_, _, _, _, _, _, _, _], rfl, Nat.le_of_ble_eq_true rfl, ?_⟩) | (refine ⟨[_, _, _, _, _, _, _, _, _], rfl, Nat.le_of_ble_eq_true rfl, ?_⟩) | (refine ⟨[_, _, _, _, _, _, _, _, _, _], rfl, Nat.le_of_ble_eq_true rfl, ?_⟩) | (refine ⟨[_, _, _, _, _, _, _, _, _, _, _], rfl, Nat.le_of_ble_eq_true rfl, ?_⟩) | (refine ⟨[_, _, _, _, _, _, _, _, _, _, _, _], rfl, Nat.le_of_ble_eq_true rfl, ?_⟩)
  | (with_reducible refine ⟨_, rfl, ?_⟩) | (with_reducible refine ⟨rfl, ?_⟩) | (refine ⟨_, rfl, ?_⟩) | (refine ⟨_, _, rfl, rfl, ?_⟩)))
local macro_rules | `(tactic| walk_at "eg v") => `(tactic| repeat ((first | walk_at "eg one v"); (try dsimp only)))
local macro_rules | `(tactic| walk_at "eg one w") => `(tactic| (first
  | ((with_reducible refine' ws_raise_given (wa_cons (wd_varP ?h ?_))); (case h => rfl))
  | (with_reducible refine ws_raise_given ?_)
  | (with_reducible refine wd_copy ?_)
  | ((with_reducible refine' ws_retOwn ?h ?_); (case h => rfl))
  | (with_reducible refine ws_retLst ?_) | (with_reducible refine ws_retList ?_) | (with_reducible refine ws_retIf ?_)
  | ((with_reducible refine' ws_parNil2 ?h ?_); (case h => decide))
  | ((with_reducible refine' ws_parNil1 ?h ?_); (case h => decide))
  | ((with_reducible refine' ws_par3Nil ?h1 ?h2 ?_); (case h1 => decide); (case h2 => decide))
  | ((with_reducible refine' ws_append ?h ?_); (case h => rfl))
  | ((with_reducible refine' wd_ixOwn ?h ?_); (case h => rfl))
  | ((with_reducible refine' wd_isNOwn ?h ?_); (case h => rfl))
  | ((with_reducible refine' wd_tupleOwn ?h ?_); (case h => rfl))
  | ((with_reducible refine' wd_box0 ?h ?_); (case h => rfl))
  | ((with_reducible refine' wd_box1 ?h ?_); (case h => rfl))
  | ((with_reducible refine' wd_box2 ?h ?_); (case h => rfl))
  | ((with_reducible refine' wd_box3 ?h ?_); (case h => rfl))
  | (with_reducible first
    | refine ws_seq ?_ | refine ws_if ?_ | refine ws_ret ?_ | refine ws_retN ?_ | refine ws_next ?_ | refine ws_asg ?_ | refine ws_drop ?_ | refine ws_par ?_
    | refine wd_int ?_ | refine wd_bl ?_ | refine wd_str ?_ | refine wd_non ?_
    | refine wd_isi isi_int ?_ | refine wd_isi isi_bool ?_ | refine wd_isi isi_str ?_ | refine wd_isi isi_list ?_ | refine wd_isi isi_tuple ?_ | refine wd_isi isi_dict ?_ | refine wd_isi2 isi_list isi_tuple ?_
    | refine wd_list ?_ | refine wd_tuple ?_
    | refine wd_callX ?_ | refine wd_call ?_ | refine wd_callK1X ?_ | refine wd_callK1 ?_ | refine wd_cb ?_ | refine wd_op ?_ | refine wd_un ?_ | refine wd_andV ?_ | refine wd_orV ?_ | refine wd_notV ?_
    | refine wd_tup ?_ | refine wd_lst ?_ | refine wd_slice ?_ | refine wo_none ?_ | refine wo_some ?_
    | refine wt_B ?_ | refine wt_test ?_ | refine wt_and ?_ | refine wt_or ?_ | refine wt_not ?_ | refine wt_yes ?_
    | refine wa_nil ?_
    | refine rd_plus_int ?_ | refine rd_sub ?_ | refine rd_cmp ?_ | refine rd_eq_int ?_ | refine rd_ne_int ?_ | refine rd_eq_str ?_ | refine rd_ne_str ?_ | refine rd_isN ?_ | refine rd_notN ?_ | refine ru_neg ?_
    | refine rl_abs ?_ | refine rl_int ?_ | refine rl_intB ?_ | refine rl_max2 ?_ | refine rl_min2 ?_ | refine rl_sum ?_ | refine rl_all ?_)
  | ((with_reducible refine' wd_var ?h ?_); (case h => rfl))
  | ((with_reducible refine' wd_varB ?h ?_); (case h => rfl))
  | ((with_reducible refine' wa_box ?h ?_); (case h => rfl))
  | ((with_reducible refine' wa_both ?h ?_); (case h => rfl))
  | (with_reducible refine wa_cons ?_) | (with_reducible refine rl_both ?_)
  | ((with_reducible refine' wd_by_given ?h ?_); (case h => rfl))
  | (refine wd_callK1X ?_) | (refine wd_callK1 ?_)
  | (with_reducible refine wd_dnew ?_) | (with_reducible refine wd_disp1 ?_) | (with_reducible refine wd_rev ?_)
  | ((with_reducible refine' ws_setOwn ?h ?_); (case h => rfl))
  | ((with_reducible refine' ws_setBox0 ?h ?_); (case h => rfl))
  | ((with_reducible refine' ws_setBox3 ?h ?_); (case h => rfl))
  | ((with_reducible refine' rl_len ?h ?_); (case h => rfl))
  | ((with_reducible refine' rd_ix_list ?h ?_); (case h => rfl))
  | ((with_reducible refine' rd_ix_tup ?h ?_); (case h => rfl))
  | ((with_reducible refine' ptr_and ?h ?_); (case h => first | rfl | assumption | exact plain_ptr (by assumption)))
  | (with_reducible refine pick_t (decide_eq_true rfl) ?_)
  | ((with_reducible refine' pick_t ?h ?_); (case h => rfl))
  | ((with_reducible refine' pick_f ?h ?_); (case h => rfl))
  | (refine ⟨[], rfl, Nat.zero_le _, ?_⟩) | (refine ⟨[_, _], rfl, Nat.le_of_ble_eq_true rfl, ?_⟩) | (refine ⟨[_], rfl, Nat.le_of_ble_eq_true rfl, ?_⟩) | (refine ⟨[_, _, _], rfl, Nat.le_of_ble_eq_true rfl, ?_⟩) | (refine ⟨[_, _, _, _], rfl, Nat.le_of_ble_eq_true rfl, ?_⟩) | (refine ⟨[_, _, _, _, _, _], rfl, Nat.le_of_ble_eq_true rfl, ?_⟩) | (refine ⟨[_, _, _, _, _], rfl, Nat.le_of_ble_eq_true rfl, ?_⟩) | (refine ⟨[_, _, _, _, _, _, _], rfl, Nat.le_of_ble_eq_true rfl, ?_⟩) | (refine ⟨[_, _, _, _, _, _, _, _], rfl, Nat.le_of_ble_eq_true rfl, ?_⟩) | (refine ⟨[_, _, _, _, _, _, _, _, _], rfl, Nat.le_of_ble_eq_true rfl, ?_⟩) | (refine ⟨[_, _, _, _, _, _, _, _, _, _], rfl, Nat.le_of_ble_eq_true rfl, ?_⟩) | (refine ⟨[_, _, _, _, _, _, _, _, _, _, _], rfl, Nat.le_of_ble_eq_true rfl, ?_⟩) | (refine ⟨[_, _, _, _, _, _, _, _, _, _, _, _], rfl, Nat.le_of_ble_eq_true rfl, ?_⟩)
  | (with_reducible refine ⟨_, rfl, ?_⟩) | (with_reducible refine ⟨rfl, ?_⟩) | (refine ⟨_, rfl, ?_⟩) | (refine ⟨_, _, rfl, rfl, ?_⟩)))
local macro_rules | `(tactic| walk_at "eg w") => `(tactic| repeat ((first | walk_at "eg one w"); (try dsimp only)))

section
variable {P : Program} {w : World} {K : PySem.W.Frag} {mg : Str → Option Value} {base : Heap}
def P__law_row_right (T : Tx K mg base) : PD := fun as φ K F XK => ∃ (x : PyData) (rs : List (List (Int × Int))) (at_ : Int), as = [.d x, .d (.list (rs.map rowD)), .d (.int at_)] ∧ Vl x ∧ (∀ r, r ∈ rs → Good r ∧ r.length ≤ 8) ∧ rs.length ≤ 5 ∧ K (.bool true) φ
theorem ok__law_row_right (T : Tx K mg base) : FnG P w K mg base (L2.CX P w) 9 T.a__law_row_right T.fd__law_row_right ["value", "rows", "at"] (SpD (P__law_row_right T)) := by
  have G__law_is_row : FnG P w K mg base (L2.CX P w) 2 T.a__law_is_row T.fd__law_is_row ["value"] (SpD (P__law_is_row)) := ok__law_is_row T
  have G__law_refused : FnG P w K mg base (L2.CX P w) 8 T.a__law_refused T.fd__law_refused ["door", "value"] (SpD (P__law_refused T)) := ok__law_refused T
  have G_is_points : FnG P w K mg base (L2.CX P w) 4 T.a_is_points T.fd_is_points ["value"] (SpD (P_is_points)) := ok_is_points T
  have G__law_copy : FnG P w K mg base (L2.CX P w) 1 T.a__law_copy T.fd__law_copy ["value"] (SpD (P__law_copy)) := ok__law_copy T
  have G__law_fold : FnG P w K mg base (L2.CX P w) 1 T.a__law_fold T.fd__law_fold ["rows"] (SpD (P__law_fold)) := ok__law_fold T
  have G__law_asked : FnG P w K mg base (L2.CX P w) 7 T.a__law_asked T.fd__law_asked ["door", "value"] (SpD (P__law_asked T)) := ok__law_asked T
  refine fn_data T.F__law_row_right sc__law_row_right ?len (fun cdv A outer s H E hr hgd => ⟨_, (pss_cons (ps_if (pt_cmpR (r := rNeU K) (op_neU hr.units) (pe_callB (Eg.call_reprD T.sys hgd hr.units) (by rfl) T.m_repr (by decide +kernel) (pa_cons (pe_lst (pa_cons (pe_callG G_is_points (hr.mono (by decide)) hgd (by rfl) T.g_is_points T.F_is_points.kp T.b_is_points noX (pa_cons (pv 0) pa_nil)) (pa_cons (pe_callG G_is_points (hr.mono (by decide)) hgd (by rfl) T.g_is_points T.F_is_points.kp T.b_is_points noX (pa_cons (pe_callG G__law_copy (hr.mono (by decide)) hgd (by rfl) T.g__law_copy T.F__law_copy.kp T.b__law_copy noX (pa_cons (pv 0) pa_nil)) pa_nil)) pa_nil))) pa_nil)) (pe_callB (Eg.call_reprD T.sys hgd hr.units) (by rfl) T.m_repr (by decide +kernel) (pa_cons (pe_op (r := rTimes K) op_times (pe_lst (pa_cons (pe_callG G__law_is_row (hr.mono (by decide)) hgd (by rfl) T.g__law_is_row T.F__law_is_row.kp T.b__law_is_row noX (pa_cons (pv 0) pa_nil)) pa_nil)) pe_int) pa_nil)) (nomark _)) (pss_one (ps_ret pe_bl)) pss_nil) (pss_cons (ps_set (i := 3) sc__law_row_right.nd rfl (Or.inl rfl) (pe_op (r := rPlus K) op_plus (pe_op (r := rPlus K) op_plus (pe_lc (own := [("row", 6)]) (tt := tYes) rfl sc__law_row_right.nd (pi_seq (pe_slice (r := rSlU K) sl_any (pv 1) po_none (po_some (pv 2)))) (blkOk_by (own := [("row", 6)]) (N := ["value", "rows", "at", "among", "due", "wide", "row"]) (sc := defScope s__law_row_right) (by decide +kernel)) (fun _ _ _ _ _ => (pg_name (i := 6) sc__law_row_right.nd rfl (Or.inl rfl))) (fun _ _ _ _ _ => pts_nil) (fun _ _ _ _ _ => (pe_callTy (r := rListU K) call_list_of (by rfl) T.m_list (by decide +kernel) (pa_cons (pv 6) pa_nil)))) (pe_lst (pa_cons (pe_callG G__law_copy (hr.mono (by decide)) hgd (by rfl) T.g__law_copy T.F__law_copy.kp T.b__law_copy noX (pa_cons (pv 0) pa_nil)) pa_nil))) (pe_lc (own := [("row", 6)]) (tt := tYes) rfl sc__law_row_right.nd (pi_seq (pe_slice (r := rSlU K) sl_any (pv 1) (po_some (pv 2)) po_none)) (blkOk_by (own := [("row", 6)]) (N := ["value", "rows", "at", "among", "due", "wide", "row"]) (sc := defScope s__law_row_right) (by decide +kernel)) (fun _ _ _ _ _ => (pg_name (i := 6) sc__law_row_right.nd rfl (Or.inl rfl))) (fun _ _ _ _ _ => pts_nil) (fun _ _ _ _ _ => (pe_callTy (r := rTupleU K) call_tuple_of (by rfl) T.m_tuple (by decide +kernel) (pa_cons (pv 6) pa_nil)))))) (pss_cons (ps_if (pt_val (pe_callG G__law_is_row (hr.mono (by decide)) hgd (by rfl) T.g__law_is_row T.F__law_is_row.kp T.b__law_is_row noX (pa_cons (pv 0) pa_nil))) (pss_cons (ps_set (i := 4) sc__law_row_right.nd rfl (Or.inl rfl) (pe_callB (Eg.call_reprD T.sys hgd hr.units) (by rfl) T.m_repr (by decide +kernel) (pa_cons (pe_lst (pa_cons pe_str (pa_cons (pe_callG G__law_fold (hr.mono (by decide)) hgd (by rfl) T.g__law_fold T.F__law_fold.kp T.b__law_fold noX (pa_cons (pe_lst (pa_cons (pv 0) pa_nil)) pa_nil)) pa_nil))) pa_nil))) (pss_cons (ps_set (i := 5) sc__law_row_right.nd rfl (Or.inl rfl) (pe_callB (Eg.call_reprD T.sys hgd hr.units) (by rfl) T.m_repr (by decide +kernel) (pa_cons (pe_lst (pa_cons pe_str (pa_cons (pe_callG G__law_fold (hr.mono (by decide)) hgd (by rfl) T.g__law_fold T.F__law_fold.kp T.b__law_fold noX (pa_cons (pe_op (r := rPlus K) op_plus (pe_op (r := rPlus K) op_plus (pe_slice (r := rSlU K) sl_any (pv 1) po_none (po_some (pv 2))) (pe_lst (pa_cons (pv 0) pa_nil))) (pe_slice (r := rSlU K) sl_any (pv 1) (po_some (pv 2)) po_none)) pa_nil)) pa_nil))) pa_nil))) (pss_cons (ps_if (PW.pt (pw_or (pt_cmpR (r := rNeU K) (op_neU hr.units) (pe_callB (Eg.call_reprD T.sys hgd hr.units) (by rfl) T.m_repr (by decide +kernel) (pa_cons (pe_callG G__law_asked (hr.mono (by decide)) hgd (by rfl) T.g__law_asked T.F__law_asked.kp T.b__law_asked noX (pa_cons pe_int (pa_cons (pv 0) pa_nil))) pa_nil)) (pv 4) (nomark _)) (pw_or1 (pt_cmpR (r := rNeU K) (op_neU hr.units) (pe_callB (Eg.call_reprD T.sys hgd hr.units) (by rfl) T.m_repr (by decide +kernel) (pa_cons (pe_callG G__law_asked (hr.mono (by decide)) hgd (by rfl) T.g__law_asked T.F__law_asked.kp T.b__law_asked noX (pa_cons pe_int (pa_cons (pe_callTy (r := rTupleU K) call_tuple_of (by rfl) T.m_tuple (by decide +kernel) (pa_cons (pv 0) pa_nil)) pa_nil))) pa_nil)) (pv 4) (nomark _))))) (pss_one (ps_ret pe_bl)) pss_nil) (pss_one (ps_ret (pe_and (pe_cmpR (r := rEqU K) (op_eqU hr.units) (pe_callB (Eg.call_reprD T.sys hgd hr.units) (by rfl) T.m_repr (by decide +kernel) (pa_cons (pe_callG G__law_asked (hr.mono (by decide)) hgd (by rfl) T.g__law_asked T.F__law_asked.kp T.b__law_asked noX (pa_cons pe_int (pa_cons (pe_callTy (r := rTupleU K) call_tuple_of (by rfl) T.m_tuple (by decide +kernel) (pa_cons (pv 3) pa_nil)) pa_nil))) pa_nil)) (pv 5) (nomark _)) (pe_one (pe_cmpR (r := rEqU K) (op_eqU hr.units) (pe_callB (Eg.call_reprD T.sys hgd hr.units) (by rfl) T.m_repr (by decide +kernel) (pa_cons (pe_callG G__law_asked (hr.mono (by decide)) hgd (by rfl) T.g__law_asked T.F__law_asked.kp T.b__law_asked noX (pa_cons pe_int (pa_cons (pv 3) pa_nil))) pa_nil)) (pv 5) (nomark _))))))))) pss_nil) (pss_one (ps_ret (pe_and (pe_callG G__law_refused (hr.mono (by decide)) hgd (by rfl) T.g__law_refused T.F__law_refused.kp T.b__law_refused noX (pa_cons pe_int (pa_cons (pv 0) pa_nil))) (pe_and (pe_callG G__law_refused (hr.mono (by decide)) hgd (by rfl) T.g__law_refused T.F__law_refused.kp T.b__law_refused noX (pa_cons pe_int (pa_cons (pv 0) pa_nil))) (pe_and (pe_callG G__law_refused (hr.mono (by decide)) hgd (by rfl) T.g__law_refused T.F__law_refused.kp T.b__law_refused noX (pa_cons pe_int (pa_cons (pv 3) pa_nil))) (pe_one (pe_callG G__law_refused (hr.mono (by decide)) hgd (by rfl) T.g__law_refused T.F__law_refused.kp T.b__law_refused noX (pa_cons pe_int (pa_cons (pv 3) pa_nil)))))))))))), fun as φ Kc F XK h => ?body⟩)
  case len => walk_at "eg len"
  case body =>
    obtain ⟨x, rs, at_, rfl, hx, hr, h5, k⟩ := h
    have hp := hx.1
    have rmem : ∀ lo hi y, y ∈ Eg.cutD (rs.map rowD) lo hi → ∃ ps, y = rowD ps ∧ Good ps ∧ ps.length ≤ 8 := fun lo hi y hy => by
      obtain ⟨ps, hps, rfl⟩ := List.mem_map.mp (cutD_mem hy)
      exact ⟨ps, rfl, (hr ps hps).1, (hr ps hps).2⟩
    have rlen : ∀ lo hi, (Eg.cutD (rs.map rowD) lo hi).length ≤ 5 := fun lo hi => Nat.le_trans (cutD_len _ _ _) (by rw [List.length_map]; exact h5)
    walk_at "eg w"
    refine ⟨hp, ?_⟩
    walk_at "eg w"
    refine ⟨hp, ?_⟩
    walk_at "eg w"
    refine rl_reprT tame_two ?_
    walk_at "eg w"
    refine ⟨hp, ?_⟩
    walk_at "eg w"
    refine rd_rep (xs := [.bool (isPts x)]) (n := 2) (by exact Nat.le_of_ble_eq_true rfl) (by decide) ?_
    rw [show (List.replicate 2 [PyData.bool (isPts x)]).flatten = [.bool (isPts x), .bool (isPts x)] from rfl]
    walk_at "eg w"
    refine rl_reprT tame_two ?_
    walk_at "eg w"
    refine pick_f (not_dec rfl) ?_
    walk_at "eg w"
    refine wd_of_wf (wf_map (f := fun r => r) rfl ?_)
    walk_at "eg w"
    refine ⟨by have := rlen none (some at_); omega, fun r hr => ?_, ?_⟩
    · obtain ⟨ps, rfl, _⟩ := rmem _ _ _ hr
      walk_at "eg w"
      first | done | exact ⟨rfl, rfl⟩ | rfl
    rw [List.map_id']
    walk_at "eg w"
    refine rd_plus_list (by have := rlen none (some at_); rw [List.length_singleton]; omega) ?_
    walk_at "eg w"
    refine wd_of_wf (wf_map (f := tupD) rfl ?_)
    walk_at "eg w"
    refine ⟨by have := rlen (some at_) none; omega, fun r hr => ?_, ?_⟩
    · obtain ⟨ps, rfl, _⟩ := rmem _ _ _ hr
      walk_at "eg w"
      first | done | exact ⟨rfl, rfl⟩ | rfl
    refine rd_plus_list (by have := rlen none (some at_); have := rlen (some at_) none; rw [List.length_append, List.length_singleton, List.length_map]; omega) ?_
    walk_at "eg w"
    refine ⟨hp, ?_⟩
    walk_at "eg w"
    have wt : Tame (.str "told") 0 20 := tame_w (by decide +kernel) (by decide +kernel)
    have vrow : ∀ lo hi y, y ∈ Eg.cutD (rs.map rowD) lo hi → Vl y ∧ isPts y = true := fun lo hi y hy => by
      obtain ⟨ps, rfl, h1, h2⟩ := rmem lo hi y hy
      exact ⟨vl_row h1 h2, good_pts h1⟩
    have vtup : ∀ lo hi y, y ∈ (Eg.cutD (rs.map rowD) lo hi).map tupD → Vl y ∧ isPts y = true := fun lo hi y hy => by
      obtain ⟨z, hz, rfl⟩ := List.mem_map.mp hy
      obtain ⟨ps, rfl, h1, h2⟩ := rmem lo hi z hz
      exact ⟨vl_tup (fun q hq => by
        obtain ⟨p, hp, rfl⟩ := List.mem_map.mp hq
        exact pt_el (good_bd h1 hp).1 (good_bd h1 hp).2) (by show (ps.map ptD).length ≤ 20; rw [List.length_map]; omega), tupD_pts (good_pts h1)⟩
    have va : ∀ y, y ∈ Eg.cutD (rs.map rowD) none (some at_) ++ [x] ++ (Eg.cutD (rs.map rowD) (some at_) none).map tupD → Vl y := fun y hy => by
      rcases List.mem_append.mp hy with hy | hy
      · rcases List.mem_append.mp hy with hy | hy
        · exact (vrow _ _ y hy).1
        · rw [List.mem_singleton.mp hy]; exact hx
      · exact (vtup _ _ y hy).1
    have la : (Eg.cutD (rs.map rowD) none (some at_) ++ [x] ++ (Eg.cutD (rs.map rowD) (some at_) none).map tupD).length ≤ 11 := by
      have := rlen none (some at_); have := rlen (some at_) none
      rw [List.length_append, List.length_append, List.length_singleton, List.length_map]; omega
    have pam : Eg.plain (.list (Eg.cutD (rs.map rowD) none (some at_) ++ [x] ++ (Eg.cutD (rs.map rowD) (some at_) none).map tupD)) = true := plain_list_of (fun y hy => (va y hy).1) (by omega)
    refine ⟨fun hpx => ?_, fun hpx => ?_⟩
    · have vw : ∀ y, y ∈ Eg.cutD (rs.map rowD) none (some at_) ++ [x] ++ Eg.cutD (rs.map rowD) (some at_) none → Vl y ∧ isPts y = true := fun y hy => by
        rcases List.mem_append.mp hy with hy | hy
        · rcases List.mem_append.mp hy with hy | hy
          · exact vrow _ _ y hy
          · rw [List.mem_singleton.mp hy]; exact ⟨hx, hpx⟩
        · exact vrow _ _ y hy
      have pa : ∀ y, y ∈ Eg.cutD (rs.map rowD) none (some at_) ++ [x] ++ (Eg.cutD (rs.map rowD) (some at_) none).map tupD → isPts y = true := fun y hy => by
        rcases List.mem_append.mp hy with hy | hy
        · rcases List.mem_append.mp hy with hy | hy
          · exact (vrow _ _ y hy).2
          · rw [List.mem_singleton.mp hy]; exact hpx
        · exact (vtup _ _ y hy).2
      have lw : (Eg.cutD (rs.map rowD) none (some at_) ++ [x] ++ Eg.cutD (rs.map rowD) (some at_) none).length ≤ 11 := by
        have := rlen none (some at_); have := rlen (some at_) none
        rw [List.length_append, List.length_append, List.length_singleton]; omega
      have sx : ∀ r, r ∈ [x] → Vl r ∧ isPts r = true := fun r hr => by rw [List.mem_singleton.mp hr]; exact ⟨hx, hpx⟩
      have fb1 : Fbo (rowF (itemsL x)) 400 := fbo_rows sx
      have t1 : Tame (.list [.str "told", fdD (rowF (itemsL x))]) 50 300000 := tame_told fb1 (by decide) wt
      have tw : Tame (.list [.str "told", fdD (rowsF (Eg.cutD (rs.map rowD) none (some at_) ++ [x] ++ Eg.cutD (rs.map rowD) (some at_) none))]) 50 300000 := tame_told (fbo_rows vw) (by omega) wt
      have e1 : walkAll [x] = rowF (itemsL x) := walk_rows fun r hr => (sx r hr).2
      have ew : walkAll (Eg.cutD (rs.map rowD) none (some at_) ++ [x] ++ Eg.cutD (rs.map rowD) (some at_) none) = rowsF (Eg.cutD (rs.map rowD) none (some at_) ++ [x] ++ Eg.cutD (rs.map rowD) (some at_) none) := walk_rows fun r hr => (vw r hr).2
      have ea : rowsF (Eg.cutD (rs.map rowD) none (some at_) ++ [x] ++ (Eg.cutD (rs.map rowD) (some at_) none).map tupD) = rowsF (Eg.cutD (rs.map rowD) none (some at_) ++ [x] ++ Eg.cutD (rs.map rowD) (some at_) none) := rowsF_mid (by rw [List.map_map]; rfl)
      have ra : isRows (.list (Eg.cutD (rs.map rowD) none (some at_) ++ [x] ++ (Eg.cutD (rs.map rowD) (some at_) none).map tupD)) = true := List.all_eq_true.mpr pa
      have rt : isRows (.tuple (Eg.cutD (rs.map rowD) none (some at_) ++ [x] ++ (Eg.cutD (rs.map rowD) (some at_) none).map tupD)) = true := ra
      have pt : Eg.plain (.tuple (Eg.cutD (rs.map rowD) none (some at_) ++ [x] ++ (Eg.cutD (rs.map rowD) (some at_) none).map tupD)) = true := pam
      have px : Eg.plain (.tuple (itemsL x)) = true := by
        have := hx.1
        cases x <;> first | exact this | cases hpx
      have qx : isPts (.tuple (itemsL x)) = true := tupD_pts hpx
      walk_at "eg w"
      refine ⟨fun r hr => (sx r hr).2, ?_⟩
      rw [e1]
      walk_at "eg w"
      refine rl_reprT t1 ?_
      walk_at "eg w"
      refine rd_plus_list (by have := rlen none (some at_); rw [List.length_singleton]; omega) ?_
      walk_at "eg w"
      refine rd_plus_list (by have := rlen none (some at_); have := rlen (some at_) none; rw [List.length_append, List.length_singleton]; omega) ?_
      walk_at "eg w"
      refine ⟨fun r hr => (vw r hr).2, ?_⟩
      rw [ew]
      walk_at "eg w"
      refine rl_reprT tw ?_
      walk_at "eg w"
      refine ⟨1, x, x, .inl ⟨rfl, rfl⟩, by decide, hp, fun _ _ => ?_, fun _ e => absurd (e.symm.trans hpx) (by decide), fun a => absurd a (by decide), fun a => absurd a (by decide)⟩
      walk_at "eg w"
      refine rl_reprT t1 ?_
      walk_at "eg w"
    
      refine pick_f (not_dec rfl) ?_
      walk_at "eg w"
      refine ⟨_, itemsOf_pts hpx, ?_⟩
      walk_at "eg w"
      refine ⟨0, .tuple (itemsL x), .tuple (itemsL x), .inl ⟨rfl, rfl⟩, by decide, px, fun _ _ => ?_, fun _ e => absurd (e.symm.trans qx) (by decide), fun a => absurd a (by decide), fun a => absurd a (by decide)⟩
      walk_at "eg w"
      refine rl_reprT t1 ?_
      walk_at "eg w"
    
      refine pick_f (not_dec rfl) ?_
      walk_at "eg w"
      refine ⟨2, .tuple (Eg.cutD (rs.map rowD) none (some at_) ++ [x] ++ (Eg.cutD (rs.map rowD) (some at_) none).map tupD), .tuple (Eg.cutD (rs.map rowD) none (some at_) ++ [x] ++ (Eg.cutD (rs.map rowD) (some at_) none).map tupD), .inl ⟨rfl, rfl⟩, by decide, pt, fun a => absurd a (by decide), fun a => absurd a (by decide), fun _ _ => ?_, fun _ e => absurd (e.symm.trans rt) (by decide)⟩
      walk_at "eg w"
      rw [show rowsF (itemsL (.tuple (Eg.cutD (rs.map rowD) none (some at_) ++ [x] ++ (Eg.cutD (rs.map rowD) (some at_) none).map tupD))) = rowsF (Eg.cutD (rs.map rowD) none (some at_) ++ [x] ++ Eg.cutD (rs.map rowD) (some at_) none) from ea]
      refine rl_reprT tw ?_
      walk_at "eg w"
    
      walk_at "eg w"
      refine ⟨3, .list (Eg.cutD (rs.map rowD) none (some at_) ++ [x] ++ (Eg.cutD (rs.map rowD) (some at_) none).map tupD), .list (Eg.cutD (rs.map rowD) none (some at_) ++ [x] ++ (Eg.cutD (rs.map rowD) (some at_) none).map tupD), .inl ⟨rfl, rfl⟩, by decide, pam, fun a => absurd a (by decide), fun a => absurd a (by decide), fun _ _ => ?_, fun _ e => absurd (e.symm.trans ra) (by decide)⟩
      walk_at "eg w"
      rw [show rowsF (itemsL (.list (Eg.cutD (rs.map rowD) none (some at_) ++ [x] ++ (Eg.cutD (rs.map rowD) (some at_) none).map tupD))) = rowsF (Eg.cutD (rs.map rowD) none (some at_) ++ [x] ++ Eg.cutD (rs.map rowD) (some at_) none) from ea]
      refine rl_reprT tw ?_
      walk_at "eg w"
    
      rw [decide_eq_true rfl]
      exact k
    · have tx : Tame x 10 150000 := hx.2.1.mono (by decide) (by decide)
      have ta : Tame (.list (Eg.cutD (rs.map rowD) none (some at_) ++ [x] ++ (Eg.cutD (rs.map rowD) (some at_) none).map tupD)) 10 150000 := (tame_list (fun y hy => (va y hy).2.1) la).mono (by decide) (by decide)
      have nr : isRows (.list (Eg.cutD (rs.map rowD) none (some at_) ++ [x] ++ (Eg.cutD (rs.map rowD) (some at_) none).map tupD)) = false := by
        cases e : isRows (.list (Eg.cutD (rs.map rowD) none (some at_) ++ [x] ++ (Eg.cutD (rs.map rowD) (some at_) none).map tupD)) with
        | false => rfl
        | true =>
          have := List.all_eq_true.mp (show (Eg.cutD (rs.map rowD) none (some at_) ++ [x] ++ (Eg.cutD (rs.map rowD) (some at_) none).map tupD).all isPts = true from e) x (by simp)
          rw [hpx] at this
          cases this
      walk_at "eg w"
      refine ⟨0, x, rfl, by decide, by decide, hp, tx, fun _ => hpx, fun a => absurd a (by decide), ?_⟩
      walk_at "eg w"
      refine ⟨1, x, rfl, by decide, by decide, hp, tx, fun _ => hpx, fun a => absurd a (by decide), ?_⟩
      walk_at "eg w"
      refine ⟨2, _, rfl, by decide, by decide, pam, ta, fun a => absurd a (by decide), fun _ => nr, ?_⟩
      walk_at "eg w"
      refine ⟨3, _, rfl, by decide, by decide, pam, ta, fun a => absurd a (by decide), fun _ => nr, ?_⟩
      walk_at "eg w"
      exact k
end
end K9

/-! K9w3 -/
set_option Elab.async false
set_option linter.all false
set_option maxRecDepth 100000
set_option maxHeartbeats 2000000

namespace K9
open PySem PySem.Spec PyProof.Rows L2 Eg
local macro_rules | `(tactic| walk_at "eg len") => `(tactic| (intro as φ K F XK h; first
  | (obtain ⟨e, r⟩ := h; subst e; rfl) | (obtain ⟨x, e, r⟩ := h; subst e; rfl) | (obtain ⟨x, y, e, r⟩ := h; subst e; rfl) | (obtain ⟨x, y, z, e, r⟩ := h; subst e; rfl) | (obtain ⟨x, y, z, u, e, r⟩ := h; subst e; rfl)
  | (obtain ⟨x, y, h | ⟨p, h⟩, r⟩ := h <;> (obtain ⟨e, _⟩ := h; subst e; rfl)) | (obtain ⟨x, y, z, h | ⟨p, h⟩, r⟩ := h <;> (obtain ⟨e, _⟩ := h; subst e; rfl))
  | (rcases h with h | h <;> first | (obtain ⟨x, e, r⟩ := h; subst e; rfl) | (obtain ⟨x, y, e, r⟩ := h; subst e; rfl) | (obtain ⟨x, y, z, e, r⟩ := h; subst e; rfl) | (obtain ⟨x, y, z, u, e, r⟩ := h; subst e; rfl))))
/-- one step ahead -/
local macro_rules | `(tactic| walk_at "eg one") => `(tactic| (first
  | ((with_reducible refine' ws_raise_given (wa_cons (wd_varP ?h ?_))); (case h => rfl))
  | (with_reducible refine ws_raise_given ?_)
  | (with_reducible refine wd_copy ?_)
  | ((with_reducible refine' ws_retOwn ?h ?_); (case h => rfl))
  | (with_reducible refine ws_asgLst ?_) | (with_reducible refine ws_retLst ?_) | (with_reducible refine ws_retList ?_) | (with_reducible refine ws_retIf ?_)
  | ((with_reducible refine' ws_parNil2 ?h ?_); (case h => decide))
  | ((with_reducible refine' ws_parNil1 ?h ?_); (case h => decide))
  | ((with_reducible refine' ws_par3Nil ?h1 ?h2 ?_); (case h1 => decide); (case h2 => decide))
  | ((with_reducible refine' ws_append ?h ?_); (case h => rfl))
  | ((with_reducible refine' wd_ixOwn ?h ?_); (case h => rfl))
  | ((with_reducible refine' wd_isNOwn ?h ?_); (case h => rfl))
  | ((with_reducible refine' wd_tupleOwn ?h ?_); (case h => rfl))
  | ((with_reducible refine' wd_box0 ?h ?_); (case h => rfl))
  | ((with_reducible refine' wd_box1 ?h ?_); (case h => rfl))
  | ((with_reducible refine' wd_box2 ?h ?_); (case h => rfl))
  | ((with_reducible refine' wd_box3 ?h ?_); (case h => rfl))
  | (with_reducible first
    | refine ws_seq ?_ | refine ws_if ?_ | refine ws_ret ?_ | refine ws_retN ?_ | refine ws_next ?_ | refine ws_asg ?_ | refine ws_drop ?_ | refine ws_par ?_
    | refine wd_int ?_ | refine wd_bl ?_ | refine wd_str ?_ | refine wd_non ?_
    | refine wd_isi isi_int ?_ | refine wd_isi isi_bool ?_ | refine wd_isi isi_str ?_ | refine wd_isi isi_list ?_ | refine wd_isi isi_tuple ?_ | refine wd_isi isi_dict ?_ | refine wd_isi2 isi_list isi_tuple ?_
    | refine wd_list ?_ | refine wd_tuple ?_
    | refine wd_callX ?_ | refine wd_call ?_ | refine wd_callK1X ?_ | refine wd_callK1 ?_ | refine wd_cb ?_ | refine wd_op ?_ | refine wd_un ?_ | refine wd_if ?_ | refine wd_andV ?_ | refine wd_orV ?_ | refine wd_notV ?_
    | refine wd_tup ?_ | refine wd_lst ?_ | refine wd_slice ?_ | refine wo_none ?_ | refine wo_some ?_
    | refine wt_B ?_ | refine wt_test ?_ | refine wt_and ?_ | refine wt_or ?_ | refine wt_not ?_ | refine wt_yes ?_
    | refine wa_nil ?_
    | refine rd_plus_int ?_ | refine rd_sub ?_ | refine rd_cmp ?_ | refine rd_eq_int ?_ | refine rd_ne_int ?_ | refine rd_eq_str ?_ | refine rd_ne_str ?_ | refine rd_isN ?_ | refine rd_notN ?_ | refine ru_neg ?_
    | refine rl_abs ?_ | refine rl_int ?_ | refine rl_intB ?_ | refine rl_max2 ?_ | refine rl_min2 ?_ | refine rl_sum ?_ | refine rl_all ?_)
  | ((with_reducible refine' wd_var ?h ?_); (case h => rfl))
  | ((with_reducible refine' wd_varB ?h ?_); (case h => rfl))
  | ((with_reducible refine' wa_box ?h ?_); (case h => rfl))
  | ((with_reducible refine' wa_both ?h ?_); (case h => rfl))
  | (with_reducible refine wa_cons ?_) | (with_reducible refine rl_both ?_)
  | ((with_reducible refine' wd_by_given ?h ?_); (case h => rfl))
  | (refine wd_callK1X ?_) | (refine wd_callK1 ?_)
  | (with_reducible refine wd_dnew ?_) | (with_reducible refine wd_disp1 ?_) | (with_reducible refine wd_rev ?_)
  | ((with_reducible refine' ws_setOwn ?h ?_); (case h => rfl))
  | ((with_reducible refine' ws_setBox0 ?h ?_); (case h => rfl))
  | ((with_reducible refine' ws_setBox3 ?h ?_); (case h => rfl))
  | ((with_reducible refine' rl_len ?h ?_); (case h => rfl))
  | ((with_reducible refine' rd_ix_list ?h ?_); (case h => rfl))
  | ((with_reducible refine' rd_ix_tup ?h ?_); (case h => rfl))
  | ((with_reducible refine' ptr_and ?h ?_); (case h => first | rfl | assumption | exact plain_ptr (by assumption)))
  | (with_reducible refine pick_t (decide_eq_true rfl) ?_)
  | ((with_reducible refine' pick_t ?h ?_); (case h => rfl))
  | ((with_reducible refine' pick_f ?h ?_); (case h => rfl))
  | (refine ⟨[], rfl, Nat.zero_le _, ?_⟩) | (refine ⟨[_, _], rfl, Nat.le_of_ble_eq_true rfl, ?_⟩) | (refine ⟨[_], rfl, Nat.le_of_ble_eq_true rfl, ?_⟩) | (refine ⟨[_, _, _], rfl, Nat.le_of_ble_eq_true rfl, ?_⟩) | (refine ⟨[_, _, _, _], rfl, Nat.le_of_ble_eq_true rfl, ?_⟩) | (refine ⟨[_, _, _, _, _, _], rfl, Nat.le_of_ble_eq_true rfl, ?_⟩) | (refine ⟨[_, _, _, _, _], rfl, Nat.le_of_ble_eq_true rfl, ?_⟩) | (refine ⟨[_, _, _, _, _, _, _], rfl, Nat.le_of_ble_eq_true rfl, ?_⟩) | (refine ⟨[_, _, _, _, _, _, _, _], rfl, Nat.le_of_ble_eq_true rfl, ?_⟩) | (refine ⟨[_, _, _, _, _, _, _, _, _], rfl, Nat.le_of_ble_eq_true rfl, ?_⟩) | (refine ⟨[_, _, _, _, _, _, _, _, _, _], rfl, Nat.le_of_ble_eq_true rfl, ?_⟩) | (refine ⟨[_, _, _, _, _, _, _, _, _, _, _], rfl, Nat.le_of_ble_eq_true rfl, ?_⟩) | (refine ⟨[_, _, _, _, _, _, _, _, _, _, _, _], rfl, Nat.le_of_ble_eq_true rfl, ?_⟩)
  | (with_reducible refine ⟨_, rfl, ?_⟩) | (with_reducible refine ⟨rfl, ?_⟩) | (refine ⟨_, rfl, ?_⟩) | (refine ⟨_, _, rfl, rfl, ?_⟩)))
local macro_rules | `(tactic| walk_at "eg") => `(tactic| repeat ((first | walk_at "eg one"); (try dsimp only)))
local macro_rules | `(tactic| walk_at "eg one v") => `(tactic| (first
  | ((with_reducible refine' ws_raise_given (wa_cons (wd_varP ?h ?_))); (case h => rfl))
  | (with_reducible refine ws_raise_given ?_)
  | (with_reducible refine wd_copy ?_)
  | ((with_reducible refine' ws_retOwn ?h ?_); (case h => rfl))
  | (with_reducible refine ws_asgLst ?_) | (with_reducible refine ws_retLst ?_) | (with_reducible refine ws_retList ?_) | (with_reducible refine ws_retIf ?_)
  | ((with_reducible refine' ws_parNil2 ?h ?_); (case h => decide))
  | ((with_reducible refine' ws_parNil1 ?h ?_); (case h => decide))
  | ((with_reducible refine' ws_par3Nil ?h1 ?h2 ?_); (case h1 => decide); (case h2 => decide))
  | ((with_reducible refine' ws_append ?h ?_); (case h => rfl))
  | ((with_reducible refine' wd_ixOwn ?h ?_); (case h => rfl))
  | ((with_reducible refine' wd_isNOwn ?h ?_); (case h => rfl))
  | ((with_reducible refine' wd_tupleOwn ?h ?_); (case h => rfl))
  | ((with_reducible refine' wd_box0 ?h ?_); (case h => rfl))
  | ((with_reducible refine' wd_box1 ?h ?_); (case h => rfl))
  | ((with_reducible refine' wd_box2 ?h ?_); (case h => rfl))
  | ((with_reducible refine' wd_box3 ?h ?_); (case h => rfl))
  | (with_reducible first
    | refine ws_seq ?_ | refine ws_if ?_ | refine ws_ret ?_ | refine ws_retN ?_ | refine ws_next ?_ | refine ws_asg ?_ | refine ws_drop ?_ | refine ws_par ?_
    | refine wd_int ?_ | refine wd_bl ?_ | refine wd_str ?_ | refine wd_non ?_
    | refine wd_isi isi_int ?_ | refine wd_isi isi_bool ?_ | refine wd_isi isi_str ?_ | refine wd_isi isi_list ?_ | refine wd_isi isi_tuple ?_ | refine wd_isi isi_dict ?_ | refine wd_isi2 isi_list isi_tuple ?_
    | refine wd_list ?_ | refine wd_tuple ?_
    | refine wd_callX ?_ | refine wd_call ?_ | refine wd_callK1X ?_ | refine wd_callK1 ?_ | refine wd_cb ?_ | refine wd_op ?_ | refine wd_un ?_ | refine wd_andV ?_ | refine wd_orV ?_ | refine wd_notV ?_
    | refine wd_tup ?_ | refine wd_lst ?_ | refine wd_slice ?_ | refine wo_none ?_ | refine wo_some ?_
    | refine wt_B ?_ | refine wt_test ?_ | refine wt_and ?_ | refine wt_or ?_ | refine wt_not ?_ | refine wt_yes ?_
    | refine wa_nil ?_
    | refine rd_plus_int ?_ | refine rd_sub ?_ | refine rd_cmp ?_ | refine rd_eq_int ?_ | refine rd_ne_int ?_ | refine rd_eq_str ?_ | refine rd_ne_str ?_ | refine rd_isN ?_ | refine rd_notN ?_ | refine ru_neg ?_
    | refine rl_abs ?_ | refine rl_int ?_ | refine rl_intB ?_ | refine rl_max2 ?_ | refine rl_min2 ?_ | refine rl_sum ?_ | refine rl_all ?_)
  | ((with_reducible refine' wd_var ?h ?_); (case h => rfl))
  | ((with_reducible refine' wd_varB ?h ?_); (case h => rfl))
  | ((with_reducible refine' wa_box ?h ?_); (case h => rfl))
  | ((with_reducible refine' wa_both ?h ?_); (case h => rfl))
  | (with_reducible refine wa_cons ?_) | (with_reducible refine rl_both ?_)
  | ((with_reducible refine' wd_by_given ?h ?_); (case h => rfl))
  | (refine wd_callK1X ?_) | (refine wd_callK1 ?_)
  | (with_reducible refine wd_dnew ?_) | (with_reducible refine wd_disp1 ?_) | (with_reducible refine wd_rev ?_)
  | ((with_reducible refine' ws_setOwn ?h ?_); (case h => rfl))
  | ((with_reducible refine' ws_setBox0 ?h ?_); (case h => rfl))
  | ((with_reducible refine' ws_setBox3 ?h ?_); (case h => rfl))
  | ((with_reducible refine' rl_len ?h ?_); (case h => rfl))
  | ((with_reducible refine' rd_ix_list ?h ?_); (case h => rfl))
  | ((with_reducible refine' rd_ix_tup ?h ?_); (case h => rfl))
  | ((with_reducible refine' ptr_and ?h ?_); (case h => first | rfl | assumption | exact plain_ptr (by assumption)))
  | (with_reducible refine pick_t (decide_eq_true rfl) ?_)
  | ((with_reducible refine' pick_t ?h ?_); (case h => rfl))
  | ((with_reducible refine' pick_f ?h ?_); (case h => rfl))
  | (refine ⟨[], rfl, Nat.zero_le _, ?_⟩) | (refine ⟨[_, _], rfl, Nat.le_of_ble_eq_true rfl, ?_⟩) | (refine ⟨[_], rfl, Nat.le_of_ble_eq_true rfl, ?_⟩) | (refine ⟨[_, _, _], rfl, Nat.le_of_ble_eq_true rfl, ?_⟩) | (refine ⟨[_, _, _, _], rfl, Nat.le_of_ble_eq_true rfl, ?_⟩) | (refine ⟨[_, _, _, _, _, _], rfl, Nat.le_of_ble_eq_true rfl, ?_⟩) | (refine ⟨[_, _, _, _, _], rfl, Nat.le_of_ble_eq_true rfl, ?_⟩) | (refine ⟨[_, _, _, _, _, _, _], rfl, Nat.le_of_ble_eq_true rfl, ?_⟩) | (refine ⟨[_, _, _, _, _, _, _, _], rfl, Nat.le_of_ble_eq_true rfl, ?_⟩) | (refine ⟨[_, _, _, _, _, _, _, _, _], rfl, Nat.le_of_ble_eq_true rfl, ?_⟩) | (refine ⟨[_, _, _, _, _, _, _, _, _, _], rfl, Nat.le_of_ble_eq_true rfl, ?_⟩) | (refine ⟨[_, _, _, _, _, _, _, _, _, _, _], rfl, Nat.le_of_ble_eq_true rfl, ?_⟩) | (refine ⟨[_, _, _, _, _, _, _, _, _, _, _, _], rfl, Nat.le_of_ble_eq_true rfl, ?_⟩)
  | (with_reducible refine ⟨_, rfl, ?_⟩) | (with_reducible refine ⟨rfl, ?_⟩) | (refine ⟨_, rfl, ?_⟩) | (refine ⟨_, _, rfl, rfl, ?_⟩)))
local macro_rules | `(tactic| walk_at "eg v") => `(tactic| repeat ((first | walk_at "eg one v"); (try dsimp only)))
local macro_rules | `(tactic| walk_at "eg one w") => `(tactic| (first
  | ((with_reducible refine' ws_raise_given (wa_cons (wd_varP ?h ?_))); (case h => rfl))
  | (with_reducible refine ws_raise_given ?_)
  | (with_reducible refine wd_copy ?_)
  | ((with_reducible refine' ws_retOwn ?h ?_); (case h => rfl))
  | (with_reducible refine ws_retLst ?_) | (with_reducible refine ws_retList ?_) | (with_reducible refine ws_retIf ?_)
  | ((with_reducible refine' ws_parNil2 ?h ?_); (case h => decide))
  | ((with_reducible refine' ws_parNil1 ?h ?_); (case h => decide))
  | ((with_reducible refine' ws_par3Nil ?h1 ?h2 ?_); (case h1 => decide); (case h2 => decide))
  | ((with_reducible refine' ws_append ?h ?_); (case h => rfl))
  | ((with_reducible refine' wd_ixOwn ?h ?_); (case h => rfl))
  | ((with_reducible refine' wd_isNOwn ?h ?_); (case h => rfl))
  | ((with_reducible refine' wd_tupleOwn ?h ?_); (case h => rfl))
  | ((with_reducible refine' wd_box0 ?h ?_); (case h => rfl))
  | ((with_reducible refine' wd_box1 ?h ?_); (case h => rfl))
  | ((with_reducible refine' wd_box2 ?h ?_); (case h => rfl))
  | ((with_reducible refine' wd_box3 ?h ?_); (case h => rfl))
  | (with_reducible first
    | refine ws_seq ?_ | refine ws_if ?_ | refine ws_ret ?_ | refine ws_retN ?_ | refine ws_next ?_ | refine ws_asg ?_ | refine ws_drop ?_ | refine ws_par ?_
    | refine wd_int ?_ | refine wd_bl ?_ | refine wd_str ?_ | refine wd_non ?_
    | refine wd_isi isi_int ?_ | refine wd_isi isi_bool ?_ | refine wd_isi isi_str ?_ | refine wd_isi isi_list ?_ | refine wd_isi isi_tuple ?_ | refine wd_isi isi_dict ?_ | refine wd_isi2 isi_list isi_tuple ?_
    | refine wd_list ?_ | refine wd_tuple ?_
    | refine wd_callX ?_ | refine wd_call ?_ | refine wd_callK1X ?_ | refine wd_callK1 ?_ | refine wd_cb ?_ | refine wd_op ?_ | refine wd_un ?_ | refine wd_andV ?_ | refine wd_orV ?_ | refine wd_notV ?_
    | refine wd_tup ?_ | refine wd_lst ?_ | refine wd_slice ?_ | refine wo_none ?_ | refine wo_some ?_
    | refine wt_B ?_ | refine wt_test ?_ | refine wt_and ?_ | refine wt_or ?_ | refine wt_not ?_ | refine wt_yes ?_
    | refine wa_nil ?_
    | refine rd_plus_int ?_ | refine rd_sub ?_ | refine rd_cmp ?_ | refine rd_eq_int ?_ | refine rd_ne_int ?_ | refine rd_eq_str ?_ | refine rd_ne_str ?_ | refine rd_isN ?_ | refine rd_notN ?_ | refine ru_neg ?_
    | refine rl_abs ?_ | refine rl_int ?_ | refine rl_intB ?_ | refine rl_max2 ?_ | refine rl_min2 ?_ | refine rl_sum ?_ | refine rl_all ?_)
  | ((with_reducible refine' wd_var ?h ?_); (case h => rfl))
  | ((with_reducible refine' wd_varB ?h ?_); (case h => rfl))
  | ((with_reducible refine' wa_box ?h ?_); (case h => rfl))
  | ((with_reducible refine' wa_both ?h ?_); (case h => rfl))
  | (with_reducible refine wa_cons ?_) | (with_reducible refine rl_both ?_)
  | ((with_reducible refine' wd_by_given ?h ?_); (case h => rfl))
  | (refine wd_callK1X ?_) | (refine wd_callK1 ?_)
  | (with_reducible refine wd_dnew ?_) | (with_reducible refine wd_disp1 ?_) | (with_reducible refine wd_rev ?_)
  | ((with_reducible refine' ws_setOwn ?h ?_); (case h => rfl))
  | ((with_reducible refine' ws_setBox0 ?h ?_); (case h => rfl))
  | ((with_reducible refine' ws_setBox3 ?h ?_); (case h => rfl))
  | ((with_reducible refine' rl_len ?h ?_); (case h => rfl))
  | ((with_reducible refine' rd_ix_list ?h ?_); (case h => rfl))
  | ((with_reducible refine' rd_ix_tup ?h ?_); (case h => rfl))
  | ((with_reducible refine' ptr_and ?h ?_); (case h => first | rfl | assumption | exact plain_ptr (by assumption)))
  | (with_reducible refine pick_t (decide_eq_true rfl) ?_)
  | ((with_reducible refine' pick_t ?h ?_); (case h => rfl))
  | ((with_reducible refine' pick_f ?h ?_); (case h => rfl))
  | (refine ⟨[], rfl, Nat.zero_le _, ?_⟩) | (refine ⟨[_, _], rfl, Nat.le_of_ble_eq_true rfl, ?_⟩) | (refine ⟨[_], rfl, Nat.le_of_ble_eq_true rfl, ?_⟩) | (refine ⟨[_, _, _], rfl, Nat.le_of_ble_eq_true rfl, ?_⟩) | (refine ⟨[_, _, _, _], rfl, Nat.le_of_ble_eq_true rfl, ?_⟩) | (refine ⟨[_, _, _, _, _, _], rfl, Nat.le_of_ble_eq_true rfl, ?_⟩) | (refine ⟨[_, _, _, _, _], rfl, Nat.le_of_ble_eq_true rfl, ?_⟩) | (refine ⟨[_, _, _, _, _, _, _], rfl, Nat.le_of_ble_eq_true rfl, ?_⟩) | (refine ⟨[_, _, _, _, _, _, _, _], rfl, Nat.le_of_ble_eq_true rfl, ?_⟩) | (refine ⟨[_, _, _, _, _, _, _, _, _], rfl, Nat.le_of_ble_eq_true rfl, ?_⟩) | (refine ⟨[_, _, _, _, _, _, _, _, _, _], rfl, Nat.le_of_ble_eq_true rfl, ?_⟩) | (refine ⟨[_, _, _, _, _, _, _, _, _, _, _], rfl, Nat.le_of_ble_eq_true rfl, ?_⟩) | (refine ⟨[_, _, _, _, _, _, _, _, _, _, _, _], rfl, Nat.le_of_ble_eq_true rfl, ?_⟩)
  | (with_reducible refine ⟨_, rfl, ?_⟩) | (with_reducible refine ⟨rfl, ?_⟩) | (refine ⟨_, rfl, ?_⟩) | (refine ⟨_, _, rfl, rfl, ?_⟩)))
local macro_rules | `(tactic| walk_at "eg w") => `(tactic| repeat ((first | walk_at "eg one w"); (try dsimp only)))

section
variable {P : Program} {w : World} {K : PySem.W.Frag} {mg : Str → Option Value} {base : Heap}
def P__law_rows_right (T : Tx K mg base) : PD := fun as φ K F XK => ∃ rs : List (List (Int × Int)), as = [.d (.list (rs.map rowD))] ∧ (∀ r, r ∈ rs → Good r ∧ r.length ≤ 400) ∧ rs.length ≤ 5 ∧ K (.bool true) φ
theorem ok__law_rows_right (T : Tx K mg base) : FnG P w K mg base (L2.CX P w) 8 T.a__law_rows_right T.fd__law_rows_right ["rows"] (SpD (P__law_rows_right T)) := by
  have G__law_asked : FnG P w K mg base (L2.CX P w) 7 T.a__law_asked T.fd__law_asked ["door", "value"] (SpD (P__law_asked T)) := ok__law_asked T
  have G__law_fold : FnG P w K mg base (L2.CX P w) 1 T.a__law_fold T.fd__law_fold ["rows"] (SpD (P__law_fold)) := ok__law_fold T
  have G_is_points : FnG P w K mg base (L2.CX P w) 4 T.a_is_points T.fd_is_points ["value"] (SpD (P_is_points)) := ok_is_points T
  refine fn_data T.F__law_rows_right sc__law_rows_right ?len (fun cdv A outer s H E hr hgd => ⟨_, (pss_cons (ps_par (i := 1) (j := 2) rfl sc__law_rows_right.nd rfl rfl (by decide) rfl rfl (pa_cons (pe_callB (Eg.call_reprD T.sys hgd hr.units) (by rfl) T.m_repr (by decide +kernel) (pa_cons (pe_lst (pa_cons pe_str (pa_cons (pe_callG G__law_fold (hr.mono (by decide)) hgd (by rfl) T.g__law_fold T.F__law_fold.kp T.b__law_fold noX (pa_cons (pv 0) pa_nil)) pa_nil))) pa_nil)) (pa_cons (pe_callB (Eg.call_reprD T.sys hgd hr.units) (by rfl) T.m_repr (by decide +kernel) (pa_cons (pv 0) pa_nil)) pa_nil)) (by rfl)) (pss_cons (ps_if (PW.pt (pw_or (pt_cmpR (r := rNeU K) (op_neU hr.units) (pe_callB (Eg.call_reprD T.sys hgd hr.units) (by rfl) T.m_repr (by decide +kernel) (pa_cons (pe_callG G__law_asked (hr.mono (by decide)) hgd (by rfl) T.g__law_asked T.F__law_asked.kp T.b__law_asked noX (pa_cons pe_int (pa_cons (pv 0) pa_nil))) pa_nil)) (pv 1) (nomark _)) (pw_or (pt_cmpR (r := rNeU K) (op_neU hr.units) (pe_callB (Eg.call_reprD T.sys hgd hr.units) (by rfl) T.m_repr (by decide +kernel) (pa_cons (pe_callG G__law_asked (hr.mono (by decide)) hgd (by rfl) T.g__law_asked T.F__law_asked.kp T.b__law_asked noX (pa_cons pe_int (pa_cons (pe_callTy (r := rTupleU K) call_tuple_of (by rfl) T.m_tuple (by decide +kernel) (pa_cons (pv 0) pa_nil)) pa_nil))) pa_nil)) (pv 1) (nomark _)) (pw_or1 (pt_cmpR (r := rNeU K) (op_neU hr.units) (pe_callB (Eg.call_reprD T.sys hgd hr.units) (by rfl) T.m_repr (by decide +kernel) (pa_cons (pv 0) pa_nil)) (pv 2) (nomark _)))))) (pss_one (ps_ret pe_bl)) pss_nil) (pss_cons (ps_for (passes_of rfl) rfl (pi_seq (pv 0)) (pg_name (i := 3) sc__law_rows_right.nd rfl (Or.inl rfl)) (pss_cons (ps_par (i := 1) (j := 2) rfl sc__law_rows_right.nd rfl rfl (by decide) rfl rfl (pa_cons (pe_callB (Eg.call_reprD T.sys hgd hr.units) (by rfl) T.m_repr (by decide +kernel) (pa_cons (pe_lst (pa_cons pe_str (pa_cons (pe_callG G__law_fold (hr.mono (by decide)) hgd (by rfl) T.g__law_fold T.F__law_fold.kp T.b__law_fold noX (pa_cons (pe_lst (pa_cons (pv 3) pa_nil)) pa_nil)) pa_nil))) pa_nil)) (pa_cons (pe_callB (Eg.call_reprD T.sys hgd hr.units) (by rfl) T.m_repr (by decide +kernel) (pa_cons (pv 3) pa_nil)) pa_nil)) (by rfl)) (pss_cons (ps_if (PW.pt (pw_or (pt_cmpR (r := rNeU K) (op_neU hr.units) (pe_callB (Eg.call_reprD T.sys hgd hr.units) (by rfl) T.m_repr (by decide +kernel) (pa_cons (pe_callG G__law_asked (hr.mono (by decide)) hgd (by rfl) T.g__law_asked T.F__law_asked.kp T.b__law_asked noX (pa_cons pe_int (pa_cons (pv 3) pa_nil))) pa_nil)) (pv 1) (nomark _)) (pw_or (pt_cmpR (r := rNeU K) (op_neU hr.units) (pe_callB (Eg.call_reprD T.sys hgd hr.units) (by rfl) T.m_repr (by decide +kernel) (pa_cons (pe_callG G__law_asked (hr.mono (by decide)) hgd (by rfl) T.g__law_asked T.F__law_asked.kp T.b__law_asked noX (pa_cons pe_int (pa_cons (pv 3) pa_nil))) pa_nil)) (pv 1) (nomark _)) (pw_or1 (pt_cmpR (r := rNeU K) (op_neU hr.units) (pe_callB (Eg.call_reprD T.sys hgd hr.units) (by rfl) T.m_repr (by decide +kernel) (pa_cons (pv 3) pa_nil)) (pv 2) (nomark _)))))) (pss_one (ps_ret pe_bl)) pss_nil) (pss_one (ps_if (PW.pt (pw_or (pt_cmpR (r := rNeU K) (op_neU hr.units) (pe_callB (Eg.call_reprD T.sys hgd hr.units) (by rfl) T.m_repr (by decide +kernel) (pa_cons (pe_callG G__law_asked (hr.mono (by decide)) hgd (by rfl) T.g__law_asked T.F__law_asked.kp T.b__law_asked noX (pa_cons pe_int (pa_cons (pe_lst (pa_cons (pv 3) pa_nil)) pa_nil))) pa_nil)) (pv 1) (nomark _)) (pw_or1 (pt_cmpR (r := rNeU K) (op_neU hr.units) (pe_callB (Eg.call_reprD T.sys hgd hr.units) (by rfl) T.m_repr (by decide +kernel) (pa_cons (pe_callG G_is_points (hr.mono (by decide)) hgd (by rfl) T.g_is_points T.F_is_points.kp T.b_is_points noX (pa_cons (pv 3) pa_nil)) pa_nil)) pe_str (nomark _))))) (pss_one (ps_ret pe_bl)) pss_nil))))) (pss_cons (ps_set (i := 4) sc__law_rows_right.nd rfl (Or.inl rfl) (pe_revL (pv 0))) (pss_one (ps_ret (pe_cmpR (r := rEqU K) (op_eqU hr.units) (pe_callB (Eg.call_reprD T.sys hgd hr.units) (by rfl) T.m_repr (by decide +kernel) (pa_cons (pe_callG G__law_asked (hr.mono (by decide)) hgd (by rfl) T.g__law_asked T.F__law_asked.kp T.b__law_asked noX (pa_cons pe_int (pa_cons (pv 4) pa_nil))) pa_nil)) (pe_callB (Eg.call_reprD T.sys hgd hr.units) (by rfl) T.m_repr (by decide +kernel) (pa_cons (pe_lst (pa_cons pe_str (pa_cons (pe_callG G__law_fold (hr.mono (by decide)) hgd (by rfl) T.g__law_fold T.F__law_fold.kp T.b__law_fold noX (pa_cons (pv 4) pa_nil)) pa_nil))) pa_nil)) (nomark _)))))))), fun as φ Kc F XK h => ?body⟩)
  case len => walk_at "eg len"
  case body =>
    obtain ⟨rs, rfl, hr, h5, k⟩ := h
    have wt : Tame (.str "told") 0 20 := tame_w (by decide +kernel) (by decide +kernel)
    have trow : ∀ ps, Good ps → ps.length ≤ 400 → Tame (rowD ps) 2 30000 := fun ps h1 h2 => (tame_list (k := 1) (m := 70) (n := 400) (fun x hx => by
      obtain ⟨p, hp, rfl⟩ := List.mem_map.mp hx
      exact (pt_el (good_bd h1 hp).1 (good_bd h1 hp).2).2.1) (by rw [List.length_map]; exact h2)).mono (by decide) (by decide)
    have prow : ∀ ps, Good ps → ps.length ≤ 400 → Eg.plain (rowD ps) = true := fun ps h1 h2 => plain_list_of (fun x hx => by
      obtain ⟨p, hp, rfl⟩ := List.mem_map.mp hx
      exact (pt_el (good_bd h1 hp).1 (good_bd h1 hp).2).1) (by rw [List.length_map]; omega)
    have gen : ∀ qs : List (List (Int × Int)), (∀ r, r ∈ qs → Good r ∧ r.length ≤ 400) → qs.length ≤ 5 → (∀ r, r ∈ qs.map rowD → isPts r = true) ∧ Tame (.list (qs.map rowD)) 50 300000 ∧ Eg.plain (.list (qs.map rowD)) = true ∧ isRows (.list (qs.map rowD)) = true ∧ Tame (.list [.str "told", fdD (rowsF (qs.map rowD))]) 50 300000 ∧ walkAll (qs.map rowD) = rowsF (qs.map rowD) := fun qs hq hl => by
      have m1 : ∀ r, r ∈ qs.map rowD → isPts r = true := fun r hr => by
        obtain ⟨ps, hp, rfl⟩ := List.mem_map.mp hr
        exact good_pts (hq ps hp).1
      have e := walk_rows m1
      refine ⟨m1, (tame_list (k := 2) (m := 30000) (n := 5) (fun x hx => ?_) (by rw [List.length_map]; exact hl)).mono (by decide) (by decide), plain_list_of (fun x hx => ?_) (by rw [List.length_map]; omega), List.all_eq_true.mpr m1, tame_told (n := (qs.map rowD).length * 400) ?_ (by rw [List.length_map]; omega) wt, e⟩
      · obtain ⟨ps, hp, rfl⟩ := List.mem_map.mp hx
        exact trow ps (hq ps hp).1 (hq ps hp).2
      · obtain ⟨ps, hp, rfl⟩ := List.mem_map.mp hx
        exact prow ps (hq ps hp).1 (hq ps hp).2
      · rw [← e]
        refine Fbo.rows fun r hr => ?_
        obtain ⟨ps, hp, rfl⟩ := List.mem_map.mp hr
        refine ⟨by show (ps.map ptD).length ≤ 400; rw [List.length_map]; exact (hq ps hp).2, fun y hy => ?_⟩
        obtain ⟨p, hp2, rfl⟩ := List.mem_map.mp hy
        have := (hq ps hp).1.2 p hp2
        show Bo p
        unfold Bo; omega
    obtain ⟨g1, g2, g3, g4, g5, g6⟩ := gen rs hr h5
    have g3t : Eg.plain (.tuple (rs.map rowD)) = true := g3
    have g4t : isRows (.tuple (rs.map rowD)) = true := g4
    walk_at "eg w"
    refine ⟨g1, ?_⟩
    rw [g6]
    walk_at "eg w"
    refine rl_reprT g5 ?_
    walk_at "eg w"
    refine rl_reprT g2 ?_
    walk_at "eg w"
    refine ⟨2, .list (rs.map rowD), .list (rs.map rowD), .inl ⟨rfl, rfl⟩, by decide, g3, fun a => absurd a (by decide), fun a => absurd a (by decide), fun _ _ => ?_, fun _ e => absurd (e.symm.trans g4) (by decide)⟩
    walk_at "eg w"
    refine rl_reprT g5 ?_
    walk_at "eg w"
    
    refine pick_f (not_dec rfl) ?_
    walk_at "eg w"
    refine ⟨3, .tuple (rs.map rowD), .tuple (rs.map rowD), .inl ⟨rfl, rfl⟩, by decide, g3t, fun a => absurd a (by decide), fun a => absurd a (by decide), fun _ _ => ?_, fun _ e => absurd (e.symm.trans g4t) (by decide)⟩
    walk_at "eg w"
    refine rl_reprT g5 ?_
    walk_at "eg w"
    
    refine pick_f (not_dec rfl) ?_
    walk_at "eg w"
    refine rl_reprT g2 ?_
    walk_at "eg w"
    refine pick_f (not_dec rfl) ?_
    walk_at "eg w"
    refine ws_for ?_
    walk_at "eg w"
    refine ⟨fun i δ' φ' => φ' = φ ∧ ∃ a b c : SD, δ' = [.d (.list (rs.map rowD)), a, b, c, .u], ⟨rfl, _, _, _, rfl⟩, fun i z δ' φ' hz hI => ?_, fun δ' φ' hI => ?_⟩
    · obtain ⟨rfl, a, b, c, rfl⟩ := hI
      obtain ⟨ps, hps, rfl⟩ := List.mem_map.mp (List.mem_of_getElem? hz)
      obtain ⟨q1, q2⟩ := hr ps hps
      obtain ⟨f1, f2, f3, f4, f5, f6⟩ := gen [ps] (fun r hr => by rw [List.mem_singleton.mp hr]; exact ⟨q1, q2⟩) (Nat.le_of_ble_eq_true rfl)
      have t1 : Tame (.list [.str "told", fdD (rowF (itemsL (rowD ps)))]) 50 300000 := f5
      have tr : Tame (rowD ps) 50 300000 := (trow ps q1 q2).mono (by decide) (by decide)
      have pr := prow ps q1 q2
      have ip := good_pts q1
      refine wg_name ?_
      walk_at "eg w"
      refine ⟨f1, ?_⟩
      rw [show walkAll [rowD ps] = rowF (itemsL (rowD ps)) from f6]
      walk_at "eg w"
      refine rl_reprT t1 ?_
      walk_at "eg w"
      refine rl_reprT tr ?_
      walk_at "eg w"
      refine ⟨0, rowD ps, rowD ps, .inl ⟨rfl, rfl⟩, by decide, pr, fun _ _ => ?_, fun _ e => absurd (e.symm.trans ip) (by decide), fun a => absurd a (by decide), fun a => absurd a (by decide)⟩
      walk_at "eg w"
      refine rl_reprT t1 ?_
      walk_at "eg w"
    
      refine pick_f (not_dec rfl) ?_
      walk_at "eg w"
      refine ⟨0, rowD ps, rowD ps, .inl ⟨rfl, rfl⟩, by decide, pr, fun _ _ => ?_, fun _ e => absurd (e.symm.trans ip) (by decide), fun a => absurd a (by decide), fun a => absurd a (by decide)⟩
      walk_at "eg w"
      refine rl_reprT t1 ?_
      walk_at "eg w"
    
      refine pick_f (not_dec rfl) ?_
      walk_at "eg w"
      refine rl_reprT tr ?_
      walk_at "eg w"
      refine pick_f (not_dec rfl) ?_
      walk_at "eg w"
      refine ⟨2, .list [rowD ps], .list [rowD ps], .inl ⟨rfl, rfl⟩, by decide, f3, fun a => absurd a (by decide), fun a => absurd a (by decide), fun _ _ => ?_, fun _ e => absurd (e.symm.trans f4) (by decide)⟩
      walk_at "eg w"
      refine rl_reprT t1 ?_
      walk_at "eg w"
    
      refine pick_f (not_dec rfl) ?_
      walk_at "eg w"
      refine ⟨pr, ?_⟩
      walk_at "eg w"
      rw [ip]
      refine rl_reprT tame_bool ?_
      walk_at "eg w"
      exact ⟨_, _, _, rfl⟩
    · obtain ⟨rfl, a, b, c, rfl⟩ := hI
      obtain ⟨f1, f2, f3, f4, f5, f6⟩ := gen rs.reverse (fun r h => hr r (List.mem_reverse.mp h)) (by rw [List.length_reverse]; exact h5)
      walk_at "eg w"
      rw [← List.map_reverse]
      walk_at "eg w"
      refine ⟨3, .list (rs.reverse.map rowD), .list (rs.reverse.map rowD), .inl ⟨rfl, rfl⟩, by decide, f3, fun a => absurd a (by decide), fun a => absurd a (by decide), fun _ _ => ?_, fun _ e => absurd (e.symm.trans f4) (by decide)⟩
      walk_at "eg w"
      refine rl_reprT f5 ?_
      walk_at "eg w"
    
      refine ⟨f1, ?_⟩
      rw [f6]
      walk_at "eg w"
      refine rl_reprT f5 ?_
      walk_at "eg w"
      simp only [itemsL]
      exact k
end
end K9

/-! K9w4 -/
set_option Elab.async false
set_option linter.all false
set_option maxRecDepth 100000
set_option maxHeartbeats 2000000

namespace K9
open PySem PySem.Spec PyProof.Rows L2 Eg
local macro_rules | `(tactic| walk_at "eg len") => `(tactic| (intro as φ K F XK h; first
  | (obtain ⟨e, r⟩ := h; subst e; rfl) | (obtain ⟨x, e, r⟩ := h; subst e; rfl) | (obtain ⟨x, y, e, r⟩ := h; subst e; rfl) | (obtain ⟨x, y, z, e, r⟩ := h; subst e; rfl) | (obtain ⟨x, y, z, u, e, r⟩ := h; subst e; rfl)
  | (obtain ⟨x, y, h | ⟨p, h⟩, r⟩ := h <;> (obtain ⟨e, _⟩ := h; subst e; rfl)) | (obtain ⟨x, y, z, h | ⟨p, h⟩, r⟩ := h <;> (obtain ⟨e, _⟩ := h; subst e; rfl))
  | (rcases h with h | h <;> first | (obtain ⟨x, e, r⟩ := h; subst e; rfl) | (obtain ⟨x, y, e, r⟩ := h; subst e; rfl) | (obtain ⟨x, y, z, e, r⟩ := h; subst e; rfl) | (obtain ⟨x, y, z, u, e, r⟩ := h; subst e; rfl))))
/-- one step ahead -/
local macro_rules | `(tactic| walk_at "eg one") => `(tactic| (first
  | ((with_reducible refine' ws_raise_given (wa_cons (wd_varP ?h ?_))); (case h => rfl))
  | (with_reducible refine ws_raise_given ?_)
  | (with_reducible refine wd_copy ?_)
  | ((with_reducible refine' ws_retOwn ?h ?_); (case h => rfl))
  | (with_reducible refine ws_asgLst ?_) | (with_reducible refine ws_retLst ?_) | (with_reducible refine ws_retList ?_) | (with_reducible refine ws_retIf ?_)
  | ((with_reducible refine' ws_parNil2 ?h ?_); (case h => decide))
  | ((with_reducible refine' ws_parNil1 ?h ?_); (case h => decide))
  | ((with_reducible refine' ws_par3Nil ?h1 ?h2 ?_); (case h1 => decide); (case h2 => decide))
  | ((with_reducible refine' ws_append ?h ?_); (case h => rfl))
  | ((with_reducible refine' wd_ixOwn ?h ?_); (case h => rfl))
  | ((with_reducible refine' wd_isNOwn ?h ?_); (case h => rfl))
  | ((with_reducible refine' wd_tupleOwn ?h ?_); (case h => rfl))
  | ((with_reducible refine' wd_box0 ?h ?_); (case h => rfl))
  | ((with_reducible refine' wd_box1 ?h ?_); (case h => rfl))
  | ((with_reducible refine' wd_box2 ?h ?_); (case h => rfl))
  | ((with_reducible refine' wd_box3 ?h ?_); (case h => rfl))
  | (with_reducible first
    | refine ws_seq ?_ | refine ws_if ?_ | refine ws_ret ?_ | refine ws_retN ?_ | refine ws_next ?_ | refine ws_asg ?_ | refine ws_drop ?_ | refine ws_par ?_
    | refine wd_int ?_ | refine wd_bl ?_ | refine wd_str ?_ | refine wd_non ?_
    | refine wd_isi isi_int ?_ | refine wd_isi isi_bool ?_ | refine wd_isi isi_str ?_ | refine wd_isi isi_list ?_ | refine wd_isi isi_tuple ?_ | refine wd_isi isi_dict ?_ | refine wd_isi2 isi_list isi_tuple ?_
    | refine wd_list ?_ | refine wd_tuple ?_
    | refine wd_callX ?_ | refine wd_call ?_ | refine wd_callK1X ?_ | refine wd_callK1 ?_ | refine wd_cb ?_ | refine wd_op ?_ | refine wd_un ?_ | refine wd_if ?_ | refine wd_andV ?_ | refine wd_orV ?_ | refine wd_notV ?_
    | refine wd_tup ?_ | refine wd_lst ?_ | refine wd_slice ?_ | refine wo_none ?_ | refine wo_some ?_
    | refine wt_B ?_ | refine wt_test ?_ | refine wt_and ?_ | refine wt_or ?_ | refine wt_not ?_ | refine wt_yes ?_
    | refine wa_nil ?_
    | refine rd_plus_int ?_ | refine rd_sub ?_ | refine rd_cmp ?_ | refine rd_eq_int ?_ | refine rd_ne_int ?_ | refine rd_eq_str ?_ | refine rd_ne_str ?_ | refine rd_isN ?_ | refine rd_notN ?_ | refine ru_neg ?_
    | refine rl_abs ?_ | refine rl_int ?_ | refine rl_intB ?_ | refine rl_max2 ?_ | refine rl_min2 ?_ | refine rl_sum ?_ | refine rl_all ?_)
  | ((with_reducible refine' wd_var ?h ?_); (case h => rfl))
  | ((with_reducible refine' wd_varB ?h ?_); (case h => rfl))
  | ((with_reducible refine' wa_box ?h ?_); (case h => rfl))
  | ((with_reducible refine' wa_both ?h ?_); (case h => rfl))
  | (with_reducible refine wa_cons ?_) | (with_reducible refine rl_both ?_)
  | ((with_reducible refine' wd_by_given ?h ?_); (case h => rfl))
  | (refine wd_callK1X ?_) | (refine wd_callK1 ?_)
  | (with_reducible refine wd_dnew ?_) | (with_reducible refine wd_disp1 ?_) | (with_reducible refine wd_rev ?_)
  | ((with_reducible refine' ws_setOwn ?h ?_); (case h => rfl))
  | ((with_reducible refine' ws_setBox0 ?h ?_); (case h => rfl))
  | ((with_reducible refine' ws_setBox3 ?h ?_); (case h => rfl))
  | ((with_reducible refine' rl_len ?h ?_); (case h => rfl))
  | ((with_reducible refine' rd_ix_list ?h ?_); (case h => rfl))
  | ((with_reducible refine' rd_ix_tup ?h ?_); (case h => rfl))
  | ((with_reducible refine' ptr_and ?h ?_); (case h => first | rfl | assumption | exact plain_ptr (by assumption)))
  | (with_reducible refine pick_t (decide_eq_true rfl) ?_)
  | ((with_reducible refine' pick_t ?h ?_); (case h => rfl))
  | ((with_reducible refine' pick_f ?h ?_); (case h => rfl))
  | (refine ⟨[], rfl, Nat.zero_le _, ?_⟩) | (refine ⟨[_, _], rfl, Nat.le_of_ble_eq_true rfl, ?_⟩) | (refine ⟨[_], rfl, Nat.le_of_ble_eq_true rfl, ?_⟩) | (refine ⟨[_, _, _], rfl, Nat.le_of_ble_eq_true rfl, ?_⟩) | (refine ⟨[_, _, _, _], rfl, Nat.le_of_ble_eq_true rfl, ?_⟩) | (refine ⟨[_, _, _, _, _, _], rfl, Nat.le_of_ble_eq_true rfl, ?_⟩) | (refine ⟨[_, _, _, _, _], rfl, Nat.le_of_ble_eq_true rfl, ?_⟩) | (refine ⟨[_, _, _, _, _, _, _], rfl, Nat.le_of_ble_eq_true rfl, ?_⟩) | (refine ⟨[_, _, _, _, _, _, _, _], rfl, Nat.le_of_ble_eq_true rfl, ?_⟩) | (refine ⟨[_, _, _, _, _, _, _, _, _], rfl, Nat.le_of_ble_eq_true rfl, ?_⟩) | (refine ⟨[_, _, _, _, _, _, _, _, _, _], rfl, Nat.le_of_ble_eq_true rfl, ?_⟩) | (refine ⟨[_, _, _, _, _, _, _, _, _, _, _], rfl, Nat.le_of_ble_eq_true rfl, ?_⟩) | (refine ⟨[_, _, _, _, _, _, _, _, _, _, _, _], rfl, Nat.le_of_ble_eq_true rfl, ?_⟩)
  | (with_reducible refine ⟨_, rfl, ?_⟩) | (with_reducible refine ⟨rfl, ?_⟩) | (refine ⟨_, rfl, ?_⟩) | (refine ⟨_, _, rfl, rfl, ?_⟩)))
local macro_rules | `(tactic| walk_at "eg") => `(tactic| repeat ((first | walk_at "eg one"); (try dsimp only)))
local macro_rules | `(tactic| walk_at "eg one v") => `(tactic| (first
  | ((with_reducible refine' ws_raise_given (wa_cons (wd_varP ?h ?_))); (case h => rfl))
  | (with_reducible refine ws_raise_given ?_)
  | (with_reducible refine wd_copy ?_)
  | ((with_reducible refine' ws_retOwn ?h ?_); (case h => rfl))
  | (with_reducible refine ws_asgLst ?_) | (with_reducible refine ws_retLst ?_) | (with_reducible refine ws_retList ?_) | (with_reducible refine ws_retIf ?_)
  | ((with_reducible refine' ws_parNil2 ?h ?_); (case h => decide))
  | ((with_reducible refine' ws_parNil1 ?h ?_); (case h => decide))
  | ((with_reducible refine' ws_par3Nil ?h1 ?h2 ?_); (case h1 => decide); (case h2 => decide))
  | ((with_reducible refine' ws_append ?h ?_); (case h => rfl))
  | ((with_reducible refine' wd_ixOwn ?h ?_); (case h => rfl))
  | ((with_reducible refine' wd_isNOwn ?h ?_); (case h => rfl))
  | ((with_reducible refine' wd_tupleOwn ?h ?_); (case h => rfl))
  | ((with_reducible refine' wd_box0 ?h ?_); (case h => rfl))
  | ((with_reducible refine' wd_box1 ?h ?_); (case h => rfl))
  | ((with_reducible refine' wd_box2 ?h ?_); (case h => rfl))
  | ((with_reducible refine' wd_box3 ?h ?_); (case h => rfl))
  | (with_reducible first
    | refine ws_seq ?_ | refine ws_if ?_ | refine ws_ret ?_ | refine ws_retN ?_ | refine ws_next ?_ | refine ws_asg ?_ | refine ws_drop ?_ | refine ws_par ?_
    | refine wd_int ?_ | refine wd_bl ?_ | refine wd_str ?_ | refine wd_non ?_
    | refine wd_isi isi_int ?_ | refine wd_isi isi_bool ?_ | refine wd_isi isi_str ?_ | refine wd_isi isi_list ?_ | refine wd_isi isi_tuple ?_ | refine wd_isi isi_dict ?_ | refine wd_isi2 isi_list isi_tuple ?_
    | refine wd_list ?_ | refine wd_tuple ?_
    | refine wd_callX ?_ | refine wd_call ?_ | refine wd_callK1X ?_ | refine wd_callK1 ?_ | refine wd_cb ?_ | refine wd_op ?_ | refine wd_un ?_ | refine wd_andV ?_ | refine wd_orV ?_ | refine wd_notV ?_
    | refine wd_tup ?_ | refine wd_lst ?_ | refine wd_slice ?_ | refine wo_none ?_ | refine wo_some ?_
    | refine wt_B ?_ | refine wt_test ?_ | refine wt_and ?_ | refine wt_or ?_ | refine wt_not ?_ | refine wt_yes ?_
    | refine wa_nil ?_
    | refine rd_plus_int ?_ | refine rd_sub ?_ | refine rd_cmp ?_ | refine rd_eq_int ?_ | refine rd_ne_int ?_ | refine rd_eq_str ?_ | refine rd_ne_str ?_ | refine rd_isN ?_ | refine rd_notN ?_ | refine ru_neg ?_
    | refine rl_abs ?_ | refine rl_int ?_ | refine rl_intB ?_ | refine rl_max2 ?_ | refine rl_min2 ?_ | refine rl_sum ?_ | refine rl_all ?_)
  | ((with_reducible refine' wd_var ?h ?_); (case h => rfl))
  | ((with_reducible refine' wd_varB ?h ?_); (case h => rfl))
  | ((with_reducible refine' wa_box ?h ?_); (case h => rfl))
  | ((with_reducible refine' wa_both ?h ?_); (case h => rfl))
  | (with_reducible refine wa_cons ?_) | (with_reducible refine rl_both ?_)
  | ((with_reducible refine' wd_by_given ?h ?_); (case h => rfl))
  | (refine wd_callK1X ?_) | (refine wd_callK1 ?_)
  | (with_reducible refine wd_dnew ?_) | (with_reducible refine wd_disp1 ?_) | (with_reducible refine wd_rev ?_)
  | ((with_reducible refine' ws_setOwn ?h ?_); (case h => rfl))
  | ((with_reducible refine' ws_setBox0 ?h ?_); (case h => rfl))
  | ((with_reducible refine' ws_setBox3 ?h ?_); (case h => rfl))
  | ((with_reducible refine' rl_len ?h ?_); (case h => rfl))
  | ((with_reducible refine' rd_ix_list ?h ?_); (case h => rfl))
  | ((with_reducible refine' rd_ix_tup ?h ?_); (case h => rfl))
  | ((with_reducible refine' ptr_and ?h ?_); (case h => first | rfl | assumption | exact plain_ptr (by assumption)))
  | (with_reducible refine pick_t (decide_eq_true rfl) ?_)
  | ((with_reducible refine' pick_t ?h ?_); (case h => rfl))
  | ((with_reducible refine' pick_f ?h ?_); (case h => rfl))
  | (refine ⟨[], rfl, Nat.zero_le _, ?_⟩) | (refine ⟨[_, _], rfl, Nat.le_of_ble_eq_true rfl, ?_⟩) | (refine ⟨[_], rfl, Nat.le_of_ble_eq_true rfl, ?_⟩) | (refine ⟨[_, _, _], rfl, Nat.le_of_ble_eq_true rfl, ?_⟩) | (refine ⟨[_, _, _, _], rfl, Nat.le_of_ble_eq_true rfl, ?_⟩) | (refine ⟨[_, _, _, _, _, _], rfl, Nat.le_of_ble_eq_true rfl, ?_⟩) | (refine ⟨[_, _, _, _, _], rfl, Nat.le_of_ble_eq_true rfl, ?_⟩) | (refine ⟨[_, _, _, _, _, _, _], rfl, Nat.le_of_ble_eq_true rfl, ?_⟩) | (refine ⟨[_, _, _, _, _, _, _, _], rfl, Nat.le_of_ble_eq_true rfl, ?_⟩) | (refine ⟨[_, _, _, _, _, _, _, _, _], rfl, Nat.le_of_ble_eq_true rfl, ?_⟩) | (refine ⟨[_, _, _, _, _, _, _, _, _, _], rfl, Nat.le_of_ble_eq_true rfl, ?_⟩) | (refine ⟨[_, _, _, _, _, _, _, _, _, _, _], rfl, Nat.le_of_ble_eq_true rfl, ?_⟩) | (refine ⟨[_, _, _, _, _, _, _, _, _, _, _, _], rfl, Nat.le_of_ble_eq_true rfl, ?_⟩)
  | (with_reducible refine ⟨_, rfl, ?_⟩) | (with_reducible refine ⟨rfl, ?_⟩) | (refine ⟨_, rfl, ?_⟩) | (refine ⟨_, _, rfl, rfl, ?_⟩)))
local macro_rules | `(tactic| walk_at "eg v") => `(tactic| repeat ((first | walk_at "eg one v"); (try dsimp only)))
local macro_rules | `(tactic| walk_at "eg one w") => `(tactic| (first
  | ((with_reducible refine' ws_raise_given (wa_cons (wd_varP ?h ?_))); (case h => rfl))
  | (with_reducible refine ws_raise_given ?_)
  | (with_reducible refine wd_copy ?_)
  | ((with_reducible refine' ws_retOwn ?h ?_); (case h => rfl))
  | (with_reducible refine ws_retLst ?_) | (with_reducible refine ws_retList ?_) | (with_reducible refine ws_retIf ?_)
  | ((with_reducible refine' ws_parNil2 ?h ?_); (case h => decide))
  | ((with_reducible refine' ws_parNil1 ?h ?_); (case h => decide))
  | ((with_reducible refine' ws_par3Nil ?h1 ?h2 ?_); (case h1 => decide); (case h2 => decide))
  | ((with_reducible refine' ws_append ?h ?_); (case h => rfl))
  | ((with_reducible refine' wd_ixOwn ?h ?_); (case h => rfl))
  | ((with_reducible refine' wd_isNOwn ?h ?_); (case h => rfl))
  | ((with_reducible refine' wd_tupleOwn ?h ?_); (case h => rfl))
  | ((with_reducible refine' wd_box0 ?h ?_); (case h => rfl))
  | ((with_reducible refine' wd_box1 ?h ?_); (case h => rfl))
  | ((with_reducible refine' wd_box2 ?h ?_); (case h => rfl))
  | ((with_reducible refine' wd_box3 ?h ?_); (case h => rfl))
  | (with_reducible first
    | refine ws_seq ?_ | refine ws_if ?_ | refine ws_ret ?_ | refine ws_retN ?_ | refine ws_next ?_ | refine ws_asg ?_ | refine ws_drop ?_ | refine ws_par ?_
    | refine wd_int ?_ | refine wd_bl ?_ | refine wd_str ?_ | refine wd_non ?_
    | refine wd_isi isi_int ?_ | refine wd_isi isi_bool ?_ | refine wd_isi isi_str ?_ | refine wd_isi isi_list ?_ | refine wd_isi isi_tuple ?_ | refine wd_isi isi_dict ?_ | refine wd_isi2 isi_list isi_tuple ?_
    | refine wd_list ?_ | refine wd_tuple ?_
    | refine wd_callX ?_ | refine wd_call ?_ | refine wd_callK1X ?_ | refine wd_callK1 ?_ | refine wd_cb ?_ | refine wd_op ?_ | refine wd_un ?_ | refine wd_andV ?_ | refine wd_orV ?_ | refine wd_notV ?_
    | refine wd_tup ?_ | refine wd_lst ?_ | refine wd_slice ?_ | refine wo_none ?_ | refine wo_some ?_
    | refine wt_B ?_ | refine wt_test ?_ | refine wt_and ?_ | refine wt_or ?_ | refine wt_not ?_ | refine wt_yes ?_
    | refine wa_nil ?_
    | refine rd_plus_int ?_ | refine rd_sub ?_ | refine rd_cmp ?_ | refine rd_eq_int ?_ | refine rd_ne_int ?_ | refine rd_eq_str ?_ | refine rd_ne_str ?_ | refine rd_isN ?_ | refine rd_notN ?_ | refine ru_neg ?_
    | refine rl_abs ?_ | refine rl_int ?_ | refine rl_intB ?_ | refine rl_max2 ?_ | refine rl_min2 ?_ | refine rl_sum ?_ | refine rl_all ?_)
  | ((with_reducible refine' wd_var ?h ?_); (case h => rfl))
  | ((with_reducible refine' wd_varB ?h ?_); (case h => rfl))
  | ((with_reducible refine' wa_box ?h ?_); (case h => rfl))
  | ((with_reducible refine' wa_both ?h ?_); (case h => rfl))
  | (with_reducible refine wa_cons ?_) | (with_reducible refine rl_both ?_)
  | ((with_reducible refine' wd_by_given ?h ?_); (case h => rfl))
  | (refine wd_callK1X ?_) | (refine wd_callK1 ?_)
  | (with_reducible refine wd_dnew ?_) | (with_reducible refine wd_disp1 ?_) | (with_reducible refine wd_rev ?_)
  | ((with_reducible refine' ws_setOwn ?h ?_); (case h => rfl))
  | ((with_reducible refine' ws_setBox0 ?h ?_); (case h => rfl))
  | ((with_reducible refine' ws_setBox3 ?h ?_); (case h => rfl))
  | ((with_reducible refine' rl_len ?h ?_); (case h => rfl))
  | ((with_reducible refine' rd_ix_list ?h ?_); (case h => rfl))
  | ((with_reducible refine' rd_ix_tup ?h ?_); (case h => rfl))
  | ((with_reducible refine' ptr_and ?h ?_); (case h => first | rfl | assumption | exact plain_ptr (by assumption)))
  | (with_reducible refine pick_t (decide_eq_true rfl) ?_)
  | ((with_reducible refine' pick_t ?h ?_); (case h => rfl))
  | ((with_reducible refine' pick_f ?h ?_); (case h => rfl))
  | (refine ⟨[], rfl, Nat.zero_le _, ?_⟩) | (refine ⟨[_, _], rfl, Nat.le_of_ble_eq_true rfl, ?_⟩) | (refine ⟨[_], rfl, Nat.le_of_ble_eq_true rfl, ?_⟩) | (refine ⟨[_, _, _], rfl, Nat.le_of_ble_eq_true rfl, ?_⟩) | (refine ⟨[_, _, _, _], rfl, Nat.le_of_ble_eq_true rfl, ?_⟩) | (refine ⟨[_, _, _, _, _, _], rfl, Nat.le_of_ble_eq_true rfl, ?_⟩) | (refine ⟨[_, _, _, _, _], rfl, Nat.le_of_ble_eq_true rfl, ?_⟩) | (refine ⟨[_, _, _, _, _, _, _], rfl, Nat.le_of_ble_eq_true rfl, ?_⟩) | (refine ⟨[_, _, _, _, _, _, _, _], rfl, Nat.le_of_ble_eq_true rfl, ?_⟩) | (refine ⟨[_, _, _, _, _, _, _, _, _], rfl, Nat.le_of_ble_eq_true rfl, ?_⟩) | (refine ⟨[_, _, _, _, _, _, _, _, _, _], rfl, Nat.le_of_ble_eq_true rfl, ?_⟩) | (refine ⟨[_, _, _, _, _, _, _, _, _, _, _], rfl, Nat.le_of_ble_eq_true rfl, ?_⟩) | (refine ⟨[_, _, _, _, _, _, _, _, _, _, _, _], rfl, Nat.le_of_ble_eq_true rfl, ?_⟩)
  | (with_reducible refine ⟨_, rfl, ?_⟩) | (with_reducible refine ⟨rfl, ?_⟩) | (refine ⟨_, rfl, ?_⟩) | (refine ⟨_, _, rfl, rfl, ?_⟩)))
local macro_rules | `(tactic| walk_at "eg w") => `(tactic| repeat ((first | walk_at "eg one w"); (try dsimp only)))

section
variable {P : Program} {w : World} {K : PySem.W.Frag} {mg : Str → Option Value} {base : Heap}
def P__law_bare_right (T : Tx K mg base) : PD := fun as φ K F XK => as = [] ∧ K (.bool true) φ
theorem ok__law_bare_right (T : Tx K mg base) : FnG P w K mg base (L2.CX P w) 9 T.a__law_bare_right T.fd__law_bare_right [] (SpD (P__law_bare_right T)) := by
  have G__law_refused : FnG P w K mg base (L2.CX P w) 8 T.a__law_refused T.fd__law_refused ["door", "value"] (SpD (P__law_refused T)) := ok__law_refused T
  have G__law_asked : FnG P w K mg base (L2.CX P w) 7 T.a__law_asked T.fd__law_asked ["door", "value"] (SpD (P__law_asked T)) := ok__law_asked T
  have G_is_points : FnG P w K mg base (L2.CX P w) 4 T.a_is_points T.fd_is_points ["value"] (SpD (P_is_points)) := ok_is_points T
  refine fn_data T.F__law_bare_right sc__law_bare_right ?len (fun cdv A outer s H E hr hgd => ⟨_, (pss_cons (ps_for (passes_of rfl) rfl (pi_seq (pe_lst (pa_cons pe_non (pa_cons pe_int (pa_cons pe_str (pa_cons pe_str (pa_cons pe_dnewK (pa_cons pe_bl (pa_cons (pe_lst (pa_cons pe_non pa_nil)) (pa_cons (pe_lst (pa_cons pe_int pa_nil)) (pa_cons (pe_lst (pa_cons pe_str pa_nil)) (pa_cons (pe_lst (pa_cons (pe_lst pa_nil) (pa_cons (pe_lst (pa_cons (pe_tup (pa_cons pe_int (pa_cons pe_int pa_nil))) pa_nil)) (pa_cons pe_dnewK pa_nil)))) (pa_cons (pe_lst (pa_cons (pe_tup (pa_cons pe_int (pa_cons pe_int pa_nil))) pa_nil)) pa_nil))))))))))))) (pg_name (i := 0) sc__law_bare_right.nd rfl (Or.inl rfl)) (pss_one (ps_if (PW.pt (pw_or (pt_not (pt_val (pe_callG G__law_refused (hr.mono (by decide)) hgd (by rfl) T.g__law_refused T.F__law_refused.kp T.b__law_refused noX (pa_cons pe_int (pa_cons (pv 0) pa_nil))))) (pw_or1 (pt_not (pt_val (pe_callG G__law_refused (hr.mono (by decide)) hgd (by rfl) T.g__law_refused T.F__law_refused.kp T.b__law_refused noX (pa_cons pe_int (pa_cons (pv 0) pa_nil)))))))) (pss_one (ps_ret pe_bl)) pss_nil))) (pss_cons (ps_for (passes_of rfl) rfl (pi_seq (pe_lst (pa_cons pe_non (pa_cons pe_int (pa_cons pe_str (pa_cons pe_dnewK (pa_cons pe_bl (pa_cons pe_str (pa_cons (pe_lst (pa_cons (pe_lst pa_nil) pa_nil)) (pa_cons (pe_lst (pa_cons pe_non pa_nil)) (pa_cons (pe_lst (pa_cons pe_str pa_nil)) pa_nil))))))))))) (pg_name (i := 0) sc__law_bare_right.nd rfl (Or.inl rfl)) (pss_one (ps_if (PW.pt (pw_or (pt_not (pt_val (pe_callG G__law_refused (hr.mono (by decide)) hgd (by rfl) T.g__law_refused T.F__law_refused.kp T.b__law_refused noX (pa_cons pe_int (pa_cons (pv 0) pa_nil))))) (pw_or (pt_not (pt_val (pe_callG G__law_refused (hr.mono (by decide)) hgd (by rfl) T.g__law_refused T.F__law_refused.kp T.b__law_refused noX (pa_cons pe_int (pa_cons (pv 0) pa_nil))))) (pw_or1 (pt_cmpR (r := rNeU K) (op_neU hr.units) (pe_callB (Eg.call_reprD T.sys hgd hr.units) (by rfl) T.m_repr (by decide +kernel) (pa_cons (pe_callGK0 G_is_points (hr.mono (by decide)) hgd (by rfl) T.g_is_points T.F_is_points.kp T.kb_is_points_0_value noX (pk_cons (pv 0) pk_nil)) pa_nil)) pe_str (nomark _)))))) (pss_one (ps_ret pe_bl)) pss_nil))) (pss_cons (ps_if (pt_cmpR (r := rNeU K) (op_neU hr.units) (pe_callB (Eg.call_reprD T.sys hgd hr.units) (by rfl) T.m_repr (by decide +kernel) (pa_cons (pe_lst (pa_cons (pe_callG G__law_asked (hr.mono (by decide)) hgd (by rfl) T.g__law_asked T.F__law_asked.kp T.b__law_asked noX (pa_cons pe_int (pa_cons (pe_lst (pa_cons (pe_lst pa_nil) (pa_cons (pe_tup pa_nil) (pa_cons (pe_lst pa_nil) pa_nil)))) pa_nil))) (pa_cons (pe_callG G__law_asked (hr.mono (by decide)) hgd (by rfl) T.g__law_asked T.F__law_asked.kp T.b__law_asked noX (pa_cons pe_int (pa_cons (pe_tup pa_nil) pa_nil))) (pa_cons (pe_callG G__law_asked (hr.mono (by decide)) hgd (by rfl) T.g__law_asked T.F__law_asked.kp T.b__law_asked noX (pa_cons pe_int (pa_cons (pe_lst pa_nil) pa_nil))) pa_nil)))) pa_nil)) (pe_callB (Eg.call_reprD T.sys hgd hr.units) (by rfl) T.m_repr (by decide +kernel) (pa_cons (pe_op (r := rTimes K) op_times (pe_lst (pa_cons (pe_lst (pa_cons pe_str (pa_cons pe_non pa_nil))) pa_nil)) pe_int) pa_nil)) (nomark _)) (pss_one (ps_ret pe_bl)) pss_nil) (pss_one (ps_ret (pe_cmpR (r := rEqU K) (op_eqU hr.units) (pe_callB (Eg.call_reprD T.sys hgd hr.units) (by rfl) T.m_repr (by decide +kernel) (pa_cons (pe_lst (pa_cons (pe_callG G_is_points (hr.mono (by decide)) hgd (by rfl) T.g_is_points T.F_is_points.kp T.b_is_points noX (pa_cons (pe_lst pa_nil) pa_nil)) (pa_cons (pe_callG G_is_points (hr.mono (by decide)) hgd (by rfl) T.g_is_points T.F_is_points.kp T.b_is_points noX (pa_cons (pe_tup pa_nil) pa_nil)) (pa_cons (pe_callG G_is_points (hr.mono (by decide)) hgd (by rfl) T.g_is_points T.F_is_points.kp T.b_is_points noX (pa_cons (pe_lst (pa_cons (pe_tup (pa_cons pe_int (pa_cons pe_int pa_nil))) pa_nil)) pa_nil)) pa_nil)))) pa_nil)) (pe_callB (Eg.call_reprD T.sys hgd hr.units) (by rfl) T.m_repr (by decide +kernel) (pa_cons (pe_lst (pa_cons pe_bl (pa_cons pe_bl (pa_cons pe_bl pa_nil)))) pa_nil)) (nomark _))))))), fun as φ Kc F XK h => ?body⟩)
  case len => walk_at "eg len"
  case body =>
    obtain ⟨rfl, k⟩ := h
    walk_at "eg w"
    refine ws_for ?_
    walk_at "eg w"
    refine ⟨fun i δ' φ' => φ' = φ ∧ ∃ a : SD, δ' = [a], ⟨rfl, _, rfl⟩, fun i z δ' φ' hz hI => ?_, fun δ' φ' hI => ?_⟩
    · obtain ⟨rfl, a, rfl⟩ := hI
      obtain ⟨c1, c2, c3⟩ := chk_of (List.all_eq_true.mp (by decide +kernel : List.all _ chkR = true) z (List.mem_of_getElem? hz))
      have c3 := c3.2
      refine wg_name ?_
      walk_at "eg w"
      refine ⟨2, z, rfl, by decide, by decide, c1, c2, fun a => absurd a (by decide), fun _ => c3, ?_⟩
      walk_at "eg w"
      refine ⟨3, z, rfl, by decide, by decide, c1, c2, fun a => absurd a (by decide), fun _ => c3, ?_⟩
      walk_at "eg w"
      exact ⟨_, rfl⟩
    obtain ⟨rfl, a, rfl⟩ := hI
    walk_at "eg w"
    refine ws_for ?_
    walk_at "eg w"
    refine ⟨fun i δ' ψ => ψ = φ' ∧ ∃ a : SD, δ' = [a], ⟨rfl, _, rfl⟩, fun i z δ' ψ hz hI => ?_, fun δ' ψ hI => ?_⟩
    · obtain ⟨rfl, a, rfl⟩ := hI
      obtain ⟨c1, c2, c3⟩ := chkP_of (List.all_eq_true.mp (by decide +kernel : List.all _ chkP = true) z (List.mem_of_getElem? hz))
      refine wg_name ?_
      walk_at "eg w"
      refine ⟨0, z, rfl, by decide, by decide, c1, c2, fun _ => c3, fun a => absurd a (by decide), ?_⟩
      walk_at "eg w"
      refine ⟨1, z, rfl, by decide, by decide, c1, c2, fun _ => c3, fun a => absurd a (by decide), ?_⟩
      walk_at "eg w"
      refine ⟨c1, ?_⟩
      walk_at "eg w"
      rw [c3]
      refine rl_reprT tame_bool ?_
      walk_at "eg w"
      exact ⟨_, rfl⟩
    obtain ⟨rfl, a, rfl⟩ := hI
    walk_at "eg w"
    refine ⟨2, _, _, .inl ⟨rfl, rfl⟩, by decide, by decide +kernel, fun a => absurd a (by decide), fun a => absurd a (by decide), fun _ _ => ?_, fun _ e => absurd (e.symm.trans (by decide +kernel : isRows _ = true)) (by decide)⟩
    walk_at "eg w"
    refine ⟨0, _, _, .inl ⟨rfl, rfl⟩, by decide, by decide +kernel, fun _ _ => ?_, fun _ e => absurd (e.symm.trans (by decide +kernel : isPts _ = true)) (by decide), fun a => absurd a (by decide), fun a => absurd a (by decide)⟩
    walk_at "eg w"
    refine ⟨3, _, _, .inl ⟨rfl, rfl⟩, by decide, by decide +kernel, fun a => absurd a (by decide), fun a => absurd a (by decide), fun _ _ => ?_, fun _ e => absurd (e.symm.trans (by decide +kernel : isRows _ = true)) (by decide)⟩
    walk_at "eg w"
    refine rl_reprT ⟨by decide +kernel, by decide +kernel, by decide +kernel, by decide +kernel⟩ ?_
    walk_at "eg w"
    refine rd_rep (xs := [.list [.str "told", .none]]) (n := 3) (by exact Nat.le_of_ble_eq_true rfl) (by decide) ?_
    walk_at "eg w"
    refine rl_reprT ⟨by decide +kernel, by decide +kernel, by decide +kernel, by decide +kernel⟩ ?_
    walk_at "eg w"
    refine pick_f (not_dec rfl) ?_
    walk_at "eg w"
    refine rl_reprT ⟨by decide +kernel, by decide +kernel, by decide +kernel, by decide +kernel⟩ ?_
    walk_at "eg w"
    refine rl_reprT ⟨by decide +kernel, by decide +kernel, by decide +kernel, by decide +kernel⟩ ?_
    walk_at "eg w"
    rw [decide_eq_true (by decide +kernel)]
    exact k
end
end K9

/-! K9z1 -/
set_option Elab.async false
set_option linter.all false
set_option maxRecDepth 100000
set_option maxHeartbeats 2000000

namespace K9
open PySem PySem.Spec PyProof.Rows L2 Eg
local macro_rules | `(tactic| walk_at "eg len") => `(tactic| (intro as φ K F XK h; first
  | (obtain ⟨e, r⟩ := h; subst e; rfl) | (obtain ⟨x, e, r⟩ := h; subst e; rfl) | (obtain ⟨x, y, e, r⟩ := h; subst e; rfl) | (obtain ⟨x, y, z, e, r⟩ := h; subst e; rfl) | (obtain ⟨x, y, z, u, e, r⟩ := h; subst e; rfl)
  | (obtain ⟨x, y, h | ⟨p, h⟩, r⟩ := h <;> (obtain ⟨e, _⟩ := h; subst e; rfl)) | (obtain ⟨x, y, z, h | ⟨p, h⟩, r⟩ := h <;> (obtain ⟨e, _⟩ := h; subst e; rfl))
  | (rcases h with h | h <;> first | (obtain ⟨x, e, r⟩ := h; subst e; rfl) | (obtain ⟨x, y, e, r⟩ := h; subst e; rfl) | (obtain ⟨x, y, z, e, r⟩ := h; subst e; rfl) | (obtain ⟨x, y, z, u, e, r⟩ := h; subst e; rfl))))
/-- one step ahead -/
local macro_rules | `(tactic| walk_at "eg one") => `(tactic| (first
  | ((with_reducible refine' ws_raise_given (wa_cons (wd_varP ?h ?_))); (case h => rfl))
  | (with_reducible refine ws_raise_given ?_)
  | ((with_reducible refine' wd_ixScr ?h ?_); (case h => rfl))
  | ((with_reducible refine' wd_slScr ?h ?_); (case h => rfl))
  | ((with_reducible refine' wa_scr ?h ?_); (case h => rfl))
  | (with_reducible refine rl_lenScr ?_)
  | (with_reducible refine wd_copy ?_)
  | ((with_reducible refine' ws_retOwn ?h ?_); (case h => rfl))
  | (with_reducible refine ws_asgLst ?_) | (with_reducible refine ws_retLst ?_) | (with_reducible refine ws_retList ?_) | (with_reducible refine ws_retIf ?_)
  | ((with_reducible refine' ws_parNil2 ?h ?_); (case h => decide))
  | ((with_reducible refine' ws_parNil1 ?h ?_); (case h => decide))
  | ((with_reducible refine' ws_par3Nil ?h1 ?h2 ?_); (case h1 => decide); (case h2 => decide))
  | ((with_reducible refine' ws_append ?h ?_); (case h => rfl))
  | ((with_reducible refine' wd_ixOwn ?h ?_); (case h => rfl))
  | ((with_reducible refine' wd_isNOwn ?h ?_); (case h => rfl))
  | ((with_reducible refine' wd_tupleOwn ?h ?_); (case h => rfl))
  | ((with_reducible refine' wd_box0 ?h ?_); (case h => rfl))
  | ((with_reducible refine' wd_box1 ?h ?_); (case h => rfl))
  | ((with_reducible refine' wd_box2 ?h ?_); (case h => rfl))
  | ((with_reducible refine' wd_box3 ?h ?_); (case h => rfl))
  | (with_reducible first
    | refine ws_seq ?_ | refine ws_if ?_ | refine ws_ret ?_ | refine ws_retN ?_ | refine ws_next ?_ | refine ws_asg ?_ | refine ws_drop ?_ | refine ws_par ?_
    | refine wd_int ?_ | refine wd_bl ?_ | refine wd_str ?_ | refine wd_non ?_
    | refine wd_isi isi_int ?_ | refine wd_isi isi_bool ?_ | refine wd_isi isi_str ?_ | refine wd_isi isi_list ?_ | refine wd_isi isi_tuple ?_ | refine wd_isi isi_dict ?_ | refine wd_isi2 isi_list isi_tuple ?_
    | refine wd_list ?_ | refine wd_tuple ?_
    | refine wd_callX ?_ | refine wd_call ?_ | refine wd_callK1X ?_ | refine wd_callK1 ?_ | refine wd_cb ?_ | refine wd_op ?_ | refine wd_un ?_ | refine wd_if ?_ | refine wd_andV ?_ | refine wd_orV ?_ | refine wd_notV ?_
    | refine wd_tup ?_ | refine wd_lst ?_ | refine wd_slice ?_ | refine wo_none ?_ | refine wo_some ?_
    | refine wt_B ?_ | refine wt_test ?_ | refine wt_and ?_ | refine wt_or ?_ | refine wt_not ?_ | refine wt_yes ?_
    | refine wa_nil ?_
    | refine rd_plus_int ?_ | refine rd_sub ?_ | refine rd_cmp ?_ | refine rd_eq_int ?_ | refine rd_ne_int ?_ | refine rd_eq_str ?_ | refine rd_ne_str ?_ | refine rd_isN ?_ | refine rd_notN ?_ | refine ru_neg ?_
    | refine rl_abs ?_ | refine rl_int ?_ | refine rl_intB ?_ | refine rl_max2 ?_ | refine rl_min2 ?_ | refine rl_sum ?_ | refine rl_all ?_)
  | ((with_reducible refine' wd_var ?h ?_); (case h => rfl))
  | ((with_reducible refine' wd_varB ?h ?_); (case h => rfl))
  | ((with_reducible refine' wa_box ?h ?_); (case h => rfl))
  | ((with_reducible refine' wa_both ?h ?_); (case h => rfl))
  | (with_reducible refine wa_cons ?_) | (with_reducible refine rl_both ?_)
  | ((with_reducible refine' wd_by_given ?h ?_); (case h => rfl))
  | (refine wd_callK1X ?_) | (refine wd_callK1 ?_)
  | (with_reducible refine wd_dnew ?_) | (with_reducible refine wd_disp1 ?_) | (with_reducible refine wd_rev ?_)
  | ((with_reducible refine' ws_setOwn ?h ?_); (case h => rfl))
  | ((with_reducible refine' ws_setBox0 ?h ?_); (case h => rfl))
  | ((with_reducible refine' ws_setBox3 ?h ?_); (case h => rfl))
  | ((with_reducible refine' rl_len ?h ?_); (case h => rfl))
  | ((with_reducible refine' rd_ix_list ?h ?_); (case h => rfl))
  | ((with_reducible refine' rd_ix_tup ?h ?_); (case h => rfl))
  | ((with_reducible refine' ptr_and ?h ?_); (case h => first | rfl | assumption | exact plain_ptr (by assumption)))
  | (with_reducible refine pick_t (decide_eq_true rfl) ?_)
  | ((with_reducible refine' pick_t ?h ?_); (case h => rfl))
  | ((with_reducible refine' pick_f ?h ?_); (case h => rfl))
  | (refine ⟨[], rfl, Nat.zero_le _, ?_⟩) | (refine ⟨[_, _], rfl, Nat.le_of_ble_eq_true rfl, ?_⟩) | (refine ⟨[_], rfl, Nat.le_of_ble_eq_true rfl, ?_⟩) | (refine ⟨[_, _, _], rfl, Nat.le_of_ble_eq_true rfl, ?_⟩) | (refine ⟨[_, _, _, _], rfl, Nat.le_of_ble_eq_true rfl, ?_⟩) | (refine ⟨[_, _, _, _, _, _], rfl, Nat.le_of_ble_eq_true rfl, ?_⟩) | (refine ⟨[_, _, _, _, _], rfl, Nat.le_of_ble_eq_true rfl, ?_⟩) | (refine ⟨[_, _, _, _, _, _, _], rfl, Nat.le_of_ble_eq_true rfl, ?_⟩) | (refine ⟨[_, _, _, _, _, _, _, _], rfl, Nat.le_of_ble_eq_true rfl, ?_⟩) | (refine ⟨[_, _, _, _, _, _, _, _, _], rfl, Nat.le_of_ble_eq_true rfl, ?_⟩) | (refine ⟨[_, _, _, _, _, _, _, _, _, _], rfl, Nat.le_of_ble_eq_true rfl, ?_⟩) | (refine ⟨[_, _, _, _, _, _, _, _, _, _, _], rfl, Nat.le_of_ble_eq_true rfl, ?_⟩) | (refine ⟨[_, _, _, _, _, _, _, _, _, _, _, _], rfl, Nat.le_of_ble_eq_true rfl, ?_⟩)
  | (with_reducible refine ⟨_, rfl, ?_⟩) | (with_reducible refine ⟨rfl, ?_⟩) | (refine ⟨_, rfl, ?_⟩) | (refine ⟨_, _, rfl, rfl, ?_⟩)))
local macro_rules | `(tactic| walk_at "eg") => `(tactic| repeat ((first | walk_at "eg one"); (try dsimp only)))
local macro_rules | `(tactic| walk_at "eg one v") => `(tactic| (first
  | ((with_reducible refine' ws_raise_given (wa_cons (wd_varP ?h ?_))); (case h => rfl))
  | (with_reducible refine ws_raise_given ?_)
  | ((with_reducible refine' wd_ixScr ?h ?_); (case h => rfl))
  | ((with_reducible refine' wd_slScr ?h ?_); (case h => rfl))
  | ((with_reducible refine' wa_scr ?h ?_); (case h => rfl))
  | (with_reducible refine rl_lenScr ?_)
  | (with_reducible refine wd_copy ?_)
  | ((with_reducible refine' ws_retOwn ?h ?_); (case h => rfl))
  | (with_reducible refine ws_asgLst ?_) | (with_reducible refine ws_retLst ?_) | (with_reducible refine ws_retList ?_) | (with_reducible refine ws_retIf ?_)
  | ((with_reducible refine' ws_parNil2 ?h ?_); (case h => decide))
  | ((with_reducible refine' ws_parNil1 ?h ?_); (case h => decide))
  | ((with_reducible refine' ws_par3Nil ?h1 ?h2 ?_); (case h1 => decide); (case h2 => decide))
  | ((with_reducible refine' ws_append ?h ?_); (case h => rfl))
  | ((with_reducible refine' wd_ixOwn ?h ?_); (case h => rfl))
  | ((with_reducible refine' wd_isNOwn ?h ?_); (case h => rfl))
  | ((with_reducible refine' wd_tupleOwn ?h ?_); (case h => rfl))
  | ((with_reducible refine' wd_box0 ?h ?_); (case h => rfl))
  | ((with_reducible refine' wd_box1 ?h ?_); (case h => rfl))
  | ((with_reducible refine' wd_box2 ?h ?_); (case h => rfl))
  | ((with_reducible refine' wd_box3 ?h ?_); (case h => rfl))
  | (with_reducible first
    | refine ws_seq ?_ | refine ws_if ?_ | refine ws_ret ?_ | refine ws_retN ?_ | refine ws_next ?_ | refine ws_asg ?_ | refine ws_drop ?_ | refine ws_par ?_
    | refine wd_int ?_ | refine wd_bl ?_ | refine wd_str ?_ | refine wd_non ?_
    | refine wd_isi isi_int ?_ | refine wd_isi isi_bool ?_ | refine wd_isi isi_str ?_ | refine wd_isi isi_list ?_ | refine wd_isi isi_tuple ?_ | refine wd_isi isi_dict ?_ | refine wd_isi2 isi_list isi_tuple ?_
    | refine wd_list ?_ | refine wd_tuple ?_
    | refine wd_callX ?_ | refine wd_call ?_ | refine wd_callK1X ?_ | refine wd_callK1 ?_ | refine wd_cb ?_ | refine wd_op ?_ | refine wd_un ?_ | refine wd_andV ?_ | refine wd_orV ?_ | refine wd_notV ?_
    | refine wd_tup ?_ | refine wd_lst ?_ | refine wd_slice ?_ | refine wo_none ?_ | refine wo_some ?_
    | refine wt_B ?_ | refine wt_test ?_ | refine wt_and ?_ | refine wt_or ?_ | refine wt_not ?_ | refine wt_yes ?_
    | refine wa_nil ?_
    | refine rd_plus_int ?_ | refine rd_sub ?_ | refine rd_cmp ?_ | refine rd_eq_int ?_ | refine rd_ne_int ?_ | refine rd_eq_str ?_ | refine rd_ne_str ?_ | refine rd_isN ?_ | refine rd_notN ?_ | refine ru_neg ?_
    | refine rl_abs ?_ | refine rl_int ?_ | refine rl_intB ?_ | refine rl_max2 ?_ | refine rl_min2 ?_ | refine rl_sum ?_ | refine rl_all ?_)
  | ((with_reducible refine' wd_var ?h ?_); (case h => rfl))
  | ((with_reducible refine' wd_varB ?h ?_); (case h => rfl))
  | ((with_reducible refine' wa_box ?h ?_); (case h => rfl))
  | ((with_reducible refine' wa_both ?h ?_); (case h => rfl))
  | (with_reducible refine wa_cons ?_) | (with_reducible refine rl_both ?_)
  | ((with_reducible refine' wd_by_given ?h ?_); (case h => rfl))
  | (refine wd_callK1X ?_) | (refine wd_callK1 ?_)
  | (with_reducible refine wd_dnew ?_) | (with_reducible refine wd_disp1 ?_) | (with_reducible refine wd_rev ?_)
  | ((with_reducible refine' ws_setOwn ?h ?_); (case h => rfl))
  | ((with_reducible refine' ws_setBox0 ?h ?_); (case h => rfl))
  | ((with_reducible refine' ws_setBox3 ?h ?_); (case h => rfl))
  | ((with_reducible refine' rl_len ?h ?_); (case h => rfl))
  | ((with_reducible refine' rd_ix_list ?h ?_); (case h => rfl))
  | ((with_reducible refine' rd_ix_tup ?h ?_); (case h => rfl))
  | ((with_reducible refine' ptr_and ?h ?_); (case h => first | rfl | assumption | exact plain_ptr (by assumption)))
  | (with_reducible refine pick_t (decide_eq_true rfl) ?_)
  | ((with_reducible refine' pick_t ?h ?_); (case h => rfl))
  | ((with_reducible refine' pick_f ?h ?_); (case h => rfl))
  | (refine ⟨[], rfl, Nat.zero_le _, ?_⟩) | (refine ⟨[_, _], rfl, Nat.le_of_ble_eq_true rfl, ?_⟩) | (refine ⟨[_], rfl, Nat.le_of_ble_eq_true rfl, ?_⟩) | (refine ⟨[_, _, _], rfl, Nat.le_of_ble_eq_true rfl, ?_⟩) | (refine ⟨[_, _, _, _], rfl, Nat.le_of_ble_eq_true rfl, ?_⟩) | (refine ⟨[_, _, _, _, _, _], rfl, Nat.le_of_ble_eq_true rfl, ?_⟩) | (refine ⟨[_, _, _, _, _], rfl, Nat.le_of_ble_eq_true rfl, ?_⟩) | (refine ⟨[_, _, _, _, _, _, _], rfl, Nat.le_of_ble_eq_true rfl, ?_⟩) | (refine ⟨[_, _, _, _, _, _, _, _], rfl, Nat.le_of_ble_eq_true rfl, ?_⟩) | (refine ⟨[_, _, _, _, _, _, _, _, _], rfl, Nat.le_of_ble_eq_true rfl, ?_⟩) | (refine ⟨[_, _, _, _, _, _, _, _, _, _], rfl, Nat.le_of_ble_eq_true rfl, ?_⟩) | (refine ⟨[_, _, _, _, _, _, _, _, _, _, _], rfl, Nat.le_of_ble_eq_true rfl, ?_⟩) | (refine ⟨[_, _, _, _, _, _, _, _, _, _, _, _], rfl, Nat.le_of_ble_eq_true rfl, ?_⟩)
  | (with_reducible refine ⟨_, rfl, ?_⟩) | (with_reducible refine ⟨rfl, ?_⟩) | (refine ⟨_, rfl, ?_⟩) | (refine ⟨_, _, rfl, rfl, ?_⟩)))
local macro_rules | `(tactic| walk_at "eg v") => `(tactic| repeat ((first | walk_at "eg one v"); (try dsimp only)))
local macro_rules | `(tactic| walk_at "eg one w") => `(tactic| (first
  | ((with_reducible refine' ws_raise_given (wa_cons (wd_varP ?h ?_))); (case h => rfl))
  | (with_reducible refine ws_raise_given ?_)
  | ((with_reducible refine' wd_ixScr ?h ?_); (case h => rfl))
  | ((with_reducible refine' wd_slScr ?h ?_); (case h => rfl))
  | ((with_reducible refine' wa_scr ?h ?_); (case h => rfl))
  | (with_reducible refine rl_lenScr ?_)
  | (with_reducible refine wd_copy ?_)
  | ((with_reducible refine' ws_retOwn ?h ?_); (case h => rfl))
  | (with_reducible refine ws_retLst ?_) | (with_reducible refine ws_retList ?_) | (with_reducible refine ws_retIf ?_)
  | ((with_reducible refine' ws_parNil2 ?h ?_); (case h => decide))
  | ((with_reducible refine' ws_parNil1 ?h ?_); (case h => decide))
  | ((with_reducible refine' ws_par3Nil ?h1 ?h2 ?_); (case h1 => decide); (case h2 => decide))
  | ((with_reducible refine' ws_append ?h ?_); (case h => rfl))
  | ((with_reducible refine' wd_ixOwn ?h ?_); (case h => rfl))
  | ((with_reducible refine' wd_isNOwn ?h ?_); (case h => rfl))
  | ((with_reducible refine' wd_tupleOwn ?h ?_); (case h => rfl))
  | ((with_reducible refine' wd_box0 ?h ?_); (case h => rfl))
  | ((with_reducible refine' wd_box1 ?h ?_); (case h => rfl))
  | ((with_reducible refine' wd_box2 ?h ?_); (case h => rfl))
  | ((with_reducible refine' wd_box3 ?h ?_); (case h => rfl))
  | (with_reducible first
    | refine ws_seq ?_ | refine ws_if ?_ | refine ws_ret ?_ | refine ws_retN ?_ | refine ws_next ?_ | refine ws_asg ?_ | refine ws_drop ?_ | refine ws_par ?_
    | refine wd_int ?_ | refine wd_bl ?_ | refine wd_str ?_ | refine wd_non ?_
    | refine wd_isi isi_int ?_ | refine wd_isi isi_bool ?_ | refine wd_isi isi_str ?_ | refine wd_isi isi_list ?_ | refine wd_isi isi_tuple ?_ | refine wd_isi isi_dict ?_ | refine wd_isi2 isi_list isi_tuple ?_
    | refine wd_list ?_ | refine wd_tuple ?_
    | refine wd_callX ?_ | refine wd_call ?_ | refine wd_callK1X ?_ | refine wd_callK1 ?_ | refine wd_cb ?_ | refine wd_op ?_ | refine wd_un ?_ | refine wd_andV ?_ | refine wd_orV ?_ | refine wd_notV ?_
    | refine wd_tup ?_ | refine wd_lst ?_ | refine wd_slice ?_ | refine wo_none ?_ | refine wo_some ?_
    | refine wt_B ?_ | refine wt_test ?_ | refine wt_and ?_ | refine wt_or ?_ | refine wt_not ?_ | refine wt_yes ?_
    | refine wa_nil ?_
    | refine rd_plus_int ?_ | refine rd_sub ?_ | refine rd_cmp ?_ | refine rd_eq_int ?_ | refine rd_ne_int ?_ | refine rd_eq_str ?_ | refine rd_ne_str ?_ | refine rd_isN ?_ | refine rd_notN ?_ | refine ru_neg ?_
    | refine rl_abs ?_ | refine rl_int ?_ | refine rl_intB ?_ | refine rl_max2 ?_ | refine rl_min2 ?_ | refine rl_sum ?_ | refine rl_all ?_)
  | ((with_reducible refine' wd_var ?h ?_); (case h => rfl))
  | ((with_reducible refine' wd_varB ?h ?_); (case h => rfl))
  | ((with_reducible refine' wa_box ?h ?_); (case h => rfl))
  | ((with_reducible refine' wa_both ?h ?_); (case h => rfl))
  | (with_reducible refine wa_cons ?_) | (with_reducible refine rl_both ?_)
  | ((with_reducible refine' wd_by_given ?h ?_); (case h => rfl))
  | (refine wd_callK1X ?_) | (refine wd_callK1 ?_)
  | (with_reducible refine wd_dnew ?_) | (with_reducible refine wd_disp1 ?_) | (with_reducible refine wd_rev ?_)
  | ((with_reducible refine' ws_setOwn ?h ?_); (case h => rfl))
  | ((with_reducible refine' ws_setBox0 ?h ?_); (case h => rfl))
  | ((with_reducible refine' ws_setBox3 ?h ?_); (case h => rfl))
  | ((with_reducible refine' rl_len ?h ?_); (case h => rfl))
  | ((with_reducible refine' rd_ix_list ?h ?_); (case h => rfl))
  | ((with_reducible refine' rd_ix_tup ?h ?_); (case h => rfl))
  | ((with_reducible refine' ptr_and ?h ?_); (case h => first | rfl | assumption | exact plain_ptr (by assumption)))
  | (with_reducible refine pick_t (decide_eq_true rfl) ?_)
  | ((with_reducible refine' pick_t ?h ?_); (case h => rfl))
  | ((with_reducible refine' pick_f ?h ?_); (case h => rfl))
  | (refine ⟨[], rfl, Nat.zero_le _, ?_⟩) | (refine ⟨[_, _], rfl, Nat.le_of_ble_eq_true rfl, ?_⟩) | (refine ⟨[_], rfl, Nat.le_of_ble_eq_true rfl, ?_⟩) | (refine ⟨[_, _, _], rfl, Nat.le_of_ble_eq_true rfl, ?_⟩) | (refine ⟨[_, _, _, _], rfl, Nat.le_of_ble_eq_true rfl, ?_⟩) | (refine ⟨[_, _, _, _, _, _], rfl, Nat.le_of_ble_eq_true rfl, ?_⟩) | (refine ⟨[_, _, _, _, _], rfl, Nat.le_of_ble_eq_true rfl, ?_⟩) | (refine ⟨[_, _, _, _, _, _, _], rfl, Nat.le_of_ble_eq_true rfl, ?_⟩) | (refine ⟨[_, _, _, _, _, _, _, _], rfl, Nat.le_of_ble_eq_true rfl, ?_⟩) | (refine ⟨[_, _, _, _, _, _, _, _, _], rfl, Nat.le_of_ble_eq_true rfl, ?_⟩) | (refine ⟨[_, _, _, _, _, _, _, _, _, _], rfl, Nat.le_of_ble_eq_true rfl, ?_⟩) | (refine ⟨[_, _, _, _, _, _, _, _, _, _, _], rfl, Nat.le_of_ble_eq_true rfl, ?_⟩) | (refine ⟨[_, _, _, _, _, _, _, _, _, _, _, _], rfl, Nat.le_of_ble_eq_true rfl, ?_⟩)
  | (with_reducible refine ⟨_, rfl, ?_⟩) | (with_reducible refine ⟨rfl, ?_⟩) | (refine ⟨_, rfl, ?_⟩) | (refine ⟨_, _, rfl, rfl, ?_⟩)))
local macro_rules | `(tactic| walk_at "eg w") => `(tactic| repeat ((first | walk_at "eg one w"); (try dsimp only)))

section
variable {P : Program} {w : World} {K : PySem.W.Frag} {mg : Str → Option Value} {base : Heap}
def P_law (T : Tx K mg base) : PD := fun as φ Kq F XK => ∃ ns : List Int, as = [.scr K ns] ∧ 100000 ≤ φ ∧ (φ : Int) ≤ draws ∧ ns.length ≤ 1000000 ∧ ∀ φ', Kq (.bool true) φ'
theorem ok_law (T : Tx K mg base) : FnG P w K mg base (L2.CX P w) 10 T.a_law T.fd_law ["script"] (SpD (P_law T)) := by
  have G__law_bare_right : FnG P w K mg base (L2.CX P w) 9 T.a__law_bare_right T.fd__law_bare_right [] (SpD (P__law_bare_right T)) := ok__law_bare_right T
  have G__law_box : FnG P w K mg base (L2.CX P w) 1 T.a__law_box T.fd__law_box ["great"] (SpD (P__law_box)) := ok__law_box T
  have G__law_cell : FnG P w K mg base (L2.CX P w) 1 T.a__law_cell T.fd__law_cell ["script", "k"] (SpD (P__law_cell T)) := ok__law_cell T
  have G__law_rows : FnG P w K mg base (L2.CX P w) 4 T.a__law_rows T.fd__law_rows ["box"] (SpD (P__law_rows)) := ok__law_rows T
  have G__law_spoilt : FnG P w K mg base (L2.CX P w) 2 T.a__law_spoilt T.fd__law_spoilt ["box", "row"] (SpD (P__law_spoilt)) := ok__law_spoilt T
  have G__law_rows_right : FnG P w K mg base (L2.CX P w) 8 T.a__law_rows_right T.fd__law_rows_right ["rows"] (SpD (P__law_rows_right T)) := ok__law_rows_right T
  have G__law_take : FnG P w K mg base (L2.CX P w) 1 T.a__law_take T.fd__law_take ["box", "many"] (SpD (P__law_take)) := ok__law_take T
  have G__law_row_right : FnG P w K mg base (L2.CX P w) 9 T.a__law_row_right T.fd__law_row_right ["value", "rows", "at"] (SpD (P__law_row_right T)) := ok__law_row_right T
  have G__law_long : FnG P w K mg base (L2.CX P w) 2 T.a__law_long T.fd__law_long ["box"] (SpD (P__law_long)) := ok__law_long T
  have G__law_row : FnG P w K mg base (L2.CX P w) 3 T.a__law_row T.fd__law_row ["box", "pool"] (SpD (P__law_row)) := ok__law_row T
  have G__law_pool : FnG P w K mg base (L2.CX P w) 2 T.a__law_pool T.fd__law_pool ["box"] (SpD (P__law_pool)) := ok__law_pool T
  refine fn_data T.F_law sc_law ?len (fun cdv A outer s H E hr hgd => ⟨_, (pss_cons (ps_for (passes_of rfl) rfl (pi_range1 rfl T.m_range (pa_cons (pe_callB (call_max2 rfl) (by rfl) T.m_max (by decide +kernel) (pa_cons pe_int (pa_cons (pe_callB (call_min2 rfl) (by rfl) T.m_min (by decide +kernel) (pa_cons pe_int (pa_cons (pe_callB (r := rLenU K) call_len (by rfl) T.m_len (by decide +kernel) (pa_cons (pv 0) pa_nil)) pa_nil))) pa_nil))) pa_nil)) (pg_name (i := 1) sc_law.nd rfl (Or.inl rfl)) (pss_cons (ps_set (i := 2) sc_law.nd rfl (Or.inl rfl) (pe_callG G__law_box (hr.mono (by decide)) hgd (by rfl) T.g__law_box T.F__law_box.kp T.b__law_box noX (pa_cons (pe_callG G__law_cell (hr.mono (by decide)) hgd (by rfl) T.g__law_cell T.F__law_cell.kp T.b__law_cell noX (pa_cons (pv 0) (pa_cons (pv 1) pa_nil))) pa_nil))) (pss_cons (ps_for (passes_of rfl) rfl (pi_range1 rfl T.m_range (pa_cons pe_int pa_nil)) (pg_name (i := 3) sc_law.nd rfl (Or.inl rfl)) (pss_cons (ps_set (i := 4) sc_law.nd rfl (Or.inl rfl) (pe_callG G__law_rows (hr.mono (by decide)) hgd (by rfl) T.g__law_rows T.F__law_rows.kp T.b__law_rows noX (pa_cons (pv 2) pa_nil))) (pss_cons (ps_set (i := 5) sc_law.nd rfl (Or.inl rfl) (pe_ifExp (pt_cmpR (r := rNeU K) (op_neU hr.units) (pv 4) (pe_lst pa_nil) (nomark _)) (pe_ix (r := rIx K) ix_seq (pv 4) (pe_callG G__law_take (hr.mono (by decide)) hgd (by rfl) T.g__law_take T.F__law_take.kp T.b__law_take noX (pa_cons (pv 2) (pa_cons (pe_callB (r := rLenU K) call_len (by rfl) T.m_len (by decide +kernel) (pa_cons (pv 4) pa_nil)) pa_nil))) (fun _ _ => rfl)) (pe_lst pa_nil))) (pss_cons (ps_for (passes_of rfl) rfl (pi_range1 rfl T.m_range (pa_cons pe_int pa_nil)) (pg_name (i := 6) sc_law.nd rfl (Or.inl rfl)) (pss_cons (ps_set (i := 7) sc_law.nd rfl (Or.inl rfl) (pe_callG G__law_spoilt (hr.mono (by decide)) hgd (by rfl) T.g__law_spoilt T.F__law_spoilt.kp T.b__law_spoilt noX (pa_cons (pv 2) (pa_cons (pv 5) pa_nil)))) (pss_one (ps_if (pt_not (pt_val (pe_callG G__law_row_right (hr.mono (by decide)) hgd (by rfl) T.g__law_row_right T.F__law_row_right.kp T.b__law_row_right noX (pa_cons (pv 7) (pa_cons (pv 4) (pa_cons (pe_callG G__law_take (hr.mono (by decide)) hgd (by rfl) T.g__law_take T.F__law_take.kp T.b__law_take noX (pa_cons (pv 2) (pa_cons (pe_op (r := rPlus K) op_plus (pe_callB (r := rLenU K) call_len (by rfl) T.m_len (by decide +kernel) (pa_cons (pv 4) pa_nil)) pe_int) pa_nil))) pa_nil)))))) (pss_one (ps_ret pe_bl)) pss_nil)))) (pss_one (ps_if (pt_not (pt_val (pe_callG G__law_rows_right (hr.mono (by decide)) hgd (by rfl) T.g__law_rows_right T.F__law_rows_right.kp T.b__law_rows_right noX (pa_cons (pv 4) pa_nil)))) (pss_one (ps_ret pe_bl)) pss_nil)))))) (pss_one (ps_if (PW.pt (pw_and (pt_cmpR (r := rEqU K) (op_eqU hr.units) (pv 1) pe_int (nomark _)) (pw_and1 (pt_not (pt_val (pe_callG G__law_rows_right (hr.mono (by decide)) hgd (by rfl) T.g__law_rows_right T.F__law_rows_right.kp T.b__law_rows_right noX (pa_cons (pe_lst (pa_cons (pe_callG G__law_long (hr.mono (by decide)) hgd (by rfl) T.g__law_long T.F__law_long.kp T.b__law_long noX (pa_cons (pv 2) pa_nil)) (pa_cons (pe_callG G__law_row (hr.mono (by decide)) hgd (by rfl) T.g__law_row T.F__law_row.kp T.b__law_row noX (pa_cons (pv 2) (pa_cons (pe_callG G__law_pool (hr.mono (by decide)) hgd (by rfl) T.g__law_pool T.F__law_pool.kp T.b__law_pool noX (pa_cons (pv 2) pa_nil)) pa_nil))) pa_nil))) pa_nil))))))) (pss_one (ps_ret pe_bl)) pss_nil))))) (pss_one (ps_ret (pe_callG0 G__law_bare_right (hr.mono (by decide)) hgd (by rfl) T.g__law_bare_right T.F__law_bare_right.kp T.b__law_bare_right noX)))), fun as φ Kc F XK h => ?body⟩)
  case len => walk_at "eg len"
  case body =>
    obtain ⟨ns, rfl, hφ, hφ2, hn, k⟩ := h
    have hd : draws = 1000000000000 := rfl
    walk_at "eg w"
    refine ws_forR ?_
    walk_at "eg w"
    refine ⟨by (repeat' split) <;> omega, by (repeat' split) <;> omega, fun i δ' φ' => φ - 3000 * i ≤ φ' ∧ φ' ≤ φ ∧ ∃ a b c d e f g : SD, δ' = [.scr K ns, a, b, c, d, e, f, g], ⟨by omega, by omega, _, _, _, _, _, _, _, rfl⟩, fun i δ' φ' hi hI => ?_, fun δ' φ' hI => ?_⟩
    · obtain ⟨i1, i2, a, b, c, d, e, f, g, rfl⟩ := hI
      have hi4 : (i : Int) < 4 := by
        revert hi
        (repeat' split) <;> intro hi <;> omega
      clear hi
      refine ws_seq (ws_asgCall ?_)
      walk_at "eg w"
      refine ⟨ns, i, rfl, fun g0 => ?_⟩
      walk_at "eg w"
      intro g1 c1 f1 h1 h2 h3
      refine ws_box 2 rfl h1 h2 h3 (by decide) (by omega) ?_
      walk_at "eg w"
      refine ws_forR ?_
      walk_at "eg w"
      refine ⟨by decide, by decide, fun j δ2 φ2 => φ' - 600 * j ≤ φ2 ∧ φ2 ≤ φ' ∧ ∃ c d e f g : SD, δ2 = [.scr K ns, .d (.int i), .bx, c, d, e, f, g], ⟨by omega, by omega, _, _, _, _, _, rfl⟩, fun j δ2 φ1 hj hJ => ?_, fun δ2 φ2 hJ => ?_⟩
      · obtain ⟨j1, j2, c, d, e, f, g, rfl⟩ := hJ
        have hj2 : (j : Int) < 2 := hj
        walk_at "eg w"
        refine ⟨rfl, by omega, fun rs hr hl => ?_⟩
        walk_at "eg w"
        refine wd_if ?_
        walk_at "eg w"
        obtain ⟨rl1, rl2⟩ := rows_lay hr hl
        refine rd_neD rl1 (by decide +kernel) rl2 (by decide +kernel) ?_
        rw [eqv_nil]
        walk_at "eg w"
        refine ⟨fun e => ?_, fun e => ?_⟩
        · have hne : 0 < rs.length := by
            cases rs with
            | nil => simp at e
            | cons r q => simp
          walk_at "eg w"
          refine ⟨by rw [List.length_map]; omega, by rw [List.length_map]; omega, by omega, fun a a0 a1 => ?_⟩
          walk_at "eg w"
          refine rd_ixMem a0 a1 fun q dd hq hdd => ?_
          obtain ⟨ps, hps, rfl⟩ := List.mem_map.mp (List.mem_of_getElem? hdd)
          have pg := hr ps hps
          walk_at "eg w"
          refine ws_forR ?_
          walk_at "eg w"
          refine ⟨by decide, by decide, fun m δ3 φ3 => (φ1 - 260) - 10 * m ≤ φ3 ∧ φ3 ≤ φ1 ∧ ∃ f g : SD, δ3 = [.scr K ns, .d (.int i), .bx, .d (.int j), .d (.list (rs.map rowD)), .d (rowD ps), f, g], ⟨by omega, by omega, _, _, rfl⟩, fun m δ3 φ3 hm hM => ?_, fun δ3 φ3 hM => ?_⟩
          · obtain ⟨m1, m2, f, g, rfl⟩ := hM
            have m3 : (m : Int) < 3 := hm
            walk_at "eg w"
            refine ⟨pg.1, pg.2, by omega, fun x hx => ?_⟩
            walk_at "eg w"
            refine ⟨by rw [List.length_map]; omega, by rw [List.length_map]; omega, by omega, fun a a0 a1 => ?_⟩
            walk_at "eg w"
            refine ⟨x, rs, a, rfl, hx, hr, hl, ?_⟩
            walk_at "eg w"
            exact ⟨by omega, by omega, _, _, rfl⟩
          · obtain ⟨m1, m2, f, g, rfl⟩ := hM
            have m1 : (φ1 - 260) - 30 ≤ φ3 := m1
            walk_at "eg w"
            refine ⟨fun r h => ⟨(hr r h).1, by have := (hr r h).2; omega⟩, hl, ?_⟩
            walk_at "eg w"
            exact ⟨by omega, by omega, _, _, _, _, _, rfl⟩
    
        · walk_at "eg w"
          obtain ⟨ps, hps, pg⟩ : ∃ ps : List (Int × Int), PyData.list [] = rowD ps ∧ (Good ps ∧ ps.length ≤ 8) := ⟨[], rfl, ⟨List.Pairwise.nil, fun p hp => by cases hp⟩, by decide⟩
          rw [hps]
          walk_at "eg w"
          refine ws_forR ?_
          walk_at "eg w"
          refine ⟨by decide, by decide, fun m δ3 φ3 => (φ1 - 260) - 10 * m ≤ φ3 ∧ φ3 ≤ φ1 ∧ ∃ f g : SD, δ3 = [.scr K ns, .d (.int i), .bx, .d (.int j), .d (.list (rs.map rowD)), .d (rowD ps), f, g], ⟨by omega, by omega, _, _, rfl⟩, fun m δ3 φ3 hm hM => ?_, fun δ3 φ3 hM => ?_⟩
          · obtain ⟨m1, m2, f, g, rfl⟩ := hM
            have m3 : (m : Int) < 3 := hm
            walk_at "eg w"
            refine ⟨pg.1, pg.2, by omega, fun x hx => ?_⟩
            walk_at "eg w"
            refine ⟨by rw [List.length_map]; omega, by rw [List.length_map]; omega, by omega, fun a a0 a1 => ?_⟩
            walk_at "eg w"
            refine ⟨x, rs, a, rfl, hx, hr, hl, ?_⟩
            walk_at "eg w"
            exact ⟨by omega, by omega, _, _, rfl⟩
          · obtain ⟨m1, m2, f, g, rfl⟩ := hM
            have m1 : (φ1 - 260) - 30 ≤ φ3 := m1
            walk_at "eg w"
            refine ⟨fun r h => ⟨(hr r h).1, by have := (hr r h).2; omega⟩, hl, ?_⟩
            walk_at "eg w"
            exact ⟨by omega, by omega, _, _, _, _, _, rfl⟩
    
      · obtain ⟨j1, j2, c, d, e, f, g, rfl⟩ := hJ
        have j1 : φ' - 1200 ≤ φ2 := j1
        walk_at "eg w"
        refine ⟨fun e => ?_, fun e => ?_⟩
        · walk_at "eg w"
          refine ⟨rfl, by omega, fun ps p1 p2 => ?_⟩
          walk_at "eg w"
          refine ⟨rfl, by omega, fun ts t1 t2 t3 => ?_⟩
          walk_at "eg w"
          refine ⟨t1, t2, by omega, by omega, fun qs q1 q2 => ?_⟩
          walk_at "eg w"
          refine ⟨[ps, qs], rfl, fun r hr => ?_, Nat.le_of_ble_eq_true rfl, ?_⟩
          · simp only [List.mem_cons, List.not_mem_nil, or_false] at hr
            rcases hr with rfl | rfl
            · exact ⟨p1, p2⟩
            · exact ⟨q1, by omega⟩
          walk_at "eg w"
          exact ⟨by omega, by omega, _, _, _, _, _, _, _, rfl⟩
        · walk_at "eg w"
          exact ⟨by omega, by omega, _, _, _, _, _, _, _, rfl⟩
    · obtain ⟨i1, i2, a, b, c, d, e, f, g, rfl⟩ := hI
      walk_at "eg w"
      exact ⟨rfl, k _⟩
end
end K9

/-! K9e -/
set_option Elab.async false
set_option linter.all false
set_option maxRecDepth 100000
set_option maxHeartbeats 2000000

namespace K9
open PySem PySem.Spec PyProof.Rows L2 Eg
theorem all_mk {w : World} {K : PySem.W.Frag} {h : Heap} {mg : Str → Option Value} {fa : Addr}
    {GR : Addr}
    {C_InvalidPoints I_InvalidPoints : Addr} {nm_InvalidPoints q_InvalidPoints : Str} {N_InvalidPoints : Addr} {bs_InvalidPoints : List Value} {sn_InvalidPoints : List Str} {sub_InvalidPoints : List Value} {ab_InvalidPoints : Bool} {col_InvalidPoints : Option Bool} {dd_InvalidPoints : Option Addr} {m0_InvalidPoints m1_InvalidPoints m2_InvalidPoints m3_InvalidPoints m5_InvalidPoints : Option Value}
    {oc_InvalidPoints : Value} {od_InvalidPoints : Option Addr} {doc_InvalidPoints pm_InvalidPoints : Value} {an_InvalidPoints : Option Addr} {cd_InvalidPoints ct_InvalidPoints : Value} {sl_InvalidPoints : Array (Option Value)} {p1_InvalidPoints p2_InvalidPoints r1_InvalidPoints r2_InvalidPoints r3_InvalidPoints r4_InvalidPoints : Pos}
    {C_InvalidRows I_InvalidRows : Addr} {nm_InvalidRows q_InvalidRows : Str} {N_InvalidRows : Addr} {bs_InvalidRows : List Value} {sn_InvalidRows : List Str} {sub_InvalidRows : List Value} {ab_InvalidRows : Bool} {col_InvalidRows : Option Bool} {dd_InvalidRows : Option Addr} {m0_InvalidRows m1_InvalidRows m2_InvalidRows m3_InvalidRows m5_InvalidRows : Option Value}
    {oc_InvalidRows : Value} {od_InvalidRows : Option Addr} {doc_InvalidRows pm_InvalidRows : Value} {an_InvalidRows : Option Addr} {cd_InvalidRows ct_InvalidRows : Value} {sl_InvalidRows : Array (Option Value)} {p1_InvalidRows p2_InvalidRows r1_InvalidRows r2_InvalidRows r3_InvalidRows r4_InvalidRows : Pos}
    {A_is_list : Addr} {ocis_list : Value} {odis_list : Option Addr} {kVis_list dcis_list pmis_list : Value} {anis_list : Option Addr} {cdis_list ctis_list : Value} {slis_list : Array (Option Value)}
    {A_is_integer : Addr} {ocis_integer : Value} {odis_integer : Option Addr} {kVis_integer dcis_integer pmis_integer : Value} {anis_integer : Option Addr} {cdis_integer ctis_integer : Value} {slis_integer : Array (Option Value)}
    {A_is_count : Addr} {ocis_count : Value} {odis_count : Option Addr} {kVis_count dcis_count pmis_count : Value} {anis_count : Option Addr} {cdis_count ctis_count : Value} {slis_count : Array (Option Value)}
    {A__is_point : Addr} {oc_is_point : Value} {od_is_point : Option Addr} {kV_is_point dc_is_point pm_is_point : Value} {an_is_point : Option Addr} {cd_is_point ct_is_point : Value} {sl_is_point : Array (Option Value)}
    {A_is_points : Addr} {ocis_points : Value} {odis_points : Option Addr} {kVis_points dcis_points pmis_points : Value} {anis_points : Option Addr} {cdis_points ctis_points : Value} {slis_points : Array (Option Value)}
    {A__is_rows : Addr} {oc_is_rows : Value} {od_is_rows : Option Addr} {kV_is_rows dc_is_rows pm_is_rows : Value} {an_is_rows : Option Addr} {cd_is_rows ct_is_rows : Value} {sl_is_rows : Array (Option Value)}
    {A_fold_of : Addr} {ocfold_of : Value} {odfold_of : Option Addr} {kVfold_of dcfold_of pmfold_of : Value} {anfold_of : Option Addr} {cdfold_of ctfold_of : Value} {slfold_of : Array (Option Value)}
    {A_fold : Addr} {ocfold : Value} {odfold : Option Addr} {kVfold dcfold pmfold : Value} {anfold : Option Addr} {cdfold ctfold : Value} {slfold : Array (Option Value)}
    {A__fold_of_row : Addr} {oc_fold_of_row : Value} {od_fold_of_row : Option Addr} {kV_fold_of_row dc_fold_of_row pm_fold_of_row : Value} {an_fold_of_row : Option Addr} {cd_fold_of_row ct_fold_of_row : Value} {sl_fold_of_row : Array (Option Value)}
    {A__put_beside : Addr} {oc_put_beside : Value} {od_put_beside : Option Addr} {kV_put_beside dc_put_beside pm_put_beside : Value} {an_put_beside : Option Addr} {cd_put_beside ct_put_beside : Value} {sl_put_beside : Array (Option Value)}
    {A__summed : Addr} {oc_summed : Value} {od_summed : Option Addr} {kV_summed dc_summed pm_summed : Value} {an_summed : Option Addr} {cd_summed ct_summed : Value} {sl_summed : Array (Option Value)}
    {A__law_cell : Addr} {oc_law_cell : Value} {od_law_cell : Option Addr} {kV_law_cell dc_law_cell pm_law_cell : Value} {an_law_cell : Option Addr} {cd_law_cell ct_law_cell : Value} {sl_law_cell : Array (Option Value)}
    {A__law_box : Addr} {oc_law_box : Value} {od_law_box : Option Addr} {kV_law_box dc_law_box pm_law_box : Value} {an_law_box : Option Addr} {cd_law_box ct_law_box : Value} {sl_law_box : Array (Option Value)}
    {A__law_take : Addr} {oc_law_take : Value} {od_law_take : Option Addr} {kV_law_take dc_law_take pm_law_take : Value} {an_law_take : Option Addr} {cd_law_take ct_law_take : Value} {sl_law_take : Array (Option Value)}
    {A__law_value : Addr} {oc_law_value : Value} {od_law_value : Option Addr} {kV_law_value dc_law_value pm_law_value : Value} {an_law_value : Option Addr} {cd_law_value ct_law_value : Value} {sl_law_value : Array (Option Value)}
    {A__law_row : Addr} {oc_law_row : Value} {od_law_row : Option Addr} {kV_law_row dc_law_row pm_law_row : Value} {an_law_row : Option Addr} {cd_law_row ct_law_row : Value} {sl_law_row : Array (Option Value)}
    {A__law_pool : Addr} {oc_law_pool : Value} {od_law_pool : Option Addr} {kV_law_pool dc_law_pool pm_law_pool : Value} {an_law_pool : Option Addr} {cd_law_pool ct_law_pool : Value} {sl_law_pool : Array (Option Value)}
    {A__law_rows : Addr} {oc_law_rows : Value} {od_law_rows : Option Addr} {kV_law_rows dc_law_rows pm_law_rows : Value} {an_law_rows : Option Addr} {cd_law_rows ct_law_rows : Value} {sl_law_rows : Array (Option Value)}
    {A__law_long : Addr} {oc_law_long : Value} {od_law_long : Option Addr} {kV_law_long dc_law_long pm_law_long : Value} {an_law_long : Option Addr} {cd_law_long ct_law_long : Value} {sl_law_long : Array (Option Value)}
    {A__law_is_count : Addr} {oc_law_is_count : Value} {od_law_is_count : Option Addr} {kV_law_is_count dc_law_is_count pm_law_is_count : Value} {an_law_is_count : Option Addr} {cd_law_is_count ct_law_is_count : Value} {sl_law_is_count : Array (Option Value)}
    {A__law_is_row : Addr} {oc_law_is_row : Value} {od_law_is_row : Option Addr} {kV_law_is_row dc_law_is_row pm_law_is_row : Value} {an_law_is_row : Option Addr} {cd_law_is_row ct_law_is_row : Value} {sl_law_is_row : Array (Option Value)}
    {A__law_fold : Addr} {oc_law_fold : Value} {od_law_fold : Option Addr} {kV_law_fold dc_law_fold pm_law_fold : Value} {an_law_fold : Option Addr} {cd_law_fold ct_law_fold : Value} {sl_law_fold : Array (Option Value)}
    {A__law_spoilt : Addr} {oc_law_spoilt : Value} {od_law_spoilt : Option Addr} {kV_law_spoilt dc_law_spoilt pm_law_spoilt : Value} {an_law_spoilt : Option Addr} {cd_law_spoilt ct_law_spoilt : Value} {sl_law_spoilt : Array (Option Value)}
    {A__law_asked : Addr} {oc_law_asked : Value} {od_law_asked : Option Addr} {kV_law_asked dc_law_asked pm_law_asked : Value} {an_law_asked : Option Addr} {cd_law_asked ct_law_asked : Value} {sl_law_asked : Array (Option Value)}
    {A__law_copy : Addr} {oc_law_copy : Value} {od_law_copy : Option Addr} {kV_law_copy dc_law_copy pm_law_copy : Value} {an_law_copy : Option Addr} {cd_law_copy ct_law_copy : Value} {sl_law_copy : Array (Option Value)}
    {A__law_refused : Addr} {oc_law_refused : Value} {od_law_refused : Option Addr} {kV_law_refused dc_law_refused pm_law_refused : Value} {an_law_refused : Option Addr} {cd_law_refused ct_law_refused : Value} {sl_law_refused : Array (Option Value)}
    {A__law_row_right : Addr} {oc_law_row_right : Value} {od_law_row_right : Option Addr} {kV_law_row_right dc_law_row_right pm_law_row_right : Value} {an_law_row_right : Option Addr} {cd_law_row_right ct_law_row_right : Value} {sl_law_row_right : Array (Option Value)}
    {A__law_rows_right : Addr} {oc_law_rows_right : Value} {od_law_rows_right : Option Addr} {kV_law_rows_right dc_law_rows_right pm_law_rows_right : Value} {an_law_rows_right : Option Addr} {cd_law_rows_right ct_law_rows_right : Value} {sl_law_rows_right : Array (Option Value)}
    {A__law_bare_right : Addr} {oc_law_bare_right : Value} {od_law_bare_right : Option Addr} {kV_law_bare_right dc_law_bare_right pm_law_bare_right : Value} {an_law_bare_right : Option Addr} {cd_law_bare_right ct_law_bare_right : Value} {sl_law_bare_right : Array (Option Value)}
    {A_law : Addr} {oclaw : Value} {odlaw : Option Addr} {kVlaw dclaw pmlaw : Value} {anlaw : Option Addr} {cdlaw ctlaw : Value} {sllaw : Array (Option Value)} (X : K.In h) (G : h.Ns mainGlobals mg) (hfa : mg "law" = some (.ref fa))
    (gC_InvalidPoints : PySem.W.nsIn K mainGlobals "InvalidPoints" = some (some (.ref C_InvalidPoints)))
    (cl_InvalidPoints : K.lookup C_InvalidPoints = some (excClassObj nm_InvalidPoints q_InvalidPoints C_InvalidPoints N_InvalidPoints bs_InvalidPoints (.ref GR :: PySem.ESX.exTail) true sn_InvalidPoints sub_InvalidPoints ab_InvalidPoints col_InvalidPoints dd_InvalidPoints m0_InvalidPoints m1_InvalidPoints m2_InvalidPoints m3_InvalidPoints m5_InvalidPoints "Exception.__new__"))
    (sa_InvalidPoints : PySem.W.findIn K (.ref C_InvalidPoints) "__setattr__" = some (some (.builtin "object.__setattr__")))
    (ga_InvalidPoints : PySem.W.findIn K (.ref C_InvalidPoints) "__getattribute__" = some (some (.builtin "BaseException.__getattribute__")))
    (gg_InvalidPoints : PySem.W.findIn K (.ref C_InvalidPoints) "__getattr__" = some none)
    (nn_InvalidPoints : PySem.W.findIn K (.ref C_InvalidPoints) "given" = some none)
    (iC_InvalidPoints : PySem.W.findIn K (.ref C_InvalidPoints) "__init__" = some (some (.ref I_InvalidPoints)))
    (tC_InvalidPoints : PySem.W.typeIn K (.ref I_InvalidPoints) = some (.type "function"))
    (fn_InvalidPoints : K.lookup I_InvalidPoints = some ⟨oc_InvalidPoints, od_InvalidPoints, .func (PySem.W.fnOf "__init__" "InvalidPoints.__init__" (PySem.EgX.iA_given p1_InvalidPoints p2_InvalidPoints) (PySem.EgX.iB_given r1_InvalidPoints r2_InvalidPoints r3_InvalidPoints r4_InvalidPoints) PySem.EgX.iS_given .none .none doc_InvalidPoints pm_InvalidPoints an_InvalidPoints cd_InvalidPoints ct_InvalidPoints), sl_InvalidPoints⟩)
    (co_InvalidPoints : PySem.W.codeIn K cd_InvalidPoints "InvalidPoints.__init__" = true)
    (kC_InvalidPoints : PySem.W.keepIn K (.ref C_InvalidPoints) = true)
    (eC_InvalidPoints : PySem.W.subIn K (.ref C_InvalidPoints) (.type "BaseException") = some true)
    (ty_InvalidPoints : PySem.W.typeIn K (.ref C_InvalidPoints) = some (.type "type"))
    (hd_InvalidPoints : PySem.W.hasDictIn K C_InvalidPoints = true)
    (ss_InvalidPoints : PySem.W.subIn K (.ref C_InvalidPoints) (.ref C_InvalidPoints) = some true)
    (gC_InvalidRows : PySem.W.nsIn K mainGlobals "InvalidRows" = some (some (.ref C_InvalidRows)))
    (cl_InvalidRows : K.lookup C_InvalidRows = some (excClassObj nm_InvalidRows q_InvalidRows C_InvalidRows N_InvalidRows bs_InvalidRows (.ref GR :: PySem.ESX.exTail) true sn_InvalidRows sub_InvalidRows ab_InvalidRows col_InvalidRows dd_InvalidRows m0_InvalidRows m1_InvalidRows m2_InvalidRows m3_InvalidRows m5_InvalidRows "Exception.__new__"))
    (sa_InvalidRows : PySem.W.findIn K (.ref C_InvalidRows) "__setattr__" = some (some (.builtin "object.__setattr__")))
    (ga_InvalidRows : PySem.W.findIn K (.ref C_InvalidRows) "__getattribute__" = some (some (.builtin "BaseException.__getattribute__")))
    (gg_InvalidRows : PySem.W.findIn K (.ref C_InvalidRows) "__getattr__" = some none)
    (nn_InvalidRows : PySem.W.findIn K (.ref C_InvalidRows) "given" = some none)
    (iC_InvalidRows : PySem.W.findIn K (.ref C_InvalidRows) "__init__" = some (some (.ref I_InvalidRows)))
    (tC_InvalidRows : PySem.W.typeIn K (.ref I_InvalidRows) = some (.type "function"))
    (fn_InvalidRows : K.lookup I_InvalidRows = some ⟨oc_InvalidRows, od_InvalidRows, .func (PySem.W.fnOf "__init__" "InvalidRows.__init__" (PySem.EgX.iA_given p1_InvalidRows p2_InvalidRows) (PySem.EgX.iB_given r1_InvalidRows r2_InvalidRows r3_InvalidRows r4_InvalidRows) PySem.EgX.iS_given .none .none doc_InvalidRows pm_InvalidRows an_InvalidRows cd_InvalidRows ct_InvalidRows), sl_InvalidRows⟩)
    (co_InvalidRows : PySem.W.codeIn K cd_InvalidRows "InvalidRows.__init__" = true)
    (kC_InvalidRows : PySem.W.keepIn K (.ref C_InvalidRows) = true)
    (eC_InvalidRows : PySem.W.subIn K (.ref C_InvalidRows) (.type "BaseException") = some true)
    (ty_InvalidRows : PySem.W.typeIn K (.ref C_InvalidRows) = some (.type "type"))
    (hd_InvalidRows : PySem.W.hasDictIn K C_InvalidRows = true)
    (ss_InvalidRows : PySem.W.subIn K (.ref C_InvalidRows) (.ref C_InvalidRows) = some true)
    (ne_InvalidPoints_InvalidRows : PySem.W.subIn K (.ref C_InvalidPoints) (.ref C_InvalidRows) = some false)
    (ne_InvalidRows_InvalidPoints : PySem.W.subIn K (.ref C_InvalidRows) (.ref C_InvalidPoints) = some false)
    (m_abs : PySem.W.nsIn K mainGlobals "abs" = some none)
    (m_all : PySem.W.nsIn K mainGlobals "all" = some none)
    (m_bool : PySem.W.nsIn K mainGlobals "bool" = some none)
    (m_int : PySem.W.nsIn K mainGlobals "int" = some none)
    (m_isinstance : PySem.W.nsIn K mainGlobals "isinstance" = some none)
    (m_len : PySem.W.nsIn K mainGlobals "len" = some none)
    (m_list : PySem.W.nsIn K mainGlobals "list" = some none)
    (m_max : PySem.W.nsIn K mainGlobals "max" = some none)
    (m_min : PySem.W.nsIn K mainGlobals "min" = some none)
    (m_range : PySem.W.nsIn K mainGlobals "range" = some none)
    (m_repr : PySem.W.nsIn K mainGlobals "repr" = some none)
    (m_str : PySem.W.nsIn K mainGlobals "str" = some none)
    (m_sum : PySem.W.nsIn K mainGlobals "sum" = some none)
    (m_tuple : PySem.W.nsIn K mainGlobals "tuple" = some none)
    (m_zip : PySem.W.nsIn K mainGlobals "zip" = some none)
    (a_is_list : PySem.W.nsIn K mainGlobals "is_list" = some (some (.ref A_is_list)))
    (l_is_list : K.lookup A_is_list = some ⟨ocis_list, odis_list, .func (PySem.W.fnOf "is_list" "is_list" (defArgs s_is_list) (defBody s_is_list) (defScope s_is_list) .none kVis_list dcis_list pmis_list anis_list cdis_list ctis_list), slis_list⟩)
    (c_is_list : PySem.W.codeIn K cdis_list "is_list" = true)
    (k_is_list : PySem.W.keepIn K (.ref A_is_list) = true)
    (a_is_integer : PySem.W.nsIn K mainGlobals "is_integer" = some (some (.ref A_is_integer)))
    (l_is_integer : K.lookup A_is_integer = some ⟨ocis_integer, odis_integer, .func (PySem.W.fnOf "is_integer" "is_integer" (defArgs s_is_integer) (defBody s_is_integer) (defScope s_is_integer) .none kVis_integer dcis_integer pmis_integer anis_integer cdis_integer ctis_integer), slis_integer⟩)
    (c_is_integer : PySem.W.codeIn K cdis_integer "is_integer" = true)
    (k_is_integer : PySem.W.keepIn K (.ref A_is_integer) = true)
    (a_is_count : PySem.W.nsIn K mainGlobals "is_count" = some (some (.ref A_is_count)))
    (l_is_count : K.lookup A_is_count = some ⟨ocis_count, odis_count, .func (PySem.W.fnOf "is_count" "is_count" (defArgs s_is_count) (defBody s_is_count) (defScope s_is_count) .none kVis_count dcis_count pmis_count anis_count cdis_count ctis_count), slis_count⟩)
    (c_is_count : PySem.W.codeIn K cdis_count "is_count" = true)
    (k_is_count : PySem.W.keepIn K (.ref A_is_count) = true)
    (a__is_point : PySem.W.nsIn K mainGlobals "_is_point" = some (some (.ref A__is_point)))
    (l__is_point : K.lookup A__is_point = some ⟨oc_is_point, od_is_point, .func (PySem.W.fnOf "_is_point" "_is_point" (defArgs s__is_point) (defBody s__is_point) (defScope s__is_point) .none kV_is_point dc_is_point pm_is_point an_is_point cd_is_point ct_is_point), sl_is_point⟩)
    (c__is_point : PySem.W.codeIn K cd_is_point "_is_point" = true)
    (k__is_point : PySem.W.keepIn K (.ref A__is_point) = true)
    (a_is_points : PySem.W.nsIn K mainGlobals "is_points" = some (some (.ref A_is_points)))
    (l_is_points : K.lookup A_is_points = some ⟨ocis_points, odis_points, .func (PySem.W.fnOf "is_points" "is_points" (defArgs s_is_points) (defBody s_is_points) (defScope s_is_points) .none kVis_points dcis_points pmis_points anis_points cdis_points ctis_points), slis_points⟩)
    (c_is_points : PySem.W.codeIn K cdis_points "is_points" = true)
    (k_is_points : PySem.W.keepIn K (.ref A_is_points) = true)
    (a__is_rows : PySem.W.nsIn K mainGlobals "_is_rows" = some (some (.ref A__is_rows)))
    (l__is_rows : K.lookup A__is_rows = some ⟨oc_is_rows, od_is_rows, .func (PySem.W.fnOf "_is_rows" "_is_rows" (defArgs s__is_rows) (defBody s__is_rows) (defScope s__is_rows) .none kV_is_rows dc_is_rows pm_is_rows an_is_rows cd_is_rows ct_is_rows), sl_is_rows⟩)
    (c__is_rows : PySem.W.codeIn K cd_is_rows "_is_rows" = true)
    (k__is_rows : PySem.W.keepIn K (.ref A__is_rows) = true)
    (a_fold_of : PySem.W.nsIn K mainGlobals "fold_of" = some (some (.ref A_fold_of)))
    (l_fold_of : K.lookup A_fold_of = some ⟨ocfold_of, odfold_of, .func (PySem.W.fnOf "fold_of" "fold_of" (defArgs s_fold_of) (defBody s_fold_of) (defScope s_fold_of) .none kVfold_of dcfold_of pmfold_of anfold_of cdfold_of ctfold_of), slfold_of⟩)
    (c_fold_of : PySem.W.codeIn K cdfold_of "fold_of" = true)
    (k_fold_of : PySem.W.keepIn K (.ref A_fold_of) = true)
    (a_fold : PySem.W.nsIn K mainGlobals "fold" = some (some (.ref A_fold)))
    (l_fold : K.lookup A_fold = some ⟨ocfold, odfold, .func (PySem.W.fnOf "fold" "fold" (defArgs s_fold) (defBody s_fold) (defScope s_fold) .none kVfold dcfold pmfold anfold cdfold ctfold), slfold⟩)
    (c_fold : PySem.W.codeIn K cdfold "fold" = true)
    (k_fold : PySem.W.keepIn K (.ref A_fold) = true)
    (a__fold_of_row : PySem.W.nsIn K mainGlobals "_fold_of_row" = some (some (.ref A__fold_of_row)))
    (l__fold_of_row : K.lookup A__fold_of_row = some ⟨oc_fold_of_row, od_fold_of_row, .func (PySem.W.fnOf "_fold_of_row" "_fold_of_row" (defArgs s__fold_of_row) (defBody s__fold_of_row) (defScope s__fold_of_row) .none kV_fold_of_row dc_fold_of_row pm_fold_of_row an_fold_of_row cd_fold_of_row ct_fold_of_row), sl_fold_of_row⟩)
    (c__fold_of_row : PySem.W.codeIn K cd_fold_of_row "_fold_of_row" = true)
    (k__fold_of_row : PySem.W.keepIn K (.ref A__fold_of_row) = true)
    (a__put_beside : PySem.W.nsIn K mainGlobals "_put_beside" = some (some (.ref A__put_beside)))
    (l__put_beside : K.lookup A__put_beside = some ⟨oc_put_beside, od_put_beside, .func (PySem.W.fnOf "_put_beside" "_put_beside" (defArgs s__put_beside) (defBody s__put_beside) (defScope s__put_beside) .none kV_put_beside dc_put_beside pm_put_beside an_put_beside cd_put_beside ct_put_beside), sl_put_beside⟩)
    (c__put_beside : PySem.W.codeIn K cd_put_beside "_put_beside" = true)
    (k__put_beside : PySem.W.keepIn K (.ref A__put_beside) = true)
    (a__summed : PySem.W.nsIn K mainGlobals "_summed" = some (some (.ref A__summed)))
    (l__summed : K.lookup A__summed = some ⟨oc_summed, od_summed, .func (PySem.W.fnOf "_summed" "_summed" (defArgs s__summed) (defBody s__summed) (defScope s__summed) .none kV_summed dc_summed pm_summed an_summed cd_summed ct_summed), sl_summed⟩)
    (c__summed : PySem.W.codeIn K cd_summed "_summed" = true)
    (k__summed : PySem.W.keepIn K (.ref A__summed) = true)
    (a__law_cell : PySem.W.nsIn K mainGlobals "_law_cell" = some (some (.ref A__law_cell)))
    (l__law_cell : K.lookup A__law_cell = some ⟨oc_law_cell, od_law_cell, .func (PySem.W.fnOf "_law_cell" "_law_cell" (defArgs s__law_cell) (defBody s__law_cell) (defScope s__law_cell) .none kV_law_cell dc_law_cell pm_law_cell an_law_cell cd_law_cell ct_law_cell), sl_law_cell⟩)
    (c__law_cell : PySem.W.codeIn K cd_law_cell "_law_cell" = true)
    (k__law_cell : PySem.W.keepIn K (.ref A__law_cell) = true)
    (a__law_box : PySem.W.nsIn K mainGlobals "_law_box" = some (some (.ref A__law_box)))
    (l__law_box : K.lookup A__law_box = some ⟨oc_law_box, od_law_box, .func (PySem.W.fnOf "_law_box" "_law_box" (defArgs s__law_box) (defBody s__law_box) (defScope s__law_box) .none kV_law_box dc_law_box pm_law_box an_law_box cd_law_box ct_law_box), sl_law_box⟩)
    (c__law_box : PySem.W.codeIn K cd_law_box "_law_box" = true)
    (k__law_box : PySem.W.keepIn K (.ref A__law_box) = true)
    (a__law_take : PySem.W.nsIn K mainGlobals "_law_take" = some (some (.ref A__law_take)))
    (l__law_take : K.lookup A__law_take = some ⟨oc_law_take, od_law_take, .func (PySem.W.fnOf "_law_take" "_law_take" (defArgs s__law_take) (defBody s__law_take) (defScope s__law_take) .none kV_law_take dc_law_take pm_law_take an_law_take cd_law_take ct_law_take), sl_law_take⟩)
    (c__law_take : PySem.W.codeIn K cd_law_take "_law_take" = true)
    (k__law_take : PySem.W.keepIn K (.ref A__law_take) = true)
    (a__law_value : PySem.W.nsIn K mainGlobals "_law_value" = some (some (.ref A__law_value)))
    (l__law_value : K.lookup A__law_value = some ⟨oc_law_value, od_law_value, .func (PySem.W.fnOf "_law_value" "_law_value" (defArgs s__law_value) (defBody s__law_value) (defScope s__law_value) .none kV_law_value dc_law_value pm_law_value an_law_value cd_law_value ct_law_value), sl_law_value⟩)
    (c__law_value : PySem.W.codeIn K cd_law_value "_law_value" = true)
    (k__law_value : PySem.W.keepIn K (.ref A__law_value) = true)
    (a__law_row : PySem.W.nsIn K mainGlobals "_law_row" = some (some (.ref A__law_row)))
    (l__law_row : K.lookup A__law_row = some ⟨oc_law_row, od_law_row, .func (PySem.W.fnOf "_law_row" "_law_row" (defArgs s__law_row) (defBody s__law_row) (defScope s__law_row) .none kV_law_row dc_law_row pm_law_row an_law_row cd_law_row ct_law_row), sl_law_row⟩)
    (c__law_row : PySem.W.codeIn K cd_law_row "_law_row" = true)
    (k__law_row : PySem.W.keepIn K (.ref A__law_row) = true)
    (a__law_pool : PySem.W.nsIn K mainGlobals "_law_pool" = some (some (.ref A__law_pool)))
    (l__law_pool : K.lookup A__law_pool = some ⟨oc_law_pool, od_law_pool, .func (PySem.W.fnOf "_law_pool" "_law_pool" (defArgs s__law_pool) (defBody s__law_pool) (defScope s__law_pool) .none kV_law_pool dc_law_pool pm_law_pool an_law_pool cd_law_pool ct_law_pool), sl_law_pool⟩)
    (c__law_pool : PySem.W.codeIn K cd_law_pool "_law_pool" = true)
    (k__law_pool : PySem.W.keepIn K (.ref A__law_pool) = true)
    (a__law_rows : PySem.W.nsIn K mainGlobals "_law_rows" = some (some (.ref A__law_rows)))
    (l__law_rows : K.lookup A__law_rows = some ⟨oc_law_rows, od_law_rows, .func (PySem.W.fnOf "_law_rows" "_law_rows" (defArgs s__law_rows) (defBody s__law_rows) (defScope s__law_rows) .none kV_law_rows dc_law_rows pm_law_rows an_law_rows cd_law_rows ct_law_rows), sl_law_rows⟩)
    (c__law_rows : PySem.W.codeIn K cd_law_rows "_law_rows" = true)
    (k__law_rows : PySem.W.keepIn K (.ref A__law_rows) = true)
    (a__law_long : PySem.W.nsIn K mainGlobals "_law_long" = some (some (.ref A__law_long)))
    (l__law_long : K.lookup A__law_long = some ⟨oc_law_long, od_law_long, .func (PySem.W.fnOf "_law_long" "_law_long" (defArgs s__law_long) (defBody s__law_long) (defScope s__law_long) .none kV_law_long dc_law_long pm_law_long an_law_long cd_law_long ct_law_long), sl_law_long⟩)
    (c__law_long : PySem.W.codeIn K cd_law_long "_law_long" = true)
    (k__law_long : PySem.W.keepIn K (.ref A__law_long) = true)
    (a__law_is_count : PySem.W.nsIn K mainGlobals "_law_is_count" = some (some (.ref A__law_is_count)))
    (l__law_is_count : K.lookup A__law_is_count = some ⟨oc_law_is_count, od_law_is_count, .func (PySem.W.fnOf "_law_is_count" "_law_is_count" (defArgs s__law_is_count) (defBody s__law_is_count) (defScope s__law_is_count) .none kV_law_is_count dc_law_is_count pm_law_is_count an_law_is_count cd_law_is_count ct_law_is_count), sl_law_is_count⟩)
    (c__law_is_count : PySem.W.codeIn K cd_law_is_count "_law_is_count" = true)
    (k__law_is_count : PySem.W.keepIn K (.ref A__law_is_count) = true)
    (a__law_is_row : PySem.W.nsIn K mainGlobals "_law_is_row" = some (some (.ref A__law_is_row)))
    (l__law_is_row : K.lookup A__law_is_row = some ⟨oc_law_is_row, od_law_is_row, .func (PySem.W.fnOf "_law_is_row" "_law_is_row" (defArgs s__law_is_row) (defBody s__law_is_row) (defScope s__law_is_row) .none kV_law_is_row dc_law_is_row pm_law_is_row an_law_is_row cd_law_is_row ct_law_is_row), sl_law_is_row⟩)
    (c__law_is_row : PySem.W.codeIn K cd_law_is_row "_law_is_row" = true)
    (k__law_is_row : PySem.W.keepIn K (.ref A__law_is_row) = true)
    (a__law_fold : PySem.W.nsIn K mainGlobals "_law_fold" = some (some (.ref A__law_fold)))
    (l__law_fold : K.lookup A__law_fold = some ⟨oc_law_fold, od_law_fold, .func (PySem.W.fnOf "_law_fold" "_law_fold" (defArgs s__law_fold) (defBody s__law_fold) (defScope s__law_fold) .none kV_law_fold dc_law_fold pm_law_fold an_law_fold cd_law_fold ct_law_fold), sl_law_fold⟩)
    (c__law_fold : PySem.W.codeIn K cd_law_fold "_law_fold" = true)
    (k__law_fold : PySem.W.keepIn K (.ref A__law_fold) = true)
    (a__law_spoilt : PySem.W.nsIn K mainGlobals "_law_spoilt" = some (some (.ref A__law_spoilt)))
    (l__law_spoilt : K.lookup A__law_spoilt = some ⟨oc_law_spoilt, od_law_spoilt, .func (PySem.W.fnOf "_law_spoilt" "_law_spoilt" (defArgs s__law_spoilt) (defBody s__law_spoilt) (defScope s__law_spoilt) .none kV_law_spoilt dc_law_spoilt pm_law_spoilt an_law_spoilt cd_law_spoilt ct_law_spoilt), sl_law_spoilt⟩)
    (c__law_spoilt : PySem.W.codeIn K cd_law_spoilt "_law_spoilt" = true)
    (k__law_spoilt : PySem.W.keepIn K (.ref A__law_spoilt) = true)
    (a__law_asked : PySem.W.nsIn K mainGlobals "_law_asked" = some (some (.ref A__law_asked)))
    (l__law_asked : K.lookup A__law_asked = some ⟨oc_law_asked, od_law_asked, .func (PySem.W.fnOf "_law_asked" "_law_asked" (defArgs s__law_asked) (defBody s__law_asked) (defScope s__law_asked) .none kV_law_asked dc_law_asked pm_law_asked an_law_asked cd_law_asked ct_law_asked), sl_law_asked⟩)
    (c__law_asked : PySem.W.codeIn K cd_law_asked "_law_asked" = true)
    (k__law_asked : PySem.W.keepIn K (.ref A__law_asked) = true)
    (a__law_copy : PySem.W.nsIn K mainGlobals "_law_copy" = some (some (.ref A__law_copy)))
    (l__law_copy : K.lookup A__law_copy = some ⟨oc_law_copy, od_law_copy, .func (PySem.W.fnOf "_law_copy" "_law_copy" (defArgs s__law_copy) (defBody s__law_copy) (defScope s__law_copy) .none kV_law_copy dc_law_copy pm_law_copy an_law_copy cd_law_copy ct_law_copy), sl_law_copy⟩)
    (c__law_copy : PySem.W.codeIn K cd_law_copy "_law_copy" = true)
    (k__law_copy : PySem.W.keepIn K (.ref A__law_copy) = true)
    (a__law_refused : PySem.W.nsIn K mainGlobals "_law_refused" = some (some (.ref A__law_refused)))
    (l__law_refused : K.lookup A__law_refused = some ⟨oc_law_refused, od_law_refused, .func (PySem.W.fnOf "_law_refused" "_law_refused" (defArgs s__law_refused) (defBody s__law_refused) (defScope s__law_refused) .none kV_law_refused dc_law_refused pm_law_refused an_law_refused cd_law_refused ct_law_refused), sl_law_refused⟩)
    (c__law_refused : PySem.W.codeIn K cd_law_refused "_law_refused" = true)
    (k__law_refused : PySem.W.keepIn K (.ref A__law_refused) = true)
    (a__law_row_right : PySem.W.nsIn K mainGlobals "_law_row_right" = some (some (.ref A__law_row_right)))
    (l__law_row_right : K.lookup A__law_row_right = some ⟨oc_law_row_right, od_law_row_right, .func (PySem.W.fnOf "_law_row_right" "_law_row_right" (defArgs s__law_row_right) (defBody s__law_row_right) (defScope s__law_row_right) .none kV_law_row_right dc_law_row_right pm_law_row_right an_law_row_right cd_law_row_right ct_law_row_right), sl_law_row_right⟩)
    (c__law_row_right : PySem.W.codeIn K cd_law_row_right "_law_row_right" = true)
    (k__law_row_right : PySem.W.keepIn K (.ref A__law_row_right) = true)
    (a__law_rows_right : PySem.W.nsIn K mainGlobals "_law_rows_right" = some (some (.ref A__law_rows_right)))
    (l__law_rows_right : K.lookup A__law_rows_right = some ⟨oc_law_rows_right, od_law_rows_right, .func (PySem.W.fnOf "_law_rows_right" "_law_rows_right" (defArgs s__law_rows_right) (defBody s__law_rows_right) (defScope s__law_rows_right) .none kV_law_rows_right dc_law_rows_right pm_law_rows_right an_law_rows_right cd_law_rows_right ct_law_rows_right), sl_law_rows_right⟩)
    (c__law_rows_right : PySem.W.codeIn K cd_law_rows_right "_law_rows_right" = true)
    (k__law_rows_right : PySem.W.keepIn K (.ref A__law_rows_right) = true)
    (a__law_bare_right : PySem.W.nsIn K mainGlobals "_law_bare_right" = some (some (.ref A__law_bare_right)))
    (l__law_bare_right : K.lookup A__law_bare_right = some ⟨oc_law_bare_right, od_law_bare_right, .func (PySem.W.fnOf "_law_bare_right" "_law_bare_right" (defArgs s__law_bare_right) (defBody s__law_bare_right) (defScope s__law_bare_right) .none kV_law_bare_right dc_law_bare_right pm_law_bare_right an_law_bare_right cd_law_bare_right ct_law_bare_right), sl_law_bare_right⟩)
    (c__law_bare_right : PySem.W.codeIn K cd_law_bare_right "_law_bare_right" = true)
    (k__law_bare_right : PySem.W.keepIn K (.ref A__law_bare_right) = true)
    (a_law : PySem.W.nsIn K mainGlobals "law" = some (some (.ref A_law)))
    (l_law : K.lookup A_law = some ⟨oclaw, odlaw, .func (PySem.W.fnOf "law" "law" (defArgs s_law) (defBody s_law) (defScope s_law) .none kVlaw dclaw pmlaw anlaw cdlaw ctlaw), sllaw⟩)
    (c_law : PySem.W.codeIn K cdlaw "law" = true)
    (k_law : PySem.W.keepIn K (.ref A_law) = true) :
    ∃ fd : FuncData, (∀ (s : Shared) (u : Value), BindsTo s fd ⟨[u], []⟩ [("script", u)]) ∧ ∀ base : Heap, K.In base → base.Ns mainGlobals mg → (∃ o, base.get? sysModules = some o) → FnG PySem.Challenge.pw_everygrain_k09_folds_by_walks w K mg base (L2.CX PySem.Challenge.pw_everygrain_k09_folds_by_walks w) 10 fa fd ["script"] (SpD fun as φ Kq F XK => ∃ ns : List Int, as = [.scr K ns] ∧ 100000 ≤ φ ∧ (φ : Int) ≤ draws ∧ ns.length ≤ 1000000 ∧ ∀ φ', Kq (.bool true) φ') := by
  have e := hfa.symm.trans (PySem.W.mg_of X G a_law)
  cases e
  have low_InvalidPoints : PySem.EgX.Low_given K mg "InvalidPoints" "InvalidPoints.__init__" C_InvalidPoints GR I_InvalidPoints := ⟨PySem.W.mg_of X G gC_InvalidPoints, ⟨_, _, _, _, _, _, _, _, _, _, _, _, _, _, cl_InvalidPoints⟩, sa_InvalidPoints, ga_InvalidPoints, gg_InvalidPoints, nn_InvalidPoints, iC_InvalidPoints, tC_InvalidPoints, kC_InvalidPoints, eC_InvalidPoints, ty_InvalidPoints, hd_InvalidPoints, PySem.W.exm_ref eC_InvalidPoints hd_InvalidPoints ty_InvalidPoints ss_InvalidPoints, ⟨_, _, _, _, _, _, _, _, _, _, _, _, _, _, fn_InvalidPoints, co_InvalidPoints⟩⟩
  have low_InvalidRows : PySem.EgX.Low_given K mg "InvalidRows" "InvalidRows.__init__" C_InvalidRows GR I_InvalidRows := ⟨PySem.W.mg_of X G gC_InvalidRows, ⟨_, _, _, _, _, _, _, _, _, _, _, _, _, _, cl_InvalidRows⟩, sa_InvalidRows, ga_InvalidRows, gg_InvalidRows, nn_InvalidRows, iC_InvalidRows, tC_InvalidRows, kC_InvalidRows, eC_InvalidRows, ty_InvalidRows, hd_InvalidRows, PySem.W.exm_ref eC_InvalidRows hd_InvalidRows ty_InvalidRows ss_InvalidRows, ⟨_, _, _, _, _, _, _, _, _, _, _, _, _, _, fn_InvalidRows, co_InvalidRows⟩⟩
  have F_is_list := fun_mk (st := s_is_list) l_is_list c_is_list k_is_list
  have b_is_list := F_is_list.binds (ps := ["value"]) fun _ _ _ _ _ _ us hl => match us, hl with | [_], _ => rfl
  have F_is_integer := fun_mk (st := s_is_integer) l_is_integer c_is_integer k_is_integer
  have b_is_integer := F_is_integer.binds (ps := ["value"]) fun _ _ _ _ _ _ us hl => match us, hl with | [_], _ => rfl
  have F_is_count := fun_mk (st := s_is_count) l_is_count c_is_count k_is_count
  have b_is_count := F_is_count.binds (ps := ["value"]) fun _ _ _ _ _ _ us hl => match us, hl with | [_], _ => rfl
  have F__is_point := fun_mk (st := s__is_point) l__is_point c__is_point k__is_point
  have b__is_point := F__is_point.binds (ps := ["value"]) fun _ _ _ _ _ _ us hl => match us, hl with | [_], _ => rfl
  have F_is_points := fun_mk (st := s_is_points) l_is_points c_is_points k_is_points
  have b_is_points := F_is_points.binds (ps := ["value"]) fun _ _ _ _ _ _ us hl => match us, hl with | [_], _ => rfl
  have F__is_rows := fun_mk (st := s__is_rows) l__is_rows c__is_rows k__is_rows
  have b__is_rows := F__is_rows.binds (ps := ["value"]) fun _ _ _ _ _ _ us hl => match us, hl with | [_], _ => rfl
  have F_fold_of := fun_mk (st := s_fold_of) l_fold_of c_fold_of k_fold_of
  have b_fold_of := F_fold_of.binds (ps := ["rows"]) fun _ _ _ _ _ _ us hl => match us, hl with | [_], _ => rfl
  have F_fold := fun_mk (st := s_fold) l_fold c_fold k_fold
  have b_fold := F_fold.binds (ps := ["points"]) fun _ _ _ _ _ _ us hl => match us, hl with | [_], _ => rfl
  have F__fold_of_row := fun_mk (st := s__fold_of_row) l__fold_of_row c__fold_of_row k__fold_of_row
  have b__fold_of_row := F__fold_of_row.binds (ps := ["points"]) fun _ _ _ _ _ _ us hl => match us, hl with | [_], _ => rfl
  have F__put_beside := fun_mk (st := s__put_beside) l__put_beside c__put_beside k__put_beside
  have b__put_beside := F__put_beside.binds (ps := ["one", "other"]) fun _ _ _ _ _ _ us hl => match us, hl with | [_, _], _ => rfl
  have F__summed := fun_mk (st := s__summed) l__summed c__summed k__summed
  have b__summed := F__summed.binds (ps := ["one", "other"]) fun _ _ _ _ _ _ us hl => match us, hl with | [_, _], _ => rfl
  have F__law_cell := fun_mk (st := s__law_cell) l__law_cell c__law_cell k__law_cell
  have b__law_cell := F__law_cell.binds (ps := ["script", "k"]) fun _ _ _ _ _ _ us hl => match us, hl with | [_, _], _ => rfl
  have F__law_box := fun_mk (st := s__law_box) l__law_box c__law_box k__law_box
  have b__law_box := F__law_box.binds (ps := ["great"]) fun _ _ _ _ _ _ us hl => match us, hl with | [_], _ => rfl
  have F__law_take := fun_mk (st := s__law_take) l__law_take c__law_take k__law_take
  have b__law_take := F__law_take.binds (ps := ["box", "many"]) fun _ _ _ _ _ _ us hl => match us, hl with | [_, _], _ => rfl
  have F__law_value := fun_mk (st := s__law_value) l__law_value c__law_value k__law_value
  have b__law_value := F__law_value.binds (ps := ["box"]) fun _ _ _ _ _ _ us hl => match us, hl with | [_], _ => rfl
  have F__law_row := fun_mk (st := s__law_row) l__law_row c__law_row k__law_row
  have b__law_row := F__law_row.binds (ps := ["box", "pool"]) fun _ _ _ _ _ _ us hl => match us, hl with | [_, _], _ => rfl
  have F__law_pool := fun_mk (st := s__law_pool) l__law_pool c__law_pool k__law_pool
  have b__law_pool := F__law_pool.binds (ps := ["box"]) fun _ _ _ _ _ _ us hl => match us, hl with | [_], _ => rfl
  have F__law_rows := fun_mk (st := s__law_rows) l__law_rows c__law_rows k__law_rows
  have b__law_rows := F__law_rows.binds (ps := ["box"]) fun _ _ _ _ _ _ us hl => match us, hl with | [_], _ => rfl
  have F__law_long := fun_mk (st := s__law_long) l__law_long c__law_long k__law_long
  have b__law_long := F__law_long.binds (ps := ["box"]) fun _ _ _ _ _ _ us hl => match us, hl with | [_], _ => rfl
  have F__law_is_count := fun_mk (st := s__law_is_count) l__law_is_count c__law_is_count k__law_is_count
  have b__law_is_count := F__law_is_count.binds (ps := ["value"]) fun _ _ _ _ _ _ us hl => match us, hl with | [_], _ => rfl
  have F__law_is_row := fun_mk (st := s__law_is_row) l__law_is_row c__law_is_row k__law_is_row
  have b__law_is_row := F__law_is_row.binds (ps := ["value"]) fun _ _ _ _ _ _ us hl => match us, hl with | [_], _ => rfl
  have F__law_fold := fun_mk (st := s__law_fold) l__law_fold c__law_fold k__law_fold
  have b__law_fold := F__law_fold.binds (ps := ["rows"]) fun _ _ _ _ _ _ us hl => match us, hl with | [_], _ => rfl
  have F__law_spoilt := fun_mk (st := s__law_spoilt) l__law_spoilt c__law_spoilt k__law_spoilt
  have b__law_spoilt := F__law_spoilt.binds (ps := ["box", "row"]) fun _ _ _ _ _ _ us hl => match us, hl with | [_, _], _ => rfl
  have F__law_asked := fun_mk (st := s__law_asked) l__law_asked c__law_asked k__law_asked
  have b__law_asked := F__law_asked.binds (ps := ["door", "value"]) fun _ _ _ _ _ _ us hl => match us, hl with | [_, _], _ => rfl
  have F__law_copy := fun_mk (st := s__law_copy) l__law_copy c__law_copy k__law_copy
  have b__law_copy := F__law_copy.binds (ps := ["value"]) fun _ _ _ _ _ _ us hl => match us, hl with | [_], _ => rfl
  have F__law_refused := fun_mk (st := s__law_refused) l__law_refused c__law_refused k__law_refused
  have b__law_refused := F__law_refused.binds (ps := ["door", "value"]) fun _ _ _ _ _ _ us hl => match us, hl with | [_, _], _ => rfl
  have F__law_row_right := fun_mk (st := s__law_row_right) l__law_row_right c__law_row_right k__law_row_right
  have b__law_row_right := F__law_row_right.binds (ps := ["value", "rows", "at"]) fun _ _ _ _ _ _ us hl => match us, hl with | [_, _, _], _ => rfl
  have F__law_rows_right := fun_mk (st := s__law_rows_right) l__law_rows_right c__law_rows_right k__law_rows_right
  have b__law_rows_right := F__law_rows_right.binds (ps := ["rows"]) fun _ _ _ _ _ _ us hl => match us, hl with | [_], _ => rfl
  have F__law_bare_right := fun_mk (st := s__law_bare_right) l__law_bare_right c__law_bare_right k__law_bare_right
  have b__law_bare_right := F__law_bare_right.binds (ps := []) fun _ _ _ _ _ _ us hl => match us, hl with | [], _ => rfl
  have F_law := fun_mk (st := s_law) l_law c_law k_law
  have b_law := F_law.binds (ps := ["script"]) fun _ _ _ _ _ _ us hl => match us, hl with | [_], _ => rfl
  refine ⟨PySem.W.fnOf "law" "law" (defArgs s_law) (defBody s_law) (defScope s_law) .none kVlaw dclaw pmlaw anlaw cdlaw ctlaw, fun s u => .of_eq rfl, fun base KB _ SY => ?_⟩
  exact ok_law (P := PySem.Challenge.pw_everygrain_k09_folds_by_walks) (w := w) (K := K) (mg := mg) (base := base) { sys := SY, m_abs := PySem.W.mg_none_of X G m_abs, m_all := PySem.W.mg_none_of X G m_all, m_bool := PySem.W.mg_none_of X G m_bool, m_int := PySem.W.mg_none_of X G m_int, m_isinstance := PySem.W.mg_none_of X G m_isinstance, m_len := PySem.W.mg_none_of X G m_len, m_list := PySem.W.mg_none_of X G m_list, m_max := PySem.W.mg_none_of X G m_max, m_min := PySem.W.mg_none_of X G m_min, m_range := PySem.W.mg_none_of X G m_range, m_repr := PySem.W.mg_none_of X G m_repr, m_str := PySem.W.mg_none_of X G m_str, m_sum := PySem.W.mg_none_of X G m_sum, m_tuple := PySem.W.mg_none_of X G m_tuple, m_zip := PySem.W.mg_none_of X G m_zip, grain := GR, c_InvalidPoints := C_InvalidPoints, i_InvalidPoints := I_InvalidPoints, low_InvalidPoints := low_InvalidPoints, c_InvalidRows := C_InvalidRows, i_InvalidRows := I_InvalidRows, low_InvalidRows := low_InvalidRows, ne_InvalidPoints_InvalidRows := PySem.W.exm_ref eC_InvalidRows hd_InvalidRows ty_InvalidRows ne_InvalidPoints_InvalidRows, ne_InvalidRows_InvalidPoints := PySem.W.exm_ref eC_InvalidPoints hd_InvalidPoints ty_InvalidPoints ne_InvalidRows_InvalidPoints, a_is_list := A_is_list, fd_is_list := _, g_is_list := PySem.W.mg_of X G a_is_list, F_is_list := F_is_list, b_is_list := b_is_list, a_is_integer := A_is_integer, fd_is_integer := _, g_is_integer := PySem.W.mg_of X G a_is_integer, F_is_integer := F_is_integer, b_is_integer := b_is_integer, a_is_count := A_is_count, fd_is_count := _, g_is_count := PySem.W.mg_of X G a_is_count, F_is_count := F_is_count, b_is_count := b_is_count, a__is_point := A__is_point, fd__is_point := _, g__is_point := PySem.W.mg_of X G a__is_point, F__is_point := F__is_point, b__is_point := b__is_point, a_is_points := A_is_points, fd_is_points := _, g_is_points := PySem.W.mg_of X G a_is_points, F_is_points := F_is_points, b_is_points := b_is_points, a__is_rows := A__is_rows, fd__is_rows := _, g__is_rows := PySem.W.mg_of X G a__is_rows, F__is_rows := F__is_rows, b__is_rows := b__is_rows, a_fold_of := A_fold_of, fd_fold_of := _, g_fold_of := PySem.W.mg_of X G a_fold_of, F_fold_of := F_fold_of, b_fold_of := b_fold_of, a_fold := A_fold, fd_fold := _, g_fold := PySem.W.mg_of X G a_fold, F_fold := F_fold, b_fold := b_fold, a__fold_of_row := A__fold_of_row, fd__fold_of_row := _, g__fold_of_row := PySem.W.mg_of X G a__fold_of_row, F__fold_of_row := F__fold_of_row, b__fold_of_row := b__fold_of_row, a__put_beside := A__put_beside, fd__put_beside := _, g__put_beside := PySem.W.mg_of X G a__put_beside, F__put_beside := F__put_beside, b__put_beside := b__put_beside, a__summed := A__summed, fd__summed := _, g__summed := PySem.W.mg_of X G a__summed, F__summed := F__summed, b__summed := b__summed, a__law_cell := A__law_cell, fd__law_cell := _, g__law_cell := PySem.W.mg_of X G a__law_cell, F__law_cell := F__law_cell, b__law_cell := b__law_cell, a__law_box := A__law_box, fd__law_box := _, g__law_box := PySem.W.mg_of X G a__law_box, F__law_box := F__law_box, b__law_box := b__law_box, a__law_take := A__law_take, fd__law_take := _, g__law_take := PySem.W.mg_of X G a__law_take, F__law_take := F__law_take, b__law_take := b__law_take, a__law_value := A__law_value, fd__law_value := _, g__law_value := PySem.W.mg_of X G a__law_value, F__law_value := F__law_value, b__law_value := b__law_value, a__law_row := A__law_row, fd__law_row := _, g__law_row := PySem.W.mg_of X G a__law_row, F__law_row := F__law_row, b__law_row := b__law_row, a__law_pool := A__law_pool, fd__law_pool := _, g__law_pool := PySem.W.mg_of X G a__law_pool, F__law_pool := F__law_pool, b__law_pool := b__law_pool, a__law_rows := A__law_rows, fd__law_rows := _, g__law_rows := PySem.W.mg_of X G a__law_rows, F__law_rows := F__law_rows, b__law_rows := b__law_rows, a__law_long := A__law_long, fd__law_long := _, g__law_long := PySem.W.mg_of X G a__law_long, F__law_long := F__law_long, b__law_long := b__law_long, a__law_is_count := A__law_is_count, fd__law_is_count := _, g__law_is_count := PySem.W.mg_of X G a__law_is_count, F__law_is_count := F__law_is_count, b__law_is_count := b__law_is_count, a__law_is_row := A__law_is_row, fd__law_is_row := _, g__law_is_row := PySem.W.mg_of X G a__law_is_row, F__law_is_row := F__law_is_row, b__law_is_row := b__law_is_row, a__law_fold := A__law_fold, fd__law_fold := _, g__law_fold := PySem.W.mg_of X G a__law_fold, F__law_fold := F__law_fold, b__law_fold := b__law_fold, a__law_spoilt := A__law_spoilt, fd__law_spoilt := _, g__law_spoilt := PySem.W.mg_of X G a__law_spoilt, F__law_spoilt := F__law_spoilt, b__law_spoilt := b__law_spoilt, a__law_asked := A__law_asked, fd__law_asked := _, g__law_asked := PySem.W.mg_of X G a__law_asked, F__law_asked := F__law_asked, b__law_asked := b__law_asked, a__law_copy := A__law_copy, fd__law_copy := _, g__law_copy := PySem.W.mg_of X G a__law_copy, F__law_copy := F__law_copy, b__law_copy := b__law_copy, a__law_refused := A__law_refused, fd__law_refused := _, g__law_refused := PySem.W.mg_of X G a__law_refused, F__law_refused := F__law_refused, b__law_refused := b__law_refused, a__law_row_right := A__law_row_right, fd__law_row_right := _, g__law_row_right := PySem.W.mg_of X G a__law_row_right, F__law_row_right := F__law_row_right, b__law_row_right := b__law_row_right, a__law_rows_right := A__law_rows_right, fd__law_rows_right := _, g__law_rows_right := PySem.W.mg_of X G a__law_rows_right, F__law_rows_right := F__law_rows_right, b__law_rows_right := b__law_rows_right, a__law_bare_right := A__law_bare_right, fd__law_bare_right := _, g__law_bare_right := PySem.W.mg_of X G a__law_bare_right, F__law_bare_right := F__law_bare_right, b__law_bare_right := b__law_bare_right, a_law := fa, fd_law := _, g_law := PySem.W.mg_of X G a_law, F_law := F_law, b_law := b_law, kb_fold_0_points := ⟨fun s us ws h1 h2 => match us, h1, ws, h2 with | [], _, [_], _ => .of_eq rfl, fun _ z _ _ => z⟩, kb_fold_of_0_rows := ⟨fun s us ws h1 h2 => match us, h1, ws, h2 with | [], _, [_], _ => .of_eq rfl, fun _ z _ _ => z⟩, kb_is_points_0_value := ⟨fun s us ws h1 h2 => match us, h1, ws, h2 with | [], _, [_], _ => .of_eq rfl, fun _ z _ _ => z⟩ }
end K9
open PySem PySem.W PyProof.Rows
set_option maxRecDepth 100000 in
set_option maxHeartbeats 0 in
theorem PySem.Challenge.cw_everygrain_k09_folds_by_walks_holds : PySem.Challenge.rw_everygrain_k09_folds_by_walks.Holds := by
  w_on; o_law; k_head; (case hw => w_witness2)
  k_fill
  refine Eg.walk_ofG (l := PySem.Challenge.rw_everygrain_k09_folds_by_walks) (n := 63) (k := 10) (x := "script") (sp := fun K => Eg.SpD fun as φ Kq F XK => ∃ ns : List Int, as = [.scr K ns] ∧ 100000 ≤ φ ∧ (φ : Int) ≤ Eg.draws ∧ ns.length ≤ 1000000 ∧ ∀ φ', Kq (.bool true) φ') rfl (by decide) rfl ⟨rfl, by decide, by decide⟩ (by decide +kernel) (fun w h Y => PySem.W.kIn_of Y) ?F ?S
  case F =>
    intro w mg fa h KX G hmg
    refine' K9.all_mk KX G hmg ?gC_InvalidPoints ?cl_InvalidPoints ?sa_InvalidPoints ?ga_InvalidPoints ?gg_InvalidPoints ?nn_InvalidPoints ?iC_InvalidPoints ?tC_InvalidPoints ?fn_InvalidPoints ?co_InvalidPoints ?kC_InvalidPoints ?eC_InvalidPoints ?ty_InvalidPoints ?hd_InvalidPoints ?ss_InvalidPoints ?gC_InvalidRows ?cl_InvalidRows ?sa_InvalidRows ?ga_InvalidRows ?gg_InvalidRows ?nn_InvalidRows ?iC_InvalidRows ?tC_InvalidRows ?fn_InvalidRows ?co_InvalidRows ?kC_InvalidRows ?eC_InvalidRows ?ty_InvalidRows ?hd_InvalidRows ?ss_InvalidRows ?ne_InvalidPoints_InvalidRows ?ne_InvalidRows_InvalidPoints ?m_abs ?m_all ?m_bool ?m_int ?m_isinstance ?m_len ?m_list ?m_max ?m_min ?m_range ?m_repr ?m_str ?m_sum ?m_tuple ?m_zip ?a_is_list ?l_is_list ?c_is_list ?k_is_list ?a_is_integer ?l_is_integer ?c_is_integer ?k_is_integer ?a_is_count ?l_is_count ?c_is_count ?k_is_count ?a__is_point ?l__is_point ?c__is_point ?k__is_point ?a_is_points ?l_is_points ?c_is_points ?k_is_points ?a__is_rows ?l__is_rows ?c__is_rows ?k__is_rows ?a_fold_of ?l_fold_of ?c_fold_of ?k_fold_of ?a_fold ?l_fold ?c_fold ?k_fold ?a__fold_of_row ?l__fold_of_row ?c__fold_of_row ?k__fold_of_row ?a__put_beside ?l__put_beside ?c__put_beside ?k__put_beside ?a__summed ?l__summed ?c__summed ?k__summed ?a__law_cell ?l__law_cell ?c__law_cell ?k__law_cell ?a__law_box ?l__law_box ?c__law_box ?k__law_box ?a__law_take ?l__law_take ?c__law_take ?k__law_take ?a__law_value ?l__law_value ?c__law_value ?k__law_value ?a__law_row ?l__law_row ?c__law_row ?k__law_row ?a__law_pool ?l__law_pool ?c__law_pool ?k__law_pool ?a__law_rows ?l__law_rows ?c__law_rows ?k__law_rows ?a__law_long ?l__law_long ?c__law_long ?k__law_long ?a__law_is_count ?l__law_is_count ?c__law_is_count ?k__law_is_count ?a__law_is_row ?l__law_is_row ?c__law_is_row ?k__law_is_row ?a__law_fold ?l__law_fold ?c__law_fold ?k__law_fold ?a__law_spoilt ?l__law_spoilt ?c__law_spoilt ?k__law_spoilt ?a__law_asked ?l__law_asked ?c__law_asked ?k__law_asked ?a__law_copy ?l__law_copy ?c__law_copy ?k__law_copy ?a__law_refused ?l__law_refused ?c__law_refused ?k__law_refused ?a__law_row_right ?l__law_row_right ?c__law_row_right ?k__law_row_right ?a__law_rows_right ?l__law_rows_right ?c__law_rows_right ?k__law_rows_right ?a__law_bare_right ?l__law_bare_right ?c__law_bare_right ?k__law_bare_right ?a_law ?l_law ?c_law ?k_law
    (case gC_InvalidPoints => k_is); (case cl_InvalidPoints => k_is); (case sa_InvalidPoints => k_is); (case ga_InvalidPoints => k_is); (case gg_InvalidPoints => k_is); (case nn_InvalidPoints => k_is)
    (case iC_InvalidPoints => k_is); (case tC_InvalidPoints => k_is); (case fn_InvalidPoints => k_is); (case co_InvalidPoints => k_is); (case kC_InvalidPoints => k_is); (case eC_InvalidPoints => k_is)
    (case ty_InvalidPoints => k_is); (case hd_InvalidPoints => k_is); (case ss_InvalidPoints => k_is); (case gC_InvalidRows => k_is); (case cl_InvalidRows => k_is); (case sa_InvalidRows => k_is)
    (case ga_InvalidRows => k_is); (case gg_InvalidRows => k_is); (case nn_InvalidRows => k_is); (case iC_InvalidRows => k_is); (case tC_InvalidRows => k_is); (case fn_InvalidRows => k_is)
    (case co_InvalidRows => k_is); (case kC_InvalidRows => k_is); (case eC_InvalidRows => k_is); (case ty_InvalidRows => k_is); (case hd_InvalidRows => k_is); (case ss_InvalidRows => k_is)
    (case ne_InvalidPoints_InvalidRows => k_is); (case ne_InvalidRows_InvalidPoints => k_is); (case m_abs => k_is); (case m_all => k_is); (case m_bool => k_is); (case m_int => k_is)
    (case m_isinstance => k_is); (case m_len => k_is); (case m_list => k_is); (case m_max => k_is); (case m_min => k_is); (case m_range => k_is)
    (case m_repr => k_is); (case m_str => k_is); (case m_sum => k_is); (case m_tuple => k_is); (case m_zip => k_is); (case a_is_list => k_is)
    (case l_is_list => k_is); (case c_is_list => k_is); (case k_is_list => k_is); (case a_is_integer => k_is); (case l_is_integer => k_is); (case c_is_integer => k_is)
    (case k_is_integer => k_is); (case a_is_count => k_is); (case l_is_count => k_is); (case c_is_count => k_is); (case k_is_count => k_is); (case a__is_point => k_is)
    (case l__is_point => k_is); (case c__is_point => k_is); (case k__is_point => k_is); (case a_is_points => k_is); (case l_is_points => k_is); (case c_is_points => k_is)
    (case k_is_points => k_is); (case a__is_rows => k_is); (case l__is_rows => k_is); (case c__is_rows => k_is); (case k__is_rows => k_is); (case a_fold_of => k_is)
    (case l_fold_of => k_is); (case c_fold_of => k_is); (case k_fold_of => k_is); (case a_fold => k_is); (case l_fold => k_is); (case c_fold => k_is)
    (case k_fold => k_is); (case a__fold_of_row => k_is); (case l__fold_of_row => k_is); (case c__fold_of_row => k_is); (case k__fold_of_row => k_is); (case a__put_beside => k_is)
    (case l__put_beside => k_is); (case c__put_beside => k_is); (case k__put_beside => k_is); (case a__summed => k_is); (case l__summed => k_is); (case c__summed => k_is)
    (case k__summed => k_is); (case a__law_cell => k_is); (case l__law_cell => k_is); (case c__law_cell => k_is); (case k__law_cell => k_is); (case a__law_box => k_is)
    (case l__law_box => k_is); (case c__law_box => k_is); (case k__law_box => k_is); (case a__law_take => k_is); (case l__law_take => k_is); (case c__law_take => k_is)
    (case k__law_take => k_is); (case a__law_value => k_is); (case l__law_value => k_is); (case c__law_value => k_is); (case k__law_value => k_is); (case a__law_row => k_is)
    (case l__law_row => k_is); (case c__law_row => k_is); (case k__law_row => k_is); (case a__law_pool => k_is); (case l__law_pool => k_is); (case c__law_pool => k_is)
    (case k__law_pool => k_is); (case a__law_rows => k_is); (case l__law_rows => k_is); (case c__law_rows => k_is); (case k__law_rows => k_is); (case a__law_long => k_is)
    (case l__law_long => k_is); (case c__law_long => k_is); (case k__law_long => k_is); (case a__law_is_count => k_is); (case l__law_is_count => k_is); (case c__law_is_count => k_is)
    (case k__law_is_count => k_is); (case a__law_is_row => k_is); (case l__law_is_row => k_is); (case c__law_is_row => k_is); (case k__law_is_row => k_is); (case a__law_fold => k_is)
    (case l__law_fold => k_is); (case c__law_fold => k_is); (case k__law_fold => k_is); (case a__law_spoilt => k_is); (case l__law_spoilt => k_is); (case c__law_spoilt => k_is)
    (case k__law_spoilt => k_is); (case a__law_asked => k_is); (case l__law_asked => k_is); (case c__law_asked => k_is); (case k__law_asked => k_is); (case a__law_copy => k_is)
    (case l__law_copy => k_is); (case c__law_copy => k_is); (case k__law_copy => k_is); (case a__law_refused => k_is); (case l__law_refused => k_is); (case c__law_refused => k_is)
    (case k__law_refused => k_is); (case a__law_row_right => k_is); (case l__law_row_right => k_is); (case c__law_row_right => k_is); (case k__law_row_right => k_is); (case a__law_rows_right => k_is)
    (case l__law_rows_right => k_is); (case c__law_rows_right => k_is); (case k__law_rows_right => k_is); (case a__law_bare_right => k_is); (case l__law_bare_right => k_is); (case c__law_bare_right => k_is)
    (case k__law_bare_right => k_is); (case a_law => k_is); (case l_law => k_is); (case c_law => k_is); (case k_law => k_is)
  case S =>
    intro w H a ns hl hs hH
    exact ⟨fun _ => False, H, 100000, [.scr _ ns], fun d _ => d = .bool true, fun _ _ => False, Eg.X0, ⟨fun _ _ e => e, fun _ z => z.elim⟩, .cons (.scr hs) .nil, ⟨ns, rfl, by decide, by decide, by omega, fun _ => rfl⟩,
      fun v d φ' G' H' _ _ r e => by (subst e; cases r; rfl), fun _ _ _ _ _ _ _ _ _ _ _ _ z => z.elim, fun _ _ _ _ _ _ _ _ _ _ _ _ z => z.elim⟩

