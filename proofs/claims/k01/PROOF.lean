import PyProof.Rows.All
import Wide.All
import OpenK.AllK
import Wide.FinOn
import HandS.ForMost
import HandS.Strs
import HandS.Sort
import HandS.SortInts
import HandS.IsInst
import HandS.Zip
import HandS.Deep
import HandS.TupLe
import HandS.TupAny
import HandS.Style
import HandS.Walk
import HandS.EndBits
import KE.SortData
import HandS.More
import HandS.Codes
import HandS.Set
import HandS.SetFor
import KE.DataCmp
import KE.DataEq
import HandS.ExcInit
import HandS.ExcField
import HandS.ExcOwn
import HandS.WordsExc
import KE.KExcIs
import HandS.HeadHook1
import HandS.Small
import PyProof.GenQ
import PyProof.CodeObjX
import PyProof.ConsumeS
import HandS.GenOver
import HandS.AnyAll
import KE.KNest
import HandS.Defaults
import HandS.HeadHook2
import HandS.HeadHook3
import HandS.HeadHook4
import KE.KNestM
import HandS.Wide
import HandS.SetIn
import HandS.SetKeys
import KE.GoesSet
import KE.GoesMore
import KE.GoesEnum
import HandS.HotCalls
import HandS.NoneIn
import KE.KDictPairs
import KE.KRevSl
import PyProof.ReprReads
import KE.KStateDown
import Lean
import HandS.Head0
import HandS.Head1
import HandS.Head2
import HandS.HeadEnd
import PySem.Challenge.RW_pressnotes_k01_kinds_of_any_thing
set_option Elab.async false
set_option linter.all false
set_option maxRecDepth 100000
set_option maxHeartbeats 4000000
namespace Pn
open PySem PySem.Spec PyProof.Rows L2
/-! ### Rules of our own: text times int, sorted of data, repr of data -/
theorem op_repS {X : Cx} : OpR X (binaryOp .Mult) (fun x y H Q => ∃ (z : Str) (n : Int), x = .str z ∧ y = .int n ∧ MulOk z n ∧ Q (.str (Txt.mul z n)) H) := by
  intro pins s σ H x y v u Q I rx ry h
  obtain ⟨z, n, rfl, rfl, ok, q⟩ := h
  obtain ⟨t, rfl⟩ := rx
  obtain ⟨t2, rfl⟩ := ry
  exact SB.mul ok fun t3 k => ⟨.str _, H, I.tok _, ⟨_, rfl⟩, q⟩
section
variable {X : Cx} {pins : List (Addr × Obj)} {σ : L2.St} {H : Hp} {s : Shared}
theorem each_rel : ∀ {ys : List V} {ds : List PyData} {us : List Value}, DpAll X.K H ys ds → Vals ys us → PySem.W.EachIs (fun (v : Value) (b : V × PyData) => RelV b.1 v) us (ys.zip ds)
  | _, _, _, .nil, .nil => .nil
  | _, _, _, .cons _ d, .cons r t => .cons r (each_rel d t)
theorem each_reads (I : Inv X pins σ H s) : ∀ {ys : List V} {ds : List PyData} {us : List Value}, DpAll X.K H ys ds → Vals ys us →
    PySem.W.EachIs (fun (v : Value) (b : V × PyData) => ∃ as, Reads s.heap v b.2 as) us (ys.zip ds)
  | _, _, _, .nil, .nil => .nil
  | _, _, _, .cons d1 d, .cons r t => .cons (Dp.reads I _ _ _ d1 r) (each_reads I d t)
theorem zip_snd : ∀ {ys : List V} {ds : List PyData}, DpAll X.K H ys ds → (ys.zip ds).map Prod.snd = ds
  | _, _, .nil => rfl
  | _, _, .cons _ d => by rw [List.zip_cons_cons, List.map_cons, zip_snd d]
theorem zip_len : ∀ {ys : List V} {ds : List PyData}, DpAll X.K H ys ds → (ys.zip ds).length = ys.length
  | _, _, .nil => rfl
  | _, _, .cons _ d => by rw [List.zip_cons_cons, List.length_cons, List.length_cons, zip_len d]
theorem vals_each : ∀ {bs : List (V × PyData)} {out : List Value}, PySem.W.EachIs (fun (v : Value) (b : V × PyData) => RelV b.1 v) out bs → Vals (bs.map Prod.fst) out
  | _, _, .nil => .nil
  | _, _, .cons r t => .cons r (vals_each t)
end
/-- what sorted makes of the values ys that read as the data ds -/
def sortD (ys : List V) (ds : List PyData) : List V := ((ys.zip ds).mergeSort (PySem.W.dataLe false Prod.snd)).map Prod.fst
def rSortedD (K : PySem.W.Frag) : List V → Hp → VK → Prop := fun xs H Q => ∃ (a : Addr) (ys : List V) (ds : List PyData), xs = [.ref a] ∧ SqL K H a ys ∧ DpAll K H ys ds ∧
  PySem.W.AllAlike ds ∧ PySem.W.Sortable ds ∧ (∀ d ∈ ds, d.depth ≤ 60) ∧ ∀ p, H p = none → Q (.ref p) (upd H p (.lst (sortD ys ds)))
theorem cr_sortedD {X : Cx} {k : Nat} (hr : Room k X.A) : CallR X (.builtin "sorted") (rSortedD X.K) := by
  intro pins s σ H vs us Q I r h
  obtain ⟨a, ys, ds, rfl, hs, hd, h1, h2, h3, q⟩ := h
  obtain ⟨its, rv, hl, hz⟩ := I.list hs
  rw [Vals.ref1 r]
  have un := hr.un
  refine PySem.W.sorted_data (enc := Prod.snd) (R := fun (v : Value) (b : V × PyData) => RelV b.1 v) (bs := ys.zip ds) hl.isList (each_rel hd rv) (each_reads I hd rv) (by rw [zip_snd hd]; exact h1) (by rw [zip_snd hd]; exact h2) (by rw [zip_len hd]; exact hz)
    (fun b hb => ?_) (fun out ho he => ?_)
  · have z := h3 b.2 (by rw [← zip_snd hd]; exact List.mem_map.mpr ⟨b, hb, rfl⟩)
    omega
  · obtain ⟨ep, he'⟩ := PyProof.Rows.sortedAll_at s.heap its out.toArray
    have rv2 := vals_each he
    have hlen : (sortD ys ds).length ≤ sizeLine := by
      unfold sortD
      rw [List.length_map, List.length_mergeSort, zip_len hd]
      exact hz
    exact ⟨.ref _, upd H (s.heap.objs.size + 1) (.lst (sortD ys ds)), I.laid (t' := s.toks) (fun _ _ => PyProof.Rows.sortedAll_old) (Nat.le_succ _) ⟨hlen, out, ep, rv2, he'⟩, rfl, q _ (I.hok.fresh (Nat.le_succ _))⟩
def rRepr (K : PySem.W.Frag) : List V → Hp → VK → Prop := fun xs H Q => ∃ (a : Addr) (d : PyData), xs = [.ref a] ∧ Dp K H (.ref a) d ∧ d.showable = true ∧ d.hasDict = false ∧ d.depth ≤ 60 ∧ d.shown.length ≤ sizeLine ∧ Q (.str d.shown) H
theorem cr_repr {X : Cx} {k : Nat} (hg : X.A.guards = some []) (hr : Room k X.A) : CallR X (.builtin "repr") (rRepr X.K) := by
  intro pins s σ H vs us Q I r h
  obtain ⟨a, d, rfl, hd, h1, h2, h3, h4, q⟩ := h
  rw [Vals.ref1 r]
  have un := hr.un
  obtain ⟨as, rd⟩ := Dp.reads I d _ _ hd rfl
  exact repr_of_reads' rd h1 (PyData.noDict_hsm h2) hg (by omega) (fun _ _ e => e) (fun h' u tk hk => ⟨.str _, H, I.kept hk, ⟨u, rfl⟩, q⟩) h4
/-- a walk over a range within a comprehension of two fors -/
theorem rng_w {lo : Int} {n : Nat} {H0 : Hp} {B : V → Hp → (Hp → Prop) → Prop} {Qd : Hp → Prop} (Pv : Nat → Hp → Prop) (h0 : Pv 0 H0)
    (hs : ∀ i H, i < n → Pv i H → B (.int (lo + i)) H (Pv (i + 1))) (hd : ∀ H, Pv n H → Qd H) :
    ∃ W : Nat → Nat → Hp → Prop, (∃ m, W 0 m H0) ∧ ∀ i m H, W i m H → ((Itr lo n).stop i H ∧ Qd H) ∨
      ((Itr lo n).go i H ∧ ∃ Nx : Hp → Prop, (∀ H', Nx H' → ∃ m', m' < m ∧ W (i + 1) m' H') ∧ ∀ x H', (Itr lo n).yld i H x H' → B x H' Nx) := by
  refine ⟨fun i m H => m + i = n ∧ Pv i H, ⟨n, rfl, h0⟩, ?_⟩
  rintro i m H ⟨e, p⟩
  by_cases c : i < n
  · refine Or.inr ⟨c, Pv (i + 1), fun H' p' => ⟨m - 1, by omega, by omega, p'⟩, fun x H' y => ?_⟩
    obtain ⟨rfl, rfl⟩ := y
    exact hs i _ c p
  · have z : i = n := by omega
    subst z
    exact Or.inl ⟨Nat.le_refl _, hd H p⟩
/-! a tuple that is known to have no dict (so that its methods can be called) -/
def Tpl (o : Obj) : Prop := o.cls = .type "tuple" ∧ o.dict = none
def tTupF (t : TA) : TE := fun σ H Q => t σ H fun xs H1 => xs.length ≤ sizeLine ∧ ∀ p o, H1 p = none → Tpl o → Q (.ref p) (upd H1 p (.frz o (.tup xs)))
theorem pe_tupF {X : Cx} {es : List Expr} {t : TA} {pos : Pos} {x1} (h : PA X es t) : PE X (.Tuple es x1 pos) (tTupF t) := by
  constructor
  intro pins s σ H Q I hq
  refine wpAny_Tuple_spliced (thn (h.run pos pins s σ H _ I hq) ?_)
  rintro us s1 ⟨xs, H1, I1, r, z, q⟩
  refine ⟨by rw [← r.length]; exact z, ?_⟩
  have new : (s1.heap.push { cls := .type "tuple", data := .seq us.toArray }).get? s1.heap.objs.size = some { cls := .type "tuple", data := .seq us.toArray } := Heap.get?_push_size _ rfl
  exact ⟨.ref s1.heap.objs.size, upd H1 _ (.frz { cls := .type "tuple", data := .seq us.toArray } (.tup xs)), I1.laid (t' := s1.toks) (fun _ _ e => Heap.get?_push_of_some _ e) (Nat.le_refl _) ⟨new, z, us, r, _, new, rfl, _, rfl⟩, rfl,
    q _ _ (I1.hok.fresh (Nat.le_refl _)) ⟨rfl, rfl⟩⟩
def tBMF (r : V → List V → Hp → VK → Prop) (to : TE) (t : TA) : TE := fun σ H Q => to σ H fun x H1 => (∃ p o u, x = .ref p ∧ H1 p = some (.frz o u) ∧ Tpl o) ∧ t σ H1 fun xs H2 => r x xs H2 Q
theorem pe_bmF {X : Cx} {o e : Expr} {es : List Expr} {to : TE} {t : TA} {name : Str} {apos cpos : Pos} {id : String} {r : V → List V → Hp → VK → Prop}
    (pa : PlainAttrs "tuple") (slot : Slot "tuple" name id) (hty : typeOf (.builtin id) = pure (.type "method_descriptor")) (hm : MtR X id r) (ho : PE X o to) (ha : PA X (e :: es) t)
    (hb : attributeBase o name X.env (eval o X.env) = eval o X.env := by rfl)
    (hf : ((backTo cpos (starEach (e :: es) X.env)).all (fun x => !x.1) && (backToKw cpos (keywordEach [] X.env)).all (fun x => x.1.isSome) && decide ((e :: es).length + ([] : List Keyword).length + (if ([] : List Keyword).isEmpty then 0 else 1) < 30)) = true := by rfl)
    (hl : (apos.endLine == cpos.line) = true := by rfl) (hs : starEach (e :: es) X.env = (false, eval e X.env) :: starEach es X.env := by rfl) (hp : (backTo cpos (starEach es X.env)).any (·.1) = false := by rfl) :
    PE X (.Call (.Attribute o name apos) (e :: es) [] cpos) (tBMF r to t) := by
  constructor
  intro pins s σ H Q I h
  refine wpAny_Call_method_late hb hf hl rfl (thn (ho.run pins s σ H _ I h) ?_)
  rintro v s1 ⟨x, H1, I1, r1, ⟨p, ob, u, rfl, hfz, hc, hd⟩, q1⟩
  obtain rfl : v = .ref p := r1
  obtain ⟨at1, _⟩ := I1.hok p _ hfz
  refine ⟨"tuple", id, pa, slot, hty, ⟨ob, at1, hc⟩, fun a e => by cases e; exact ⟨ob, at1, hd⟩, ?_⟩
  have run := ha.run cpos pins s1 σ H1 _ I1 q1
  rw [hs] at run ⊢
  refine Calls.callWith_builtin (by show (false || (backTo cpos (starEach es X.env)).any (·.1)) = false; rw [hp]; rfl) (Calls.evalArgs_plain ?_)
  exact thn run fun us s2 ⟨vs, H2, I2, r2, q2⟩ => hm pins s2 σ H2 (.ref p) vs (.ref p) us Q I2 rfl r2 q2
/-! ### A def that is run where no repr is under way, and a law's end over it -/
structure FnG (P : Program) (w : World) (K : PySem.W.Frag) (mg : Str → Option Value) (base : Heap) (k : Nat) (f : Addr)
    (fd : FuncData) (ps : List Str) (sp : Sp) : Prop where
  len : ∀ vs H Q E, sp vs H Q E → vs.length = ps.length
  run : ∀ (A : Around) (outer : List Env) (s : Shared) (H : Hp) (args : Args) (us : List Value) (vs : List V) (Q : VK) (E : XK),
    Room k A → A.guards = some [] → Env0 P w K mg base A outer s H → BindsTo s fd args (ps.zip us) → Vals vs us → sp vs H Q E →
    codeAny (model P w) A (.call (.ref f) args) (CR CX0 outer P w H s Q E) s
section
variable {P : Program} {w : World} {K : PySem.W.Frag} {mg : Str → Option Value} {base : Heap}
/-- a body's walk, told that no repr is under way -/
theorem okG {x qual : Str} {st : Stmt} {f : Addr} {fd : FuncData} {N ps : List Str} {k : Nat} {sp : Sp}
    (F : Fun K x qual st f fd) (S : FnScope N ps (defScope st)) (hlen : ∀ vs H Q E, sp vs H Q E → vs.length = ps.length)
    (hb : ∀ (cdv : Value) (A : Around) (outer : List Env) (s : Shared) (H : Hp) (vs : List V) (Q : VK) (E : XK),
      Room k (A.deeper (envOfC qual (defScope st) s.heap.objs.size f cdv)) → (A.deeper (envOfC qual (defScope st) s.heap.objs.size f cdv)).guards = some [] →
      sp vs H Q E → ∃ t, PSs (cxOf CX0 P w K mg base N qual (defScope st) f cdv A outer s H E).nox (defBody st) t ∧
        t { nx := fun _ H' => Q .non H', rt := Q } (start N vs) H) : FnG P w K mg base (k + 1) f fd ps sp := by
  obtain ⟨oc, od, kV, doc, pm, an, cdv, ct, osl, rfl, lk, hcd⟩ := F.ex
  refine ⟨hlen, fun A outer s H args us vs Q E room gu e0 bind rel wish => ?_⟩
  have lv := hlen _ _ _ _ wish
  have old : ∀ b o, base.get? b = some o → s.heap.get? b = some o := fun b o e => (e0.bs b o e).1
  have inK : K.In s.heap := e0.mod.kin.keeps old
  refine codeAny_call_function room.depth (inK _ _ lk) rfl S.co S.gen rfl (PySem.W.codeRec_of inK hcd) (bind _ _ _ _ ?_)
  refine wpAny_newFunctionEnv_cells S.kind (fun y hy => ?_) fun env ee s1 x1 => ?_
  · obtain ⟨n, v⟩ := y
    cases S.par n (List.of_mem_zip hy).1 with
    | inl q => exact Or.inl q
    | inr q => exact Or.inr ⟨q, PySem.W.cellsFrom_some _ _ _ (Or.inl q)⟩
  subst ee
  refine ⟨(e0.mod.nolimit.keeps old).keeps x1.toInCall.keep, codeAny_func ?_⟩
  obtain ⟨t, ht, hq⟩ := hb cdv A outer s H vs Q E (room.deeper _) gu wish
  have I0 := inv_start (CX := CX0) (E := E) S room.hd e0 lv rel x1
  refine wpAny_mono (ht.nox.run [] s1 (start N vs) H _ I0 hq) (fun fl s2 hs => ?_) fun _ _ z => z
  cases fl with
  | ret u =>
    obtain ⟨v, σ2, H2, J, rv, q⟩ := hs
    exact ⟨v, H2, J.os, J.bare, J.base, J.hok, rv, q⟩
  | next =>
    obtain ⟨σ2, H2, J, q⟩ := hs
    exact ⟨.non, H2, J.os, J.bare, J.base, J.hok, rfl, q⟩
  | brk => exact hs.choose_spec.choose_spec.2.elim
  | cont => exact hs.choose_spec.choose_spec.2.elim
end
section
variable {P : Program} {w : World} {K : PySem.W.Frag} {mg mb : Str → Option Value} {k : Nat} {fa a : Addr} {fd : FuncData} {x : Str} {sp : Sp} {s1 : Shared} {vs : List Value} {ns : List Int}
/-- what the caller is told of the law's call -/
def Told (s1 : Shared) (r : Result) (s' : Shared) : Prop := r = .ok (.ret (.bool true)) ∧ OldK s1.heap s'.heap ∧ s'.os = s1.os ∧ AllBare s'.gens
theorem told_from (H : Hp) (kin : K.In s1.heap) (glob : s1.heap.Ns mainGlobals mg) (blt : s1.heap.Ns builtinsNs mb) (same : ∀ y : Str, y ≠ "__name__" → mb y = bootBuiltins y) (lim : s1.heap.NoLimit) (bare : s1.gens = #[])
    (obj : s1.heap.get? a = some { cls := .type "list", data := .seq vs.toArray }) (room : Room k callerA)
    (F : ∀ base : Heap, K.In base → base.Ns mainGlobals mg → FnG P w K mg base k fa fd [x] sp) (bind : ∀ (s : Shared) (u : Value), BindsTo s fd ⟨[u], []⟩ [(x, u)])
    (only : Only H) (wish : sp [.ref a] H (fun v _ => v = .bl true) fun _ _ _ => False) (hok : HOk P w H s1.heap) (self : ∀ b u, H b = some u → b = a ∧ K.lookup a = none) :
    codeAny (model P w) callerA (.call (.ref fa) ⟨[.ref a], []⟩) (Told s1) s1 := by
  have free : ∀ b, (b ≠ a ∨ K.lookup a ≠ none) → H b = none := fun b hb => by
    cases e : H b with
    | none => rfl
    | some u =>
      obtain ⟨e1, e2⟩ := self b u e
      cases hb with
      | inl n => exact absurd e1 n
      | inr n => exact absurd e2 n
  have nsB : ∀ {b : Addr} {m : Str → Option Value}, s1.heap.Ns b m → (hidT s1.heap H).Ns b m := by
    rintro b m ⟨o, es, ep, e, d, r⟩
    refine ⟨o, es, ep, hidT_get e (free b (Or.inl fun z => ?_)), d, r⟩
    subst z
    rw [obj] at e
    cases e
    exact nomatch d
  have kinB : K.In (hidT s1.heap H) := fun b o e => by
    refine hidT_get (kin b o e) ?_
    by_cases z : b = a
    · subst z
      exact free b (Or.inr (by rw [e]; exact fun q => nomatch q))
    · exact free b (Or.inl z)
  have limB : (hidT s1.heap H).NoLimit := by
    obtain ⟨mc, h1, h2⟩ := lim
    exact ⟨mc, nsB h1, h2⟩
  have env : Env0 P w K mg (hidT s1.heap H) callerA [] s1 H :=
    { frames := rfl, mod := ⟨kinB, nsB glob, ⟨mb, nsB blt, same⟩, limB⟩, bs := fun _ _ e => of_hidT e, bsz := Nat.le_of_eq (hidT_size _ _), funs := trivial,
      frf := fun b z => (List.not_mem_nil (show b ∈ ([] : List Addr) from z)).elim, hok := hok, bare := .of_eq bare }
  refine codeAny_mono ((F _ kinB (nsB glob)).run callerA [] s1 H ⟨[.ref a], []⟩ [.ref a] [.ref a] _ _ room rfl env (bind s1 _) (.cons rfl .nil) wish) ?_
  rintro (e | fl) s2 h
  · exact (show False from h).elim
  · cases fl with
    | ret u =>
      obtain ⟨v, H2, os2, bare2, un, hok2, rel, q⟩ := h
      have q : v = V.bl true := q
      subst q
      obtain rfl : u = Value.bool true := rel
      refine ⟨rfl, OldK.of_keep fun b o e => ?_, os2, bare2⟩
      cases z : H b with
      | none => exact un.keep b o e z (fun y => List.not_mem_nil (show b ∈ ([] : List Addr) from y)) List.not_mem_nil
      | some u =>
        obtain y | ⟨ob, xs, y⟩ := only b
        · rw [z] at y
          cases y
        · obtain ⟨g1, _⟩ := hok b _ y
          obtain ⟨g2, _⟩ := hok2 b _ (un.frzs b ob _ y)
          rw [e] at g1
          cases g1
          exact g2
    | next => exact h.elim
    | brk => exact h.elim
    | cont => exact h.elim
theorem told_law (kin : K.In s1.heap) (glob : s1.heap.Ns mainGlobals mg) (blt : s1.heap.Ns builtinsNs mb) (same : ∀ y : Str, y ≠ "__name__" → mb y = bootBuiltins y) (lim : s1.heap.NoLimit) (bare : s1.gens = #[])
    (obj : s1.heap.get? a = some { cls := .type "list", data := .seq vs.toArray }) (are : IntsAre vs ns) (long : ns.length ≤ sizeLine) (room : Room k callerA)
    (F : ∀ base : Heap, K.In base → base.Ns mainGlobals mg → FnG P w K mg base k fa fd [x] sp) (bind : ∀ (s : Shared) (u : Value), BindsTo s fd ⟨[u], []⟩ [(x, u)])
    (wish : ∀ H : Hp, SqL K H a (ns.map V.int) → sp [.ref a] H (fun v _ => v = .bl true) fun _ _ _ => False) :
    codeAny (model P w) callerA (.call (.ref fa) ⟨[.ref a], []⟩) (Told s1) s1 := by
  have rv := vals_ints are
  have nl := are.length
  cases hk : K.lookup a with
  | some o =>
    have e := kin a o hk
    rw [obj] at e
    cases e
    have sq : SqL K (fun _ => none) a (ns.map V.int) := Or.inr ⟨_, vs.toArray, _, hk, rfl, rfl, rfl, by rw [List.size_toArray, nl]; exact long, by simpa using rv⟩
    exact told_from (fun _ => none) kin glob blt same lim bare obj room F bind (fun _ => Or.inl rfl) (wish _ sq) (fun _ _ z => nomatch z) fun _ _ z => nomatch z
  | none =>
    have h1 : upd (fun _ => none) a (.frz { cls := .type "list", data := .seq vs.toArray } (.lst (ns.map V.int))) a = some (.frz { cls := .type "list", data := .seq vs.toArray } (.lst (ns.map V.int))) := upd_same
    have at_ : ∀ b u, upd (fun _ => none) a (.frz { cls := .type "list", data := .seq vs.toArray } (.lst (ns.map V.int))) b = some u → b = a ∧ u = .frz { cls := .type "list", data := .seq vs.toArray } (.lst (ns.map V.int)) := fun b u z => by
      by_cases e : b = a
      · subst e
        rw [h1] at z
        exact ⟨rfl, (Option.some.inj z).symm⟩
      · rw [upd_ne e] at z
        exact nomatch z
    refine told_from _ kin glob blt same lim bare obj room F bind (fun b => ?_) (wish _ (Or.inl (Or.inr ⟨_, h1⟩))) (fun b u z => ?_) fun b u z => ⟨(at_ b u z).1, hk⟩
    · by_cases e : b = a
      · rw [e, h1]
        exact Or.inr ⟨_, _, rfl⟩
      · exact Or.inl (upd_ne e)
    · obtain ⟨e1, e2⟩ := at_ b u z
      subst e1
      subst e2
      exact ⟨obj, by rw [List.length_map]; exact long, vs, _, rv, obj⟩
end
/-- a law's end, its def told that no repr is under way -/
theorem walkG {l : PySem.W.OpenLaw} {n k : Nat} {q : Program} {loose : List Str} {XP : (Str → Option Value) → Heap → Prop} {YP : World → Heap → Prop} {d : DefRec} {x : Str} {sp : PySem.W.Frag → Sp}
    (hn : l.most = some n) (hn2 : n ≤ sizeLine) (hdf : d.params.defaults = []) (hr : Room k callerA)
    (F : ∀ (w : World) (mg : Str → Option Value) (fa : Addr) (h : Heap), YP w h → h.Ns mainGlobals mg → mg d.name = some (.ref fa) →
      ∃ (K : PySem.W.Frag) (fd : FuncData), K.In h ∧ (∀ (s : Shared) (u : Value), BindsTo s fd ⟨[u], []⟩ [(x, u)]) ∧
        ∀ base : Heap, K.In base → base.Ns mainGlobals mg → FnG l.prog w K mg base k fa fd [x] (sp K))
    (hsp : ∀ (K : PySem.W.Frag) (H : Hp) (a : Addr) (ns : List Int), ns.length ≤ n → SqL K H a (ns.map V.int) → sp K [.ref a] H (fun v _ => v = .bl true) fun _ _ _ => False) :
    PySem.W.WalkO q loose XP YP l.row.toRowW d [] (fun f vs => PySem.call f vs) := by
  refine Att.attach_call hn hdf fun w s0 s1 mg mb fa o pm cd doc a vs ns G Y ho hd hcd hmg hobj hints hlen hg => ?_
  obtain ⟨K, fd, kin, hb, hF⟩ := F w mg fa _ Y G.T.g hmg
  exact told_law kin G.T.g G.T.b G.T.builtins G.T.nolimit hg hobj hints (Nat.le_trans hlen hn2) hr hF hb fun H sq => hsp K H a ns hlen sq

theorem mod_lo (x y : Int) (h : 0 < y) : 0 ≤ x.fmod y := Int.fmod_nonneg_of_pos _ h
theorem mod_hi (x y : Int) (h : 0 < y) : x.fmod y < y := Int.fmod_lt_of_pos _ h
/-- the feed at f: its cells, a counter of at most n, what is left of a great number -/
def Fd (H : Hp) (f c : Addr) (n : Int) : Prop := ∃ (cells : List Int) (at_ g : Int),
  H f = some (.lst [.ref c, .int at_, .int g]) ∧ H c = some (.lst (cells.map V.int)) ∧ cells.length ≤ 63 ∧ 0 ≤ at_ ∧ at_ ≤ n
theorem fd_ne {H : Hp} {f c : Addr} {cells : List Int} {a g : Int} (hf : H f = some (.lst [.ref c, .int a, .int g])) (hc : H c = some (.lst (cells.map V.int))) : c ≠ f := by
  refine ne_of hc hf fun z => ?_
  have z := HO.lst.inj z
  cases cells with
  | nil => cases z
  | cons x r => rw [List.map_cons] at z; cases z
theorem at_mod {cells : List Int} (a : Int) (h : 0 < cells.length) : ∃ v, atI (cells.map V.int) (a.fmod (((cells.map V.int).length : Nat) : Int)) = some (.int v) := by
  have hp : (0 : Int) < (((cells.map V.int).length : Nat) : Int) := by rw [List.length_map]; omega
  have h1 := mod_lo a _ hp
  have h2 := mod_hi a _ hp
  rw [List.length_map] at h1 h2 ⊢
  obtain ⟨k, hk⟩ : ∃ k : Nat, a.fmod ((cells.length : Nat) : Int) = (k : Int) := ⟨(a.fmod ((cells.length : Nat) : Int)).toNat, by omega⟩
  rw [hk] at h2 ⊢
  have hk2 : k < cells.length := by omega
  exact ⟨cells[k], atI_nat (by rw [List.getElem?_map, List.getElem?_eq_getElem hk2] <;> rfl)⟩
/-- what drawing leaves: all but the feed as it was -/
def But (f : Addr) (H H' : Hp) : Prop := ∀ a o, a ≠ f → H a = some o → H' a = some o
theorem But.refl (f : Addr) (H : Hp) : But f H H := fun _ _ _ h => h
theorem But.trans {f : Addr} {H H1 H2 : Hp} (a : But f H H1) (b : But f H1 H2) : But f H H2 := fun x o n h => b x o n (a x o n h)
theorem But.of_same {f : Addr} {H H' : Hp} (s : Same H H') : But f H H' := fun a o _ h => s a o h
theorem But.new {f : Addr} {H : Hp} {p : Addr} {o : HO} (h : H p = none) : But f H (upd H p o) := fun a u _ e => by
  rw [upd_ne (ne_of_none e h)]; exact e
theorem same_new {H : Hp} {p : Addr} (h : H p = none) (o : HO) : Same H (upd H p o) := fun b u q => by rw [upd_ne (ne_of_none q h)]; exact q
theorem But.feed {f : Addr} {H : Hp} {o : HO} : But f H (upd H f o) := fun a u n e => (upd_ne n).trans e
theorem Fd.mono {H : Hp} {f c : Addr} {n m : Int} (h : Fd H f c n) (l : n ≤ m) : Fd H f c m := by
  obtain ⟨cells, a, g, h1, h2, h3, h4, h5⟩ := h
  exact ⟨cells, a, g, h1, h2, h3, h4, by omega⟩
theorem Fd.same {H H' : Hp} {f c : Addr} {n : Int} (h : Fd H f c n) (s : Same H H') : Fd H' f c n := by
  obtain ⟨cells, a, g, h1, h2, h3⟩ := h
  exact ⟨cells, a, g, s _ _ h1, s _ _ h2, h3⟩
theorem Fd.new {H : Hp} {f c p : Addr} {n : Int} {o : HO} (h : Fd H f c n) (hp : H p = none) : Fd (upd H p o) f c n := h.same (same_new hp o)
theorem Fd.at {H : Hp} {f c : Addr} {n : Int} (h : Fd H f c n) : ∃ xs, H f = some (.lst xs) := by
  obtain ⟨cells, a, g, h1, _⟩ := h
  exact ⟨_, h1⟩
theorem Fd.cell {H : Hp} {f c : Addr} {n : Int} (h : Fd H f c n) : ∃ xs, H c = some (.lst xs) := by
  obtain ⟨cells, a, g, h1, h2, _⟩ := h
  exact ⟨_, h2⟩
theorem Fd.ne {H : Hp} {f c l : Addr} {n : Int} (h : Fd H f c n) (hl : H l = none) : l ≠ f ∧ l ≠ c := by
  obtain ⟨xs, h1⟩ := h.at
  obtain ⟨ys, h2⟩ := h.cell
  exact ⟨Ne.symm (ne_of_none h1 hl), Ne.symm (ne_of_none h2 hl)⟩
theorem Fd.upd {H : Hp} {f c l : Addr} {n : Int} {o : HO} (h : Fd H f c n) (e : l ≠ f ∧ l ≠ c) : Fd (upd H l o) f c n := by
  obtain ⟨cells, a, g, h1, h2, h3⟩ := h
  exact ⟨cells, a, g, (upd_ne (Ne.symm e.1)).trans h1, (upd_ne (Ne.symm e.2)).trans h2, h3⟩
theorem But.mut {f : Addr} {H H' : Hp} {l : Addr} {o : HO} (b : But f H H') (hl : H l = none) : But f H (upd H' l o) := fun a u n e => by
  rw [upd_ne (ne_of_none e hl)]
  exact b a u n e
theorem But.back {f c : Addr} {H H' : Hp} {t : Addr} {n : Int} (b : But f H H') (hf : Fd H' f c n) (ht : H' t = none) : H t = none := by
  cases e : H t with
  | none => rfl
  | some o =>
    have ne : t ≠ f := (hf.ne ht).1
    rw [b t o ne e] at ht
    cases ht
theorem same_mut {H H' : Hp} {l : Addr} {o : HO} (s : Same H H') (hl : H l = none) : Same H (upd H' l o) := fun b u q => by
  rw [upd_ne (ne_of_none q hl)]
  exact s _ _ q
theorem cut_take (xs : List V) (n : Nat) : cutV xs none (some (n : Int)) = xs.take n := by
  unfold cutV
  rw [HT.sIx_nat, HT.sIx_none, List.drop_zero, Nat.sub_zero]
  rw [List.take_eq_take_iff]
  omega
theorem free_of {H : Hp} {a b : Addr} {o : HO} (h : upd H a o b = none) : H b = none := by
  by_cases e : b = a
  · subst e
    rw [upd_same] at h
    cases h
  · rw [upd_ne e] at h
    exact h
def spDraw : Sp := fun vs H Q _ => ∃ (f c : Addr) (m n : Int), vs = [.ref f, .int m] ∧ Fd H f c n ∧ n ≤ 1000000 ∧ 0 < m ∧ m ≤ 1000000000 ∧
  ∀ (d : Int) (H' : Hp), 0 ≤ d → d < m → Fd H' f c (n + 1) → But f H H' → (∀ a, H a = none → H' a = none) → Q (.int d) H'
def spFeed (K : PySem.W.Frag) : Sp := fun vs H Q _ => ∃ (a : Addr) (ns : List Int), vs = [.ref a] ∧ SqL K H a (ns.map V.int) ∧
  ∀ (f c : Addr) (H' : Hp), H f = none → Same H H' → Fd H' f c 0 → Q (.ref f) H'
/-! ### Data that is alike -/
def flatD : PyData → Bool
  | .none => true
  | .bool _ => true
  | .int _ => true
  | .str _ => true
  | _ => false
/-- data of at most n lists or tuples within one another, none of more than 100,000 -/
def Nice : Nat → PyData → Prop
  | 0, d => flatD d = true
  | n + 1, d => flatD d = true ∨ ∃ ds, (d = .list ds ∨ d = .tuple ds) ∧ ds.length ≤ 100000 ∧ ∀ e ∈ ds, Nice n e
theorem Nice.flat {n : Nat} {d : PyData} (h : flatD d = true) : Nice n d := by
  cases n with
  | zero => exact h
  | succ n => exact Or.inl h
theorem kit2 {K : PySem.W.Frag} {t c1 c2 : Value} {b1 b2 : Bool} (h1 : PySem.W.kitOne K t c1 = some b1) (h2 : PySem.W.kitOne K t c2 = some b2) : PySem.W.kitAny K t [c1, c2] = some (b1 || b2) := by
  unfold PySem.W.kitAny PySem.W.kitAny PySem.W.kitAny
  rw [h1, h2]
  cases b1 <;> cases b2 <;> rfl
theorem k_NoneType_tuple {K : PySem.W.Frag} : PySem.W.kitOne K (.type "NoneType") (.type "tuple") = some false := kit_ty (by decide +kernel)
theorem k_NoneType_list {K : PySem.W.Frag} : PySem.W.kitOne K (.type "NoneType") (.type "list") = some false := kit_ty (by decide +kernel)
theorem k_NoneType_bool {K : PySem.W.Frag} : PySem.W.kitOne K (.type "NoneType") (.type "bool") = some false := kit_ty (by decide +kernel)
theorem k_NoneType_str {K : PySem.W.Frag} : PySem.W.kitOne K (.type "NoneType") (.type "str") = some false := kit_ty (by decide +kernel)
theorem k_NoneType_int {K : PySem.W.Frag} : PySem.W.kitOne K (.type "NoneType") (.type "int") = some false := kit_ty (by decide +kernel)
theorem k_bool_tuple {K : PySem.W.Frag} : PySem.W.kitOne K (.type "bool") (.type "tuple") = some false := kit_ty (by decide +kernel)
theorem k_bool_list {K : PySem.W.Frag} : PySem.W.kitOne K (.type "bool") (.type "list") = some false := kit_ty (by decide +kernel)
theorem k_bool_bool {K : PySem.W.Frag} : PySem.W.kitOne K (.type "bool") (.type "bool") = some true := kit_ty (by decide +kernel)
theorem k_bool_str {K : PySem.W.Frag} : PySem.W.kitOne K (.type "bool") (.type "str") = some false := kit_ty (by decide +kernel)
theorem k_bool_int {K : PySem.W.Frag} : PySem.W.kitOne K (.type "bool") (.type "int") = some true := kit_ty (by decide +kernel)
theorem k_int_tuple {K : PySem.W.Frag} : PySem.W.kitOne K (.type "int") (.type "tuple") = some false := kit_ty (by decide +kernel)
theorem k_int_list {K : PySem.W.Frag} : PySem.W.kitOne K (.type "int") (.type "list") = some false := kit_ty (by decide +kernel)
theorem k_int_bool {K : PySem.W.Frag} : PySem.W.kitOne K (.type "int") (.type "bool") = some false := kit_ty (by decide +kernel)
theorem k_int_str {K : PySem.W.Frag} : PySem.W.kitOne K (.type "int") (.type "str") = some false := kit_ty (by decide +kernel)
theorem k_int_int {K : PySem.W.Frag} : PySem.W.kitOne K (.type "int") (.type "int") = some true := kit_ty (by decide +kernel)
theorem k_str_tuple {K : PySem.W.Frag} : PySem.W.kitOne K (.type "str") (.type "tuple") = some false := kit_ty (by decide +kernel)
theorem k_str_list {K : PySem.W.Frag} : PySem.W.kitOne K (.type "str") (.type "list") = some false := kit_ty (by decide +kernel)
theorem k_str_bool {K : PySem.W.Frag} : PySem.W.kitOne K (.type "str") (.type "bool") = some false := kit_ty (by decide +kernel)
theorem k_str_str {K : PySem.W.Frag} : PySem.W.kitOne K (.type "str") (.type "str") = some true := kit_ty (by decide +kernel)
theorem k_str_int {K : PySem.W.Frag} : PySem.W.kitOne K (.type "str") (.type "int") = some false := kit_ty (by decide +kernel)
theorem k_list_tuple {K : PySem.W.Frag} : PySem.W.kitOne K (.type "list") (.type "tuple") = some false := kit_ty (by decide +kernel)
theorem k_list_list {K : PySem.W.Frag} : PySem.W.kitOne K (.type "list") (.type "list") = some true := kit_ty (by decide +kernel)
theorem k_list_bool {K : PySem.W.Frag} : PySem.W.kitOne K (.type "list") (.type "bool") = some false := kit_ty (by decide +kernel)
theorem k_list_str {K : PySem.W.Frag} : PySem.W.kitOne K (.type "list") (.type "str") = some false := kit_ty (by decide +kernel)
theorem k_list_int {K : PySem.W.Frag} : PySem.W.kitOne K (.type "list") (.type "int") = some false := kit_ty (by decide +kernel)
theorem k_tuple_tuple {K : PySem.W.Frag} : PySem.W.kitOne K (.type "tuple") (.type "tuple") = some true := kit_ty (by decide +kernel)
theorem k_tuple_list {K : PySem.W.Frag} : PySem.W.kitOne K (.type "tuple") (.type "list") = some false := kit_ty (by decide +kernel)
theorem k_tuple_bool {K : PySem.W.Frag} : PySem.W.kitOne K (.type "tuple") (.type "bool") = some false := kit_ty (by decide +kernel)
theorem k_tuple_str {K : PySem.W.Frag} : PySem.W.kitOne K (.type "tuple") (.type "str") = some false := kit_ty (by decide +kernel)
theorem k_tuple_int {K : PySem.W.Frag} : PySem.W.kitOne K (.type "tuple") (.type "int") = some false := kit_ty (by decide +kernel)
def tyD : PyData → String
  | .none => "NoneType"
  | .bool _ => "bool"
  | .int _ => "int"
  | .str _ => "str"
  | .list _ => "list"
  | .tuple _ => "tuple"
  | _ => "object"
theorem ty_of {K : PySem.W.Frag} {H : Hp} {v : V} {d : PyData} (h : Dp K H v d) : TyX K H v (.type (tyD d)) := by
  cases h with
  | non => exact .base .non
  | bl b => exact .base (.bl b)
  | int i => exact .base (.int i)
  | str x => exact .base (.str x)
  | lst s _ =>
    rcases s with (e | ⟨o, e⟩) | ⟨o, its, n, e, c, _⟩
    · exact .base (.lst e)
    · exact .base (.frz e)
    · exact .kList e c
  | tup s _ =>
    rcases s with (e | ⟨o, e⟩) | ⟨o, its, n, e, c, _⟩
    · exact .base (.tup e)
    · exact .fTuple e
    · exact .kTuple e c
theorem SqL.sm {K : PySem.W.Frag} {H H' : Hp} {a : Addr} {xs : List V} (e : Same H H') (h : SqL K H a xs) : SqL K H' a xs := e.seq h
theorem SqT.sm {K : PySem.W.Frag} {H H' : Hp} {a : Addr} {xs : List V} (e : Same H H') (h : SqT K H a xs) : SqT K H' a xs := by
  rcases h with (h | ⟨o, h⟩) | h
  · exact Or.inl (Or.inl (e _ _ h))
  · exact Or.inl (Or.inr ⟨o, e _ _ h⟩)
  · exact Or.inr h
mutual
theorem Dp.sm {K : PySem.W.Frag} {H H' : Hp} (e : Same H H') : ∀ {v : V} {d : PyData}, Dp K H v d → Dp K H' v d
  | _, _, .non => .non
  | _, _, .bl b => .bl b
  | _, _, .int i => .int i
  | _, _, .str x => .str x
  | _, _, .lst s a => .lst (SqL.sm e s) (DpAll.sm e a)
  | _, _, .tup s a => .tup (SqT.sm e s) (DpAll.sm e a)
theorem DpAll.sm {K : PySem.W.Frag} {H H' : Hp} (e : Same H H') : ∀ {vs : List V} {ds : List PyData}, DpAll K H vs ds → DpAll K H' vs ds
  | _, _, .nil => .nil
  | _, _, .cons a b => .cons (Dp.sm e a) (DpAll.sm e b)
end
theorem DpAll.len {K : PySem.W.Frag} {H : Hp} : ∀ {vs : List V} {ds : List PyData}, DpAll K H vs ds → vs.length = ds.length
  | _, _, .nil => rfl
  | _, _, .cons _ b => congrArg (· + 1) (DpAll.len b)
theorem DpAll.get {K : PySem.W.Frag} {H : Hp} : ∀ {vs : List V} {ds : List PyData} {i : Nat} {v : V}, DpAll K H vs ds → vs[i]? = some v → ∃ d, ds[i]? = some d ∧ Dp K H v d
  | _, _, 0, _, .cons a _, h => by
    cases h
    exact ⟨_, rfl, a⟩
  | _, _, i + 1, v, .cons _ b, h => DpAll.get (i := i) (v := v) b h
theorem walk_zt {K : PySem.W.Frag} {a b : Addr} {xs ys : List V} (hl : xs.length = ys.length) : Walk (RZ.ItzT K a b) xs.length (fun H => SqT K H a xs ∧ SqT K H b ys) (YPair (fun i => xs[i]?) (fun i => ys[i]?)) := by
  refine ⟨fun i H hi q => ?_, fun H q => ⟨xs, ys, q.1, q.2, Or.inl (Nat.le_refl _)⟩, fun i H v H' hi q y => ?_⟩
  · exact ⟨xs, ys, xs[i], ys[i]'(by omega), q.1, q.2, List.getElem?_eq_getElem hi, List.getElem?_eq_getElem (by omega)⟩
  · obtain ⟨T, x, y, h1, h2, h3, h4, h5⟩ := y
    exact ⟨T, x, y, h1, h2, h3, h4 xs q.1, h5 ys q.2⟩
/-- alike(x, y), x and y the same data -/
def spAlike (K : PySem.W.Frag) : Nat → Sp
  | 0 => fun _ _ _ _ => False
  | n + 1 => fun vs H Q _ => ∃ (x y : V) (d : PyData), vs = [x, y] ∧ Dp K H x d ∧ Dp K H y d ∧ Nice n d ∧ ∀ H', Same H H' → Q (.bl true) H'
theorem alike_none {P : Program} {w : World} {K : PySem.W.Frag} {mg : Str → Option Value} {base : Heap} {k : Nat} {f : Addr} {fd : FuncData} {ps : List Str} : FnOk P w K mg base CX0 k f fd ps (spAlike K 0) :=
  ⟨fun _ _ _ _ h => h.elim, fun _ _ _ _ _ _ _ _ _ _ _ _ _ h => h.elim⟩
/-! ### Printings -/
inductive Wd where | sh | ro | co
  deriving DecidableEq
def Wd.s : Wd → Str
  | .sh => "sheet"
  | .ro => "row"
  | .co => "column"
structure Prt where
  series : Str
  first : Int
  cols : Int
  rows : Int
  sheets : Int
  o1 : Wd
  o2 : Wd
  o3 : Wd
def Prt.size (p : Prt) : Wd → Int
  | .sh => p.sheets
  | .ro => p.rows
  | .co => p.cols
def seatW (s r c : Int) : Wd → Int
  | .sh => s
  | .ro => r
  | .co => c
def Prt.num (p : Prt) (s r c : Int) : Int := p.first + ((seatW s r c p.o1 * p.size p.o2 + seatW s r c p.o2) * p.size p.o3 + seatW s r c p.o3)
structure PrOk (p : Prt) : Prop where
  len : p.series.length ≤ 8
  f0 : 0 ≤ p.first
  c1 : 1 ≤ p.cols
  c2 : p.cols ≤ 12
  r1 : 1 ≤ p.rows
  r2 : p.rows ≤ 12
  s1 : 1 ≤ p.sheets
  s2 : p.sheets ≤ 1000000
  most : p.first + p.cols * p.rows * p.sheets ≤ 1000000000
  d12 : p.o1 ≠ p.o2
  d13 : p.o1 ≠ p.o3
  d23 : p.o2 ≠ p.o3
  chr : (p.series.cps.toList.all fun c => decide (c < 16 ^ 8)) = true
def prV (p : Prt) (t : Addr) : List V := [.str p.series, .int p.first, .int p.cols, .int p.rows, .int p.sheets, .ref t]
def ordV (p : Prt) : List V := [.str p.o1.s, .str p.o2.s, .str p.o3.s]
/-- the printing p stands at a -/
def PrAt (H : Hp) (a : Addr) (p : Prt) : Prop := ∃ t, H a = some (.tup (prV p t)) ∧ ∃ o, H t = some (.frz o (.tup (ordV p))) ∧ Tpl o
theorem PrAt.same {H H' : Hp} {a : Addr} {p : Prt} (h : PrAt H a p) (s : Same H H') : PrAt H' a p := by
  obtain ⟨t, h1, o, h2, h3⟩ := h
  exact ⟨t, s _ _ h1, o, s _ _ h2, h3⟩
theorem PrAt.but {H H' : Hp} {f c a : Addr} {p : Prt} {n : Int} (h : PrAt H a p) (hf : Fd H f c n) (s : But f H H') : PrAt H' a p := by
  obtain ⟨t, h1, o, h2, h3⟩ := h
  obtain ⟨xs, hx⟩ := hf.at
  exact ⟨t, s _ _ (ne_of h1 hx (fun z => nomatch z)) h1, o, s _ _ (ne_of h2 hx (fun z => nomatch z)) h2, h3⟩
theorem sqF {K : PySem.W.Frag} {H : Hp} {a : Addr} {o : Obj} {xs : List V} (h : H a = some (.frz o (.tup xs))) : SqT K H a xs := Or.inl (Or.inr ⟨o, h⟩)
def dictW (f : Wd → Int) : List (Key × V) := [(Sum.inr Wd.sh.s, .int (f .sh)), (Sum.inr Wd.ro.s, .int (f .ro)), (Sum.inr Wd.co.s, .int (f .co))]
def dictC (f : Wd → Int) : List (Key × V) := [(Sum.inr Wd.co.s, .int (f .co)), (Sum.inr Wd.ro.s, .int (f .ro)), (Sum.inr Wd.sh.s, .int (f .sh))]
theorem valW (f : Wd → Int) (u : Wd) : valV (dictW f) (Sum.inr u.s) = some (.int (f u)) := by cases u <;> rfl
theorem valC (f : Wd → Int) (u : Wd) : valV (dictC f) (Sum.inr u.s) = some (.int (f u)) := by cases u <;> rfl
theorem PrOk.size_lo {p : Prt} (h : PrOk p) (u : Wd) : 1 ≤ p.size u := by cases u <;> simp only [Prt.size] <;> first | exact h.s1 | exact h.r1 | exact h.c1
theorem PrOk.size_hi {p : Prt} (h : PrOk p) (u : Wd) : p.size u ≤ 1000000 := by
  have h1 := h.s2; have h2 := h.r2; have h3 := h.c2
  cases u <;> simp only [Prt.size] <;> omega
def spHow (dict : (Wd → Int) → List (Key × V)) : Sp := fun vs H Q _ => ∃ (a : Addr) (p : Prt), vs = [.ref a] ∧ PrAt H a p ∧
  ∀ (d : Addr) (H' : Hp), Same H H' → H' d = some (.dK (dict p.size)) → Q (.ref d) H'
def spNum : Sp := fun vs H Q _ => ∃ (a : Addr) (p : Prt) (s r c : Int), vs = [.ref a, .int s, .int r, .int c] ∧ PrAt H a p ∧ PrOk p ∧
  ∀ (H' : Hp), Same H H' → Q (.int (p.num s r c)) H'
theorem get_dW {H : Hp} {d : Addr} {f : Wd → Int} (h : H d = some (.dK (dictW f))) (u : Wd) : DGet H d (.str u.s) (some (.int (f u))) := by
  have q := DGet.k (k := Sum.inr u.s) h
  rw [valW] at q
  exact q
theorem get_dC {H : Hp} {d : Addr} {f : Wd → Int} (h : H d = some (.dK (dictC f))) (u : Wd) : DGet H d (.str u.s) (some (.int (f u))) := by
  have q := DGet.k (k := Sum.inr u.s) h
  rw [valC] at q
  exact q
theorem Prt.num_eq (p : Prt) (s r c : Int) : p.first + (seatW s r c p.o1 * p.size p.o2 * p.size p.o3 + seatW s r c p.o2 * p.size p.o3 + seatW s r c p.o3) = p.num s r c := by
  unfold Prt.num
  rw [Int.add_mul]
theorem PrOk.big {p : Prt} (ok : PrOk p) (u : Wd) : -(2 ^ 64) < p.size u ∧ p.size u < 2 ^ 64 := by
  have := ok.size_lo u
  have := ok.size_hi u
  constructor <;> omega
/-- what draw and its like leave for the words of an order -/
def spOrder : Sp := fun vs H Q _ => ∃ (f c : Addr) (n : Int), vs = [.ref f] ∧ Fd H f c n ∧ n ≤ 900000 ∧
  ∀ (t : Addr) (o : Obj) (u1 u2 u3 : Wd) (H' : Hp), Tpl o → u1 ≠ u2 → u1 ≠ u3 → u2 ≠ u3 → Fd H' f c (n + 2) → But f H H' → H t = none → H' t = some (.frz o (.tup [.str u1.s, .str u2.s, .str u3.s])) → Q (.ref t) H'
def spPrint : Sp := fun vs H Q _ => ∃ (f c : Addr) (n k : Int), vs = [.ref f, .int k] ∧ Fd H f c n ∧ n ≤ 800000 ∧ (k = 0 ∨ k = 1) ∧
  ∀ (a : Addr) (p : Prt) (H' : Hp), Fd H' f c (n + 20) → But f H H' → PrAt H' a p → PrOk p → (k = 1 → p.cols ≤ 4 ∧ p.rows ≤ 4 ∧ p.sheets ≤ 6) → Q (.ref a) H'
theorem mul_bound {a b : Int} {m n : Int} (a0 : 0 ≤ a) (a1 : a ≤ m) (b0 : 0 ≤ b) (b1 : b ≤ n) : 0 ≤ a * b ∧ a * b ≤ m * n :=
  ⟨Int.mul_nonneg a0 b0, Int.mul_le_mul a1 b1 b0 (Int.le_trans a0 a1)⟩
theorem prod_bound {c r s : Int} (c0 : 0 ≤ c) (c1 : c ≤ 12) (r0 : 0 ≤ r) (r1 : r ≤ 12) (s0 : 0 ≤ s) (s1 : s ≤ 1000000) : 0 ≤ c * r * s ∧ c * r * s ≤ 144000000 := by
  obtain ⟨h1, h2⟩ := mul_bound c0 c1 r0 r1
  obtain ⟨h3, h4⟩ := mul_bound h1 h2 s0 s1
  exact ⟨h3, by omega⟩
def abc : Str := "abcdefghijklmnopqrstuvwxyz"
theorem abc_at (i : Int) (h0 : 0 ≤ i) (h1 : i < 26) : ∃ ch, atI abc.cps.toList i = some ch ∧ ch < 16 ^ 8 := by
  obtain ⟨k, rfl⟩ : ∃ k : Nat, i = (k : Int) := ⟨i.toNat, by omega⟩
  have hk : k < abc.cps.toList.length := by
    have e : abc.cps.toList.length = 26 := by decide +kernel
    omega
  have all : ∀ c ∈ abc.cps.toList, c < 16 ^ 8 := by decide +kernel
  exact ⟨abc.cps.toList[k], atI_nat (List.getElem?_eq_getElem hk), all _ (List.getElem_mem hk)⟩
theorem mul_chr {ch : Nat} (n : Int) (h : ch < 16 ^ 8) : ((Txt.mul ⟨#[ch]⟩ n).cps.toList.all fun c => decide (c < 16 ^ 8)) = true := by
  rw [mul_one_list, List.all_eq_true]
  intro c hc
  rw [List.eq_of_mem_replicate hc]
  exact decide_eq_true h
theorem mul1_ok (ch : Nat) (d : Int) (h0 : 0 ≤ d) (h1 : d < 100) : MulOk ⟨#[ch]⟩ (1 + d) := by
  refine ⟨?_, fun _ _ => ?_, fun _ _ => ?_⟩
  · simp only [Bool.or_eq_false_iff, decide_eq_false_iff_not]
    constructor <;> omega
  · have e : (⟨#[ch]⟩ : Str).length = 1 := rfl
    rw [e]
    have : (1 : Int) ≤ (2 ^ 63 - 1) / (1 + d) := by
      rw [Int.le_ediv_iff_mul_le (by omega)]
      omega
    omega
  · have e : (⟨#[ch]⟩ : Str).length = 1 := rfl
    rw [e, Nat.one_mul]
    unfold Builtin.Str.tooLong
    rw [decide_eq_false_iff_not, sizeLine_eq]
    omega
theorem mul1_len (ch : Nat) (d : Int) (N : Nat) (h : 1 + d ≤ (N : Int)) : (Txt.mul ⟨#[ch]⟩ (1 + d)).length ≤ N := len_mul_one rfl h
def rowNums (p : Prt) (s r : Int) : List Int := (List.range p.cols.toNat).map fun (c : Nat) => p.num s r c
def numsOn (p : Prt) (s : Int) : List Int := (List.range p.rows.toNat).flatMap fun (r : Nat) => rowNums p s r
theorem rowNums_len (p : Prt) (s r : Int) : (rowNums p s r).length = p.cols.toNat := by
  unfold rowNums
  rw [List.length_map, List.length_range]
/-- the numbers ahead of the c-th of row r -/
def numsTo (p : Prt) (s : Int) (r c : Nat) : List Int := ((List.range r).flatMap fun (r : Nat) => rowNums p s r) ++ (List.range c).map fun (c : Nat) => p.num s r c
theorem numsTo_row (p : Prt) (s : Int) (r : Nat) : numsTo p s r p.cols.toNat = numsTo p s (r + 1) 0 := by
  unfold numsTo rowNums
  rw [List.range_succ, List.flatMap_append, List.range_zero, List.map_nil, List.append_nil, List.flatMap_singleton]
theorem numsTo_col (p : Prt) (s : Int) (r c : Nat) : numsTo p s r (c + 1) = numsTo p s r c ++ [p.num s r c] := by
  unfold numsTo
  rw [List.range_succ, List.map_append, List.append_assoc]
  rfl
theorem numsTo_all (p : Prt) (s : Int) : numsTo p s p.rows.toNat 0 = numsOn p s := by
  unfold numsTo numsOn
  rw [List.range_zero, List.map_nil, List.append_nil]
theorem numsTo_len (p : Prt) (s : Int) (r c : Nat) : (numsTo p s r c).length = r * p.cols.toNat + c := by
  unfold numsTo
  rw [List.length_append, List.length_map, List.length_range, List.length_flatMap]
  have e : (List.map (fun (a : Nat) => (rowNums p s a).length) (List.range r)) = List.replicate r p.cols.toNat := by
    apply List.ext_getElem
    · simp
    · intro i h1 h2
      simp [rowNums_len]
  rw [e, List.sum_replicate_nat]
def spNumsOn : Sp := fun vs H Q _ => ∃ (a : Addr) (p : Prt) (s : Int), vs = [.ref a, .int s] ∧ PrAt H a p ∧ PrOk p ∧
  ∀ (l : Addr) (H' : Hp), Same H H' → H l = none → H' l = some (.lst ((numsOn p s).map V.int)) → Q (.ref l) H'
/-! ### Runs -/
abbrev Rn := Str × Int × Int
def rnV (r : Rn) : List V := [.str r.1, .int r.2.1, .int r.2.2]
def rnD (r : Rn) : PyData := .tuple [.str r.1, .int r.2.1, .int r.2.2]
/-- the runs rs stand at the places ps -/
abbrev Prd (H : Hp) (ps : List Addr) (rs : List Rn) : Prop := Paired (fun (p : Addr) (r : Rn) => H p = some (.tup (rnV r))) ps rs
theorem Prd.len {H : Hp} {ps : List Addr} {rs : List Rn} (h : Prd H ps rs) : ps.length = rs.length := Paired.length h
theorem Prd.same {H H' : Hp} (s : Same H H') : ∀ {ps : List Addr} {rs : List Rn}, Prd H ps rs → Prd H' ps rs
  | _, _, .nil => .nil
  | _, _, .cons a b => .cons (s _ _ a) (Prd.same s b)
theorem Prd.get {H : Hp} : ∀ {ps : List Addr} {rs : List Rn} {i : Nat} {p : Addr}, Prd H ps rs → ps[i]? = some p → ∃ r, rs[i]? = some r ∧ H p = some (.tup (rnV r))
  | _, _, 0, _, .cons a _, h => by
    cases h
    exact ⟨_, rfl, a⟩
  | _, _, i + 1, p, .cons _ b, h => Prd.get (i := i) (p := p) b h
theorem Prd.app {H : Hp} : ∀ {ps qs : List Addr} {rs ts : List Rn}, Prd H ps rs → Prd H qs ts → Prd H (ps ++ qs) (rs ++ ts)
  | _, _, _, _, .nil, b => b
  | _, _, _, _, .cons a r, b => .cons a (Prd.app r b)
theorem Prd.mem {H : Hp} : ∀ {ps : List Addr} {rs : List Rn} {p : Addr}, Prd H ps rs → p ∈ ps → ∃ r ∈ rs, H p = some (.tup (rnV r))
  | _, _, p, .cons a b, h => by
    rcases List.mem_cons.mp h with e | e
    · subst e
      exact ⟨_, List.mem_cons_self, a⟩
    · obtain ⟨r, h1, h2⟩ := Prd.mem b e
      exact ⟨r, List.mem_cons_of_mem _ h1, h2⟩
theorem Prd.dp {K : PySem.W.Frag} {H : Hp} : ∀ {ps : List Addr} {rs : List Rn}, Prd H ps rs → DpAll K H (ps.map V.ref) (rs.map rnD)
  | _, _, .nil => .nil
  | _, _, .cons a b => .cons (.tup (SqT.of a) (.cons (.str _) (.cons (.int _) (.cons (.int _) .nil)))) (Prd.dp b)
/-- one run more, its place new or not, all else as it was -/
theorem Prd.keep {H H' : Hp} : ∀ {ps : List Addr} {rs : List Rn}, (∀ p ∈ ps, ∀ o, H p = some o → H' p = some o) → Prd H ps rs → Prd H' ps rs
  | _, _, _, .nil => .nil
  | _, _, k, .cons a b => .cons (k _ List.mem_cons_self _ a) (Prd.keep (fun p hp => k p (List.mem_cons_of_mem _ hp)) b)
def rnLe (a b : Rn) : Bool := PySem.W.dataLe false rnD a b
/-- Python's order of runs -/
def rnLt (a b : Rn) : Prop := a.1.cps.toList < b.1.cps.toList ∨ (a.1 = b.1 ∧ (a.2.1 < b.2.1 ∨ (a.2.1 = b.2.1 ∧ a.2.2 < b.2.2)))
theorem rn_lt (a b : Rn) : PySem.W.dataLt (rnD a) (rnD b) = decide (a.1.cps.toList < b.1.cps.toList ∨ (a.1 = b.1 ∧ (a.2.1 < b.2.1 ∨ (a.2.1 = b.2.1 ∧ a.2.2 < b.2.2)))) := by
  unfold rnD
  rw [PySem.W.dataLt_tuple, PySem.W.dataLt_cons (by simp [PySem.W.alike]), PySem.W.dataLt_cons (by simp [PySem.W.alike]), PySem.W.dataLt_cons (by simp [PySem.W.alike]), PySem.W.dataLt_str, PySem.W.dataLt_int, PySem.W.dataLt_int]
  rw [PyProof.Rows.lex_irrefl]
  simp only [PyData.eqv, beq_iff_eq]
  by_cases h1 : a.1 = b.1
  · have n : ¬ a.1.cps.toList < b.1.cps.toList := by
      rw [h1]
      exact List.lt_irrefl _
    by_cases h2 : a.2.1 = b.2.1
    · by_cases h3 : a.2.2 = b.2.2
      · rw [if_pos h1, if_pos h2, if_pos h3]
        symm
        rw [decide_eq_false_iff_not]
        rintro (h | ⟨_, h | ⟨_, h⟩⟩)
        · exact n h
        · omega
        · omega
      · rw [if_pos h1, if_pos h2, if_neg h3, decide_eq_decide]
        refine ⟨fun h => Or.inr ⟨h1, Or.inr ⟨h2, h⟩⟩, ?_⟩
        rintro (h | ⟨_, h | ⟨_, h⟩⟩)
        · exact absurd h n
        · omega
        · exact h
    · rw [if_pos h1, if_neg h2, decide_eq_decide]
      refine ⟨fun h => Or.inr ⟨h1, Or.inl h⟩, ?_⟩
      rintro (h | ⟨_, h | ⟨h, _⟩⟩)
      · exact absurd h n
      · exact h
      · exact absurd h h2
  · rw [if_neg h1, decide_eq_decide]
    refine ⟨Or.inl, ?_⟩
    rintro (h | ⟨h, _⟩)
    · exact h
    · exact absurd h h1
def apart (a b : Rn) : Bool := if a.1 = b.1 then decide (a.2.2 < b.2.1) else decide (a.1.cps.toList < b.1.cps.toList)
def push (acc : List Rn) (r : Rn) : List Rn := match acc.getLast? with
  | none => [r]
  | some l => if apart l r then acc ++ [r] else acc.dropLast ++ [(l.1, l.2.1, if r.2.2 > l.2.2 then r.2.2 else l.2.2)]
def merge (rs : List Rn) : List Rn := rs.foldl push []
def runsOf (rs : List Rn) : List Rn := merge (rs.mergeSort rnLe)
theorem sort_rn {H : Hp} {ps : List Addr} {rs : List Rn} (h : Prd H ps rs) : ∃ qs : List Addr, sortD (ps.map V.ref) (rs.map rnD) = qs.map V.ref ∧ Prd H qs (rs.mergeSort rnLe) := by
  have hl := h.len
  have e1 : ((ps.map V.ref).zip (rs.map rnD)) = (ps.zip rs).map (fun x => (V.ref x.1, rnD x.2)) := by
    rw [List.zip_map]
    rfl
  refine ⟨((ps.zip rs).mergeSort (fun x y => rnLe x.2 y.2)).map Prod.fst, ?_, ?_⟩
  · unfold sortD
    rw [e1, ← PySem.W.sort_maps (r := fun x y => rnLe x.2 y.2) (fun x : Addr × Rn => (V.ref x.1, rnD x.2)) (fun _ _ _ _ => rfl), List.map_map, List.map_map]
    rfl
  · have e2 : ((ps.zip rs).mergeSort (fun x y => rnLe x.2 y.2)).map Prod.snd = rs.mergeSort rnLe := by
      rw [PySem.W.sort_maps (s := rnLe) Prod.snd (fun _ _ _ _ => rfl), List.map_snd_zip (by omega)]
    rw [← e2]
    have at_ : ∀ x ∈ ps.zip rs, H x.1 = some (.tup (rnV x.2)) := by
      clear e1 e2 hl
      induction h with
      | nil => exact fun x hx => nomatch hx
      | cons a b ih =>
        intro x hx
        rcases List.mem_cons.mp hx with z | z
        · subst z
          exact a
        · exact ih x z
    have all : ∀ l : List (Addr × Rn), (∀ x ∈ l, H x.1 = some (.tup (rnV x.2))) → Prd H (l.map Prod.fst) (l.map Prod.snd) := fun l => by
      induction l with
      | nil => exact fun _ => .nil
      | cons x l ih => exact fun k => .cons (k x List.mem_cons_self) (ih fun y hy => k y (List.mem_cons_of_mem _ hy))
    exact all _ fun x hx => at_ x (List.mem_mergeSort.mp hx)
theorem rn_alike (rs : List Rn) : PySem.W.AllAlike (rs.map rnD) := by
  intro d hd e he
  obtain ⟨a, _, rfl⟩ := List.mem_map.mp hd
  obtain ⟨b, _, rfl⟩ := List.mem_map.mp he
  simp [rnD, PySem.W.alike, PySem.W.alikeAll]
theorem rn_sortable (rs : List Rn) : PySem.W.Sortable (rs.map rnD) := by
  refine Or.inl fun d hd => ?_
  obtain ⟨a, _, rfl⟩ := List.mem_map.mp hd
  exact ⟨_, _, rfl⟩
theorem rn_depth (rs : List Rn) : ∀ d ∈ rs.map rnD, d.depth ≤ 60 := by
  intro d hd
  obtain ⟨a, _, rfl⟩ := List.mem_map.mp hd
  simp [rnD, PyData.depth, PyData.depthAll]
theorem push_len (acc : List Rn) (r : Rn) : (push acc r).length ≤ acc.length + 1 := by
  unfold push
  split
  · simp
  · split
    · simp
    · simp
theorem merge_len (rs : List Rn) : (merge rs).length ≤ rs.length := by
  have all : ∀ (l acc : List Rn), (l.foldl push acc).length ≤ acc.length + l.length := fun l => by
    induction l with
    | nil => intro acc; simp
    | cons r l ih =>
      intro acc
      have h1 := ih (push acc r)
      have h2 := push_len acc r
      rw [List.foldl_cons, List.length_cons]
      omega
  have z := all rs []
  rw [List.length_nil, Nat.zero_add] at z
  exact z
theorem push_snoc (acc : List Rn) (l r : Rn) : push (acc ++ [l]) r = if apart l r then acc ++ [l] ++ [r] else acc ++ [(l.1, l.2.1, if r.2.2 > l.2.2 then r.2.2 else l.2.2)] := by
  unfold push
  rw [List.getLast?_concat]
  simp only [List.dropLast_concat]
theorem Prd.snoc {H : Hp} : ∀ {ps : List Addr} {rs : List Rn} {p : Addr}, Prd H (ps ++ [p]) rs → ∃ ts r, rs = ts ++ [r] ∧ Prd H ps ts ∧ H p = some (.tup (rnV r))
  | [], _, p, h => by
    cases h with
    | cons a b =>
      cases b
      exact ⟨[], _, rfl, .nil, a⟩
  | x :: ps, _, p, h => by
    cases h with
    | cons a b =>
      obtain ⟨ts, r, rfl, h1, h2⟩ := Prd.snoc b
      exact ⟨_ :: ts, r, rfl, .cons a h1, h2⟩
theorem Prd.one {H : Hp} {p : Addr} {r : Rn} (h : H p = some (.tup (rnV r))) : Prd H [p] [r] := .cons h .nil
theorem ix_last (n : Nat) : ixN (n + 1) (-1) = some n := by
  unfold ixN
  rw [if_neg (by omega), if_pos (by omega)]
  exact congrArg some (by omega)
theorem nil_or_snoc {α : Type} (l : List α) : l = [] ∨ ∃ i x, l = i ++ [x] := by
  rcases List.eq_nil_or_concat l with h | ⟨i, x, h⟩
  · exact .inl h
  · exact .inr ⟨i, x, by rw [h, List.concat_eq_append]⟩
theorem merge_more {l : List Rn} {i : Nat} {r : Rn} (h : l[i]? = some r) : merge (l.take (i + 1)) = push (merge (l.take i)) r := by
  unfold merge
  obtain ⟨hi, e⟩ := List.getElem?_eq_some_iff.mp h
  rw [List.take_succ_eq_append_getElem hi, List.foldl_append, e]
  rfl
def spApart : Sp := fun vs H Q _ => ∃ (p q : Addr) (a b : Rn), vs = [.ref p, .ref q] ∧ H p = some (.tup (rnV a)) ∧ H q = some (.tup (rnV b)) ∧ Q (.bl (apart a b)) H
def spRunsOf (K : PySem.W.Frag) : Sp := fun vs H Q _ => ∃ (a : Addr) (ps : List Addr) (rs : List Rn), vs = [.ref a] ∧ SqL K H a (ps.map V.ref) ∧ Prd H ps rs ∧ rs.length ≤ 100000 ∧
  ∀ (t : Addr) (qs : List Addr) (H' : Hp), Same H H' → H t = none → H' t = some (.tup (qs.map V.ref)) → Prd H' qs (runsOf rs) → Q (.ref t) H'
def single (s : Str) (n : Int) : Rn := (s, n, n + 1)
def spRunsNums : Sp := fun vs H Q _ => ∃ (a l : Addr) (p : Prt) (ns : List Int), vs = [.ref a, .ref l] ∧ PrAt H a p ∧ H l = some (.lst (ns.map V.int)) ∧ ns.length ≤ 100000 ∧
  ∀ (t : Addr) (qs : List Addr) (H' : Hp), Same H H' → H t = none → H' t = some (.tup (qs.map V.ref)) → Prd H' qs (runsOf (ns.map (single p.series))) → Q (.ref t) H'
def spSheetRuns : Sp := fun vs H Q _ => ∃ (a : Addr) (p : Prt) (s : Int), vs = [.ref a, .int s] ∧ PrAt H a p ∧ PrOk p ∧
  ∀ (t : Addr) (qs : List Addr) (H' : Hp), Same H H' → H t = none → H' t = some (.tup (qs.map V.ref)) → Prd H' qs (runsOf ((numsOn p s).map (single p.series))) → Q (.ref t) H'
def spPile (f : Prt → Int → Int → Int) : Sp := fun vs H Q _ => ∃ (a : Addr) (p : Prt) (r c : Int), vs = [.ref a, .int r, .int c] ∧ PrAt H a p ∧ PrOk p ∧
  ∀ (t : Addr) (H' : Hp), Same H H' → H t = none → H' t = some (.tup [.int (p.num 0 r c), .int (f p r c), .int p.sheets]) → Q (.ref t) H'
theorem numsOn_len {p : Prt} (ok : PrOk p) (s : Int) : (numsOn p s).length ≤ 144 := by
  rw [← numsTo_all, numsTo_len]
  have h1 := ok.r2
  have h2 := ok.c2
  have : p.rows.toNat * p.cols.toNat ≤ 12 * 12 := Nat.mul_le_mul (by omega) (by omega)
  omega
/-! ### Sheets: numbers on a sheet are unlike; joined they are the runs -/
theorem mixed {x y n c d : Int} (e : x * n + c = y * n + d) (c0 : 0 ≤ c) (c1 : c < n) (d0 : 0 ≤ d) (d1 : d < n) : x = y ∧ c = d := by
  have h1 : (x * n + c) / n = x := by
    rw [Int.add_comm, Int.add_mul_ediv_right _ _ (by omega), Int.ediv_eq_zero_of_lt c0 c1, Int.zero_add]
  have h2 : (y * n + d) / n = y := by
    rw [Int.add_comm, Int.add_mul_ediv_right _ _ (by omega), Int.ediv_eq_zero_of_lt d0 d1, Int.zero_add]
  have h3 : x = y := by rw [← h1, ← h2, e]
  subst h3
  exact ⟨rfl, by omega⟩
theorem cancel {x y n : Int} (e : x * n = y * n) (h : 1 ≤ n) : x = y := Int.eq_of_mul_eq_mul_right (by omega) e
theorem num_inj {p : Prt} (ok : PrOk p) {s r c r' c' : Int} (r0 : 0 ≤ r) (r1 : r < p.rows) (c0 : 0 ≤ c) (c1 : c < p.cols) (r0' : 0 ≤ r') (r1' : r' < p.rows) (c0' : 0 ≤ c') (c1' : c' < p.cols)
    (e : p.num s r c = p.num s r' c') : r = r' ∧ c = c' := by
  obtain ⟨series, first, cols, rows, sheets, o1, o2, o3⟩ := p
  have s1 := ok.s1
  have d12 := ok.d12
  have d13 := ok.d13
  have d23 := ok.d23
  dsimp only at *
  unfold Prt.num at e
  dsimp only at e
  have e := Int.add_left_cancel e
  cases o1 <;> cases o2 <;> cases o3 <;> first | exact absurd rfl d12 | exact absurd rfl d13 | exact absurd rfl d23 | skip
  all_goals simp only [seatW, Prt.size] at e
  · obtain ⟨h1, h2⟩ := mixed e c0 c1 c0' c1'
    exact ⟨by omega, h2⟩
  · obtain ⟨h1, h2⟩ := mixed e r0 r1 r0' r1'
    exact ⟨h2, by omega⟩
  · obtain ⟨h1, h2⟩ := mixed e c0 c1 c0' c1'
    exact ⟨cancel (n := sheets) (by omega) s1, h2⟩
  · have h1 := cancel (x := r * cols + c) (y := r' * cols + c') (n := sheets) (by omega) s1
    exact mixed h1 c0 c1 c0' c1'
  · obtain ⟨h1, h2⟩ := mixed e r0 r1 r0' r1'
    exact ⟨h2, cancel (n := sheets) (by omega) s1⟩
  · have h1 := cancel (x := c * rows + r) (y := c' * rows + r') (n := sheets) (by omega) s1
    obtain ⟨h2, h3⟩ := mixed h1 r0 r1 r0' r1'
    exact ⟨h3, h2⟩
theorem nums_nodup {p : Prt} (ok : PrOk p) (s : Int) : (numsOn p s).Pairwise (· ≠ ·) := by
  unfold numsOn
  rw [List.pairwise_flatMap]
  refine ⟨fun r hr => ?_, ?_⟩
  · unfold rowNums
    rw [List.pairwise_map]
    refine List.Pairwise.imp_of_mem ?_ List.nodup_range
    intro c c' hc hc' ne e
    have h1 := List.mem_range.mp hr
    have h2 := List.mem_range.mp hc
    have h3 := List.mem_range.mp hc'
    have z := num_inj ok (by omega) (by omega) (by omega) (by omega) (by omega) (by omega) (by omega) (by omega) e
    exact ne (by omega)
  · refine List.Pairwise.imp_of_mem ?_ List.nodup_range
    intro r r' hr hr' ne x hx y hy e
    unfold rowNums at hx hy
    obtain ⟨c, hc, rfl⟩ := List.mem_map.mp hx
    obtain ⟨c', hc', rfl⟩ := List.mem_map.mp hy
    have h1 := List.mem_range.mp hr
    have h2 := List.mem_range.mp hr'
    have h3 := List.mem_range.mp hc
    have h4 := List.mem_range.mp hc'
    have z := num_inj ok (by omega) (by omega) (by omega) (by omega) (by omega) (by omega) (by omega) (by omega) e
    exact ne (by omega)
/-- one number more, as the law joins them -/
def step (s : Str) (acc : List Rn) (n : Int) : List Rn := match acc.getLast? with
  | none => [single s n]
  | some l => if l.2.2 = n then acc.dropLast ++ [(s, l.2.1, n + 1)] else acc ++ [single s n]
theorem step_snoc (s : Str) (acc : List Rn) (l : Rn) (n : Int) : step s (acc ++ [l]) n = if l.2.2 = n then acc ++ [(s, l.2.1, n + 1)] else acc ++ [l] ++ [single s n] := by
  unfold step
  rw [List.getLast?_concat]
  simp only [List.dropLast_concat]
theorem push_step {s : Str} {acc : List Rn} {n : Int} (h : ∀ l, acc.getLast? = some l → l.1 = s ∧ l.2.2 ≤ n) : push acc (single s n) = step s acc n := by
  rcases nil_or_snoc acc with rfl | ⟨i, l, rfl⟩
  · rfl
  · obtain ⟨h1, h2⟩ := h l List.getLast?_concat
    rw [push_snoc, step_snoc]
    have e : apart l (single s n) = decide (l.2.2 < n) := if_pos h1
    rw [e]
    by_cases c : l.2.2 = n
    · rw [if_neg (by rw [decide_eq_true_eq]; omega), if_pos c]
      have m : (if (single s n).2.2 > l.2.2 then (single s n).2.2 else l.2.2) = n + 1 := if_pos (show n + 1 > l.2.2 by omega)
      rw [m, h1]
    · rw [if_pos (by rw [decide_eq_true_eq]; omega), if_neg c]
theorem step_last (s : Str) (acc : List Rn) (n : Int) : ∃ i l, step s acc n = i ++ [l] ∧ l.1 = s ∧ l.2.2 = n + 1 := by
  rcases nil_or_snoc acc with rfl | ⟨i, l, rfl⟩
  · exact ⟨[], single s n, rfl, rfl, rfl⟩
  · rw [step_snoc]
    by_cases c : l.2.2 = n
    · rw [if_pos c]
      exact ⟨_, _, rfl, rfl, rfl⟩
    · rw [if_neg c]
      exact ⟨_, _, rfl, rfl, rfl⟩
theorem fold_step (s : Str) : ∀ (ns : List Int) (acc : List Rn), ns.Pairwise (· < ·) → (∀ l, acc.getLast? = some l → l.1 = s ∧ ∀ n ∈ ns, l.2.2 ≤ n) → (ns.map (single s)).foldl push acc = ns.foldl (step s) acc
  | [], _, _, _ => rfl
  | n :: ns, acc, hp, h => by
    have hp := List.pairwise_cons.mp hp
    rw [List.map_cons, List.foldl_cons, List.foldl_cons, push_step (fun l hl => ⟨(h l hl).1, (h l hl).2 n List.mem_cons_self⟩)]
    refine fold_step s ns _ hp.2 fun l hl => ?_
    obtain ⟨i, l', e, h1, h2⟩ := step_last s acc n
    rw [e, List.getLast?_concat] at hl
    cases hl
    refine ⟨h1, fun m hm => ?_⟩
    have := hp.1 m hm
    omega
theorem single_le (s : Str) (a b : Int) : rnLe (single s a) (single s b) = decide (a ≤ b) := by
  show (!PySem.W.dataLt (rnD (single s b)) (rnD (single s a))) = _
  rw [rn_lt]
  have n : ¬ (single s b).1.cps.toList < (single s a).1.cps.toList := List.lt_irrefl _
  by_cases c : b < a
  · rw [decide_eq_true (Or.inr ⟨rfl, Or.inl c⟩), decide_eq_false (by omega)]
    rfl
  · have z : ¬ ((single s b).1.cps.toList < (single s a).1.cps.toList ∨ (single s b).1 = (single s a).1 ∧ ((single s b).2.1 < (single s a).2.1 ∨ (single s b).2.1 = (single s a).2.1 ∧ (single s b).2.2 < (single s a).2.2)) := by
      rintro (h | ⟨_, h | ⟨_, h⟩⟩)
      · exact n h
      · exact c h
      · have h : b + 1 < a + 1 := h
        omega
    rw [decide_eq_false z, decide_eq_true (by omega)]
    rfl
theorem runsOf_singles {s : Str} {ns ms : List Int} (hp : ms.Perm ns) (hs : ms.Pairwise (· ≤ ·)) (hn : ns.Pairwise (· ≠ ·)) : ms.foldl (step s) [] = runsOf (ns.map (single s)) := by
  unfold runsOf merge
  have e1 : (ns.map (single s)).mergeSort rnLe = (ns.mergeSort fun a b => decide (a ≤ b)).map (single s) := (PySem.W.sort_maps (single s) (fun a _ b _ => (single_le s a b).symm)).symm
  have e2 : ms = ns.mergeSort fun a b => decide (a ≤ b) := by
    refine List.Perm.eq_of_pairwise (le := fun a b => a ≤ b) (fun a b _ _ => Int.le_antisymm) hs ?_ (hp.trans (List.mergeSort_perm _ _).symm)
    have z := List.pairwise_mergeSort (le := fun (a b : Int) => decide (a ≤ b)) (fun a b c h1 h2 => by rw [decide_eq_true_eq] at *; omega) (fun a b => by rw [Bool.or_eq_true, decide_eq_true_eq, decide_eq_true_eq]; omega) ns
    exact z.imp fun h => of_decide_eq_true h
  have lt : ms.Pairwise (· < ·) := by
    have hm : ms.Pairwise (· ≠ ·) := (hp.pairwise_iff (fun h => Ne.symm h)).mpr hn
    exact (hs.and hm).imp fun h => by omega
  rw [e1, ← e2]
  exact (fold_step s ms [] lt fun l hl => nomatch hl).symm
theorem step_len (s : Str) (acc : List Rn) (n : Int) : (step s acc n).length ≤ acc.length + 1 := by
  rcases nil_or_snoc acc with rfl | ⟨i, l, rfl⟩
  · exact Nat.le_refl _
  · rw [step_snoc]
    split <;> simp
theorem steps_len (s : Str) (ns : List Int) : (ns.foldl (step s) []).length ≤ ns.length := by
  have all : ∀ (l : List Int) (acc : List Rn), (l.foldl (step s) acc).length ≤ acc.length + l.length := fun l => by
    induction l with
    | nil => intro acc; simp
    | cons r l ih =>
      intro acc
      have h1 := ih (step s acc r)
      have h2 := step_len s acc r
      rw [List.foldl_cons, List.length_cons]
      omega
  have z := all ns []
  rw [List.length_nil, Nat.zero_add] at z
  exact z
theorem steps_more {s : Str} {l : List Int} {i : Nat} {n : Int} (h : l[i]? = some n) : (l.take (i + 1)).foldl (step s) [] = step s ((l.take i).foldl (step s) []) n := by
  obtain ⟨hi, e⟩ := List.getElem?_eq_some_iff.mp h
  rw [List.take_succ_eq_append_getElem hi, List.foldl_append, e]
  rfl
/-- what a pile's numbers grow by, from the sizes of the words behind "sheet" -/
def stepOf (p : Prt) : Int := match p.o1, p.o2, p.o3 with
  | .sh, b, c => 1 * p.size b * p.size c
  | _, .sh, c => 1 * p.size c
  | _, _, _ => 1
theorem step_of {p : Prt} (ok : PrOk p) (r c : Int) : p.num 1 r c - p.num 0 r c = stepOf p := by
  obtain ⟨series, first, cols, rows, sheets, o1, o2, o3⟩ := p
  have d12 := ok.d12
  have d13 := ok.d13
  have d23 := ok.d23
  dsimp only at *
  unfold Prt.num stepOf
  dsimp only
  cases o1 <;> cases o2 <;> cases o3 <;> first | exact absurd rfl d12 | exact absurd rfl d13 | exact absurd rfl d23 | skip
  all_goals simp only [seatW, Prt.size, Int.zero_mul, Int.one_mul, Int.add_mul, Int.zero_add]
  all_goals omega
def strsW (ws : List Wd) : List V := ws.map fun w => V.str w.s
theorem behind {p : Prt} (ok : PrOk p) : ∃ (j : Nat) (bs : List Wd), [p.o1.s, p.o2.s, p.o3.s][j]? = some Wd.sh.s ∧ (∀ m, m < j → [p.o1.s, p.o2.s, p.o3.s][m]? ≠ some Wd.sh.s) ∧
    cutV (ordV p) (some ((j : Int) + 1)) none = strsW bs ∧ bs.foldl (fun x w => x * p.size w) 1 = stepOf p ∧ j < 3 := by
  obtain ⟨series, first, cols, rows, sheets, o1, o2, o3⟩ := p
  have d12 := ok.d12
  have d13 := ok.d13
  have d23 := ok.d23
  dsimp only at *
  cases o1 <;> cases o2 <;> cases o3 <;> first | exact absurd rfl d12 | exact absurd rfl d13 | exact absurd rfl d23 | skip
  · exact ⟨0, [.ro, .co], rfl, fun m hm => absurd hm (Nat.not_lt_zero _), rfl, rfl, by decide⟩
  · exact ⟨0, [.co, .ro], rfl, fun m hm => absurd hm (Nat.not_lt_zero _), rfl, rfl, by decide⟩
  · refine ⟨1, [.co], rfl, fun m hm => ?_, rfl, rfl, by decide⟩
    obtain rfl : m = 0 := by omega
    decide +kernel
  · refine ⟨2, [], rfl, fun m hm => ?_, rfl, rfl, by decide⟩
    rcases (show m = 0 ∨ m = 1 by omega) with rfl | rfl <;> decide +kernel
  · refine ⟨1, [.ro], rfl, fun m hm => ?_, rfl, rfl, by decide⟩
    obtain rfl : m = 0 := by omega
    decide +kernel
  · refine ⟨2, [], rfl, fun m hm => ?_, rfl, rfl, by decide⟩
    rcases (show m = 0 ∨ m = 1 by omega) with rfl | rfl <;> decide +kernel
theorem PrOk.thin1 {p : Prt} (ok : PrOk p) : PrOk { p with sheets := 1 } := by
  have h1 := ok.most
  have h2 : p.cols * p.rows * 1 ≤ p.cols * p.rows * p.sheets := Int.mul_le_mul_of_nonneg_left ok.s1 (Int.mul_nonneg (by have := ok.c1; omega) (by have := ok.r1; omega))
  exact ⟨ok.len, ok.f0, ok.c1, ok.c2, ok.r1, ok.r2, Int.le_refl 1, (show (1 : Int) ≤ 1000000 by decide), by show p.first + p.cols * p.rows * 1 ≤ _; omega, ok.d12, ok.d13, ok.d23, ok.chr⟩
theorem PrOk.thin2 {p : Prt} (ok : PrOk p) : PrOk { p with cols := 1 } := by
  have h1 := ok.most
  have h3 := ok.s1
  have h4 := ok.r1
  have h2 : 1 * p.rows * p.sheets ≤ p.cols * p.rows * p.sheets := Int.mul_le_mul_of_nonneg_right (Int.mul_le_mul_of_nonneg_right ok.c1 (by omega)) (by omega)
  exact ⟨ok.len, ok.f0, Int.le_refl 1, (show (1 : Int) ≤ 12 by decide), ok.r1, ok.r2, ok.s1, ok.s2, by show p.first + 1 * p.rows * p.sheets ≤ _; omega, ok.d12, ok.d13, ok.d23, ok.chr⟩
theorem PrOk.thin3 {p : Prt} (ok : PrOk p) : PrOk { p with rows := 1 } := by
  have h1 := ok.most
  have h3 := ok.s1
  have h4 := ok.c1
  have h2 : p.cols * 1 * p.sheets ≤ p.cols * p.rows * p.sheets := Int.mul_le_mul_of_nonneg_right (Int.mul_le_mul_of_nonneg_left ok.r1 (by omega)) (by omega)
  exact ⟨ok.len, ok.f0, ok.c1, ok.c2, Int.le_refl 1, (show (1 : Int) ≤ 12 by decide), ok.s1, ok.s2, by show p.first + p.cols * 1 * p.sheets ≤ _; omega, ok.d12, ok.d13, ok.d23, ok.chr⟩
/-- right printings at these places -/
def PrsAt (H : Hp) (as : List Addr) (ps : List Prt) : Prop := Paired (fun (a : Addr) (p : Prt) => PrAt H a p ∧ PrOk p) as ps
theorem PrsAt.same {H H' : Hp} (s : Same H H') : ∀ {as : List Addr} {ps : List Prt}, PrsAt H as ps → PrsAt H' as ps
  | _, _, .nil => .nil
  | _, _, .cons a b => .cons ⟨a.1.same s, a.2⟩ (PrsAt.same s b)
theorem PrsAt.but {H H' : Hp} {f c : Addr} {n : Int} (hf : Fd H f c n) (s : But f H H') : ∀ {as : List Addr} {ps : List Prt}, PrsAt H as ps → PrsAt H' as ps
  | _, _, .nil => .nil
  | _, _, .cons a b => .cons ⟨a.1.but hf s, a.2⟩ (PrsAt.but hf s b)
theorem PrsAt.get {H : Hp} : ∀ {as : List Addr} {ps : List Prt} {i : Nat} {a : Addr}, PrsAt H as ps → as[i]? = some a → ∃ p, ps[i]? = some p ∧ PrAt H a p ∧ PrOk p
  | _, _, 0, _, .cons a _, h => by
    cases h
    exact ⟨_, rfl, a.1, a.2⟩
  | _, _, i + 1, a, .cons _ b, h => PrsAt.get (i := i) (a := a) b h
def spPrints : Sp := fun vs H Q _ => ∃ (f c : Addr) (n : Int), vs = [.ref f] ∧ Fd H f c n ∧ n ≤ 700000 ∧
  ∀ (l : Addr) (as : List Addr) (ps : List Prt) (H' : Hp), Fd H' f c (n + 50) → But f H H' → l ≠ f → H' l = some (.lst (as.map V.ref)) → PrsAt H' as ps → as.length = 4 → Q (.ref l) H'
/-! ### How long a repr is -/
mutual
def cost : PyData → Nat
  | .none => 4
  | .bool _ => 5
  | .int _ => 2000
  | .str x => 10 * x.length + 2
  | .list xs => costAll xs + 3
  | .tuple xs => costAll xs + 3
  | .dict _ => 0
def costAll : List PyData → Nat
  | [] => 0
  | x :: xs => cost x + 2 + costAll xs
end
mutual
def fineD : PyData → Bool
  | .none => true
  | .bool _ => true
  | .int i => decide (i.natAbs.log2 < 1920)
  | .str x => x.cps.toList.all fun c => decide (c < 16 ^ 8)
  | .list xs => fineAll xs
  | .tuple xs => fineAll xs
  | .dict _ => false
def fineAll : List PyData → Bool
  | [] => true
  | x :: xs => fineD x && fineAll xs
end
theorem from_len : ∀ (ts : List Str) (k : Nat) (acc : Str), (textFrom k acc ts).length ≤ acc.length + piled ts
  | [], k, acc => by
    unfold textFrom
    exact Nat.le_add_right _ _
  | t :: ts, k, acc => by
    unfold textFrom
    rw [piled_cons]
    have z := from_len ts (k + 1) (acc ++ (if k > 0 then ", " else "" : String) ++ t)
    have e : (((if k > 0 then ", " else "" : String) : Str)).length ≤ 2 := by split <;> decide +kernel
    rw [strLen_append, strLen_append] at z
    omega
theorem tup_len (ts : List Str) : (tupleText ts).length ≤ piled ts + 3 := by
  have e1 : ((("(" : String) : Str)).length = 1 := rfl
  have e3 : (((if ts.length == 1 then ",)" else ")" : String) : Str)).length ≤ 2 := by split <;> decide +kernel
  unfold tupleText
  rw [strLen_append, strLen_append, e1]
  cases ts with
  | nil =>
    have : (Str.join ", " []).length = 0 := rfl
    omega
  | cons t ts =>
    have := join_length_add (t :: ts) (fun z => nomatch z)
    omega
mutual
theorem shown_cost : ∀ d : PyData, fineD d = true → d.shown.length ≤ cost d
  | .none, _ => by decide +kernel
  | .bool b, _ => by cases b <;> decide +kernel
  | .int i, h => by
    have := int_text_len_1921 (of_decide_eq_true h)
    unfold PyData.shown cost
    omega
  | .str x, h => StrLaws.reprText_len x fun c hc => of_decide_eq_true (List.all_eq_true.mp h c hc)
  | .list xs, h => by
    have z := shown_costAll xs h
    have y := from_len (PyData.shownAll xs) 0 "["
    have e : (("[" : String) : Str).length = 1 := rfl
    have e2 : (("]" : String) : Str).length = 1 := rfl
    unfold PyData.shown cost listText
    rw [strLen_append, e2]
    rw [e] at y
    omega
  | .tuple xs, h => by
    have z := shown_costAll xs h
    have y := tup_len (PyData.shownAll xs)
    unfold PyData.shown cost
    omega
theorem shown_costAll : ∀ xs : List PyData, fineAll xs = true → piled (PyData.shownAll xs) ≤ costAll xs
  | [], _ => Nat.zero_le _
  | x :: xs, h => by
    have h := Bool.and_eq_true_iff.mp h
    have z1 := shown_cost x h.1
    have z2 := shown_costAll xs h.2
    unfold PyData.shownAll costAll
    rw [piled_cons]
    omega
end
mutual
theorem fine_show : ∀ d : PyData, fineD d = true → d.showable = true ∧ d.hasDict = false
  | .none, _ => ⟨rfl, rfl⟩
  | .bool b, _ => ⟨rfl, rfl⟩
  | .int i, h => ⟨h, rfl⟩
  | .str x, h => ⟨rfl, rfl⟩
  | .list xs, h => fine_showAll xs h
  | .tuple xs, h => fine_showAll xs h
theorem fine_showAll : ∀ xs : List PyData, fineAll xs = true → PyData.showableAll xs = true ∧ PyData.hasDictAll xs = false
  | [], _ => ⟨rfl, rfl⟩
  | x :: xs, h => by
    have h := Bool.and_eq_true_iff.mp h
    have z1 := fine_show x h.1
    have z2 := fine_showAll xs h.2
    unfold PyData.showableAll PyData.hasDictAll
    rw [z1.1, z1.2, z2.1, z2.2]
    exact ⟨rfl, rfl⟩
end
theorem log_small {n : Nat} (h : n < 2 ^ 64) : n.log2 < 1920 := by
  by_cases z : n = 0
  · subst z
    decide +kernel
  · exact (Nat.log2_lt z).mpr (Nat.lt_of_lt_of_le h (Nat.pow_le_pow_right (by decide) (by decide)))
theorem int_fine {i : Int} (h0 : -1000000000000 ≤ i) (h1 : i ≤ 1000000000000) : fineD (.int i) = true := decide_eq_true (log_small (by omega))
def prD (p : Prt) : PyData := .tuple [.str p.series, .int p.first, .int p.cols, .int p.rows, .int p.sheets, .tuple [.str p.o1.s, .str p.o2.s, .str p.o3.s]]
theorem PrAt.dp {K : PySem.W.Frag} {H : Hp} {a : Addr} {p : Prt} (h : PrAt H a p) : Dp K H (.ref a) (prD p) := by
  obtain ⟨t, h1, o, h2, _⟩ := h
  exact .tup (SqT.of h1) (.cons (.str _) (.cons (.int _) (.cons (.int _) (.cons (.int _) (.cons (.int _) (.cons (.tup (sqF h2) (.cons (.str _) (.cons (.str _) (.cons (.str _) .nil)))) .nil))))))
theorem word_fine (u : Wd) : fineD (.str u.s) = true := by cases u <;> decide +kernel
theorem PrOk.fine {p : Prt} (ok : PrOk p) : fineD (prD p) = true := by
  have h1 := ok.f0; have h2 := ok.c1; have h3 := ok.c2; have h4 := ok.r1; have h5 := ok.r2; have h6 := ok.s1; have h7 := ok.s2; have h8 := ok.most
  have h9 := (prod_bound (c := p.cols) (r := p.rows) (s := p.sheets) (by omega) h3 (by omega) h5 (by omega) h7).1
  show (fineD (.str p.series) && (fineD (.int p.first) && (fineD (.int p.cols) && (fineD (.int p.rows) && (fineD (.int p.sheets) && ((fineD (.str p.o1.s) && (fineD (.str p.o2.s) && (fineD (.str p.o3.s) && true))) && true)))))) = true
  have e0 : fineD (.str p.series) = true := ok.chr
  rw [e0, int_fine (by omega) (by omega), int_fine (by omega) (by omega), int_fine (by omega) (by omega), int_fine (by omega) (by omega), word_fine, word_fine, word_fine]
  rfl
theorem word_cost (u : Wd) : cost (.str u.s) ≤ 62 := by cases u <;> decide +kernel
theorem PrOk.cost {p : Prt} (ok : PrOk p) : cost (prD p) ≤ 9000 := by
  have h := ok.len
  have h1 := word_cost p.o1; have h2 := word_cost p.o2; have h3 := word_cost p.o3
  simp only [prD, Pn.cost, costAll] at *
  omega
theorem PrsAt.dp {K : PySem.W.Frag} {H : Hp} : ∀ {as : List Addr} {ps : List Prt}, PrsAt H as ps → DpAll K H (as.map V.ref) (ps.map prD)
  | _, _, .nil => .nil
  | _, _, .cons a b => .cons a.1.dp (PrsAt.dp b)
theorem PrsAt.fine {H : Hp} : ∀ {as : List Addr} {ps : List Prt}, PrsAt H as ps → fineAll (ps.map prD) = true ∧ costAll (ps.map prD) ≤ 9002 * ps.length ∧ as.length = ps.length
  | _, _, .nil => ⟨rfl, Nat.le_refl _, rfl⟩
  | _, _, .cons (l₂ := l) a b => by
    obtain ⟨z1, z2, z3⟩ := PrsAt.fine b
    have y1 := a.2.fine
    have y2 := a.2.cost
    refine ⟨?_, ?_, congrArg (· + 1) z3⟩
    · rw [List.map_cons]
      unfold fineAll
      rw [y1, z1]
      rfl
    · rw [List.map_cons, List.length_cons]
      unfold costAll
      omega
theorem prs_depth (ps : List Prt) : (PyData.list (ps.map prD)).depth ≤ 60 := by
  have all : ∀ l : List Prt, PyData.depthAll (l.map prD) ≤ 4 := fun l => by
    induction l with
    | nil => simp [PyData.depthAll]
    | cons p l ih =>
      rw [List.map_cons]
      simp only [PyData.depthAll, prD, PyData.depth] at *
      omega
  have z := all ps
  simp only [PyData.depth]
  omega
def rnsD (rs : List Rn) : PyData := .tuple (rs.map rnD)
theorem rns_nice {rs : List Rn} (h : rs.length ≤ 100000) : Nice 2 (rnsD rs) := by
  refine Or.inr ⟨_, Or.inr rfl, by rw [List.length_map]; exact h, fun e he => ?_⟩
  obtain ⟨r, _, rfl⟩ := List.mem_map.mp he
  refine Or.inr ⟨_, Or.inr rfl, (show 3 ≤ 100000 by decide), fun e he => ?_⟩
  rcases List.mem_cons.mp he with rfl | he
  · exact Nice.flat rfl
  rcases List.mem_cons.mp he with rfl | he
  · exact Nice.flat rfl
  rcases List.mem_cons.mp he with rfl | he
  · exact Nice.flat rfl
  · exact nomatch he
theorem runsOf_len (rs : List Rn) : (runsOf rs).length ≤ rs.length := by
  unfold runsOf
  have z := merge_len (rs.mergeSort rnLe)
  rw [List.length_mergeSort] at z
  exact z
theorem prd_dp {K : PySem.W.Frag} {H : Hp} {t : Addr} {qs : List Addr} {rs : List Rn} (h : H t = some (.tup (qs.map V.ref))) (hq : Prd H qs rs) : Dp K H (.ref t) (rnsD rs) := .tup (SqT.of h) (Prd.dp hq)
def intsD (ns : List Int) : PyData := .tuple (ns.map .int)
theorem ints_dp {K : PySem.W.Frag} {H : Hp} {t : Addr} {ns : List Int} (h : H t = some (.tup (ns.map V.int))) : Dp K H (.ref t) (intsD ns) := by
  refine .tup (SqT.of h) ?_
  clear h
  induction ns with
  | nil => exact .nil
  | cons n ns ih => exact .cons (.int n) ih
theorem ints_nice {ns : List Int} (h : ns.length ≤ 100000) : Nice 2 (intsD ns) := by
  refine Or.inr ⟨_, Or.inr rfl, by rw [List.length_map]; exact h, fun e he => ?_⟩
  obtain ⟨r, _, rfl⟩ := List.mem_map.mp he
  exact Nice.flat rfl
def spLaw (K : PySem.W.Frag) : Sp := fun vs H Q _ => ∃ (a : Addr) (ns : List Int), vs = [.ref a] ∧ SqL K H a (ns.map V.int) ∧ ∀ H', Q (.bl true) H'
/-! ### The one writing of a set of notes -/
def sl (a b : Str) : Prop := a.cps.toList < b.cps.toList
theorem sl_irr (a : Str) : ¬ sl a a := List.lt_irrefl _
theorem sl_tr {a b c : Str} (h : sl a b) (k : sl b c) : sl a c := List.lt_trans h k
theorem sl_as {a b : Str} (h : sl a b) (k : sl b a) : False := sl_irr a (sl_tr h k)
theorem sl_tot (a b : Str) : sl a b ∨ a = b ∨ sl b a := by
  by_cases h1 : sl a b
  · exact .inl h1
  by_cases h2 : sl b a
  · exact .inr (.inr h2)
  refine .inr (.inl ?_)
  have e : a.cps.toList = b.cps.toList := List.le_antisymm (List.not_lt.mp h2) (List.not_lt.mp h1)
  cases a
  cases b
  exact congrArg Str.mk (Array.toList_inj.mp e)
def has (rs : List Rn) (s : Str) (n : Int) : Prop := ∃ r ∈ rs, r.1 = s ∧ r.2.1 ≤ n ∧ n < r.2.2
def Full (rs : List Rn) : Prop := ∀ r ∈ rs, r.2.1 < r.2.2
def Canon (rs : List Rn) : Prop := rs.Pairwise (fun a b => apart a b = true) ∧ Full rs
theorem apart_iff (a b : Rn) : apart a b = true ↔ (a.1 = b.1 ∧ a.2.2 < b.2.1) ∨ sl a.1 b.1 := by
  unfold apart
  by_cases e : a.1 = b.1
  · rw [if_pos e, decide_eq_true_eq]
    refine ⟨fun h => .inl ⟨e, h⟩, ?_⟩
    rintro (h | h)
    · exact h.2
    · rw [e] at h
      exact (sl_irr _ h).elim
  · rw [if_neg e, decide_eq_true_eq]
    refine ⟨.inr, ?_⟩
    rintro (h | h)
    · exact absurd h.1 e
    · exact h
theorem apart_tr {a b c : Rn} (h : apart a b = true) (f : b.2.1 < b.2.2) (k : apart b c = true) : apart a c = true := by
  rw [apart_iff] at *
  rcases h with ⟨h1, h2⟩ | h <;> rcases k with ⟨k1, k2⟩ | k
  · exact .inl ⟨h1.trans k1, by omega⟩
  · exact .inr (h1 ▸ k)
  · exact .inr (k1 ▸ h)
  · exact .inr (sl_tr h k)
theorem has_cons (x : Rn) (rs : List Rn) (s : Str) (n : Int) : has (x :: rs) s n ↔ (x.1 = s ∧ x.2.1 ≤ n ∧ n < x.2.2) ∨ has rs s n := by
  unfold has
  constructor
  · rintro ⟨r, h, k⟩
    rcases List.mem_cons.mp h with rfl | h
    · exact .inl k
    · exact .inr ⟨r, h, k⟩
  · rintro (k | ⟨r, h, k⟩)
    · exact ⟨x, List.mem_cons_self, k⟩
    · exact ⟨r, List.mem_cons_of_mem _ h, k⟩
theorem has_nil (s : Str) (n : Int) : ¬ has [] s n := fun ⟨_, h, _⟩ => nomatch h
theorem has_app (a b : List Rn) (s : Str) (n : Int) : has (a ++ b) s n ↔ has a s n ∨ has b s n := by
  unfold has
  constructor
  · rintro ⟨r, h, k⟩
    rcases List.mem_append.mp h with h | h
    · exact .inl ⟨r, h, k⟩
    · exact .inr ⟨r, h, k⟩
  · rintro (⟨r, h, k⟩ | ⟨r, h, k⟩)
    · exact ⟨r, List.mem_append_left _ h, k⟩
    · exact ⟨r, List.mem_append_right _ h, k⟩
/-- all notes behind the first run -/
theorem canon_first {x : Rn} {rs : List Rn} (h : Canon (x :: rs)) {s : Str} {n : Int} (k : has rs s n) : (x.1 = s ∧ x.2.2 < n) ∨ sl x.1 s := by
  obtain ⟨r, hr, rfl, k1, k2⟩ := k
  rcases (apart_iff x r).mp ((List.pairwise_cons.mp h.1).1 r hr) with ⟨e, l⟩ | l
  · exact .inl ⟨e, by omega⟩
  · exact .inr l
theorem Canon.tail {x : Rn} {rs : List Rn} (h : Canon (x :: rs)) : Canon rs := ⟨(List.pairwise_cons.mp h.1).2, fun r hr => h.2 r (List.mem_cons_of_mem _ hr)⟩
theorem canon_uniq : ∀ {a b : List Rn}, Canon a → Canon b → (∀ s n, has a s n ↔ has b s n) → a = b
  | [], [], _, _, _ => rfl
  | [], y :: b, _, hb, h => by
    have z := (h y.1 y.2.1).mpr ⟨y, List.mem_cons_self, rfl, Int.le_refl _, hb.2 y List.mem_cons_self⟩
    exact (has_nil _ _ z).elim
  | x :: a, [], ha, _, h => by
    have z := (h x.1 x.2.1).mp ⟨x, List.mem_cons_self, rfl, Int.le_refl _, ha.2 x List.mem_cons_self⟩
    exact (has_nil _ _ z).elim
  | x :: a, y :: b, ha, hb, h => by
    have fx := ha.2 x List.mem_cons_self
    have fy := hb.2 y List.mem_cons_self
    have lo : ∀ {x y : Rn} {a b : List Rn}, Canon (x :: a) → Canon (y :: b) → (∀ s n, has (x :: a) s n → has (y :: b) s n) → (y.1 = x.1 ∧ y.2.1 ≤ x.2.1) ∨ sl y.1 x.1 := fun {x y a b} ha hb h => by
      have fy := hb.2 y List.mem_cons_self
      rcases (has_cons _ _ _ _).mp (h x.1 x.2.1 ⟨x, List.mem_cons_self, rfl, Int.le_refl _, ha.2 x List.mem_cons_self⟩) with ⟨e, k, _⟩ | k
      · exact .inl ⟨e, k⟩
      · rcases canon_first hb k with ⟨e, k⟩ | k
        · exact .inl ⟨e, by omega⟩
        · exact .inr k
    have l1 := lo ha hb fun s n => (h s n).mp
    have l2 := lo hb ha fun s n => (h s n).mpr
    have e1 : x.1 = y.1 ∧ x.2.1 = y.2.1 := by
      rcases l1 with ⟨e, k⟩ | k <;> rcases l2 with ⟨e', k'⟩ | k'
      · exact ⟨e', by omega⟩
      · exact (sl_irr _ (e ▸ k')).elim
      · exact (sl_irr _ (e' ▸ k)).elim
      · exact (sl_as k k').elim
    have hi : ∀ {x y : Rn} {a b : List Rn}, Canon (x :: a) → Canon (y :: b) → x.1 = y.1 → x.2.1 = y.2.1 → (∀ s n, has (y :: b) s n → has (x :: a) s n) → ¬ x.2.2 < y.2.2 := fun {x y a b} ha hb e1 e2 h lt => by
      have fx := ha.2 x List.mem_cons_self
      rcases (has_cons _ _ _ _).mp (h x.1 x.2.2 ⟨y, List.mem_cons_self, e1.symm, by omega, lt⟩) with ⟨_, _, k⟩ | k
      · omega
      · rcases canon_first ha k with ⟨_, k⟩ | k
        · omega
        · exact sl_irr _ k
    have h1 := hi ha hb e1.1 e1.2 fun s n => (h s n).mpr
    have h2 := hi hb ha e1.1.symm e1.2.symm fun s n => (h s n).mp
    have e : x = y := Prod.ext e1.1 (Prod.ext e1.2 (by omega))
    subst e
    have off : ∀ {l : List Rn}, Canon (x :: l) → ∀ s n, has l s n → ¬ (x.1 = s ∧ x.2.1 ≤ n ∧ n < x.2.2) := fun {l} hl s n k z => by
      rcases canon_first hl k with ⟨_, k⟩ | k
      · omega
      · exact sl_irr _ (z.1 ▸ k)
    refine congrArg (x :: ·) (canon_uniq ha.tail hb.tail fun s n => ⟨fun k => ?_, fun k => ?_⟩)
    · rcases (has_cons _ _ _ _).mp ((h s n).mp ((has_cons _ _ _ _).mpr (.inr k))) with z | z
      · exact (off ha s n k z).elim
      · exact z
    · rcases (has_cons _ _ _ _).mp ((h s n).mpr ((has_cons _ _ _ _).mpr (.inr k))) with z | z
      · exact (off hb s n k z).elim
      · exact z
/-- not ahead of -/
def Wk (a b : Rn) : Prop := (a.1 = b.1 ∧ a.2.1 ≤ b.2.1) ∨ sl a.1 b.1
theorem push_ok {acc : List Rn} {r : Rn} (ha : Canon acc) (hw : ∀ x, acc.getLast? = some x → Wk x r) (f : r.2.1 < r.2.2) :
    Canon (push acc r) ∧ (∀ s n, has (push acc r) s n ↔ has acc s n ∨ (r.1 = s ∧ r.2.1 ≤ n ∧ n < r.2.2)) ∧ ∀ x, (push acc r).getLast? = some x → x.1 = r.1 ∧ x.2.1 ≤ r.2.1 := by
  rcases nil_or_snoc acc with rfl | ⟨i, l, rfl⟩
  · refine ⟨⟨List.pairwise_singleton _ _, fun x hx => ?_⟩, fun s n => ?_, fun x hx => ?_⟩
    · rw [List.mem_singleton.mp hx]
      exact f
    · show has [r] s n ↔ _
      rw [has_cons]
      exact Or.comm
    · cases (Option.some.inj hx)
      exact ⟨rfl, Int.le_refl _⟩
  have w := hw l List.getLast?_concat
  obtain ⟨p1, p2, p3⟩ := List.pairwise_append.mp ha.1
  have fl := ha.2 l (List.mem_append_right _ List.mem_cons_self)
  rw [push_snoc]
  by_cases ap : apart l r = true
  · rw [if_pos ap]
    refine ⟨⟨List.pairwise_append.mpr ⟨ha.1, List.pairwise_singleton _ _, fun x hx y hy => ?_⟩, fun x hx => ?_⟩, fun s n => ?_, fun x hx => ?_⟩
    · rw [List.mem_singleton.mp hy]
      rcases List.mem_append.mp hx with hx | hx
      · exact apart_tr (p3 x hx l List.mem_cons_self) fl ap
      · rw [List.mem_singleton.mp hx]
        exact ap
    · rcases List.mem_append.mp hx with hx | hx
      · exact ha.2 x hx
      · rw [List.mem_singleton.mp hx]
        exact f
    · rw [has_app, has_cons]
      simp only [has_nil, or_false]
    · rw [List.getLast?_concat] at hx
      cases (Option.some.inj hx)
      exact ⟨rfl, Int.le_refl _⟩
  · rw [if_neg ap]
    have na : ¬ ((l.1 = r.1 ∧ l.2.2 < r.2.1) ∨ sl l.1 r.1) := fun z => ap ((apart_iff l r).mpr z)
    have w1 : l.1 = r.1 ∧ l.2.1 ≤ r.2.1 := w.resolve_right fun z => na (.inr z)
    have w2 : r.2.1 ≤ l.2.2 := Int.not_lt.mp fun z => na (.inl ⟨w1.1, z⟩)
    generalize hm : (if r.2.2 > l.2.2 then r.2.2 else l.2.2) = m
    have m1 : m = r.2.2 ∧ l.2.2 < r.2.2 ∨ m = l.2.2 ∧ r.2.2 ≤ l.2.2 := by
      split at hm <;> omega
    refine ⟨⟨List.pairwise_append.mpr ⟨p1, List.pairwise_singleton _ _, fun x hx y hy => ?_⟩, fun x hx => ?_⟩, fun s n => ?_, fun x hx => ?_⟩
    · rw [List.mem_singleton.mp hy]
      have z := p3 x hx l List.mem_cons_self
      rw [apart_iff] at z ⊢
      exact z
    · rcases List.mem_append.mp hx with hx | hx
      · exact ha.2 x (List.mem_append_left _ hx)
      · rw [List.mem_singleton.mp hx]
        show l.2.1 < m
        omega
    · rw [has_app, has_app, has_cons, has_cons]
      simp only [has_nil, or_false]
      rw [or_assoc]
      refine or_congr Iff.rfl ⟨fun ⟨h1, h2, h3⟩ => ?_, ?_⟩
      · by_cases c : n < l.2.2
        · exact .inl ⟨h1, h2, c⟩
        · exact .inr ⟨w1.1 ▸ h1, by omega, by omega⟩
      · rintro (⟨h1, h2, h3⟩ | ⟨h1, h2, h3⟩)
        · exact ⟨h1, h2, show n < m by omega⟩
        · exact ⟨w1.1.trans h1, show l.2.1 ≤ n by omega, show n < m by omega⟩
    · rw [List.getLast?_concat] at hx
      cases (Option.some.inj hx)
      exact w1
theorem fold_ok : ∀ (l acc : List Rn), Canon acc → (∀ x, acc.getLast? = some x → ∀ r ∈ l, Wk x r) → l.Pairwise Wk → Full l →
    Canon (l.foldl push acc) ∧ ∀ s n, has (l.foldl push acc) s n ↔ has acc s n ∨ has l s n
  | [], acc, ha, _, _, _ => ⟨ha, fun s n => by simp only [List.foldl_nil, has_nil, or_false]⟩
  | r :: l, acc, ha, hw, hp, hf => by
    obtain ⟨q1, q2⟩ := List.pairwise_cons.mp hp
    obtain ⟨z1, z2, z3⟩ := push_ok ha (fun x hx => hw x hx r List.mem_cons_self) (hf r List.mem_cons_self)
    obtain ⟨y1, y2⟩ := fold_ok l (push acc r) z1 (fun x hx u hu => by
      obtain ⟨e, k⟩ := z3 x hx
      rcases q1 u hu with ⟨e', k'⟩ | k'
      · exact .inl ⟨e.trans e', by omega⟩
      · exact .inr (e ▸ k')) q2 fun x hx => hf x (List.mem_cons_of_mem _ hx)
    refine ⟨y1, fun s n => ?_⟩
    rw [List.foldl_cons, y2, z2, has_cons, or_assoc]
theorem canon_nil : Canon [] := ⟨List.Pairwise.nil, fun _ h => nomatch h⟩
theorem merge_ok {l : List Rn} (hp : l.Pairwise Wk) (hf : Full l) : Canon (merge l) ∧ ∀ s n, has (merge l) s n ↔ has l s n := by
  obtain ⟨y1, y2⟩ := fold_ok l [] canon_nil (fun x hx => nomatch hx) hp hf
  refine ⟨y1, fun s n => (y2 s n).trans ?_⟩
  simp only [has_nil, false_or]
theorem rnLe_iff (a b : Rn) : rnLe a b = true ↔ sl a.1 b.1 ∨ (a.1 = b.1 ∧ (a.2.1 < b.2.1 ∨ (a.2.1 = b.2.1 ∧ a.2.2 ≤ b.2.2))) := by
  have e : rnLe a b = !PySem.W.dataLt (rnD b) (rnD a) := rfl
  rw [e, rn_lt, Bool.not_eq_true', decide_eq_false_iff_not]
  constructor
  · intro h
    rcases sl_tot a.1 b.1 with k | k | k
    · exact .inl k
    · refine .inr ⟨k, ?_⟩
      by_cases c : a.2.1 < b.2.1
      · exact .inl c
      · refine .inr ⟨?_, ?_⟩
        · by_cases d : b.2.1 < a.2.1
          · exact (h (.inr ⟨k.symm, .inl d⟩)).elim
          · omega
        · by_cases d : b.2.2 < a.2.2
          · by_cases d2 : b.2.1 < a.2.1
            · exact (h (.inr ⟨k.symm, .inl d2⟩)).elim
            · exact (h (.inr ⟨k.symm, .inr ⟨by omega, d⟩⟩)).elim
          · omega
    · exact (h (.inl k)).elim
  · rintro (k | ⟨e, k⟩) (h | ⟨e', h⟩)
    · exact sl_as k h
    · rw [e'] at k
      exact sl_irr _ k
    · have h : sl b.1 a.1 := h
      rw [e] at h
      exact sl_irr _ h
    · omega
theorem sort_Wk (rs : List Rn) : (rs.mergeSort rnLe).Pairwise Wk := by
  have z := List.pairwise_mergeSort (le := rnLe) (fun a b c h1 h2 => ?_) (fun a b => ?_) rs
  · refine z.imp fun {a b} h => ?_
    rcases (rnLe_iff a b).mp h with k | ⟨e, k⟩
    · exact .inr k
    · exact .inl ⟨e, by omega⟩
  · rw [rnLe_iff] at *
    rcases h1 with k | ⟨e, k⟩ <;> rcases h2 with k' | ⟨e', k'⟩
    · exact .inl (sl_tr k k')
    · exact .inl (e' ▸ k)
    · exact .inl (e ▸ k')
    · exact .inr ⟨e.trans e', by omega⟩
  · rw [Bool.or_eq_true, rnLe_iff, rnLe_iff]
    rcases sl_tot a.1 b.1 with k | k | k
    · exact .inl (.inl k)
    · by_cases c : a.2.1 < b.2.1 ∨ a.2.1 = b.2.1 ∧ a.2.2 ≤ b.2.2
      · exact .inl (.inr ⟨k, c⟩)
      · exact .inr (.inr ⟨k.symm, by omega⟩)
    · exact .inr (.inl k)
theorem has_perm {a b : List Rn} (h : ∀ r, r ∈ a ↔ r ∈ b) (s : Str) (n : Int) : has a s n ↔ has b s n :=
  ⟨fun ⟨r, h1, h2⟩ => ⟨r, (h r).mp h1, h2⟩, fun ⟨r, h1, h2⟩ => ⟨r, (h r).mpr h1, h2⟩⟩
theorem runsOf_ok {rs : List Rn} (hf : Full rs) : Canon (runsOf rs) ∧ ∀ s n, has (runsOf rs) s n ↔ has rs s n := by
  obtain ⟨y1, y2⟩ := merge_ok (sort_Wk rs) fun r hr => hf r (List.mem_mergeSort.mp hr)
  exact ⟨y1, fun s n => (y2 s n).trans (has_perm (fun r => List.mem_mergeSort) s n)⟩
theorem runsOf_eq {rs c : List Rn} (hf : Full rs) (hc : Canon c) (h : ∀ s n, has c s n ↔ has rs s n) : runsOf rs = c := by
  obtain ⟨y1, y2⟩ := runsOf_ok hf
  exact canon_uniq y1 hc fun s n => (y2 s n).trans (h s n).symm
/-! pieces joined, as the laws do it -/
def join (acc : List Rn) (r : Rn) : List Rn := match acc.getLast? with
  | none => [r]
  | some l => if l.1 = r.1 ∧ l.2.2 = r.2.1 then acc.dropLast ++ [(r.1, l.2.1, r.2.2)] else acc ++ [r]
theorem join_snoc (acc : List Rn) (l r : Rn) : join (acc ++ [l]) r = if l.1 = r.1 ∧ l.2.2 = r.2.1 then acc ++ [(r.1, l.2.1, r.2.2)] else acc ++ [l] ++ [r] := by
  unfold join
  rw [List.getLast?_concat]
  simp only [List.dropLast_concat]
/-- one behind the other, touching perhaps -/
def Vk (a b : Rn) : Prop := (a.1 = b.1 ∧ a.2.2 ≤ b.2.1) ∨ sl a.1 b.1
theorem join_push {acc : List Rn} {r : Rn} (hw : ∀ x, acc.getLast? = some x → Vk x r) (f : r.2.1 < r.2.2) : join acc r = push acc r ∧ ∀ x, (push acc r).getLast? = some x → x.1 = r.1 ∧ x.2.2 = r.2.2 := by
  rcases nil_or_snoc acc with rfl | ⟨i, l, rfl⟩
  · refine ⟨rfl, fun x hx => ?_⟩
    cases (Option.some.inj hx)
    exact ⟨rfl, rfl⟩
  have w := hw l List.getLast?_concat
  rw [join_snoc, push_snoc]
  by_cases c : l.1 = r.1 ∧ l.2.2 = r.2.1
  · have ap : ¬ apart l r = true := fun z => by
      rcases (apart_iff l r).mp z with ⟨_, z⟩ | z
      · omega
      · exact sl_irr _ (c.1 ▸ z)
    rw [if_pos c, if_neg ap, if_pos (by omega), c.1]
    refine ⟨rfl, fun x hx => ?_⟩
    rw [List.getLast?_concat] at hx
    cases (Option.some.inj hx)
    exact ⟨rfl, rfl⟩
  · have ap : apart l r = true := by
      rw [apart_iff]
      rcases w with ⟨e, k⟩ | k
      · exact .inl ⟨e, by have : l.2.2 ≠ r.2.1 := fun z => c ⟨e, z⟩; omega⟩
      · exact .inr k
    rw [if_neg c, if_pos ap]
    refine ⟨rfl, fun x hx => ?_⟩
    rw [List.getLast?_concat] at hx
    cases (Option.some.inj hx)
    exact ⟨rfl, rfl⟩
theorem fold_join : ∀ (l acc : List Rn), (∀ x, acc.getLast? = some x → ∀ r ∈ l, Vk x r) → l.Pairwise Vk → Full l → l.foldl join acc = l.foldl push acc
  | [], _, _, _, _ => rfl
  | r :: l, acc, hw, hp, hf => by
    obtain ⟨q1, q2⟩ := List.pairwise_cons.mp hp
    obtain ⟨z1, z2⟩ := join_push (fun x hx => hw x hx r List.mem_cons_self) (hf r List.mem_cons_self)
    rw [List.foldl_cons, List.foldl_cons, z1]
    refine fold_join l _ (fun x hx u hu => ?_) q2 fun x hx => hf x (List.mem_cons_of_mem _ hx)
    obtain ⟨e, k⟩ := z2 x hx
    rcases q1 u hu with ⟨e', k'⟩ | k'
    · exact .inl ⟨e.trans e', by omega⟩
    · exact .inr (e ▸ k')
def pcs (cs : List Int) : List (Int × Int) := cs.zip cs.tail
theorem pcs_cons (x y : Int) (l : List Int) : pcs (x :: y :: l) = (x, y) :: pcs (y :: l) := rfl
theorem pcs_len (cs : List Int) : (pcs cs).length ≤ cs.length := by
  unfold pcs
  rw [List.length_zip]
  omega
theorem pcs_in : ∀ {cs : List Int} {p : Int × Int}, p ∈ pcs cs → p.1 ∈ cs ∧ p.2 ∈ cs
  | [], p, h => nomatch h
  | [x], p, h => nomatch h
  | x :: y :: l, p, h => by
    rw [pcs_cons] at h
    rcases List.mem_cons.mp h with rfl | h
    · exact ⟨List.mem_cons_self, List.mem_cons_of_mem _ List.mem_cons_self⟩
    · have z := pcs_in h
      exact ⟨List.mem_cons_of_mem _ z.1, List.mem_cons_of_mem _ z.2⟩
theorem pcs_up : ∀ {cs : List Int}, cs.Pairwise (· < ·) → (pcs cs).Pairwise (fun a b => a.2 ≤ b.1) ∧ ∀ p ∈ pcs cs, p.1 < p.2 ∧ ∀ c ∈ cs, c ≤ p.1 ∨ p.2 ≤ c
  | [], _ => ⟨.nil, fun _ h => nomatch h⟩
  | [x], _ => ⟨.nil, fun _ h => nomatch h⟩
  | x :: y :: l, h => by
    obtain ⟨h1, h2⟩ := List.pairwise_cons.mp h
    obtain ⟨h3, h4⟩ := List.pairwise_cons.mp h2
    obtain ⟨i1, i2⟩ := pcs_up h2
    rw [pcs_cons]
    have le : ∀ c ∈ y :: l, y ≤ c := fun c hc => by
      rcases List.mem_cons.mp hc with rfl | hc
      · exact Int.le_refl _
      · have := h3 c hc
        omega
    refine ⟨List.pairwise_cons.mpr ⟨fun p hp => le _ (pcs_in hp).1, i1⟩, fun p hp => ?_⟩
    rcases List.mem_cons.mp hp with rfl | hp2
    · refine ⟨h1 y List.mem_cons_self, fun c hc => ?_⟩
      rcases List.mem_cons.mp hc with rfl | hc
      · exact .inl (Int.le_refl _)
      · exact .inr (le c hc)
    · obtain ⟨j1, j2⟩ := i2 p hp2
      refine ⟨j1, fun c hc => ?_⟩
      rcases List.mem_cons.mp hc with rfl | hc
      · have := h1 _ (pcs_in hp2).1
        exact .inl (by omega)
      · exact j2 c hc
theorem pcs_at : ∀ {cs : List Int} {a b n : Int}, cs.Pairwise (· < ·) → a ∈ cs → b ∈ cs → a ≤ n → n < b → ∃ p ∈ pcs cs, p.1 ≤ n ∧ n < p.2
  | [], _, _, _, _, h, _, _, _ => nomatch h
  | [x], a, b, n, _, h1, h2, h3, h4 => by
    rw [List.mem_singleton] at h1 h2
    omega
  | x :: y :: l, a, b, n, h, h1, h2, h3, h4 => by
    obtain ⟨g1, g2⟩ := List.pairwise_cons.mp h
    rw [pcs_cons]
    by_cases c : n < y
    · refine ⟨(x, y), List.mem_cons_self, ?_, c⟩
      rcases List.mem_cons.mp h1 with rfl | h1
      · exact h3
      · have := g1 a h1
        show x ≤ n
        omega
    · have hb : b ∈ y :: l := by
        rcases List.mem_cons.mp h2 with rfl | h2
        · have := g1 y List.mem_cons_self
          omega
        · exact h2
      obtain ⟨p, p1, p2⟩ := pcs_at (a := y) g2 List.mem_cons_self hb (by omega) h4
      exact ⟨p, List.mem_cons_of_mem _ p1, p2⟩
/-- the pieces of a series that are good -/
def goods (P : Str → Int → Bool) (s : Str) (ps : List (Int × Int)) : List Rn := (ps.filter fun p => P s p.1).map fun p => (s, p.1, p.2)
def mades (P : Str → Int → Bool) (ns : List Str) (cs : List Int) : List Rn := (ns.flatMap fun s => goods P s (pcs cs)).foldl join []
theorem goods_in {P : Str → Int → Bool} {s : Str} {ps : List (Int × Int)} {r : Rn} : r ∈ goods P s ps ↔ r.1 = s ∧ (r.2.1, r.2.2) ∈ ps ∧ P s r.2.1 = true := by
  unfold goods
  rw [List.mem_map]
  constructor
  · rintro ⟨p, h, rfl⟩
    obtain ⟨h1, h2⟩ := List.mem_filter.mp h
    exact ⟨rfl, h1, h2⟩
  · rintro ⟨h1, h2, h3⟩
    exact ⟨(r.2.1, r.2.2), List.mem_filter.mpr ⟨h2, h3⟩, Prod.ext h1.symm rfl⟩
/-- what is made is the one writing of the notes that P tells -/
theorem mades_ok {P : Str → Int → Bool} {ns : List Str} {cs : List Int} (hn : ns.Pairwise sl) (hc : cs.Pairwise (· < ·))
    (flat : ∀ s p n, p ∈ pcs cs → p.1 ≤ n → n < p.2 → P s n = P s p.1) (only : ∀ s n, P s n = true → s ∈ ns ∧ ∃ p ∈ pcs cs, p.1 ≤ n ∧ n < p.2) :
    Canon (mades P ns cs) ∧ ∀ s n, has (mades P ns cs) s n ↔ P s n = true := by
  obtain ⟨u1, u2⟩ := pcs_up hc
  have full : Full (ns.flatMap fun s => goods P s (pcs cs)) := fun r hr => by
    obtain ⟨s, _, h2⟩ := List.mem_flatMap.mp hr
    exact (u2 _ (goods_in.mp h2).2.1).1
  have pv : (ns.flatMap fun s => goods P s (pcs cs)).Pairwise Vk := by
    rw [List.pairwise_flatMap]
    refine ⟨fun s _ => ?_, hn.imp fun {s s'} h x hx y hy => ?_⟩
    · unfold goods
      rw [List.pairwise_map]
      exact (u1.filter _).imp fun h => .inl ⟨rfl, h⟩
    · refine .inr ?_
      rw [(goods_in.mp hx).1, (goods_in.mp hy).1]
      exact h
  have pw : (ns.flatMap fun s => goods P s (pcs cs)).Pairwise Wk := List.Pairwise.imp_of_mem (fun {a b} ha hb h => by
    rcases h with ⟨e, k⟩ | k
    · have := full a ha
      exact .inl ⟨e, by omega⟩
    · exact .inr k) pv
  obtain ⟨y1, y2⟩ := merge_ok pw full
  have e : mades P ns cs = merge (ns.flatMap fun s => goods P s (pcs cs)) := fold_join _ [] (fun x hx => nomatch hx) pv full
  rw [e]
  refine ⟨y1, fun s n => (y2 s n).trans ⟨?_, fun h => ?_⟩⟩
  · rintro ⟨r, hr, rfl, h1, h2⟩
    obtain ⟨s', _, g⟩ := List.mem_flatMap.mp hr
    obtain ⟨g1, g2, g3⟩ := goods_in.mp g
    subst g1
    rw [flat r.1 (r.2.1, r.2.2) n g2 h1 h2]
    exact g3
  · obtain ⟨h1, p, h2, h3, h4⟩ := only s n h
    refine ⟨(s, p.1, p.2), List.mem_flatMap.mpr ⟨s, h1, goods_in.mpr ⟨rfl, h2, ?_⟩⟩, rfl, h3, h4⟩
    rw [← flat s p n h2 h3 h4]
    exact h
def hasB (rs : List Rn) (s : Str) (n : Int) : Bool := rs.any fun r => decide (r.1 = s) && (decide (r.2.1 ≤ n) && decide (n < r.2.2))
theorem hasB_iff (rs : List Rn) (s : Str) (n : Int) : hasB rs s n = true ↔ has rs s n := by
  unfold hasB has
  rw [List.any_eq_true]
  simp only [Bool.and_eq_true, decide_eq_true_eq]
/-- ends and names of the runs are among those told -/
def Ends (rs : List Rn) (ns : List Str) (cs : List Int) : Prop := ∀ r ∈ rs, r.1 ∈ ns ∧ r.2.1 ∈ cs ∧ r.2.2 ∈ cs
theorem hasB_flat {rs : List Rn} {ns : List Str} {cs : List Int} (he : Ends rs ns cs) (hc : cs.Pairwise (· < ·)) {s : Str} {p : Int × Int} {n : Int} (hp : p ∈ pcs cs) (h1 : p.1 ≤ n) (h2 : n < p.2) : hasB rs s n = hasB rs s p.1 := by
  obtain ⟨u1, u2⟩ := pcs_up hc
  obtain ⟨v1, v2⟩ := u2 p hp
  rw [Bool.eq_iff_iff, hasB_iff, hasB_iff]
  constructor
  · rintro ⟨r, hr, e, k1, k2⟩
    have z1 := v2 _ (he r hr).2.1
    have z2 := v2 _ (he r hr).2.2
    exact ⟨r, hr, e, by omega, by omega⟩
  · rintro ⟨r, hr, e, k1, k2⟩
    have z1 := v2 _ (he r hr).2.1
    have z2 := v2 _ (he r hr).2.2
    exact ⟨r, hr, e, by omega, by omega⟩
theorem hasB_only {rs : List Rn} {ns : List Str} {cs : List Int} (he : Ends rs ns cs) (hc : cs.Pairwise (· < ·)) {s : Str} {n : Int} (h : hasB rs s n = true) : s ∈ ns ∧ ∃ p ∈ pcs cs, p.1 ≤ n ∧ n < p.2 := by
  obtain ⟨r, hr, rfl, k1, k2⟩ := (hasB_iff _ _ _).mp h
  obtain ⟨e1, e2, e3⟩ := he r hr
  exact ⟨e1, pcs_at hc e2 e3 k1 k2⟩
theorem mades_runs {rs : List Rn} {ns : List Str} {cs : List Int} (hf : Full rs) (he : Ends rs ns cs) (hn : ns.Pairwise sl) (hc : cs.Pairwise (· < ·)) : mades (hasB rs) ns cs = runsOf rs := by
  obtain ⟨y1, y2⟩ := mades_ok (P := hasB rs) hn hc (fun s p n h1 h2 h3 => hasB_flat he hc h1 h2 h3) (fun s n h => hasB_only he hc h)
  exact (runsOf_eq hf y1 fun s n => (y2 s n).trans (hasB_iff _ _ _)).symm
theorem runsOf_mems {a b : List Rn} (hf : Full a) (h : ∀ r, r ∈ a ↔ r ∈ b) : runsOf a = runsOf b := by
  have hb : Full b := fun r hr => hf r ((h r).mpr hr)
  obtain ⟨y1, y2⟩ := runsOf_ok hb
  exact runsOf_eq hf y1 fun s n => (y2 s n).trans (has_perm h s n).symm
theorem runsOf_again {a : List Rn} (hf : Full a) : runsOf (runsOf a) = runsOf a := by
  obtain ⟨y1, y2⟩ := runsOf_ok hf
  exact runsOf_eq y1.2 y1 fun s n => Iff.rfl
/-! ### sets of keys (ints, texts), however many: set(list), sorted of a set -/
def kx (e : Int × Value) : Key := match e.2 with
  | .int k _ => .inl k
  | .str x _ => .inr x
  | _ => .inl 0
def Gk (w : World) (e : Int × Value) : Prop := ∃ k, keyIs k e.2 = true ∧ e.1 = keyH w k
theorem kx_of {k : Key} {e : Int × Value} (h : keyIs k e.2 = true) : kx e = k := by
  rcases keyIs_shape h with ⟨i, t, rfl, q⟩ | ⟨x, t, rfl, q⟩ <;> (unfold kx; rw [q])
theorem kx_is {w : World} {e : Int × Value} (g : Gk w e) (k : Key) : keyIs k e.2 = true ↔ kx e = k := by
  refine ⟨kx_of, fun q => ?_⟩
  obtain ⟨k0, h1, _⟩ := g
  rw [kx_of h1] at q
  rw [← q]
  exact h1
/-- at a stands a set of n keys, just those that S tells -/
def SX (w : World) (h : Heap) (a : Addr) (S : Key → Prop) (n : Nat) : Prop := ∃ (o : Obj) (es : Array (Int × Value)) (ep : Nat) (t : SetTable),
  (h.get? a = some o ∧ o.ExactSet ∧ o.data = .set es ep t) ∧ ((∀ e ∈ es.toList, Gk w e) ∧ (es.toList.map kx).Nodup ∧ ∀ k, S k ↔ k ∈ es.toList.map kx) ∧
  (es.size < scanBound ∧ t.fits es.size = true ∧ es.size = n) ∧ Ris t.place.toList ∧ (w.params.followText "set-order" = true ∨ t.led = true)
section
variable {P : Program} {w : World} {A : Around} {E : Value → Shared → Prop} {s : Shared} {a : Addr} {S : Key → Prop} {n : Nat}
theorem SX.keep {h h' : Heap} (R : SX w h a S n) (k : ∀ o, h.get? a = some o → h'.get? a = some o) : SX w h' a S n := by
  obtain ⟨o, es, ep, t, ⟨h1, h2⟩, r⟩ := R
  exact ⟨o, es, ep, t, ⟨k o h1, h2⟩, r⟩
theorem SX.like {h : Heap} {S' : Key → Prop} (R : SX w h a S n) (k : ∀ j, S' j ↔ S j) : SX w h a S' n := by
  have e : S' = S := funext fun j => propext (k j)
  rw [e]
  exact R
theorem gk_all {l : List (Int × Value)} (g : ∀ e ∈ l, Gk w e) : ElemsOf (mixKind P w) l := fun e he => by
  obtain ⟨k, q1, q2⟩ := g e he
  refine ⟨⟨k, q1, q2⟩, ?_⟩
  rcases keyIs_shape q1 with ⟨i, t, _, q⟩ | ⟨x, t, _, q⟩ <;> (rw [q]; rfl)
theorem put_at {h : Heap} {o : Obj} {es es' : Array (Int × Value)} {ep : Nat} {t t' : SetTable} (q1 : h.get? a = some o) (q2 : o.data = .set es ep t) :
    (h.update a (Obj.putSet es' t')).get? a = some { o with data := .set es' (ep + 1) t' } := by
  have z := Heap.get?_update_self (Obj.putSet es' t') q1 (by rw [putSet_of es' t' q2]; rfl)
  exact z.trans (congrArg some (putSet_of es' t' q2))
theorem sx_lay {g : Bool → Sem Unit} (calm : ∀ (b : Bool) (s1 : Shared) (Z : Unit → Shared → Prop), Z () s1 → wpAny (model P w) A (g b) Z E s1)
    {o : Obj} {es fs : Array (Int × Value)} {ep : Nat} {t u : SetTable} {S' : Key → Prop} (q : s.heap.get? a = some o ∧ o.ExactSet ∧ o.data = .set es ep t)
    (keys : (∀ e ∈ fs.toList, Gk w e) ∧ (fs.toList.map kx).Nodup ∧ ∀ k, S' k ↔ k ∈ fs.toList.map kx) (few : fs.size < scanBound) (fit : u.fits fs.size = true) (up : Ris u.place.toList)
    (led : w.params.followText "set-order" = true ∨ u.led = true) {dm : Bool} {Z : Option Bool → Shared → Prop}
    (fin : ∀ h', Heap.SameBut a s.heap h' → SX w h' a S' fs.size → Z (some true) { s with heap := h' }) :
    wpAny (model P w) A (do
      storeSet a fs u
      if (!dm && u.tooFull) = true then do
          g (relayAll u fs (SetTable.grown fs.size)).2.2
          storeSet a (relayAll u fs (SetTable.grown fs.size)).1 (relayAll u fs (SetTable.grown fs.size)).2.1
          pure (some true)
        else pure (some true)) Z E s := by
  obtain ⟨q1, q2, q3⟩ := q
  obtain ⟨k1, k2, k3⟩ := keys
  refine wpAny_bind (wpAny_storeSet_of q1 q3 ?_ (fits_of_scanBound few))
  have at1 := put_at (es' := fs) (t' := u) q1 q3
  have b1 := Heap.SameBut.update s.heap a (Obj.putSet fs u)
  split
  · have p1 := relayAll_perm u fs (SetTable.grown fs.size)
    have p2 := relayAll_fits u fs (SetTable.grown fs.size)
    have p3 := relayAll_ris u fs (SetTable.grown fs.size)
    have p4 := relayAll_led u fs (SetTable.grown fs.size)
    generalize relayAll u fs (SetTable.grown fs.size) = L at p1 p2 p3 p4 ⊢
    obtain ⟨gs, v, gave⟩ := L
    dsimp only at p1 p2 p3 p4 ⊢
    have size : gs.size = fs.size := by rw [← Array.length_toList, p1.length_eq, Array.length_toList]
    have few2 : gs.size < scanBound := by omega
    refine wpAny_bind (calm _ _ _ ?_)
    refine wpAny_bind (wpAny_storeSet_of at1 rfl ?_ (fits_of_scanBound few2))
    have at2 := put_at (es' := gs) (t' := v) at1 rfl
    refine wpAny_pure (fin _ (b1.trans (Heap.SameBut.update _ a _)) ⟨_, gs, _, v, ⟨at2, q2, rfl⟩, ⟨fun e he => k1 e (p1.mem_iff.mp he), (p1.map kx).nodup_iff.mpr k2, fun k => (k3 k).trans (p1.map kx).mem_iff.symm⟩, ⟨few2, p2, size⟩, p3, ?_⟩)
    exact led.imp _root_.id fun z => p4.trans z
  · exact wpAny_pure (fin _ b1 ⟨_, fs, _, u, ⟨at1, q2, rfl⟩, ⟨k1, k2, k3⟩, ⟨few, fit, rfl⟩, up, led⟩)
theorem sx_add {k : Key} {v : Value} {Z : Bool → Shared → Prop} (R : SX w s.heap a S n) (room : n + 1 < scanBound) (hk : keyIs k v = true)
    (fin : ∀ h' m, Heap.SameBut a s.heap h' → m ≤ n + 1 → SX w h' a (fun j => S j ∨ j = k) m → ∀ b, Z b { s with heap := h' }) :
    wpAny (model P w) A (setAddHashed a v (keyH w k)) Z E s := by
  obtain ⟨o, es, ep, t, ⟨q1, q2, q3⟩, ⟨k1, k2, k3⟩, ⟨few, fit, size⟩, up, led⟩ := R
  have scan : v.scannable = true := by
    rcases keyIs_shape hk with ⟨i, t, _, rfl⟩ | ⟨x, t, _, rfl⟩ <;> rfl
  have all : ElemsOf (mixKind P w) es.toList := gk_all k1
  have is' : (mixKind P w).is k v = true := hk
  unfold setAddHashed setAddHashedIn
  refine wpAny_holding (wpAny_bind (wpAny_setState_of q1 q3 fit ?_))
  dsimp only
  rw [byScan_of scan few all]
  simp only [↓reduceIte]
  unfold setAddByScan
  refine wpAny_bind ?_
  refine wpAny_bind (wpAny_rule ?_)
  refine wpAny_bind (wpAny_setScan_of is' q1 q3 fit all ?_)
  have memb : ∀ j, j ∈ es.toList.map kx ↔ ∃ e ∈ es.toList, keyIs j e.2 = true := fun j => by
    rw [List.mem_map]
    exact ⟨fun ⟨e, h1, h2⟩ => ⟨e, h1, (kx_is (k1 e h1) j).mpr h2⟩, fun ⟨e, h1, h2⟩ => ⟨e, h1, (kx_is (k1 e h1) j).mp h2⟩⟩
  cases found : List.findIdx? (fun e => (mixKind P w).is k e.2) es.toList with
  | some j =>
    dsimp only
    obtain ⟨hj, pj, _⟩ := List.findIdx?_eq_some_iff_getElem.mp found
    have inS : S k := (k3 k).mpr ((memb k).mpr ⟨es.toList[j], List.getElem_mem hj, pj⟩)
    refine wpAny_pure (wpAny_pure ?_)
    exact fin s.heap n (Heap.SameBut.refl a s.heap) (Nat.le_succ _) ⟨o, es, ep, t, ⟨q1, q2, q3⟩, ⟨k1, k2, fun i => by rw [← k3 i]; exact ⟨fun z => z.elim _root_.id fun e => e ▸ inS, .inl⟩⟩, ⟨few, fit, size⟩, up, led⟩ _
  | none =>
    dsimp only
    have new : k ∉ es.toList.map kx := fun z => by
      obtain ⟨e, h1, h2⟩ := (memb k).mp z
      have c := List.findIdx?_eq_none_iff.mp found e h1
      have c : keyIs k e.2 = false := c
      rw [h2] at c
      cases c
    have way : ∀ (b : Bool) {s1 : Shared} {Y : Unit → Shared → Prop}, Y () s1 → wpAny (model P w) A (match b with | true => rule "set.scan.the-table-gave-way" | false => pure ()) Y E s1 := fun b s1 Y y => by
      cases b
      · exact wpAny_pure y
      · exact wpAny_rule y
    have p1 := layNew_perm t es (keyH w k) v
    have p2 := layNew_fits t es (keyH w k) v
    have p3 := layNew_ris t es (keyH w k) v up
    have p4 := layNew_led t es (keyH w k) v
    generalize layNew t es (keyH w k) v = L at p1 p2 p3 p4 ⊢
    obtain ⟨fs, u, dm, gave⟩ := L
    dsimp only at p1 p2 p3 p4 ⊢
    rw [Array.toList_push] at p1
    have pc : fs.toList.Perm ((keyH w k, v) :: es.toList) := p1.trans (List.perm_append_singleton _ _)
    have pk : (fs.toList.map kx).Perm (k :: es.toList.map kx) := by
      have z := pc.map kx
      rw [List.map_cons, kx_of (e := (keyH w k, v)) hk] at z
      exact z
    have keys : (∀ e ∈ fs.toList, Gk w e) ∧ (fs.toList.map kx).Nodup ∧ ∀ j, (S j ∨ j = k) ↔ j ∈ fs.toList.map kx := by
      refine ⟨fun e he => ?_, pk.nodup_iff.mpr (List.nodup_cons.mpr ⟨new, k2⟩), fun j => ?_⟩
      · rcases List.mem_cons.mp (pc.mem_iff.mp he) with z | z
        · rw [z]
          exact ⟨k, hk, rfl⟩
        · exact k1 e z
      · rw [k3 j, pk.mem_iff, List.mem_cons]
        exact Or.comm
    have size2 : fs.size = n + 1 := by rw [← Array.length_toList, pc.length_eq, List.length_cons, Array.length_toList, size]
    have few2 : fs.size < scanBound := by omega
    have led2 : w.params.followText "set-order" = true ∨ u.led = true := led.imp _root_.id fun z => p4.trans z
    have fin2 : ∀ h', Heap.SameBut a s.heap h' → SX w h' a (fun j => S j ∨ j = k) fs.size → ∀ b, Z b { s with heap := h' } := fun h' sb r => fin h' _ sb (Nat.le_of_eq size2) r
    refine wpAny_bind (way _ ?_)
    split
    · refine wpAny_bind ?_
      rw [hashByValue_scannable 8 scan]
      refine wpAny_pure ?_
      refine sx_lay ?_ ⟨q1, q2, q3⟩ keys few2 ?_ ?_ ?_ ?_
      · intro b s1 Y y
        cases b
        · exact wpAny_pure y
        · exact wpAny_rule y
      · first | (split <;> first | exact p2 | exact SetTable.fits_plain_off p2) | exact p2
      · first | (split <;> exact p3) | exact p3
      · first | (split <;> exact led2) | exact led2
      · intro h' sb r
        dsimp only
        exact wpAny_pure (fin2 h' sb r _)
    · refine wpAny_bind (wpAny_pure ?_)
      simp only [↓reduceIte]
      refine sx_lay ?_ ⟨q1, q2, q3⟩ keys few2 p2 p3 led2 ?_
      · intro b s1 Y y
        cases b
        · exact wpAny_pure y
        · exact wpAny_rule y
      · intro h' sb r
        dsimp only
        exact wpAny_pure (fin2 h' sb r _)
theorem sx_loop {I : Addr} {fp wr : List Addr} {G : Array GenState → Array GenState → Prop} {n : Nat} {Pv : Nat → Value → Prop} {St : Nat → Shared → Prop} {R : Result → Shared → Prop}
    (W : WalksS P w A.in1 I fp wr G n Pv St) (D : Addr) (hD : D ∉ fp) (ks : List Key) (hn : n = ks.length) (few : ks.length + 1 < scanBound) (are : ∀ i v, Pv i v → ∃ k, ks[i]? = some k ∧ keyIs k v = true) :
    ∀ (m i : Nat) (s : Shared), n - i = m → i ≤ n → St i s → (∃ c, c ≤ i ∧ SX w s.heap D (fun j => j ∈ ks.take i) c) →
      (∀ s' c, Moved (D :: wr) G s s' → c ≤ n → SX w s'.heap D (fun j => j ∈ ks) c → R (.ok (.ret .none)) s') →
      codeAny (model P w) A (.builtin "set.update.loop" ⟨[.ref D, .ref I], []⟩) R s := by
  have notw : D ∉ wr := fun z => hD (W.sub _ z)
  have more : ∀ b ∈ wr, b ∈ D :: wr := fun b hb => List.mem_cons_of_mem _ hb
  intro m
  induction m with
  | zero =>
    intro i s e1 e2 st ⟨c, hc, hS⟩ fin
    obtain rfl : i = n := by omega
    refine codeAny_builtin F.entry_set_update_loop ?_
    rw [Around.under_plainId F.plain_set_update_loop _]
    show wpAny _ A.in1 (pyNext (.ref I) >>= _) _ _ s
    refine wpAny_bind (W.done s _ _ st fun s2 mv => ?_)
    show wpAny _ A.in1 (ret Value.none) _ _ s2
    rw [List.take_of_length_le (l := ks) (i := i) (by omega)] at hS
    exact wpAny_pure (fin s2 c (mv.mono more) hc (hS.keep fun o e => mv.heap D o notw e))
  | succ m ih =>
    intro i s e1 e2 st ⟨c, hc, hS⟩ fin
    have lt : i < n := by omega
    refine codeAny_builtin F.entry_set_update_loop ?_
    rw [Around.under_plainId F.plain_set_update_loop _]
    show wpAny _ A.in1 (pyNext (.ref I) >>= _) _ _ s
    refine wpAny_bind (W.item i s _ _ lt st fun v s2 pv st2 mv => ?_)
    obtain ⟨k, hk, isk⟩ := are i v pv
    have hS2 := hS.keep fun o e => mv.heap D o notw e
    show wpAny _ A.in1 (holding [v] (setAdd D v) >>= _) _ _ s2
    refine wpAny_bind (wpAny_holding ?_)
    unfold setAdd
    refine wpAny_holding ?_
    refine wpAny_bind ((mixKind P w).pyHash (k := k) isk ?_)
    refine sx_add (s := { s2 with toks := s2.toks + 1 }) hS2 (by omega) isk fun h' m2 sb hm hS3 b => ?_
    have hS4 : SX w h' D (fun j => j ∈ ks.take (i + 1)) m2 := hS3.like fun j => by
      rw [List.take_add_one, hk, List.mem_append]
      simp
    refine wpAny_pure ⟨plainId_quiet F.plain_set_update_loop _, ih (i + 1) _ (by omega) lt (W.frame _ s2 _ _ st2 (Nat.le_succ _) fun b hb o e => ?_) ⟨_, (show m2 ≤ i + 1 by omega), hS4⟩ fun s3 c3 mv3 hc3 hS5 => ?_⟩
    · rw [sb.2 b (fun z : b = D => hD (z ▸ hb))]
      exact e
    · refine fin s3 c3 (Moved.trans W.gtrans ((mv.mono more).then_heap (Nat.le_succ _) fun b o hb e => ?_) mv3) hc3 hS5
      rw [sb.2 b (fun z : b = D => hb (by rw [z]; exact List.mem_cons_self))]
      exact e
theorem sx_new {h : Heap} {ks : List Key} (q : h.get? a = some { cls := .type "set", dict := none, data := .set #[] 0 (.fresh 0 0 (!w.params.followText "set-order")) }) : SX w h a (fun j => j ∈ ks.take 0) 0 := by
  refine ⟨_, #[], 0, _, ⟨q, ⟨rfl, rfl, rfl⟩, rfl⟩, ⟨fun e he => by simp at he, by simp, fun k => by simp⟩, ⟨by decide, by rfl, rfl⟩, List.Pairwise.nil, ?_⟩
  show _ ∨ (!w.params.followText "set-order") = true
  cases w.params.followText "set-order"
  · exact .inr rfl
  · exact .inl rfl
set_option maxHeartbeats 3200000 in
theorem sx_call {l : Addr} {items : Array Value} (ks : List Key) {Q : Value → Shared → Prop} (hh : A.handled = none) (hl : s.heap.IsList l items) (len : items.size = ks.length) (are : ∀ (i : Nat) (v : Value), items[i]? = some v → ∃ k, ks[i]? = some k ∧ keyIs k v = true) (few : ks.length + 1 < scanBound)
    (fin : ∀ (h' : Heap) (tk c : Nat), SX w h' s.heap.objs.size (fun j => j ∈ ks) c → c ≤ ks.length → (∀ b o, s.heap.get? b = some o → h'.get? b = some o) → Q (.ref s.heap.objs.size) { s with heap := h', toks := tk }) :
    wpAny (model P w) A (call (.type "set") [.ref l]) Q E s := by
  obtain ⟨c, tl, m1⟩ := F.called_set.mro
  have m2 := F.called_set.made
  have m3 := F.called_set.sub
  refine wpAny_call (codeAny_of_tree ?_)
  show wpAny _ _ (callAny (.type "set") _) _ _ _
  refine wpAny_pure ⟨Code.quiet_builtin _ (by decide +kernel), codeAny_builtin F.entry_type_call ?_⟩
  rw [Around.under_plain (weight_type_call_type "set" [.ref l] []) rfl]
  have m4 := F.called_set.notType
  have m5 := F.called_set.canCreate
  have m6 := F.typeCall_set_1 (.ref l)
  repeat (any_goals (first | assumption | wp_step))
  refine codeAny_mono (code_set_led1 (.ref l) (E := E) (Q₁ := fun obj s1 => obj = .ref s.heap.objs.size ∧ s1 = { s with heap := s.heap.push { cls := .type "set", dict := none, data := .set #[] 0 (.fresh 0 0 (!w.params.followText "set-order")) } }) ⟨rfl, rfl⟩) fun r s1 hr => ?_
  cases r with
  | error e => exact hr
  | ok fl =>
    cases fl with
    | ret obj =>
      obtain ⟨rfl, rfl⟩ := hr
      have atS : (s.heap.push { cls := .type "set", dict := none, data := .set #[] 0 (.fresh 0 0 (!w.params.followText "set-order")) }).get? s.heap.objs.size = some { cls := .type "set", dict := none, data := .set #[] 0 (.fresh 0 0 (!w.params.followText "set-order")) } := Heap.get?_push_size _ rfl
      have tyS : Shared.TypeIs { s with heap := s.heap.push { cls := .type "set", dict := none, data := .set #[] 0 (.fresh 0 0 (!w.params.followText "set-order")) } } (.ref s.heap.objs.size) "set" := ⟨_, atS, rfl⟩
      have m7 := F.called_set.init.lookup
      have m8 := F.called_set.init.bind (.ref s.heap.objs.size)
      repeat (any_goals (first | assumption | wp_step))
      refine codeAny_mono (codeAny_call_builtin (R := wants (fun r s2 => r = .none ∧ ∃ h' tk c, s2 = { s with heap := h', toks := tk } ∧ SX w h' s.heap.objs.size (fun j => j ∈ ks) c ∧ c ≤ ks.length ∧
          (∀ b o, s.heap.get? b = some o → h'.get? b = some o)) E) F.called_set.init.plain F.entry_set_init (check_set_init_1 tyS ?_)) fun r2 s2 hr2 => ?_
      · obtain ⟨ol, o1, o2, nl, o3⟩ := hl
        obtain ⟨ocls, odict, odata, oslots⟩ := ol
        simp only at o2 o3
        subst o2
        subst o3
        have at2 : (s.heap.push { cls := .type "set", dict := none, data := .set #[] 0 (.fresh 0 0 (!w.params.followText "set-order")) }).get? l = some { cls := .type "list", dict := odict, data := .seq items nl, slots := oslots } := Heap.get?_push_of_some _ o1
        have n1 := F.sub_list_set
        have n2 := F.sub_list_frozenset
        have n3 : (Value.type "list" == Value.type "dict") = false := by decide
        have isl : (s.heap.push { cls := .type "set", dict := none, data := .set #[] 0 (.fresh 0 0 (!w.params.followText "set-order")) }).IsList l items := ⟨_, at2, rfl, nl, rfl⟩
        unfold Builtin.«set.__init__» noKeywords Builtin.Frozenset.updateFrom
        generalize hPI : pyIter = PI
        wp_walk
        subst hPI
        refine wpAny_pyIter_list isl ?_
        refine wpAny_bind (wpAny_runValue ?_)
        have lS : l < s.heap.objs.size := Heap.lt_size o1
        have hh3 : A.in1.in1.in1.handled = none := by simp [hh]
        have sz1 : (s.heap.push { cls := .type "set", dict := none, data := .set #[] 0 (.fresh 0 0 (!w.params.followText "set-order")) }).objs.size = s.heap.objs.size + 1 := Heap.size_push ..
        have ne1 : l ≠ (s.heap.push { cls := .type "set", dict := none, data := .set #[] 0 (.fresh 0 0 (!w.params.followText "set-order")) }).objs.size := Nat.ne_of_lt (sz1.symm ▸ Nat.lt_succ_of_lt lS)
        have ne2 : s.heap.objs.size ∉ [(s.heap.push { cls := .type "set", dict := none, data := .set #[] 0 (.fresh 0 0 (!w.params.followText "set-order")) }).objs.size, l] := by
          rw [sz1]
          simp only [List.mem_cons, List.not_mem_nil, or_false, not_or]
          exact ⟨Nat.ne_of_lt (Nat.lt_succ_self _), Nat.ne_of_gt lS⟩
        refine sx_loop ((Walks.list hh3 _ l ne1 items).toS) s.heap.objs.size ne2 ks len few are (items.size - 0) 0 _ (by omega) (Nat.zero_le _) ⟨⟨_, Heap.get?_push_size _ rfl, rfl, rfl⟩, (isl.push _)⟩ ?one ?all
        case one => exact ⟨0, Nat.le_refl 0, sx_new (Heap.get?_push_of_some _ atS)⟩
        case all =>
          intro s3 c3 mv hc hS
          obtain ⟨h', g2, d', tk', os'⟩ := s3
          have eg : g2 = s.gens := mv.gens
          have ed : d' = s.drawn := mv.drawn
          have eo : os' = s.os := mv.os
          subst eg
          subst ed
          subst eo
          show wpAny _ _ _ _ _ _
          refine wpAny_pure ?_
          show wpAny _ _ (ret Value.none) _ _ _
          refine wpAny_pure ⟨rfl, h', tk', c3, rfl, hS, by omega, fun b o e => ?_⟩
          have lt : b < s.heap.objs.size := Heap.lt_size e
          refine mv.heap b o ?_ (Heap.get?_push_of_some _ (Heap.get?_push_of_some _ e))
          rw [sz1]
          simp only [List.mem_cons, List.not_mem_nil, or_false, not_or]
          exact ⟨Nat.ne_of_lt lt, Nat.ne_of_lt (Nat.lt_succ_of_lt lt)⟩
      · cases r2 with
        | error e => exact hr2
        | ok fl2 =>
          cases fl2 with
          | ret r =>
            obtain ⟨rfl, h', tk, c', rfl, z1, z2, z3⟩ := hr2
            repeat (any_goals (first | assumption | wp_step))
            exact fin _ _ _ z1 z2 z3
          | _ => exact hr2.elim
    | _ => exact hr.elim
/-- sorted of a set whose keys are all read as data by enc -/
theorem sx_sorted {enc : Key → PyData} {Q : Value → Shared → Prop} (R : SX w s.heap a S n) (hh : A.handled = none) (all : ∀ k v, S k → keyIs k v = true → ∃ as, ∀ h : Heap, Reads h v (enc k) as ∧ ∀ b, b ∉ as)
    (alk : ∀ k j, S k → S j → PySem.W.alike (enc k) (enc j) = true) (plain : ∀ k, S k → enc k ≠ .none ∧ ∀ xs, enc k ≠ .tuple xs) (un : A.units + 70 < cLine) (dep : ∀ k, (enc k).depth ≤ 60) (line : n ≤ sizeLine)
    (fin : ∀ s' p (out : List Value) (c : Nat) (ks : List Key), (∀ b o, s.heap.get? b = some o → s'.heap.get? b = some o) → s'.gens = s.gens → s'.os = s.os → s.heap.objs.size ≤ p →
      s'.heap.get? p = some (seqObj "list" out.toArray c) → ks.Nodup → (∀ k, k ∈ ks ↔ S k) → ks.length = n → PySem.W.EachIs (fun v k => keyIs k v = true) out (ks.mergeSort (PySem.W.dataLe false enc)) → Q (.ref p) s') :
    wpAny (model P w) A (call (.builtin "sorted") [.ref a]) Q E s := by
  obtain ⟨o, es, ep, t, ⟨q1, q2, q3⟩, ⟨k1, k2, k3⟩, ⟨few, fit, size⟩, up, led⟩ := R
  refine Calls.call_function_entry PyProof.Rows.kind_sorted PyProof.Rows.plain_sorted PyProof.Rows.entry_sorted (PyProof.Rows.args_sorted1 _) ?_
  unfold Builtin.«sorted»
  refine wpAny_bind (m := checkCount "sorted" 1 1 _) (wpAny_pure ?_)
  refine wpAny_bind (collect_set (A := A.in1) hh ⟨o, q1, q2.1, q3⟩ fit few up led fun s1 vs keep big gens os perm => ?_)
  obtain ⟨ks, p1, p2⟩ : ∃ ks : List Key, ks.Perm (es.toList.map kx) ∧ PySem.W.EachIs (fun v k => keyIs k v = true) vs ks := by
    have key : ∀ l : List Value, (∀ v ∈ l, ∃ k, keyIs k v = true) → PySem.W.EachIs (fun v k => keyIs k v = true) l (l.map fun v => kx (0, v)) := fun l => by
      induction l with
      | nil => exact fun _ => .nil
      | cons v l ih =>
        intro h
        obtain ⟨k, hk⟩ := h v List.mem_cons_self
        exact .cons (by show keyIs (kx (0, v)) v = true; rw [kx_of (e := (0, v)) hk]; exact hk) (ih fun u hu => h u (List.mem_cons_of_mem _ hu))
    refine ⟨vs.map fun v => kx (0, v), ?_, key vs fun v hv => ?_⟩
    · have z := perm.map fun v => kx (0, v)
      rw [List.map_map] at z
      exact z
    · obtain ⟨e, he, rfl⟩ := List.mem_map.mp (perm.mem_iff.mp hv)
      obtain ⟨k, g1, _⟩ := k1 e he
      exact ⟨k, g1⟩
  have inS : ∀ k, k ∈ ks ↔ S k := fun k => by rw [p1.mem_iff, ← k3 k]
  have len1 : ks.length = n := by rw [p1.length_eq, List.length_map, Array.length_toList, size]
  have len2 : vs.length = n := by rw [p2.length, len1]
  refine wpAny_bind (wpAny_newList ?_ (by rw [len2]; exact line))
  have at1 : (s1.heap.push (seqObj "list" vs.toArray 0)).get? s1.heap.objs.size = some (seqObj "list" vs.toArray 0) := Heap.get?_push_size _ rfl
  have reads : ∀ h : Heap, PySem.W.EachIs (fun v k => ∃ as, Reads h v (enc k) as ∧ s1.heap.objs.size ∉ as) vs ks := fun h => by
    have go : ∀ {l : List Value} {m : List Key}, PySem.W.EachIs (fun v k => keyIs k v = true) l m → (∀ k ∈ m, S k) → PySem.W.EachIs (fun v k => ∃ as, Reads h v (enc k) as ∧ s1.heap.objs.size ∉ as) l m := fun {l m} e => by
      induction e with
      | nil => exact fun _ => .nil
      | cons r e ih =>
        intro hS
        obtain ⟨as, ha⟩ := all _ _ (hS _ List.mem_cons_self) r
        exact .cons ⟨as, (ha h).1, (ha h).2 _⟩ (ih fun k hk => hS k (List.mem_cons_of_mem _ hk))
    exact go p2 fun k hk => (inS k).mp hk
  refine wpAny_bind (wpAny_holding (PySem.W.list_sort_data (enc := enc) (R := fun v k => keyIs k v = true) at1 p2 (reads _) (fun d hd e he => ?_) (.inr fun d hd => ?_) (by rw [len1]; exact line) (fun k hk => ?_) fun out ho each => ?_))
  · obtain ⟨k, hk, rfl⟩ := List.mem_map.mp hd
    obtain ⟨j, hj, rfl⟩ := List.mem_map.mp he
    exact alk k j ((inS k).mp hk) ((inS j).mp hj)
  · obtain ⟨k, hk, rfl⟩ := List.mem_map.mp hd
    exact plain k ((inS k).mp hk)
  · have := dep k
    show A.units + 1 + 1 + _ < cLine
    omega
  obtain ⟨c, atp⟩ := PyProof.Rows.sortedHeap_at (vs := vs) (out := out.toArray) at1
  refine wpAny_pure ⟨_, rfl, fin _ s1.heap.objs.size out c ks (fun b u e => ?_) gens os big atp (p1.nodup_iff.mpr k2) inS len1 each⟩
  have z := keep b u e
  have lt := Heap.lt_size z
  show (PyProof.Rows.sortedHeap (s1.heap.push (seqObj "list" vs.toArray 0)) s1.heap.objs.size vs out.toArray).get? b = some u
  rw [PyProof.Rows.sortedHeap_old (Nat.ne_of_lt lt) (by rw [size_push']; exact Nat.lt_succ_of_lt lt)]
  exact Heap.get?_push_of_some _ z
end
/-! rules of the hand layer for them -/
def SXO (w : World) (a : Addr) (S : Key → Prop) (n : Nat) : HO := .ext fun h => SX w h a S n
theorem sxo_new {w : World} {P : Program} {H : Hp} {h : Heap} {a : Addr} {S : Key → Prop} {n : Nat} (R : SX w h a S n) : ObjOk P w H h a (SXO w a S n) := by
  have R0 := R
  obtain ⟨o, es, ep, t, ⟨q, _⟩, _⟩ := R0
  exact ⟨R, ⟨o, q⟩, fun _ _ p k => SX.keep p k⟩
theorem vals_at : ∀ {xs : List V} {us : List Value} {i : Nat} {u : Value}, Vals xs us → us[i]? = some u → ∃ x, xs[i]? = some x ∧ RelV x u
  | _, _, 0, _, .cons r _, h => by
    cases h
    exact ⟨_, rfl, r⟩
  | _, _, i + 1, u, .cons _ t, h => vals_at (i := i) (u := u) t h
theorem vals_keys : ∀ {us : List Value} {ks : List Key}, PySem.W.EachIs (fun v k => keyIs k v = true) us ks → Vals (ks.map kV) us
  | _, _, .nil => .nil
  | _, _, .cons r t => by
    refine .cons ?_ (vals_keys t)
    rcases keyIs_shape r with ⟨i, t, rfl, rfl⟩ | ⟨x, t, rfl, rfl⟩
    · exact ⟨t, rfl⟩
    · exact ⟨t, rfl⟩
def encK : Key → PyData
  | .inl i => .int i
  | .inr x => .str x
def leK : Key → Key → Bool := PySem.W.dataLe false encK
section
variable {X : Cx}
def rSetOf (K : PySem.W.Frag) (w : World) : List V → Hp → VK → Prop := fun xs H Q => ∃ (a : Addr) (ks : List Key), xs = [.ref a] ∧ SqL K H a (ks.map kV) ∧ ks.length ≤ 4000 ∧ ∀ p c o, H p = none → c ≤ ks.length → o = SXO w p (fun j => j ∈ ks) c → Q (.ref p) (upd H p o)
theorem cr_setOf (calm : X.calm = true) : CallR X (.type "set") (rSetOf X.K X.w) := by
  intro pins s σ H vs us Q I r h
  obtain ⟨a, ks, rfl, hs, few, q⟩ := h
  obtain ⟨its, rv, hl, _⟩ := I.list hs
  rw [Vals.ref1 r]
  have len : its.toArray.size = ks.length := by
    have z := rv.length
    rw [List.length_map] at z
    rw [List.size_toArray]
    omega
  refine sx_call (A := X.A) ks (I.ok.hd calm) hl.isList len (fun i v hv => ?_) (show ks.length + 1 < 4096 by omega) fun h' tk c hS cc keep => ?_
  · rw [List.getElem?_toArray] at hv
    obtain ⟨x, h1, h2⟩ := vals_at rv hv
    rw [List.getElem?_map] at h1
    cases e : ks[i]? with
    | none => rw [e] at h1; cases h1
    | some k =>
      rw [e] at h1
      cases Option.some.inj h1
      exact ⟨k, rfl, kV_is (P := X.prog) (w := X.w) h2⟩
  · exact ⟨.ref _, upd H s.heap.objs.size (SXO X.w s.heap.objs.size (fun j => j ∈ ks) c), I.laid (t' := tk) keep (Nat.le_refl _) (sxo_new hS), rfl, q _ _ _ (I.hok.fresh (Nat.le_refl _)) cc rfl⟩
theorem sx_rule {k : Nat} (hr : Room k X.A) (calm : X.calm = true) {pins : List (Addr × Obj)} {s : Shared} {σ : L2.St} {H : Hp} {a : Addr} {S : Key → Prop} {n : Nat} {Q : VK} {E : Value → Shared → Prop} (I : Inv X pins σ H s) (ha : H a = some (SXO X.w a S n))
    (kind : (∀ k, S k → ∃ i, k = .inl i) ∨ ∀ k, S k → ∃ x, k = .inr x) (few : n ≤ 4000) (q : ∀ (ks : List Key) (p : Addr), ks.Nodup → (∀ k, k ∈ ks ↔ S k) → ks.length = n → H p = none → Q (.ref p) (upd H p (.lst ((ks.mergeSort leK).map kV)))) :
    wpAny (model X.prog X.w) X.A (call (.builtin "sorted") [.ref a]) (fun v s' => ∃ x H', Inv X pins σ H' s' ∧ RelV x v ∧ Q x H') E s := by
  have R : SX X.w s.heap a S n := (I.hok a _ ha).1
  have un := hr.un
  refine sx_sorted (enc := encK) R (I.ok.hd calm) (fun k v hk hv => ⟨[], fun h => ⟨?_, fun _ z => nomatch z⟩⟩) (fun k j hk hj => ?_) (fun k hk => ?_) (by omega) (fun k => ?_) (Nat.le_trans few (by decide)) fun s' p out c ks keep gens os hp atp nd mem len each => ?_
  · rcases keyIs_shape hv with ⟨i, t, rfl, rfl⟩ | ⟨x, t, rfl, rfl⟩
    · exact .int i t
    · exact .str x t
  · rcases kind with c | c
    · obtain ⟨i, rfl⟩ := c k hk
      obtain ⟨j, rfl⟩ := c j hj
      rfl
    · obtain ⟨i, rfl⟩ := c k hk
      obtain ⟨j, rfl⟩ := c j hj
      rfl
  · cases k <;> exact ⟨nofun, nofun⟩
  · cases k <;> exact Nat.zero_le _
  have rv := vals_keys each
  have hlen : ((ks.mergeSort leK).map kV).length ≤ sizeLine := by
    rw [List.length_map, List.length_mergeSort, len]
    exact Nat.le_trans few (by decide)
  have hn : H p = none := I.hok.fresh hp
  have J : Inv X pins σ (upd H p (.lst ((ks.mergeSort leK).map kV))) { s with heap := s'.heap, gens := s'.gens, drawn := s'.drawn, toks := s'.toks } :=
    I.call (ch := []) (Un.laid keep hp hn) (I.hok.laid keep hp ⟨hlen, out, c, rv, atp⟩) (by rw [gens]; exact I.bare) (fun _ z => nomatch z)
  have e : s' = { s with heap := s'.heap, gens := s'.gens, drawn := s'.drawn, toks := s'.toks } := by
    cases s'
    cases s
    cases os
    rfl
  rw [e]
  exact ⟨.ref p, _, J, rfl, q ks p nd mem len hn⟩
theorem keys_ints : ∀ ks : List Key, (∀ k ∈ ks, ∃ i, k = .inl i) → ∃ ns : List Int, ks = ns.map Sum.inl
  | [], _ => ⟨[], rfl⟩
  | k :: ks, h => by
    obtain ⟨i, rfl⟩ := h k List.mem_cons_self
    obtain ⟨ns, rfl⟩ := keys_ints ks fun j hj => h j (List.mem_cons_of_mem _ hj)
    exact ⟨i :: ns, rfl⟩
theorem keys_strs : ∀ ks : List Key, (∀ k ∈ ks, ∃ i, k = .inr i) → ∃ ns : List Str, ks = ns.map Sum.inr
  | [], _ => ⟨[], rfl⟩
  | k :: ks, h => by
    obtain ⟨i, rfl⟩ := h k List.mem_cons_self
    obtain ⟨ns, rfl⟩ := keys_strs ks fun j hj => h j (List.mem_cons_of_mem _ hj)
    exact ⟨i :: ns, rfl⟩
theorem nodup_of_map {α β : Type} (f : α → β) : ∀ l : List α, (l.map f).Nodup → l.Nodup
  | [], _ => List.nodup_nil
  | x :: l, h => by
    rw [List.map_cons] at h
    obtain ⟨h1, h2⟩ := List.nodup_cons.mp h
    exact List.nodup_cons.mpr ⟨fun z => h1 (List.mem_map.mpr ⟨x, z, rfl⟩), nodup_of_map f l h2⟩
/-- sorted of a set of ints -/
def rSortSI (w : World) : List V → Hp → VK → Prop := fun xs H Q => ∃ (a : Addr) (S : Key → Prop) (n : Nat) (o : HO), xs = [.ref a] ∧ H a = some o ∧ o = SXO w a S n ∧ (∀ k, S k → ∃ i, k = .inl i) ∧ n ≤ 4000 ∧
  ∀ (ns : List Int) (p : Addr), ns.Pairwise (· < ·) → (∀ i, i ∈ ns ↔ S (.inl i)) → ns.length = n → H p = none → Q (.ref p) (upd H p (.lst (ns.map V.int)))
theorem cr_sortSI {k : Nat} (hr : Room k X.A) (calm : X.calm = true) : CallR X (.builtin "sorted") (rSortSI X.w) := by
  intro pins s σ H vs us Q I r h
  obtain ⟨a, S, n, o, rfl, ha, rfl, kind, few, q⟩ := h
  rw [Vals.ref1 r]
  refine sx_rule hr calm I ha (.inl kind) few fun ks p nd mem len hp => ?_
  obtain ⟨ns, rfl⟩ := keys_ints ks fun k hk => kind k ((mem k).mp hk)
  have le : ∀ a b : Int, leK (.inl a) (.inl b) = decide (a ≤ b) := fun a b => congrFun (congrFun (PySem.W.dataLe_int (β := Int) fun x => x) a) b
  have e : (ns.map Sum.inl).mergeSort leK = (ns.mergeSort fun a b => decide (a ≤ b)).map Sum.inl := (PySem.W.sort_maps (s := leK) Sum.inl (fun a _ b _ => (le a b).symm)).symm
  rw [e, List.map_map]
  have nd2 := nodup_of_map Sum.inl ns nd
  have up := List.pairwise_mergeSort (le := fun (a b : Int) => decide (a ≤ b)) (fun a b c h1 h2 => by rw [decide_eq_true_eq] at *; omega) (fun a b => by rw [Bool.or_eq_true, decide_eq_true_eq, decide_eq_true_eq]; omega) ns
  have nd3 : (ns.mergeSort fun a b => decide (a ≤ b)).Nodup := (List.mergeSort_perm ns _).nodup_iff.mpr nd2
  refine q _ p ((up.and nd3).imp fun {a b} h => ?_) (fun i => ?_) ?_ hp
  · have h1 := of_decide_eq_true h.1
    have h2 := h.2
    omega
  · rw [List.mem_mergeSort, ← mem]
    exact ⟨fun z => List.mem_map.mpr ⟨i, z, rfl⟩, fun z => by
      obtain ⟨j, z1, z2⟩ := List.mem_map.mp z
      cases z2
      exact z1⟩
  · rw [List.length_mergeSort, ← len, List.length_map]
/-- sorted of a set of texts -/
def rSortSS (w : World) : List V → Hp → VK → Prop := fun xs H Q => ∃ (a : Addr) (S : Key → Prop) (n : Nat) (o : HO), xs = [.ref a] ∧ H a = some o ∧ o = SXO w a S n ∧ (∀ k, S k → ∃ i, k = .inr i) ∧ n ≤ 4000 ∧
  ∀ (ns : List Str) (p : Addr), ns.Pairwise sl → (∀ i, i ∈ ns ↔ S (.inr i)) → ns.length = n → H p = none → Q (.ref p) (upd H p (.lst (ns.map V.str)))
theorem cr_sortSS {k : Nat} (hr : Room k X.A) (calm : X.calm = true) : CallR X (.builtin "sorted") (rSortSS X.w) := by
  intro pins s σ H vs us Q I r h
  obtain ⟨a, S, n, o, rfl, ha, rfl, kind, few, q⟩ := h
  rw [Vals.ref1 r]
  refine sx_rule hr calm I ha (.inr kind) few fun ks p nd mem len hp => ?_
  obtain ⟨ns, rfl⟩ := keys_strs ks fun k hk => kind k ((mem k).mp hk)
  have le : ∀ a b : Str, leK (.inr a) (.inr b) = decide (a.cps.toList ≤ b.cps.toList) := fun a b => congrFun (congrFun (PySem.W.dataLe_str (β := Str) fun x => x) a) b
  have e : (ns.map Sum.inr).mergeSort leK = (ns.mergeSort fun a b => decide (a.cps.toList ≤ b.cps.toList)).map Sum.inr := (PySem.W.sort_maps (s := leK) Sum.inr (fun a _ b _ => (le a b).symm)).symm
  rw [e, List.map_map]
  have nd2 := nodup_of_map Sum.inr ns nd
  have up := List.pairwise_mergeSort (le := fun (a b : Str) => decide (a.cps.toList ≤ b.cps.toList)) (fun a b c h1 h2 => by rw [decide_eq_true_eq] at *; exact List.le_trans h1 h2) (fun a b => by rw [Bool.or_eq_true, decide_eq_true_eq, decide_eq_true_eq]; exact List.le_total _ _) ns
  have nd3 : (ns.mergeSort fun a b => decide (a.cps.toList ≤ b.cps.toList)).Nodup := (List.mergeSort_perm ns _).nodup_iff.mpr nd2
  refine q _ p ((up.and nd3).imp fun {a b} h => ?_) (fun i => ?_) ?_ hp
  · have h1 := of_decide_eq_true h.1
    rcases sl_tot a b with z | z | z
    · exact z
    · exact absurd z h.2
    · exact absurd z (List.not_lt.mpr h1)
  · rw [List.mem_mergeSort, ← mem]
    exact ⟨fun z => List.mem_map.mpr ⟨i, z, rfl⟩, fun z => by
      obtain ⟨j, z1, z2⟩ := List.mem_map.mp z
      cases z2
      exact z1⟩
  · rw [List.length_mergeSort, ← len, List.length_map]
end
/-! ### lots of runs, in lists or tuples -/
def SqB (b : Bool) (K : PySem.W.Frag) (H : Hp) (a : Addr) (xs : List V) : Prop := if b = true then SqL K H a xs else SqT K H a xs
def Ita (b : Bool) (K : PySem.W.Frag) (a : Addr) : It := if b = true then Itl K a else Itt K a
theorem SqB.sm {b : Bool} {K : PySem.W.Frag} {H H' : Hp} {a : Addr} {xs : List V} (e : Same H H') (h : SqB b K H a xs) : SqB b K H' a xs := by
  cases b
  · exact SqT.sm e h
  · exact SqL.sm e h
/-- a walk over a list or a tuple, whichever is told ahead -/
def iSeq (K : PySem.W.Frag) (tl : TE) : TI := fun σ H R => ∃ b : Bool, tl σ H fun x H1 => ∃ a, x = .ref a ∧ (∃ xs, SqB b K H1 a xs) ∧ R (Ita b K a) H1
theorem pi_seq {X : Cx} {tg l : Expr} {tl : TE} (hl : PE X l tl) : PI X tg l (iSeq X.K tl) := by
  refine ⟨fun pins s σ H R I h => ?_⟩
  obtain ⟨b, h⟩ := h
  cases b
  · exact (pi_tup hl).run pins s σ H R I h
  · exact (pi_list hl).run pins s σ H R I h
theorem walk_seq {b : Bool} {K : PySem.W.Frag} {a : Addr} {xs : List V} : Walk (Ita b K a) xs.length (fun H => SqB b K H a xs) (YAt xs) := by
  cases b
  · exact walk_tup
  · exact walk_list
def NmOk (x : Str) : Prop := x.length ≤ 8 ∧ (x.cps.toList.all fun c => decide (c < 16 ^ 8)) = true
def RnOk (r : Rn) : Prop := 0 ≤ r.2.1 ∧ r.2.1 < r.2.2 ∧ r.2.2 ≤ 1000000000
def spNames : Sp := fun vs H Q _ => ∃ (f c : Addr) (n : Int), vs = [.ref f] ∧ Fd H f c n ∧ n ≤ 900000 ∧
  ∀ (l : Addr) (xs : List Str) (H' : Hp), Fd H' f c (n + 8) → But f H H' → l ≠ f → l ≠ c → H l = none → H' l = some (.lst (xs.map V.str)) → xs.length = 4 → (∀ x ∈ xs, NmOk x) → Q (.ref l) H'
def spAt : Sp := fun vs H Q _ => ∃ (f c : Addr) (m n : Int), vs = [.ref f, .int m] ∧ Fd H f c n ∧ n ≤ 900000 ∧ 0 < m ∧ m ≤ 1000000 ∧
  ∀ (d : Int) (H' : Hp), 0 ≤ d → d ≤ 999999999 → Fd H' f c (n + 4) → But f H H' → (∀ a, H a = none → H' a = none) → Q (.int d) H'
def spRun : Sp := fun vs H Q _ => ∃ (f c l : Addr) (m n : Int) (xs : List Str), vs = [.ref f, .ref l, .int m] ∧ Fd H f c n ∧ n ≤ 800000 ∧ 0 < m ∧ m ≤ 1000000 ∧ H l = some (.lst (xs.map V.str)) ∧ l ≠ f ∧ 0 < xs.length ∧ xs.length ≤ 10 ∧
  ∀ (t : Addr) (r : Rn) (H' : Hp), Fd H' f c (n + 8) → But f H H' → H t = none → H' t = some (.tup (rnV r)) → RnOk r → r.1 ∈ xs → Q (.ref t) H'
def spLot : Sp := fun vs H Q _ => ∃ (f c l : Addr) (m k n : Int) (xs : List Str), vs = [.ref f, .ref l, .int m, .int k] ∧ Fd H f c n ∧ n ≤ 700000 ∧ 0 < m ∧ m ≤ 1000000 ∧ 2 ≤ k ∧ k ≤ 60 ∧ H l = some (.lst (xs.map V.str)) ∧ l ≠ f ∧ 0 < xs.length ∧ xs.length ≤ 10 ∧
  ∀ (t : Addr) (ps : List Addr) (rs : List Rn) (H' : Hp), Fd H' f c (n + 600) → But f H H' → t ≠ f → t ≠ c → H t = none → H' t = some (.lst (ps.map V.ref)) → Prd H' ps rs → rs.length ≤ 60 → (rs.length : Int) ≤ k → (∀ r ∈ rs, RnOk r ∧ r.1 ∈ xs) → Q (.ref t) H'
def spHas (K : PySem.W.Frag) : Sp := fun vs H Q _ => ∃ (b : Bool) (a : Addr) (s : Str) (n : Int) (ps : List Addr) (rs : List Rn), vs = [.ref a, .str s, .int n] ∧ SqB b K H a (ps.map V.ref) ∧ Prd H ps rs ∧ rs.length ≤ 1000 ∧
  ∀ H', Same H H' → Q (.bl (hasB rs s n)) H'
theorem Prd.but {H H' : Hp} {f c : Addr} {n : Int} {ps : List Addr} {rs : List Rn} (hf : Fd H f c n) (b : But f H H') (h : Prd H ps rs) : Prd H' ps rs := by
  obtain ⟨zs, hz⟩ := hf.at
  refine Prd.keep (fun p hp o e => ?_) h
  obtain ⟨r, _, e2⟩ := Prd.mem h hp
  rw [e2] at e
  cases Option.some.inj e
  exact b p _ (ne_of e2 hz (fun z => nomatch z)) e2
theorem Prd.put {H : Hp} {l : Addr} {xs : List V} {o : HO} {ps : List Addr} {rs : List Rn} (hl : H l = some (.lst xs)) (h : Prd H ps rs) : Prd (upd H l o) ps rs := by
  refine Prd.keep (fun p hp u e => ?_) h
  obtain ⟨r, _, e2⟩ := Prd.mem h hp
  rw [upd_ne (ne_of e2 hl (fun z => nomatch z))]
  exact e
theorem pick_str {xs : List Str} {d : Int} (d0 : 0 ≤ d) (d1 : d < (((xs.map V.str).length : Nat) : Int)) : ∃ s ∈ xs, atI (xs.map V.str) d = some (.str s) := by
  rw [List.length_map] at d1
  obtain ⟨k, rfl⟩ : ∃ k : Nat, d = (k : Int) := ⟨d.toNat, by omega⟩
  have hk : k < xs.length := by omega
  exact ⟨xs[k], List.getElem_mem hk, atI_nat (by rw [List.getElem?_map, List.getElem?_eq_getElem hk]; rfl)⟩
theorem pick_ref {ps : List Addr} {rs : List Rn} {H : Hp} {d : Int} (h : Prd H ps rs) (d0 : 0 ≤ d) (d1 : d < (((ps.map V.ref).length : Nat) : Int)) : ∃ p, ∃ r ∈ rs, atI (ps.map V.ref) d = some (.ref p) ∧ H p = some (.tup (rnV r)) := by
  rw [List.length_map] at d1
  obtain ⟨k, rfl⟩ : ∃ k : Nat, d = (k : Int) := ⟨d.toNat, by omega⟩
  have hk : k < ps.length := by omega
  obtain ⟨r, h1, h2⟩ := Prd.get h (List.getElem?_eq_getElem hk)
  exact ⟨ps[k], r, List.mem_of_getElem? h1, atI_nat (by rw [List.getElem?_map, List.getElem?_eq_getElem hk]; rfl), h2⟩
theorem mulk_ok (ch : Nat) (d : Int) (h0 : 0 ≤ d) (h1 : d < 100) : MulOk ⟨#[ch]⟩ d := by
  refine ⟨?_, fun _ hd => ?_, fun _ _ => ?_⟩
  · simp only [Bool.or_eq_false_iff, decide_eq_false_iff_not]
    constructor <;> omega
  · have e : (⟨#[ch]⟩ : Str).length = 1 := rfl
    rw [e]
    by_cases z : d = 0
    · subst z
      first | omega | simp_all
    · have : (1 : Int) ≤ (2 ^ 63 - 1) / d := by
        rw [Int.le_ediv_iff_mul_le (by omega)]
        omega
      omega
  · have e : (⟨#[ch]⟩ : Str).length = 1 := rfl
    rw [e, Nat.one_mul]
    unfold Builtin.Str.tooLong
    rw [decide_eq_false_iff_not, sizeLine_eq]
    omega
theorem mulk_nm {ch : Nat} (d : Int) (h : ch < 16 ^ 8) (h1 : d ≤ 8) : NmOk (Txt.mul ⟨#[ch]⟩ d) := ⟨len_mul_one rfl h1, mul_chr d h⟩
theorem nm_app {a b : Str} {n m : Nat} (ha : a.length ≤ n ∧ (a.cps.toList.all fun c => decide (c < 16 ^ 8)) = true) (hb : b.length ≤ m ∧ (b.cps.toList.all fun c => decide (c < 16 ^ 8)) = true) (h : n + m ≤ 8) : NmOk (a ++ b) := by
  refine ⟨?_, ?_⟩
  · rw [strLen_append]
    omega
  · have e : (a ++ b).cps.toList = a.cps.toList ++ b.cps.toList := Array.toList_append
    rw [e, List.all_append, ha.2, hb.2]
    rfl
theorem nm_sign {ch : Nat} (h : ch < 16 ^ 8) : (⟨#[ch]⟩ : Str).length ≤ 1 ∧ ((⟨#[ch]⟩ : Str).cps.toList.all fun c => decide (c < 16 ^ 8)) = true := ⟨Nat.le_refl 1, by simp [h]⟩
theorem cut_tail (xs : List V) : cutV xs (some 1) none = xs.tail := by
  have e : HT.sIx xs.length 0 (some ((1 : Nat) : Int)) = min 1 xs.length := HT.sIx_nat _ _ _
  have e : HT.sIx xs.length 0 (some 1) = min 1 xs.length := e
  unfold cutV
  rw [e, HT.sIx_none]
  cases xs with
  | nil => rfl
  | cons x r =>
    have z : min 1 (x :: r).length = 1 := by rw [List.length_cons]; omega
    rw [z, List.length_cons]
    show r.take (r.length + 1 - 1) = r
    rw [Nat.add_sub_cancel, List.take_length]
/-- a lot of runs, in a list (b) or a tuple -/
structure Lt where
  b : Bool
  a : Addr
  ps : List Addr
  rs : List Rn
def LtAt (K : PySem.W.Frag) (H : Hp) (x : Lt) : Prop := SqB x.b K H x.a (x.ps.map V.ref) ∧ Prd H x.ps x.rs ∧ x.rs.length ≤ 200
theorem LtAt.same {K : PySem.W.Frag} {H H' : Hp} {x : Lt} (s : Same H H') (h : LtAt K H x) : LtAt K H' x := ⟨SqB.sm s h.1, Prd.same s h.2.1, h.2.2⟩
def allR (ls : List Lt) : List Rn := ls.flatMap fun x => x.rs
theorem allR_more {ls : List Lt} {i : Nat} {x : Lt} (h : ls[i]? = some x) : allR (ls.take (i + 1)) = allR (ls.take i) ++ x.rs := by
  obtain ⟨hi, e⟩ := List.getElem?_eq_some_iff.mp h
  unfold allR
  rw [List.take_succ_eq_append_getElem hi, List.flatMap_append, e, List.flatMap_singleton]
theorem allR_len {K : PySem.W.Frag} {H : Hp} : ∀ {ls : List Lt}, (∀ x ∈ ls, LtAt K H x) → (allR ls).length ≤ 200 * ls.length
  | [], _ => Nat.le_refl _
  | x :: ls, h => by
    have z := allR_len (ls := ls) fun y hy => h y (List.mem_cons_of_mem _ hy)
    have y := (h x List.mem_cons_self).2.2
    unfold allR at *
    rw [List.flatMap_cons, List.length_append, List.length_cons]
    omega
def endsOf (rs : List Rn) : List Int := rs.flatMap fun r => [r.2.1, r.2.2]
theorem endsOf_app (a b : List Rn) : endsOf (a ++ b) = endsOf a ++ endsOf b := List.flatMap_append
theorem endsOf_len : ∀ rs : List Rn, (endsOf rs).length = 2 * rs.length
  | [] => rfl
  | r :: rs => by
    have z := endsOf_len rs
    unfold endsOf at *
    rw [List.flatMap_cons, List.length_append, z, List.length_cons (as := rs)]
    show 2 + 2 * rs.length = 2 * (rs.length + 1)
    omega
theorem ends_of {rs : List Rn} {ns : List Str} {cs : List Int} (h1 : ∀ s, s ∈ ns ↔ s ∈ rs.map (·.1)) (h2 : ∀ i, i ∈ cs ↔ i ∈ endsOf rs) : Ends rs ns cs := fun r hr => by
  refine ⟨(h1 _).mpr (List.mem_map.mpr ⟨r, hr, rfl⟩), (h2 _).mpr ?_, (h2 _).mpr ?_⟩
  · exact List.mem_flatMap.mpr ⟨r, hr, List.mem_cons_self⟩
  · exact List.mem_flatMap.mpr ⟨r, hr, List.mem_cons_of_mem _ List.mem_cons_self⟩
theorem hasB_all (ls : List Lt) (s : Str) (n : Int) : ((ls.map fun x => hasB x.rs s n).any _root_.id) = hasB (allR ls) s n := by
  unfold hasB allR
  rw [List.any_flatMap, List.any_map]
  rfl
theorem goods_more {P : Str → Int → Bool} {s : Str} {ps : List (Int × Int)} {j : Nat} {p : Int × Int} (h : ps[j]? = some p) : goods P s (ps.take (j + 1)) = goods P s (ps.take j) ++ if P s p.1 = true then [(s, p.1, p.2)] else [] := by
  obtain ⟨hj, e⟩ := List.getElem?_eq_some_iff.mp h
  unfold goods
  rw [List.take_succ_eq_append_getElem hj, List.filter_append, List.map_append, e]
  congr 1
  cases hP : P s p.1 <;> simp [hP]
theorem goods_len {P : Str → Int → Bool} {s : Str} (ps : List (Int × Int)) : (goods P s ps).length ≤ ps.length := by
  unfold goods
  rw [List.length_map]
  exact List.length_filter_le _ _
theorem join_len (acc : List Rn) (r : Rn) : (join acc r).length ≤ acc.length + 1 := by
  rcases nil_or_snoc acc with rfl | ⟨i, l, rfl⟩
  · exact Nat.le_refl _
  · rw [join_snoc]
    split
    · rw [List.length_append, List.length_append, List.length_singleton, List.length_singleton]
      omega
    · rw [List.length_append, List.length_append, List.length_singleton, List.length_singleton]
      omega
theorem fold_join_len : ∀ (l acc : List Rn), (l.foldl join acc).length ≤ acc.length + l.length
  | [], acc => Nat.le_refl _
  | r :: l, acc => by
    have z := fold_join_len l (join acc r)
    have y := join_len acc r
    rw [List.foldl_cons, List.length_cons]
    omega
theorem flat_goods_len {P : Str → Int → Bool} (ps : List (Int × Int)) : ∀ ss : List Str, (ss.flatMap fun s => goods P s ps).length ≤ ss.length * ps.length
  | [] => Nat.zero_le _
  | s :: ss => by
    have z := flat_goods_len (P := P) ps ss
    have y := goods_len (P := P) (s := s) ps
    rw [List.flatMap_cons, List.length_append, List.length_cons, Nat.succ_mul]
    omega
theorem pcs_get {cs : List Int} {j : Nat} {x y : Int} (hx : cs[j]? = some x) (hy : cs.tail[j]? = some y) : (pcs cs)[j]? = some (x, y) := by
  unfold pcs
  rw [List.getElem?_zip_eq_some]
  exact ⟨hx, hy⟩
def spMade (K : PySem.W.Frag) : Sp := fun vs H Q _ => ∃ (l : Addr) (ls : List Lt), vs = [.ref l, .str (("some" : String) : Str)] ∧ SqL K H l (ls.map fun x => V.ref x.a) ∧ (∀ x ∈ ls, LtAt K H x) ∧ 0 < ls.length ∧ ls.length ≤ 3 ∧ Full (allR ls) ∧
  ∀ (t : Addr) (qs : List Addr) (H' : Hp), Same H H' → H t = none → H' t = some (.tup (qs.map V.ref)) → Prd H' qs (runsOf (allR ls)) → Q (.ref t) H'
def dictM (a b c : Bool) : List (Key × V) := [(Sum.inr (("some" : String) : Str), .bl a), (Sum.inr (("all" : String) : Str), .bl b), (Sum.inr (("first" : String) : Str), .bl c)]
theorem rn_fine {r : Rn} (h1 : RnOk r) (h2 : NmOk r.1) : fineD (rnD r) = true ∧ cost (rnD r) ≤ 5000 := by
  obtain ⟨a, b, c⟩ := h1
  refine ⟨?_, ?_⟩
  · show (fineD (.str r.1) && (fineD (.int r.2.1) && (fineD (.int r.2.2) && true))) = true
    have e : fineD (.str r.1) = true := h2.2
    rw [e, int_fine (by omega) (by omega), int_fine (by omega) (by omega)]
    rfl
  · have := h2.1
    simp only [rnD, Pn.cost, costAll]
    omega
theorem rns_fine : ∀ rs : List Rn, (∀ r ∈ rs, RnOk r ∧ NmOk r.1) → fineAll (rs.map rnD) = true ∧ costAll (rs.map rnD) ≤ 5002 * rs.length
  | [], _ => ⟨rfl, Nat.le_refl _⟩
  | r :: rs, h => by
    obtain ⟨z1, z2⟩ := rns_fine rs fun x hx => h x (List.mem_cons_of_mem _ hx)
    obtain ⟨y1, y2⟩ := rn_fine (h r List.mem_cons_self).1 (h r List.mem_cons_self).2
    refine ⟨?_, ?_⟩
    · rw [List.map_cons]
      unfold fineAll
      rw [y1, z1]
      rfl
    · rw [List.map_cons, List.length_cons]
      unfold costAll
      omega
theorem rns_depth (rs : List Rn) : PyData.depthAll (rs.map rnD) ≤ 2 := by
  induction rs with
  | nil => simp [PyData.depthAll]
  | cons r l ih =>
    rw [List.map_cons]
    simp only [PyData.depthAll, rnD, PyData.depth] at *
    omega
def lotD (rs : List Rn) : PyData := .list (rs.map rnD)
theorem lot_show {rs : List Rn} (h : ∀ r ∈ rs, RnOk r ∧ NmOk r.1) (hl : rs.length ≤ 60) : (lotD rs).showable = true ∧ (lotD rs).hasDict = false ∧ (lotD rs).depth ≤ 60 ∧ (lotD rs).shown.length ≤ sizeLine := by
  obtain ⟨z1, z2⟩ := rns_fine rs h
  have f : fineD (lotD rs) = true := z1
  have c := shown_cost _ f
  have e : cost (lotD rs) = costAll (rs.map rnD) + 3 := rfl
  have d := rns_depth rs
  obtain ⟨s1, s2⟩ := fine_show _ f
  refine ⟨s1, s2, ?_, Nat.le_trans c (Nat.le_trans (show _ ≤ 1000000 by omega) (by decide))⟩
  simp only [lotD, PyData.depth]
  omega
theorem lot_dp {K : PySem.W.Frag} {H : Hp} {t : Addr} {ps : List Addr} {rs : List Rn} (h : H t = some (.lst (ps.map V.ref))) (hp : Prd H ps rs) : Dp K H (.ref t) (lotD rs) := .lst (SqL.of h) (Prd.dp hp)
theorem Prd.rev {H : Hp} : ∀ {ps : List Addr} {rs : List Rn}, Prd H ps rs → Prd H ps.reverse rs.reverse
  | _, _, .nil => .nil
  | _, _, .cons a b => by
    rw [List.reverse_cons, List.reverse_cons]
    exact Prd.app (Prd.rev b) (Prd.one a)
theorem Prd.take {H : Hp} : ∀ {ps : List Addr} {rs : List Rn} (n : Nat), Prd H ps rs → Prd H (ps.take n) (rs.take n)
  | _, _, 0, _ => .nil
  | _, _, _ + 1, .nil => .nil
  | _, _, n + 1, .cons a b => .cons a (Prd.take n b)
theorem one_lot {K : PySem.W.Frag} {H : Hp} {x : Lt} (h : LtAt K H x) : ∀ y ∈ [x], LtAt K H y := fun y hy => by
  rw [List.mem_singleton.mp hy]
  exact h
theorem all_one (x : Lt) : allR [x] = x.rs := List.flatMap_singleton ..
theorem Nice.up : ∀ {n : Nat} {d : PyData}, Nice n d → Nice (n + 1) d
  | 0, _, h => Or.inl h
  | n + 1, _, h => by
    rcases h with h | ⟨ds, h1, h2, h3⟩
    · exact Or.inl h
    · exact Or.inr ⟨ds, h1, h2, fun e he => Nice.up (h3 e he)⟩
/-! ### both, less: pure, and what they have -/
/-- (a, i) ≤ (b, j) as Python has it -/
def lexLe (a : Str) (i : Int) (b : Str) (j : Int) : Bool := !PySem.W.dataLt (.tuple [.str b, .int j]) (.tuple [.str a, .int i])
theorem lexLe_iff (a : Str) (i : Int) (b : Str) (j : Int) : lexLe a i b j = true ↔ sl a b ∨ (a = b ∧ i ≤ j) := by
  unfold lexLe
  rw [PySem.W.dataLt_pair (by simp [PySem.W.alike]) (by simp [PySem.W.alike]), PySem.W.dataLt_str, PySem.W.dataLt_int]
  simp only [PyData.eqv, beq_iff_eq]
  by_cases e : b = a
  · subst e
    rw [if_pos rfl]
    by_cases e2 : j = i
    · subst e2
      rw [if_pos rfl]
      exact ⟨fun _ => .inr ⟨rfl, Int.le_refl _⟩, fun _ => rfl⟩
    · rw [if_neg e2, Bool.not_eq_true', decide_eq_false_iff_not]
      constructor
      · intro h
        exact .inr ⟨rfl, by omega⟩
      · rintro (h | ⟨_, h⟩)
        · exact (sl_irr _ h).elim
        · omega
  · rw [if_neg e, Bool.not_eq_true', decide_eq_false_iff_not]
    constructor
    · intro h
      rcases sl_tot a b with z | z | z
      · exact .inl z
      · exact absurd z.symm e
      · exact absurd z h
    · rintro (h | ⟨h, _⟩) z
      · exact sl_as h z
      · exact e h.symm
theorem lexLe_not {a : Str} {i : Int} {b : Str} {j : Int} (h : ¬ lexLe a i b j = true) : sl b a ∨ (a = b ∧ j < i) := by
  rw [lexLe_iff] at h
  rcases sl_tot a b with z | z | z
  · exact absurd (.inl z) h
  · exact .inr ⟨z, Int.not_le.mp fun k => h (.inr ⟨z, k⟩)⟩
  · exact .inl z
def mx (a b : Int) : Int := if b > a then b else a
def mn (a b : Int) : Int := if b < a then b else a
theorem mx_is (a b : Int) : (mx a b = a ∧ b ≤ a) ∨ (mx a b = b ∧ a ≤ b) := by
  unfold mx
  split <;> omega
theorem mn_is (a b : Int) : (mn a b = a ∧ a ≤ b) ∨ (mn a b = b ∧ b ≤ a) := by
  unfold mn
  split <;> omega
def meet (x y : Rn) : List Rn := if x.1 = y.1 ∧ mx x.2.1 y.2.1 < mn x.2.2 y.2.2 then [(x.1, mx x.2.1 y.2.1, mn x.2.2 y.2.2)] else []
def bothL : List Rn → List Rn → List Rn
  | x :: a, y :: b => meet x y ++ if lexLe x.1 x.2.2 y.1 y.2.2 = true then bothL a (y :: b) else bothL (x :: a) b
  | [], _ => []
  | _ :: _, [] => []
termination_by a b => a.length + b.length
theorem both_cons (x : Rn) (a : List Rn) (y : Rn) (b : List Rn) : bothL (x :: a) (y :: b) = meet x y ++ if lexLe x.1 x.2.2 y.1 y.2.2 = true then bothL a (y :: b) else bothL (x :: a) b := by
  rw [bothL]
theorem both_nil (b : List Rn) : bothL [] b = [] := by rw [bothL]
theorem both_nil2 (a : List Rn) : bothL a [] = [] := by cases a <;> rw [bothL]
theorem meet_in {x y r : Rn} : r ∈ meet x y ↔ x.1 = y.1 ∧ r.1 = x.1 ∧ r.2.1 = mx x.2.1 y.2.1 ∧ r.2.2 = mn x.2.2 y.2.2 ∧ r.2.1 < r.2.2 := by
  unfold meet
  split
  · rename_i h
    rw [List.mem_singleton]
    constructor
    · rintro rfl
      exact ⟨h.1, rfl, rfl, rfl, h.2⟩
    · rintro ⟨_, h1, h2, h3, _⟩
      exact Prod.ext h1 (Prod.ext h2 h3)
  · rename_i h
    refine ⟨fun z => (nomatch z), ?_⟩
    rintro ⟨h0, h1, h2, h3, h4⟩
    exact (h ⟨h0, by omega⟩).elim
theorem both_in : ∀ (a b : List Rn) (r : Rn), r ∈ bothL a b → ∃ u ∈ a, ∃ v ∈ b, r ∈ meet u v
  | [], b, r, h => by rw [both_nil] at h; exact nomatch h
  | x :: a, [], r, h => by rw [both_nil2] at h; exact nomatch h
  | x :: a, y :: b, r, h => by
    rw [both_cons] at h
    rcases List.mem_append.mp h with h | h
    · exact ⟨x, List.mem_cons_self, y, List.mem_cons_self, h⟩
    · split at h
      · obtain ⟨u, hu, v, hv, z⟩ := both_in a (y :: b) r h
        exact ⟨u, List.mem_cons_of_mem _ hu, v, hv, z⟩
      · obtain ⟨u, hu, v, hv, z⟩ := both_in (x :: a) b r h
        exact ⟨u, hu, v, List.mem_cons_of_mem _ hv, z⟩
termination_by a b => a.length + b.length
theorem meet_apart {x y u v r s : Rn} (hr : r ∈ meet x y) (hs : s ∈ meet u v) (h : apart x u = true ∨ apart y v = true) : apart r s = true := by
  obtain ⟨r0, r1, r2, r3, r4⟩ := meet_in.mp hr
  obtain ⟨s0, s1, s2, s3, s4⟩ := meet_in.mp hs
  have m1 := mx_is u.2.1 v.2.1
  have m2 := mn_is x.2.2 y.2.2
  rw [apart_iff]
  rcases h with h | h
  · rcases (apart_iff _ _).mp h with ⟨e, k⟩ | k
    · exact .inl ⟨r1.trans (e.trans s1.symm), by omega⟩
    · exact .inr (by rw [r1, s1]; exact k)
  · rcases (apart_iff _ _).mp h with ⟨e, k⟩ | k
    · exact .inl ⟨r1.trans (r0.trans (e.trans (s0.symm.trans s1.symm))), by omega⟩
    · exact .inr (by rw [r1, s1, r0, s0]; exact k)
theorem has_one {r : Rn} {l : List Rn} {s : Str} {n : Int} (h : r ∈ l) (k : r.1 = s ∧ r.2.1 ≤ n ∧ n < r.2.2) : has l s n := ⟨r, h, k⟩
theorem meet_has (x y : Rn) (s : Str) (n : Int) : has (meet x y) s n ↔ (x.1 = s ∧ x.2.1 ≤ n ∧ n < x.2.2) ∧ (y.1 = s ∧ y.2.1 ≤ n ∧ n < y.2.2) := by
  have m1 := mx_is x.2.1 y.2.1
  have m2 := mn_is x.2.2 y.2.2
  constructor
  · rintro ⟨r, h, k1, k2, k3⟩
    obtain ⟨r0, r1, r2, r3, r4⟩ := meet_in.mp h
    exact ⟨⟨r1.symm.trans k1, by omega, by omega⟩, ⟨r0.symm.trans (r1.symm.trans k1), by omega, by omega⟩⟩
  · rintro ⟨⟨k1, k2, k3⟩, ⟨j1, j2, j3⟩⟩
    exact ⟨(x.1, mx x.2.1 y.2.1, mn x.2.2 y.2.2), meet_in.mpr ⟨k1.trans j1.symm, rfl, rfl, rfl, by show mx _ _ < mn _ _; omega⟩, k1, by show mx _ _ ≤ n; omega, by show n < mn _ _; omega⟩
theorem both_ok : ∀ (a b : List Rn), Canon a → Canon b → Canon (bothL a b) ∧ ∀ s n, has (bothL a b) s n ↔ has a s n ∧ has b s n
  | [], b, _, _ => by
    rw [both_nil]
    exact ⟨canon_nil, fun s n => ⟨fun h => (has_nil _ _ h).elim, fun h => (has_nil _ _ h.1).elim⟩⟩
  | x :: a, [], _, _ => by
    rw [both_nil2]
    exact ⟨canon_nil, fun s n => ⟨fun h => (has_nil _ _ h).elim, fun h => (has_nil _ _ h.2).elim⟩⟩
  | x :: a, y :: b, ha, hb => by
    rw [both_cons]
    by_cases c : lexLe x.1 x.2.2 y.1 y.2.2 = true
    · rw [if_pos c]
      obtain ⟨i1, i2⟩ := both_ok a (y :: b) ha.tail hb
      rw [lexLe_iff] at c
      refine ⟨⟨List.pairwise_append.mpr ⟨?_, i1.1, fun r hr t ht => ?_⟩, fun r hr => ?_⟩, fun s n => ?_⟩
      · unfold meet
        split
        · exact List.pairwise_singleton _ _
        · exact .nil
      · obtain ⟨u, hu, v, hv, z⟩ := both_in _ _ _ ht
        exact meet_apart hr z (.inl ((List.pairwise_cons.mp ha.1).1 u hu))
      · rcases List.mem_append.mp hr with hr | hr
        · exact (meet_in.mp hr).2.2.2.2
        · exact i1.2 r hr
      · rw [has_app, i2, meet_has, has_cons x a, has_cons y b]
        constructor
        · rintro (⟨h1, h2⟩ | ⟨h1, h2⟩)
          · exact ⟨.inl h1, .inl h2⟩
          · exact ⟨.inr h1, h2⟩
        · rintro ⟨h1 | h1, h2⟩
          · rcases h2 with h2 | h2
            · exact .inl ⟨h1, h2⟩
            · exfalso
              rcases canon_first hb h2 with ⟨e, k⟩ | k
              · rcases c with c | ⟨c1, c2⟩
                · rw [h1.1, e] at c
                  exact sl_irr _ c
                · omega
              · rcases c with c | ⟨c1, c2⟩
                · exact sl_as c (h1.1 ▸ k)
                · rw [← c1, h1.1] at k
                  exact sl_irr _ k
          · exact .inr ⟨h1, h2⟩
    · rw [if_neg c]
      obtain ⟨i1, i2⟩ := both_ok (x :: a) b ha hb.tail
      have c := lexLe_not c
      refine ⟨⟨List.pairwise_append.mpr ⟨?_, i1.1, fun r hr t ht => ?_⟩, fun r hr => ?_⟩, fun s n => ?_⟩
      · unfold meet
        split
        · exact List.pairwise_singleton _ _
        · exact .nil
      · obtain ⟨u, hu, v, hv, z⟩ := both_in _ _ _ ht
        exact meet_apart hr z (.inr ((List.pairwise_cons.mp hb.1).1 v hv))
      · rcases List.mem_append.mp hr with hr | hr
        · exact (meet_in.mp hr).2.2.2.2
        · exact i1.2 r hr
      · rw [has_app, i2, meet_has, has_cons x a, has_cons y b]
        constructor
        · rintro (⟨h1, h2⟩ | ⟨h1, h2⟩)
          · exact ⟨.inl h1, .inl h2⟩
          · exact ⟨h1, .inr h2⟩
        · rintro ⟨h1, h2 | h2⟩
          · rcases h1 with h1 | h1
            · exact .inl ⟨h1, h2⟩
            · exfalso
              rcases canon_first ha h1 with ⟨e, k⟩ | k
              · rcases c with c | ⟨c1, c2⟩
                · rw [h2.1, e] at c
                  exact sl_irr _ c
                · omega
              · rcases c with c | ⟨c1, c2⟩
                · exact sl_as c (h2.1 ▸ k)
                · rw [c1, h2.1] at k
                  exact sl_irr _ k
          · exact .inr ⟨h1, h2⟩
termination_by a b => a.length + b.length
/-! less -/
def tailL (s : Str) (lo hi : Int) : List Rn := if lo < hi then [(s, lo, hi)] else []
def leftL (s : Str) (hi : Int) : Int → List Rn → List Rn
  | lo, [] => tailL s lo hi
  | lo, o :: os => if o.1 = s ∧ o.2.1 < hi then tailL s lo o.2.1 ++ leftL s hi o.2.2 os else tailL s lo hi
def skipL (s : Str) (lo : Int) (b : List Rn) : List Rn := b.dropWhile fun o => lexLe o.1 o.2.2 s lo
def lessL : List Rn → List Rn → List Rn
  | [], _ => []
  | x :: a, b => leftL x.1 x.2.2 x.2.1 (skipL x.1 x.2.1 b) ++ lessL a (skipL x.1 x.2.1 b)
theorem tail_in {s : Str} {lo hi : Int} {r : Rn} : r ∈ tailL s lo hi ↔ r = (s, lo, hi) ∧ lo < hi := by
  unfold tailL
  split
  · rename_i h
    rw [List.mem_singleton]
    exact ⟨fun z => ⟨z, h⟩, fun z => z.1⟩
  · rename_i h
    exact ⟨fun z => (nomatch z), fun z => (h z.2).elim⟩
theorem tail_has (s : Str) (lo hi : Int) (t : Str) (n : Int) : has (tailL s lo hi) t n ↔ t = s ∧ lo ≤ n ∧ n < hi := by
  constructor
  · rintro ⟨r, h, k1, k2, k3⟩
    obtain ⟨rfl, h2⟩ := tail_in.mp h
    exact ⟨k1.symm, k2, k3⟩
  · rintro ⟨rfl, k2, k3⟩
    exact ⟨(t, lo, hi), tail_in.mpr ⟨rfl, by omega⟩, rfl, k2, k3⟩
/-- what stands first isn't all ahead of it -/
def Ahd (s : Str) (lo : Int) (b : List Rn) : Prop := ∀ o os, b = o :: os → sl s o.1 ∨ (o.1 = s ∧ lo < o.2.2)
theorem left_ok : ∀ (b : List Rn) (s : Str) (lo hi : Int), Canon b → Ahd s lo b →
    ((leftL s hi lo b).Pairwise (fun a b => apart a b = true) ∧ ∀ r ∈ leftL s hi lo b, r.1 = s ∧ lo ≤ r.2.1 ∧ r.2.1 < r.2.2 ∧ r.2.2 ≤ hi) ∧ ∀ t n, has (leftL s hi lo b) t n ↔ t = s ∧ lo ≤ n ∧ n < hi ∧ ¬ has b t n
  | [], s, lo, hi, _, _ => by
    refine ⟨⟨?_, fun r hr => ?_⟩, fun t n => ?_⟩
    · show (tailL s lo hi).Pairwise _
      unfold tailL
      split
      · exact List.pairwise_singleton _ _
      · exact .nil
    · obtain ⟨rfl, h⟩ := tail_in.mp hr
      exact ⟨rfl, Int.le_refl _, h, Int.le_refl _⟩
    · show has (tailL s lo hi) t n ↔ _
      rw [tail_has]
      exact ⟨fun ⟨h1, h2, h3⟩ => ⟨h1, h2, h3, has_nil _ _⟩, fun ⟨h1, h2, h3, _⟩ => ⟨h1, h2, h3⟩⟩
  | o :: os, s, lo, hi, hb, hh => by
    have fo := hb.2 o List.mem_cons_self
    unfold leftL
    by_cases c : o.1 = s ∧ o.2.1 < hi
    · rw [if_pos c]
      have lo2 : lo < o.2.2 := by
        rcases hh o os rfl with z | z
        · exact (sl_irr _ (c.1 ▸ z)).elim
        · exact z.2
      obtain ⟨⟨i1, i2⟩, i3⟩ := left_ok os s o.2.2 hi hb.tail (fun p ps e => by
        subst e
        rcases (apart_iff _ _).mp ((List.pairwise_cons.mp hb.1).1 p List.mem_cons_self) with ⟨e, k⟩ | k
        · have := hb.2 p (List.mem_cons_of_mem _ List.mem_cons_self)
          exact .inr ⟨e.symm.trans c.1, by omega⟩
        · exact .inl (c.1 ▸ k))
      refine ⟨⟨List.pairwise_append.mpr ⟨?_, i1, fun x hx y hy => ?_⟩, fun r hr => ?_⟩, fun t n => ?_⟩
      · unfold tailL
        split
        · exact List.pairwise_singleton _ _
        · exact .nil
      · obtain ⟨rfl, h⟩ := tail_in.mp hx
        obtain ⟨j1, j2, j3, j4⟩ := i2 y hy
        rw [apart_iff]
        exact .inl ⟨j1.symm, show o.2.1 < y.2.1 by omega⟩
      · rcases List.mem_append.mp hr with hr | hr
        · obtain ⟨rfl, h⟩ := tail_in.mp hr
          exact ⟨rfl, Int.le_refl _, h, show o.2.1 ≤ hi by omega⟩
        · obtain ⟨j1, j2, j3, j4⟩ := i2 r hr
          exact ⟨j1, by omega, j3, j4⟩
      · rw [has_app, tail_has, i3, has_cons]
        constructor
        · rintro (⟨h1, h2, h3⟩ | ⟨h1, h2, h3, h4⟩)
          · refine ⟨h1, h2, by omega, ?_⟩
            rintro (z | z)
            · omega
            · rcases canon_first hb z with ⟨_, z⟩ | z
              · omega
              · rw [c.1, h1] at z
                exact sl_irr _ z
          · refine ⟨h1, by omega, h3, ?_⟩
            rintro (z | z)
            · omega
            · exact h4 z
        · rintro ⟨h1, h2, h3, h4⟩
          by_cases d : n < o.2.1
          · exact .inl ⟨h1, h2, d⟩
          · refine .inr ⟨h1, ?_, h3, fun z => h4 (.inr z)⟩
            by_cases d2 : n < o.2.2
            · exact (h4 (.inl ⟨c.1.trans h1.symm, by omega, d2⟩)).elim
            · omega
    · rw [if_neg c]
      refine ⟨⟨?_, fun r hr => ?_⟩, fun t n => ?_⟩
      · unfold tailL
        split
        · exact List.pairwise_singleton _ _
        · exact .nil
      · obtain ⟨rfl, h⟩ := tail_in.mp hr
        exact ⟨rfl, Int.le_refl _, h, Int.le_refl _⟩
      · rw [tail_has]
        refine ⟨fun ⟨h1, h2, h3⟩ => ⟨h1, h2, h3, fun z => ?_⟩, fun ⟨h1, h2, h3, _⟩ => ⟨h1, h2, h3⟩⟩
        subst h1
        rcases hh o os rfl with k | ⟨k1, k2⟩
        · rcases (has_cons _ _ _ _).mp z with z | z
          · rw [z.1] at k
            exact sl_irr _ k
          · rcases canon_first hb z with ⟨e, _⟩ | z
            · rw [e] at k
              exact sl_irr _ k
            · exact sl_as k z
        · have k3 : hi ≤ o.2.1 := Int.not_lt.mp fun z => c ⟨k1, z⟩
          rcases (has_cons _ _ _ _).mp z with z | z
          · omega
          · rcases canon_first hb z with ⟨_, z⟩ | z
            · omega
            · rw [k1] at z
              exact sl_irr _ z
theorem canon_drop {b : List Rn} (h : Canon b) (f : Rn → Bool) : Canon (b.dropWhile f) := by
  have z := List.dropWhile_suffix f (l := b)
  exact ⟨h.1.sublist z.sublist, fun r hr => h.2 r (z.subset hr)⟩
theorem skip_ahd (s : Str) (lo : Int) (b : List Rn) : Ahd s lo (skipL s lo b) := fun o os e => by
  have z := List.head?_dropWhile_not (fun o : Rn => lexLe o.1 o.2.2 s lo) b
  unfold skipL at e
  rw [e] at z
  have z : lexLe o.1 o.2.2 s lo = false := z
  exact lexLe_not (by rw [z]; decide)
theorem skip_has : ∀ (b : List Rn) (s : Str) (lo : Int) (t : Str) (n : Int), ((t = s ∧ lo ≤ n) ∨ sl s t) → (has (skipL s lo b) t n ↔ has b t n)
  | [], _, _, _, _, _ => Iff.rfl
  | o :: b, s, lo, t, n, h => by
    unfold skipL
    rw [List.dropWhile_cons]
    split
    · rename_i c
      rw [lexLe_iff] at c
      refine (skip_has b s lo t n h).trans ?_
      rw [has_cons]
      refine ⟨.inr, ?_⟩
      rintro (⟨k1, k2, k3⟩ | k)
      · exfalso
        rcases c with c | ⟨c1, c2⟩ <;> rcases h with ⟨h1, h2⟩ | h
        · rw [k1, h1] at c
          exact sl_irr _ c
        · exact sl_as (k1 ▸ c) h
        · omega
        · rw [← c1, k1] at h
          exact sl_irr _ h
      · exact k
    · exact Iff.rfl
theorem less_ok : ∀ (a b : List Rn), Canon a → Canon b → Canon (lessL a b) ∧ (∀ r ∈ lessL a b, ∃ u ∈ a, r.1 = u.1 ∧ u.2.1 ≤ r.2.1 ∧ r.2.2 ≤ u.2.2) ∧ ∀ s n, has (lessL a b) s n ↔ has a s n ∧ ¬ has b s n
  | [], b, _, _ => ⟨canon_nil, fun _ h => (nomatch h), fun s n => ⟨fun h => (has_nil _ _ h).elim, fun h => (has_nil _ _ h.1).elim⟩⟩
  | x :: a, b, ha, hb => by
    unfold lessL
    have hb2 : Canon (skipL x.1 x.2.1 b) := canon_drop hb _
    obtain ⟨⟨l1, l2⟩, l3⟩ := left_ok (skipL x.1 x.2.1 b) x.1 x.2.1 x.2.2 hb2 (skip_ahd _ _ _)
    obtain ⟨i1, i2, i3⟩ := less_ok a (skipL x.1 x.2.1 b) ha.tail hb2
    have fx := ha.2 x List.mem_cons_self
    refine ⟨⟨List.pairwise_append.mpr ⟨l1, i1.1, fun r hr t ht => ?_⟩, fun r hr => ?_⟩, fun r hr => ?_, fun s n => ?_⟩
    · obtain ⟨j1, j2, j3, j4⟩ := l2 r hr
      obtain ⟨u, hu, k1, k2, k3⟩ := i2 t ht
      rw [apart_iff]
      rcases (apart_iff _ _).mp ((List.pairwise_cons.mp ha.1).1 u hu) with ⟨e, k⟩ | k
      · exact .inl ⟨j1.trans (e.trans k1.symm), by omega⟩
      · exact .inr (by rw [j1, k1]; exact k)
    · rcases List.mem_append.mp hr with hr | hr
      · exact (l2 r hr).2.2.1
      · exact i1.2 r hr
    · rcases List.mem_append.mp hr with hr | hr
      · obtain ⟨j1, j2, j3, j4⟩ := l2 r hr
        exact ⟨x, List.mem_cons_self, j1, j2, j4⟩
      · obtain ⟨u, hu, k⟩ := i2 r hr
        exact ⟨u, List.mem_cons_of_mem _ hu, k⟩
    · rw [has_app, l3, i3, has_cons]
      constructor
      · rintro (⟨h1, h2, h3, h4⟩ | ⟨h1, h2⟩)
        · subst h1
          exact ⟨.inl ⟨rfl, h2, h3⟩, fun z => h4 ((skip_has b _ _ _ _ (.inl ⟨rfl, h2⟩)).mpr z)⟩
        · refine ⟨.inr h1, fun z => h2 ((skip_has b _ _ _ _ ?_).mpr z)⟩
          rcases canon_first ha h1 with ⟨e, k⟩ | k
          · exact .inl ⟨e.symm, by omega⟩
          · exact .inr k
      · rintro ⟨⟨k1, k2, k3⟩ | h1, h2⟩
        · refine .inl ⟨k1.symm, k2, k3, fun z => h2 ((skip_has b _ _ _ _ (.inl ⟨k1.symm, k2⟩)).mp z)⟩
        · refine .inr ⟨h1, fun z => h2 ((skip_has b _ _ _ _ ?_).mp z)⟩
          rcases canon_first ha h1 with ⟨e, k⟩ | k
          · exact .inl ⟨e.symm, by omega⟩
          · exact .inr k
/-! ### rules and promises of together, both, less -/
def rLeP (K : PySem.W.Frag) : R2 := fun x y H Q => ∃ (a b : Addr) (s t : Str) (i j : Int), x = .ref a ∧ y = .ref b ∧ SqT K H a [.str s, .int i] ∧ SqT K H b [.str t, .int j] ∧ Q (.bl (lexLe s i t j)) H
theorem op_leP {X : Cx} {k : Nat} (hr : Room k X.A) : OpR X (compareOp .LtE) (rLeP X.K) := by
  intro pins s σ H x y v u Q I rx ry h
  obtain ⟨a, b, p, q, i, j, rfl, rfl, ha, hb, q'⟩ := h
  have un := hr.un
  obtain ⟨as, r1⟩ := Dp.reads I (.tuple [.str p, .int i]) (.ref a) _ (.tup ha (.cons (.str _) (.cons (.int _) .nil))) rx
  obtain ⟨bs, r2⟩ := Dp.reads I (.tuple [.str q, .int j]) (.ref b) _ (.tup hb (.cons (.str _) (.cons (.int _) .nil))) ry
  refine PySem.W.le_data r1 r2 (by simp [PySem.W.alike, PySem.W.alikeAll]) nofun ?_ ⟨.bl _, H, I, rfl, q'⟩
  simp only [PyData.depth, PyData.depthAll]
  omega
/-- runs in a tuple -/
def TpAt (K : PySem.W.Frag) (H : Hp) (t : Addr) (rs : List Rn) : Prop := ∃ qs : List Addr, SqT K H t (qs.map V.ref) ∧ Prd H qs rs
theorem TpAt.same {K : PySem.W.Frag} {H H' : Hp} {t : Addr} {rs : List Rn} (s : Same H H') (h : TpAt K H t rs) : TpAt K H' t rs := by
  obtain ⟨qs, h1, h2⟩ := h
  exact ⟨qs, SqT.sm s h1, Prd.same s h2⟩
theorem TpAt.of {K : PySem.W.Frag} {H : Hp} {t : Addr} {qs : List Addr} {rs : List Rn} (h : H t = some (.tup (qs.map V.ref))) (k : Prd H qs rs) : TpAt K H t rs := ⟨qs, SqT.of h, k⟩
theorem TpAt.dp {K : PySem.W.Frag} {H : Hp} {t : Addr} {rs : List Rn} (h : TpAt K H t rs) : Dp K H (.ref t) (rnsD rs) := by
  obtain ⟨qs, h1, h2⟩ := h
  exact .tup h1 (Prd.dp h2)
/-- a def of two RUNS that tells RUNS -/
def spTwo (K : PySem.W.Frag) (F : List Rn → List Rn → List Rn) : Sp := fun vs H Q _ => ∃ (a b : Addr) (rs ts : List Rn), vs = [.ref a, .ref b] ∧ TpAt K H a rs ∧ TpAt K H b ts ∧ rs.length ≤ 3000 ∧ ts.length ≤ 3000 ∧
  ∀ (t : Addr) (qs : List Addr) (H' : Hp), Same H H' → H t = none → H' t = some (.tup (qs.map V.ref)) → Prd H' qs (F rs ts) → Q (.ref t) H'
def togL (a b : List Rn) : List Rn := runsOf (a ++ b)
def spLeft (K : PySem.W.Frag) : Sp := fun vs H Q _ => ∃ (x b : Addr) (k : Nat) (r : Rn) (ts : List Rn), vs = [.ref x, .ref b, .int k] ∧ H x = some (.tup (rnV r)) ∧ TpAt K H b ts ∧ ts.length ≤ 3000 ∧ k ≤ ts.length ∧
  ∀ (t : Addr) (qs : List Addr) (H' : Hp), Same H H' → H t = none → H' t = some (.lst (qs.map V.ref)) → Prd H' qs (leftL r.1 r.2.2 r.2.1 (ts.drop k)) → Q (.ref t) H'
theorem left_len (s : Str) (hi : Int) : ∀ (b : List Rn) (lo : Int), (leftL s hi lo b).length ≤ b.length + 1
  | [], lo => by
    show (tailL s lo hi).length ≤ 1
    unfold tailL
    split
    · exact Nat.le_refl 1
    · exact Nat.zero_le 1
  | o :: b, lo => by
    unfold leftL
    have t1 : ∀ x y : Int, (tailL s x y).length ≤ 1 := fun x y => by
      unfold tailL
      split
      · exact Nat.le_refl 1
      · exact Nat.zero_le 1
    split
    · have z := left_len s hi b o.2.2
      have y := t1 lo o.2.1
      rw [List.length_append, List.length_cons]
      omega
    · have y := t1 lo hi
      rw [List.length_cons]
      omega
theorem drop_at {α : Type} {l : List α} {k : Nat} {x : α} (h : l[k]? = some x) : l.drop k = x :: l.drop (k + 1) := by
  obtain ⟨hk, e⟩ := List.getElem?_eq_some_iff.mp h
  rw [List.drop_eq_getElem_cons hk, e]
theorem drop_end {α : Type} {l : List α} {k : Nat} (h : l.length ≤ k) : l.drop k = [] := List.drop_eq_nil_of_le h
/-- the run at place k of RUNS -/
theorem tp_at {H : Hp} {qs : List Addr} {rs : List Rn} (h : Prd H qs rs) {k : Nat} (hk : k < rs.length) : ∃ p r, atI (qs.map V.ref) (k : Int) = some (.ref p) ∧ rs[k]? = some r ∧ H p = some (.tup (rnV r)) := by
  have hk2 : k < qs.length := by rw [h.len]; exact hk
  obtain ⟨r, h1, h2⟩ := Prd.get h (List.getElem?_eq_getElem hk2)
  exact ⟨qs[k], r, atI_nat (by rw [List.getElem?_map, List.getElem?_eq_getElem hk2]; rfl), h1, h2⟩
def rEqP (K : PySem.W.Frag) (neg : Bool) : R2 := fun x y H Q => ∃ d e, Dp K H x d ∧ Dp K H y e ∧ d.plain = true ∧ e.plain = true ∧ d.depth ≤ 60 ∧ Q (.bl (xor neg (PyData.eqv d e))) H
theorem op_eqP {X : Cx} {k : Nat} (hr : Room k X.A) : OpR X (compareOp .Eq) (rEqP X.K false) := by
  intro pins s σ H x y v u Q I rx ry h
  obtain ⟨d, e, hd, he, p1, p2, dep, q⟩ := h
  have un := hr.un
  obtain ⟨as, r1⟩ := Dp.reads I d x v hd rx
  obtain ⟨bs, r2⟩ := Dp.reads I e y u he ry
  rw [Bool.false_xor] at q
  exact PySem.SeqAt.eq_plain r1 r2 p1 p2 (by omega) ⟨.bl _, H, I, rfl, q⟩
theorem op_neP {X : Cx} {k : Nat} (hr : Room k X.A) : OpR X (compareOp .NotEq) (rEqP X.K true) := by
  intro pins s σ H x y v u Q I rx ry h
  obtain ⟨d, e, hd, he, p1, p2, dep, q⟩ := h
  have un := hr.un
  obtain ⟨as, r1⟩ := Dp.reads I d x v hd rx
  obtain ⟨bs, r2⟩ := Dp.reads I e y u he ry
  rw [Bool.true_xor] at q
  exact PySem.SeqAt.ne_plain r1 r2 p1 p2 (by omega) ⟨.bl _, H, I, rfl, q⟩
theorem rns_plain (rs : List Rn) : (rnsD rs).plain = true := by
  have all : ∀ l : List Rn, PyData.plainAll (l.map rnD) = true := fun l => by
    induction l with
    | nil => rfl
    | cons r l ih =>
      rw [List.map_cons]
      simp only [PyData.plainAll, ih, rnD, PyData.plain, Bool.and_self]
  exact all rs
theorem rns_eqv : ∀ a b : List Rn, PyData.eqv (rnsD a) (rnsD b) = decide (a = b)
  | [], [] => rfl
  | [], y :: b => by simp [rnsD, PyData.eqv, PyData.eqvAll]
  | x :: a, [] => by simp [rnsD, PyData.eqv, PyData.eqvAll]
  | x :: a, y :: b => by
    have ih := rns_eqv a b
    have e : PyData.eqv (rnsD (x :: a)) (rnsD (y :: b)) = (PyData.eqv (rnD x) (rnD y) && PyData.eqv (rnsD a) (rnsD b)) := by
      unfold rnsD
      rw [List.map_cons, List.map_cons]
      simp only [PyData.eqv, PyData.eqvAll]
    have e2 : PyData.eqv (rnD x) (rnD y) = decide (x = y) := by
      obtain ⟨x1, x2, x3⟩ := x
      obtain ⟨y1, y2, y3⟩ := y
      rw [Bool.eq_iff_iff]
      simp [rnD, PyData.eqv, PyData.eqvAll]
    rw [e, ih, e2, Bool.eq_iff_iff]
    simp
theorem rnsD_depth (rs : List Rn) : (rnsD rs).depth ≤ 60 := by
  have z := rns_depth rs
  simp only [rnsD, PyData.depth]
  omega
theorem both_len : ∀ a b : List Rn, (bothL a b).length ≤ a.length + b.length
  | [], b => by rw [both_nil]; exact Nat.zero_le _
  | x :: a, [] => by rw [both_nil2]; exact Nat.zero_le _
  | x :: a, y :: b => by
    rw [both_cons, List.length_append]
    have m : (meet x y).length ≤ 1 := by
      unfold meet
      split
      · exact Nat.le_refl 1
      · exact Nat.zero_le 1
    split
    · have z := both_len a (y :: b)
      rw [List.length_cons (as := b)] at z
      rw [List.length_cons, List.length_cons]
      omega
    · have z := both_len (x :: a) b
      rw [List.length_cons (as := a)] at z
      rw [List.length_cons, List.length_cons]
      omega
termination_by a b => a.length + b.length
theorem skip_len (s : Str) (lo : Int) (b : List Rn) : (skipL s lo b).length ≤ b.length := (List.dropWhile_suffix _).sublist.length_le
/-- pieces left of all: no more than runs of both -/
theorem less_len : ∀ a b : List Rn, (lessL a b).length ≤ (a.length) * (b.length + 1)
  | [], b => Nat.zero_le _
  | x :: a, b => by
    unfold lessL
    have z1 := left_len x.1 x.2.2 (skipL x.1 x.2.1 b) x.2.1
    have z2 := less_len a (skipL x.1 x.2.1 b)
    have z3 := skip_len x.1 x.2.1 b
    have z4 : a.length * ((skipL x.1 x.2.1 b).length + 1) ≤ a.length * (b.length + 1) := Nat.mul_le_mul (Nat.le_refl _) (by omega)
    rw [List.length_append, List.length_cons, Nat.succ_mul]
    omega
def spWithin (K : PySem.W.Frag) : Sp := fun vs H Q _ => ∃ (a b : Addr) (rs ts : List Rn), vs = [.ref a, .ref b] ∧ TpAt K H a rs ∧ TpAt K H b ts ∧ rs.length ≤ 3000 ∧ ts.length ≤ 3000 ∧
  ∀ H', Same H H' → Q (.bl (decide (lessL rs ts = []))) H'
def ofL (s : Str) (rs : List Rn) : List Rn := rs.filter fun r => decide (r.1 = s)
def spOfs (K : PySem.W.Frag) : Sp := fun vs H Q _ => ∃ (a : Addr) (s : Str) (rs : List Rn), vs = [.ref a, .str s] ∧ TpAt K H a rs ∧ rs.length ≤ 3000 ∧
  ∀ (t : Addr) (qs : List Addr) (H' : Hp), Same H H' → H t = none → H' t = some (.tup (qs.map V.ref)) → Prd H' qs (ofL s rs) → Q (.ref t) H'
/-! ### the three of k04 -/
def rTupOf (K : PySem.W.Frag) : List V → Hp → VK → Prop := fun xs H Q => ∃ p ys, xs = [V.ref p] ∧ ((SqL K H p ys ∧ ∀ l, H l = none → Q (V.ref l) (upd H l (.tup ys))) ∨ SqT K H p ys ∧ Q (V.ref p) H)
def Pq (rs ts : List Rn) (q : Nat) (s : Str) (n : Int) : Bool := if q = 0 then hasB rs s n || hasB ts s n else if q = 1 then hasB rs s n && hasB ts s n else hasB rs s n && !hasB ts s n
def dueL (rs ts : List Rn) (q : Nat) : List Rn := if q = 0 then togL rs ts else if q = 1 then bothL rs ts else lessL rs ts
/-- t + u, whichever tuple that is -/
def rCatU (K : PySem.W.Frag) : R2 := fun x y H Q => ∃ a b xs ys, x = .ref a ∧ y = .ref b ∧ SqT K H a xs ∧ SqT K H b ys ∧ xs.length + ys.length ≤ sizeLine ∧ ∀ W H', Same H H' → SqT K H' W (xs ++ ys) → Q (.ref W) H'
theorem op_catU {X : Cx} : OpR X (binaryOp .Add) (rCatU X.K) := by
  intro pins s σ H x y v u Q I rx ry h
  obtain ⟨a, b, xs, ys, rfl, rfl, ha, hb, hl, q⟩ := h
  refine op_catA pins s σ H _ _ v u Q I rx ry ⟨a, b, xs, ys, rfl, rfl, ha, hb, hl, fun e => ?_, fun _ e => ?_, fun _ _ p hp => ?_⟩
  · subst e
    exact q b H (Same.refl _) hb
  · subst e
    exact q a H (Same.refl _) (by rw [List.append_nil]; exact ha)
  · exact q p _ (same_new hp _) (SqT.of upd_same)
theorem three_made {rs ts : List Rn} {ns : List Str} {cs : List Int} (hr : Canon rs) (ht : Canon ts) (h1 : Ends rs ns cs) (h2 : Ends ts ns cs) (hn : ns.Pairwise sl) (hc : cs.Pairwise (· < ·)) (q : Nat) : mades (Pq rs ts q) ns cs = dueL rs ts q := by
  obtain ⟨y1, y2⟩ := mades_ok (P := Pq rs ts q) hn hc (fun s p n k1 k2 k3 => by
    unfold Pq
    rw [hasB_flat h1 hc k1 k2 k3, hasB_flat h2 hc k1 k2 k3]) (fun s n h => by
    unfold Pq at h
    split at h
    · rcases Bool.or_eq_true_iff.mp h with h | h
      · exact hasB_only h1 hc h
      · exact hasB_only h2 hc h
    · split at h
      · exact hasB_only h1 hc (Bool.and_eq_true_iff.mp h).1
      · exact hasB_only h1 hc (Bool.and_eq_true_iff.mp h).1)
  unfold dueL
  unfold Pq at y1 y2 ⊢
  split
  · rename_i e
    simp only [if_pos e] at y1 y2 ⊢
    have full : Full (rs ++ ts) := fun r hr' => by
      rcases List.mem_append.mp hr' with z | z
      · exact hr.2 r z
      · exact ht.2 r z
    exact (runsOf_eq full y1 fun s n => by rw [y2, has_app, Bool.or_eq_true, hasB_iff, hasB_iff]).symm
  · rename_i e
    simp only [if_neg e] at y1 y2 ⊢
    split
    · rename_i e2
      simp only [if_pos e2] at y1 y2 ⊢
      obtain ⟨b1, b2⟩ := both_ok rs ts hr ht
      exact canon_uniq y1 b1 fun s n => by rw [y2, b2, Bool.and_eq_true, hasB_iff, hasB_iff]
    · rename_i e2
      simp only [if_neg e2] at y1 y2 ⊢
      obtain ⟨b1, _, b2⟩ := less_ok rs ts hr ht
      refine canon_uniq y1 b1 fun s n => ?_
      rw [y2, b2, Bool.and_eq_true, hasB_iff, Bool.not_eq_true', ← Bool.not_eq_true, hasB_iff]
theorem ends_of2 {rs : List Rn} {ns : List Str} {cs : List Int} (h1 : ∀ s, s ∈ ns ↔ s ∈ rs.map (·.1)) (h2 : ∀ i, i ∈ cs ↔ i ∈ rs.map (·.2.1) ++ rs.map (·.2.2)) : Ends rs ns cs := fun r hr => by
  refine ⟨(h1 _).mpr (List.mem_map.mpr ⟨r, hr, rfl⟩), (h2 _).mpr ?_, (h2 _).mpr ?_⟩
  · exact List.mem_append_left _ (List.mem_map.mpr ⟨r, hr, rfl⟩)
  · exact List.mem_append_right _ (List.mem_map.mpr ⟨r, hr, rfl⟩)
theorem Ends.left {a b : List Rn} {ns : List Str} {cs : List Int} (h : Ends (a ++ b) ns cs) : Ends a ns cs := fun r hr => h r (List.mem_append_left _ hr)
theorem Ends.right {a b : List Rn} {ns : List Str} {cs : List Int} (h : Ends (a ++ b) ns cs) : Ends b ns cs := fun r hr => h r (List.mem_append_right _ hr)
/-- what stands in part q when j pieces of the i-th series are looked at -/
def stL (rs ts : List Rn) (ss : List Str) (cs : List Int) (q i j : Nat) (s : Str) : List Rn := (((ss.take i).flatMap fun s => goods (Pq rs ts q) s (pcs cs)) ++ goods (Pq rs ts q) s ((pcs cs).take j)).foldl join []
def spThree (K : PySem.W.Frag) : Sp := fun vs H Q _ => ∃ (a b : Addr) (rs ts : List Rn), vs = [.ref a, .ref b] ∧ TpAt K H a rs ∧ TpAt K H b ts ∧ Canon rs ∧ Canon ts ∧ rs.length ≤ 1000 ∧ ts.length ≤ 1000 ∧
  ∀ (D t0 t1 t2 : Addr) (H' : Hp), Same H H' → H D = none → H' D = some (.lst [.ref t0, .ref t1, .ref t2]) → TpAt K H' t0 (togL rs ts) → TpAt K H' t1 (bothL rs ts) → TpAt K H' t2 (lessL rs ts) → Q (.ref D) H'
/-- good RUNS in a tuple -/
structure Rg (K : PySem.W.Frag) (H : Hp) (t : Addr) (rs : List Rn) (n : Nat) : Prop where
  tp : TpAt K H t rs
  ca : Canon rs
  len : rs.length ≤ n
  ok : ∀ r ∈ rs, RnOk r ∧ NmOk r.1
theorem Rg.same {K : PySem.W.Frag} {H H' : Hp} {t : Addr} {rs : List Rn} {n : Nat} (s : Same H H') (h : Rg K H t rs n) : Rg K H' t rs n := ⟨h.tp.same s, h.ca, h.len, h.ok⟩
theorem Rg.mono {K : PySem.W.Frag} {H : Hp} {t : Addr} {rs : List Rn} {n m : Nat} (h : Rg K H t rs n) (l : n ≤ m) : Rg K H t rs m := ⟨h.tp, h.ca, Nat.le_trans h.len l, h.ok⟩
theorem push_all {acc : List Rn} {r : Rn} (h : ∀ x ∈ acc, RnOk x ∧ NmOk x.1) (hr : RnOk r ∧ NmOk r.1) : ∀ x ∈ push acc r, RnOk x ∧ NmOk x.1 := by
  rcases nil_or_snoc acc with rfl | ⟨i, l, rfl⟩
  · intro x hx
    rw [List.mem_singleton.mp (show x ∈ [r] from hx)]
    exact hr
  · rw [push_snoc]
    split
    · intro x hx
      rcases List.mem_append.mp hx with hx | hx
      · exact h x hx
      · rw [List.mem_singleton.mp hx]
        exact hr
    · intro x hx
      rcases List.mem_append.mp hx with hx | hx
      · exact h x (List.mem_append_left _ hx)
      · rw [List.mem_singleton.mp hx]
        obtain ⟨⟨a1, a2, a3⟩, a4⟩ := h l (List.mem_append_right _ List.mem_cons_self)
        obtain ⟨⟨b1, b2, b3⟩, b4⟩ := hr
        refine ⟨⟨a1, ?_, ?_⟩, a4⟩
        · show l.2.1 < if r.2.2 > l.2.2 then r.2.2 else l.2.2
          split <;> omega
        · show (if r.2.2 > l.2.2 then r.2.2 else l.2.2) ≤ _
          split <;> omega
theorem runsOf_all {rs : List Rn} (h : ∀ x ∈ rs, RnOk x ∧ NmOk x.1) : ∀ x ∈ runsOf rs, RnOk x ∧ NmOk x.1 := by
  have all : ∀ (l acc : List Rn), (∀ x ∈ l, RnOk x ∧ NmOk x.1) → (∀ x ∈ acc, RnOk x ∧ NmOk x.1) → ∀ x ∈ l.foldl push acc, RnOk x ∧ NmOk x.1 := fun l => by
    induction l with
    | nil => exact fun _ _ h => h
    | cons r l ih => exact fun acc h1 h2 => ih _ (fun x hx => h1 x (List.mem_cons_of_mem _ hx)) (push_all h2 (h1 r List.mem_cons_self))
  exact all _ [] (fun x hx => h x (List.mem_mergeSort.mp hx)) fun _ h => nomatch h
theorem both_all {a b : List Rn} (ha : ∀ x ∈ a, RnOk x ∧ NmOk x.1) (hb : ∀ x ∈ b, RnOk x ∧ NmOk x.1) : ∀ x ∈ bothL a b, RnOk x ∧ NmOk x.1 := fun x hx => by
  obtain ⟨u, hu, v, hv, z⟩ := both_in a b x hx
  obtain ⟨r0, r1, r2, r3, r4⟩ := meet_in.mp z
  obtain ⟨⟨a1, a2, a3⟩, a4⟩ := ha u hu
  obtain ⟨⟨b1, b2, b3⟩, _⟩ := hb v hv
  have m1 := mx_is u.2.1 v.2.1
  have m2 := mn_is u.2.2 v.2.2
  exact ⟨⟨by omega, r4, by omega⟩, r1 ▸ a4⟩
theorem less_all {a b : List Rn} (ca : Canon a) (cb : Canon b) (ha : ∀ x ∈ a, RnOk x ∧ NmOk x.1) : ∀ x ∈ lessL a b, RnOk x ∧ NmOk x.1 := fun x hx => by
  obtain ⟨z1, z2, _⟩ := less_ok a b ca cb
  obtain ⟨u, hu, k1, k2, k3⟩ := z2 x hx
  obtain ⟨⟨a1, a2, a3⟩, a4⟩ := ha u hu
  exact ⟨⟨by omega, z1.2 x hx, by omega⟩, k1 ▸ a4⟩
/-- less has no more runs than both together -/
theorem left_len2 (s : Str) (hi : Int) : ∀ (b : List Rn) (lo : Int), ∃ k, k ≤ b.length ∧ (leftL s hi lo b).length ≤ k + 1 := fun b lo => ⟨b.length, Nat.le_refl _, left_len s hi b lo⟩
def spRight3 (K : PySem.W.Frag) : Sp := fun vs H Q _ => ∃ (a b : Addr) (rs ts : List Rn), vs = [.ref a, .ref b] ∧ Rg K H a rs 1000 ∧ Rg K H b ts 1000 ∧ (lessL rs ts).length ≤ 100000 ∧ ∀ H', Same H H' → Q (.bl true) H'
theorem pair_show {a b : List Rn} (ha : ∀ r ∈ a, RnOk r ∧ NmOk r.1) (hb : ∀ r ∈ b, RnOk r ∧ NmOk r.1) (la : a.length ≤ 1000) (lb : b.length ≤ 1000) :
    (PyData.tuple [rnsD a, rnsD b]).showable = true ∧ (PyData.tuple [rnsD a, rnsD b]).hasDict = false ∧ (PyData.tuple [rnsD a, rnsD b]).depth ≤ 60 ∧ (PyData.tuple [rnsD a, rnsD b]).shown.length ≤ sizeLine := by
  obtain ⟨x1, x2⟩ := rns_fine a ha
  obtain ⟨y1, y2⟩ := rns_fine b hb
  have f : fineD (.tuple [rnsD a, rnsD b]) = true := by
    show (fineAll (a.map rnD) && (fineAll (b.map rnD) && true)) = true
    rw [x1, y1]
    rfl
  have c := shown_cost _ f
  have e : cost (.tuple [rnsD a, rnsD b]) = ((costAll (a.map rnD) + 3) + 2 + ((costAll (b.map rnD) + 3) + 2 + 0)) + 3 := rfl
  have d1 := rns_depth a
  have d2 := rns_depth b
  obtain ⟨s1, s2⟩ := fine_show _ f
  refine ⟨s1, s2, ?_, Nat.le_trans c (Nat.le_trans (show _ ≤ 11000000 by omega) (by decide))⟩
  simp only [rnsD, PyData.depth, PyData.depthAll]
  omega
theorem stL_more {rs ts : List Rn} {ss : List Str} {cs : List Int} {q i j : Nat} {s : Str} {p : Int × Int} (h : (pcs cs)[j]? = some p) : stL rs ts ss cs q i (j + 1) s = if Pq rs ts q s p.1 = true then join (stL rs ts ss cs q i j s) (s, p.1, p.2) else stL rs ts ss cs q i j s := by
  unfold stL
  rw [goods_more h]
  split
  · rw [← List.append_assoc, List.foldl_append]
    rfl
  · rw [List.append_nil]
theorem stL_next {rs ts : List Rn} {ss : List Str} {cs : List Int} {q i : Nat} {s s' : Str} (h : ss[i]? = some s) : stL rs ts ss cs q i (pcs cs).length s = stL rs ts ss cs q (i + 1) 0 s' := by
  obtain ⟨hi, e⟩ := List.getElem?_eq_some_iff.mp h
  unfold stL
  rw [List.take_length, List.take_succ_eq_append_getElem hi, List.flatMap_append, e, List.flatMap_singleton]
  have z : goods (Pq rs ts q) s' ((pcs cs).take 0) = [] := rfl
  rw [z, List.append_nil]
theorem stL_end {rs ts : List Rn} {ss : List Str} {cs : List Int} {q : Nat} {s : Str} : stL rs ts ss cs q ss.length 0 s = mades (Pq rs ts q) ss cs := by
  unfold stL mades
  have z : goods (Pq rs ts q) s ((pcs cs).take 0) = [] := rfl
  rw [List.take_length, z, List.append_nil]
theorem stL_len {rs ts : List Rn} {ss : List Str} {cs : List Int} {q i j : Nat} {s : Str} (h1 : ss.length ≤ 2000) (h2 : cs.length ≤ 4000) : (stL rs ts ss cs q i j s).length < sizeLine := by
  have z0 := fold_join_len (((ss.take i).flatMap fun s => goods (Pq rs ts q) s (pcs cs)) ++ goods (Pq rs ts q) s ((pcs cs).take j)) []
  have z1 := flat_goods_len (P := Pq rs ts q) (pcs cs) (ss.take i)
  have z2 := goods_len (P := Pq rs ts q) (s := s) ((pcs cs).take j)
  have z3 := pcs_len cs
  rw [List.length_take] at z1 z2
  have z4 : min i ss.length * (pcs cs).length ≤ 2000 * 4000 := Nat.mul_le_mul (by omega) (by omega)
  rw [List.length_append, List.length_nil] at z0
  unfold stL
  exact Nat.lt_of_le_of_lt (show _ ≤ 9000000 by omega) (by decide)
def A3 (p0 p1 p2 : Addr) (q : Nat) : Addr := if q = 0 then p0 else if q = 1 then p1 else p2
theorem all3 {T : Nat → Prop} (h0 : T 0) (h1 : T 1) (h2 : T 2) : ∀ q, q < 3 → T q := fun q hq => by
  rcases (show q = 0 ∨ q = 1 ∨ q = 2 by omega) with rfl | rfl | rfl
  · exact h0
  · exact h1
  · exact h2
/-! ### a call of a def that is told that no repr is under way -/
theorem FnG.mono {P : Program} {w : World} {K : PySem.W.Frag} {mg : Str → Option Value} {base : Heap} {j k : Nat} {f : Addr} {fd : FuncData} {ps : List Str} {sp : Sp} (F : FnG P w K mg base j f fd ps sp) (h : j ≤ k) : FnG P w K mg base k f fd ps sp :=
  ⟨F.len, fun A outer s H args us vs Q E room => F.run A outer s H args us vs Q E (room.mono h)⟩
theorem pe_callG {X : Cx} {k : Nat} {f : Addr} {fd : FuncData} {ps : List Str} {sp : Sp} {x : Str} {ds : List Value} {dvs : List V} {E : XK} {e : Expr} {es : List Expr} {t : TA} {p pos : Pos}
    (F : FnG X.prog X.w X.K X.mg X.base k f fd ps sp) (gu : X.A.guards = some []) (room : Room k X.A) (gl : Gl X x) (hm : X.mg x = some (.ref f)) (kp : PySem.W.keepIn X.K (.ref f) = true) (bi : Binds X.K fd ps ds) (hd : Vals dvs ds) (pass : Passes CX0 X E)
    (ha : PA X (e :: es) t) (ndb : (x == ("__debug__" : Str)) = false := by decide) (st : starEach (e :: es) X.env = (false, eval e X.env) :: starEach es X.env := by rfl) (np : (backTo pos (starEach es X.env)).any (·.1) = false := by rfl) :
    PE X (.Call (.Name x p) (e :: es) [] pos) (tCall sp dvs E t) := by
  constructor
  intro pins s σ H Q I wish
  refine wpAny_Call_Name_kw (ld_glob I gl hm ?_ ndb)
  refine PySem.W.callWith_K (h₀ := X.base) I.ok.mod.kin kp (thn (ha.run pos pins s σ H _ I wish) fun us s1 ⟨vs, H1, I1, rel, q⟩ => ⟨I1.kIn, ?_⟩) st np
  have rel2 : Vals (vs ++ dvs) (us ++ ds) := rel.append hd
  have len : (us ++ ds).length = ps.length := rel2.length.symm.trans (F.len _ _ _ _ q)
  refine wpAny_call (codeAny_mono (F.run X.A X.stack s1 H1 ⟨us, []⟩ (us ++ ds) (vs ++ dvs) Q E room gu I1.env0 (bi s1 us I1.kIn len) rel2 q) fun res s2 told => ?_)
  match res, told with
  | .error er, told => exact pass pins σ H1 s1 er s2 I1 told
  | .ok (.ret u), told => exact I1.after told
  | .ok .next, told => exact told.elim
  | .ok .brk, told => exact told.elim
  | .ok .cont, told => exact told.elim
/-! ### what leads where: walks, the going by way of each place, the search by widths -/
abbrev Ed := Str × Str
def Wlk (E : List Ed) : Nat → Str → Str → Prop
  | 0, x, y => x = y
  | n + 1, x, y => ∃ z, Wlk E n x z ∧ (z, y) ∈ E
theorem wlk_app {E : List Ed} {n : Nat} {x z : Str} (h : Wlk E n x z) : ∀ {m : Nat} {y : Str}, Wlk E m z y → Wlk E (n + m) x y
  | 0, _, k => by
    cases (show z = _ from k)
    exact h
  | m + 1, _, ⟨u, k1, k2⟩ => ⟨u, wlk_app h k1, k2⟩
def Least (E : List Ed) (x y : Str) (n : Nat) : Prop := Wlk E n x y ∧ ∀ m, Wlk E m x y → n ≤ m
theorem least_one {E : List Ed} {x y : Str} {n m : Nat} (h : Least E x y n) (k : Least E x y m) : n = m := Nat.le_antisymm (h.2 m k.1) (k.2 n h.1)
abbrev Ap := Str → Str → Option Nat
structure FwOk (E : List Ed) (V : Str → Prop) (S : Str → Prop) (d : Ap) : Prop where
  sound : ∀ x y n, d x y = some n → Wlk E n x y
  refl : ∀ x, V x → d x x = some 0
  edge : ∀ x y, (x, y) ∈ E → ∃ n, d x y = some n ∧ n ≤ 1
  tri : ∀ z, S z → ∀ x y a b, d x z = some a → d z y = some b → ∃ n, d x y = some n ∧ n ≤ a + b
  dom : ∀ x y n, d x y = some n → V x ∧ V y
def fwMin (o : Option Nat) (n : Nat) : Nat := match o with
  | some c => if n < c then n else c
  | none => n
def fwStep (d : Ap) (v : Str) : Ap := fun x y => match d x v, d v y with
  | some a, some b => some (fwMin (d x y) (a + b))
  | _, _ => d x y
theorem fw_val {d : Ap} {v x y : Str} {a b : Nat} (h1 : d x v = some a) (h2 : d v y = some b) : fwStep d v x y = some (fwMin (d x y) (a + b)) := by
  unfold fwStep
  rw [h1, h2]
theorem fw_none {d : Ap} {v x y : Str} (h : d x v = none ∨ d v y = none) : fwStep d v x y = d x y := by
  unfold fwStep
  rcases h with h | h
  · rw [h]
  · rw [h]
    cases d x v <;> rfl
theorem fwMin_le (o : Option Nat) (n : Nat) : fwMin o n ≤ n ∧ (∀ c, o = some c → fwMin o n ≤ c) ∧ (fwMin o n = n ∨ o = some (fwMin o n)) := by
  unfold fwMin
  cases o with
  | none => exact ⟨Nat.le_refl _, fun _ h => (nomatch h), .inl rfl⟩
  | some c =>
    dsimp only
    split
    · exact ⟨Nat.le_refl _, fun c' h => by cases h; omega, .inl rfl⟩
    · exact ⟨by omega, fun c' h => by cases h; omega, .inr rfl⟩
theorem fw_le {d : Ap} {v x y : Str} {c : Nat} (h : d x y = some c) : ∃ n, fwStep d v x y = some n ∧ n ≤ c := by
  cases h1 : d x v with
  | none => exact ⟨c, (fw_none (.inl h1)).trans h, Nat.le_refl _⟩
  | some a =>
    cases h2 : d v y with
    | none => exact ⟨c, (fw_none (.inr h2)).trans h, Nat.le_refl _⟩
    | some b => exact ⟨_, fw_val h1 h2, (fwMin_le _ _).2.1 c h⟩
theorem fw_via {d : Ap} {v x y : Str} {a b : Nat} (h1 : d x v = some a) (h2 : d v y = some b) : ∃ n, fwStep d v x y = some n ∧ n ≤ a + b := ⟨_, fw_val h1 h2, (fwMin_le _ _).1⟩
theorem fw_cases {d : Ap} {v x y : Str} {n : Nat} (h : fwStep d v x y = some n) : d x y = some n ∨ ∃ a b, d x v = some a ∧ d v y = some b ∧ n = a + b := by
  cases h1 : d x v with
  | none => exact .inl ((fw_none (.inl h1)).symm.trans h)
  | some a =>
    cases h2 : d v y with
    | none => exact .inl ((fw_none (.inr h2)).symm.trans h)
    | some b =>
      have e := (fw_val h1 h2).symm.trans h
      have e := Option.some.inj e
      rcases (fwMin_le (d x y) (a + b)).2.2 with z | z
      · exact .inr ⟨a, b, rfl, rfl, e.symm.trans z⟩
      · rw [e] at z
        exact .inl z
theorem fw_ok {E : List Ed} {V S : Str → Prop} {d : Ap} {v : Str} (h : FwOk E V S d) (hv : V v) : FwOk E V (fun z => S z ∨ z = v) (fwStep d v) where
  sound := fun x y n e => by
    rcases fw_cases e with z | ⟨a, b, z1, z2, rfl⟩
    · exact h.sound x y n z
    · exact wlk_app (h.sound _ _ _ z1) (h.sound _ _ _ z2)
  refl := fun x hx => by
    obtain ⟨n, e, l⟩ := fw_le (v := v) (h.refl x hx)
    rw [e, Nat.le_zero.mp l]
  edge := fun x y e => by
    obtain ⟨n, e1, l1⟩ := h.edge x y e
    obtain ⟨m, e2, l2⟩ := fw_le (v := v) e1
    exact ⟨m, e2, by omega⟩
  tri := fun z hz x y a b e1 e2 => by
    have c1 := fw_cases e1
    have c2 := fw_cases e2
    rcases hz with hz | rfl
    · rcases c1 with c1 | ⟨p, q, p1, p2, rfl⟩ <;> rcases c2 with c2 | ⟨r, s, r1, r2, rfl⟩
      · obtain ⟨n, n1, n2⟩ := h.tri z hz x y a b c1 c2
        obtain ⟨m, m1, m2⟩ := fw_le (v := v) n1
        exact ⟨m, m1, by omega⟩
      · obtain ⟨n, n1, n2⟩ := h.tri z hz x v a r c1 r1
        obtain ⟨m, m1, m2⟩ := fw_via n1 r2
        exact ⟨m, m1, by omega⟩
      · obtain ⟨n, n1, n2⟩ := h.tri z hz v y q b p2 c2
        obtain ⟨m, m1, m2⟩ := fw_via p1 n1
        exact ⟨m, m1, by omega⟩
      · obtain ⟨m, m1, m2⟩ := fw_via p1 r2
        exact ⟨m, m1, by omega⟩
    · have d1 : ∃ a', d x z = some a' ∧ a' ≤ a := by
        rcases c1 with c1 | ⟨p, q, p1, p2, rfl⟩
        · exact ⟨a, c1, Nat.le_refl _⟩
        · exact ⟨p, p1, by omega⟩
      have d2 : ∃ b', d z y = some b' ∧ b' ≤ b := by
        rcases c2 with c2 | ⟨p, q, p1, p2, rfl⟩
        · exact ⟨b, c2, Nat.le_refl _⟩
        · exact ⟨q, p2, by omega⟩
      obtain ⟨a', a1, a2⟩ := d1
      obtain ⟨b', b1, b2⟩ := d2
      obtain ⟨m, m1, m2⟩ := fw_via a1 b1
      exact ⟨m, m1, by omega⟩
  dom := fun x y n e => by
    rcases fw_cases e with z | ⟨a, b, z1, z2, rfl⟩
    · exact h.dom x y n z
    · exact ⟨(h.dom _ _ _ z1).1, (h.dom _ _ _ z2).2⟩
theorem fw_end {E : List Ed} {V S : Str → Prop} {d : Ap} (h : FwOk E V S d) (all : ∀ x, V x → S x) {x : Str} (hx : V x) : ∀ {n : Nat} {y : Str}, Wlk E n x y → ∃ m, d x y = some m ∧ m ≤ n
  | 0, _, k => by
    cases (show x = _ from k)
    exact ⟨0, h.refl x hx, Nat.le_refl _⟩
  | n + 1, y, ⟨z, k1, k2⟩ => by
    obtain ⟨m, m1, m2⟩ := fw_end h all hx k1
    obtain ⟨c, c1, c2⟩ := h.edge z y k2
    obtain ⟨r, r1, r2⟩ := h.tri z (all z (h.dom _ _ _ m1).2) x y m c m1 c1
    exact ⟨r, r1, by omega⟩
theorem fw_least {E : List Ed} {V S : Str → Prop} {d : Ap} (h : FwOk E V S d) (all : ∀ x, V x → S x) {x y : Str} {n : Nat} (hx : V x) (e : d x y = some n) : Least E x y n := by
  refine ⟨h.sound x y n e, fun m k => ?_⟩
  obtain ⟨c, c1, c2⟩ := fw_end h all hx k
  rw [e] at c1
  cases c1
  exact c2
/-- a way from x, its places one behind the other, to the last one -/
inductive Pth (E : List Ed) (x : Str) : List Str → Str → Prop
  | one : Pth E x [x] x
  | snoc {p : List Str} {u v : Str} : Pth E x p u → (u, v) ∈ E → Pth E x (p ++ [v]) v
theorem pth_len {E : List Ed} {x : Str} {p : List Str} {v : Str} (h : Pth E x p v) : ∃ n, p.length = n + 1 ∧ Wlk E n x v := by
  induction h with
  | one => exact ⟨0, rfl, rfl⟩
  | snoc k e ih =>
    obtain ⟨n, n1, n2⟩ := ih
    exact ⟨n + 1, by rw [List.length_append, List.length_singleton, n1], _, n2, e⟩
theorem pth_first {E : List Ed} {x : Str} {p : List Str} {v : Str} (h : Pth E x p v) : ∃ q, p = x :: q := by
  induction h with
  | one => exact ⟨[], rfl⟩
  | snoc k e ih =>
    obtain ⟨q, rfl⟩ := ih
    exact ⟨q ++ [_], rfl⟩
theorem pth_last {E : List Ed} {x : Str} {p : List Str} {v : Str} (h : Pth E x p v) : ∃ q, p = q ++ [v] := by
  cases h with
  | one => exact ⟨[], rfl⟩
  | snoc k e => exact ⟨_, rfl⟩
theorem pth_edges {E : List Ed} {x : Str} {p : List Str} {v : Str} (h : Pth E x p v) : ∀ k a b, p[k]? = some a → p[k + 1]? = some b → (a, b) ∈ E := by
  induction h with
  | one => intro k a b _ h2; exact nomatch h2
  | snoc k e ih =>
    rename_i p u v
    intro i a b h1 h2
    by_cases c : i + 1 < p.length
    · rw [List.getElem?_append_left (by omega)] at h1
      rw [List.getElem?_append_left c] at h2
      exact ih i a b h1 h2
    · obtain ⟨q, rfl⟩ := pth_last k
      rw [List.length_append, List.length_singleton] at c
      have z := (List.getElem?_eq_some_iff.mp h2).1
      rw [List.length_append, List.length_append, List.length_singleton, List.length_singleton] at z
      have ei : i = q.length := by omega
      subst ei
      rw [List.getElem?_append_left (by rw [List.length_append, List.length_singleton]; omega), List.getElem?_concat_length] at h1
      have e2 : q.length + 1 = (q ++ [u]).length := by rw [List.length_append, List.length_singleton]
      rw [e2, List.getElem?_concat_length] at h2
      cases h1
      cases h2
      exact e
abbrev En := Str × List Str
structure Bfs (E : List Ed) (x : Str) (es : List En) (at_ : Nat) : Prop where
  ok : ∀ e ∈ es, Pth E x e.2 e.1
  nodup : (es.map (·.1)).Nodup
  mono : es.Pairwise fun a b => a.2.length ≤ b.2.length
  near : ∀ c, es[at_]? = some c → ∀ e ∈ es, e.2.length ≤ c.2.length + 1
  done : ∀ i c, i < at_ → es[i]? = some c → ∀ y, (c.1, y) ∈ E → ∃ e ∈ es, e.1 = y ∧ e.2.length ≤ c.2.length + 1
  root : ∃ e ∈ es, e.1 = x ∧ e.2.length = 1
theorem bfs_new (E : List Ed) (x : Str) : Bfs E x [(x, [x])] 0 := by
  refine ⟨fun e he => ?_, by simp, List.pairwise_singleton _ _, fun c hc e he => ?_, fun i c hi => absurd hi (Nat.not_lt_zero _), ⟨_, List.mem_cons_self, rfl, rfl⟩⟩
  · rw [List.mem_singleton.mp he]
    exact .one
  · rw [List.mem_singleton.mp he]
    cases Option.some.inj hc
    exact Nat.le_succ _
theorem bfs_add {E : List Ed} {x : Str} {es : List En} {k : Nat} {c : En} {t : Str} (h : Bfs E x es k) (hc : es[k]? = some c) (ht : (c.1, t) ∈ E) (new : ∀ e ∈ es, e.1 ≠ t) : Bfs E x (es ++ [(t, c.2 ++ [t])]) k := by
  have hk := (List.getElem?_eq_some_iff.mp hc).1
  have len : (c.2 ++ [t]).length = c.2.length + 1 := by rw [List.length_append, List.length_singleton]
  refine ⟨fun e he => ?_, ?_, List.pairwise_append.mpr ⟨h.mono, List.pairwise_singleton _ _, fun a ha b hb => ?_⟩, fun c' hc' e he => ?_, fun i c' hi hc' y hy => ?_, ?_⟩
  · rcases List.mem_append.mp he with he | he
    · exact h.ok e he
    · rw [List.mem_singleton.mp he]
      exact .snoc (h.ok c (List.mem_of_getElem? hc)) ht
  · rw [List.map_append, List.nodup_append]
    refine ⟨h.nodup, by simp, fun a ha b hb => ?_⟩
    obtain ⟨e, he, rfl⟩ := List.mem_map.mp ha
    have : b = t := by simpa using hb
    subst this
    exact new e he
  · rw [List.mem_singleton.mp hb]
    show a.2.length ≤ (c.2 ++ [t]).length
    rw [len]
    exact h.near c hc a ha
  · rw [List.getElem?_append_left hk, hc] at hc'
    cases hc'
    rcases List.mem_append.mp he with he | he
    · exact h.near c hc e he
    · rw [List.mem_singleton.mp he]
      show (c.2 ++ [t]).length ≤ _
      rw [len]
      exact Nat.le_refl _
  · rw [List.getElem?_append_left (by omega)] at hc'
    obtain ⟨e, e1, e2⟩ := h.done i c' hi hc' y hy
    exact ⟨e, List.mem_append_left _ e1, e2⟩
  · obtain ⟨e, e1, e2⟩ := h.root
    exact ⟨e, List.mem_append_left _ e1, e2⟩
theorem bfs_next {E : List Ed} {x : Str} {es : List En} {k : Nat} {c : En} (h : Bfs E x es k) (hc : es[k]? = some c) (all : ∀ y, (c.1, y) ∈ E → ∃ e ∈ es, e.1 = y ∧ e.2.length ≤ c.2.length + 1) : Bfs E x es (k + 1) := by
  have hk := (List.getElem?_eq_some_iff.mp hc)
  refine ⟨h.ok, h.nodup, h.mono, fun c' hc' e he => ?_, fun i c' hi hc' y hy => ?_, h.root⟩
  · have hk' := (List.getElem?_eq_some_iff.mp hc')
    have z1 := h.near c hc e he
    have z2 := (List.pairwise_iff_getElem.mp h.mono) k (k + 1) hk.1 hk'.1 (by omega)
    rw [hk.2, hk'.2] at z2
    omega
  · by_cases d : i < k
    · exact h.done i c' d hc' y hy
    · have ei : i = k := by omega
      subst ei
      rw [hc] at hc'
      cases hc'
      exact all y hy
theorem bfs_end {E : List Ed} {x : Str} {es : List En} {k : Nat} (h : Bfs E x es k) (hk : es.length ≤ k) : ∀ {n : Nat} {y : Str}, Wlk E n x y → ∃ e ∈ es, e.1 = y ∧ e.2.length ≤ n + 1
  | 0, _, w => by
    cases (show x = _ from w)
    obtain ⟨e, e1, e2, e3⟩ := h.root
    exact ⟨e, e1, e2, by omega⟩
  | n + 1, y, ⟨z, w1, w2⟩ => by
    obtain ⟨e, e1, e2, e3⟩ := bfs_end h hk w1
    obtain ⟨i, hi, ei⟩ := List.getElem_of_mem e1
    obtain ⟨f, f1, f2, f3⟩ := h.done i e (by omega) (by rw [List.getElem?_eq_getElem hi, ei]) y (by rw [e2]; exact w2)
    exact ⟨f, f1, f2, by omega⟩
theorem fst_inj {es : List En} (h : (es.map (·.1)).Nodup) {a b : En} (ha : a ∈ es) (hb : b ∈ es) (e : a.1 = b.1) : a = b := by
  induction es with
  | nil => exact nomatch ha
  | cons x l ih =>
    rw [List.map_cons, List.nodup_cons] at h
    rcases List.mem_cons.mp ha with ha2 | ha2 <;> rcases List.mem_cons.mp hb with hb2 | hb2
    · rw [ha2, hb2]
    · exact (h.1 (List.mem_map.mpr ⟨b, hb2, by rw [← e, ha2]⟩)).elim
    · exact (h.1 (List.mem_map.mpr ⟨a, ha2, by rw [e, hb2]⟩)).elim
    · exact ih h.2 ha2 hb2
theorem bfs_least {E : List Ed} {x : Str} {es : List En} {k : Nat} (h : Bfs E x es k) (hk : es.length ≤ k) {e : En} (he : e ∈ es) : ∃ n, e.2.length = n + 1 ∧ Least E x e.1 n := by
  obtain ⟨n, n1, n2⟩ := pth_len (h.ok e he)
  refine ⟨n, n1, n2, fun m w => ?_⟩
  obtain ⟨f, f1, f2, f3⟩ := bfs_end h hk w
  cases fst_inj h.nodup f1 he f2
  omega
theorem sub_len {α : Type} [DecidableEq α] : ∀ {l m : List α}, l.Nodup → (∀ x ∈ l, x ∈ m) → l.length ≤ m.length
  | [], _, _, _ => Nat.zero_le _
  | x :: l, m, h, s => by
    obtain ⟨h1, h2⟩ := List.nodup_cons.mp h
    have hx := s x List.mem_cons_self
    have z := sub_len (l := l) (m := m.erase x) h2 fun y hy => (List.mem_erase_of_ne (fun e => h1 (by rw [← e]; exact hy))).mpr (s y (List.mem_cons_of_mem _ hy))
    rw [List.length_erase_of_mem hx] at z
    have : 0 < m.length := List.length_pos_of_mem hx
    rw [List.length_cons]
    omega
theorem pth_in {E : List Ed} {V : Str → Prop} {x : Str} (hx : V x) (hE : ∀ a b, (a, b) ∈ E → V b) {p : List Str} {v : Str} (h : Pth E x p v) : V v := by
  cases h with
  | one => exact hx
  | snoc k e => exact hE _ _ e
/-! ### offices, roads, rows: rules and promises -/
theorem sort_strs (xs : List Str) : sortD (xs.map V.str) (xs.map .str) = (xs.mergeSort fun a b => decide (a.cps.toList ≤ b.cps.toList)).map V.str := by
  have e1 : ((xs.map V.str).zip (xs.map PyData.str)) = xs.map fun x => (V.str x, PyData.str x) := by
    rw [List.zip_map]
    induction xs with
    | nil => rfl
    | cons x l ih =>
      rw [List.zip_cons_cons, List.map_cons, List.map_cons, ih]
      rfl
  unfold sortD
  rw [e1, ← PySem.W.sort_maps (r := fun a b => decide (a.cps.toList ≤ b.cps.toList)) (fun x : Str => (V.str x, PyData.str x)) (fun a _ b _ => (congrFun (congrFun (PySem.W.dataLe_str (β := Str) fun x => x) a) b).symm), List.map_map]
  rfl
theorem sorted_up {xs : List Str} (nd : xs.Nodup) : (xs.mergeSort fun a b => decide (a.cps.toList ≤ b.cps.toList)).Pairwise sl := by
  have up := List.pairwise_mergeSort (le := fun (a b : Str) => decide (a.cps.toList ≤ b.cps.toList)) (fun a b c h1 h2 => by rw [decide_eq_true_eq] at *; exact List.le_trans h1 h2) (fun a b => by rw [Bool.or_eq_true, decide_eq_true_eq, decide_eq_true_eq]; exact List.le_total _ _) xs
  have nd3 : (xs.mergeSort fun a b => decide (a.cps.toList ≤ b.cps.toList)).Nodup := (List.mergeSort_perm xs _).nodup_iff.mpr nd
  refine (up.and nd3).imp fun {a b} h => ?_
  have h1 := of_decide_eq_true h.1
  rcases sl_tot a b with z | z | z
  · exact z
  · exact absurd z h.2
  · exact absurd z (List.not_lt.mpr h1)
/-- sorted of a dict whose keys are texts -/
def rSortDS : List V → Hp → VK → Prop := fun xs H Q => ∃ (a : Addr) (kvs : List (Key × V)) (ks : List Str), xs = [.ref a] ∧ Rd H a (.dK kvs) ∧ kvs.map (·.1) = ks.map Sum.inr ∧ ks.Nodup ∧ ks.length ≤ 100000 ∧
  ∀ (ys : List Str) (p : Addr), ys.Pairwise sl → (∀ y, y ∈ ys ↔ y ∈ ks) → ys.length = ks.length → H p = none → Q (.ref p) (upd H p (.lst (ys.map V.str)))
theorem cr_sortDS {X : Cx} {k : Nat} (hr : Room k X.A) (calm : X.calm = true) : CallR X (.builtin "sorted") rSortDS := by
  intro pins s σ H xs us Q I r h
  obtain ⟨a, kvs, ks, rfl, hd, keys, nd, long, q⟩ := h
  rw [Vals.ref1 r]
  have un := hr.un
  obtain ⟨z, lo, vs, rel, dd⟩ := dk_rd I.hok hd
  obtain ⟨ep, at1⟩ := dd.dictAt
  have vkeys : vs.map (·.1) = ks.map Sum.inr := rel.keys.symm.trans keys
  have len1 : vs.length = ks.length := by simpa using congrArg List.length vkeys
  have line : ks.length ≤ sizeLine := Nat.le_trans long (by decide)
  refine (Calls.call_function_entry PyProof.Rows.kind_sorted PyProof.Rows.plain_sorted PyProof.Rows.entry_sorted (PyProof.Rows.args_sorted1 _) ?_); unfold Builtin.«sorted»
  refine (wpAny_bind (m := checkCount "sorted" 1 1 _) (wpAny_pure ?_))
  refine wpAny_bind (PySem.W.kdu_collect (A := X.A.in1) (PySem.W.kdl_dict (knd := mixKind X.prog X.w) (kvs := vs) (ep := ep) lo) (I.ok.hd calm) at1 (by rw [len1]; exact line) fun h1 tk acc keep got => ?_)
  have len2 : acc.toList.length = ks.length := by rw [Array.length_toList, got.1, len1]
  have each : PySem.W.EachIs (fun v (x : Str) => ∃ t, v = Value.str x t) acc.toList ks := by
    have go : ∀ (l : List Value) (m : List Str), l.length = m.length → (∀ j v, l[j]? = some v → ∃ x t, m[j]? = some x ∧ v = Value.str x t) → PySem.W.EachIs (fun v (x : Str) => ∃ t, v = Value.str x t) l m := fun l => by
      induction l with
      | nil =>
        intro m e _
        cases m with
        | nil => exact .nil
        | cons x m => cases e
      | cons v l ih =>
        intro m e f
        cases m with
        | nil => cases e
        | cons x m =>
          obtain ⟨x', t, h1, h2⟩ := f 0 v rfl
          cases Option.some.inj h1
          exact .cons ⟨t, h2⟩ (ih m (Nat.succ.inj e) fun j u hu => f (j + 1) u hu)
    refine go _ _ len2 fun j v e => ?_
    obtain ⟨kk, x, e1, e2⟩ := got.2 j v (by rw [← Array.getElem?_toList]; exact e)
    have e3 : (vs.map (·.1))[j]? = some kk := by rw [List.getElem?_map, e1]; rfl
    rw [vkeys, List.getElem?_map] at e3
    obtain ⟨y, e4, e5⟩ : ∃ y, ks[j]? = some y ∧ Sum.inr y = kk := by
      cases e4 : ks[j]? with
      | none => rw [e4] at e3; cases e3
      | some y => rw [e4] at e3; exact ⟨y, rfl, Option.some.inj e3⟩
    subst e5
    rcases keyIs_shape (show keyIs (Sum.inr y) v = true from e2) with ⟨i, t, ek, ev⟩ | ⟨z, t, ek, ev⟩
    · cases ek
    · cases ek
      exact ⟨y, t, e4, ev⟩
  have J : Inv X pins σ H { s with heap := h1, toks := tk } := I.kept keep
  refine wpAny_bind (wpAny_newList ?_ (by rw [len2]; exact line))
  have new : (h1.push (seqObj "list" acc.toList.toArray 0)).get? h1.objs.size = some (seqObj "list" acc.toList.toArray 0) := Heap.get?_push_size _ rfl
  show wpAny _ _ _ _ _ { s with toks := tk, heap := h1.push (seqObj "list" acc.toList.toArray 0) }
  refine wpAny_bind (wpAny_holding (PySem.W.list_sort_data (enc := fun x : Str => .str x) (R := fun v (x : Str) => ∃ t, v = Value.str x t) new each (each.mono fun v x ⟨t, e⟩ => ⟨[], by rw [e]; exact .str x t, fun z => nomatch z⟩) (fun d hd e he => ?_) (.inr fun d hd => ?_) (Nat.le_trans long (by decide)) (fun x _ => ?_) fun out ho eo => ?_))
  · obtain ⟨x, _, rfl⟩ := List.mem_map.mp hd
    obtain ⟨y, _, rfl⟩ := List.mem_map.mp he
    rfl
  · obtain ⟨x, _, rfl⟩ := List.mem_map.mp hd
    exact ⟨nofun, nofun⟩
  · show X.A.units + 1 + 1 + 0 < cLine
    omega
  have rv : Vals ((ks.mergeSort (PySem.W.dataLe false fun x : Str => .str x)).map V.str) out := by
    clear ho
    generalize ks.mergeSort (PySem.W.dataLe false fun x : Str => .str x) = ms at eo
    induction eo with
    | nil => exact .nil
    | cons r e ih => exact .cons r ih
  rw [PySem.W.dataLe_str (β := Str) fun x => x] at rv
  obtain ⟨en, at2⟩ := PyProof.Rows.sortedHeap_at (vs := acc.toList) (out := out.toArray) new
  have len3 : ((ks.mergeSort fun a b => decide (a.cps.toList ≤ b.cps.toList)).map V.str).length ≤ sizeLine := by rw [List.length_map, List.length_mergeSort]; exact line
  refine wpAny_pure ⟨_, rfl, .ref h1.objs.size, upd H _ (.lst ((ks.mergeSort fun a b => decide (a.cps.toList ≤ b.cps.toList)).map V.str)), J.laid (t' := tk) (fun b u e => ?_) (Nat.le_refl _) ⟨len3, out, en, rv, at2⟩, rfl, q _ _ (sorted_up nd) (fun y => List.mem_mergeSort) (List.length_mergeSort _) (J.hok.fresh (Nat.le_refl _))⟩
  have lt : b < h1.objs.size := Heap.lt_size e
  rw [PyProof.Rows.sortedHeap_old (Nat.ne_of_lt lt) (by rw [size_push']; exact Nat.lt_succ_of_lt lt)]
  exact (Heap.get?_push_of_some _ e)
/-- repr of data, of a number, of None -/
def rReprV (K : PySem.W.Frag) : List V → Hp → VK → Prop := fun xs H Q => (∃ (a : Addr) (d : PyData), xs = [.ref a] ∧ Dp K H (.ref a) d ∧ d.showable = true ∧ d.hasDict = false ∧ d.depth ≤ 60 ∧ d.shown.length ≤ sizeLine ∧ Q (.str d.shown) H) ∨
  (∃ i : Int, xs = [.int i] ∧ i.natAbs.log2 < 1920 ∧ Q (.str (toString i)) H) ∨ (xs = [.non] ∧ Q (.str (("None" : String) : Str)) H)
theorem cr_reprV {X : Cx} {k : Nat} (gu : X.A.guards = some []) (hr : Room k X.A) : CallR X (.builtin "repr") (rReprV X.K) := by
  intro pins s σ H vs us Q I r h
  rcases h with h | ⟨i, rfl, hz, q⟩ | ⟨rfl, q⟩
  · exact cr_repr gu hr pins s σ H vs us Q I r h
  · obtain ⟨u, rfl, t, rfl⟩ := vals1 r
    exact PySem.P.repr_of_int hz ⟨.str _, H, I.tok _, ⟨_, rfl⟩, q⟩
  · obtain ⟨u, rfl, ru⟩ := vals1 r
    cases ru
    exact call_repr_gives (s := s) rfl F.slot_NoneType_repr F.entry_NoneType_repr (F.args_NoneType_repr_1 _) gives_none_repr ⟨.str _, H, I.tok _, ⟨_, rfl⟩, q⟩
/-- x in a list (b) or tuple of data -/
def rInP (K : PySem.W.Frag) (neg b : Bool) : R2 := fun x y H Q => ∃ d ds, Dp K H x d ∧ Dp K H y (if b = true then .list ds else .tuple ds) ∧ d.plain = true ∧ PyData.plainAll ds = true ∧ d.depth ≤ 50 ∧ Q (.bl (xor neg (ds.any fun z => PyData.eqv z d))) H
section
variable {X : Cx} {k : Nat}
theorem op_inLP (hr : Room k X.A) : OpR X (compareOp .In) (rInP X.K false true) := by
  intro pins s σ H x y v u Q I rx ry h
  obtain ⟨d, ds, hd, he, p1, p2, dep, q⟩ := h
  have un := hr.un
  obtain ⟨as, r1⟩ := Dp.reads I d x v hd rx
  obtain ⟨bs, r2⟩ := Dp.reads I _ y u he ry
  rw [Bool.false_xor] at q
  exact PySem.SeqAt.in_list_data r2 r1 p2 p1 (by omega) ⟨.bl _, H, I, rfl, q⟩
theorem op_notinLP (hr : Room k X.A) : OpR X (compareOp .NotIn) (rInP X.K true true) := by
  intro pins s σ H x y v u Q I rx ry h
  obtain ⟨d, ds, hd, he, p1, p2, dep, q⟩ := h
  have un := hr.un
  obtain ⟨as, r1⟩ := Dp.reads I d x v hd rx
  obtain ⟨bs, r2⟩ := Dp.reads I _ y u he ry
  rw [Bool.true_xor] at q
  exact PySem.SeqAt.notIn_list_data r2 r1 p2 p1 (by omega) ⟨.bl _, H, I, rfl, q⟩
theorem op_inTP (hr : Room k X.A) : OpR X (compareOp .In) (rInP X.K false false) := by
  intro pins s σ H x y v u Q I rx ry h
  obtain ⟨d, ds, hd, he, p1, p2, dep, q⟩ := h
  have un := hr.un
  obtain ⟨as, r1⟩ := Dp.reads I d x v hd rx
  obtain ⟨bs, r2⟩ := Dp.reads I _ y u he ry
  rw [Bool.false_xor] at q
  exact PySem.SeqAt.in_tuple_data r2 r1 p2 p1 (by omega) ⟨.bl _, H, I, rfl, q⟩
end
/-! roads in the heap -/
def edV (e : Ed) : List V := [.str e.1, .str e.2]
def edD (e : Ed) : PyData := .tuple [.str e.1, .str e.2]
abbrev Rds (H : Hp) (ps : List Addr) (es : List Ed) : Prop := Paired (fun (p : Addr) (e : Ed) => H p = some (.tup (edV e))) ps es
theorem Rds.len {H : Hp} {ps : List Addr} {es : List Ed} (h : Rds H ps es) : ps.length = es.length := Paired.length h
theorem Rds.keep {H H' : Hp} : ∀ {ps : List Addr} {es : List Ed}, (∀ p o, (∀ z, o ≠ HO.lst z) → (∀ z, o ≠ HO.dK z) → (∀ z, o ≠ HO.dT z) → H p = some o → H' p = some o) → Rds H ps es → Rds H' ps es
  | _, _, _, .nil => .nil
  | _, _, k, .cons a b => .cons (k _ _ (fun z => nofun) (fun z => nofun) (fun z => nofun) a) (Rds.keep k b)
theorem Rds.same {H H' : Hp} {ps : List Addr} {es : List Ed} (s : Same H H') (h : Rds H ps es) : Rds H' ps es := Rds.keep (fun p o _ _ _ e => s p o e) h
theorem Rds.put {H : Hp} {l : Addr} {xs : List V} {o : HO} {ps : List Addr} {es : List Ed} (hl : H l = some (.lst xs)) (h : Rds H ps es) : Rds (upd H l o) ps es :=
  Rds.keep (fun p u n1 _ _ e => by rw [upd_ne (ne_of e hl (n1 _))]; exact e) h
theorem Rds.but {H H' : Hp} {f c : Addr} {n : Int} {ps : List Addr} {es : List Ed} (hf : Fd H f c n) (b : But f H H') (h : Rds H ps es) : Rds H' ps es := by
  obtain ⟨zs, hz⟩ := hf.at
  exact Rds.keep (fun p o n1 _ _ e => b p o (ne_of e hz (n1 zs)) e) h
theorem Rds.app {H : Hp} : ∀ {ps qs : List Addr} {es ts : List Ed}, Rds H ps es → Rds H qs ts → Rds H (ps ++ qs) (es ++ ts)
  | _, _, _, _, .nil, b => b
  | _, _, _, _, .cons a r, b => .cons a (Rds.app r b)
theorem Rds.get {H : Hp} : ∀ {ps : List Addr} {es : List Ed} {i : Nat} {p : Addr}, Rds H ps es → ps[i]? = some p → ∃ e, es[i]? = some e ∧ H p = some (.tup (edV e))
  | _, _, 0, _, .cons a _, h => by
    cases h
    exact ⟨_, rfl, a⟩
  | _, _, i + 1, p, .cons _ b, h => Rds.get (i := i) (p := p) b h
theorem Rds.dp {K : PySem.W.Frag} {H : Hp} : ∀ {ps : List Addr} {es : List Ed}, Rds H ps es → DpAll K H (ps.map V.ref) (es.map edD)
  | _, _, .nil => .nil
  | _, _, .cons a b => .cons (.tup (SqT.of a) (.cons (.str _) (.cons (.str _) .nil))) (Rds.dp b)
theorem Rds.take {H : Hp} : ∀ {ps : List Addr} {rs : List Ed} (n : Nat), Rds H ps rs → Rds H (ps.take n) (rs.take n)
  | _, _, 0, _ => .nil
  | _, _, _ + 1, .nil => .nil
  | _, _, n + 1, .cons a b => .cons a (Rds.take n b)
abbrev Wt := Str × Int
def wtV (e : Wt) : List V := [.str e.1, .int e.2]
def wtD (e : Wt) : PyData := .tuple [.str e.1, .int e.2]
abbrev Wts (H : Hp) (ps : List Addr) (es : List Wt) : Prop := Paired (fun (p : Addr) (e : Wt) => H p = some (.tup (wtV e))) ps es
theorem Wts.keep {H H' : Hp} : ∀ {ps : List Addr} {es : List Wt}, (∀ p o, (∀ z, o ≠ HO.lst z) → H p = some o → H' p = some o) → Wts H ps es → Wts H' ps es
  | _, _, _, .nil => .nil
  | _, _, k, .cons a b => .cons (k _ _ (fun z => nofun) a) (Wts.keep k b)
theorem Wts.same {H H' : Hp} {ps : List Addr} {es : List Wt} (s : Same H H') (h : Wts H ps es) : Wts H' ps es := Wts.keep (fun p o _ e => s p o e) h
theorem Wts.put {H : Hp} {l : Addr} {xs : List V} {o : HO} {ps : List Addr} {es : List Wt} (hl : H l = some (.lst xs)) (h : Wts H ps es) : Wts (upd H l o) ps es :=
  Wts.keep (fun p u n1 e => by rw [upd_ne (ne_of e hl (n1 _))]; exact e) h
theorem Wts.but {H H' : Hp} {f c : Addr} {n : Int} {ps : List Addr} {es : List Wt} (hf : Fd H f c n) (b : But f H H') (h : Wts H ps es) : Wts H' ps es := by
  obtain ⟨zs, hz⟩ := hf.at
  exact Wts.keep (fun p o n1 e => b p o (ne_of e hz (n1 zs)) e) h
theorem Wts.app {H : Hp} : ∀ {ps qs : List Addr} {es ts : List Wt}, Wts H ps es → Wts H qs ts → Wts H (ps ++ qs) (es ++ ts)
  | _, _, _, _, .nil, b => b
  | _, _, _, _, .cons a r, b => .cons a (Wts.app r b)
theorem Wts.len {H : Hp} {ps : List Addr} {es : List Wt} (h : Wts H ps es) : ps.length = es.length := Paired.length h
theorem Wts.dp {K : PySem.W.Frag} {H : Hp} : ∀ {ps : List Addr} {es : List Wt}, Wts H ps es → DpAll K H (ps.map V.ref) (es.map wtD)
  | _, _, .nil => .nil
  | _, _, .cons a b => .cons (.tup (SqT.of a) (.cons (.str _) (.cons (.int _) .nil))) (Wts.dp b)
/-- the office at o: worths ws, roads E -/
def OfAt (H : Hp) (o : Addr) (ws : List Wt) (E : List Ed) : Prop := ∃ (w r : Addr) (wp rp : List Addr), H o = some (.tup [.ref w, .ref r]) ∧ H w = some (.tup (wp.map V.ref)) ∧ H r = some (.tup (rp.map V.ref)) ∧ Wts H wp ws ∧ Rds H rp E
theorem OfAt.same {H H' : Hp} {o : Addr} {ws : List Wt} {E : List Ed} (s : Same H H') (h : OfAt H o ws E) : OfAt H' o ws E := by
  obtain ⟨w, r, wp, rp, h1, h2, h3, h4, h5⟩ := h
  exact ⟨w, r, wp, rp, s _ _ h1, s _ _ h2, s _ _ h3, h4.same s, h5.same s⟩
theorem OfAt.but {H H' : Hp} {f c : Addr} {n : Int} {o : Addr} {ws : List Wt} {E : List Ed} (hf : Fd H f c n) (b : But f H H') (h : OfAt H o ws E) : OfAt H' o ws E := by
  obtain ⟨w, r, wp, rp, h1, h2, h3, h4, h5⟩ := h
  obtain ⟨zs, hz⟩ := hf.at
  have t : ∀ {a : Addr} {xs : List V}, H a = some (.tup xs) → H' a = some (.tup xs) := fun e => b _ _ (ne_of e hz (fun z => nomatch z)) e
  exact ⟨w, r, wp, rp, t h1, t h2, t h3, h4.but hf b, h5.but hf b⟩
def ofD (ws : List Wt) (E : List Ed) : PyData := .tuple [.tuple (ws.map wtD), .tuple (E.map edD)]
theorem OfAt.dp {K : PySem.W.Frag} {H : Hp} {o : Addr} {ws : List Wt} {E : List Ed} (h : OfAt H o ws E) : Dp K H (.ref o) (ofD ws E) := by
  obtain ⟨w, r, wp, rp, h1, h2, h3, h4, h5⟩ := h
  exact .tup (SqT.of h1) (.cons (.tup (SqT.of h2) h4.dp) (.cons (.tup (SqT.of h3) h5.dp) .nil))
/-- the rows of a search, in a dict -/
abbrev RwAt (H : Hp) (kvs : List (Key × V)) (es : List En) : Prop := Paired (fun (kv : Key × V) (e : En) => kv.1 = Sum.inr e.1 ∧ ∃ a, kv.2 = .ref a ∧ H a = some (.tup (e.2.map V.str))) kvs es
theorem RwAt.keep {H H' : Hp} : ∀ {kvs : List (Key × V)} {es : List En}, (∀ p o, (∀ z, o ≠ HO.lst z) → (∀ z, o ≠ HO.dK z) → H p = some o → H' p = some o) → RwAt H kvs es → RwAt H' kvs es
  | _, _, _, .nil => .nil
  | _, _, k, .cons ⟨a1, a, a2, a3⟩ b => .cons ⟨a1, a, a2, k _ _ (fun z => nofun) (fun z => nofun) a3⟩ (RwAt.keep k b)
theorem RwAt.same {H H' : Hp} {kvs : List (Key × V)} {es : List En} (s : Same H H') (h : RwAt H kvs es) : RwAt H' kvs es := RwAt.keep (fun p o _ _ e => s p o e) h
theorem RwAt.app {H : Hp} : ∀ {kvs lvs : List (Key × V)} {es fs : List En}, RwAt H kvs es → RwAt H lvs fs → RwAt H (kvs ++ lvs) (es ++ fs)
  | _, _, _, _, .nil, b => b
  | _, _, _, _, .cons a r, b => .cons a (RwAt.app r b)
theorem RwAt.keys {H : Hp} : ∀ {kvs : List (Key × V)} {es : List En}, RwAt H kvs es → kvs.map (·.1) = (es.map (·.1)).map Sum.inr
  | _, _, .nil => rfl
  | _, _, .cons a b => by
    rw [List.map_cons, List.map_cons, List.map_cons, a.1, RwAt.keys b]
theorem RwAt.val {H : Hp} : ∀ {kvs : List (Key × V)} {es : List En} (y : Str), RwAt H kvs es → (∃ e ∈ es, e.1 = y ∧ ∃ a, valV kvs (Sum.inr y) = some (.ref a) ∧ H a = some (.tup (e.2.map V.str))) ∨ ((∀ e ∈ es, e.1 ≠ y) ∧ valV kvs (Sum.inr y) = none)
  | _, _, y, .nil => .inr ⟨fun _ h => (nomatch h), rfl⟩
  | _, _, y, .cons (a := kv) (b := e) ⟨a1, a, a2, a3⟩ b => by
    by_cases c : e.1 = y
    · refine .inl ⟨e, List.mem_cons_self, c, a, ?_, a3⟩
      rw [valV_pos (by rw [a1, c]), a2]
    · have n : ¬ kv.1 = Sum.inr y := fun z => c (Sum.inr.inj (a1.symm.trans z))
      rcases RwAt.val y b with ⟨f, f1, f2, a', f3, f4⟩ | ⟨f1, f2⟩
      · exact .inl ⟨f, List.mem_cons_of_mem _ f1, f2, a', by rw [valV_neg n]; exact f3, f4⟩
      · refine .inr ⟨fun f hf => ?_, by rw [valV_neg n]; exact f2⟩
        rcases List.mem_cons.mp hf with rfl | hf
        · exact c
        · exact f1 f hf
def spRows : Sp := fun vs H Q _ => ∃ (o : Addr) (x : Str) (ws : List Wt) (E : List Ed), vs = [.ref o, .str x] ∧ OfAt H o ws E ∧ E.length ≤ 16 ∧
  ∀ (r : Addr) (kvs : List (Key × V)) (es : List En) (k : Nat) (H' : Hp), Same H H' → H r = none → H' r = some (.dK kvs) → RwAt H' kvs es → Bfs E x es k → es.length ≤ k → es.length ≤ 17 → (∀ e ∈ es, e.2.length ≤ 17) → Q (.ref r) H'
def spReach : Sp := fun vs H Q _ => ∃ (o : Addr) (x : Str) (ws : List Wt) (E : List Ed), vs = [.ref o, .str x] ∧ OfAt H o ws E ∧ E.length ≤ 16 ∧
  ∀ (t : Addr) (ys : List Str) (H' : Hp), Same H H' → H t = none → H' t = some (.tup (ys.map V.str)) → ys.Pairwise sl → (∀ y, y ∈ ys ↔ ∃ n, Wlk E n x y) → ys.length ≤ 17 → Q (.ref t) H'
/-- what road_row tells -/
def RowV (H : Hp) (E : List Ed) (x y : Str) (v : V) : Prop := (v = .non ∧ ∀ n, ¬ Wlk E n x y) ∨ ∃ (t : Addr) (p : List Str) (n : Nat), v = .ref t ∧ H t = some (.tup (p.map V.str)) ∧ Pth E x p y ∧ p.length = n + 1 ∧ Least E x y n ∧ n ≤ 17
def spRow : Sp := fun vs H Q _ => ∃ (o : Addr) (x y : Str) (ws : List Wt) (E : List Ed), vs = [.ref o, .str x, .str y] ∧ OfAt H o ws E ∧ E.length ≤ 16 ∧ ∀ (v : V) (H' : Hp), Same H H' → RowV H' E x y v → Q v H'
def spFar : Sp := fun vs H Q _ => ∃ (o : Addr) (x y : Str) (ws : List Wt) (E : List Ed), vs = [.ref o, .str x, .str y] ∧ OfAt H o ws E ∧ E.length ≤ 16 ∧ ∀ (v : V) (H' : Hp), Same H H' → ((v = .non ∧ ∀ n, ¬ Wlk E n x y) ∨ ∃ n : Nat, v = .int n ∧ Least E x y n) → Q v H'
/-! ### the law's own side: tapes, offices, places, what is apart -/
def spDrawT : Sp := fun vs H Q _ => ∃ (f c : Addr) (m n : Int), vs = [.ref f, .int m] ∧ Fd H f c n ∧ n ≤ 1000000 ∧ 0 < m ∧ m ≤ 1000000000 ∧
  ∀ (d : Int) (H' : Hp), 0 ≤ d → d < m → Fd H' f c (n + 1) → But f H H' → Q (.int d) H'
def gWords : List Str := [("a" : String), ("ab" : String), ("abc" : String), ("bank" : String), ("n" : String), ("nonea" : String), ("press" : String), ("zzzzzzzz" : String), ("nom" : String), ("b" : String)]
def gNone : Str := (("none" : String) : Str)
theorem gw_ok : ∀ x ∈ gWords, NmOk x ∧ x ≠ gNone := by
  intro x hx
  simp only [gWords, List.mem_cons, List.not_mem_nil, or_false] at hx
  rcases hx with rfl | rfl | rfl | rfl | rfl | rfl | rfl | rfl | rfl | rfl <;> exact ⟨⟨by decide +kernel, by decide +kernel⟩, by decide +kernel⟩
theorem gn_ok : NmOk gNone := ⟨by decide +kernel, by decide +kernel⟩
def EdOk (e : Ed) : Prop := NmOk e.1 ∧ NmOk e.2 ∧ e.1 ≠ e.2
def WtOk (w : Wt) : Prop := NmOk w.1 ∧ 0 ≤ w.2 ∧ w.2 ≤ 1000000
structure OfOk (ws : List Wt) (E : List Ed) : Prop where
  le : E.length ≤ 16
  ed : ∀ e ∈ E, EdOk e
  lw : ws.length ≤ 4
  wt : ∀ w ∈ ws, WtOk w
def spOffice : Sp := fun vs H Q _ => ∃ (f c : Addr) (n : Int), vs = [.ref f] ∧ Fd H f c n ∧ n ≤ 900000 ∧
  ∀ (o : Addr) (ws : List Wt) (E : List Ed) (H' : Hp), Fd H' f c (n + 200) → But f H H' → H o = none → OfAt H' o ws E → OfOk ws E → Q (.ref o) H'
theorem inV_strs (x : Str) (xs : List Str) : inV (.str x) (xs.map V.str) = decide (x ∈ xs) := by
  unfold inV
  rw [List.any_map, Bool.eq_iff_iff, List.any_eq_true, decide_eq_true_eq]
  constructor
  · rintro ⟨y, hy, e⟩
    have e : (y == x) = true := e
    rw [← beq_iff_eq.mp e]
    exact hy
  · intro h
    exact ⟨x, h, beq_iff_eq.mpr rfl⟩
theorem flat_strs' (xs : List Str) : (xs.map V.str).all flatV = true := by
  rw [List.all_map, List.all_eq_true]
  exact fun _ _ => rfl
/-- the places of roads, none first -/
def plc (E : List Ed) (y : Str) : Prop := y = gNone ∨ ∃ e ∈ E, y = e.1 ∨ y = e.2
def spPlaces : Sp := fun vs H Q _ => ∃ (o : Addr) (ws : List Wt) (E : List Ed), vs = [.ref o] ∧ OfAt H o ws E ∧ OfOk ws E ∧
  ∀ (l : Addr) (pl : List Str) (H' : Hp), Same H H' → H l = none → H' l = some (.lst (pl.map V.str)) → pl.Pairwise sl → (∀ y, y ∈ pl ↔ plc E y) → pl.length ≤ 33 → Q (.ref l) H'
def apOf (d : Ap) (kvs : List (List Key × V)) : Prop := ∀ x y, valV kvs [Sum.inr x, Sum.inr y] = (d x y).map fun (n : Nat) => V.int n
theorem apOf_put {d d' : Ap} {kvs : List (List Key × V)} {x y : Str} {n : Nat} (h : apOf d kvs) (h1 : d' x y = some n) (h2 : ∀ u v, ¬ (u = x ∧ v = y) → d' u v = d u v) : apOf d' (putK kvs [Sum.inr x, Sum.inr y] (.int n)) := fun u v => by
  rw [valV_put]
  by_cases c : u = x ∧ v = y
  · rw [c.1, c.2, if_pos rfl, h1]
    rfl
  · have ne : ¬ ([Sum.inr u, Sum.inr v] : List Key) = [Sum.inr x, Sum.inr y] := fun z => by
      injection z with z1 z2
      injection z2 with z2 _
      exact c ⟨Sum.inr.inj z1, Sum.inr.inj z2⟩
    rw [if_neg ne, h, h2 u v c]
def spApt : Sp := fun vs H Q _ => ∃ (o : Addr) (ws : List Wt) (E : List Ed), vs = [.ref o] ∧ OfAt H o ws E ∧ OfOk ws E ∧
  ∀ (a : Addr) (kvs : List (List Key × V)) (d : Ap) (H' : Hp), Same H H' → H a = none → H' a = some (.dT kvs) → apOf d kvs → FwOk E (plc E) (plc E) d → Q (.ref a) H'
theorem fw_col {d : Ap} {v x : Str} (h : d v v = some 0) : fwStep d v x v = d x v := by
  cases e : d x v with
  | none => exact (fw_none (.inl e)).trans e
  | some a =>
    rw [fw_val e h, e, Nat.add_zero]
    unfold fwMin
    dsimp only
    rw [if_neg (Nat.lt_irrefl _)]
theorem fw_row {d : Ap} {v y : Str} (h : d v v = some 0) : fwStep d v v y = d v y := by
  cases e : d v y with
  | none => exact (fw_none (.inr e)).trans e
  | some a =>
    rw [fw_val h e, e, Nat.zero_add]
    unfold fwMin
    dsimp only
    rw [if_neg (Nat.lt_irrefl _)]
theorem fwMin_again (o : Option Nat) (n : Nat) : fwMin (some (fwMin o n)) n = fwMin o n := by
  have z := fwMin_le o n
  show (if n < fwMin o n then n else fwMin o n) = _
  rw [if_neg (by omega)]
def spIsRow : Sp := fun vs H Q _ => ∃ (o t : Addr) (x y : Str) (n : Nat) (ws : List Wt) (E : List Ed) (p : List Str), vs = [.ref o, .str x, .str y, .int n, .ref t] ∧ OfAt H o ws E ∧ OfOk ws E ∧ H t = some (.tup (p.map V.str)) ∧ Pth E x p y ∧ p.length = n + 1 ∧ n ≤ 1000 ∧
  ∀ H', Same H H' → Q (.bl true) H'
def spRightO : Sp := fun vs H Q _ => ∃ (o : Addr) (ws : List Wt) (E : List Ed), vs = [.ref o] ∧ OfAt H o ws E ∧ OfOk ws E ∧ ∀ H', Same H H' → Q (.bl true) H'
theorem ed_plain (E : List Ed) : PyData.plainAll (E.map edD) = true := by
  induction E with
  | nil => rfl
  | cons e l ih =>
    rw [List.map_cons]
    simp only [PyData.plainAll, ih, edD, PyData.plain, Bool.and_self]
theorem ed_eqv (a b : Ed) : PyData.eqv (edD a) (edD b) = decide (a = b) := by
  obtain ⟨a1, a2⟩ := a
  obtain ⟨b1, b2⟩ := b
  rw [Bool.eq_iff_iff]
  simp [edD, PyData.eqv, PyData.eqvAll]
theorem ed_any (E : List Ed) (e : Ed) : ((E.map edD).any fun z => PyData.eqv z (edD e)) = decide (e ∈ E) := by
  rw [List.any_map, Bool.eq_iff_iff, List.any_eq_true, decide_eq_true_eq]
  constructor
  · rintro ⟨y, hy, k⟩
    have k : PyData.eqv (edD y) (edD e) = true := k
    rw [ed_eqv, decide_eq_true_eq] at k
    rw [← k]
    exact hy
  · intro h
    refine ⟨e, h, ?_⟩
    show PyData.eqv (edD e) (edD e) = true
    rw [ed_eqv, decide_eq_true rfl]
theorem ed_dep (e : Ed) : (edD e).depth ≤ 50 := by
  simp [edD, PyData.depth, PyData.depthAll]
theorem nm_fine {x : Str} (h : NmOk x) : fineD (.str x) = true ∧ cost (.str x) ≤ 82 := by
  refine ⟨h.2, ?_⟩
  have := h.1
  show 10 * x.length + 2 ≤ 82
  omega
theorem eds_fine : ∀ E : List Ed, (∀ e ∈ E, EdOk e) → fineAll (E.map edD) = true ∧ costAll (E.map edD) ≤ 200 * E.length
  | [], _ => ⟨rfl, Nat.le_refl _⟩
  | e :: E, h => by
    obtain ⟨z1, z2⟩ := eds_fine E fun s hs => h s (List.mem_cons_of_mem _ hs)
    obtain ⟨a1, a2, _⟩ := h e List.mem_cons_self
    obtain ⟨b1, b2⟩ := nm_fine a1
    obtain ⟨c1, c2⟩ := nm_fine a2
    refine ⟨?_, ?_⟩
    · rw [List.map_cons]
      unfold fineAll
      rw [z1]
      show ((fineD (.str e.1) && (fineD (.str e.2) && true)) && true) = true
      rw [b1, c1]
      rfl
    · rw [List.map_cons, List.length_cons]
      unfold costAll
      have e1 : cost (edD e) = (cost (.str e.1) + 2 + (cost (.str e.2) + 2 + 0)) + 3 := rfl
      omega
theorem wts_fine : ∀ ws : List Wt, (∀ w ∈ ws, WtOk w) → fineAll (ws.map wtD) = true ∧ costAll (ws.map wtD) ≤ 3000 * ws.length
  | [], _ => ⟨rfl, Nat.le_refl _⟩
  | e :: E, h => by
    obtain ⟨z1, z2⟩ := wts_fine E fun s hs => h s (List.mem_cons_of_mem _ hs)
    obtain ⟨a1, a2, a3⟩ := h e List.mem_cons_self
    obtain ⟨b1, b2⟩ := nm_fine a1
    refine ⟨?_, ?_⟩
    · rw [List.map_cons]
      unfold fineAll
      rw [z1]
      show ((fineD (.str e.1) && (fineD (.int e.2) && true)) && true) = true
      rw [b1, int_fine (by omega) (by omega)]
      rfl
    · rw [List.map_cons, List.length_cons]
      unfold costAll
      have e1 : cost (wtD e) = (cost (.str e.1) + 2 + (2000 + 2 + 0)) + 3 := rfl
      omega
theorem of_fine {ws : List Wt} {E : List Ed} (h : OfOk ws E) : fineD (ofD ws E) = true ∧ cost (ofD ws E) ≤ 20000 := by
  obtain ⟨a1, a2⟩ := wts_fine ws h.wt
  obtain ⟨b1, b2⟩ := eds_fine E h.ed
  have l1 := h.le
  have l2 := h.lw
  refine ⟨?_, ?_⟩
  · show (fineAll (ws.map wtD) && (fineAll (E.map edD) && true)) = true
    rw [a1, b1]
    rfl
  · have e1 : cost (ofD ws E) = ((costAll (ws.map wtD) + 3) + 2 + ((costAll (E.map edD) + 3) + 2 + 0)) + 3 := rfl
    omega
theorem of_depth (ws : List Wt) (E : List Ed) : (ofD ws E).depth ≤ 10 := by
  have d1 : PyData.depthAll (ws.map wtD) ≤ 3 := by
    induction ws with
    | nil => simp [PyData.depthAll]
    | cons s l ih => rw [List.map_cons]; simp only [PyData.depthAll, wtD, PyData.depth] at *; omega
  have d2 : PyData.depthAll (E.map edD) ≤ 3 := by
    induction E with
    | nil => simp [PyData.depthAll]
    | cons s l ih => rw [List.map_cons]; simp only [PyData.depthAll, edD, PyData.depth] at *; omega
  simp only [ofD, PyData.depth, PyData.depthAll]
  omega
def strsD (xs : List Str) : PyData := .tuple (xs.map .str)
theorem strs_dp {K : PySem.W.Frag} {H : Hp} {t : Addr} {xs : List Str} (h : SqT K H t (xs.map V.str)) : Dp K H (.ref t) (strsD xs) := by
  refine .tup h ?_
  clear h
  induction xs with
  | nil => exact .nil
  | cons x l ih => exact .cons (.str x) ih
theorem strs_show {xs : List Str} (h : ∀ x ∈ xs, NmOk x) (hl : xs.length ≤ 100) : (strsD xs).showable = true ∧ (strsD xs).hasDict = false ∧ (strsD xs).depth ≤ 60 ∧ (strsD xs).shown.length ≤ sizeLine := by
  have all : ∀ l : List Str, (∀ x ∈ l, NmOk x) → fineAll (l.map .str) = true ∧ costAll (l.map .str) ≤ 84 * l.length := fun l => by
    induction l with
    | nil => exact fun _ => ⟨rfl, Nat.le_refl _⟩
    | cons x l ih =>
      intro h
      obtain ⟨z1, z2⟩ := ih fun y hy => h y (List.mem_cons_of_mem _ hy)
      obtain ⟨b1, b2⟩ := nm_fine (h x List.mem_cons_self)
      refine ⟨?_, ?_⟩
      · rw [List.map_cons]
        unfold fineAll
        rw [b1, z1]
        rfl
      · rw [List.map_cons, List.length_cons]
        unfold costAll
        omega
  obtain ⟨z1, z2⟩ := all xs h
  have f : fineD (strsD xs) = true := z1
  have c := shown_cost _ f
  have e : cost (strsD xs) = costAll (xs.map .str) + 3 := rfl
  have d : PyData.depthAll (xs.map .str) ≤ 1 := by
    clear z1 z2 f c e h hl
    induction xs with
    | nil => simp [PyData.depthAll]
    | cons s l ih => rw [List.map_cons]; simp only [PyData.depthAll, PyData.depth] at *; omega
  obtain ⟨s1, s2⟩ := fine_show _ f
  refine ⟨s1, s2, ?_, Nat.le_trans c (Nat.le_trans (show _ ≤ 100000 by omega) (by decide))⟩
  simp only [strsD, PyData.depth]
  omega
theorem ups_same {a b : List Str} (ha : a.Pairwise sl) (hb : b.Pairwise sl) (h : ∀ y, y ∈ a ↔ y ∈ b) : a = b := by
  have na : a.Nodup := ha.imp fun {x y} (h : sl x y) (e : x = y) => sl_irr y (by rw [e] at h; exact h)
  have nb : b.Nodup := hb.imp fun {x y} (h : sl x y) (e : x = y) => sl_irr y (by rw [e] at h; exact h)
  have hp : a.Perm b := (List.perm_ext_iff_of_nodup na nb).mpr h
  exact List.Perm.eq_of_pairwise (le := fun x y => sl x y) (fun x y _ _ h1 h2 => (sl_as h1 h2).elim) ha hb hp
theorem ints_all' {K : PySem.W.Frag} {H : Hp} : ∀ ns : List Int, DpAll K H (ns.map V.int) (ns.map .int)
  | [] => .nil
  | n :: ns => .cons (.int n) (ints_all' ns)
theorem ints_plain (ns : List Int) : (PyData.list (ns.map .int)).plain = true := by
  have all : PyData.plainAll (ns.map .int) = true := by
    induction ns with
    | nil => rfl
    | cons n l ih => rw [List.map_cons]; simp only [PyData.plainAll, PyData.plain, ih, Bool.and_self]
  exact all
theorem ints_depth (ns : List Int) : (PyData.list (ns.map .int)).depth ≤ 60 := by
  have d : PyData.depthAll (ns.map .int) ≤ 1 := by
    induction ns with
    | nil => simp [PyData.depthAll]
    | cons s l ih => rw [List.map_cons]; simp only [PyData.depthAll, PyData.depth] at *; omega
  simp only [PyData.depth]
  omega
theorem strs_all {K : PySem.W.Frag} {H : Hp} : ∀ xs : List Str, DpAll K H (xs.map V.str) (xs.map .str)
  | [] => .nil
  | x :: xs => .cons (.str x) (strs_all xs)
theorem strs_alike (xs : List Str) : PySem.W.AllAlike (xs.map .str) := by
  intro d hd e he
  obtain ⟨a, _, rfl⟩ := List.mem_map.mp hd
  obtain ⟨b, _, rfl⟩ := List.mem_map.mp he
  rfl
theorem strs_sortable (xs : List Str) : PySem.W.Sortable (xs.map .str) := by
  refine Or.inr fun d hd => ?_
  obtain ⟨a, _, rfl⟩ := List.mem_map.mp hd
  exact ⟨nofun, nofun⟩
theorem strs_flat (xs : List Str) : ∀ d ∈ xs.map PyData.str, d.depth ≤ 60 := by
  intro d hd
  obtain ⟨a, _, rfl⟩ := List.mem_map.mp hd
  exact Nat.zero_le _
/-! ### how an office is drawn -/
theorem sort_ed {H : Hp} {ps : List Addr} {rs : List Ed} (h : Rds H ps rs) : ∃ (qs : List Addr) (es : List Ed), sortD (ps.map V.ref) (rs.map edD) = qs.map V.ref ∧ Rds H qs es ∧ es.length = rs.length ∧ ∀ e ∈ es, e ∈ rs := by
  have hl := h.len
  have e1 : ((ps.map V.ref).zip (rs.map edD)) = (ps.zip rs).map (fun x => (V.ref x.1, edD x.2)) := by
    rw [List.zip_map]
    rfl
  refine ⟨((ps.zip rs).mergeSort (fun x y => PySem.W.dataLe false Prod.snd (V.ref x.1, edD x.2) (V.ref y.1, edD y.2))).map Prod.fst, ((ps.zip rs).mergeSort (fun x y => PySem.W.dataLe false Prod.snd (V.ref x.1, edD x.2) (V.ref y.1, edD y.2))).map Prod.snd, ?_, ?_, ?_, fun e he => ?_⟩
  · unfold sortD
    rw [e1, ← PySem.W.sort_maps (r := fun x y => PySem.W.dataLe false Prod.snd (V.ref x.1, edD x.2) (V.ref y.1, edD y.2)) (fun x : Addr × Ed => (V.ref x.1, edD x.2)) (fun _ _ _ _ => rfl), List.map_map, List.map_map]
    rfl
  · have at_ : ∀ x ∈ ps.zip rs, H x.1 = some (.tup (edV x.2)) := by
      clear e1 hl
      induction h with
      | nil => exact fun x hx => nomatch hx
      | cons a b ih =>
        intro x hx
        rcases List.mem_cons.mp hx with z | z
        · subst z
          exact a
        · exact ih x z
    have all : ∀ l : List (Addr × Ed), (∀ x ∈ l, H x.1 = some (.tup (edV x.2))) → Rds H (l.map Prod.fst) (l.map Prod.snd) := fun l => by
      induction l with
      | nil => exact fun _ => .nil
      | cons x l ih => exact fun k => .cons (k x List.mem_cons_self) (ih fun y hy => k y (List.mem_cons_of_mem _ hy))
    exact all _ fun x hx => at_ x (List.mem_mergeSort.mp hx)
  · rw [List.length_map, List.length_mergeSort, List.length_zip]
    omega
  · obtain ⟨x, hx, rfl⟩ := List.mem_map.mp he
    exact (List.of_mem_zip (List.mem_mergeSort.mp hx)).2
theorem eds_alike (rs : List Ed) : PySem.W.AllAlike (rs.map edD) := by
  intro d hd e he
  obtain ⟨a, _, rfl⟩ := List.mem_map.mp hd
  obtain ⟨b, _, rfl⟩ := List.mem_map.mp he
  simp [edD, PySem.W.alike, PySem.W.alikeAll]
theorem eds_sortable (rs : List Ed) : PySem.W.Sortable (rs.map edD) := by
  refine Or.inl fun d hd => ?_
  obtain ⟨a, _, rfl⟩ := List.mem_map.mp hd
  exact ⟨_, _, rfl⟩
theorem eds_flat (rs : List Ed) : ∀ d ∈ rs.map edD, d.depth ≤ 60 := by
  intro d hd
  obtain ⟨a, _, rfl⟩ := List.mem_map.mp hd
  simp [edD, PyData.depth, PyData.depthAll]
theorem eds_depth (E : List Ed) : (PyData.list (E.map edD)).depth ≤ 60 := by
  have d2 : PyData.depthAll (E.map edD) ≤ 3 := by
    induction E with
    | nil => simp [PyData.depthAll]
    | cons s l ih => rw [List.map_cons]; simp only [PyData.depthAll, edD, PyData.depth] at *; omega
  simp only [PyData.depth]
  omega
theorem Rds.mk1 {H : Hp} {p : Addr} {e : Ed} (h : H p = some (.tup (edV e))) : Rds H [p] [e] := .cons h .nil
theorem Wts.mk1 {H : Hp} {p : Addr} {e : Wt} (h : H p = some (.tup (wtV e))) : Wts H [p] [e] := .cons h .nil
theorem few8 {d : Int} (h0 : 0 ≤ d) (h1 : d < 8) : ∃ k : Int, 2 ≤ k ∧ k ≤ 8 ∧ atI [V.int 2, .int 3, .int 4, .int 5, .int 3, .int 4, .int 8, .int 6] d = some (.int k) := by
  rcases (show d = 0 ∨ d = 1 ∨ d = 2 ∨ d = 3 ∨ d = 4 ∨ d = 5 ∨ d = 6 ∨ d = 7 by omega) with rfl | rfl | rfl | rfl | rfl | rfl | rfl | rfl <;> exact ⟨_, by decide, by decide, rfl⟩
theorem few4 {d : Int} (h0 : 0 ≤ d) (h1 : d < 4) : ∃ k : Int, 1 ≤ k ∧ k ≤ 9 ∧ atI [V.int 1, .int 3, .int 7, .int 9] d = some (.int k) := by
  rcases (show d = 0 ∨ d = 1 ∨ d = 2 ∨ d = 3 by omega) with rfl | rfl | rfl | rfl <;> exact ⟨_, by decide, by decide, rfl⟩
theorem fewW {d m : Int} (h0 : 0 ≤ d) (h1 : d < 4) (m0 : 0 ≤ m) (m1 : m < 1000) : ∃ k : Int, 0 ≤ k ∧ k ≤ 1000000 ∧ atI [V.int 1, .int 5, .int 1000000, .int (1 + m)] d = some (.int k) := by
  rcases (show d = 0 ∨ d = 1 ∨ d = 2 ∨ d = 3 by omega) with rfl | rfl | rfl | rfl
  · exact ⟨1, by decide, by decide, rfl⟩
  · exact ⟨5, by decide, by decide, rfl⟩
  · exact ⟨1000000, by decide, by decide, rfl⟩
  · exact ⟨1 + m, by omega, by omega, rfl⟩
def gSer : List Str := [("a" : String), ("aa" : String), ("none" : String), ("x" : String)]
theorem gs_ok : ∀ x ∈ gSer, NmOk x := by
  intro x hx
  simp only [gSer, List.mem_cons, List.not_mem_nil, or_false] at hx
  rcases hx with rfl | rfl | rfl | rfl <;> exact ⟨by decide +kernel, by decide +kernel⟩
/-! ### what is apart: the law's own going by way of each place -/
def ap1 (E : List Ed) : Ap := fun x y => if (x, y) ∈ E then some 1 else none
def ap0 (E : List Ed) (pl : List Str) : Ap := fun x y => if x = y ∧ x ∈ pl then some 0 else ap1 E x y
theorem fw_init {E : List Ed} {pl : List Str} (mem : ∀ y, y ∈ pl ↔ plc E y) : FwOk E (plc E) (fun z => z ∈ pl.take 0) (ap0 E pl) where
  sound := fun x y n e => by
    unfold ap0 at e
    split at e
    · rename_i h
      cases Option.some.inj e
      exact h.1
    · unfold ap1 at e
      split at e
      · rename_i h
        cases Option.some.inj e
        exact ⟨x, rfl, h⟩
      · cases e
  refl := fun x hx => by
    unfold ap0
    rw [if_pos ⟨rfl, (mem x).mpr hx⟩]
  edge := fun x y h => by
    unfold ap0
    by_cases c : x = y ∧ x ∈ pl
    · rw [if_pos c]
      exact ⟨0, rfl, by decide⟩
    · rw [if_neg c]
      unfold ap1
      rw [if_pos h]
      exact ⟨1, rfl, Nat.le_refl _⟩
  tri := fun z hz => by
    rw [List.take_zero] at hz
    exact nomatch hz
  dom := fun x y n e => by
    unfold ap0 at e
    split at e
    · rename_i h
      have z := (mem x).mp h.2
      rw [← h.1]
      exact ⟨z, z⟩
    · unfold ap1 at e
      split at e
      · rename_i h
        exact ⟨.inr ⟨(x, y), h, .inl rfl⟩, .inr ⟨(x, y), h, .inr rfl⟩⟩
      · cases e
theorem ap1_put {E : List Ed} {i : Nat} {e : Ed} {kvs : List (List Key × V)} (hi : E[i]? = some e) (h : apOf (ap1 (E.take i)) kvs) : apOf (ap1 (E.take (i + 1))) (putK kvs [Sum.inr e.1, Sum.inr e.2] (.int ((1 : Nat) : Int))) := by
  obtain ⟨hl, he⟩ := List.getElem?_eq_some_iff.mp hi
  have e1 : E.take (i + 1) = E.take i ++ [e] := by rw [List.take_succ_eq_append_getElem hl, he]
  refine apOf_put h ?_ fun u v n => ?_
  · unfold ap1
    rw [if_pos (by rw [e1]; exact List.mem_append_right _ List.mem_cons_self)]
  · unfold ap1
    have z : (u, v) ∈ E.take (i + 1) ↔ (u, v) ∈ E.take i := by
      rw [e1, List.mem_append, List.mem_singleton]
      refine ⟨fun h => h.elim id fun z => (n ?_).elim, .inl⟩
      rw [← z]
      exact ⟨rfl, rfl⟩
    by_cases c : (u, v) ∈ E.take i
    · rw [if_pos c, if_pos (z.mpr c)]
    · rw [if_neg c, if_neg (fun k => c (z.mp k))]
theorem ap0_zero (E : List Ed) : ap0 E [] = ap1 E := by
  funext x y
  unfold ap0
  rw [if_neg (fun h => nomatch h.2)]
theorem ap0_put {E : List Ed} {pl : List Str} {i : Nat} {s : Str} {kvs : List (List Key × V)} (hi : pl[i]? = some s) (h : apOf (ap0 E (pl.take i)) kvs) : apOf (ap0 E (pl.take (i + 1))) (putK kvs [Sum.inr s, Sum.inr s] (.int ((0 : Nat) : Int))) := by
  obtain ⟨hl, he⟩ := List.getElem?_eq_some_iff.mp hi
  have e1 : pl.take (i + 1) = pl.take i ++ [s] := by rw [List.take_succ_eq_append_getElem hl, he]
  refine apOf_put h ?_ fun u v n => ?_
  · unfold ap0
    rw [if_pos ⟨rfl, by rw [e1]; exact List.mem_append_right _ List.mem_cons_self⟩]
  · unfold ap0
    have z : (u = v ∧ u ∈ pl.take (i + 1)) ↔ (u = v ∧ u ∈ pl.take i) := by
      rw [e1, List.mem_append, List.mem_singleton]
      refine ⟨fun h => ⟨h.1, h.2.elim id fun z => (n ?_).elim⟩, fun h => ⟨h.1, .inl h.2⟩⟩
      exact ⟨z, h.1.symm.trans z⟩
    by_cases c : u = v ∧ u ∈ pl.take i
    · rw [if_pos c, if_pos (z.mpr c)]
    · rw [if_neg c, if_neg (fun k => c (z.mp k))]
/-- c stands between d and the step by v -/
def MidA (d : Ap) (v : Str) (c : Ap) : Prop := ∀ x y, c x y = d x y ∨ c x y = fwStep d v x y
theorem MidA.col {d : Ap} {v : Str} {c : Ap} (h : MidA d v c) (r : d v v = some 0) (x : Str) : c x v = d x v := by
  rcases h x v with z | z
  · exact z
  · rw [z, fw_col r]
theorem MidA.row {d : Ap} {v : Str} {c : Ap} (h : MidA d v c) (r : d v v = some 0) (y : Str) : c v y = d v y := by
  rcases h v y with z | z
  · exact z
  · rw [z, fw_row r]
theorem MidA.none {d : Ap} {v : Str} {c : Ap} (h : MidA d v c) {x y : Str} (k : d x v = none ∨ d v y = none) : c x y = fwStep d v x y := by
  rcases h x y with z | z
  · rw [z, fw_none k]
  · exact z
theorem MidA.min {d : Ap} {v : Str} {c : Ap} (h : MidA d v c) {x y : Str} {a b : Nat} (k1 : d x v = some a) (k2 : d v y = some b) : fwMin (c x y) (a + b) = fwMin (d x y) (a + b) := by
  rcases h x y with z | z
  · rw [z]
  · rw [z, fw_val k1 k2, fwMin_again]
/-- c with the step at one pair -/
def putA (d : Ap) (v : Str) (c : Ap) (x y : Str) : Ap := fun u w => if u = x ∧ w = y then fwStep d v x y else c u w
theorem putA_mid {d : Ap} {v : Str} {c : Ap} (h : MidA d v c) (x y : Str) : MidA d v (putA d v c x y) := fun u w => by
  unfold putA
  by_cases k : u = x ∧ w = y
  · rw [if_pos k, k.1, k.2]
    exact .inr rfl
  · rw [if_neg k]
    exact h u w
theorem putA_at {d : Ap} {v : Str} {c : Ap} (x y : Str) : putA d v c x y x y = fwStep d v x y := by
  unfold putA
  rw [if_pos ⟨rfl, rfl⟩]
theorem putA_done {d : Ap} {v : Str} {c : Ap} {x y u w : Str} (h : c u w = fwStep d v u w) : putA d v c x y u w = fwStep d v u w := by
  unfold putA
  by_cases k : u = x ∧ w = y
  · rw [if_pos k, k.1, k.2]
  · rw [if_neg k, h]
theorem putA_else {d : Ap} {v : Str} {c : Ap} {x y u w : Str} (k : ¬ (u = x ∧ w = y)) : putA d v c x y u w = c u w := by
  unfold putA
  rw [if_neg k]
theorem apOf_step {d : Ap} {v : Str} {c : Ap} {kvs : List (List Key × V)} {x y : Str} {a b : Nat} (h : apOf c kvs) (m : MidA d v c) (k1 : d x v = some a) (k2 : d v y = some b) : apOf (putA d v c x y) (putK kvs [Sum.inr x, Sum.inr y] (.int ((fwMin (c x y) (a + b) : Nat) : Int))) :=
  apOf_put h (by rw [putA_at, fw_val k1 k2, m.min k1 k2]) fun _ _ n => putA_else n
theorem putK_le (kvs : List (List Key × V)) (k : List Key) (v : V) : (putK kvs k v).length ≤ kvs.length + 1 := length_putK kvs k v
/-- min of what is there, or else the new one, and the new one -/
theorem min_fw (o : Option Nat) (n : Nat) : (if (n : Int) < (match o with | some c => (c : Int) | none => (n : Int)) then (n : Int) else (match o with | some c => (c : Int) | none => (n : Int))) = ((fwMin o n : Nat) : Int) := by
  cases o with
  | none =>
    show (if (n : Int) < n then (n : Int) else n) = _
    rw [if_neg (Int.lt_irrefl _)]
    rfl
  | some c =>
    show (if (n : Int) < c then (n : Int) else c) = ((if n < c then n else c : Nat) : Int)
    split <;> split <;> omega
def gI (o : Option Nat) (n : Int) : Int := match o with
  | some c => (c : Int)
  | none => n
theorem getD_int (o : Option Nat) (n : Int) : (o.map fun (n : Nat) => V.int n).getD (.int n) = .int (gI o n) := by
  cases o <;> rfl
theorem min_gI (o : Option Nat) (a b : Nat) : (if ((a : Int) + (b : Int)) < gI o ((a : Int) + (b : Int)) then ((a : Int) + (b : Int)) else gI o ((a : Int) + (b : Int))) = ((fwMin o (a + b) : Nat) : Int) := by
  have z := min_fw o (a + b)
  rw [Int.natCast_add] at z
  exact z
theorem filt_take {F : Str → Bool} {pl : List Str} {j : Nat} {s : Str} (h : pl[j]? = some s) : (pl.take (j + 1)).filter F = (pl.take j).filter F ++ if F s = true then [s] else [] := by
  obtain ⟨hj, es⟩ := List.getElem?_eq_some_iff.mp h
  rw [List.take_succ_eq_append_getElem hj, List.filter_append, es]
  congr 1
  by_cases c : F s = true
  · rw [if_pos c, List.filter_cons_of_pos c]
    rfl
  · rw [if_neg c, List.filter_cons_of_neg c]
    rfl
theorem ap_get {c : Ap} {kvs : List (List Key × V)} {H : Hp} {A u : Addr} {x y : Str} (h : apOf c kvs) (hA : H A = some (.dT kvs)) (hu : H u = some (.tup [.str x, .str y])) : DGet H A (.ref u) ((c x y).map fun (n : Nat) => V.int n) := by
  have z := DGet.t (k := [Sum.inr x, Sum.inr y]) hA hu
  rw [h x y] at z
  exact z
theorem ap_some {c : Ap} {kvs : List (List Key × V)} {H : Hp} {A u : Addr} {x y : Str} {n : Nat} (h : apOf c kvs) (hA : H A = some (.dT kvs)) (hu : H u = some (.tup [.str x, .str y])) (e : c x y = some n) : DGet H A (.ref u) (some (.int n)) := by
  have z := ap_get h hA hu
  rw [e] at z
  exact z
/-! ### Refusals: a class of the text over ValueError that keeps what it is made of -/
def clsBody : Stmt → List Stmt
  | .ClassDef _ _ _ b _ _ _ _ _ _ _ => b
  | _ => []
def oexB (K : PySem.W.Frag) (C : Addr) : Bool := match K.lookup C with
  | some ⟨c, _, .cls cd, sl⟩ => decide (c = .type "type") && (match cd.mro, sl.toList with
    | .ref D :: bm, [_, _, _, _, some (.builtin n), _] => decide (D = C) && (decide (n = "ValueError.__new__") && (PySem.HandSPX.refsVE bm && (cd.hasDict && !cd.hasDel)))
    | _, _ => false)
  | _ => false
theorem oexB_ok {K : PySem.W.Frag} {C : Addr} (h : oexB K C = true) : ∃ nm q N bs bm sn sub ab col dd k0 k1 k2 k3 k5,
    K.lookup C = some (excClassObj nm q C N bs bm true sn sub ab col dd k0 k1 k2 k3 k5 "ValueError.__new__") ∧ PySem.HandSPX.refsVE bm = true := by
  unfold oexB at h
  split at h
  · rename_i c dd cd sl e
    obtain ⟨h1, h2⟩ := Bool.and_eq_true_iff.mp h
    split at h2
    · rename_i D bm k0 k1 k2 k3 n k5 em es
      obtain ⟨h3, h2⟩ := Bool.and_eq_true_iff.mp h2
      obtain ⟨h4, h2⟩ := Bool.and_eq_true_iff.mp h2
      obtain ⟨h5, h2⟩ := Bool.and_eq_true_iff.mp h2
      obtain ⟨h6, h7⟩ := Bool.and_eq_true_iff.mp h2
      have z1 := of_decide_eq_true h1
      have z3 := of_decide_eq_true h3
      have z4 := of_decide_eq_true h4
      have z7 : cd.hasDel = false := by simpa using h7
      obtain ⟨nm, bs, mro, ns, qn, hd, sn, sub, ab, col, del⟩ := cd
      dsimp only at em h6 z7
      obtain ⟨l⟩ := sl
      dsimp only at es
      subst z1 z3 z4 em h6 z7 es
      exact ⟨nm, qn, ns, bs, bm, sn, sub, ab, col, dd, k0, k1, k2, k3, k5, e, h5⟩
    · cases h2
  · cases h
/-- what stands of the class x (one field f), caught by the class y, the classes zs others -/
structure Rf (K : PySem.W.Frag) (x f y : Str) (zs : List Str) : Prop where
  o : OexC K (He.ga K x)
  xf : XfC K (He.ga K x)
  no : PySem.W.findIn K (.ref (He.ga K x)) f = some none
  iC : PySem.W.findIn K (.ref (He.ga K x)) "__init__" = some (some (.ref (He.ma K (He.ga K x) "__init__")))
  tI : PySem.W.typeIn K (.ref (He.ma K (He.ga K x) "__init__")) = some (.type "function")
  cl : (PySem.W.clsIn K (He.ga K x)).isSome = true
  ha : PySem.W.findIn K (.ref (He.ga K x)) "__class__" = some (some (.builtin "object.__class__"))
  hn : PySem.W.specialIn K (.builtin "object.__class__") "__get__" = some (some (.builtin "getset_descriptor.__get__"))
  ht : PySem.W.takesIn K (.builtin "object.__class__") = some true
  hm : PySem.W.mroIn K (He.ga K x) (.type "object") = some true
  ex : PySem.W.exmOne K (.ref (He.ga K x)) (.ref (He.ga K y)) = some true
  isV : PySem.W.kitOne K (.ref (He.ga K x)) (.type "ValueError") = some true
  isO : PySem.W.kitAny K (.ref (He.ga K x)) (zs.map fun z => .ref (He.ga K z)) = some false
def rfB (K : PySem.W.Frag) (x f y : Str) (zs : List Str) : Bool :=
  oexB K (He.ga K x) && (He.eqO (PySem.W.findIn K (.ref (He.ga K x)) "__setattr__") (some (some (.builtin "object.__setattr__"))) && (decide (PySem.W.typeIn K (.ref (He.ga K x)) = some (.type "type")) && (PySem.W.keepIn K (.ref (He.ga K x)) &&
  (xfB K (He.ga K x) && (He.eqO (PySem.W.findIn K (.ref (He.ga K x)) f) (some none) && (He.eqO (PySem.W.findIn K (.ref (He.ga K x)) "__init__") (some (some (.ref (He.ma K (He.ga K x) "__init__")))) &&
  (decide (PySem.W.typeIn K (.ref (He.ma K (He.ga K x) "__init__")) = some (.type "function")) && ((PySem.W.clsIn K (He.ga K x)).isSome && (He.eqO (PySem.W.findIn K (.ref (He.ga K x)) "__class__") (some (some (.builtin "object.__class__"))) &&
  (He.eqO (PySem.W.specialIn K (.builtin "object.__class__") "__get__") (some (some (.builtin "getset_descriptor.__get__"))) && (decide (PySem.W.takesIn K (.builtin "object.__class__") = some true) && (decide (PySem.W.mroIn K (He.ga K x) (.type "object") = some true) &&
  (decide (PySem.W.exmOne K (.ref (He.ga K x)) (.ref (He.ga K y)) = some true) && (decide (PySem.W.kitOne K (.ref (He.ga K x)) (.type "ValueError") = some true) && decide (PySem.W.kitAny K (.ref (He.ga K x)) (zs.map fun z => .ref (He.ga K z)) = some false)))))))))))))))
theorem rfB_ok {K : PySem.W.Frag} {x f y : Str} {zs : List Str} (h : rfB K x f y zs = true) : Rf K x f y zs := by
  obtain ⟨h1, h⟩ := Bool.and_eq_true_iff.mp h
  obtain ⟨h2, h⟩ := Bool.and_eq_true_iff.mp h
  obtain ⟨h3, h⟩ := Bool.and_eq_true_iff.mp h
  obtain ⟨h4, h⟩ := Bool.and_eq_true_iff.mp h
  obtain ⟨h5, h⟩ := Bool.and_eq_true_iff.mp h
  obtain ⟨h6, h⟩ := Bool.and_eq_true_iff.mp h
  obtain ⟨h7, h⟩ := Bool.and_eq_true_iff.mp h
  obtain ⟨h8, h⟩ := Bool.and_eq_true_iff.mp h
  obtain ⟨h9, h⟩ := Bool.and_eq_true_iff.mp h
  obtain ⟨h10, h⟩ := Bool.and_eq_true_iff.mp h
  obtain ⟨h11, h⟩ := Bool.and_eq_true_iff.mp h
  obtain ⟨h12, h⟩ := Bool.and_eq_true_iff.mp h
  obtain ⟨h13, h⟩ := Bool.and_eq_true_iff.mp h
  obtain ⟨h14, h⟩ := Bool.and_eq_true_iff.mp h
  obtain ⟨h15, h16⟩ := Bool.and_eq_true_iff.mp h
  have xf := xfB_ok h5
  exact ⟨⟨oexB_ok h1, He.eqO_ok h2, xf.exC, of_decide_eq_true h3, h4⟩, xf, He.eqO_ok h6, He.eqO_ok h7, of_decide_eq_true h8, h9, He.eqO_ok h10, He.eqO_ok h11, of_decide_eq_true h12, of_decide_eq_true h13, of_decide_eq_true h14, of_decide_eq_true h15, of_decide_eq_true h16⟩
/-- what __init__ does: self.f = what it is given -/
def spIn (C : Addr) (f : Str) : Sp := fun vs H Q _ => ∃ (a : Addr) (x : V), vs = [.ref a, x] ∧ H a = some (exo a C none) ∧
  ∀ dx, H dx = none → dx ≠ a → Q .non (upd (upd H dx (exd dx [(f, x)])) a (exo a C (some dx)))
theorem init_ok {P : Program} {w : World} {K : PySem.W.Frag} {mg : Str → Option Value} {base : Heap} {qual f : Str} {st : Stmt} {fI C : Addr} {fd : FuncData} {N : List Str} {ps : List Str} {k : Nat} (F : Fun K "__init__" qual st fI fd) (S : FnScope N ps (defScope st)) (hp : ps.length = 2)
    (T : OexC K C) (no : PySem.W.findIn K (.ref C) f = some none)
    (hb : ∀ (X : Cx), X.N = N → X.K = K → X.env.scope = defScope st → PSs X (defBody st) (tOst X.K f (tVar 0) (tVar 1))) (hN : N = ps) : FnOk P w K mg base CX0 (k + 1) fI fd ps (spIn C f) := by
  refine F.ok S (fun vs H Q E h => ?_) (fun cdv A outer s H vs Q E hr h => ?_)
  · obtain ⟨a, x, rfl, _⟩ := h
    exact hp.symm
  · obtain ⟨a, x, rfl, ha, q⟩ := h
    refine ⟨_, hb _ rfl rfl rfl, ?_⟩
    subst hN
    match N, hp with
    | [n1, n2], _ => exact ⟨_, rfl, _, rfl, a, C, rfl, T, no, Or.inl ⟨ha, q⟩⟩
theorem mk_read {C : Addr} {f : Str} {v : V} {H : Hp} {Q : XK} (h : ∀ d H', H d = none → Same H H' → H' d = some (.xd [(f, v)]) → Q (.ref C) (some d) H') :
    [v].length ≤ 1000 ∧ ∀ a, H a = none → spIn C f (.ref a :: ([v] ++ [])) (upd H a (exo a C none))
      (fun u H2 => u = .non ∧ ∃ (d : Addr) (fs : List (Str × V)), H2 a = some (exo a C (some d)) ∧ H2 d = some (exd d fs) ∧ H d = none ∧ Q (.ref C) (some d) (upd (del H2 a) d (.xd fs))) (fun _ _ _ => False) := by
  refine ⟨(show 1 ≤ 1000 by decide), fun a ha => ⟨a, v, rfl, upd_same, fun dx hdx ne => ?_⟩⟩
  rw [upd_ne ne] at hdx
  refine ⟨rfl, dx, [(f, v)], upd_same, (upd_ne ne).trans upd_same, hdx, h dx _ hdx (fun b o e => ?_) upd_same⟩
  have n1 : b ≠ dx := ne_of_none e hdx
  have n2 : b ≠ a := ne_of_none e ha
  rw [upd_ne n1, del_ne n2, upd_ne n2, upd_ne n1, upd_ne n2]
  exact e
theorem PSs.as {X : Cx} {b : List Stmt} {t u : TS} (h : PSs X b t) (e : t = u) : PSs X b u := e ▸ h
section
variable {Y : Cx} {a : Addr} {oe : Obj} {cls : Value} {d : Option Addr} {x f y : Str} {zs : List Str}
theorem inst_at {C : Addr} {pins : List (Addr × Obj)} {σ : L2.St} {H : Hp} {s : Shared} {dd : Addr} {fs : List (Str × V)} (hp : (a, oe) ∈ Y.pn) (hz : Zc (.ref C) (some dd) oe) (hf : ∃ vs, oe.data = .fields vs) (I : Inv Y pins σ H s) (e : H dd = some (.xd fs)) :
    ∃ od, PySem.W.InstAt s.heap a oe C (some od) ∧ ∃ mA : Str → Option Value, (∀ g, RelO (fs.lookup g) (mA g)) ∧ ∀ n, PySem.W.lookIn n od = some (mA n) := by
  obtain ⟨ha, _⟩ := I.pin (a, oe) (List.mem_append_left _ hp)
  obtain ⟨vs, hd⟩ := hf
  have hx : ObjOk Y.prog Y.w H s.heap dd (.xd fs) := I.hok dd _ e
  obtain ⟨mA, hns, hr⟩ := hx
  obtain ⟨od, ho, hl⟩ := lookIn_ns hns
  exact ⟨od, ⟨ha, hz.1, by unfold PySem.W.notCls; rw [hd] <;> rfl, by rw [hz.2]; exact ho⟩, mA, hr, hl⟩
/-- isinstance(e, c), e the refusal that the suite holds -/
def rIs1 (K : PySem.W.Frag) (x : Str) (a : Addr) (cls : Value) (d : Option Addr) : List V → Hp → VK → Prop := fun xs H Q => cls = .ref (He.ga K x) ∧ ∃ (dd : Addr) (fs : List (Str × V)) (c : V) (cv : Value) (b : Bool), d = some dd ∧ H dd = some (.xd fs) ∧
  xs = [.ref a, c] ∧ (∀ u, RelV c u → u = cv) ∧ PySem.W.kitOne K (.ref (He.ga K x)) cv = some b ∧ Q (.bl b) H
theorem call_is1 {K : PySem.W.Frag} (hK : Y.K = K) (R : Rf K x f y zs) (hz : Zc cls d oe) (hf : ∃ vs, oe.data = .fields vs) (hp : (a, oe) ∈ Y.pn) : CallR Y (.builtin "isinstance") (rIs1 K x a cls d) := by
  subst hK
  intro pins s σ H xs us Q I r h
  obtain ⟨rfl, dd, fs, c, cv, b, rfl, hd, rfl, hcv, e, q⟩ := h
  obtain ⟨u1, u2, rfl, r1, r2⟩ := vals2 r
  obtain rfl : u1 = Value.ref a := r1
  have z := hcv _ r2
  subst z
  obtain ⟨od, J, _⟩ := inst_at hp hz hf I hd
  exact PySem.W.kia_one (PySem.W.kitx_exc (od := some od) R.cl R.xf.ga R.xf.gg R.xf.exC R.ha R.hn R.ht R.hm) I.kIn J e (fun z => nomatch z) fun tk => ⟨.bl b, H, I.kept (t' := tk) fun _ _ z => z, rfl, q⟩
theorem vals_refs : ∀ {cs : List Addr} {us : List Value}, Vals (cs.map V.ref) us → us = cs.map Value.ref
  | [], _, .nil => rfl
  | c :: cs, _, .cons r t => by
    have e : _ = Value.ref c := r
    rw [e, vals_refs t]
    rfl
/-- isinstance(e, (c, ..)) -/
def rIsN (K : PySem.W.Frag) (x : Str) (a : Addr) (cls : Value) (d : Option Addr) : List V → Hp → VK → Prop := fun xs H Q => cls = .ref (He.ga K x) ∧ ∃ (dd : Addr) (fs : List (Str × V)) (tp : Addr) (cs : List Addr) (b : Bool), d = some dd ∧ H dd = some (.xd fs) ∧
  xs = [.ref a, .ref tp] ∧ H tp = some (.tup (cs.map V.ref)) ∧ PySem.W.kitAny K (.ref (He.ga K x)) (cs.map Value.ref) = some b ∧ Q (.bl b) H
theorem call_isN {K : PySem.W.Frag} (hK : Y.K = K) (R : Rf K x f y zs) (hz : Zc cls d oe) (hf : ∃ vs, oe.data = .fields vs) (hp : (a, oe) ∈ Y.pn) : CallR Y (.builtin "isinstance") (rIsN K x a cls d) := by
  subst hK
  intro pins s σ H xs us Q I r h
  obtain ⟨rfl, dd, fs, tp, cs, b, rfl, hd, rfl, hT, e, q⟩ := h
  obtain ⟨u1, u2, rfl, r1, r2⟩ := vals2 r
  obtain rfl : u1 = Value.ref a := r1
  obtain rfl : u2 = Value.ref tp := r2
  obtain ⟨od, J, _⟩ := inst_at hp hz hf I hd
  obtain ⟨_, its, rv, o, h1, h2, n, h3⟩ := (show ObjOk Y.prog Y.w H s.heap tp (.tup (cs.map V.ref)) from I.hok tp _ hT)
  have e3 := vals_refs rv
  subst e3
  obtain ⟨oc, od2, dt, sl⟩ := o
  simp only at h2 h3
  subst h2 h3
  exact PySem.W.kia_tup (PySem.W.kitx_exc (od := some od) R.cl R.xf.ga R.xf.gg R.xf.exC R.ha R.hn R.ht R.hm) I.kIn J h1 e (fun z => nomatch z) fun tk => ⟨.bl b, H, I.kept (t' := tk) fun _ _ z => z, rfl, q⟩
/-- e.f, e the refusal that the suite holds -/
def tFld (K : PySem.W.Frag) (x f : Str) (a : Addr) (cls : Value) (d : Option Addr) (te : TE) : TE := fun σ H Q => te σ H fun u H1 => u = .ref a ∧ cls = .ref (He.ga K x) ∧ ∃ (dd : Addr) (fs : List (Str × V)) (v : V), d = some dd ∧ H1 dd = some (.xd fs) ∧ fs.lookup f = some v ∧ Q v H1
theorem pe_fld {K : PySem.W.Frag} {e : Expr} {te : TE} {pos : Pos} (hK : Y.K = K) (R : Rf K x f y zs) (hz : Zc cls d oe) (hf : ∃ vs, oe.data = .fields vs) (hp : (a, oe) ∈ Y.pn) (he : PE Y e te) (hb : attributeBase e f Y.env (eval e Y.env) = eval e Y.env := by rfl) :
    PE Y (.Attribute e f pos) (tFld K x f a cls d te) := by
  subst hK
  refine ⟨fun pins s σ H Q I h => attr_of hb (thn (he.run pins s σ H _ I h) fun u s1 hh => ?_)⟩
  obtain ⟨z, H1, I1, rx, rfl, rfl, dd, fs, v, rfl, ea, l, q⟩ := hh
  obtain rfl : u = Value.ref a := rx
  obtain ⟨od, J, mA, hr, hl⟩ := inst_at hp hz hf I1 ea
  obtain ⟨u, hu, ru⟩ := RelO.some_of (v := v) (o := mA f) (by rw [← l]; exact hr f)
  exact HandSPX.exc_get I1.kIn J R.xf.ga R.xf.gg R.xf.exC (PySem.W.findObj_own R.xf.hdC R.no rfl (by rw [hl, hu])) (handed_of ru) ⟨v, H1, I1.tok _, ru, q⟩
end
theorem kit_self {K : PySem.W.Frag} {t : Value} : PySem.W.kitOne K t t = some true := by
  unfold PySem.W.kitOne
  rw [if_pos (beq_iff_eq.mpr rfl)]
theorem look1 {f : Str} {v : V} : List.lookup f [(f, v)] = some v := by simp [List.lookup]
/-! ### Generator expressions that are used up at once (all, any, sum): the element by the layer's rules, calls within it too -/
/-- a code object's table, however far it has grown -/
def tabP (P : Addr) : Heap → Prop := fun h => ∃ ps : Array Value, h.get? P = some { cls := .none, data := .fields ps } ∧ TriplesOk ps.toList
def TabO (P : Addr) : HO := .ext (tabP P)
theorem tab_obj {Pr : Program} {w : World} {H : Hp} {h : Heap} {P : Addr} (e : tabP P h) : ObjOk Pr w H h P (TabO P) := by
  obtain ⟨ps, h1, h2⟩ := e
  exact ⟨⟨ps, h1, h2⟩, ⟨_, h1⟩, fun a b ⟨qs, g1, g2⟩ k => ⟨qs, k _ g1, g2⟩⟩
theorem inv_gens {X : Cx} {pins : List (Addr × Obj)} {σ : L2.St} {H : Hp} {s : Shared} {G : Array GenState} (I : Inv X pins σ H s) (hg : AllBare G) : Inv X pins σ H { s with gens := G } :=
  ⟨I.ok, I.os, hg, I.base, I.loc, I.cell, I.free, I.freeC, I.pin, I.hok, I.len⟩
theorem bare_set {s : Shared} {g : Nat} {x : GenState} (h : AllBare s.gens) (hx : x.bare = true) : AllBare (s.setGen g x).gens := by
  intro y hy
  obtain ⟨i, hi, rfl⟩ := Array.mem_iff_getElem.mp hy
  have hi2 : i < s.gens.size := by simpa [Shared.setGen] using hi
  by_cases e : g = i
  · subst e
    have z : (s.setGen g x).gens[g]? = some x := by simp [Shared.setGen, hi2]
    rw [Array.getElem?_eq_getElem hi] at z
    rw [Option.some.inj z]
    exact hx
  · have z : (s.setGen g x).gens[i]? = s.gens[i]? := by simp [Shared.setGen, e]
    rw [Array.getElem?_eq_getElem hi, Array.getElem?_eq_getElem hi2] at z
    rw [Option.some.inj z]
    exact h _ (Array.getElem_mem hi2)
section
variable {X : Cx} {pins : List (Addr × Obj)} {σ : L2.St} {H : Hp} {s : Shared}
theorem inv_tabO {P : Addr} {h' : Heap} {t' : Nat} (I : Inv X pins σ H s) (hP : H P = some (TabO P)) (k : ∀ b o, b ≠ P → s.heap.get? b = some o → h'.get? b = some o) (new : tabP P h') :
    Inv X pins σ H { s with heap := h', toks := t' } := by
  have nN : ∀ b, H b = none → b ≠ P := fun b n z => by rw [z, hP] at n; cases n
  have nO : ∀ b y, H b = some (.own y) → b ≠ P := fun b y n z => by
    rw [z, hP] at n
    have z2 : HO.ext (tabP P) = HO.own y := Option.some.inj n
    cases z2
  refine I.step (g' := s.gens) (d' := s.drawn) (ch := []) (fun _ z => nomatch z) (fun b o _ _ _ e n => k b o (nN b n) e) (fun b o _ _ _ e n => ⟨o.slots, k b o (nN b n) e⟩) (fun _ _ _ _ n => n) (fun b o _ e => ?_)
    (fun _ _ e => e) (fun _ _ _ e => e) (fun b ps e => ⟨#[], by rw [e]; simp⟩) (fun m hm => ?_) (fun b u e => ?_) I.bare
  · by_cases hb : b = P
    · obtain ⟨ps, h1, _⟩ := new
      rw [hb]
      exact ⟨_, h1⟩
    · exact ⟨o, k b o hb e⟩
  · obtain ⟨ob, es, ep, ho, r⟩ := hm
    exact ⟨ob, es, ep, k _ ob (nN _ I.free) ho, r⟩
  · by_cases hb : b = P
    · rw [hb] at e ⊢
      rw [hP] at e
      cases e
      exact tab_obj new
    · refine (I.hok b u e).stay (fun d v hd q => k d v ?_ q) (fun _ q => q) fun _ _ q => q
      rcases hd with z | z
      · rw [z]
        exact hb
      · exact nO d _ z
/-- the context of a generator expression's frame, made at s -/
abbrev gblk (X : Cx) (s : Shared) (H : Hp) (cenv : Env) (fp : List Addr) : Cx :=
  { X with A := X.A.in1.in1.deeper cenv, s_0 := s, H_0 := H, env := cenv, outer := X.stack, stack := cenv :: X.stack, ex := fp, fn := fun _ => false, calm := true, pn := [], xe := fun _ _ => False }
abbrev gxEnv (X : Cx) (scope : Scope) (C : Addr) (code : Value) : Env := genEnv scope (cloFrom X.env.cells scope.names []) C code builtinsNs X.env
theorem gblk_start {scope : Scope} {own : List (Str × Nat)} {fp : List Addr} {code : Value} {h5 : Heap} {a : Addr} {go : Obj} {G5 : Array GenState} {tk : Nat} {m5 : Str → Option Value}
    (I : Inv X pins σ H s) (ok : BlkOk X.N X.env.scope scope own) (nc : ∀ y ∈ scope.names, y.2 ≠ .cell) (hN : X.N.Nodup) (hd : X.A.handled = none) (hfp : ∀ b ∈ fp, FpOk X pins H b ∧ b < s.heap.objs.size)
    (kp : ∀ b o, s.heap.get? b = some o → h5.get? b = some o) (ns : h5.Ns s.heap.objs.size m5) (bare : AllBare G5) (ha : h5.get? a = some go) (hax : s.heap.objs.size < a) (hgo : ∀ v, go.data ≠ .cell v) :
    Inv (gblk X s H (gxEnv X scope s.heap.objs.size code) fp) [(a, go)] (wipe σ (own.map (·.2))) H { s with heap := h5, gens := G5, toks := tk } := by
  have hfree : ∀ y ∈ scope.names, y.2 = .free → ∃ c, X.env.cells.lookup y.1 = some c := fun y hy e => by
    rcases ok.free y hy e with k | k
    · exact I.ok.has _ (.inl k)
    · exact I.ok.has _ (.inr k)
  generalize hcenv : gxEnv X scope s.heap.objs.size code = cenv
  have hL : cenv.locals = s.heap.objs.size := by rw [← hcenv]; rfl
  have hcl : cenv.cells = cloFrom X.env.cells scope.names [] := by rw [← hcenv]; rfl
  have hsc : cenv.scope = scope := by rw [← hcenv]; rfl
  have hfr : cenv.frame = some cenv.locals := by rw [← hcenv]; rfl
  have cm : ∀ {y c}, (y, c) ∈ cloFrom X.env.cells scope.names [] → X.env.cells.lookup y = some c ∧ c < s.heap.objs.size := fun {y c} hm => by
    rcases cloFrom_mem hm with hm | ⟨h1, rfl⟩
    · cases hm
    · obtain ⟨c, hc⟩ := hfree _ h1 rfl
      rw [hc]
      obtain ⟨w, z⟩ := I.cell _ _ hc
      exact ⟨rfl, z.lt⟩
  have mem : ∀ {y c}, cenv.cells.lookup y = some c → X.env.cells.lookup y = some c ∧ c < s.heap.objs.size := fun {y c} e => by
    rw [hcl] at e
    exact cm (PySem.mem_of_lookup e)
  have look : ∀ {y}, scope.names.lookup y = some .free → ∃ c, cenv.cells.lookup y = some c ∧ X.env.cells.lookup y = some c := fun {y} hl => by
    have hy : (y, NameKind.free) ∈ scope.names := PySem.mem_of_lookup hl
    obtain ⟨c', e'⟩ := mem_lookup (cloFrom_has (cells := X.env.cells) (acc := []) hy)
    exact ⟨c', by rw [hcl]; exact e', (cm (PySem.mem_of_lookup e')).1⟩
  have nostk : ∀ b, s.heap.objs.size ≤ b → b ∉ frs X.stack := fun b hb z => by
    rcases List.mem_cons.mp (I.stkSub b z) with z | z
    · have := I.lt
      rw [z] at hb
      exact absurd (Nat.lt_of_lt_of_le this hb) (Nat.lt_irrefl _)
    · exact I.nofs hb z
  have okB : (gblk X s H cenv fp).Ok := by
    refine ⟨I.ok.mod, by show cenv.scope.kind = _; rw [hsc]; exact ok.kind, by show cenv.globals = _; rw [← hcenv]; exact I.ok.glob, by show cenv.builtins = _; rw [← hcenv]; rfl, by show s.heap.objs.size ≤ cenv.locals; rw [hL]; exact Nat.le_refl _,
      fun y z c e1 e2 => I.ok.inj y z c (mem e1).1 (mem e2).1, fun y hy => ?_, fun y c z e => absurd z Bool.false_ne_true, fun _ => hd, Around.frames_deeper (A := X.A.in1.in1) I.ok.frames, .inr ⟨rfl, hfr⟩, fun b hb => ⟨?_, fun y c e z => (hfp b hb).1.2.2.2.2.1 y c (mem e).1 z⟩,
      I.bs, Nat.le_trans I.ok.bsz I.sz, fun b o e hb => ?_, fun b hb z => ?_, I.stack, I.stkFree⟩
    · have key : scope.names.lookup y = some .cell ∨ scope.names.lookup y = some .free → ∃ c, cenv.cells.lookup y = some c := fun hk => by
        rcases hk with hk | hk
        · exact absurd rfl (nc _ (PySem.mem_of_lookup hk))
        · obtain ⟨c, h1, _⟩ := look hk
          exact ⟨c, h1⟩
      have hy : cenv.scope.names.lookup y = some .cell ∨ cenv.scope.names.lookup y = some .free := hy
      rw [hsc] at hy
      exact key hy
    · show b ≠ cenv.locals
      rw [hL]; exact Nat.ne_of_lt (hfp b hb).2
    · rcases (hfp b hb).1.2.2.2.1 with z | z
      · exact I.ok.noex b o e z
      · exact absurd (Nat.lt_of_lt_of_le (Heap.lt_size e) (Nat.le_trans I.ok.bsz z)) (Nat.lt_irrefl _)
    · rcases List.mem_cons.mp (I.stkSub b z) with z | z
      · exact (hfp b hb).1.2.1 z
      · exact (hfp b hb).1.2.2.1 z
  refine ⟨okB, rfl, bare, Un.kept kp, ⟨m5, ?_, fun i y av e1 e2 e3 => ?_⟩, fun y c e => ?_, ?_, fun y c e => ?_, fun p hp => ?_, I.hok.kept kp, by rw [wipe_length]; exact I.len⟩
  · show Heap.Ns _ cenv.locals _
    rw [hL]
    exact ns
  · obtain ⟨e2, hne⟩ := wipe_some e2
    have e3 : Vis cenv.scope y := e3
    rw [hsc] at e3
    have no : ∀ k, scope.names.lookup y = some k → (k = .local ∨ k = .cell) → False := fun k hk hh => by
      rcases ok.own _ (PySem.mem_of_lookup hk) hh with e' | e'
      · obtain ⟨p, hp, hpy⟩ := List.mem_map.mp e'
        have e3 := ok.ix p hp
        have : p.1 = y := hpy
        rw [this] at e3
        exact hne (List.mem_map.mpr ⟨p, hp, nodup_ix hN e3 e1⟩)
      · exact e' (List.mem_of_getElem? e1)
    have hf : scope.names.lookup y = some .free := by
      rcases e3 with e3 | e3 | e3
      · exact (no _ e3 (.inl rfl)).elim
      · exact (no _ e3 (.inr rfl)).elim
      · exact e3
    obtain ⟨m, hn, hl⟩ := I.loc
    have hvis : Vis X.env.scope y := (ok.free _ (PySem.mem_of_lookup hf) rfl).elim (fun k => .inr (.inl k)) (fun k => .inr (.inr k))
    obtain ⟨w, r, q⟩ := hl i y av e1 e2 hvis
    obtain ⟨c, h1, h2⟩ := look hf
    refine ⟨w, r, .inr ⟨.inr (by show cenv.scope.names.lookup y = _; rw [hsc]; exact hf), c, h1, ?_⟩⟩
    rcases q with ⟨k, _⟩ | ⟨_, c', e', z⟩
    · have k : X.env.scope.names.lookup y = some .local := k
      rcases ok.free _ (PySem.mem_of_lookup hf) rfl with k' | k' <;> rw [show X.env.scope.names.lookup y = _ from k'] at k <;> cases k
    · rw [h2] at e'; cases e'
      exact z.keeps kp
  · obtain ⟨w, z⟩ := I.cell y c (mem e).1
    exact ⟨w, z.keeps kp⟩
  · show H cenv.locals = none
    rw [hL]; exact I.hok.fresh (Nat.le_refl _)
  · exact I.freeC y c (mem e).1
  · have e : p = (a, go) := by simpa using (show p ∈ ([] : List (Addr × Obj)) ++ [(a, go)] from hp)
    subst e
    refine ⟨ha, I.hok.fresh (Nat.le_of_lt hax), ?_, nostk a (Nat.le_of_lt hax), hgo⟩
    show a ≠ cenv.locals
    rw [hL]; exact Nat.ne_of_gt hax
end

/-! the turns -/
section
variable {Y : Cx} {L fp : List Addr} {σw : L2.St} {tn : Nat → Heap → Prop} {Pv : Nat → Hp → Prop} {n : Nat} {pz : Nat → Bool} {F : Nat → V}
/-- the generator stands ahead of its turn i; what stands at L is pinned -/
def GAt (Y : Cx) (L fp : List Addr) (σw : L2.St) (tn : Nat → Heap → Prop) (Pv : Nat → Hp → Prop) (i : Nat) (s : Shared) : Prop :=
  ∃ H, Inv Y (pinsAt L s.heap) σw H s ∧ tn i s.heap ∧ (∀ b ∈ fp, H b = none) ∧ Pv i H
/-- the turn behind j that were handed out -/
def tj (pz : Nat → Bool) (n : Nat) : Nat → Nat
  | 0 => 0
  | j + 1 => (passing pz n 0).getD j 0 + 1
def GEnd (Y : Cx) (L : List Addr) (σw : L2.St) (Pv : Nat → Hp → Prop) (n : Nat) : GenEnd := fun m s0 r s1 =>
  r = .ok .next ∧ m = 0 ∧ ∃ H, Inv Y (pinsAt L s0.heap) σw H s1 ∧ Pv n H
def GYld (Y : Cx) (L fp : List Addr) (σw : L2.St) (tn : Nat → Heap → Prop) (Pv : Nat → Hp → Prop) (n : Nat) (pz : Nat → Bool) (F : Nat → V) : Protocol := fun m s0 v s kap =>
  ∃ i H, (passing pz n 0)[(passing pz n 0).length - 1 - m]? = some i ∧ RelV (F i) v ∧ Inv Y (pinsAt L s0.heap) σw H s ∧ tn (i + 1) s.heap ∧ (∀ b ∈ fp, H b = none) ∧ Pv (i + 1) H ∧
    ∀ s2, GAt Y L fp σw tn Pv (i + 1) s2 → kap (.send .none) s2
abbrev gxE (elt tg iter : Expr) (ifs : List Expr) (scope : Scope) (pos : Pos) : Expr := .GeneratorExp elt [⟨tg, iter, ifs, 0⟩] scope pos
theorem over_loopG {A : Around} {elt tg iter : Expr} {ifs : List Expr} {scope : Scope} {pos : Pos} {it acc : Value} {env : Env} : A.over (.compLoop (gxE elt tg iter ifs scope pos) 0 it acc env) [] = A.deeper env := by
  first
    | rfl
    | (obtain ⟨hd, d, fr, gs, u⟩ := A; simp [Around.over, Around.deeper, marksOver, frameCount, unitsOf, envsOf, guardsOf, pushEnvs, pushGuards, Code.envs, Code.env?, Code.isFrame, Code.guards, Code.isGuard, Code.weight, Code.frames, Code.isCreation, Code.isCaller, Code.cUnits])
theorem over_startG {A : Around} {elt tg iter : Expr} {ifs : List Expr} {scope : Scope} {pos : Pos} {it acc : Value} {env : Env} : A.over (.compStart (gxE elt tg iter ifs scope pos) 0 it acc env) [] = A.deeper env := by
  first
    | rfl
    | (obtain ⟨hd, d, fr, gs, u⟩ := A; simp [Around.over, Around.deeper, marksOver, frameCount, unitsOf, envsOf, guardsOf, pushEnvs, pushGuards, Code.envs, Code.env?, Code.isFrame, Code.guards, Code.isGuard, Code.weight, Code.frames, Code.isCreation, Code.isCaller, Code.cUnits])
/-- what a turn does -/
def GStep (J : It) (g : TG) (tt : TT) (te : TE) (σ : L2.St) (vs : List Nat) (Pv : Nat → Hp → Prop) (n : Nat) (pz : Nat → Bool) (F : Nat → V) : Prop :=
  ∀ i x H H', i < n → Pv i H → J.yld i H x H' → g x (wipe σ vs) H' fun σ2 H2 => wipe σ2 vs = wipe σ vs ∧ tt σ2 H2 fun b H3 => b = pz i ∧ if b = true then te σ2 H3 (fun y H4 => y = F i ∧ Pv (i + 1) H4) else Pv (i + 1) H3
theorem seg_gx {A : Around} {σ : L2.St} {vs : List Nat} {J : It} {g : TG} {tt : TT} {te : TE} {it : Addr} {elt tg iter : Expr} {ifs : List Expr} {scope : Scope} {pos : Pos}
    (hA : A.deeper Y.env = Y.A) (hc : Y.calm = true) (hpn : Y.pn = []) (hxe : Y.xe = fun _ _ => False) (hco : Y.env.scope.isCoroutine = false)
    (T : Turn Y.prog Y.w Y.K tg J fp it tn) (pg : PG Y tg g) (pt : PTs Y ifs tt) (pe : PE Y elt te) (hex : ∀ b ∈ fp, b ∈ Y.ex) (hLf : ∀ b ∈ fp, b ∉ L)
    (go : ∀ i H, i < n → Pv i H → J.go i H) (stop : ∀ H, Pv n H → J.stop n H) (step : GStep J g tt te σ vs Pv n pz F) :
    ∀ (k i : Nat) (s0 s : Shared), n - i = k → i ≤ n → (∃ H, Inv Y (pinsAt L s0.heap) (wipe σ vs) H s ∧ tn i s.heap ∧ (∀ b ∈ fp, H b = none) ∧ Pv i H) →
      Seg (model Y.prog Y.w) A (GEnd Y L (wipe σ vs) Pv n) (GYld Y L fp (wipe σ vs) tn Pv n pz F) (passing pz n i).length s0
        (.compLoop (gxE elt tg iter ifs scope pos) 0 (.ref it) .none Y.env) ((model Y.prog Y.w).den (.compLoop (gxE elt tg iter ifs scope pos) 0 (.ref it) .none Y.env)) [] s := by
  have ov : A.over (.compLoop (gxE elt tg iter ifs scope pos) 0 (.ref it) .none Y.env) [] = Y.A := over_loopG.trans hA
  have stat : ∀ {s0 : Shared} {σ' : L2.St} {H' : Hp} {s' : Shared}, Inv Y (pinsAt L s0.heap) σ' H' s' → (∀ b ∈ fp, H' b = none) → ∀ b ∈ fp, FpOk Y (pinsAt L s0.heap) H' b := fun {s0 σ' H' s'} I' hn b hb =>
    ⟨hn b hb, (I'.ok.exf b (hex b hb)).1, I'.ok.exfs b (hex b hb), .inl (hex b hb), fun x c e => (I'.ok.exf b (hex b hb)).2 x c e, fun p hp z => by
      rw [hpn, List.nil_append] at hp
      exact hLf b hb (by rw [← z]; exact (of_pinsAt hp).1)⟩
  intro k
  induction k with
  | zero =>
    intro i s0 s hk hi hst
    have hin : i = n := by omega
    subst hin
    obtain ⟨H, I, st, nf, pv⟩ := hst
    show Seg _ A _ _ _ s0 _ ((compTurn (gxE elt tg iter ifs scope pos) 0 (.ref it) .none Y.env).onRaise (leaving Y.env)) [] s
    rw [compTurn_gen, Sem.onRaise_eq_wrap]
    refine seg_bind_wrap (wpAny_standAt ?_)
    refine seg_bind_wrap ?_
    rw [ov]
    refine thnF (T.done Y rfl rfl rfl hc i _ s _ H (fun _ _ => False) I (stat I nf) st (stop H pv)) fun r s1 ⟨hr, I1⟩ => ?_
    subst hr
    exact seg_end (.ok .next) ⟨rfl, by rw [passing_end]; rfl, H, I1, pv⟩
  | succ k ih =>
    intro i s0 s hk hi hst
    have hlt : i < n := by omega
    obtain ⟨H, I, st, nf, pv⟩ := hst
    show Seg _ A _ _ _ s0 _ ((compTurn (gxE elt tg iter ifs scope pos) 0 (.ref it) .none Y.env).onRaise (leaving Y.env)) [] s
    rw [compTurn_gen, Sem.onRaise_eq_wrap]
    refine seg_bind_wrap (wpAny_standAt ?_)
    refine seg_bind_wrap ?_
    rw [ov]
    refine thnF (T.item Y rfl rfl rfl hc i _ s _ H (fun _ _ => False) I (stat I nf) st (go i H hlt pv)) fun r s1 ⟨u, hr, h1⟩ => ?_
    subst hr
    refine seg_bind_wrap ?_
    rw [ov]
    refine thnF h1 fun _ s2 ⟨x, H2, I2, r2, y2, st2, n2⟩ => ?_
    have I2' := I2.pinned (stat I2 n2) (T.obj _ _ st2)
    refine seg_bind_wrap ?_
    rw [ov]
    have pgr := pg.run _ s2 _ H2 x u _ I2' r2 (step i x H H2 hlt pv y2)
    have ptr := fun s3 σ3 H3 Q I3 q3 => pt.run (pinsAt L s0.heap ++ pinsAt fp s2.heap) s3 σ3 H3 Q I3 q3
    have per := fun s3 σ3 H3 Q I3 q3 => pe.run (pinsAt L s0.heap ++ pinsAt fp s2.heap) s3 σ3 H3 Q I3 q3
    rw [hxe] at pgr ptr per
    refine thnF pgr fun _ s3 ⟨σ3, H3, I3, hw3, q3⟩ => ?_
    refine seg_bind_wrap ?_
    rw [ov]
    refine thnF (ptr s3 σ3 H3 _ I3 q3) fun b s4 ⟨H4, I4, hb, q4⟩ => ?_
    have fin : ∀ {s' : Shared} {H' : Hp}, Inv Y (pinsAt L s0.heap ++ pinsAt fp s2.heap) σ3 H' s' → Inv Y (pinsAt L s0.heap) (wipe σ vs) H' s' ∧ tn (i + 1) s'.heap ∧ (∀ b ∈ fp, H' b = none) := fun {s' H'} I' => by
      have pin' : ∀ b ∈ fp, ∀ o, s2.heap.get? b = some o → s'.heap.get? b = some o ∧ H' b = none := fun b hb o e =>
        let z := I'.pin (b, o) (List.mem_append_right _ (List.mem_append_right _ (mem_pinsAt hb e)))
        ⟨z.1, z.2.1⟩
      have hl : (wipe σ vs).length = σ3.length := by rw [← hw3, wipe_length]
      refine ⟨I'.unpinned.weak hl (fun j v e => ?_), T.keep _ _ _ st2 fun b hb o e => (pin' b hb o e).1, fun b hb => ?_⟩
      · rw [← hw3] at e
        exact (wipe_some e).1
      · obtain ⟨o, e, _⟩ := T.obj _ _ st2 b hb
        exact (pin' b hb o e).2
    cases b with
    | false =>
      rw [passing_false hlt hb.symm]
      simp only [Bool.false_eq_true, if_false] at q4 ⊢
      obtain ⟨f1, f2, f3⟩ := fin I4
      exact seg_again rfl (ih (i + 1) s0 _ (by omega) hlt ⟨H4, f1, f2, f3, q4⟩)
    | true =>
      rw [passing_true hlt hb.symm, List.length_cons]
      simp only [if_true] at q4 ⊢
      have hy : ∀ v, yieldOut Y.env v = yieldValue v := fun v => by simp only [yieldOut, hco, Bool.false_eq_true, if_false]
      simp only [hy]
      rw [Sem.bind_eq_wrap', Sem.bind_eq_wrap', Sem.wrap_wrap, Sem.wrap_wrap]
      refine seg_wrap ?_
      rw [ov]
      refine thnF (per s4 σ3 H4 _ I4 q4) fun z s5 ⟨yv, H5, I5, r5, ey, p5⟩ => ?_
      subst ey
      obtain ⟨f1, f2, f3⟩ := fin I5
      refine seg_at (seg_yield rfl rfl rfl ⟨i, H5, passing_here hlt hb.symm, r5, f1, f2, f3, p5, fun s6 h6 => ?_⟩)
      exact seg_again rfl (ih (i + 1) s6 s6 (by omega) hlt h6)
theorem seg_gx0 {A : Around} {σ : L2.St} {vs : List Nat} {J : It} {g : TG} {tt : TT} {te : TE} {it : Addr} {elt tg iter : Expr} {ifs : List Expr} {scope : Scope} {pos : Pos}
    (hA : A.deeper Y.env = Y.A) (hc : Y.calm = true) (hpn : Y.pn = []) (hxe : Y.xe = fun _ _ => False) (hco : Y.env.scope.isCoroutine = false)
    (T : Turn Y.prog Y.w Y.K tg J fp it tn) (pg : PG Y tg g) (pt : PTs Y ifs tt) (pe : PE Y elt te) (hex : ∀ b ∈ fp, b ∈ Y.ex) (hLf : ∀ b ∈ fp, b ∉ L)
    (go : ∀ i H, i < n → Pv i H → J.go i H) (stop : ∀ H, Pv n H → J.stop n H) (step : GStep J g tt te σ vs Pv n pz F) (s : Shared) (h : GAt Y L fp (wipe σ vs) tn Pv 0 s) :
    Seg (model Y.prog Y.w) A (GEnd Y L (wipe σ vs) Pv n) (GYld Y L fp (wipe σ vs) tn Pv n pz F) (passing pz n 0).length s
      (.compStart (gxE elt tg iter ifs scope pos) 0 (.ref it) .none Y.env) ((model Y.prog Y.w).den (.compStart (gxE elt tg iter ifs scope pos) 0 (.ref it) .none Y.env)) [] s := by
  have loop := seg_gx (A := A) (iter := iter) (scope := scope) (pos := pos) (pz := pz) (F := F) hA hc hpn hxe hco T pg pt pe hex hLf go stop step n 0 s s rfl (Nat.zero_le _) h
  obtain ⟨H, I, st, nf, pv⟩ := h
  show Seg _ A _ _ _ s _ ((compStart (gxE elt tg iter ifs scope pos) 0 (.ref it) .none Y.env).onRaise (leaving Y.env)) [] s
  unfold compStart
  rw [Sem.onRaise_eq_wrap]
  show Seg _ A _ _ _ s _ ((ask >>= _).wrap _ _ _ _) [] s
  refine seg_bind_wrap (wpAny_askSetting ?_)
  split
  · exact seg_again rfl loop
  · first
      | exact seg_bind_wrap (wpAny_rule (seg_bind_wrap (wpAny_standAt (seg_bind_wrap (T.self _ 0 s _ _ st (seg_again rfl loop))))))
      | (refine seg_bind_wrap (wpAny_rule ?_); show Seg _ A _ _ _ s _ ((standAt iter.pos >>= _).wrap _ _ _ _) [] s; exact seg_bind_wrap (wpAny_standAt (seg_bind_wrap (T.self _ 0 s _ _ st (seg_again rfl loop)))))
end
/-! ### .. as their consumers see them -/
theorem pins_eq {h h' : Heap} : ∀ {L : List Addr}, (∀ b ∈ L, ∃ o, h.get? b = some o) → (∀ p ∈ pinsAt L h, h'.get? p.1 = some p.2) → pinsAt L h' = pinsAt L h
  | [], _, _ => rfl
  | b :: L, ho, k => by
    obtain ⟨o, e⟩ := ho b List.mem_cons_self
    have e' : h'.get? b = some o := k (b, o) (mem_pinsAt List.mem_cons_self e)
    have ih : pinsAt L h' = pinsAt L h := pins_eq (fun c hc => ho c (List.mem_cons_of_mem _ hc)) fun p hp => k p (by
      obtain ⟨h1, h2⟩ := of_pinsAt hp
      exact mem_pinsAt (b := p.1) (o := p.2) (List.mem_cons_of_mem _ h1) h2)
    unfold pinsAt at ih ⊢
    rw [List.filterMap_cons, List.filterMap_cons, e, e', ih]
theorem pins_nil {L : List Addr} {h : Heap} {X : Cx} {σ : L2.St} {H : Hp} {s : Shared} (I : Inv X (pinsAt L h) σ H s) : Inv X [] σ H s := I.pins_of fun p hp => nomatch hp
section
variable {Y : Cx} {L fp : List Addr} {σw : L2.St} {tn : Nat → Heap → Prop} {Pv : Nat → Hp → Prop} {n : Nat} {pz : Nat → Bool} {F : Nat → V} {A : Around} {a : Addr} {g : Nat}
/-- the generator at a, of the number g, j handed out -/
structure GS (Y : Cx) (L fp : List Addr) (σw : L2.St) (tn : Nat → Heap → Prop) (Pv : Nat → Hp → Prop) (n : Nat) (pz : Nat → Bool) (F : Nat → V) (A : Around) (a : Addr) (g j : Nat) (s : Shared) : Prop where
  gen : s.heap.IsGen a g
  objs : ∀ b ∈ L, ∃ o, s.heap.get? b = some o
  at_ : GAt Y L fp σw tn Pv (tj pz n j) s
  go : ∃ gs, s.gens[g]? = some gs ∧ ∀ s2, GAt Y L fp σw tn Pv (tj pz n j) s2 → gs.Goes (model Y.prog Y.w) A.in1 (GEnd Y L σw Pv n) (GYld Y L fp σw tn Pv n pz F) ((passing pz n 0).length - j) (.send .none) s2
theorem GS.running {j : Nat} {s : Shared} (h : GS Y L fp σw tn Pv n pz F A a g j s) : GAt Y L fp σw tn Pv (tj pz n j) (s.setGen g .running) := by
  obtain ⟨H, I, st, nf, pv⟩ := h.at_
  exact ⟨H, inv_gens I (bare_set I.bare rfl), st, nf, pv⟩
theorem GAt.again {i : Nat} {s s1 : Shared} {H : Hp} {G : Array GenState} (ho : ∀ b ∈ L, ∃ o, s.heap.get? b = some o) (I : Inv Y (pinsAt L s.heap) σw H s1) (st : tn i s1.heap) (nf : ∀ b ∈ fp, H b = none) (pv : Pv i H) (hG : AllBare G) :
    GAt Y L fp σw tn Pv i { s1 with gens := G } := by
  have e := pins_eq (h' := s1.heap) ho fun p hp => (I.pin p (List.mem_append_right _ hp)).1
  exact ⟨H, by show Inv Y (pinsAt L s1.heap) σw H { s1 with gens := G }; rw [e]; exact inv_gens I hG, st, nf, pv⟩
theorem next_gx {j : Nat} {s : Shared} {Q : Option Value → Shared → Prop} {E : Value → Shared → Prop} (hh : A.handled = none) (hroom : A.depth < recursionLimit) (haL : a ∈ L) (hj : j < (passing pz n 0).length) (h : GS Y L fp σw tn Pv n pz F A a g j s)
    (hQ : ∀ v i s', (passing pz n 0)[j]? = some i → RelV (F i) v → GS Y L fp σw tn Pv n pz F A a g (j + 1) s' → (∀ b ∈ L, ∀ o, s.heap.get? b = some o → s'.heap.get? b = some o) → Q (some v) s') :
    wpAny (model Y.prog Y.w) A (pyNext (.ref a)) Q E s := by
  obtain ⟨gs, hgs, hgo⟩ := h.go
  obtain ⟨m, hm⟩ : ∃ m, (passing pz n 0).length - j = m + 1 := ⟨(passing pz n 0).length - j - 1, by omega⟩
  rw [hm] at hgo
  have hgl : g < s.gens.size := (Array.getElem?_eq_some_iff.mp hgs).1
  have lim : s.heap.NoLimit := let ⟨_, I, _⟩ := h.at_; I.nolimit
  refine GenW.wpAny_gsz (n := s.gens.size) (Nat.le_refl _) ?_
  refine wpAny_pyNext_genexpQ (P := fun m s0 s1 => m = 0 ∧ ∃ H, Inv Y (pinsAt L s0.heap) σw H s1 ∧ Pv n H) hh lim hroom h.gen hgs (hgo _ h.running) (fun v s1 gs' hb hv => ?_) (fun s1 hp h' hk => ?_)
  · obtain ⟨i, H, hi, rv, I, st, nf, pv, kap⟩ := hv
    have hi : (passing pz n 0)[(passing pz n 0).length - 1 - (m + 1 - 1)]? = some i := hi
    have hidx : (passing pz n 0).length - 1 - (m + 1 - 1) = j := by omega
    rw [hidx] at hi
    have I : Inv Y (pinsAt L s.heap) σw H s1 := I
    intro hsz
    have hsz1 : s.gens.size ≤ s1.gens.size := by rw [GenW.setGen_size] at hsz; exact hsz
    have et : tj pz n (j + 1) = i + 1 := by
      show (passing pz n 0).getD j 0 + 1 = i + 1
      rw [List.getD_eq_getElem?_getD, hi]
      rfl
    have pin : ∀ b ∈ L, ∀ o, s.heap.get? b = some o → s1.heap.get? b = some o := fun b hb' o e => (I.pin (b, o) (List.mem_append_right _ (mem_pinsAt hb' e))).1
    refine hQ v i _ hi rv ⟨?_, fun b hb' => ?_, ?_, gs', ?_, fun s2 h2 => ?_⟩ pin
    · obtain ⟨o, nm, qn, ho, r⟩ := h.gen
      exact ⟨o, nm, qn, pin a haL o ho, r⟩
    · obtain ⟨o, e⟩ := h.objs b hb'
      exact ⟨o, pin b hb' o e⟩
    · rw [et]
      exact GAt.again h.objs I st nf pv (bare_set I.bare hb)
    · have : g < s1.gens.size := Nat.lt_of_lt_of_le hgl hsz1
      simp [Shared.setGen, this]
    · rw [et] at h2
      have k2 := kap s2 h2
      have e : (passing pz n 0).length - (j + 1) = m := by omega
      rw [e]
      exact k2
  · exact absurd hp.1 (Nat.succ_ne_zero m)
theorem done_gx {s : Shared} {Q : Option Value → Shared → Prop} {E : Value → Shared → Prop} (hh : A.handled = none) (hroom : A.depth < recursionLimit) (h : GS Y L fp σw tn Pv n pz F A a g (passing pz n 0).length s)
    (hQ : ∀ s' H, Inv Y (pinsAt L s.heap) σw H s' → Pv n H → Q none s') : wpAny (model Y.prog Y.w) A (pyNext (.ref a)) Q E s := by
  obtain ⟨gs, hgs, hgo⟩ := h.go
  rw [Nat.sub_self] at hgo
  have lim : s.heap.NoLimit := let ⟨_, I, _⟩ := h.at_; I.nolimit
  refine wpAny_pyNext_genexpQ (P := fun m s0 s1 => m = 0 ∧ ∃ H, Inv Y (pinsAt L s0.heap) σw H s1 ∧ Pv n H) hh lim hroom h.gen hgs (hgo _ h.running) (fun v s1 gs' hb hv => ?_) (fun s1 hp h' hk => ?_)
  · obtain ⟨i, H, hi, rv, I, st, nf, pv, kap⟩ := hv
    have I : Inv Y (pinsAt L s.heap) σw H s1 := I
    exact False.elim (kap s1 (GAt.again h.objs I st nf pv I.bare))
  · obtain ⟨_, H, I, pv⟩ := hp
    have I : Inv Y (pinsAt L s.heap) σw H s1 := I
    exact hQ _ H (inv_gens (I.kept (t' := s1.toks) hk) (bare_set I.bare rfl)) pv
/-- wherever it stands: what holds there -/
theorem GS.stands {j : Nat} {s : Shared} (h : GS Y L fp σw tn Pv n pz F A a g j s) (hj : j ≤ (passing pz n 0).length) : ∃ i H, i ≤ n ∧ Inv Y (pinsAt L s.heap) σw H s ∧ Pv i H := by
  obtain ⟨H, I, st, nf, pv⟩ := h.at_
  refine ⟨_, H, ?_, I, pv⟩
  match j, hj with
  | 0, _ => exact Nat.zero_le _
  | j + 1, hj =>
    have e : (passing pz n 0)[j]? = some ((passing pz n 0)[j]'hj) := List.getElem?_eq_getElem _
    show (passing pz n 0).getD j 0 + 1 ≤ n
    rw [List.getD_eq_getElem?_getD, e]
    have hm : (passing pz n 0)[j]'hj ∈ passing pz n 0 := List.getElem_mem _
    have hm2 : (passing pz n 0)[j]'hj ∈ List.range n := by
      unfold passing at hm
      exact (List.mem_filter.mp hm).1
    exact List.mem_range.mp hm2
theorem all_gx {f : Nat → Bool} {R : Result → Shared → Prop} (hh : A.in1.handled = none) (hroom : A.in1.depth < recursionLimit) (haL : a ∈ L) (hF : F = fun i => .bl (f i)) : ∀ (k j : Nat) (s : Shared), (passing pz n 0).length - j = k → j ≤ (passing pz n 0).length →
    GS Y L fp σw tn Pv n pz F A.in1 a g j s → (∀ s' i H, i ≤ n → Inv Y [] σw H s' → Pv i H → R (.ok (.ret (.bool (((passing pz n 0).drop j).all f)))) s') →
    codeAny (model Y.prog Y.w) A (.builtin "all.loop" ⟨[.ref a], []⟩) R s := by
  intro k
  induction k with
  | zero =>
    intro j s hk hj hst hR
    have hin : j = (passing pz n 0).length := by omega
    subst hin
    refine codeAny_builtin PySem.F.entry_all_loop ?_
    rw [Around.under_plainId PySem.F.plain_all_loop _]
    show wpAny _ A.in1 (pyNext (.ref a) >>= _) _ _ s
    refine wpAny_bind (done_gx hh hroom hst fun s' H I pv => ?_)
    refine wpAny_bind (wpAny_rule (wpAny_pure ?_))
    have := hR s' n H (Nat.le_refl _) (pins_nil I) pv
    rw [List.drop_of_length_le (Nat.le_refl _)] at this
    exact this
  | succ k ih =>
    intro j s hk hj hst hR
    have hlt : j < (passing pz n 0).length := by omega
    have hd : (passing pz n 0).drop j = (passing pz n 0)[j]'hlt :: (passing pz n 0).drop (j + 1) := List.drop_eq_getElem_cons hlt
    refine codeAny_builtin PySem.F.entry_all_loop ?_
    rw [Around.under_plainId PySem.F.plain_all_loop _]
    show wpAny _ A.in1 (pyNext (.ref a) >>= _) _ _ s
    refine wpAny_bind (next_gx hh hroom haL hlt hst fun v i s' hi rv hst' pin => ?_)
    rw [List.getElem?_eq_getElem hlt] at hi
    have ei := Option.some.inj hi
    rw [hF] at rv
    obtain rfl : v = Value.bool (f i) := rv
    refine wpAny_bind (wpAny_holding (wpAny_truthy_bool ?_))
    refine wpAny_bind (wpAny_letGo ?_)
    cases hb : f i with
    | true =>
      simp only [if_true]
      refine wpAny_pure ⟨plainId_quiet PySem.F.plain_all_loop _, ih (j + 1) _ (by omega) hlt hst' fun s'' i' H hi' I pv => ?_⟩
      have := hR s'' i' H hi' I pv
      rw [hd, List.all_cons, ei, hb, Bool.true_and] at this
      exact this
    | false =>
      simp only [Bool.false_eq_true, if_false]
      refine wpAny_bind (wpAny_rule (wpAny_pure ?_))
      obtain ⟨i', H, hi', I, pv⟩ := hst'.stands hlt
      have := hR s' i' H hi' (pins_nil I) pv
      rw [hd, List.all_cons, ei, hb, Bool.false_and] at this
      exact this
theorem any_gx {f : Nat → Bool} {R : Result → Shared → Prop} (hh : A.in1.handled = none) (hroom : A.in1.depth < recursionLimit) (haL : a ∈ L) (hF : F = fun i => .bl (f i)) : ∀ (k j : Nat) (s : Shared), (passing pz n 0).length - j = k → j ≤ (passing pz n 0).length →
    GS Y L fp σw tn Pv n pz F A.in1 a g j s → (∀ s' i H, i ≤ n → Inv Y [] σw H s' → Pv i H → R (.ok (.ret (.bool (((passing pz n 0).drop j).any f)))) s') →
    codeAny (model Y.prog Y.w) A (.builtin "any.loop" ⟨[.ref a], []⟩) R s := by
  intro k
  induction k with
  | zero =>
    intro j s hk hj hst hR
    have hin : j = (passing pz n 0).length := by omega
    subst hin
    refine codeAny_builtin PySem.F.entry_any_loop ?_
    rw [Around.under_plainId PySem.F.plain_any_loop _]
    show wpAny _ A.in1 (pyNext (.ref a) >>= _) _ _ s
    refine wpAny_bind (done_gx hh hroom hst fun s' H I pv => ?_)
    refine wpAny_bind (wpAny_rule (wpAny_pure ?_))
    have := hR s' n H (Nat.le_refl _) (pins_nil I) pv
    rw [List.drop_of_length_le (Nat.le_refl _)] at this
    exact this
  | succ k ih =>
    intro j s hk hj hst hR
    have hlt : j < (passing pz n 0).length := by omega
    have hd : (passing pz n 0).drop j = (passing pz n 0)[j]'hlt :: (passing pz n 0).drop (j + 1) := List.drop_eq_getElem_cons hlt
    refine codeAny_builtin PySem.F.entry_any_loop ?_
    rw [Around.under_plainId PySem.F.plain_any_loop _]
    show wpAny _ A.in1 (pyNext (.ref a) >>= _) _ _ s
    refine wpAny_bind (next_gx hh hroom haL hlt hst fun v i s' hi rv hst' pin => ?_)
    rw [List.getElem?_eq_getElem hlt] at hi
    have ei := Option.some.inj hi
    rw [hF] at rv
    obtain rfl : v = Value.bool (f i) := rv
    refine wpAny_bind (wpAny_holding (wpAny_truthy_bool ?_))
    refine wpAny_bind (wpAny_letGo ?_)
    cases hb : f i with
    | false =>
      simp only [Bool.false_eq_true, if_false]
      refine wpAny_pure ⟨plainId_quiet PySem.F.plain_any_loop _, ih (j + 1) _ (by omega) hlt hst' fun s'' i' H hi' I pv => ?_⟩
      have := hR s'' i' H hi' I pv
      rw [hd, List.any_cons, ei, hb, Bool.false_or] at this
      exact this
    | true =>
      simp only [if_true]
      refine wpAny_bind (wpAny_rule (wpAny_pure ?_))
      obtain ⟨i', H, hi', I, pv⟩ := hst'.stands hlt
      have := hR s' i' H hi' (pins_nil I) pv
      rw [hd, List.any_cons, ei, hb, Bool.true_or] at this
      exact this
end
/-! ### .. sum -/
section
variable {Y : Cx} {L fp : List Addr} {σw : L2.St} {tn : Nat → Heap → Prop} {Pv : Nat → Hp → Prop} {n : Nat} {pz : Nat → Bool} {F : Nat → V} {A : Around} {a S : Addr} {g : Nat}
/-- the consumer writes its own list at S -/
theorem GS.put {j : Nat} {s : Shared} {h' : Heap} {tk : Nat} (hpn : Y.pn = []) (hSL : S ∈ L) (haS : a ≠ S) (hS0 : Y.s_0.heap.objs.size ≤ S) (hLf : ∀ b ∈ fp, b ∉ L) (tk_ : ∀ i h h2, tn i h → (∀ b ∈ fp, ∀ o, h.get? b = some o → h2.get? b = some o) → tn i h2)
    (h : GS Y L fp σw tn Pv n pz F A a g j s) (k : ∀ b o, b ≠ S → s.heap.get? b = some o → h'.get? b = some o) (new : ∃ o, h'.get? S = some o ∧ ∀ v, o.data ≠ .cell v) :
    GS Y L fp σw tn Pv n pz F A a g j { s with heap := h', toks := tk } := by
  obtain ⟨H, I, st, nf, pv⟩ := h.at_
  obtain ⟨oS, eS⟩ := h.objs S hSL
  obtain ⟨_, p2, p3, p4, p5⟩ := I.pin (S, oS) (List.mem_append_right _ (mem_pinsAt hSL eS))
  have pS : H S = none := p2
  obtain ⟨oN, eN, dN⟩ := new
  have nS : ∀ b u, H b = some u → b ≠ S := fun b u e z => by rw [z, pS] at e; cases e
  have cS : ∀ x c, Y.env.cells.lookup x = some c → c ≠ S := fun x c e z => by
    obtain ⟨v, o, ho, hd⟩ := I.cell x c e
    rw [z, eS] at ho
    cases ho
    exact p5 _ hd
  have I0 : Inv Y [] σw H s := pins_nil I
  have J : Inv Y [] σw H { s with heap := h', toks := tk } := by
    refine I0.step (g' := s.gens) (d' := s.drawn) (ch := [S]) (fun b hb => ?_) (fun b o _ _ hc e _ => k b o (fun z => hc (by simp [z])) e) (fun b o _ _ hc e _ => ⟨o.slots, k b o (fun z => hc (by simp [z])) e⟩) (fun _ _ _ _ m => m)
      (fun b o hc e => ⟨o, k b o (fun z => hc (by simp [z])) e⟩) (fun _ _ e => e) (fun _ _ _ e => e) (fun b ps e => ⟨#[], by rw [e]; simp⟩) (fun m hm => ?_) (fun b u e => ?_) I.bare
    · have e : b = S := by simpa using hb
      subst e
      refine ⟨.inr hS0, p3, cS, fun p hp => ?_⟩
      rw [hpn] at hp
      exact nomatch hp
    · obtain ⟨o, es, ep, ho, r⟩ := hm
      exact ⟨o, es, ep, k _ o (Ne.symm p3) ho, r⟩
    · refine (I.hok b u e).stay (fun c v hc q => k c v ?_ q) (fun _ q => q) fun _ _ q => q
      rcases hc with z | z
      · rw [z]; exact nS b u e
      · exact nS c _ z
  refine ⟨?_, fun b hb => ?_, ⟨H, J.pins_of fun p hp => ?_, tk_ _ _ _ st fun b hb o e => k b o (fun z => hLf b hb (by rw [z]; exact hSL)) e, nf, pv⟩, h.go⟩
  · obtain ⟨o, nm, qn, ho, r⟩ := h.gen
    exact ⟨o, nm, qn, k a o haS ho, r⟩
  · by_cases z : b = S
    · rw [z]
      exact ⟨oN, eN⟩
    · obtain ⟨o, e⟩ := h.objs b hb
      exact ⟨o, k b o z e⟩
  · obtain ⟨h1, h2⟩ := of_pinsAt hp
    have h2 : h'.get? p.1 = some p.2 := h2
    by_cases z : p.1 = S
    · rw [z] at h2 ⊢
      rw [eN] at h2
      cases h2
      exact ⟨eN, pS, p3, p4, dN⟩
    · obtain ⟨o, e⟩ := h.objs p.1 h1
      have e2 := k p.1 o z e
      rw [h2] at e2
      have e3 := Option.some.inj e2
      obtain ⟨q1, q2, q3, q4, q5⟩ := I.pin (p.1, o) (List.mem_append_right _ (mem_pinsAt h1 e))
      exact ⟨h2, q2, q3, q4, by rw [e3]; exact q5⟩
abbrev sumObj (i : Int) (t : Tok) (c : Nat) : Obj := { cls := .type "list", dict := none, data := .seq #[.int i t] c, slots := #[] }
theorem sum_gx {f : Nat → Int} {val : Nat → Int} {R : Result → Shared → Prop} (hpn : Y.pn = []) (hSL : S ∈ L) (haS : a ≠ S) (hS0 : Y.s_0.heap.objs.size ≤ S) (hLf : ∀ b ∈ fp, b ∉ L) (tk_ : ∀ i h h2, tn i h → (∀ b ∈ fp, ∀ o, h.get? b = some o → h2.get? b = some o) → tn i h2)
    (hh : A.in1.handled = none) (hroom : A.in1.depth < recursionLimit) (haL : a ∈ L) (hF : F = fun i => .int (f i)) (hval : ∀ j i, (passing pz n 0)[j]? = some i → val j = f i) (hfit : ∀ j, j < (passing pz n 0).length → InLong (val j) ∧ InLong (preSum val (j + 1))) :
    ∀ (k j : Nat) (s : Shared) (tA : Tok) (c : Nat), (passing pz n 0).length - j = k → j ≤ (passing pz n 0).length → GS Y L fp σw tn Pv n pz F A.in1 a g j s → s.heap.get? S = some (sumObj (preSum val j) tA c) →
    (∀ s' t' H, Inv Y [] σw H s' → Pv n H → R (.ok (.ret (.int (preSum val (passing pz n 0).length) t'))) s') → codeAny (model Y.prog Y.w) A (.builtin "sum.loop" ⟨[.ref a, .ref S, rawInt 0, rawInt 0], []⟩) R s := by
  intro k
  induction k with
  | zero =>
    intro j s tA c hk hj hst hS hR
    have hin : j = (passing pz n 0).length := by omega
    subst hin
    refine codeAny_builtin PySem.F.entry_sum_loop ?_
    rw [Around.under_plainId PySem.F.plain_sum_loop _]
    show wpAny _ A.in1 (seqItems? (.ref S) >>= _) _ _ s
    refine wpAny_bind (wpAny_seqItems hS rfl ?_)
    show wpAny _ A.in1 (tryCatch (pyNext (.ref a)) _ >>= _) _ _ s
    refine wpAny_bind (wpAny_tryCatch (done_gx hh hroom hst fun s' H I pv => ?_))
    exact wpAny_pure (hR s' tA H (pins_nil I) pv)
  | succ k ih =>
    intro j s tA c hk hj hst hS hR
    have hlt : j < (passing pz n 0).length := by omega
    refine codeAny_builtin PySem.F.entry_sum_loop ?_
    rw [Around.under_plainId PySem.F.plain_sum_loop _]
    show wpAny _ A.in1 (seqItems? (.ref S) >>= _) _ _ s
    refine wpAny_bind (wpAny_seqItems hS rfl ?_)
    show wpAny _ A.in1 (tryCatch (pyNext (.ref a)) _ >>= _) _ _ s
    refine wpAny_bind (wpAny_tryCatch (next_gx hh hroom haL hlt hst fun v i s' hi rv hst' pin => ?_))
    rw [hF] at rv
    obtain ⟨t, rfl⟩ : ∃ t, v = Value.int (f i) t := rv
    rw [← hval j i hi]
    have hS' := pin S hSL _ hS
    obtain ⟨⟨f1, f2⟩, f3, f4⟩ := hfit j hlt
    have hc : ((decide (-(2 ^ 63) ≤ val j) && decide (val j < 2 ^ 63)) && (decide (-(2 ^ 63) ≤ preSum val j + val j) && decide (preSum val j + val j < 2 ^ 63))) = true := by
      simp only [preSum] at f3 f4
      simp only [Bool.and_eq_true, decide_eq_true_eq]
      exact ⟨⟨f1, f2⟩, f3, f4⟩
    show wpAny _ A.in1 (if (_ : Bool) = true then (mkInt (preSum val j + val j) >>= _) else _) _ _ _
    split
    · refine wpAny_bind (wpAny_mkInt ?_)
      show wpAny _ A.in1 (updateSeq S (fun _ => #[.int (preSum val j + val j) s'.toks]) >>= _) _ _ _
      refine wpAny_bind ?_
      refine wpAny_updateSeq hS' rfl (wpAny_pure ⟨plainId_quiet PySem.F.plain_sum_loop _, ih (j + 1) _ s'.toks _ (by omega) hlt ?_ (Heap.get?_update_self _ hS' rfl) hR⟩)
      exact GS.put (s := s') (tk := s'.toks + 1) hpn hSL haS hS0 hLf tk_ hst' (fun b o hb e => (Heap.get?_update_other _ _ (Ne.symm hb)).trans e) ⟨_, Heap.get?_update_self _ hS' rfl, fun v z => by cases z⟩
    · rename_i hneg
      exact absurd hc hneg
end
theorem preSum_take (f : Nat → Int) (l : List Nat) : ∀ j, j ≤ l.length → preSum (fun j => f (l.getD j 0)) j = ((l.take j).map f).sum
  | 0, _ => rfl
  | j + 1, h => by
    have e : l[j]? = some (l[j]'h) := List.getElem?_eq_getElem _
    rw [preSum, preSum_take f l j (Nat.le_of_succ_le h), List.take_add_one, e, List.map_append, List.sum_append, List.getD_eq_getElem?_getD, e]
    simp
theorem sum_bound {f : Nat → Int} {B : Nat} : ∀ l : List Nat, (∀ i ∈ l, (f i).natAbs ≤ B) → ((l.map f).sum).natAbs ≤ l.length * B
  | [], _ => by simp
  | i :: l, h => by
    have h1 := h i List.mem_cons_self
    have h2 := sum_bound l fun k hk => h k (List.mem_cons_of_mem _ hk)
    rw [List.map_cons, List.sum_cons, List.length_cons, Nat.succ_mul]
    exact Nat.le_trans (Int.natAbs_add_le _ _) (by omega)
/-! ### the rules -/
/-- a generator expression's own scope -/
def gxOk (scope : Scope) : Bool := decide (scope.kind = .function) && (!scope.isCoroutine && (scope.names.all (fun y => decide (y.2 ≠ .cell)) && decide (scope.names.lookup (".0" : Str) = some NameKind.local)))
structure GxOk (scope : Scope) : Prop where
  kind : scope.kind = .function
  co : scope.isCoroutine = false
  nc : ∀ y ∈ scope.names, y.2 ≠ .cell
  dot : scope.names.lookup (".0" : Str) = some NameKind.local
theorem gx_ok {scope : Scope} (h : gxOk scope = true) : GxOk scope := by
  obtain ⟨h1, h⟩ := Bool.and_eq_true_iff.mp h
  obtain ⟨h2, h⟩ := Bool.and_eq_true_iff.mp h
  obtain ⟨h3, h4⟩ := Bool.and_eq_true_iff.mp h
  exact ⟨of_decide_eq_true h1, by simpa using h2, fun y hy => of_decide_eq_true (List.all_eq_true.mp h3 y hy), of_decide_eq_true h4⟩
theorem room_gx {k : Nat} {A : Around} {env : Env} (r : Room (k + 1) A) : Room k (A.in1.in1.deeper env) :=
  ⟨r.hd, by have := r.dp; show A.depth + 1 + 3 * k + 5 < _; omega, by have := r.un; show A.units + 1 + 1 + 3 + 16 * k + 200 < _; omega⟩
section
variable {X : Cx}
/-- the generator at a is made and has not begun: it can be walked by a consumer that pins what stands at L a -/
structure GMd (X : Cx) (pins : List (Addr × Obj)) (σ : L2.St) (Pv : Nat → Hp → Prop) (n : Nat) (pz : Nat → Bool) (F : Nat → V) (vs : List Nat) (L : Addr → List Addr) (a : Addr) (s : Shared) : Prop where
  ex : ∃ (Y : Cx) (fp : List Addr) (tn : Nat → Heap → Prop) (g : Nat) (go : Obj), Y.prog = X.prog ∧ Y.w = X.w ∧ Y.pn = [] ∧ Y.s_0.heap.objs.size < a ∧ s.heap.objs.size = a + 1 ∧ s.heap.get? a = some go ∧ (∀ v, go.data ≠ .cell v) ∧ s.heap.IsGen a g ∧
    (∀ b ∈ fp, b < a) ∧ (∀ i h h2, tn i h → (∀ b ∈ fp, ∀ o, h.get? b = some o → h2.get? b = some o) → tn i h2) ∧
    (∃ H, Inv Y [(a, go)] (wipe σ vs) H s ∧ tn 0 s.heap ∧ (∀ b ∈ fp, H b = none) ∧ Pv 0 H) ∧
    (∃ gs, s.gens[g]? = some gs ∧ ∀ s2, GAt Y (L a) fp (wipe σ vs) tn Pv 0 s2 → gs.Goes (model Y.prog Y.w) X.A.in1.in1 (GEnd Y (L a) (wipe σ vs) Pv n) (GYld Y (L a) fp (wipe σ vs) tn Pv n pz F) (passing pz n 0).length (.send .none) s2) ∧
    ∀ s' H, Inv Y [] (wipe σ vs) H s' → Inv X pins σ H s'
def tGx (P : Addr) (wi : TI) (g : TG) (tt : TT) (te : TE) (vs : List Nat) (σ : L2.St) (H : Hp) (K : Nat → (Nat → Bool) → (Nat → V) → (Nat → Hp → Prop) → Prop) : Prop :=
  wi σ H fun J H1 => H1 P = some (TabO P) ∧ ∃ (n : Nat) (pz : Nat → Bool) (F : Nat → V) (Pv : Nat → Hp → Prop), Pv 0 H1 ∧ (∀ i H, i < n → Pv i H → J.go i H) ∧ (∀ H, Pv n H → J.stop n H) ∧ GStep J g tt te σ vs Pv n pz F ∧ K n pz F Pv
theorem make_gx {c P : Addr} {elt tg iter : Expr} {ifs : List Expr} {scope : Scope} {own : List (Str × Nat)} {gpos : Pos} {wi : TI} {g : TG} {tt : TT} {te : TE} {k : Nat} {pins : List (Addr × Obj)} {s : Shared} {σ : L2.St} {H : Hp} {Q' : Value → Shared → Prop} (L : Addr → List Addr)
    {Kk : Nat → (Nat → Bool) → (Nat → V) → (Nat → Hp → Prop) → Prop} (hL : ∀ a, ∀ b ∈ L a, a ≤ b)
    (hr : Room k X.A) (hN : X.N.Nodup) (TB : GxR.TabB X.base X.mg c P) (hcode : X.env.code = .ref c) (hi : PI X tg iter wi) (ok : BlkOk X.N X.env.scope scope own) (S : GxOk scope)
    (pg : ∀ (s : Shared) (H : Hp) (C : Addr) (code : Value) (fp : List Addr), PG (gblk X s H (gxEnv X scope C code) fp) tg g) (pt : ∀ (s : Shared) (H : Hp) (C : Addr) (code : Value) (fp : List Addr), PTs (gblk X s H (gxEnv X scope C code) fp) ifs tt)
    (pe : ∀ (s : Shared) (H : Hp) (C : Addr) (code : Value) (fp : List Addr), PE (gblk X s H (gxEnv X scope C code) fp) elt te)
    (hs : ∀ v, genFold iter X.env v = pure v) (I : Inv X pins σ H s) (h : tGx P wi g tt te (own.map (·.2)) σ H Kk)
    (hQ : ∀ n pz F Pv a s5, Kk n pz F Pv → GMd X pins σ Pv n pz F (own.map (·.2)) L a s5 → Q' (.ref a) s5) :
    wpAny (model X.prog X.w) X.A (eval (gxE elt tg iter ifs scope gpos) X.env) Q' X.xe s := by
  have hfree : ∀ y ∈ scope.names, y.2 = .free → ∃ c, X.env.cells.lookup y.1 = some c := fun y hy e => by
    rcases ok.free y hy e with k | k
    · exact I.ok.has _ (.inl k)
    · exact I.ok.has _ (.inr k)
  refine wpAny_GeneratorExp_make S.co (closure_ok hfree) S.nc S.dot S.kind (by have := hr.dp; omega) ?_ hs
  refine thn (hi.run pins s σ H _ I h) fun xv s1 hx => thn hx fun itv s2 h2 => ?_
  obtain ⟨it, fp, tn, J, H2, rfl, I2, T, st2, f2, hP, n, pz, F, Pv, p0, go, stop, step, kk⟩ := h2
  obtain ⟨⟨ps, hPs, ht⟩, _, _⟩ := (show ObjOk X.prog X.w H2 s2.heap P (TabO P) from I2.hok P _ hP)
  have cd : PySem.W.CodeHd s2.heap c P := TB.code.keeps fun b u e => I2.bk b u e
  have sz : ∀ b ∈ fp, b < s2.heap.objs.size := fun b hb => by
    obtain ⟨o, e, _⟩ := T.obj _ _ st2 b hb
    exact Heap.lt_size e
  have nPf : ∀ b ∈ fp, b ≠ P := fun b hb z => by
    have := (f2 b hb).1
    rw [z, hP] at this
    cases this
  have cont : ∀ (code : Value) (h3 : Heap) (tk : Nat), Heap.ExtBut P s2.heap h3 → s2.heap.objs.size ≤ h3.objs.size → tabP P h3 →
      wpAny (model X.prog X.w) X.A (builtinsFor X.env.globals X.env.builtins) (fun bi s4 => ∀ h', h'.Ns s4.heap.objs.size (fun y => if y = ".0" then some (.ref it) else none) → Heap.SameBut s4.heap.objs.size (s4.heap.push { cls := .type "frame", data := .dict #[] }) h' →
          Q' (.ref h'.objs.size) { s4 with
            gens := s4.gens.push (.fresh (.compStart (gxE elt tg iter ifs scope gpos) 0 (.ref it) .none (genEnv scope (cloFrom X.env.cells scope.names []) s4.heap.objs.size code bi X.env))),
            toks := s4.toks + 1 + 1 + 1,
            heap := h'.push { cls := .type "generator", data := .fields #[.int s4.gens.size 0, .str "<genexpr>" (s4.toks + 1), .str (X.env.qual ++ "<genexpr>") (s4.toks + 1 + 1)] } }) X.xe { s2 with heap := h3, toks := tk } := by
    intro code h3 tk hx hsz hP3
    obtain ⟨bm, ob, e1, e2, e3, e4, e5, e6, e7, e8⟩ := TB.bm
    have keep3 : ∀ b u, b ≠ P → s2.heap.get? b = some u → h3.get? b = some u := fun b u hb e => hx b u hb e
    refine wpAny_builtinsFor (m := X.mg) (by rw [I2.ok.glob]; exact (I2.mod.glob.keeps I2.bk).extBut hx TB.gP) e1 e2 (keep3 _ _ e4 (I2.bk _ _ e5)) e6 e7 e8 ?_
    have I3 : Inv X pins σ H2 { s2 with heap := h3, toks := tk } := inv_tabO I2 hP keep3 hP3
    have st3 : tn 0 h3 := T.keep _ _ _ st2 fun b hb o e => keep3 b o (nPf b hb) e
    generalize hs3 : ({ s2 with heap := h3, toks := tk } : Shared) = s3 at I3 ⊢
    have eh3 : s3.heap = h3 := by rw [← hs3]
    intro h' hn' hs'
    have hsz' : h'.objs.size = s3.heap.objs.size + 1 := by rw [hs'.1, Heap.size_push]
    have keep' : ∀ b o, s3.heap.get? b = some o → h'.get? b = some o := fun b o e => hs'.extBut b o (Nat.ne_of_lt (Heap.lt_size e)) (Heap.get?_push_of_some _ e)
    generalize hgo : ({ cls := .type "generator", data := .fields #[.int s3.gens.size 0, .str "<genexpr>" (s3.toks + 1), .str (X.env.qual ++ "<genexpr>") (s3.toks + 1 + 1)] } : Obj) = gob
    have keep5 : ∀ b o, s3.heap.get? b = some o → (h'.push gob).get? b = some o := fun b o e => Heap.get?_push_of_some _ (keep' b o e)
    have hfp3 : ∀ b ∈ fp, FpOk X pins H2 b ∧ b < s3.heap.objs.size := fun b hb => ⟨f2 b hb, by rw [eh3]; exact Nat.lt_of_lt_of_le (sz b hb) hsz⟩
    have hga : (h'.push gob).get? h'.objs.size = some gob := by rw [← hgo]; exact Heap.get?_push_size _ rfl
    have I5 := gblk_start (code := code) (G5 := s3.gens.push (.fresh (.compStart (gxE elt tg iter ifs scope gpos) 0 (.ref it) .none (gxEnv X scope s3.heap.objs.size code)))) (tk := s3.toks + 1 + 1 + 1) (h5 := h'.push gob) (a := h'.objs.size) (go := gob) I3 ok S.nc hN hr.hd hfp3 keep5 (hn'.push _) (I3.bare.push rfl) hga (by rw [hsz']; exact Nat.lt_succ_self _)
      (fun v z => by rw [← hgo] at z; cases z)
    refine hQ n pz F Pv _ _ kk ⟨gblk X s3 H2 (gxEnv X scope s3.heap.objs.size code) fp, fp, tn, s3.gens.size, gob, rfl, rfl, rfl, ?_, ?_, hga, (fun v z => by rw [← hgo] at z; cases z), ?_, fun b hb => ?_, fun i h h2 => T.keep i h h2, ⟨H2, I5, ?_, fun b hb => (f2 b hb).1, p0⟩, ⟨.fresh (.compStart (gxE elt tg iter ifs scope gpos) 0 (.ref it) .none (gxEnv X scope s3.heap.objs.size code)), ?_, fun s6 h6 => ⟨rfl, ?_⟩⟩, fun s' H' J' => ?_⟩
    · show s3.heap.objs.size < h'.objs.size
      rw [hsz']; exact Nat.lt_succ_self _
    · show (h'.push gob).objs.size = _
      rw [Heap.size_push]
    · exact ⟨gob, _, _, hga, by rw [← hgo], by rw [← hgo], by rw [← hgo]⟩
    · rw [hsz']
      exact Nat.lt_succ_of_lt (hfp3 b hb).2
    · exact T.keep _ _ _ st3 fun b _ o e => keep5 b o (by rw [eh3]; exact e)
    · exact Array.getElem?_push_size ..
    · refine seg_gx0 (Y := gblk X s3 H2 (gxEnv X scope s3.heap.objs.size code) fp) (A := X.A.in1.in1) rfl rfl rfl rfl S.co T (pg _ _ _ _ _) (pt _ _ _ _ _) (pe _ _ _ _ _) (fun b hb => hb) (fun b hb z => ?_) go stop step s6 h6
      have h1 := hL _ b z
      have h2 := (hfp3 b hb).2
      rw [hsz'] at h1
      exact absurd (Nat.lt_of_lt_of_le h2 (Nat.le_of_succ_le h1)) (Nat.lt_irrefl _)
    · exact I3.call' (ch := fp) J'.os J'.base J'.hok J'.bare fun b hb => ⟨(f2 b hb).2.2.2.1, (f2 b hb).2.1, (f2 b hb).2.2.2.2.1, (f2 b hb).2.2.2.2.2⟩
  refine ⟨I2.nolimit, ?_⟩
  cases hf : codeAmong gpos ps.toList with
  | none =>
    refine wpAny_genexprCodeX hcode (cd.code hPs ht) (cd.tab hPs) hf fun c' h' tk hx hge hlt hco' _ htab' _ => ?_
    obtain ⟨o1, vs, f1, tf, fl, tg', inF, tx, tt', op, _, _, _, _, _, _, _, _, _, htr, _⟩ := hco'
    exact cont _ h' tk hx (Nat.le_trans hge (Nat.le_of_lt hlt)) ⟨_, htab'.2, htr⟩
  | some cv =>
    refine wpAny_genexprCode_hit hcode (cd.code hPs ht) hf ?_
    exact cont cv s2.heap s2.toks (Heap.ExtBut.refl _ _) (Nat.le_refl _) ⟨ps, hPs, ht⟩
/-- all(e for .. in .. if ..) -/
def tAllG (P : Addr) (wi : TI) (g : TG) (tt : TT) (te : TE) (vs : List Nat) : TE := fun σ H Q => tGx P wi g tt te vs σ H fun n pz F Pv => ∃ f : Nat → Bool, (F = fun i => .bl (f i)) ∧ ∀ i H, i ≤ n → Pv i H → Q (.bl (((List.range n).filter pz).all f)) H
def tAnyG (P : Addr) (wi : TI) (g : TG) (tt : TT) (te : TE) (vs : List Nat) : TE := fun σ H Q => tGx P wi g tt te vs σ H fun n pz F Pv => ∃ f : Nat → Bool, (F = fun i => .bl (f i)) ∧ ∀ i H, i ≤ n → Pv i H → Q (.bl (((List.range n).filter pz).any f)) H
def tSumG (P : Addr) (wi : TI) (g : TG) (tt : TT) (te : TE) (vs : List Nat) : TE := fun σ H Q => tGx P wi g tt te vs σ H fun n pz F Pv => ∃ (f : Nat → Int) (B : Nat), (F = fun i => .int (f i)) ∧ n * B < 2 ^ 63 ∧ (∀ i, i < n → (f i).natAbs ≤ B) ∧ ∀ H, Pv n H → Q (.int ((((List.range n).filter pz).map f).sum)) H
/-- a generator just made, seen by all or any -/
theorem GMd.gs1 {pins : List (Addr × Obj)} {σ : L2.St} {Pv : Nat → Hp → Prop} {n : Nat} {pz : Nat → Bool} {F : Nat → V} {vs : List Nat} {a : Addr} {s : Shared} (G : GMd X pins σ Pv n pz F vs (fun a => [a]) a s) :
    s.heap.NoLimit ∧ (∃ g, s.heap.IsGen a g) ∧ ∃ (Y : Cx) (fp : List Addr) (tn : Nat → Heap → Prop) (g : Nat), Y.prog = X.prog ∧ Y.w = X.w ∧ GS Y [a] fp (wipe σ vs) tn Pv n pz F X.A.in1 a g 0 s ∧ ∀ s' H, Inv Y [] (wipe σ vs) H s' → Inv X pins σ H s' := by
  obtain ⟨Y, fp, tn, g, go, e1, e2, e3, e4, e5, e6, e7, e8, e9, e10, ⟨H, I, st, nf, pv⟩, ⟨gs, h1, h2⟩, back⟩ := G.ex
  refine ⟨I.nolimit, ⟨g, e8⟩, Y, fp, tn, g, e1, e2, ⟨e8, fun b hb => ?_, ⟨H, ?_, st, nf, pv⟩, gs, h1, h2⟩, back⟩
  · rw [List.mem_singleton.mp hb]
    exact ⟨go, e6⟩
  · have e : pinsAt [a] s.heap = [(a, go)] := by
      unfold pinsAt
      rw [List.filterMap_cons, e6]
      rfl
    rw [e]
    exact I
theorem all_made {pins : List (Addr × Obj)} {σ : L2.St} {Pv : Nat → Hp → Prop} {n : Nat} {pz : Nat → Bool} {F : Nat → V} {vs : List Nat} {a : Addr} {s : Shared} {k : Nat} {f : Nat → Bool} {Q : VK} (hr : Room k X.A) (G : GMd X pins σ Pv n pz F vs (fun a => [a]) a s)
    (hF : F = fun i => .bl (f i)) (hQ : ∀ i H, i ≤ n → Pv i H → Q (.bl (((List.range n).filter pz).all f)) H) : wpAny (model X.prog X.w) X.A (call (.builtin "all") [.ref a]) (EP X pins σ Q) X.xe s := by
  obtain ⟨lim, ⟨g0, isg⟩, Y, fp, tn, g, ep, ew, gs, back⟩ := G.gs1
  refine call_function_tree PySem.F.kind_all PySem.F.plain_all PySem.F.entry_all (PySem.F.args_all1 _) ?_
  unfold Builtin.«all»
  refine wpAny_bind (m := oneArg "all" _) (wpAny_pure ?_)
  refine wpAny_bind (wpAny_pyIter_gen isg ?_)
  have hd : X.A.in1.depth < recursionLimit := hr.depth
  have L := all_gx (A := X.A) (f := f) (R := fun r s' => match r with | .ok (.ret v) => EP X pins σ Q v s' | .ok _ => False | .error e => X.xe e s') hr.hd hd List.mem_cons_self hF (passing pz n 0).length 0 s rfl (Nat.zero_le _) gs
    (fun s' i H hi I pv => ⟨.bl _, H, back s' H I, rfl, hQ i H hi pv⟩)
  rw [ep, ew] at L
  exact wpAny_pure ⟨plainId_quiet PySem.F.plain_all_loop _, L⟩
theorem any_made {pins : List (Addr × Obj)} {σ : L2.St} {Pv : Nat → Hp → Prop} {n : Nat} {pz : Nat → Bool} {F : Nat → V} {vs : List Nat} {a : Addr} {s : Shared} {k : Nat} {f : Nat → Bool} {Q : VK} (hr : Room k X.A) (G : GMd X pins σ Pv n pz F vs (fun a => [a]) a s)
    (hF : F = fun i => .bl (f i)) (hQ : ∀ i H, i ≤ n → Pv i H → Q (.bl (((List.range n).filter pz).any f)) H) : wpAny (model X.prog X.w) X.A (call (.builtin "any") [.ref a]) (EP X pins σ Q) X.xe s := by
  obtain ⟨lim, ⟨g0, isg⟩, Y, fp, tn, g, ep, ew, gs, back⟩ := G.gs1
  refine call_function_tree PySem.F.kind_any PySem.F.plain_any PySem.F.entry_any (PySem.F.args_any1 _) ?_
  unfold Builtin.«any»
  refine wpAny_bind (m := oneArg "any" _) (wpAny_pure ?_)
  refine wpAny_bind (wpAny_pyIter_gen isg ?_)
  have hd : X.A.in1.depth < recursionLimit := hr.depth
  have L := any_gx (A := X.A) (f := f) (R := fun r s' => match r with | .ok (.ret v) => EP X pins σ Q v s' | .ok _ => False | .error e => X.xe e s') hr.hd hd List.mem_cons_self hF (passing pz n 0).length 0 s rfl (Nat.zero_le _) gs
    (fun s' i H hi I pv => ⟨.bl _, H, back s' H I, rfl, hQ i H hi pv⟩)
  rw [ep, ew] at L
  exact wpAny_pure ⟨plainId_quiet PySem.F.plain_any_loop _, L⟩
theorem sum_made {pins : List (Addr × Obj)} {σ : L2.St} {Pv : Nat → Hp → Prop} {n : Nat} {pz : Nat → Bool} {F : Nat → V} {vs : List Nat} {a : Addr} {s : Shared} {k : Nat} {f : Nat → Int} {B : Nat} {Q : VK} (hr : Room k X.A) (G : GMd X pins σ Pv n pz F vs (fun a => [a, a + 1]) a s)
    (hF : F = fun i => .int (f i)) (hB : n * B < 2 ^ 63) (hf : ∀ i, i < n → (f i).natAbs ≤ B) (hQ : ∀ H, Pv n H → Q (.int ((((List.range n).filter pz).map f).sum)) H) : wpAny (model X.prog X.w) X.A (call (.builtin "sum") [.ref a]) (EP X pins σ Q) X.xe s := by
  obtain ⟨Y, fp, tn, g, go, ep, ew, epn, es0, esz, ega, ego, isg, hfp, tkeep, ⟨H, I, st, nf, pv⟩, ⟨gs, h1, h2⟩, back⟩ := G.ex
  refine call_function_tree PySem.F.kind_sum PySem.F.plain_sum PySem.F.entry_sum (PySem.F.args_sum1 _) ?_
  unfold Builtin.«sum»
  simp only [List.length_cons, List.length_nil]
  rw [if_neg (by decide)]
  refine wpAny_bind (wpAny_of_eq (show Builtin.Builtins.bindParams "sum" ["start"] 0 { } = pure [none] from rfl) ?_)
  refine wpAny_bind (wpAny_pyIter_gen isg ?_)
  refine wpAny_bind (wpAny_mkInt ?_)
  refine wpAny_bind (wpAny_pure ?_)
  simp only [List.forIn_cons, List.forIn_nil]
  refine wpAny_bind (wpAny_bind (wpAny_bind (wpAny_isInstance (T := "int") (b := false) (typeIs_int _ _ _) PySem.sub_int_str ?_)))
  simp only [Bool.false_eq_true, if_false]
  refine wpAny_pure (wpAny_bind (wpAny_bind (wpAny_isInstance (T := "int") (b := false) (typeIs_int _ _ _) PySem.sub_int_bytes ?_)))
  simp only [Bool.false_eq_true, if_false]
  refine wpAny_pure (wpAny_bind (wpAny_bind (wpAny_isInstance (T := "int") (b := false) (typeIs_int _ _ _) PySem.sub_int_bytearray ?_)))
  simp only [Bool.false_eq_true, if_false]
  refine wpAny_pure (wpAny_pure ?_)
  refine wpAny_bind (wpAny_newObj_type ?_)
  have hd : X.A.in1.depth < recursionLimit := hr.depth
  have le : (passing pz n 0).length ≤ n := by
    unfold passing
    exact Nat.le_trans (List.length_filter_le _ _) (by simp)
  have inr : ∀ i ∈ passing pz n 0, i < n := fun i hi => by
    unfold passing at hi
    exact List.mem_range.mp (List.mem_filter.mp hi).1
  have bnd : ∀ l : List Nat, (∀ i ∈ l, i < n) → l.length ≤ n → InLong ((l.map f).sum) := fun l hl hn => by
    have b1 := sum_bound (f := f) (B := B) l fun i hi => hf i (hl i hi)
    have b2 : l.length * B ≤ n * B := Nat.mul_le_mul_right _ hn
    unfold InLong
    omega
  have hSz : s.heap.objs.size = a + 1 := esz
  have gs0 : GS Y [a, a + 1] fp (wipe σ vs) tn Pv n pz F X.A.in1 a g 0 { s with heap := s.heap.push { cls := .type "list", data := .seq #[.int 0 s.toks] }, toks := s.toks + 1 } := by
    have kp : ∀ b o, s.heap.get? b = some o → (s.heap.push { cls := .type "list", data := .seq #[.int 0 s.toks] }).get? b = some o := fun b o e => Heap.get?_push_of_some _ e
    have eS : (s.heap.push { cls := .type "list", data := .seq #[.int 0 s.toks] }).get? (a + 1) = some { cls := .type "list", data := .seq #[.int 0 s.toks] } := by rw [← hSz]; exact Heap.get?_push_size _ rfl
    have J : Inv Y [(a, go)] (wipe σ vs) H { s with heap := s.heap.push { cls := .type "list", data := .seq #[.int 0 s.toks] }, toks := s.toks + 1 } := I.kept kp
    have eP : pinsAt [a, a + 1] (s.heap.push { cls := .type "list", data := .seq #[.int 0 s.toks] }) = [(a, go), (a + 1, { cls := .type "list", data := .seq #[.int 0 s.toks] })] := by
      unfold pinsAt
      rw [List.filterMap_cons, kp a go ega]
      show (a, go) :: List.filterMap _ [a + 1] = _
      rw [List.filterMap_cons, eS]
      rfl
    refine ⟨?_, fun b hb => ?_, ⟨H, ?_, tkeep _ _ _ st fun b _ o e => kp b o e, nf, pv⟩, gs, h1, h2⟩
    · obtain ⟨o, nm, qn, ho, r⟩ := isg
      exact ⟨o, nm, qn, kp a o ho, r⟩
    · rcases List.mem_cons.mp hb with z | z
      · rw [z]
        exact ⟨go, kp a go ega⟩
      · rw [List.mem_singleton.mp z]
        exact ⟨_, eS⟩
    · show Inv Y (pinsAt [a, a + 1] (s.heap.push { cls := .type "list", data := .seq #[.int 0 s.toks] })) _ _ _
      rw [eP]
      refine J.pins_of fun p hp => ?_
      rcases List.mem_cons.mp hp with z | z
      · rw [z]
        exact J.pin (a, go) (List.mem_append_right _ List.mem_cons_self)
      · rw [List.mem_singleton.mp z]
        have fr : H (a + 1) = none := I.hok.fresh (Nat.le_of_eq hSz)
        refine ⟨eS, fr, fun z => ?_, I.nofs (Nat.le_of_eq hSz), fun v z => by cases z⟩
        have := I.lt
        rw [hSz] at this
        have z : a + 1 = Y.env.locals := z
        rw [← z] at this
        exact Nat.lt_irrefl _ this
  have L := sum_gx (A := X.A) (a := a) (S := a + 1) (f := f) (val := fun j => f ((passing pz n 0).getD j 0)) (R := fun r s' => match r with | .ok (.ret v) => EP X pins σ Q v s' | .ok _ => False | .error e => X.xe e s') epn (by simp) (Nat.ne_of_lt (Nat.lt_succ_self a)) (Nat.le_of_lt (Nat.lt_succ_of_lt es0))
    (fun b hb z => by
      have h3 := hfp b hb
      rcases List.mem_cons.mp z with z | z
      · rw [z] at h3; exact Nat.lt_irrefl _ h3
      · rw [List.mem_singleton.mp z] at h3; exact absurd (Nat.lt_trans h3 (Nat.lt_succ_self a)) (Nat.lt_irrefl _)) tkeep hr.hd hd (by simp) hF
    (fun j i hi => by
      show f ((passing pz n 0).getD j 0) = f i
      rw [List.getD_eq_getElem?_getD, hi]
      rfl)
    (fun j hj => ⟨by
      have e : (passing pz n 0)[j]? = some ((passing pz n 0)[j]'hj) := List.getElem?_eq_getElem _
      show InLong (f ((passing pz n 0).getD j 0))
      rw [List.getD_eq_getElem?_getD, e]
      have hm := inr _ (List.getElem_mem hj)
      have := bnd [(passing pz n 0)[j]'hj] (fun i hi => by rw [List.mem_singleton.mp hi]; exact hm) (by show 1 ≤ n; omega)
      simpa using this, by
      rw [preSum_take f _ _ hj]
      exact bnd _ (fun i hi => inr i (List.mem_of_mem_take hi)) (by rw [List.length_take]; omega)⟩)
    (passing pz n 0).length 0 _ s.toks 0 rfl (Nat.zero_le _) gs0 (by
      show (s.heap.push _).get? (a + 1) = _
      rw [← hSz]
      exact Heap.get?_push_size _ rfl)
    (fun s' t' H I pv => ⟨.int _, H, back s' H I, ⟨t', rfl⟩, by
      rw [preSum_take f _ _ (Nat.le_refl _), List.take_length]
      exact hQ H pv⟩)
  rw [ep, ew] at L
  rw [show s.heap.objs.size = a + 1 from hSz]
  exact wpAny_pure ⟨plainId_quiet PySem.F.plain_sum_loop _, L⟩
section
variable {c P : Addr} {elt tg iter : Expr} {ifs : List Expr} {scope : Scope} {own : List (Str × Nat)} {p pos gpos : Pos} {wi : TI} {g : TG} {tt : TT} {te : TE} {k : Nat}
theorem pe_allG (hr : Room k X.A) (hg : Gl X "all") (hm : X.mg "all" = none) (hN : X.N.Nodup) (TB : GxR.TabB X.base X.mg c P) (hcode : X.env.code = .ref c) (hi : PI X tg iter wi) (ok : BlkOk X.N X.env.scope scope own) (S : gxOk scope = true)
    (pg : ∀ (s : Shared) (H : Hp) (C : Addr) (code : Value) (fp : List Addr), PG (gblk X s H (gxEnv X scope C code) fp) tg g) (pt : ∀ (s : Shared) (H : Hp) (C : Addr) (code : Value) (fp : List Addr), PTs (gblk X s H (gxEnv X scope C code) fp) ifs tt)
    (pe : ∀ (s : Shared) (H : Hp) (C : Addr) (code : Value) (fp : List Addr), PE (gblk X s H (gxEnv X scope C code) fp) elt te)
    (hs : ∀ v, genFold iter X.env v = pure v := by intro _; rfl)
    (he : starEach [gxE elt tg iter ifs scope gpos] X.env = (false, eval (gxE elt tg iter ifs scope gpos) X.env) :: starEach [] X.env := by rfl) :
    PE X (.Call (.Name "all" p) [gxE elt tg iter ifs scope gpos] [] pos) (tAllG P wi g tt te (own.map (·.2))) := by
  refine ⟨fun pins s σ H Q I h => ?_⟩
  refine wpAny_Call_Name_kw (ld_blt I hg hm (show bootBuiltins "all" = some (.builtin "all") by decide +kernel) ?_)
  refine PyProof.Rows.callWith_builtin1 ?_ he (by rfl)
  rw [he]
  show wpAny _ _ (spliced ((false, eval (gxE elt tg iter ifs scope gpos) X.env) :: backTo pos (starEach [] X.env))) _ _ s
  refine Calls.spliced_cons (make_gx (fun a => [a]) (fun a b hb => by rw [List.mem_singleton.mp hb]; exact Nat.le_refl _) hr hN TB hcode hi ok (gx_ok S) pg pt pe hs I h fun n pz F Pv a s5 kk G => ?_)
  obtain ⟨f, hF, hQ⟩ := kk
  exact Calls.spliced_nil (all_made hr G hF hQ)
theorem pe_anyG (hr : Room k X.A) (hg : Gl X "any") (hm : X.mg "any" = none) (hN : X.N.Nodup) (TB : GxR.TabB X.base X.mg c P) (hcode : X.env.code = .ref c) (hi : PI X tg iter wi) (ok : BlkOk X.N X.env.scope scope own) (S : gxOk scope = true)
    (pg : ∀ (s : Shared) (H : Hp) (C : Addr) (code : Value) (fp : List Addr), PG (gblk X s H (gxEnv X scope C code) fp) tg g) (pt : ∀ (s : Shared) (H : Hp) (C : Addr) (code : Value) (fp : List Addr), PTs (gblk X s H (gxEnv X scope C code) fp) ifs tt)
    (pe : ∀ (s : Shared) (H : Hp) (C : Addr) (code : Value) (fp : List Addr), PE (gblk X s H (gxEnv X scope C code) fp) elt te)
    (hs : ∀ v, genFold iter X.env v = pure v := by intro _; rfl)
    (he : starEach [gxE elt tg iter ifs scope gpos] X.env = (false, eval (gxE elt tg iter ifs scope gpos) X.env) :: starEach [] X.env := by rfl) :
    PE X (.Call (.Name "any" p) [gxE elt tg iter ifs scope gpos] [] pos) (tAnyG P wi g tt te (own.map (·.2))) := by
  refine ⟨fun pins s σ H Q I h => ?_⟩
  refine wpAny_Call_Name_kw (ld_blt I hg hm (show bootBuiltins "any" = some (.builtin "any") by decide +kernel) ?_)
  refine PyProof.Rows.callWith_builtin1 ?_ he (by rfl)
  rw [he]
  show wpAny _ _ (spliced ((false, eval (gxE elt tg iter ifs scope gpos) X.env) :: backTo pos (starEach [] X.env))) _ _ s
  refine Calls.spliced_cons (make_gx (fun a => [a]) (fun a b hb => by rw [List.mem_singleton.mp hb]; exact Nat.le_refl _) hr hN TB hcode hi ok (gx_ok S) pg pt pe hs I h fun n pz F Pv a s5 kk G => ?_)
  obtain ⟨f, hF, hQ⟩ := kk
  exact Calls.spliced_nil (any_made hr G hF hQ)
theorem pe_sumG (hr : Room k X.A) (hg : Gl X "sum") (hm : X.mg "sum" = none) (hN : X.N.Nodup) (TB : GxR.TabB X.base X.mg c P) (hcode : X.env.code = .ref c) (hi : PI X tg iter wi) (ok : BlkOk X.N X.env.scope scope own) (S : gxOk scope = true)
    (pg : ∀ (s : Shared) (H : Hp) (C : Addr) (code : Value) (fp : List Addr), PG (gblk X s H (gxEnv X scope C code) fp) tg g) (pt : ∀ (s : Shared) (H : Hp) (C : Addr) (code : Value) (fp : List Addr), PTs (gblk X s H (gxEnv X scope C code) fp) ifs tt)
    (pe : ∀ (s : Shared) (H : Hp) (C : Addr) (code : Value) (fp : List Addr), PE (gblk X s H (gxEnv X scope C code) fp) elt te)
    (hs : ∀ v, genFold iter X.env v = pure v := by intro _; rfl)
    (he : starEach [gxE elt tg iter ifs scope gpos] X.env = (false, eval (gxE elt tg iter ifs scope gpos) X.env) :: starEach [] X.env := by rfl) :
    PE X (.Call (.Name "sum" p) [gxE elt tg iter ifs scope gpos] [] pos) (tSumG P wi g tt te (own.map (·.2))) := by
  refine ⟨fun pins s σ H Q I h => ?_⟩
  refine wpAny_Call_Name_kw (ld_blt I hg hm (show bootBuiltins "sum" = some (.builtin "sum") by decide +kernel) ?_)
  refine PyProof.Rows.callWith_builtin1 ?_ he (by rfl)
  rw [he]
  show wpAny _ _ (spliced ((false, eval (gxE elt tg iter ifs scope gpos) X.env) :: backTo pos (starEach [] X.env))) _ _ s
  refine Calls.spliced_cons (make_gx (fun a => [a, a + 1]) (fun a b hb => by
    rcases List.mem_cons.mp hb with z | z
    · rw [z]; exact Nat.le_refl _
    · rw [List.mem_singleton.mp z]; exact Nat.le_succ _) hr hN TB hcode hi ok (gx_ok S) pg pt pe hs I h fun n pz F Pv a s5 kk G => ?_)
  obtain ⟨f, B, hF, hB, hf, hQ⟩ := kk
  exact Calls.spliced_nil (sum_made hr G hF hB hf hQ)
end
end
/-- a def of the text whose code object is known -/
theorem okT {Pr : Program} {w : World} {K : PySem.W.Frag} {mg : Str → Option Value} {base : Heap} {x qual : Str} {st : Stmt} {f c : Addr} {fd : FuncData} {N ps : List Str} {k : Nat} {sp : Sp} (F : Fun K x qual st f fd) (hc : fd.code = .ref c) (S : FnScope N ps (defScope st)) (len : ∀ vs H Q E, sp vs H Q E → vs.length = ps.length)
    (hbody : ∀ (A : Around) (outer : List Env) (s : Shared) (H : Hp) (vs : List V) (Q : VK) (E : XK), Room k (A.deeper (envOfC qual (defScope st) s.heap.objs.size f (.ref c))) → sp vs H Q E →
      ∃ t, PSs (cxOf CX0 Pr w K mg base N qual (defScope st) f (.ref c) A outer s H E).nox (defBody st) t ∧ t { nx := fun _ H' => Q .non H', rt := Q } (start N vs) H) : FnOk Pr w K mg base CX0 (k + 1) f fd ps sp := by
  obtain ⟨oc, od, kV, doc, pm, an, cdv, ct, osl, rfl, lk, hcd⟩ := F.ex
  obtain rfl : cdv = .ref c := hc
  refine fn_of lk hcd S len fun A outer s H vs Q E hr hsp => ?_
  obtain ⟨t, h, q⟩ := hbody A outer s H vs Q E hr hsp
  exact ⟨t, h.nox, q⟩
/-- a generator's turns by a walk -/
theorem gx_it {J : It} {n : Nat} {G : Hp → Prop} {W : Nat → Hp → V → Hp → Prop} (w : Walk J n G W) {g : TG} {tt : TT} {te : TE} {σ : L2.St} {vs : List Nat} {pz : Nat → Bool} {F : Nat → V} {H1 : Hp} {R : Prop} (Pv : Nat → Hp → Prop) (p0 : Pv 0 H1) (hG : ∀ i H, i ≤ n → Pv i H → G H)
    (hs : ∀ i x H H', i < n → Pv i H → W i H x H' → g x (wipe σ vs) H' fun σ2 H2 => wipe σ2 vs = wipe σ vs ∧ tt σ2 H2 fun b H3 => b = pz i ∧ if b = true then te σ2 H3 (fun y H4 => y = F i ∧ Pv (i + 1) H4) else Pv (i + 1) H3) (r : R) :
    Pv 0 H1 ∧ (∀ i H, i < n → Pv i H → J.go i H) ∧ (∀ H, Pv n H → J.stop n H) ∧ GStep J g tt te σ vs Pv n pz F ∧ R :=
  ⟨p0, fun i H hi p => w.goes i H hi (hG i H (Nat.le_of_lt hi) p), fun H p => w.stops H (hG n H (Nat.le_refl _) p), fun i x H H' hi p y => hs i x H H' hi p (w.yields i H x H' hi (hG i H (Nat.le_of_lt hi) p) y), r⟩
/-! ### a law's end where defs have tables of code objects (generator expressions) -/
section
variable {P : Program} {w : World} {K : PySem.W.Frag} {mg mb : Str → Option Value} {k : Nat} {fa a : Addr} {fd : FuncData} {x : Str} {sp : Sp} {s1 : Shared} {vs : List Value} {ns : List Int} {cs : List (Addr × Addr)}
abbrev emptyT : Obj := { cls := .none, data := .fields #[] }
/-- what is tracked at a law's start: the script, if it is no thing of the text, and the tables -/
structure Only0 (K : PySem.W.Frag) (a : Addr) (ts : List Addr) (H : Hp) : Prop where
  tab : ∀ t ∈ ts, H t = some (TabO t)
  no : ∀ b, b ≠ a → b ∉ ts → H b = none
  own : H a = none ∨ (K.lookup a = none ∧ ∃ o xs, H a = some (.frz o (.lst xs)))
theorem told_fromT (H : Hp) (kin : K.In s1.heap) (glob : s1.heap.Ns mainGlobals mg) (blt : s1.heap.Ns builtinsNs mb) (same : ∀ y : Str, y ≠ "__name__" → mb y = bootBuiltins y) (lim : s1.heap.NoLimit) (bare : s1.gens = #[])
    (hT : ∀ p ∈ cs, s1.heap.get? p.2 = some emptyT) (nT : ∀ p ∈ cs, K.lookup p.2 = none) (C : ∀ p ∈ cs, PySem.W.CodeHd s1.heap p.1 p.2)
    (hbm : ∃ (bm : Addr) (ob : Obj), mg "__builtins__" = some (.ref bm) ∧ bm ≠ builtinsNs ∧ s1.heap.get? bm = some ob ∧ ob.cls = .type "module" ∧ ob.dict = some builtinsNs ∧ ob.data = .plain)
    (obj : s1.heap.get? a = some { cls := .type "list", data := .seq vs.toArray }) (room : Room k callerA)
    (F : ∀ base : Heap, K.In base → base.Ns mainGlobals mg → (∀ p ∈ cs, GxR.TabB base mg p.1 p.2) → FnG P w K mg base k fa fd [x] sp) (bind : ∀ (s : Shared) (u : Value), BindsTo s fd ⟨[u], []⟩ [(x, u)])
    (only : Only0 K a (cs.map (·.2)) H) (wish : sp [.ref a] H (fun v H' => v = .bl true ∧ ∀ p ∈ cs, H' p.2 = some (TabO p.2)) fun _ _ _ => False) (hok : HOk P w H s1.heap) :
    codeAny (model P w) callerA (.call (.ref fa) ⟨[.ref a], []⟩) (Told s1) s1 := by
  have isT : ∀ b : Addr, b ∈ cs.map (·.2) → s1.heap.get? b = some emptyT := fun b hb => by
    obtain ⟨p, hp, e⟩ := List.mem_map.mp hb
    rw [← e]
    exact hT p hp
  have aT : a ∉ cs.map (·.2) := fun z => by
    have q := isT a z
    rw [obj] at q
    have z' : Data.seq vs.toArray _ = Data.fields #[] := congrArg Obj.data (Option.some.inj q)
    cases z'
  have free : ∀ {b : Addr} {o : Obj}, s1.heap.get? b = some o → (∀ vs n, o.data ≠ .seq vs n) → o.data ≠ .fields #[] → H b = none := fun {b o} e h1 h2 => by
    refine only.no b (fun z => ?_) fun z => ?_
    · rw [z, obj] at e
      cases e
      exact h1 _ _ rfl
    · rw [isT b z] at e
      cases e
      exact h2 rfl
  have nsB : ∀ {b : Addr} {m : Str → Option Value}, s1.heap.Ns b m → (hidT s1.heap H).Ns b m := by
    rintro b m ⟨o, es, ep, e, d, r⟩
    refine ⟨o, es, ep, hidT_get e (free e (fun vs n z => ?_) fun z => ?_), d, r⟩
    · rw [d] at z
      cases z
    · rw [d] at z
      cases z
  have kinB : K.In (hidT s1.heap H) := fun b o e => by
    refine hidT_get (kin b o e) ?_
    by_cases z : b = a
    · subst z
      rcases only.own with h | ⟨h, _⟩
      · exact h
      · rw [h] at e
        cases e
    · refine only.no b z fun y => ?_
      obtain ⟨p, hp, ep⟩ := List.mem_map.mp y
      rw [← ep, nT p hp] at e
      cases e
  have limB : (hidT s1.heap H).NoLimit := by
    obtain ⟨mc, h1, h2⟩ := lim
    exact ⟨mc, nsB h1, h2⟩
  have TB : ∀ p ∈ cs, GxR.TabB (hidT s1.heap H) mg p.1 p.2 := fun p hp => by
    have hTp := hT p hp
    refine ⟨?_, ?_, fun z => ?_⟩
    · obtain ⟨o, us, file, tf, flags, tg, inF, text, tt, e1, r1, r2, r3, r4, r5, r6, r7, r8, hne⟩ := C p hp
      refine ⟨o, us, file, tf, flags, tg, inF, text, tt, hidT_get e1 (free e1 (fun vs n z => ?_) fun z => ?_), r1, r2, r3, r4, r5, r6, r7, r8, hne⟩
      · rw [r2] at z
        cases z
      · rw [r2] at z
        cases z
        simp at r3
    · obtain ⟨bm, ob, b1, b2, b3, b4, b5, b6⟩ := hbm
      have nG : bm ≠ mainGlobals := fun q => by
        obtain ⟨o, es, ep, e, hd, _⟩ := glob
        rw [q, e] at b3
        cases b3
        rw [hd] at b6
        cases b6
      have nP : bm ≠ p.2 := fun q => by
        rw [q, hTp] at b3
        cases b3
        cases b6
      refine ⟨bm, ob, b1, b2, nG, nP, hidT_get b3 (free b3 (fun vs n z => ?_) fun z => ?_), b4, b5, b6⟩
      · rw [b6] at z
        cases z
      · rw [b6] at z
        cases z
    · obtain ⟨o, es, ep, e, hd, _⟩ := glob
      rw [z, hTp] at e
      cases e
      cases hd
  have env : Env0 P w K mg (hidT s1.heap H) callerA [] s1 H :=
    { frames := rfl, mod := ⟨kinB, nsB glob, ⟨mb, nsB blt, same⟩, limB⟩, bs := fun _ _ e => of_hidT e, bsz := Nat.le_of_eq (hidT_size _ _), funs := trivial,
      frf := fun b z => (List.not_mem_nil (show b ∈ ([] : List Addr) from z)).elim, hok := hok, bare := .of_eq bare }
  refine codeAny_mono ((F _ kinB (nsB glob) TB).run callerA [] s1 H ⟨[.ref a], []⟩ [.ref a] [.ref a] _ _ room rfl env (bind s1 _) (.cons rfl .nil) wish) ?_
  rintro (e | fl) s2 h
  · exact (show False from h).elim
  · cases fl with
    | ret u =>
      obtain ⟨v, H2, os2, bare2, un, hok2, rel, q, qt⟩ := h
      have q : v = V.bl true := q
      subst q
      obtain rfl : u = Value.bool true := rel
      have key : ∀ b o, b ∉ cs.map (·.2) → s1.heap.get? b = some o → s2.heap.get? b = some o := fun b o nb e => by
        cases z : H b with
        | none => exact un.keep b o e z (fun y => List.not_mem_nil (show b ∈ ([] : List Addr) from y)) List.not_mem_nil
        | some u =>
          have eb : b = a := Classical.byContradiction fun n => by
            rw [only.no b n nb] at z
            cases z
          subst eb
          rcases only.own with y | ⟨_, ob, xs, y⟩
          · rw [z] at y
            cases y
          · obtain ⟨g1, _⟩ := hok b _ y
            obtain ⟨g2, _⟩ := hok2 b _ (un.frzs b ob _ y)
            rw [e] at g1
            cases g1
            exact g2
      have grown : ∀ p ∈ cs, ∃ more : Array Value, s2.heap.get? p.2 = some { cls := .none, data := .fields more } := fun p hp => by
        obtain ⟨⟨ps, h1, _⟩, _⟩ := (show ObjOk P w H2 s2.heap p.2 (TabO p.2) from hok2 p.2 _ (qt p hp))
        exact ⟨ps, h1⟩
      refine ⟨rfl, ⟨fun b o e => ?_, fun b o e => ?_⟩, os2, bare2⟩
      · by_cases hb : b ∈ cs.map (·.2)
        · obtain ⟨p, hp, ep⟩ := List.mem_map.mp hb
          obtain ⟨more, hm⟩ := grown p hp
          rw [← ep] at e ⊢
          rw [hT p hp] at e
          cases e
          exact .inr (.inl ⟨((C p hp).tab (hT p hp)).isCodeTable, rfl, #[], more, rfl, by rw [Array.empty_append]; exact hm⟩)
        · exact .inl (key b o hb e)
      · by_cases hb : b ∈ cs.map (·.2)
        · obtain ⟨p, hp, ep⟩ := List.mem_map.mp hb
          obtain ⟨more, hm⟩ := grown p hp
          rw [← ep]
          exact ⟨_, hm⟩
        · exact ⟨o, key b o hb e⟩
    | next => exact h.elim
    | brk => exact h.elim
    | cont => exact h.elim
theorem told_lawT (kin : K.In s1.heap) (glob : s1.heap.Ns mainGlobals mg) (blt : s1.heap.Ns builtinsNs mb) (same : ∀ y : Str, y ≠ "__name__" → mb y = bootBuiltins y) (lim : s1.heap.NoLimit) (bare : s1.gens = #[])
    (hT : ∀ p ∈ cs, s1.heap.get? p.2 = some emptyT) (nT : ∀ p ∈ cs, K.lookup p.2 = none) (C : ∀ p ∈ cs, PySem.W.CodeHd s1.heap p.1 p.2)
    (hbm : ∃ (bm : Addr) (ob : Obj), mg "__builtins__" = some (.ref bm) ∧ bm ≠ builtinsNs ∧ s1.heap.get? bm = some ob ∧ ob.cls = .type "module" ∧ ob.dict = some builtinsNs ∧ ob.data = .plain)
    (obj : s1.heap.get? a = some { cls := .type "list", data := .seq vs.toArray }) (are : IntsAre vs ns) (long : ns.length ≤ sizeLine) (room : Room k callerA)
    (F : ∀ base : Heap, K.In base → base.Ns mainGlobals mg → (∀ p ∈ cs, GxR.TabB base mg p.1 p.2) → FnG P w K mg base k fa fd [x] sp) (bind : ∀ (s : Shared) (u : Value), BindsTo s fd ⟨[u], []⟩ [(x, u)])
    (wish : ∀ H : Hp, SqL K H a (ns.map V.int) → (∀ p ∈ cs, H p.2 = some (TabO p.2)) → sp [.ref a] H (fun v H' => v = .bl true ∧ ∀ p ∈ cs, H' p.2 = some (TabO p.2)) fun _ _ _ => False) :
    codeAny (model P w) callerA (.call (.ref fa) ⟨[.ref a], []⟩) (Told s1) s1 := by
  have rv := vals_ints are
  have nl := are.length
  have isT : ∀ b : Addr, b ∈ cs.map (·.2) → s1.heap.get? b = some emptyT := fun b hb => by
    obtain ⟨p, hp, e⟩ := List.mem_map.mp hb
    rw [← e]
    exact hT p hp
  have aT : a ∉ cs.map (·.2) := fun z => by
    have q := isT a z
    rw [obj] at q
    have z' : Data.seq vs.toArray _ = Data.fields #[] := congrArg Obj.data (Option.some.inj q)
    cases z'
  have memT : ∀ p ∈ cs, p.2 ∈ cs.map (·.2) := fun p hp => List.mem_map.mpr ⟨p, hp, rfl⟩
  have tobj : ∀ {H : Hp} (b : Addr), b ∈ cs.map (·.2) → ObjOk P w H s1.heap b (TabO b) := fun b hb => tab_obj ⟨#[], isT b hb, trivial⟩
  cases hk : K.lookup a with
  | some o =>
    have e := kin a o hk
    rw [obj] at e
    cases e
    have tt : ∀ b ∈ cs.map (·.2), (fun b => if b ∈ cs.map (·.2) then some (TabO b) else none) b = some (TabO b) := fun b hb => if_pos hb
    have sq : SqL K (fun b => if b ∈ cs.map (·.2) then some (TabO b) else none) a (ns.map V.int) := Or.inr ⟨_, vs.toArray, _, hk, rfl, rfl, rfl, by rw [List.size_toArray, nl]; exact long, by simpa using rv⟩
    refine told_fromT _ kin glob blt same lim bare hT nT C hbm obj room F bind ⟨tt, fun b _ nb => if_neg nb, Or.inl (if_neg aT)⟩ (wish _ sq fun p hp => tt p.2 (memT p hp)) fun b u z => ?_
    by_cases hb : b ∈ cs.map (·.2)
    · have z' := (tt b hb).symm.trans z
      cases z'
      exact tobj b hb
    · have z' := (if_neg hb).symm.trans z
      cases z'
  | none =>
    let H : Hp := fun b => if b = a then some (.frz { cls := .type "list", data := .seq vs.toArray } (.lst (ns.map V.int))) else if b ∈ cs.map (·.2) then some (TabO b) else none
    have h1 : H a = some (.frz { cls := .type "list", data := .seq vs.toArray } (.lst (ns.map V.int))) := if_pos rfl
    have h2 : ∀ b ∈ cs.map (·.2), H b = some (TabO b) := fun b hb => (if_neg (show ¬ b = a from fun z => aT (by rw [← z]; exact hb))).trans (if_pos hb)
    have h3 : ∀ b, b ≠ a → b ∉ cs.map (·.2) → H b = none := fun b hb nb => (if_neg hb).trans (if_neg nb)
    refine told_fromT H kin glob blt same lim bare hT nT C hbm obj room F bind ⟨h2, h3, Or.inr ⟨hk, _, _, h1⟩⟩ (wish H (Or.inl (Or.inr ⟨_, h1⟩)) fun p hp => h2 p.2 (memT p hp)) fun b u z => ?_
    by_cases hb : b = a
    · rw [hb, h1] at z
      cases z
      rw [hb]
      exact ⟨obj, by rw [List.length_map]; exact long, vs, _, rv, obj⟩
    · by_cases hb2 : b ∈ cs.map (·.2)
      · rw [h2 b hb2] at z
        cases z
        exact tobj b hb2
      · rw [h3 b hb hb2] at z
        cases z
end
theorem walkGT {l : PySem.W.OpenLaw} {n k : Nat} {q : Program} {loose : List Str} {XP : (Str → Option Value) → Heap → Prop} {YP : World → Heap → Prop} {d : DefRec} {x : Str} {sp : PySem.W.Frag → List Addr → Sp}
    (hn : l.most = some n) (hn2 : n ≤ sizeLine) (hdf : d.params.defaults = []) (hr : Room k callerA)
    (F : ∀ (w : World) (mg : Str → Option Value) (fa : Addr) (h : Heap), YP w h → h.Ns mainGlobals mg → mg d.name = some (.ref fa) →
      ∃ (K : PySem.W.Frag) (fd : FuncData) (cs : List (Addr × Addr)), K.In h ∧ (∀ p ∈ cs, h.get? p.2 = some emptyT) ∧ (∀ p ∈ cs, K.lookup p.2 = none) ∧ (∀ p ∈ cs, PySem.W.CodeHd h p.1 p.2) ∧ (∀ (s : Shared) (u : Value), BindsTo s fd ⟨[u], []⟩ [(x, u)]) ∧
        ∀ base : Heap, K.In base → base.Ns mainGlobals mg → (∀ p ∈ cs, GxR.TabB base mg p.1 p.2) → FnG l.prog w K mg base k fa fd [x] (sp K (cs.map (·.2))))
    (hsp : ∀ (K : PySem.W.Frag) (ts : List Addr) (H : Hp) (a : Addr) (ns : List Int), ns.length ≤ n → SqL K H a (ns.map V.int) → (∀ t ∈ ts, H t = some (TabO t)) → sp K ts [.ref a] H (fun v H' => v = .bl true ∧ ∀ t ∈ ts, H' t = some (TabO t)) fun _ _ _ => False) :
    PySem.W.WalkO q loose XP YP l.row.toRowW d [] (fun f vs => PySem.call f vs) := by
  refine Att.attach_call hn hdf fun w s0 s1 mg mb fa o pm cd doc a vs ns G Y ho hd hcd hmg hobj hints hlen hg => ?_
  obtain ⟨K, fd, cs, kin, hT, nT, C, hb, hF⟩ := F w mg fa _ Y G.T.g hmg
  refine told_lawT kin G.T.g G.T.b G.T.builtins G.T.nolimit hg hT nT C G.T.bmain hobj hints (Nat.le_trans hlen hn2) hr hF hb fun H sq tt => ?_
  have w1 := hsp K (cs.map (·.2)) H a ns hlen sq fun t ht => by
    obtain ⟨p, hp, rfl⟩ := List.mem_map.mp ht
    exact tt p hp
  have e : (fun (v : V) (H' : Hp) => v = .bl true ∧ ∀ t ∈ cs.map (·.2), H' t = some (TabO t)) = fun v H' => v = .bl true ∧ ∀ p ∈ cs, H' p.2 = some (TabO p.2) := by
    funext v H'
    apply propext
    constructor
    · intro ⟨h1, h2⟩
      exact ⟨h1, fun p hp => h2 p.2 (List.mem_map.mpr ⟨p, hp, rfl⟩)⟩
    · intro ⟨h1, h2⟩
      refine ⟨h1, fun t ht => ?_⟩
      obtain ⟨p, hp, rfl⟩ := List.mem_map.mp ht
      exact h2 p hp
  rw [e] at w1
  exact w1
/-- what is known of a def's code object -/
theorem code_of {K : PySem.W.Frag} {x qual : Str} {pa : Arguments} {bd : List Stmt} {sc : Scope} {dv : List V} {kw : List (Str × V)} {p : He.Defn} {fd : FuncData} (F : FunD K x qual pa bd sc dv kw (He.fAd K p) fd) : fd.code = .ref (He.codeOf K p) := by
  obtain ⟨oc, od, dV, kV, doc, pm, an, cdv, ct, osl, e, lk, hcd, hd, hk⟩ := F.ex
  obtain ⟨c, rfl⟩ := He.codeIn_ref hcd
  have e2 : fd.code = .ref c := by rw [e]
  rw [e2, He.codeOf_eq lk e2]
/-- the law's promise, tables ts -/
def spLawT (K : PySem.W.Frag) (ts : List Addr) : Sp := fun vs H Q _ => ∃ (a : Addr) (ns : List Int), vs = [.ref a] ∧ SqL K H a (ns.map V.int) ∧ (∀ t ∈ ts, H t = some (TabO t)) ∧ ∀ H', (∀ t ∈ ts, H' t = some (TabO t)) → Q (.bl true) H'
/-! ### a set display of one written text, found.add(text), by SXO: sorted(..) of it stays known -/
section
variable {P : Program} {w : World} {A : Around} {E : Value → Shared → Prop} {s : Shared} {a : Addr} {S : Key → Prop} {n : Nat}
theorem SX.typeIs {s : Shared} (R : SX w s.heap a S n) : Shared.TypeIs s (.ref a) "set" := by
  obtain ⟨o, es, ep, t, ⟨q1, q2, q3⟩, _⟩ := R
  exact ⟨o, q1, q2.1⟩
theorem SX.noDict {s : Shared} (R : SX w s.heap a S n) : ∀ b, Value.ref a = .ref b → ∃ ob, s.heap.get? b = some ob ∧ ob.dict = none := fun b e => by
  injection e with e
  subst e
  obtain ⟨o, es, ep, t, ⟨q1, q2, q3⟩, _⟩ := R
  exact ⟨o, q1, q2.2.1⟩
theorem sx_add_call {k : Key} {v : Value} {Q : Value → Shared → Prop} (R : SX w s.heap a S n) (room : n + 1 < scanBound) (hk : keyIs k v = true)
    (fin : ∀ h' m, Heap.SameBut a s.heap h' → m ≤ n + 1 → SX w h' a (fun j => S j ∨ j = k) m → Q .none { s with heap := h', toks := s.toks + 1 }) :
    wpAny (model P w) A (call (.builtin "set.add") [.ref a, v]) Q E s := by
  refine wpAny_call_entry F.slot_set_add R.typeIs F.entry_set_add ?_ (F.args_set_add_2 _ _)
  unfold Builtin.«set.add» Builtin.Frozenset.oneOther
  simp only [List.isEmpty_nil, bind_assoc]
  unfold Builtin.Frozenset.addrOf setAdd
  refine wpAny_bind (wpAny_pure ?_)
  try dsimp only
  refine wpAny_bind (wpAny_pure ?_)
  try dsimp only
  refine wpAny_bind ?_
  refine wpAny_holding ?_
  refine wpAny_bind ((mixKind P w).pyHash (k := k) hk ?_)
  refine sx_add (s := { s with toks := s.toks + 1 }) R room hk fun h' m sb hm R' b => ?_
  show wpAny _ _ (ret Value.none) _ _ _
  exact wpAny_pure ⟨_, rfl, fin h' m sb hm R'⟩
theorem set_one {t : Sem Value} {x : Str} {b : Bool} {Q : Value → Shared → Prop} (ht : ∀ (s1 : Shared) (Q1 : Value → Shared → Prop), (∀ k tk, Q1 (.str x k) { s1 with toks := tk }) → wpAny (model P w) A t Q1 E s1)
    (fin : ∀ h' tk m, m ≤ 1 → SX w h' s.heap.objs.size (fun j => j = .inr x) m → (∀ b o, s.heap.get? b = some o → h'.get? b = some o) → Q (.ref s.heap.objs.size) { s with heap := h', toks := tk }) :
    wpAny (model P w) A (setDisplay .oneByOne b [(false, t)]) Q E s := by
  unfold setDisplay
  try dsimp only
  rw [if_neg (by decide)]
  refine wpAny_bind (wpAny_newSet_raw fun led hled => ?_)
  subst hled
  have at1 : (s.heap.push { cls := .type "set", dict := none, data := .set #[] 0 (.fresh 0 0 (!w.params.followText "set-order")) }).get? s.heap.objs.size = some { cls := .type "set", dict := none, data := .set #[] 0 (.fresh 0 0 (!w.params.followText "set-order")) } := Heap.get?_push_size _ rfl
  have R0 : SX w _ s.heap.objs.size _ 0 := sx_new (ks := []) at1
  have k0 : ∀ b o, s.heap.get? b = some o → (s.heap.push { cls := .type "set", dict := none, data := .set #[] 0 (.fresh 0 0 (!w.params.followText "set-order")) }).get? b = some o := fun b o e => Heap.get?_push_of_some _ e
  generalize s.heap.push { cls := .type "set", dict := none, data := .set #[] 0 (.fresh 0 0 (!w.params.followText "set-order")) } = h1 at *
  refine wpAny_bind (wpAny_holding ?_)
  show wpAny _ _ (evalAll [t] >>= _) _ _ _
  unfold evalAll
  refine wpAny_bind (wpAny_bind (ht _ _ fun k tk => ?_))
  unfold evalAll
  refine wpAny_bind (wpAny_holding (wpAny_pure ?_))
  refine wpAny_pure ?_
  refine wpAny_bind (wpAny_holding ?_)
  rw [List.forIn_cons]
  refine wpAny_bind (wpAny_bind ?_)
  refine wpAny_bind ?_
  unfold setAdd
  refine wpAny_holding ?_
  refine wpAny_bind ((mixKind P w).pyHash (k := .inr x) (kV_is (P := P) (w := w) (k := .inr x) (u := .str x k) ⟨k, rfl⟩) ?_)
  refine sx_add (k := .inr x) R0 (by decide) (kV_is (P := P) (w := w) (k := .inr x) (u := .str x k) ⟨k, rfl⟩) fun h' m sb hm R' b => ?_
  have R2 : SX w h' s.heap.objs.size (fun j => j = .inr x) m := R'.like fun j => by simp
  have kk : ∀ b o, s.heap.get? b = some o → h'.get? b = some o := fun b o e => by
    rw [sb.2 b (fun z => Nat.lt_irrefl _ (z ▸ Heap.lt_size e))]
    exact k0 b o e
  have fin2 := fin h' (tk + 1) m (by omega) R2 kk
  repeat (first | exact fin2 | refine wpAny_pure ?_ | refine wpAny_bind ?_ | rw [List.forIn_nil] | rw [if_neg (by decide)])
end
section
variable {X : Cx}
/-- {'text'} -/
def tSet1 (w : World) (x : Str) : TE := fun _ H Q => ∀ p c o, H p = none → c ≤ 1 → o = SXO w p (fun j => j = .inr x) c → Q (.ref p) (upd H p o)
theorem pe_set1 {x : Str} {j : Nat} {pos cpos : Pos} (hcd : PySem.W.kdsCode X.K X.env.code = true) : PE X (.Set [.Constant (.str x) j cpos] 0 pos) (tSet1 X.w x) := by
  refine ⟨fun pins s σ H Q I h => ?_⟩
  rw [arm_eval_Set]
  refine wpAny_bind (wpAny_standAt ?_)
  refine wpAny_bind (PySem.W.kds_main I.kIn hcd fun b => ?_)
  have er : displayRoad 0 [Expr.Constant (.str x) j cpos] = .oneByOne := rfl
  rw [er]
  show wpAny _ _ (setDisplay .oneByOne b [(false, do let v ← eval (.Constant (.str x) j cpos) X.env; standAt pos; pure v)]) _ _ _
  refine set_one (x := x) (fun s1 Q1 h1 => ?_) fun h' tk m hm R keep => ?_
  · refine wpAny_bind (Calls.Constant_str ?_)
    exact wpAny_bind (wpAny_standAt (wpAny_pure (h1 _ _)))
  · exact ⟨.ref _, upd H s.heap.objs.size (SXO X.w s.heap.objs.size (fun j => j = .inr x) m), I.laid (t' := tk) keep (Nat.le_refl _) (sxo_new R), rfl, h _ _ _ (I.hok.fresh (Nat.le_refl _)) hm rfl⟩
/-- found.add(k) -/
def rSAddX (w : World) : V → List V → Hp → VK → Prop := fun x xs H Q => ∃ (a : Addr) (k : Key) (S : Key → Prop) (n : Nat), x = V.ref a ∧ xs = [kV k] ∧ H a = some (SXO w a S n) ∧ n ≤ 4000 ∧
  ∀ m o, m ≤ n + 1 → o = SXO w a (fun j => S j ∨ j = k) m → Q .non (upd H a o)
theorem mt_saddX : MtR X "set.add" (rSAddX X.w) := by
  intro pins s σ H x xs v us Q I rx rxs h
  obtain ⟨a, k, S, n, rfl, rfl, ha, room, q⟩ := h
  cases rx
  cases rxs with
  | cons ry rt =>
    cases rt
    have R : SX X.w s.heap a S n := (I.hok a _ ha).1
    refine sx_add_call R (show n + 1 < 4096 by omega) (kV_is (P := X.prog) (w := X.w) ry) fun h' m sb hm new => ?_
    have he : ∃ u, h'.get? a = some u := by
      have ⟨o, _, _, _, ho, _⟩ := new
      exact ⟨o, ho.1⟩
    exact ⟨.non, upd H a (SXO X.w a (fun j => S j ∨ j = k) m), I.write (e := a) (t' := s.toks + 1) (by rw [ha]; trivial) (.inl rfl) (fun b u hb hu => (sb.2 b hb).trans hu) he (sxo_new new), rfl, q m _ hm rfl⟩
def tSAddX (w : World) (to : TE) (t : TA) : TE := fun σ H Q => to σ H fun x H1 => (∃ a S n, x = V.ref a ∧ H1 a = some (SXO w a S n)) ∧ t σ H1 fun xs H2 => rSAddX w x xs H2 Q
variable {o e : Expr} {es : List Expr} {to : TE} {t : TA} {apos cpos : Pos}
theorem pe_saddX (ho : PE X o to) (ha : PA X (e :: es) t)
    (hbase : attributeBase o "add" X.env (eval o X.env) = eval o X.env := by rfl)
    (hfew : ((backTo cpos (starEach (e :: es) X.env)).all (fun x => !x.1) && (backToKw cpos (keywordEach [] X.env)).all (fun x => x.1.isSome)
      && decide ((e :: es).length + ([] : List Keyword).length + (if ([] : List Keyword).isEmpty then 0 else 1) < 30)) = true := by rfl)
    (hline : (apos.endLine == cpos.line) = true := by rfl) (hs : starEach (e :: es) X.env = (false, eval e X.env) :: starEach es X.env := by rfl) (hplain : (backTo cpos (starEach es X.env)).any (·.1) = false := by rfl) :
    PE X (.Call (.Attribute o "add" apos) (e :: es) [] cpos) (tSAddX X.w to t) := by
  refine ⟨fun pins s σ H Q I h => ?_⟩
  refine wpAny_Call_method_late hbase hfew hline rfl (thn (ho.run pins s σ H _ I h) fun v s1 ⟨x, H1, I1, r1, ty, q1⟩ => ?_)
  obtain ⟨a, S, n, rfl, hka⟩ := ty
  have hS : SX X.w s1.heap a S n := (I1.hok a _ hka).1
  cases r1
  refine ⟨"set", "set.add", F.plainAttrs_set, F.slot_set_add, F.type_set_add, hS.typeIs, hS.noDict, ?_⟩
  have hA := ha.run cpos pins s1 σ H1 _ I1 q1
  rw [hs] at hA ⊢
  refine Calls.callWith_builtin (by show (false || (backTo cpos (starEach es X.env)).any (·.1)) = false; rw [hplain] <;> rfl) (Calls.evalArgs_plain ?_)
  exact thn hA fun us s2 ⟨vs, H2, I2, r2, q2⟩ => mt_saddX pins s2 σ H2 (.ref a) vs (.ref a) us Q I2 rfl r2 q2
/-- a def whose code object is the module's -/
theorem okC {Pr : Program} {w : World} {K : PySem.W.Frag} {mg : Str → Option Value} {base : Heap} {x qual : Str} {st : Stmt} {f : Addr} {fd : FuncData} {N ps : List Str} {k : Nat} {sp : Sp} (F : Fun K x qual st f fd) (S : FnScope N ps (defScope st)) (len : ∀ vs H Q E, sp vs H Q E → vs.length = ps.length)
    (hbody : ∀ (cdv : Value) (A : Around) (outer : List Env) (s : Shared) (H : Hp) (vs : List V) (Q : VK) (E : XK), Room k (A.deeper (envOfC qual (defScope st) s.heap.objs.size f cdv)) → PySem.W.kdsCode K cdv = true → sp vs H Q E →
      ∃ t, PSs (cxOf CX0 Pr w K mg base N qual (defScope st) f cdv A outer s H E).nox (defBody st) t ∧ t { nx := fun _ H' => Q .non H', rt := Q } (start N vs) H) : FnOk Pr w K mg base CX0 (k + 1) f fd ps sp := by
  obtain ⟨oc, od, kV, doc, pm, an, cdv, ct, osl, rfl, lk, hcd⟩ := F.ex
  refine fn_of lk hcd S len fun A outer s H vs Q E hr hsp => ?_
  obtain ⟨t, h, q⟩ := hbody cdv A outer s H vs Q E hr (kdsCode_of hcd) hsp
  exact ⟨t, h.nox, q⟩
end
/-! ### enumerate(tuple), is not True -/
set_option maxHeartbeats 1000000 in
theorem meets_enumB {v : Value} {o : Obj} {H : Heap → Prop} (B : Begins v o H) :
    Meets (Builtin.«enumerate.__new__» ⟨[.type "enumerate", v], []⟩) (fun _ R s => H s.heap ∧
      R (.ok (.ret (.ref (s.heap.push o).objs.size))) { s with heap := (s.heap.push o).push { cls := .type "enumerate", data := .fields #[.none, .bool false, .ref s.heap.objs.size, rawInt 0, .none, .none] } }) :=
  .of_wp fun prog w A R s h => by
    obtain ⟨hp, g, d, tk, os⟩ := s; obtain ⟨h1, h⟩ := h
    have hsub := sub_enumerate
    have q1 : ∀ {A' : Around} {E : Value → Shared → Prop} {Q : Value → Shared → Prop}, Q (.ref hp.objs.size) ⟨hp.push o, g, d, tk, os⟩ → wpAny (model prog w) A' (pyIter v) Q E ⟨hp, g, d, tk, os⟩ :=
      fun q => B.iter prog w _ _ ⟨hp, g, d, tk, os⟩ _ h1 q
    wp_walk using q1
    refine wpAny_stack_any fun st => wpAny_pure ?_
    split
    · rename_i c _ _ _ _ _
      cases (c == Value.type "enumerate")
      · wp_walk using q1
        exact ⟨_, rfl, h⟩
      · wp_walk using q1
        exact ⟨_, rfl, h⟩
    · wp_walk using q1
      exact ⟨_, rfl, h⟩
theorem enum_at {prog : Program} {w : World} {A : Around} {E : Value → Shared → Prop} {s : Shared} {v : Value} {o : Obj} {H : Heap → Prop} {Q : Value → Shared → Prop} (B : Begins v o H) (h1 : H s.heap)
    (h : ∀ h', IsEnum h' (s.heap.objs.size + 1) s.heap.objs.size 0 .none → h'.get? s.heap.objs.size = some o → h'.objs.size = s.heap.objs.size + 2 →
      (∀ b o, s.heap.get? b = some o → h'.get? b = some o) → Q (.ref (s.heap.objs.size + 1)) { s with heap := h' }) :
    wpAny (model prog w) A (call (.type "enumerate") [v]) Q E s := by
  refine callType_new F.called_enumerate (by decide) (F.typeCall_enumerate_1 _) (F.newCall_enumerate_1 _) (fun obj => F.args_object_init_2 obj _) F.entry_enumerate_new (meets_enumB B) ⟨h1, ?_⟩
  have hz : (s.heap.push o).objs.size = s.heap.objs.size + 1 := Heap.size_push ..
  show _ ∧ _
  rw [hz]
  have he : IsEnum ((s.heap.push o).push { cls := .type "enumerate", data := .fields #[.none, .bool false, .ref s.heap.objs.size, rawInt 0, .none, .none] }) (s.heap.objs.size + 1) s.heap.objs.size 0 .none := by
    have := Heap.get?_push_size (s.heap.push o) (o := { cls := .type "enumerate", data := .fields #[.none, .bool false, .ref s.heap.objs.size, rawInt 0, .none, .none] }) rfl
    rw [hz] at this; exact this
  refine ⟨⟨_, he, rfl⟩, h _ he (Heap.get?_push_of_some _ (Heap.get?_push_size _ B.free)) (by rw [Heap.size_push, hz]) fun b o x => Heap.get?_push_of_some _ (Heap.get?_push_of_some _ x)⟩
/-- the tuple at a, each item in a new pair -/
def IteT (K : PySem.W.Frag) (a : Addr) : It :=
  ⟨fun i H => ∃ (xs : List V) (x : V), SqT K H a xs ∧ xs[i]? = some x, fun i H v H' => ∃ T x, v = .ref T ∧ H T = none ∧ H' = upd H T (.tup [.int (i : Nat), x]) ∧ ∀ xs, SqT K H a xs → xs[i]? = some x, fun i H => ∃ xs : List V, SqT K H a xs ∧ xs.length ≤ i⟩
theorem turn_enumT {P : Program} {w : World} {K : PySem.W.Frag} {elts : List Expr} {kk : Nat} {tpos : Pos} (a e it : Addr) :
    Turn P w K (.Tuple elts kk tpos) (IteT K a) [e, it] e (fun i h => (∃ old, IsEnum h e it ((i : Nat) : Int) old) ∧ h.IsTupleIter it a i ∧ e ≠ it ∧ a ≠ it ∧ a ≠ e) where
  mem := by simp
  obj := fun i h st b hb => by
    obtain ⟨⟨old, he⟩, ⟨o, ho, hc, hd⟩, _⟩ := st
    have e' : b = e ∨ b = it := by simpa using hb
    rcases e' with z | z
    · rw [z]; exact ⟨_, he, fun v q => nomatch q⟩
    · rw [z]; exact ⟨o, ho, fun v q => by rw [hd] at q; cases q⟩
  keep := fun i h h' st k => let ⟨⟨old, he⟩, hi, hne⟩ := st; ⟨⟨old, k e (by simp) _ he⟩, hi.at fun o q => k it (by simp) o q, hne⟩
  item := by
    intro X hP hw hK hc i pins s σ H E I hf st hg
    subst hP hw hK
    obtain ⟨⟨old, he⟩, hit, hne, hai, hae⟩ := st
    obtain ⟨xs, x, hq, hx⟩ := hg
    obtain ⟨its, rv, p, hz⟩ := I.tuple hq
    obtain ⟨u, hu, ru⟩ := rv.get hx
    have hel : e < s.heap.objs.size := Heap.lt_size he
    have hil : it < s.heap.objs.size := by obtain ⟨_, q, _⟩ := hit; exact Heap.lt_size q
    have hu2 := hu
    refine wpAny_pyNext_enum_itemD (Draws.tuple (A := X.A.in1) (by simp [I.ok.hd hc]) it a hai its.toArray) he ⟨hit, p⟩ (by simpa using (List.getElem?_eq_some_iff.mp hu).1) hne (by simp [hne, Ne.symm hae]) fun y h' tk py ho st' hT hsz hk => ?_
    obtain rfl : y = u := by
      have py : its.toArray[i]? = some y := py
      rw [List.getElem?_toArray, hu2] at py
      exact (Option.some.inj py).symm
    refine ⟨_, rfl, wpAny_letOwnedTupleGo_enum (s := { s with heap := h', toks := tk + 1 }) ho fun h'' he' sb => ?_⟩
    have hT2 : h''.get? s.heap.objs.size = some { cls := .type "tuple", data := .seq #[.int i tk, y] } := (sb.2 _ (Nat.ne_of_gt hel)).trans hT
    have new : ObjOk X.prog X.w (upd H s.heap.objs.size (.tup [.int (i : Nat), x])) h'' s.heap.objs.size (.tup [.int (i : Nat), x]) :=
      ⟨by show 2 ≤ sizeLine; decide, [.int i tk, y], .cons ⟨_, rfl⟩ (.cons ru .nil), ⟨_, hT2, rfl, _, rfl⟩⟩
    have I1 : Inv X pins σ (upd H s.heap.objs.size (.tup [.int (i : Nat), x])) { s with heap := h'', toks := tk + 1 } :=
      I.turnedNew (ch := [e, it]) (fun b ob hb q => (sb.2 b (fun z => hb (by simp [z]))).trans (hk b ob (fun z => hb (by simp [z])) (fun z => hb (by simp [z])) q)) hf (Nat.le_refl _) new
    refine ⟨.ref s.heap.objs.size, _, I1, rfl, ⟨_, x, rfl, I.hok.fresh (Nat.le_refl _), rfl, fun ys hy => by rw [I.tuple_inj hy hq]; exact hx⟩, ⟨⟨y, ?_⟩, st'.1.at fun o q => (sb.2 it (Ne.symm hne)).trans q, hne, hai, hae⟩, fun b hb => ?_⟩
    · have e1 : ((i + 1 : Nat) : Int) = (i : Int) + 1 := by omega
      rw [e1]; exact he'
    · have hb' : b < s.heap.objs.size := by
        have e' : b = e ∨ b = it := by simpa using hb
        rcases e' with z | z
        · rw [z]; exact hel
        · rw [z]; exact hil
      rw [upd_ne (Nat.ne_of_lt hb')]
      exact (hf b hb).1
  done := by
    intro X hP hw hK hc i pins s σ H E I hf st hg
    subst hP hw hK
    obtain ⟨⟨old, he⟩, hit, hne, hai, hae⟩ := st
    obtain ⟨xs, hq, hx⟩ := hg
    obtain ⟨its, rv, p, hz⟩ := I.tuple hq
    obtain ⟨f0, f1, f2, f3, f4, f5⟩ := hf it (by simp)
    have hl := rv.length
    have D2 : Draws X.prog X.w X.A.in1 it [it, a] i (fun _ _ => True) (fun j h => (h.IsTupleIter it a j ∧ h.IsTuple a its.toArray) ∧ i ≤ j) :=
      ⟨fun _ _ st => let ⟨o, ho, _⟩ := st.1.1; ⟨o, ho⟩, fun _ _ _ st hk => ⟨⟨st.1.1.at fun o e => hk it (by simp) o e, st.1.2.at fun o e => hk a (by simp) o e⟩, st.2⟩,
        fun j s Q E hj st hQ => absurd st.2 (by omega), fun s Q E st hE => PySem.wpAny_nextOf_tuple_end (by simp [I.ok.hd hc]) st.1.1 st.1.2 (by simp; omega) hE⟩
    exact wpAny_pyNext_enum_endD D2 he ⟨⟨hit, p⟩, Nat.le_refl _⟩ fun h' eb => ⟨rfl, I.turned (t' := s.toks) (fun b o hb q => eb b o hb q) f0 f1 f3 f4 f5⟩
  self := fun A i s Q E st h => let ⟨⟨_, he⟩, _⟩ := st; wpAny_pyIter_enum he h
def iEnumT (K : PySem.W.Frag) (ta : TA) : TI := fun σ H R => ta σ H fun vs H1 => ∃ a xs, vs = [.ref a] ∧ SqT K H1 a xs ∧ R (IteT K a) H1
theorem pi_enumT {X : Cx} {e : Expr} {ta : TA} {p pos tpos : Pos} {elts : List Expr} {kk : Nat} (hg : Gl X "enumerate") (hm : X.mg "enumerate" = none) (ha : PA X [e] ta) (hs : starEach [e] X.env = [(false, eval e X.env)] := by rfl) :
    PI X (.Tuple elts kk tpos) (.Call (.Name "enumerate" p) [e] [] pos) (iEnumT X.K ta) := by
  refine ⟨fun pins s σ H R I h => ?_⟩
  refine Call_ (ld_blt I hg hm boot_enumerate (PyProof.Rows.callWith_type1 (thn (ha.run pos pins s σ H _ I h) fun us s1 ⟨vs, H1, I1, r1, q1⟩ => ?_) hs rfl))
  obtain ⟨a, xs, ex, hq, q⟩ := q1
  subst ex
  cases r1 with
  | cons r rr =>
    cases rr
    cases r
    obtain ⟨its, rv, p', hz⟩ := I1.tuple hq
    have la : a < s1.heap.objs.size := by obtain ⟨_, z, _⟩ := p'; exact Heap.lt_size z
    refine enum_at (begins_tuple a its.toArray) p' fun h' he ho hsz hk => wpAny_pyIter_enum he ?_
    have I2 : Inv X pins σ H1 { s1 with heap := h' } := I1.kept (t' := s1.toks) hk
    refine ⟨s1.heap.objs.size + 1, [s1.heap.objs.size + 1, s1.heap.objs.size], _, _, H1, rfl, I2, turn_enumT a (s1.heap.objs.size + 1) s1.heap.objs.size, ⟨⟨.none, he⟩, ⟨_, ho, rfl, rfl⟩, Nat.succ_ne_self _, Nat.ne_of_lt la, Nat.ne_of_lt (Nat.lt_succ_of_lt la)⟩, fun b hb => ?_, q⟩
    have e' : b = s1.heap.objs.size + 1 ∨ b = s1.heap.objs.size := by simpa using hb
    have hle : s1.heap.objs.size ≤ b := by
      rcases e' with z | z
      · rw [z]; exact Nat.le_add_right _ _
      · rw [z]; exact Nat.le_refl _
    exact I1.fpOk hle (I1.hok.fresh hle)
theorem walk_enumT {K : PySem.W.Frag} {a : Addr} {xs : List V} : Walk (IteT K a) xs.length (fun H => SqT K H a xs) (YPair (fun i => some (.int (i : Nat))) (fun i => xs[i]?)) := by
  refine ⟨fun i _ hi q => ⟨xs, xs[i], q, by simp [hi]⟩, fun _ q => ⟨xs, q, Nat.le_refl _⟩, fun i H v H' _ q y => ?_⟩
  obtain ⟨T, x, h1, h2, h3, h4⟩ := y
  exact ⟨T, .int (i : Nat), x, h1, h2, h3, rfl, h4 xs q⟩
/-- is not True -/
theorem op_notTrue {X : Cx} : OpR X (compareOp .IsNot) (fun x y H Q => ∃ b, x = .bl b ∧ y = .bl true ∧ Q (.bl (!b)) H) := by
  intro pins s σ H x y v u Q I rx ry h
  obtain ⟨b, rfl, rfl, q⟩ := h
  cases rx
  cases ry
  refine isnot_bool (fin_bl I q ?_)
  cases b <;> rfl
/-! ### places, sets of places, cuts (k38, k39) -/
theorem tab_but {H H' : Hp} {f c P : Addr} {n : Int} (hf : Fd H f c n) (b : But f H H') (h : H P = some (TabO P)) : H' P = some (TabO P) := by
  obtain ⟨zs, hz⟩ := hf.at
  exact b P _ (ne_of h hz (fun z => by unfold TabO at z; exact nomatch z)) h
def Tabs (H : Hp) (ts : List Addr) : Prop := ∀ t ∈ ts, H t = some (TabO t)
theorem Tabs.same {H H' : Hp} {ts : List Addr} (s : Same H H') (h : Tabs H ts) : Tabs H' ts := fun t ht => s _ _ (h t ht)
def spRises (P : Addr) : Sp := fun vs H Q _ => ∃ (t : Addr) (ys : List Str), vs = [.ref t] ∧ H t = some (.tup (ys.map V.str)) ∧ ys.Pairwise sl ∧ ys.length ≤ 40 ∧ H P = some (TabO P) ∧ ∀ H', Same H H' → Q (.bl true) H'
def spPlOf : Sp := fun vs H Q _ => ∃ (o : Addr) (ws : List Wt) (E : List Ed), vs = [.ref o] ∧ OfAt H o ws E ∧ E.length ≤ 16 ∧
  ∀ (t : Addr) (pl : List Str) (H' : Hp), Same H H' → H t = none → H' t = some (.tup (pl.map V.str)) → pl.Pairwise sl → (∀ y, y ∈ pl ↔ plc E y) → pl.length ≤ 33 → Q (.ref t) H'
def spIsSet (P1 P2 : Addr) : Sp := fun vs H Q _ => ∃ (o t : Addr) (ws : List Wt) (E : List Ed) (ys : List Str), vs = [.ref o, .ref t] ∧ OfAt H o ws E ∧ E.length ≤ 16 ∧ H t = some (.tup (ys.map V.str)) ∧ ys.Pairwise sl ∧ ys.length ≤ 40 ∧ (∀ y ∈ ys, plc E y) ∧
  H P1 = some (TabO P1) ∧ H P2 = some (TabO P2) ∧ ∀ H', Same H H' → Q (.bl true) H'
def Shut (E : List Ed) (ys : List Str) : Prop := ∀ e ∈ E, e.1 ∈ ys → e.2 ∈ ys
def spLetsCut (P1 P2 : Addr) : Sp := fun vs H Q _ => ∃ (o t : Addr) (x y : Str) (ws : List Wt) (E : List Ed) (ys : List Str), vs = [.ref o, .str x, .str y, .ref t] ∧ OfAt H o ws E ∧ E.length ≤ 16 ∧ H t = some (.tup (ys.map V.str)) ∧ ys.Pairwise sl ∧ ys.length ≤ 40 ∧ (∀ y ∈ ys, plc E y) ∧
  Shut E ys ∧ x ∈ ys ∧ y ∉ ys ∧ H P1 = some (TabO P1) ∧ H P2 = some (TabO P2) ∧ ∀ H', Same H H' → Q (.bl true) H'
def CutV (H : Hp) (E : List Ed) (x y : Str) (v : V) : Prop := (v = .non ∧ ∃ n, Wlk E n x y) ∨ ∃ (t : Addr) (ys : List Str), v = .ref t ∧ H t = some (.tup (ys.map V.str)) ∧ ys.Pairwise sl ∧ (∀ z, z ∈ ys ↔ ∃ n, Wlk E n x z) ∧ ys.length ≤ 17 ∧ y ∉ ys
def spCutOf : Sp := fun vs H Q _ => ∃ (o : Addr) (x y : Str) (ws : List Wt) (E : List Ed), vs = [.ref o, .str x, .str y] ∧ OfAt H o ws E ∧ E.length ≤ 16 ∧ ∀ (v : V) (H' : Hp), Same H H' → CutV H' E x y v → Q v H'
def spIsCut : Sp := fun vs H Q _ => ∃ (o l t : Addr) (x y : Str) (ws : List Wt) (E : List Ed) (pl ys : List Str), vs = [.ref o, .ref l, .str x, .str y, .ref t] ∧ OfAt H o ws E ∧ OfOk ws E ∧ H l = some (.lst (pl.map V.str)) ∧ pl.Pairwise sl ∧ (∀ y, y ∈ pl ↔ plc E y) ∧ pl.length ≤ 33 ∧
  H t = some (.tup (ys.map V.str)) ∧ ys.Pairwise sl ∧ ys.length ≤ 40 ∧ (∀ y ∈ ys, plc E y) ∧ Shut E ys ∧ x ∈ ys ∧ y ∉ ys ∧ ∀ H', Same H H' → Q (.bl true) H'
def spRightC (P1 P2 : Addr) : Sp := fun vs H Q _ => ∃ (o : Addr) (ws : List Wt) (E : List Ed), vs = [.ref o] ∧ OfAt H o ws E ∧ OfOk ws E ∧ H P1 = some (TabO P1) ∧ H P2 = some (TabO P2) ∧ ∀ H', Same H H' → Q (.bl true) H'
def strsL (xs : List Str) : PyData := .list (xs.map .str)
theorem strs_dpL {K : PySem.W.Frag} {H : Hp} {t : Addr} {xs : List Str} (h : SqL K H t (xs.map V.str)) : Dp K H (.ref t) (strsL xs) := by
  refine .lst h ?_
  clear h
  induction xs with
  | nil => exact .nil
  | cons x l ih => exact .cons (.str x) ih
theorem strs_plainL (xs : List Str) : (strsL xs).plain = true := by
  show PyData.plainAll (xs.map .str) = true
  induction xs with
  | nil => rfl
  | cons x l ih =>
    rw [List.map_cons]
    simp only [PyData.plainAll, ih, PyData.plain, Bool.and_self]
theorem strs_eqvs : ∀ a b : List Str, PyData.eqvAll (a.map .str) (b.map .str) = decide (a = b)
  | [], [] => rfl
  | [], b :: bs => rfl
  | a :: as, [] => rfl
  | a :: as, b :: bs => by
    simp only [List.map_cons, PyData.eqvAll, PyData.eqv, strs_eqvs as bs]
    rw [Bool.eq_iff_iff]
    simp
theorem strs_depL (xs : List Str) : (strsL xs).depth ≤ 60 := by
  have z : PyData.depthAll (xs.map .str) ≤ 3 := by
    induction xs with
    | nil => simp [PyData.depthAll]
    | cons s l ih => rw [List.map_cons]; simp only [PyData.depthAll, PyData.depth] at *; omega
  simp only [strsL, PyData.depth]
  omega
theorem strs_eqvL (a : List Str) : PyData.eqv (strsL a) (strsL a) = true := by
  show PyData.eqvAll (a.map .str) (a.map .str) = true
  rw [strs_eqvs]
  exact decide_eq_true rfl
theorem plc_few {E : List Ed} {ys : List Str} (h : E.length ≤ 16) (up : ys.Pairwise sl) (p : ∀ y ∈ ys, plc E y) : ys.length ≤ 33 := by
  have nd : ys.Nodup := up.imp fun {a b} h => fun z => by
    subst z
    exact sl_irr _ h
  have z := sub_len (m := gNone :: (E.map (·.1) ++ E.map (·.2))) nd fun v hv => by
    rcases p v hv with rfl | ⟨e, he, rfl | rfl⟩
    · exact List.mem_cons_self
    · exact List.mem_cons_of_mem _ (List.mem_append_left _ (List.mem_map.mpr ⟨e, he, rfl⟩))
    · exact List.mem_cons_of_mem _ (List.mem_append_right _ (List.mem_map.mpr ⟨e, he, rfl⟩))
  rw [List.length_cons, List.length_append, List.length_map, List.length_map] at z
  omega
theorem wlk_shut {E : List Ed} {x : Str} {ys : List Str} (m : ∀ z, z ∈ ys ↔ ∃ n, Wlk E n x z) : Shut E ys := fun e he h => by
  obtain ⟨n, w⟩ := (m _).mp h
  exact (m _).mpr ⟨n + 1, e.1, w, he⟩
theorem wlk_plc {E : List Ed} {x y : Str} {n : Nat} (hx : plc E x) (h : Wlk E n x y) : plc E y := by
  cases n with
  | zero =>
    cases (show x = y from h)
    exact hx
  | succ n =>
    obtain ⟨z, _, k⟩ := h
    exact .inr ⟨(z, y), k, .inr rfl⟩
/-! ### tuple(list) known to have no dict, dict(tuple of pairs) -/
section
variable {X : Cx}
def rTupF (K : PySem.W.Frag) : List V → Hp → VK → Prop := fun xs H Q => ∃ (p : Addr) (ys : List V), xs = [.ref p] ∧ SqL K H p ys ∧ ∀ l o, H l = none → Tpl o → Q (.ref l) (upd H l (.frz o (.tup ys)))
theorem call_tupleF : CallR X (.type "tuple") (rTupF X.K) := by
  intro pins s σ H xs us Q I r h
  obtain ⟨p, ys, rfl, hq, q⟩ := h
  obtain ⟨u, rfl, rx⟩ := vals1 r
  cases rx
  obtain ⟨its, r', pl, hz⟩ := I.list hq
  have hlen := r'.length
  refine call_tuple_list pl.isList (fun h' kp => ?_) (by simp only [List.size_toArray] <;> omega)
  have I1 : Inv X pins σ H { s with heap := h' } := I.kept (t' := s.toks) kp
  have new : (h'.push { cls := .type "tuple", data := .seq its.toArray }).get? h'.objs.size = some { cls := .type "tuple", data := .seq its.toArray } := Heap.get?_push_size _ rfl
  have I2 : Inv X pins σ (upd H h'.objs.size (.frz { cls := .type "tuple", data := .seq its.toArray } (.tup ys))) { s with heap := h'.push { cls := .type "tuple", data := .seq its.toArray } } :=
    I1.laid (t' := s.toks) (fun b o e => Heap.get?_push_of_some _ e) (Nat.le_refl _) ⟨new, hz, its, r', IsTup.new _ _⟩
  exact ⟨.ref h'.objs.size, _, I2, rfl, q _ _ (I1.hok.fresh (Nat.le_refl _)) ⟨rfl, rfl⟩⟩
theorem pairs_ofT {pins : List (Addr × Obj)} {σ : L2.St} {H : Hp} {s : Shared} (I : Inv X pins σ H s) : ∀ {ps : List Addr} {kvs : List (Key × V)}, Paired (fun p kv => SqT X.K H p [kV kv.1, kv.2]) ps kvs →
    ∃ (prs : List (Key × Value)) (vs : List (Value × Value)), KV kvs prs ∧ prs.length = ps.length ∧ vs.length = ps.length ∧ ∀ (j : Nat) (u v : Value), vs[j]? = some (u, v) → ∃ (b : Addr) (k : Key), ps[j]? = some b ∧ IsTup s.heap b #[u, v] ∧ prs[j]? = some (k, v) ∧ keyIs k u = true
  | _, _, .nil => ⟨[], [], .nil, rfl, rfl, fun j u v e => by simp at e⟩
  | _, _, .cons (a := p) (b := kv) h t => by
    obtain ⟨prs, vs, r, hl, hl2, hp⟩ := pairs_ofT I t
    obtain ⟨its, rv, ht, _⟩ := I.tuple h
    obtain ⟨u, y, ei, ru, ry⟩ := vals2 rv
    subst ei
    refine ⟨(kv.1, y) :: prs, (u, y) :: vs, .cons ⟨rfl, ry⟩ r, by rw [List.length_cons, List.length_cons, hl], by rw [List.length_cons, List.length_cons, hl2], fun j u' v' e => ?_⟩
    cases j with
    | zero =>
      cases Option.some.inj e
      exact ⟨p, kv.1, rfl, ht, rfl, kV_is (P := X.prog) (w := X.w) ru⟩
    | succ j =>
      obtain ⟨b, k, e1, e2, e3⟩ := hp j u' v' (by simpa using e)
      exact ⟨b, k, by simpa using e1, e2, by simpa using e3⟩
def rDictT (K : PySem.W.Frag) : List V → Hp → VK → Prop := fun xs H Q => ∃ (a : Addr) (o : Obj) (ps : List Addr) (kvs : List (Key × V)), xs = [.ref a] ∧ H a = some (.frz o (.tup (ps.map V.ref))) ∧ Tpl o ∧ Paired (fun p kv => SqT K H p [kV kv.1, kv.2]) ps kvs ∧
    ∀ p, H p = none → Q (.ref p) (upd H p (.dK (mergeK [] kvs)))
theorem call_dictT (hcalm : X.calm = true) : CallR X (.type "dict") (rDictT X.K) := by
  intro pins s σ H xs us Q I r q
  obtain ⟨a, o, ps, kvs, ex, hq, ⟨tc, td⟩, hp, q⟩ := q
  subst ex
  obtain ⟨u, eu, rx⟩ := vals1 r
  subst eu
  cases rx
  obtain ⟨at1, hz, its, rv, o', e', c', n, d'⟩ := I.hok a _ hq
  have eo : o' = o := Option.some.inj (e'.symm.trans at1)
  subst eo
  have ei := refs_at rv
  subst ei
  rw [List.length_map] at hz
  obtain ⟨prs, vs, rel, hl, hl2, hpr⟩ := pairs_ofT I hp
  have items : PairItems s.heap (ps.map Value.ref).toArray (fun j => (ps[j]?).getD 0) vs := by
    refine ⟨by simp [hl2], fun j k v e => ?_⟩
    obtain ⟨b, kk, e1, e2, _⟩ := hpr j k v e
    dsimp only
    rw [e1]
    refine ⟨by simp [e1], ?_⟩
    exact .inl e2
  refine PySem.call_dict_pairs (knd := mixKind X.prog X.w) (kvs := prs) (PairArg.tuple a (ps.map Value.ref).toArray (fun j => (ps[j]?).getD 0) vs) (I.ok.hd hcalm) ⟨⟨o', n, e', c', td, d'⟩, items⟩ ⟨by rw [hl, hl2], fun i key v e => ?_⟩ (by rw [hl2]; exact hz) fun h' tk hd' k => ?_
  · obtain ⟨b, kk, e1, e2, e3, e4⟩ := hpr i key v e
    exact ⟨kk, e3, e4⟩
  · have hm : (s.heap.objs.size == sysModules) = false := beq_eq_false_iff_ne.mpr (Nat.ne_of_gt I.big)
    have hlen : (mergeK [] kvs).length ≤ sizeLine := by
      refine Nat.le_trans (length_mergeK kvs []) ?_
      rw [List.length_nil, Nat.zero_add, rel.length, hl]
      exact hz
    exact ⟨.ref s.heap.objs.size, upd H s.heap.objs.size (.dK (mergeK [] kvs)), I.laid (t' := tk) (fun b o e => k b o (nomatch ·) e) (Nat.le_refl _) (show ObjOk X.prog X.w _ _ _ (.dK (mergeK [] kvs)) from ⟨hlen, hm, merged [] prs, KV.merge rel .nil, hd'⟩), rfl, q _ (I.hok.fresh (Nat.le_refl _))⟩
end
theorem merge_val {k : Key} : ∀ {more kvs : List (Key × V)}, (more.map Prod.fst).Nodup → (k ∈ more.map Prod.fst → valV (mergeK kvs more) k = valV more k) ∧ (k ∉ more.map Prod.fst → valV (mergeK kvs more) k = valV kvs k) := fun {more} => by
  induction more with
  | nil => exact fun _ => ⟨fun h => (nomatch h), fun _ => rfl⟩
  | cons p r ih =>
    intro kvs nd
    rw [List.map_cons, List.nodup_cons] at nd
    have e : mergeK kvs (p :: r) = mergeK (putK kvs p.1 p.2) r := rfl
    obtain ⟨i1, i2⟩ := ih (kvs := putK kvs p.1 p.2) nd.2
    rw [e, List.map_cons]
    by_cases c : p.1 = k
    · subst c
      rw [i2 nd.1, valV_put, if_pos rfl, valV_pos rfl]
      exact ⟨fun _ => rfl, fun h => (h List.mem_cons_self).elim⟩
    · refine ⟨fun h => ?_, fun h => ?_⟩
      · rcases List.mem_cons.mp h with h | h
        · exact (c h.symm).elim
        · rw [i1 h, valV_neg c]
      · rw [i2 fun z => h (List.mem_cons_of_mem _ z), valV_put, if_neg (Ne.symm c)]
def rLenS (K : PySem.W.Frag) : List V → Hp → VK → Prop := fun xs H Q => ∃ (p : Addr) (ys : List V), xs = [.ref p] ∧ (SqL K H p ys ∨ SqT K H p ys) ∧ Q (.int (ys.length : Int)) H
/-! ### a refusal of two fields: what __init__ does, and a refusal made (isinstance and e.f as for one field, with Rf for each field) -/
def spIn2 (C : Addr) (f g : Str) : Sp := fun vs H Q _ => ∃ (a : Addr) (x y : V), vs = [.ref a, x, y] ∧ H a = some (exo a C none) ∧
  ∀ dx, H dx = none → dx ≠ a → Q .non (upd (upd (upd H dx (exd dx [(f, x)])) a (exo a C (some dx))) dx (exd dx [(g, y), (f, x)]))
theorem init_ok2 {P : Program} {w : World} {K : PySem.W.Frag} {mg : Str → Option Value} {base : Heap} {qual f g : Str} {st : Stmt} {fI C : Addr} {fd : FuncData} {N : List Str} {ps : List Str} {k : Nat} (F : Fun K "__init__" qual st fI fd) (S : FnScope N ps (defScope st)) (hp : ps.length = 3)
    (T : OexC K C) (no : PySem.W.findIn K (.ref C) f = some none) (no2 : PySem.W.findIn K (.ref C) g = some none)
    (hb : ∀ (X : Cx), X.N = N → X.K = K → X.env.scope = defScope st → PSs X (defBody st) (tSeq (tOst X.K f (tVar 0) (tVar 1)) (tOst X.K g (tVar 0) (tVar 2)))) (hN : N = ps) : FnOk P w K mg base CX0 (k + 1) fI fd ps (spIn2 C f g) := by
  refine F.ok S (fun vs H Q E h => ?_) (fun cdv A outer s H vs Q E hr h => ?_)
  · obtain ⟨a, x, y, rfl, _⟩ := h
    exact hp.symm
  · obtain ⟨a, x, y, rfl, ha, q⟩ := h
    refine ⟨_, hb _ rfl rfl rfl, ?_⟩
    subst hN
    match N, hp with
    | [n1, n2, n3], _ =>
      refine ⟨_, rfl, _, rfl, a, C, rfl, T, no, Or.inl ⟨ha, fun dx hdx ne => ?_⟩⟩
      exact ⟨_, rfl, _, rfl, a, C, rfl, T, no2, Or.inr ⟨dx, [(f, x)], upd_same, (upd_ne ne).trans upd_same, (show 1 ≤ 900 by decide), q dx hdx ne⟩⟩
theorem mk_read2 {C : Addr} {f g : Str} {v u : V} {H : Hp} {Q : XK} (h : ∀ d H', H d = none → Same H H' → H' d = some (.xd [(g, u), (f, v)]) → Q (.ref C) (some d) H') :
    [v, u].length ≤ 1000 ∧ ∀ a, H a = none → spIn2 C f g (.ref a :: ([v, u] ++ [])) (upd H a (exo a C none))
      (fun r H2 => r = .non ∧ ∃ (d : Addr) (fs : List (Str × V)), H2 a = some (exo a C (some d)) ∧ H2 d = some (exd d fs) ∧ H d = none ∧ Q (.ref C) (some d) (upd (del H2 a) d (.xd fs))) (fun _ _ _ => False) := by
  refine ⟨(show 2 ≤ 1000 by decide), fun a ha => ⟨a, v, u, rfl, upd_same, fun dx hdx ne => ?_⟩⟩
  rw [upd_ne ne] at hdx
  refine ⟨rfl, dx, [(g, u), (f, v)], (upd_ne (Ne.symm ne)).trans upd_same, upd_same, hdx, h dx _ hdx (fun b o e => ?_) upd_same⟩
  have n1 : b ≠ dx := ne_of_none e hdx
  have n2 : b ≠ a := ne_of_none e ha
  rw [upd_ne n1, del_ne n2, upd_ne n1, upd_ne n2, upd_ne n1, upd_ne n2]
  exact e
theorem look2 {f g : Str} {v u : V} (h : f ≠ g) : List.lookup f [(g, u), (f, v)] = some v := by
  have e : (f == g) = false := by simpa using h
  simp [List.lookup, e]
theorem look2' {f g : Str} {v u : V} : List.lookup g [(g, u), (f, v)] = some u := by simp [List.lookup]
/-! ### k38: things of mixed kinds, judged -/
def nextB (ys : List Str) (i : Nat) : Bool := match ys[i]?, ys[i + 1]? with
  | some a, some b => decide (a.cps.toList < b.cps.toList)
  | _, _ => true
def upB (ys : List Str) : Bool := ((List.range (((ys.map V.str).length : Int) - 1).toNat).filter fun _ => true).all (nextB ys)
theorem upB_iff (ys : List Str) : upB ys = true ↔ ys.Pairwise sl := by
  unfold upB
  rw [List.all_eq_true]
  constructor
  · intro h
    have step : ∀ i a b, ys[i]? = some a → ys[i + 1]? = some b → sl a b := fun i a b ha hb => by
      have l := (List.getElem?_eq_some_iff.mp hb).1
      have z := h i (List.mem_filter.mpr ⟨List.mem_range.mpr (by rw [List.length_map]; omega), rfl⟩)
      unfold nextB at z
      rw [ha, hb] at z
      exact of_decide_eq_true (p := a.cps.toList < b.cps.toList) z
    rw [List.pairwise_iff_getElem]
    have chain : ∀ d i (h1 : i < ys.length) (h2 : i + d + 1 < ys.length), sl ys[i] ys[i + d + 1] := fun d => by
      induction d with
      | zero => exact fun i h1 h2 => step i _ _ (List.getElem?_eq_getElem h1) (List.getElem?_eq_getElem h2)
      | succ d ih =>
        intro i h1 h2
        exact sl_tr (ih i h1 (by omega)) (step (i + d + 1) _ _ (List.getElem?_eq_getElem (by omega)) (List.getElem?_eq_getElem h2))
    intro i j hi hj hij
    have z := chain (j - i - 1) i hi (by omega)
    have e : i + (j - i - 1) + 1 = j := by omega
    simpa [e] using z
  · intro h i hi
    have hi := List.mem_range.mp (List.mem_filter.mp hi).1
    rw [List.length_map] at hi
    unfold nextB
    rw [List.getElem?_eq_getElem (show i < ys.length by omega), List.getElem?_eq_getElem (show i + 1 < ys.length by omega)]
    exact decide_eq_true (p := _ < _) (List.pairwise_iff_getElem.mp h i (i + 1) (by omega) (by omega) (Nat.lt_succ_self _))
def spRisesM (P : Addr) : Sp := fun vs H Q _ => ∃ (t : Addr) (ys : List Str), vs = [.ref t] ∧ H t = some (.tup (ys.map V.str)) ∧ ys.length ≤ 100 ∧ H P = some (TabO P) ∧ ∀ H', Same H H' → Q (.bl (upB ys)) H'
/-- a tuple of parts of any kind, read as data -/
def GoodT (E : List Ed) (ds : List PyData) : Prop := ∃ ys : List Str, ds = ys.map .str ∧ (∀ y ∈ ys, plc E y) ∧ ys.Pairwise sl
def spIsSetM (K : PySem.W.Frag) (P1 P2 : Addr) : Sp := fun vs H Q _ => ∃ (o t : Addr) (ws : List Wt) (E : List Ed) (xs : List V) (ds : List PyData), vs = [.ref o, .ref t] ∧ OfAt H o ws E ∧ E.length ≤ 16 ∧ H t = some (.tup xs) ∧ DpAll K H xs ds ∧ xs.length ≤ 100 ∧ (∀ d ∈ ds, d.plain = true ∧ d.depth ≤ 10) ∧
  H P1 = some (TabO P1) ∧ H P2 = some (TabO P2) ∧ ∀ (b : Bool) (H' : Hp), Same H H' → (b = true ↔ GoodT E ds) → Q (.bl b) H'
/-- a part is one of the places -/
def inPl (pl : List Str) (d : PyData) : Bool := (pl.map PyData.str).any fun z => PyData.eqv z d
theorem inPl_iff (pl : List Str) (d : PyData) : inPl pl d = true ↔ ∃ y ∈ pl, d = .str y := by
  unfold inPl
  rw [List.any_map, List.any_eq_true]
  constructor
  · rintro ⟨y, hy, e⟩
    have e : PyData.eqv (.str y) d = true := e
    cases d <;> simp [PyData.eqv] at e
    · exact ⟨y, hy, by rw [e]⟩
  · rintro ⟨y, hy, rfl⟩
    exact ⟨y, hy, by simp [PyData.eqv]⟩
theorem strs_of {K : PySem.W.Frag} {H : Hp} : ∀ {xs : List V} {ys : List Str}, DpAll K H xs (ys.map .str) → xs = ys.map V.str
  | [], [], _ => rfl
  | x :: xs, y :: ys, h => by
    rw [List.map_cons] at h
    cases h with
    | cons a b =>
      cases a
      rw [List.map_cons, ← strs_of b]
def allPl (pl : List Str) (ds : List PyData) : Bool := ((List.range ds.length).filter fun _ => true).all fun i => (ds[i]?).elim true (inPl pl)
theorem allPl_iff (pl : List Str) (ds : List PyData) : allPl pl ds = true ↔ ∃ ys : List Str, ds = ys.map .str ∧ ∀ y ∈ ys, y ∈ pl := by
  unfold allPl
  rw [List.all_eq_true]
  have key : (∀ i ∈ (List.range ds.length).filter fun _ => true, ((ds[i]?).elim true (inPl pl)) = true) ↔ ∀ d ∈ ds, inPl pl d = true := by
    constructor
    · intro h d hd
      obtain ⟨i, hi, e⟩ := List.getElem_of_mem hd
      have z := h i (List.mem_filter.mpr ⟨List.mem_range.mpr hi, rfl⟩)
      rw [List.getElem?_eq_getElem hi, e] at z
      exact z
    · intro h i hi
      have hi := List.mem_range.mp (List.mem_filter.mp hi).1
      rw [List.getElem?_eq_getElem hi]
      exact h _ (List.getElem_mem hi)
  rw [key]
  clear key
  constructor
  · intro h
    induction ds with
    | nil => exact ⟨[], rfl, fun _ z => nomatch z⟩
    | cons d ds ih =>
      obtain ⟨ys, e, hy⟩ := ih fun x hx => h x (List.mem_cons_of_mem _ hx)
      obtain ⟨y, y1, y2⟩ := (inPl_iff _ _).mp (h d List.mem_cons_self)
      exact ⟨y :: ys, by rw [y2, e]; rfl, fun z hz => (List.mem_cons.mp hz).elim (fun q => q ▸ y1) (hy z)⟩
  · rintro ⟨ys, rfl, hy⟩ d hd
    obtain ⟨y, h1, rfl⟩ := List.mem_map.mp hd
    exact (inPl_iff _ _).mpr ⟨y, hy y h1, rfl⟩
theorem strs_inj : ∀ {a b : List Str}, a.map PyData.str = b.map PyData.str → a = b
  | [], [], _ => rfl
  | x :: a, y :: b, h => by
    rw [List.map_cons, List.map_cons] at h
    injection h with h1 h2
    injection h1 with h1
    rw [h1, strs_inj h2]
/-- the thing is no tuple -/
def NoTup (K : PySem.W.Frag) (H : Hp) (x : V) : Prop := ∃ ty : Value, TyX K H x ty ∧ PySem.W.kitOne K ty (.type "tuple") = some false
def spNoSet (K : PySem.W.Frag) : Sp := fun vs H Q _ => ∃ (o : Addr) (x : V) (ws : List Wt) (E : List Ed), vs = [.ref o, x] ∧ OfAt H o ws E ∧ E.length ≤ 16 ∧ (∀ H', Same H H' → NoTup K H' x) ∧ ∀ H', Same H H' → Q (.bl false) H'
def spIsSetA (K : PySem.W.Frag) (P1 P2 : Addr) : Sp := fun vs H Q E => spIsSetM K P1 P2 vs H Q E ∨ spNoSet K vs H Q E
def leaveAt (E : List Ed) (ys : List Str) : Option Nat := E.findIdx? fun e => decide (e.1 ∈ ys) && !decide (e.2 ∈ ys)
def verd (E : List Ed) (x y : Str) (ys : List Str) : Option (Str × Int) := match leaveAt E ys with
  | some k => some (("leaves" : String), (k : Int))
  | none => if x ∈ ys then (if y ∈ ys then some (("to" : String), 0) else none) else some (("from" : String), 0)
/-- what is refused of a tuple -/
def VerdT (E : List Ed) (x y : Str) (ds : List PyData) (w : Str) (k : Int) : Prop := (¬ GoodT E ds ∧ w = ("shape" : String) ∧ k = -1) ∨ ∃ ys : List Str, ds = ys.map .str ∧ GoodT E ds ∧ verd E x y ys = some (w, k)
def NoP (H : Hp) (d : Addr) (w : Str) (k : Int) : Prop := H d = some (.xd [("place", .int k), ("word", .str w)])
def spLetsM (K : PySem.W.Frag) (P1 P2 C : Addr) : Sp := fun vs H Q X => ∃ (o t : Addr) (x y : Str) (ws : List Wt) (E : List Ed) (xs : List V) (ds : List PyData), vs = [.ref o, .str x, .str y, .ref t] ∧ OfAt H o ws E ∧ E.length ≤ 16 ∧ H t = some (.tup xs) ∧ DpAll K H xs ds ∧ xs.length ≤ 100 ∧ (∀ d ∈ ds, d.plain = true ∧ d.depth ≤ 10) ∧
  H P1 = some (TabO P1) ∧ H P2 = some (TabO P2) ∧ (∀ ys : List Str, ds = ys.map .str → GoodT E ds → verd E x y ys = none → ∀ H', Same H H' → Q (.bl true) H') ∧
  ∀ w k, VerdT E x y ds w k → ∀ d H', H d = none → Same H H' → NoP H' d w k → X (.ref C) (some d) H'
def spLetsN (K : PySem.W.Frag) (C : Addr) : Sp := fun vs H Q X => ∃ (o : Addr) (x y : Str) (z : V) (ws : List Wt) (E : List Ed), vs = [.ref o, .str x, .str y, z] ∧ OfAt H o ws E ∧ E.length ≤ 16 ∧ (∀ H', Same H H' → NoTup K H' z) ∧
  ∀ d H', H d = none → Same H H' → NoP H' d ("shape" : String) (-1) → X (.ref C) (some d) H'
def spLetsA (K : PySem.W.Frag) (P1 P2 C : Addr) : Sp := fun vs H Q X => spLetsM K P1 P2 C vs H Q X ∨ spLetsN K C vs H Q X
theorem NoTup.ref {K : PySem.W.Frag} {H : Hp} {x : V} (h : NoTup K H x) : NoTup K H x := h
theorem leave_none {E : List Ed} {ys : List Str} {i : Nat} (h : ∀ j : Nat, j < i → ∀ e : Ed, E[j]? = some e → ¬ (e.1 ∈ ys ∧ e.2 ∉ ys)) {e : Ed} (he : E[i]? = some e) (c1 : e.1 ∈ ys) (c2 : e.2 ∉ ys) : leaveAt E ys = some i := by
  unfold leaveAt
  rw [List.findIdx?_eq_some_iff_getElem]
  obtain ⟨hi, ei⟩ := List.getElem?_eq_some_iff.mp he
  refine ⟨hi, by rw [ei]; simp [c1, c2], fun j hj => ?_⟩
  have z := h j hj _ (List.getElem?_eq_getElem (by omega))
  simp only [Bool.not_eq_true', Bool.and_eq_true, decide_eq_true_eq]
  exact fun k => z ⟨k.1, of_decide_eq_false (by simpa using k.2)⟩
theorem leave_end {E : List Ed} {ys : List Str} (h : ∀ (j : Nat) (e : Ed), E[j]? = some e → ¬ (e.1 ∈ ys ∧ e.2 ∉ ys)) : leaveAt E ys = none := by
  unfold leaveAt
  rw [List.findIdx?_eq_none_iff]
  intro e he
  obtain ⟨j, hj⟩ := List.mem_iff_getElem?.mp he
  have z := h j e hj
  by_cases c : e.1 ∈ ys <;> by_cases d : e.2 ∈ ys <;> simp [c, d] at z ⊢
def spDrawn : Sp := fun vs H Q _ => ∃ (f c P0 A : Addr) (x y : Str) (n : Int) (pl : List Str) (kvs : List (List Key × V)) (d : Ap), vs = [.ref f, .ref P0, .ref A, .str x, .str y] ∧ Fd H f c n ∧ n ≤ 900000 ∧ H P0 = some (.lst (pl.map V.str)) ∧ P0 ≠ f ∧ pl.length ≤ 33 ∧ H A = some (.dT kvs) ∧ A ≠ f ∧ apOf d kvs ∧
  ∀ (t : Addr) (ys : List Str) (H' : Hp), Fd H' f c (n + 40) → But f H H' → H' t = some (.tup (ys.map V.str)) → ys.length ≤ 33 → (∀ z ∈ ys, z ∈ pl) → Q (.ref t) H'
/-! ### a refusal handed to a def within the suite that holds it -/
structure FnP (P : Program) (w : World) (K : PySem.W.Frag) (mg : Str → Option Value) (base : Heap) (k : Nat) (f : Addr) (fd : FuncData) (ps : List Str) (sp : Addr → Value → Option Addr → Sp) : Prop where
  len : ∀ a c d vs H Q E, sp a c d vs H Q E → vs.length = ps.length
  run : ∀ (A : Around) (outer : List Env) (s : Shared) (H : Hp) (args : Args) (us : List Value) (vs : List V) (Q : VK) (E : XK) (p : Addr × Obj) (cls : Value) (d : Option Addr),
    L2H.RoomH k A → L2H.PinOk outer H s p → Zc cls d p.2 → (∃ ys, p.2.data = .fields ys) → Env0 P w K mg base A outer s H → BindsTo s fd args (ps.zip us) → Vals vs us → sp p.1 cls d vs H Q E →
    codeAny (model P w) A (.call (.ref f) args) (CR CX0 outer P w H s Q E) s
theorem FnP.mono {P : Program} {w : World} {K : PySem.W.Frag} {mg : Str → Option Value} {base : Heap} {j k : Nat} {f : Addr} {fd : FuncData} {ps : List Str} {sp : Addr → Value → Option Addr → Sp} (F : FnP P w K mg base j f fd ps sp) (h : j ≤ k) : FnP P w K mg base k f fd ps sp :=
  ⟨F.len, fun A outer s H args us vs Q E p cls d room => F.run A outer s H args us vs Q E p cls d (room.mono h)⟩
section
variable {P : Program} {w : World} {K : PySem.W.Frag} {mg : Str → Option Value} {base : Heap}
theorem okP {x qual : Str} {st : Stmt} {f : Addr} {fd : FuncData} {N ps : List Str} {k : Nat} {sp : Addr → Value → Option Addr → Sp}
    (F : Fun K x qual st f fd) (S : FnScope N ps (defScope st)) (hlen : ∀ a c d vs H Q E, sp a c d vs H Q E → vs.length = ps.length)
    (hb : ∀ (cdv : Value) (A : Around) (outer : List Env) (s : Shared) (H : Hp) (vs : List V) (Q : VK) (E : XK) (a : Addr) (oe : Obj) (cls : Value) (d : Option Addr),
      L2H.RoomH k (A.deeper (envOfC qual (defScope st) s.heap.objs.size f cdv)) → Zc cls d oe → (∃ ys, oe.data = .fields ys) →
      sp a cls d vs H Q E → ∃ t, PSs (L2H.cxH CX0 P w K mg base N qual (defScope st) f cdv A outer s H E (a, oe)).nox (defBody st) t ∧
        t { nx := fun _ H' => Q .non H', rt := Q } (start N vs) H) : FnP P w K mg base (k + 1) f fd ps sp := by
  obtain ⟨oc, od, kV, doc, pm, an, cdv, ct, osl, rfl, lk, hcd⟩ := F.ex
  refine ⟨hlen, fun A outer s H args us vs Q E p cls d room pin hz hf e0 bind rel wish => ?_⟩
  have lv := hlen _ _ _ _ _ _ _ wish
  have old : ∀ b o, base.get? b = some o → s.heap.get? b = some o := fun b o e => (e0.bs b o e).1
  have inK : K.In s.heap := e0.mod.kin.keeps old
  refine codeAny_call_function room.depth (inK _ _ lk) rfl S.co S.gen rfl (PySem.W.codeRec_of inK hcd) (bind _ _ _ _ ?_)
  refine wpAny_newFunctionEnv_cells S.kind (fun y hy => ?_) fun env ee s1 x1 => ?_
  · obtain ⟨n, v⟩ := y
    cases S.par n (List.of_mem_zip hy).1 with
    | inl q => exact Or.inl q
    | inr q => exact Or.inr ⟨q, PySem.W.cellsFrom_some _ _ _ (Or.inl q)⟩
  subst ee
  refine ⟨(e0.mod.nolimit.keeps old).keeps x1.toInCall.keep, codeAny_func ?_⟩
  obtain ⟨a, oe⟩ := p
  obtain ⟨t, ht, hq⟩ := hb cdv A outer s H vs Q E a oe cls d (room.deeper _) hz hf wish
  have I0 := L2H.inv_startH (CX := CX0) (E := E) S pin e0 lv rel x1
  refine wpAny_mono (ht.nox.run [] s1 (start N vs) H _ I0 hq) (fun fl s2 hs => ?_) fun _ _ z => z
  cases fl with
  | ret u =>
    obtain ⟨v, σ2, H2, J, rv, q⟩ := hs
    exact ⟨v, H2, J.os, J.bare, J.base, J.hok, rv, q⟩
  | next =>
    obtain ⟨σ2, H2, J, q⟩ := hs
    exact ⟨.non, H2, J.os, J.bare, J.base, J.hok, rfl, q⟩
  | brk => exact hs.choose_spec.choose_spec.2.elim
  | cont => exact hs.choose_spec.choose_spec.2.elim
end
/-- the call, the refusal among what the context holds -/
theorem pe_callP {X : Cx} {k : Nat} {f : Addr} {fd : FuncData} {ps : List Str} {sp : Addr → Value → Option Addr → Sp} {x : Str} {e : Expr} {es : List Expr} {t : TA} {p pos : Pos} {a : Addr} {oe : Obj} {cls : Value} {d : Option Addr}
    (F : FnP X.prog X.w X.K X.mg X.base k f fd ps sp) (room : L2H.RoomH k X.A) (hz : Zc cls d oe) (hf : ∃ ys, oe.data = .fields ys) (hp : (a, oe) ∈ X.pn) (gl : Gl X x) (hm : X.mg x = some (.ref f)) (kp : PySem.W.keepIn X.K (.ref f) = true) (bi : Binds X.K fd ps [])
    (ha : PA X (e :: es) t) (ndb : (x == ("__debug__" : Str)) = false := by decide) (st : starEach (e :: es) X.env = (false, eval e X.env) :: starEach es X.env := by rfl) (np : (backTo pos (starEach es X.env)).any (·.1) = false := by rfl) :
    PE X (.Call (.Name x p) (e :: es) [] pos) (tCall (sp a cls d) [] E0 t) := by
  constructor
  intro pins s σ H Q I wish
  refine wpAny_Call_Name_kw (ld_glob I gl hm ?_ ndb)
  refine PySem.W.callWith_K (h₀ := X.base) I.ok.mod.kin kp (thn (ha.run pos pins s σ H _ I wish) fun us s1 ⟨vs, H1, I1, rel, q⟩ => ⟨I1.kIn, ?_⟩) st np
  have q : sp a cls d (vs ++ []) H1 Q E0 := q
  rw [List.append_nil] at q
  have len : us.length = ps.length := rel.length.symm.trans (F.len _ _ _ _ _ _ _ q)
  have b := bi s1 us I1.kIn (by rw [List.append_nil]; exact len)
  rw [List.append_nil] at b
  have P1 := I1.pin (a, oe) (List.mem_append_left _ hp)
  have hpin : L2H.PinOk X.stack H1 s1 (a, oe) := ⟨P1.1, P1.2.1, fun hm => (List.mem_cons.mp (I1.stkSub a hm)).elim P1.2.2.1 P1.2.2.2.1, P1.2.2.2.2⟩
  refine wpAny_call (codeAny_mono (F.run X.A X.stack s1 H1 ⟨us, []⟩ us vs Q E0 (a, oe) cls d room hpin hz hf I1.env0 b rel q) fun res s2 told => ?_)
  match res, told with
  | .error er, told => exact told.elim
  | .ok (.ret u), told => exact I1.after told
  | .ok .next, told => exact told.elim
  | .ok .brk, told => exact told.elim
  | .ok .cont, told => exact told.elim
theorem roomH_suite {X : Cx} {a : Addr} {pn : List (Addr × Obj)} {k : Nat} (r : Room k X.A) : L2H.RoomH k (X.suite a pn).A := ⟨r.dp, r.un⟩
/-- a refusal of the class x, its dict at dd, told apart: True -/
def spAlone (K : PySem.W.Frag) (x : Str) : Addr → Value → Option Addr → Sp := fun a cls d vs H Q _ => vs = [.ref a] ∧ cls = .ref (He.ga K x) ∧ ∃ (dd : Addr) (fs : List (Str × V)), d = some dd ∧ H dd = some (.xd fs) ∧ ∀ H', Same H H' → Q (.bl true) H'
/-! ### tracked tuples: slices, sums -/
theorem cut_whole {xs : List V} {lo hi : Option Int} (h : HT.sIx xs.length 0 lo = 0 ∧ HT.sIx xs.length xs.length hi = xs.length) : cutV xs lo hi = xs := by
  unfold cutV
  rw [h.1, h.2, List.drop_zero, Nat.sub_zero, List.take_length]
theorem cut_mem {xs : List V} {lo hi : Option Int} {v : V} (h : v ∈ cutV xs lo hi) : v ∈ xs := List.mem_of_mem_drop (List.mem_of_mem_take h)
def rSlTk : V → Option Int → Option Int → Hp → VK → Prop := fun x lo hi H Q => ∃ a xs, x = .ref a ∧ H a = some (.tup xs) ∧ ∀ p H', Same H H' → H' p = some (.tup (cutV xs lo hi)) → Q (.ref p) H'
theorem sl_tupTk {X : Cx} : SlR X rSlTk := by
  intro pins s σ H x v vl vu lo hi sl Q I rx hs pl pu h
  obtain ⟨a, xs, rfl, hx, q⟩ := h
  exact sl_tupA pins s σ H _ v vl vu lo hi sl Q I rx hs pl pu ⟨a, xs, rfl, SqT.of hx, fun e => q a H (Same.refl _) (by rw [cut_whole e]; exact hx), fun _ p hp => q p _ (same_new hp _) upd_same⟩
def rCatTk : R2 := fun x y H Q => ∃ a b xs ys, x = .ref a ∧ y = .ref b ∧ H a = some (.tup xs) ∧ H b = some (.tup ys) ∧ xs.length + ys.length ≤ sizeLine ∧ ∀ p H', Same H H' → H' p = some (.tup (xs ++ ys)) → Q (.ref p) H'
theorem op_catTk {X : Cx} : OpR X (binaryOp .Add) rCatTk := by
  intro pins s σ H x y v u Q I rx ry h
  obtain ⟨a, b, xs, ys, rfl, rfl, ha, hb, hl, q⟩ := h
  refine op_catA pins s σ H _ _ v u Q I rx ry ⟨a, b, xs, ys, rfl, rfl, SqT.of ha, SqT.of hb, hl, fun e => ?_, fun _ e => ?_, fun _ _ p hp => ?_⟩
  · subst e
    exact q b H (Same.refl _) hb
  · subst e
    exact q a H (Same.refl _) (by rw [List.append_nil]; exact ha)
  · exact q p _ (same_new hp _) upd_same
/-! ### tracked tuples: slices, sums, turned about; repr of any data -/
section
variable {prog : Program} {w : World} {A : Around} {E : Value → Shared → Prop} {s : Shared}
theorem pick_rev (xs : Array Value) : ((List.range xs.size).filterMap fun (m : Nat) => xs[(((xs.size : Int) - 1) + (m : Int) * (-1)).toNat]?).toArray = xs.toList.reverse.toArray := by
  have e : ((List.range xs.size).filterMap fun (m : Nat) => xs[(((xs.size : Int) - 1) + (m : Int) * (-1)).toNat]?) = ((List.range xs.size).map fun k => xs.size - 1 - k).filterMap (xs[·]?) := by
    have gen : ∀ (l : List Nat) (F G : Nat → Option Value), (∀ m ∈ l, F m = G m) → l.filterMap F = l.filterMap G := fun l => by
      induction l with
      | nil => exact fun _ _ _ => rfl
      | cons m l ih =>
        intro F G h
        rw [List.filterMap_cons, List.filterMap_cons, h m List.mem_cons_self, ih F G fun k hk => h k (List.mem_cons_of_mem _ hk)]
    rw [List.filterMap_map]
    refine gen _ _ _ fun m hm => ?_
    have hm := List.mem_range.mp hm
    have e1 : (((xs.size : Int) - 1) + (m : Int) * (-1)).toNat = xs.size - 1 - m := by omega
    rw [e1]
    rfl
  rw [e, PySem.W.krv_range, List.filterMap_reverse, PySem.W.krv_all]
theorem sliceApplied_rev {sl : Addr} {vl vu vs : Value} {n : Nat} {Q : Int × Int × Nat → Shared → Prop} (hs : s.heap.IsSliceOf sl vl vu vs) (pl : IsPart vl none) (pu : IsPart vu none) (ps : IsPart vs (some (-1)))
    (h : Q ((n : Int) - 1, -1, n) s) : wpAny (model prog w) A (Builtin.Slice.sliceApplied (.ref sl) (pure (n : Int))) Q E s := by
  obtain ⟨os, hos, hcs, hds⟩ := id hs
  unfold Builtin.Slice.sliceApplied Builtin.Slice.sliceFields
  refine wpAny_bind (wpAny_bind (wpAny_field hos hds (x := vl) rfl (wpAny_bind (wpAny_field hos hds (x := vu) rfl (wpAny_bind (wpAny_field hos hds (x := vs) rfl (wpAny_pure ?_)))))))
  refine wpAny_bind (HT.slicePart_ ps ?_)
  show wpAny _ _ (if ((-1 : Int) == 0) = true then _ else _) _ _ s
  rw [if_neg (by decide)]
  refine wpAny_bind (HT.slicePart_ pl (wpAny_bind (HT.slicePart_ pu (wpAny_bind (wpAny_pure ?_)))))
  show wpAny _ _ (pure ((n : Int) - 1, (-1 : Int), Builtin.Slice.slicePlaces ((n : Int) - 1) (-1) (-1))) _ _ s
  have e : Builtin.Slice.slicePlaces ((n : Int) - 1) (-1) (-1) = n := by
    unfold Builtin.Slice.slicePlaces
    have h1 : ¬ ((-1 : Int) > 0) := by decide
    have e1 : (- -1 : Int) = 1 := by decide
    simp only [h1, if_false, e1, Int.ediv_one]
    split <;> omega
  rw [e]
  exact wpAny_pure h
theorem getItem_tuple_rev {t sl : Addr} {items : Array Value} {vl vu vs : Value} {Q : Value → Shared → Prop} (ht : IsTup s.heap t items) (hs : s.heap.IsSliceOf sl vl vu vs) (pl : IsPart vl none) (pu : IsPart vu none) (ps : IsPart vs (some (-1)))
    (h : Q (.ref s.heap.objs.size) { s with heap := s.heap.push { cls := .type "tuple", data := .seq items.toList.reverse.toArray } })
    (hsz : items.size ≤ sizeLine) : wpAny (model prog w) A (getItem (.ref t) (.ref sl)) Q E s := by
  have htake : sizeOk (.seq items.toList.reverse.toArray) := by
    show items.toList.reverse.toArray.size ≤ sizeLine
    rw [List.size_toArray, List.length_reverse, Array.length_toList]
    exact hsz
  obtain ⟨os, hos, hcs, hds⟩ := id hs
  have hTs : s.TypeIs (.ref sl) "slice" := ⟨os, hos, hcs⟩
  unfold getItem
  try with_reducible refine wpAny_holding ?_
  first | refine wpAny_bind (wpAny_pure ?_) | skip
  refine wpAny_bind (wpAny_sequenceKey ht.typeIs (by decide) ?_)
  refine wpAny_bind (wpAny_callSpecial?_slot (name := Str.ofString "__getitem__") ht.typeIs PyProof.Rows.slot_tuple_getitem
    (wpAny_call_entry PyProof.Rows.slot_tuple_getitem ht.typeIs entry_tuple_getitem ?_ (args_tuple_getitem _ _)))
  show wpAny _ _ (Builtin.Tuple.tupleItemsOf (.ref t) >>= _) _ _ s
  refine wpAny_bind (tupleItemsOf_ ht ?_)
  refine wpAny_bind (wpAny_typeOf hTs ?_)
  rw [if_pos (by decide)]
  refine wpAny_bind (sliceApplied_rev hs pl pu ps ?_)
  have hno : ¬ ((((items.size : Int) - 1) == 0 && (-1 : Int) == 1 && items.size == items.size) = true) := by
    intro q
    rw [Bool.and_eq_true, Bool.and_eq_true] at q
    exact absurd q.1.2 (by decide)
  show wpAny _ _ (if (((items.size : Int) - 1) == 0 && (-1 : Int) == 1 && items.size == items.size) = true then _ else _) _ _ s
  rw [if_neg hno, pick_rev]
  first
    | exact wpAny_bind (m := Builtin.Tuple.tupleExact _) (wpAny_newObj_type (wpAny_pure ⟨_, rfl, wpAny_pure h⟩) htake)
    | exact wpAny_bind (m := Builtin.Tuple.tupleExact _) (wpAny_newObj_type (wpAny_bind (wpAny_pure (wpAny_pure ⟨_, rfl, wpAny_pure h⟩))) htake)
    | exact wpAny_bind (wpAny_bind (m := Builtin.Tuple.tupleExact _) (wpAny_newObj_type (wpAny_pure (wpAny_pure ⟨_, rfl, wpAny_pure h⟩)) htake))
    | exact wpAny_bind (wpAny_bind (m := Builtin.Tuple.tupleExact _) (wpAny_newObj_type (wpAny_pure ⟨_, rfl, wpAny_pure h⟩) htake))
end
/-- t[::-1] of a tuple -/
def tRevT (K : PySem.W.Frag) (te : TE) : TE := fun σ H Q => te σ H fun x H1 => ∃ a xs, x = .ref a ∧ SqT K H1 a xs ∧ ∀ p, H1 p = none → Q (.ref p) (upd H1 p (.tup xs.reverse))
theorem pe_revT {X : Cx} {e : Expr} {te : TE} {k : Nat} {p1 p2 p3 pos : Pos} (he : PE X e te) : PE X (.Subscript e (.Slice none none (some (.UnaryOp .USub (.Constant (.int 1) k p1) p2)) p3) pos) (tRevT X.K te) := by
  refine ⟨fun pins s σ H Q I h => ?_⟩
  refine Subscript_ (thn (he.run pins s σ H _ I h) fun v s1 ⟨x, H1, I1, r1, q1⟩ => ?_)
  obtain ⟨a, xs, ex, hx, q⟩ := q1
  subst ex
  cases r1
  have hst : PO X (some (.UnaryOp .USub (.Constant (.int 1) k p1) p2)) (tPart (tUn (rU fun i => .int (-i)) (tC (.int 1)))) := po_some (pe_un un_neg pe_int)
  refine wpAny_Slice (thn (po_none.run pins s1 σ H1 (fun o H2 => o = none ∧ H2 = H1) I1 ⟨rfl, rfl⟩) fun vl s2 ⟨l, H2, I2, pl, el, e2⟩ => ?_)
  subst el e2
  refine thn (po_none.run pins s2 σ H2 (fun o H3 => o = none ∧ H3 = H2) I2 ⟨rfl, rfl⟩) fun vu s3 ⟨u, H3, I3, pu, eu, e3⟩ => ?_
  subst eu e3
  refine thn (hst.run pins s3 σ H3 (fun o H4 => o = some (-1) ∧ H4 = H3) I3 ⟨1, rfl, -1, rfl, rfl, rfl⟩) fun vs s4 ⟨o, H4, I4, ps, eo, e4⟩ => ?_
  subst eo e4
  have I5 : Inv X pins σ H4 { s4 with heap := s4.heap.push { cls := .type "slice", data := .fields #[vl, vu, vs] } } := I4.kept (t' := s4.toks) fun b ob q => Heap.get?_push_of_some _ q
  obtain ⟨its, r, ht, hz⟩ := I5.tuple hx
  have hlen : its.toArray.size = xs.length := by rw [List.size_toArray]; exact r.length.symm
  show wpAny (model X.prog X.w) X.A (subscriptTail e (.Slice none none (some (.UnaryOp .USub (.Constant (.int 1) k p1) p2)) p3) (.ref a) (.ref s4.heap.objs.size)) (EP X pins σ Q) X.xe { s4 with heap := s4.heap.push { cls := .type "slice", data := .fields #[vl, vu, vs] } }
  refine tail_any (ops := [.ref a, .ref s4.heap.objs.size]) ht.typeIs (PyProof.Rows.slot_tuple_getitem.lookup) ?_ (by with_unfolding_all rfl)
  refine getItem_tuple_rev ht (Heap.IsSliceOf.new _ vl vu vs) pl pu ps ?_ (by rw [hlen]; exact hz)
  refine ⟨.ref _, _, I5.laid (t' := s4.toks) (o := .tup xs.reverse) (fun b ob q => Heap.get?_push_of_some _ q) (Nat.le_refl _) ?_, rfl, q _ (I5.hok.fresh (Nat.le_refl _))⟩
  exact ⟨by rw [List.length_reverse]; exact hz, _, r.reverse, IsTup.new _ _⟩
/-- repr of any data -/
def rReprD (K : PySem.W.Frag) : List V → Hp → VK → Prop := fun xs H Q => ∃ (v : V) (d : PyData), xs = [v] ∧ Dp K H v d ∧ d.showable = true ∧ d.hasDict = false ∧ d.depth ≤ 60 ∧ d.shown.length ≤ sizeLine ∧ Q (.str d.shown) H
theorem cr_reprD {X : Cx} {k : Nat} (hg : X.A.guards = some []) (hr : Room k X.A) : CallR X (.builtin "repr") (rReprD X.K) := by
  intro pins s σ H vs us Q I r h
  obtain ⟨v, d, rfl, hd, h1, h2, h3, h4, q⟩ := h
  cases hd with
  | non =>
    obtain ⟨u, rfl, ru⟩ := vals1 r
    cases ru
    exact PySem.P.repr_of_none ⟨.str _, H, I.tok _, ⟨_, rfl⟩, q⟩
  | bl b =>
    obtain ⟨u, rfl, ru⟩ := vals1 r
    cases ru
    refine PySem.P.repr_of_bool ⟨.str _, H, I.tok _, ⟨_, rfl⟩, ?_⟩
    cases b <;> exact q
  | int i =>
    obtain ⟨u, rfl, t, rfl⟩ := vals1 r
    exact PySem.P.repr_of_int (of_decide_eq_true h1) ⟨.str _, H, I.tok _, ⟨_, rfl⟩, q⟩
  | str x =>
    obtain ⟨u, rfl, t, rfl⟩ := vals1 r
    exact PySem.P.repr_of_str ⟨.str _, H, I.tok _, ⟨_, rfl⟩, q⟩ h4
  | lst a b => exact cr_repr hg hr pins s σ H _ us Q I r ⟨_, _, rfl, .lst a b, h1, h2, h3, h4, q⟩
  | tup a b => exact cr_repr hg hr pins s σ H _ us Q I r ⟨_, _, rfl, .tup a b, h1, h2, h3, h4, q⟩
/-! ### data that does not lie in the feed -/
mutual
inductive Dn (N : Addr → Prop) (H : Hp) : V → PyData → Prop
  | non : Dn N H .non .none
  | bl (b : Bool) : Dn N H (.bl b) (.bool b)
  | int (i : Int) : Dn N H (.int i) (.int i)
  | str (x : Str) : Dn N H (.str x) (.str x)
  | lst {a : Addr} {xs : List V} {ds : List PyData} : N a → H a = some (.lst xs) → DnAll N H xs ds → Dn N H (.ref a) (.list ds)
  | tup {a : Addr} {xs : List V} {ds : List PyData} : H a = some (.tup xs) → DnAll N H xs ds → Dn N H (.ref a) (.tuple ds)
inductive DnAll (N : Addr → Prop) (H : Hp) : List V → List PyData → Prop
  | nil : DnAll N H [] []
  | cons {v : V} {vs : List V} {d : PyData} {ds : List PyData} : Dn N H v d → DnAll N H vs ds → DnAll N H (v :: vs) (d :: ds)
end
mutual
theorem Dn.dp {K : PySem.W.Frag} {N : Addr → Prop} {H : Hp} : ∀ {v : V} {d : PyData}, Dn N H v d → Dp K H v d
  | _, _, .non => .non
  | _, _, .bl b => .bl b
  | _, _, .int i => .int i
  | _, _, .str x => .str x
  | _, _, .lst _ h a => .lst (SqL.of h) (DnAll.dp a)
  | _, _, .tup h a => .tup (SqT.of h) (DnAll.dp a)
theorem DnAll.dp {K : PySem.W.Frag} {N : Addr → Prop} {H : Hp} : ∀ {vs : List V} {ds : List PyData}, DnAll N H vs ds → DpAll K H vs ds
  | _, _, .nil => .nil
  | _, _, .cons a b => .cons (Dn.dp a) (DnAll.dp b)
end
mutual
theorem Dn.stay {N : Addr → Prop} {H H' : Hp} (k : ∀ a xs, N a → H a = some (.lst xs) → H' a = some (.lst xs)) (k2 : ∀ a xs, H a = some (.tup xs) → H' a = some (.tup xs)) : ∀ {v : V} {d : PyData}, Dn N H v d → Dn N H' v d
  | _, _, .non => .non
  | _, _, .bl b => .bl b
  | _, _, .int i => .int i
  | _, _, .str x => .str x
  | _, _, .lst n h a => .lst n (k _ _ n h) (DnAll.stay k k2 a)
  | _, _, .tup h a => .tup (k2 _ _ h) (DnAll.stay k k2 a)
theorem DnAll.stay {N : Addr → Prop} {H H' : Hp} (k : ∀ a xs, N a → H a = some (.lst xs) → H' a = some (.lst xs)) (k2 : ∀ a xs, H a = some (.tup xs) → H' a = some (.tup xs)) : ∀ {vs : List V} {ds : List PyData}, DnAll N H vs ds → DnAll N H' vs ds
  | _, _, .nil => .nil
  | _, _, .cons a b => .cons (Dn.stay k k2 a) (DnAll.stay k k2 b)
end
theorem Dn.same {N : Addr → Prop} {H H' : Hp} (s : Same H H') {v : V} {d : PyData} (h : Dn N H v d) : Dn N H' v d := h.stay (fun _ _ _ e => s _ _ e) fun _ _ e => s _ _ e
theorem DnAll.same {N : Addr → Prop} {H H' : Hp} (s : Same H H') {v : List V} {d : List PyData} (h : DnAll N H v d) : DnAll N H' v d := h.stay (fun _ _ _ e => s _ _ e) fun _ _ e => s _ _ e
theorem Dn.but {f c : Addr} {N : Addr → Prop} {n : Int} {H H' : Hp} (nf : ∀ a, N a → a ≠ f) (b : But f H H') (hf : Fd H f c n) {v : V} {d : PyData} (h : Dn N H v d) : Dn N H' v d := by
  obtain ⟨zs, hz⟩ := hf.at
  exact h.stay (fun a xs n e => b a _ (nf a n) e) fun a xs e => b a _ (ne_of e hz fun z => nomatch z) e
mutual
theorem Dn.imp {N M : Addr → Prop} {H : Hp} (k : ∀ a, N a → M a) : ∀ {v : V} {d : PyData}, Dn N H v d → Dn M H v d
  | _, _, .non => .non
  | _, _, .bl b => .bl b
  | _, _, .int i => .int i
  | _, _, .str x => .str x
  | _, _, .lst n h a => .lst (k _ n) h (DnAll.imp k a)
  | _, _, .tup h a => .tup h (DnAll.imp k a)
theorem DnAll.imp {N M : Addr → Prop} {H : Hp} (k : ∀ a, N a → M a) : ∀ {vs : List V} {ds : List PyData}, DnAll N H vs ds → DnAll M H vs ds
  | _, _, .nil => .nil
  | _, _, .cons a b => .cons (Dn.imp k a) (DnAll.imp k b)
end
/-- a list that is none of its own changed -/
theorem Dn.mut {N : Addr → Prop} {H : Hp} {W : Addr} {xs : List V} {o : HO} (nW : ∀ a, N a → a ≠ W) (hW : H W = some (.lst xs)) {v : V} {d : PyData} (h : Dn N H v d) : Dn N (upd H W o) v d :=
  h.stay (fun a _ n e => (upd_ne (nW a n)).trans e) fun a _ e => (upd_ne (ne_of e hW fun z => nomatch z)).trans e
/-- how big data is -/
structure Okd (n c : Nat) (d : PyData) : Prop where
  fine : fineD d = true
  plain : d.plain = true
  dep : d.depth ≤ n
  cost : cost d ≤ c
theorem Okd.mono {n m c e : Nat} {d : PyData} (h : Okd n c d) (h1 : n ≤ m) (h2 : c ≤ e) : Okd m e d := ⟨h.fine, h.plain, Nat.le_trans h.dep h1, Nat.le_trans h.cost h2⟩
theorem okd_str {x : Str} (h : NmOk x) : Okd 1 90 (.str x) := by
  obtain ⟨h1, h2⟩ := nm_fine h
  exact ⟨h1, rfl, by simp [PyData.depth], by omega⟩
theorem okd_non : Okd 1 90 .none := ⟨rfl, rfl, by simp [PyData.depth], by decide⟩
theorem okd_bool (b : Bool) : Okd 1 90 (.bool b) := ⟨rfl, rfl, by simp [PyData.depth], (show 5 ≤ 90 by decide)⟩
theorem okd_int {i : Int} (h0 : -1000000000000 ≤ i) (h1 : i ≤ 1000000000000) : Okd 1 2000 (.int i) := ⟨int_fine h0 h1, rfl, by simp [PyData.depth], Nat.le_refl _⟩
theorem okd_all {n c : Nat} : ∀ {ds : List PyData}, (∀ d ∈ ds, Okd n c d) → fineAll ds = true ∧ PyData.plainAll ds = true ∧ PyData.depthAll ds ≤ n ∧ costAll ds ≤ (c + 2) * ds.length
  | [], _ => ⟨rfl, rfl, by simp [PyData.depthAll], Nat.zero_le _⟩
  | d :: ds, h => by
    obtain ⟨a1, a2, a3, a4⟩ := okd_all fun e he => h e (List.mem_cons_of_mem _ he)
    have b := h d List.mem_cons_self
    refine ⟨?_, ?_, ?_, ?_⟩
    · unfold fineAll
      rw [b.fine, a1]
      rfl
    · simp only [PyData.plainAll, b.plain, a2, Bool.and_self]
    · simp only [PyData.depthAll]
      exact Nat.max_le.mpr ⟨b.dep, a3⟩
    · have z := b.cost
      show Pn.cost d + 2 + costAll ds ≤ (c + 2) * (ds.length + 1)
      rw [Nat.mul_add, Nat.mul_one]
      omega
theorem okd_tup {n c : Nat} {ds : List PyData} (h : ∀ d ∈ ds, Okd n c d) : Okd (n + 1) ((c + 2) * ds.length + 3) (.tuple ds) := by
  obtain ⟨a1, a2, a3, a4⟩ := okd_all h
  exact ⟨a1, a2, by simp only [PyData.depth]; omega, (show costAll ds + 3 ≤ _ by omega)⟩
theorem okd_lst {n c : Nat} {ds : List PyData} (h : ∀ d ∈ ds, Okd n c d) : Okd (n + 1) ((c + 2) * ds.length + 3) (.list ds) := by
  obtain ⟨a1, a2, a3, a4⟩ := okd_all h
  exact ⟨a1, a2, by simp only [PyData.depth]; omega, (show costAll ds + 3 ≤ _ by omega)⟩
theorem Okd.show {n c : Nat} {d : PyData} (h : Okd n c d) (hn : n ≤ 60) (hc : c ≤ 10000000) : d.showable = true ∧ d.hasDict = false ∧ d.depth ≤ 60 ∧ d.shown.length ≤ sizeLine := by
  obtain ⟨a, b⟩ := fine_show _ h.fine
  exact ⟨a, b, Nat.le_trans h.dep hn, Nat.le_trans (shown_cost _ h.fine) (Nat.le_trans h.cost (Nat.le_trans hc (by decide)))⟩
theorem dn_all {N : Addr → Prop} {H : Hp} {n c : Nat} : ∀ {xs : List V}, (∀ v ∈ xs, ∃ d, Dn N H v d ∧ Okd n c d) → ∃ ds, DnAll N H xs ds ∧ ∀ d ∈ ds, Okd n c d
  | [], _ => ⟨[], .nil, fun _ z => nomatch z⟩
  | v :: xs, h => by
    obtain ⟨d, d1, d2⟩ := h v List.mem_cons_self
    obtain ⟨ds, e1, e2⟩ := dn_all fun u hu => h u (List.mem_cons_of_mem _ hu)
    exact ⟨d :: ds, .cons d1 e1, fun z hz => (List.mem_cons.mp hz).elim (fun k => k ▸ d2) (e2 z)⟩
theorem DnAll.len {N : Addr → Prop} {H : Hp} : ∀ {xs : List V} {ds : List PyData}, DnAll N H xs ds → xs.length = ds.length
  | _, _, .nil => rfl
  | _, _, .cons _ b => congrArg (· + 1) (DnAll.len b)
theorem plain_of {ds : List PyData} (h : PyData.plainAll ds = true) : ∀ d ∈ ds, d.plain = true := by
  induction ds with
  | nil => exact fun _ z => nomatch z
  | cons d ds ih =>
    simp only [PyData.plainAll, Bool.and_eq_true] at h
    exact fun e he => (List.mem_cons.mp he).elim (fun z => z ▸ h.1) (ih h.2 e)
theorem depth_of {ds : List PyData} {n : Nat} (h : PyData.depthAll ds ≤ n) : ∀ d ∈ ds, d.depth ≤ n := by
  induction ds with
  | nil => exact fun _ z => nomatch z
  | cons d ds ih =>
    simp only [PyData.depthAll] at h
    exact fun e he => (List.mem_cons.mp he).elim (fun z => z ▸ Nat.le_trans (Nat.le_max_left _ _) h) (ih (Nat.le_trans (Nat.le_max_right _ _) h) e)
theorem op_notinTP {X : Cx} {k : Nat} (hr : Room k X.A) : OpR X (compareOp .NotIn) (rInP X.K true false) := by
  intro pins s σ H x y v u Q I rx ry h
  obtain ⟨d, ds, hd, he, p1, p2, dep, q⟩ := h
  have un := hr.un
  obtain ⟨as, r1⟩ := Dp.reads I d x v hd rx
  obtain ⟨bs, r2⟩ := Dp.reads I _ y u he ry
  rw [Bool.true_xor] at q
  exact PySem.SeqAt.notIn_tuple_data r2 r1 p2 p1 (by omega) ⟨.bl _, H, I, rfl, q⟩
/-! ### k38: a thing bent, what is due, what is said -/
def spBent : Sp := fun vs H Q _ => ∃ (f c t : Addr) (n : Int) (ys : List Str), vs = [.ref f, .ref t] ∧ Fd H f c n ∧ n ≤ 900000 ∧ H t = some (.tup (ys.map V.str)) ∧ ys.length ≤ 33 ∧ (∀ y ∈ ys, NmOk y) ∧
  ∀ (x : V) (d : PyData) (H' : Hp), Fd H' f c (n + 10) → But f H H' → Dn (fun a => H a = none) H' x d → Okd 5 1000000 d → (∀ ds, d = .tuple ds → ds.length ≤ 100) → Q x H'
theorem els_strs {N : Addr → Prop} {H : Hp} {ys : List Str} (h : ∀ y ∈ ys, NmOk y) : ∀ v ∈ ys.map V.str, ∃ d, Dn N H v d ∧ Okd 3 5000 d := fun v hv => by
  obtain ⟨y, hy, rfl⟩ := List.mem_map.mp hv
  exact ⟨_, .str y, (okd_str (h y hy)).mono (by decide) (by decide)⟩
theorem tup_okd {N : Addr → Prop} {H : Hp} {t : Addr} {xs : List V} (ht : H t = some (.tup xs)) (hl : xs.length ≤ 100) (h : ∀ v ∈ xs, ∃ d, Dn N H v d ∧ Okd 3 5000 d) : ∃ d, Dn N H (.ref t) d ∧ Okd 5 1000000 d ∧ ∀ ds, d = .tuple ds → ds.length ≤ 100 := by
  obtain ⟨ds, h1, h2⟩ := dn_all h
  have l := h1.len
  refine ⟨_, .tup ht h1, (okd_tup h2).mono (by decide) ?_, fun es e => ?_⟩
  · have : (5000 + 2) * ds.length ≤ (5000 + 2) * 100 := Nat.mul_le_mul_left _ (by omega)
    omega
  · injection e with e
    subst e
    omega
def oddL (p : Addr) : List V := [.str (("zzz" : String) : Str), .int 7, .non, .ref p, .bl true, .str (("" : String) : Str), .str (("None" : String) : Str)]
theorem odd_ok {N : Addr → Prop} {p : Addr} {H : Hp} (hp : H p = some (.tup [.str (("a" : String) : Str)])) : ∀ v ∈ oddL p, ∃ d, Dn N H v d ∧ Okd 3 5000 d := fun v hv => by
  have n1 : NmOk (("zzz" : String) : Str) := ⟨by decide +kernel, by decide +kernel⟩
  have n2 : NmOk (("" : String) : Str) := ⟨by decide +kernel, by decide +kernel⟩
  have n3 : NmOk (("None" : String) : Str) := ⟨by decide +kernel, by decide +kernel⟩
  have n4 : NmOk (("a" : String) : Str) := ⟨by decide +kernel, by decide +kernel⟩
  simp only [oddL, List.mem_cons, List.not_mem_nil, or_false] at hv
  rcases hv with rfl | rfl | rfl | rfl | rfl | rfl | rfl
  · exact ⟨_, .str _, (okd_str n1).mono (by decide) (by decide)⟩
  · exact ⟨_, .int _, (okd_int (by decide) (by decide)).mono (by decide) (by decide)⟩
  · exact ⟨_, .non, okd_non.mono (by decide) (by decide)⟩
  · refine ⟨_, .tup hp (.cons (.str _) .nil), (okd_tup (n := 1) (c := 90) fun d hd => ?_).mono (by decide) (by decide)⟩
    rw [List.mem_singleton.mp hd]
    exact okd_str n4
  · exact ⟨_, .bl _, (okd_bool _).mono (by decide) (by decide)⟩
  · exact ⟨_, .str _, (okd_str n2).mono (by decide) (by decide)⟩
  · exact ⟨_, .str _, (okd_str n3).mono (by decide) (by decide)⟩
theorem atI_some {xs : List V} {i : Int} (h0 : 0 ≤ i) (h1 : i < xs.length) : ∃ v, atI xs i = some v ∧ v ∈ xs := by
  obtain ⟨k, rfl⟩ : ∃ k : Nat, i = k := ⟨i.toNat, by omega⟩
  have hk : k < xs.length := by omega
  exact ⟨xs[k], atI_nat (List.getElem?_eq_getElem hk), List.getElem_mem hk⟩
def NotTup (d : PyData) : Prop := ∀ ds, d ≠ .tuple ds
def VerdA (E : List Ed) (x y : Str) (d : PyData) (w : Str) (k : Int) : Prop := (∃ ds, d = .tuple ds ∧ VerdT E x y ds w k) ∨ (NotTup d ∧ w = ("shape" : String) ∧ k = -1)
def DueD (E : List Ed) (x y : Str) (d r : PyData) : Prop := (∃ w k, VerdA E x y d w k ∧ r = .list [.str w, .int k]) ∨ ∃ ys : List Str, d = .tuple (ys.map .str) ∧ GoodT E (ys.map .str) ∧ verd E x y ys = none ∧ r = .tuple [.str (("told" : String) : Str), .str (("True" : String) : Str)]
theorem verdT_uniq {E : List Ed} {x y : Str} {ds : List PyData} {w w' : Str} {k k' : Int} (h : VerdT E x y ds w k) (h' : VerdT E x y ds w' k') : w = w' ∧ k = k' := by
  rcases h with ⟨a, rfl, rfl⟩ | ⟨ys, rfl, a, b⟩
  · rcases h' with ⟨_, rfl, rfl⟩ | ⟨_, _, c, _⟩
    · exact ⟨rfl, rfl⟩
    · exact absurd c a
  · rcases h' with ⟨c, _⟩ | ⟨zs, e, c, d⟩
    · exact absurd a c
    · rw [strs_inj e] at b
      rw [b] at d
      cases d
      exact ⟨rfl, rfl⟩
theorem due_uniq {E : List Ed} {x y : Str} {d r r' : PyData} (h : DueD E x y d r) (h' : DueD E x y d r') : r = r' := by
  rcases h with ⟨w, k, h, rfl⟩ | ⟨ys, rfl, gy, vy, rfl⟩
  · rcases h' with ⟨w', k', h', rfl⟩ | ⟨ys, rfl, gy, vy, rfl⟩
    · rcases h with ⟨ds, rfl, h⟩ | ⟨n, rfl, rfl⟩
      · rcases h' with ⟨ds', e, h'⟩ | ⟨n, _⟩
        · injection e with e
          subst e
          obtain ⟨rfl, rfl⟩ := verdT_uniq h h'
          rfl
        · exact absurd rfl (n _)
      · rcases h' with ⟨ds', rfl, h'⟩ | ⟨_, rfl, rfl⟩
        · exact absurd rfl (n _)
        · rfl
    · rcases h with ⟨ds, e, h⟩ | ⟨n, _⟩
      · injection e with e
        subst e
        rcases h with ⟨a, _⟩ | ⟨zs, e, _, b⟩
        · exact absurd gy a
        · rw [strs_inj e, b] at vy
          cases vy
      · exact absurd rfl (n _)
  · rcases h' with ⟨w', k', h', rfl⟩ | ⟨_, _, _, _, rfl⟩
    · rcases h' with ⟨ds, e, h⟩ | ⟨n, _⟩
      · injection e with e
        subst e
        rcases h with ⟨a, _⟩ | ⟨zs, e, _, b⟩
        · exact absurd gy a
        · rw [strs_inj e, b] at vy
          cases vy
      · exact absurd rfl (n _)
    · rfl
def spDueK : Sp := fun vs H Q _ => ∃ (g : Addr → Prop) (o P0 : Addr) (x y : Str) (v : V) (d : PyData) (ws : List Wt) (E : List Ed) (pl : List Str), vs = [.ref o, .ref P0, .str x, .str y, v] ∧ OfAt H o ws E ∧ OfOk ws E ∧ H P0 = some (.lst (pl.map V.str)) ∧ pl.Pairwise sl ∧ (∀ y, y ∈ pl ↔ plc E y) ∧ pl.length ≤ 33 ∧
  Dn g H v d ∧ Okd 5 1000000 d ∧ (∀ ds, d = .tuple ds → ds.length ≤ 100) ∧ ∀ (u : V) (r : PyData) (H' : Hp), Same H H' → DueD E x y d r → Dn (fun a => H a = none) H' u r → Okd 2 5000 r → Q u H'
theorem Dn.cases {g : Addr → Prop} {H : Hp} {v : V} {d : PyData} (h : Dn g H v d) : (∃ t xs ds, v = .ref t ∧ d = .tuple ds ∧ H t = some (.tup xs) ∧ DnAll g H xs ds) ∨ NotTup d := by
  cases h with
  | non => exact .inr fun _ e => nomatch e
  | bl b => exact .inr fun _ e => nomatch e
  | int i => exact .inr fun _ e => nomatch e
  | str x => exact .inr fun _ e => nomatch e
  | lst n h a => exact .inr fun _ e => nomatch e
  | tup h a => exact .inl ⟨_, _, _, rfl, rfl, h, a⟩
theorem noTup_of {K : PySem.W.Frag} {H : Hp} {v : V} {d : PyData} (h : Dp K H v d) (n : NotTup d) : NoTup K H v := by
  refine ⟨_, ty_of h, ?_⟩
  cases h with
  | non => exact k_NoneType_tuple
  | bl b => exact k_bool_tuple
  | int i => exact k_int_tuple
  | str x => exact k_str_tuple
  | lst h a => exact k_list_tuple
  | tup h a => exact absurd rfl (n _)
theorem eqv_nil (l : List PyData) : PyData.eqv (.list l) (.list []) = decide (l = []) := by
  cases l with
  | nil => rfl
  | cons a l => simp [PyData.eqv, PyData.eqvAll]
theorem okd_verd {w : Str} {k : Int} (hw : NmOk w) (h0 : -1000000 ≤ k) (h1 : k ≤ 1000000) : Okd 2 5000 (.list [.str w, .int k]) := by
  refine (okd_lst (n := 1) (c := 2000) fun d hd => ?_).mono (by decide) (show (2000 + 2) * 2 + 3 ≤ 5000 by decide)
  simp only [List.mem_cons, List.not_mem_nil, or_false] at hd
  rcases hd with rfl | rfl
  · exact (okd_str hw).mono (by decide) (by decide)
  · exact okd_int (by omega) (by omega)
theorem ys_filter {pl ys : List Str} (up : pl.Pairwise sl) (inp : ∀ y ∈ ys, y ∈ pl) : ys = pl.filter (fun s => decide (s ∈ ys)) ↔ ys.Pairwise sl := by
  constructor
  · intro e
    rw [e]
    exact up.sublist List.filter_sublist
  · intro h
    refine ups_same h (up.sublist List.filter_sublist) fun y => ?_
    rw [List.mem_filter, decide_eq_true_eq]
    exact ⟨fun z => ⟨inp y z, z⟩, fun z => z.2⟩
theorem DnAll.get {N : Addr → Prop} {H : Hp} : ∀ {xs : List V} {ds : List PyData} {i : Nat} {x : V}, DnAll N H xs ds → xs[i]? = some x → ∃ d, ds[i]? = some d ∧ Dn N H x d
  | _, _, 0, _, .cons a b, h => by
    cases h
    exact ⟨_, rfl, a⟩
  | _, _, i + 1, _, .cons a b, h => DnAll.get (i := i) b h
theorem DnAll.app {N : Addr → Prop} {H : Hp} : ∀ {xs : List V} {ds : List PyData} {ys : List V} {es : List PyData}, DnAll N H xs ds → DnAll N H ys es → DnAll N H (xs ++ ys) (ds ++ es)
  | _, _, _, _, .nil, h => h
  | _, _, _, _, .cons a b, h => .cons a (DnAll.app b h)
theorem inPl_str (ys : List Str) (s : Str) : ((ys.map PyData.str).any fun z => PyData.eqv z (.str s)) = decide (s ∈ ys) := by
  have z := inPl_iff ys (.str s)
  unfold inPl at z
  rw [Bool.eq_iff_iff, z, decide_eq_true_eq]
  exact ⟨fun ⟨y, h, e⟩ => by injection e with e; rw [e]; exact h, fun h => ⟨s, h, rfl⟩⟩
theorem all_in {pl : List Str} : ∀ {ds : List PyData}, (ds.filter fun d => !inPl pl d) = [] → ∃ ys : List Str, ds = ys.map .str ∧ ∀ y ∈ ys, y ∈ pl
  | [], _ => ⟨[], rfl, fun _ z => nomatch z⟩
  | d :: ds, h => by
    rw [List.filter_cons] at h
    split at h
    · cases h
    · rename_i c
      obtain ⟨ys, rfl, hy⟩ := all_in h
      have c : inPl pl d = true := by simpa using c
      obtain ⟨y, h1, rfl⟩ := (inPl_iff pl d).mp c
      exact ⟨y :: ys, rfl, fun z hz => (List.mem_cons.mp hz).elim (fun e => e ▸ h1) (hy z)⟩
theorem in_all {pl : List Str} : ∀ {ys : List Str}, (∀ y ∈ ys, y ∈ pl) → ((ys.map PyData.str).filter fun d => !inPl pl d) = [] := fun {ys} h => by
  rw [List.filter_eq_nil_iff]
  intro d hd
  obtain ⟨y, hy, rfl⟩ := List.mem_map.mp hd
  have z := (inPl_iff pl (.str y)).mpr ⟨y, h y hy, rfl⟩
  simp [z]
theorem dn_strs {N : Addr → Prop} {H : Hp} : ∀ {xs : List V} {ys : List Str}, DnAll N H xs (ys.map .str) → xs = ys.map V.str
  | [], [], _ => rfl
  | x :: xs, y :: ys, h => by
    rw [List.map_cons] at h
    cases h with
    | cons a b =>
      cases a
      rw [List.map_cons, ← dn_strs b]
theorem filter_take {ds : List PyData} {p : PyData → Bool} {j : Nat} {d : PyData} (h : ds[j]? = some d) : (ds.take (j + 1)).filter p = (ds.take j).filter p ++ (if p d = true then [d] else []) := by
  obtain ⟨hl, e⟩ := List.getElem?_eq_some_iff.mp h
  rw [List.take_succ_eq_append_getElem hl, List.filter_append, e]
  congr 1
  by_cases c : p d = true
  · rw [if_pos c]
    simp [c]
  · rw [if_neg c]
    simp [c]
theorem filter_takeS {ds : List Str} {p : Str → Bool} {j : Nat} {d : Str} (h : ds[j]? = some d) : (ds.take (j + 1)).filter p = (ds.take j).filter p ++ (if p d = true then [d] else []) := by
  obtain ⟨hl, e⟩ := List.getElem?_eq_some_iff.mp h
  rw [List.take_succ_eq_append_getElem hl, List.filter_append, e]
  congr 1
  by_cases c : p d = true
  · rw [if_pos c]
    simp [c]
  · rw [if_neg c]
    simp [c]
def spSaidK (K : PySem.W.Frag) (P1 P2 : Addr) : Sp := fun vs H Q _ => ∃ (g : Addr → Prop) (o : Addr) (x y : Str) (v : V) (d : PyData) (ws : List Wt) (E : List Ed), vs = [.ref o, .str x, .str y, v] ∧ OfAt H o ws E ∧ E.length ≤ 16 ∧
  Dn g H v d ∧ Okd 5 1000000 d ∧ (∀ ds, d = .tuple ds → ds.length ≤ 100) ∧ H P1 = some (TabO P1) ∧ H P2 = some (TabO P2) ∧ ∀ (u : V) (r : PyData) (H' : Hp), Same H H' → DueD E x y d r → Dp K H' u r → Q u H'
/-- one of what is wanted: office, one place, the other, a thing, what is due -/
def Wnt (N : Addr → Prop) (H : Hp) (p : Addr) : Prop := ∃ (o : Addr) (ws : List Wt) (E : List Ed) (x y : Str) (v u : V) (d r : PyData), H p = some (.tup [.ref o, .str x, .str y, v, u]) ∧ OfAt H o ws E ∧ OfOk ws E ∧
  Dn N H v d ∧ Okd 5 1000000 d ∧ (∀ ds, d = .tuple ds → ds.length ≤ 100) ∧ Dn N H u r ∧ DueD E x y d r ∧ Okd 2 5000 r
theorem Wnt.same {N : Addr → Prop} {H H' : Hp} {p : Addr} (s : Same H H') (h : Wnt N H p) : Wnt N H' p := by
  obtain ⟨o, ws, E, x, y, v, u, d, r, h1, h2, h3, h4, h5, h6, h7, h8⟩ := h
  exact ⟨o, ws, E, x, y, v, u, d, r, s _ _ h1, h2.same s, h3, h4.same s, h5, h6, h7.same s, h8⟩
theorem Wnt.but {N : Addr → Prop} {f c : Addr} {n : Int} {H H' : Hp} {p : Addr} (nf : ∀ a, N a → a ≠ f) (hf : Fd H f c n) (b : But f H H') (h : Wnt N H p) : Wnt N H' p := by
  obtain ⟨o, ws, E, x, y, v, u, d, r, h1, h2, h3, h4, h5, h6, h7, h8⟩ := h
  obtain ⟨zs, hz⟩ := hf.at
  exact ⟨o, ws, E, x, y, v, u, d, r, b _ _ (ne_of h1 hz fun z => nomatch z) h1, h2.but hf b, h3, h4.but nf b hf, h5, h6, h7.but nf b hf, h8⟩
theorem Rds.tups {H H' : Hp} (k : ∀ a xs, H a = some (.tup xs) → H' a = some (.tup xs)) : ∀ {ps : List Addr} {rs : List Ed}, Rds H ps rs → Rds H' ps rs
  | _, _, .nil => .nil
  | _, _, .cons a b => .cons (k _ _ a) (Rds.tups k b)
theorem Wts.tups {H H' : Hp} (k : ∀ a xs, H a = some (.tup xs) → H' a = some (.tup xs)) : ∀ {ps : List Addr} {rs : List Wt}, Wts H ps rs → Wts H' ps rs
  | _, _, .nil => .nil
  | _, _, .cons a b => .cons (k _ _ a) (Wts.tups k b)
theorem OfAt.tups {H H' : Hp} {o : Addr} {ws : List Wt} {E : List Ed} (k : ∀ a xs, H a = some (.tup xs) → H' a = some (.tup xs)) (h : OfAt H o ws E) : OfAt H' o ws E := by
  obtain ⟨w', r', wp, rp, ho, hw, hrr, hws, hrd⟩ := h
  exact ⟨w', r', wp, rp, k _ _ ho, k _ _ hw, k _ _ hrr, Wts.tups k hws, Rds.tups k hrd⟩
theorem tups_mut {H : Hp} {W : Addr} {xs : List V} {o : HO} (hW : H W = some (.lst xs)) : ∀ a ys, H a = some (.tup ys) → upd H W o a = some (.tup ys) := fun a ys e => (upd_ne (ne_of e hW fun z => nomatch z)).trans e
theorem Wnt.mut {N : Addr → Prop} {H : Hp} {W p : Addr} {xs : List V} {o : HO} (nW : ∀ a, N a → a ≠ W) (hW : H W = some (.lst xs)) (h : Wnt N H p) : Wnt N (upd H W o) p := by
  obtain ⟨o', ws, E, x, y, v, u, d, r, h1, h2, h3, h4, h5, h6, h7, h8⟩ := h
  exact ⟨o', ws, E, x, y, v, u, d, r, tups_mut hW _ _ h1, h2.tups (tups_mut hW), h3, h4.mut nW hW, h5, h6, h7.mut nW hW, h8⟩
/-! a module's own int (whole.lean has it too; not both in one text) -/
theorem pe_gint {X : Cx} {x : Str} {i : Int} {pos : Pos} (hg : Gl X x) (hm : ∃ t, X.mg x = some (.int i t)) (hd : (x == ("__debug__" : Str)) = false := by decide) : PE X (.Name x pos) (tC (.int i)) := by
  obtain ⟨t, hm⟩ := hm
  exact pe_glob hg hm ⟨t, rfl⟩ hd
/-! ### k01, k06: kinds of any thing -/
def chB (c : Nat) : Bool := decide (97 ≤ c) && decide (c ≤ 122)
def wordB (x : Str) : Bool := decide (1 ≤ x.length) && (decide (x.length ≤ 8) && x.cps.toList.all chB)
def wordD : PyData → Bool
  | .str x => wordB x
  | _ => false
def intD : PyData → Bool
  | .int _ => true
  | _ => false
def numD (d : PyData) (lo hi : Int) : Bool := match d with
  | .int i => decide (lo ≤ i) && decide (i ≤ hi)
  | _ => false
def tupN (d : PyData) (m : Int) : Bool := match d with
  | .tuple ds => decide (((ds.length : Nat) : Int) = m)
  | _ => false
def noteD : PyData → Bool
  | .tuple [a, b] => wordD a && numD b 0 999999999
  | _ => false
def runB (a b c : PyData) : Bool := match b, c with
  | .int i, .int j => wordD a && ((decide (0 ≤ i) && decide (i ≤ 999999999)) && (decide (i + 1 ≤ j) && decide (j ≤ 1000000000)))
  | _, _ => false
def runD : PyData → Bool
  | .tuple [a, b, c] => runB a b c
  | _ => false
def apD (a b : PyData) : Bool := match a, b with
  | .tuple [.str s, .int i, .int j], .tuple [.str s', .int i', .int j'] => apart (s, i, j) (s', i', j')
  | _, _ => true
def nextD (ds : List PyData) (k : Nat) : Bool := match ds[k]?, ds[k + 1]? with
  | some a, some b => apD a b
  | _, _ => true
def atD (f : PyData → Bool) (ds : List PyData) (k : Nat) : Bool := match ds[k]? with
  | some a => f a
  | none => true
def runsD : PyData → Bool
  | .tuple ds => (((List.range ds.length).filter fun _ => true).all (atD runD ds)) && (((List.range (ds.length - 1)).filter fun _ => true).all (nextD ds))
  | _ => false
def chAt (x : Str) (i : Nat) : Bool := match x.cps[i]? with
  | some c => chB c
  | none => true
theorem ch_all (x : Str) : (((List.range x.cps.size).filter fun _ => true).all (chAt x)) = x.cps.toList.all chB := by
  rw [Bool.eq_iff_iff, List.all_eq_true, List.all_eq_true]
  constructor
  · intro h c hc
    obtain ⟨i, hi, e⟩ := List.getElem_of_mem hc
    have hi' : i < x.cps.size := by simpa using hi
    have z := h i (List.mem_filter.mpr ⟨List.mem_range.mpr hi', rfl⟩)
    unfold chAt at z
    have e2 : x.cps[i]? = some c := by rw [← Array.getElem?_toList, List.getElem?_eq_getElem hi, e]
    rw [e2] at z
    exact z
  · intro h i hi
    have hi' := List.mem_range.mp (List.mem_filter.mp hi).1
    unfold chAt
    rw [Array.getElem?_eq_getElem hi']
    exact h _ (by rw [← Array.getElem_toList]; exact List.getElem_mem _)
theorem lt_a (c : Nat) : decide ((⟨#[c]⟩ : Str).cps.toList < (Str.ofString "a").cps.toList) = !decide (97 ≤ c) := by
  have e : ((⟨#[c]⟩ : Str).cps.toList < (Str.ofString "a").cps.toList) ↔ c < 97 := by
    show [c] < [97] ↔ c < 97
    rw [List.cons_lt_cons_iff]
    exact ⟨fun z => z.elim id fun k => absurd k.2 (List.not_lt_nil _), .inl⟩
  by_cases h : c < 97
  · rw [decide_eq_true (e.mpr h), decide_eq_false (by omega)]; rfl
  · rw [decide_eq_false fun k => h (e.mp k), decide_eq_true (by omega)]; rfl
theorem lt_z (c : Nat) : decide ((Str.ofString "z").cps.toList < (⟨#[c]⟩ : Str).cps.toList) = !decide (c ≤ 122) := by
  have e : ((Str.ofString "z").cps.toList < (⟨#[c]⟩ : Str).cps.toList) ↔ 122 < c := by
    show [122] < [c] ↔ 122 < c
    rw [List.cons_lt_cons_iff]
    exact ⟨fun z => z.elim id fun k => absurd k.2 (List.not_lt_nil _), .inl⟩
  by_cases h : 122 < c
  · rw [decide_eq_true (e.mpr h), decide_eq_false (by omega)]; rfl
  · rw [decide_eq_false fun k => h (e.mp k), decide_eq_true (by omega)]; rfl
/-- data of a size that can be gone through -/
def Sm (d : PyData) : Prop := d.depth ≤ 40 ∧ cost d ≤ 10000000
theorem cost_part {ds : List PyData} {d : PyData} (hd : d ∈ ds) : cost d + 2 ≤ costAll ds := by
  induction ds with
  | nil => exact nomatch hd
  | cons x l ih =>
    show cost d + 2 ≤ cost x + 2 + costAll l
    rcases List.mem_cons.mp hd with rfl | hd
    · omega
    · have := ih hd
      omega
theorem cost_len : ∀ ds : List PyData, 2 * ds.length ≤ costAll ds
  | [] => Nat.zero_le _
  | x :: l => by
    have := cost_len l
    show 2 * (l.length + 1) ≤ cost x + 2 + costAll l
    omega
theorem part_depth {ds : List PyData} {d : PyData} {n : Nat} (h : (PyData.tuple ds).depth ≤ n) (hd : d ∈ ds) : d.depth ≤ n := by
  have z : PyData.depthAll ds ≤ n := by
    simp only [PyData.depth] at h
    omega
  clear h
  induction ds with
  | nil => exact nomatch hd
  | cons x l ih =>
    simp only [PyData.depthAll] at z
    rcases List.mem_cons.mp hd with rfl | hd
    · omega
    · exact ih hd (by omega)
theorem Sm.part {ds : List PyData} {d : PyData} (h : Sm (.tuple ds)) (hd : d ∈ ds) : Sm d := by
  have c : costAll ds + 3 ≤ 10000000 := h.2
  have := cost_part hd
  exact ⟨part_depth h.1 hd, by omega⟩
theorem Sm.len {ds : List PyData} (h : Sm (.tuple ds)) : ds.length ≤ 5000000 := by
  have c : costAll ds + 3 ≤ 10000000 := h.2
  have := cost_len ds
  omega
theorem Sm.str {x : Str} (h : Sm (.str x)) : x.length ≤ sizeLine := by
  have c : 10 * x.length + 2 ≤ 10000000 := h.2
  exact Nat.le_trans (show x.length ≤ 1000000 by omega) (by decide)
def spKNum : Sp := fun vs H Q _ => ∃ (v : V) (d : PyData) (N : Addr → Prop), vs = [v] ∧ Dn N H v d ∧ ∀ H', Same H H' → Q (.bl (intD d)) H'
def spKFrom : Sp := fun vs H Q _ => ∃ (v : V) (d : PyData) (N : Addr → Prop) (lo hi : Int), vs = [v, .int lo, .int hi] ∧ Dn N H v d ∧ ∀ H', Same H H' → Q (.bl (numD d lo hi)) H'
def spKWord (P : Addr) : Sp := fun vs H Q _ => ∃ (v : V) (d : PyData) (N : Addr → Prop), vs = [v] ∧ Dn N H v d ∧ Sm d ∧ H P = some (TabO P) ∧ ∀ H', Same H H' → Q (.bl (wordD d)) H'
def spKTup : Sp := fun vs H Q _ => ∃ (v : V) (d : PyData) (N : Addr → Prop) (m : Int), vs = [v, .int m] ∧ Dn N H v d ∧ ∀ H', Same H H' → Q (.bl (tupN d m)) H'
def spKNote (P : Addr) : Sp := fun vs H Q _ => ∃ (v : V) (d : PyData) (N : Addr → Prop), vs = [v] ∧ Dn N H v d ∧ Sm d ∧ H P = some (TabO P) ∧ ∀ H', Same H H' → Q (.bl (noteD d)) H'
def spKRun (P : Addr) : Sp := fun vs H Q _ => ∃ (v : V) (d : PyData) (N : Addr → Prop), vs = [v] ∧ Dn N H v d ∧ Sm d ∧ H P = some (TabO P) ∧ ∀ H', Same H H' → Q (.bl (runD d)) H'
def spKRuns (P P2 : Addr) : Sp := fun vs H Q _ => ∃ (v : V) (d : PyData) (N : Addr → Prop), vs = [v] ∧ Dn N H v d ∧ Sm d ∧ H P = some (TabO P) ∧ H P2 = some (TabO P2) ∧ ∀ H', Same H H' → Q (.bl (runsD d)) H'
theorem tupN_iff {N : Addr → Prop} {H : Hp} {v : V} {d : PyData} {m : Nat} (h : Dn N H v d) (c : tupN d m = true) : ∃ (t : Addr) (xs : List V) (ds : List PyData), v = .ref t ∧ H t = some (.tup xs) ∧ d = .tuple ds ∧ DnAll N H xs ds ∧ ds.length = m := by
  cases h with
  | non => cases c
  | bl b => cases c
  | int i => cases c
  | str x => cases c
  | lst _ _ _ => cases c
  | tup h a => exact ⟨_, _, _, rfl, h, rfl, a, by have := of_decide_eq_true c; omega⟩
theorem noteD_no {d : PyData} (c : ¬ tupN d (2 : Nat) = true) : noteD d = false := by
  unfold noteD
  split
  · exact absurd rfl c
  · rfl
theorem runD_no {d : PyData} (c : ¬ tupN d (3 : Nat) = true) : runD d = false := by
  unfold runD
  split
  · exact absurd rfl c
  · rfl
theorem runB_int {a b c : PyData} (h : runB a b c = true) : ∃ x i j, a = .str x ∧ b = .int i ∧ c = .int j ∧ wordB x = true ∧ 0 ≤ i ∧ i < j ∧ j ≤ 1000000000 := by
  unfold runB at h
  split at h
  · rename_i i j
    rw [Bool.and_eq_true, Bool.and_eq_true, Bool.and_eq_true, Bool.and_eq_true] at h
    obtain ⟨h1, ⟨h2, h3⟩, h4, h5⟩ := h
    have h2 := of_decide_eq_true h2
    have h4 := of_decide_eq_true h4
    have h5 := of_decide_eq_true h5
    cases a with
    | str x => exact ⟨x, i, j, rfl, rfl, rfl, h1, h2, by omega, h5⟩
    | _ => cases h1
  · cases h
theorem runB_no {a b c : PyData} (h : wordD a = false ∨ numD b 0 999999999 = false ∨ ∀ i, b = .int i → numD c (i + 1) 1000000000 = false) : runB a b c = false := by
  rw [Bool.eq_false_iff]
  intro k
  obtain ⟨x, i, j, rfl, rfl, rfl, h1, h2, h3, h4⟩ := runB_int k
  rcases h with h | h | h
  · exact absurd (h1.symm.trans h) (by decide)
  · have h : (decide (0 ≤ i) && decide (i ≤ 999999999)) = false := h
    rw [decide_eq_true h2, decide_eq_true (by omega), Bool.true_and] at h
    cases h
  · have h : (decide (i + 1 ≤ j) && decide (j ≤ 1000000000)) = false := h i rfl
    rw [decide_eq_true (by omega), decide_eq_true h4, Bool.true_and] at h
    cases h
theorem runB_yes {a e : PyData} {i : Int} (c1 : wordD a = true) (c2 : numD (.int i) 0 999999999 = true) : runB a (.int i) e = numD e (i + 1) 1000000000 := by
  unfold runB
  have c2 : (decide (0 ≤ i) && decide (i ≤ 999999999)) = true := c2
  cases e with
  | int j =>
    show (wordD a && ((decide (0 ≤ i) && decide (i ≤ 999999999)) && (decide (i + 1 ≤ j) && decide (j ≤ 1000000000)))) = (decide (i + 1 ≤ j) && decide (j ≤ 1000000000))
    rw [c1, c2, Bool.true_and, Bool.true_and]
  | _ => rfl
theorem runD_rn {d : PyData} (h : runD d = true) : ∃ r : Rn, d = rnD r ∧ RnOk r ∧ wordB r.1 = true := by
  unfold runD at h
  split at h
  · obtain ⟨x, i, j, rfl, rfl, rfl, h1, h2, h3, h4⟩ := runB_int h
    exact ⟨(x, i, j), rfl, ⟨h2, h3, h4⟩, h1⟩
  · cases h
theorem dn_rn {N : Addr → Prop} {H : Hp} {v : V} {r : Rn} (h : Dn N H v (rnD r)) : ∃ p, v = .ref p ∧ H p = some (.tup (rnV r)) := by
  unfold rnD at h
  cases h with
  | tup ht c =>
    rename_i t ys
    match ys, c with
    | [_, _, _], .cons (.str _) (.cons (.int _) (.cons (.int _) .nil)) => exact ⟨t, rfl, ht⟩
theorem runsD_no {d : PyData} (h : ∀ ds, d ≠ .tuple ds) : runsD d = false := by
  cases d with
  | tuple ds => exact absurd rfl (h ds)
  | _ => rfl
theorem at_all {f : PyData → Bool} {ds : List PyData} (h : (((List.range ds.length).filter fun _ => true).all (atD f ds)) = true) : ∀ d ∈ ds, f d = true := fun d hd => by
  obtain ⟨i, hi, e⟩ := List.getElem_of_mem hd
  have z := List.all_eq_true.mp h i (List.mem_filter.mpr ⟨List.mem_range.mpr hi, rfl⟩)
  unfold atD at z
  rw [List.getElem?_eq_getElem hi, e] at z
  exact z
theorem atD_some {f : PyData → Bool} {ds : List PyData} {i : Nat} {d : PyData} (h : ds[i]? = some d) : atD f ds i = f d := by
  unfold atD
  rw [h]
theorem nextD_some {ds : List PyData} {i : Nat} {a b : Rn} (h : ds[i]? = some (rnD a)) (h2 : ds[i + 1]? = some (rnD b)) : nextD ds i = apart a b := by
  unfold nextD
  rw [h, h2]
  rfl
theorem noteD_nt {d : PyData} (h : ∀ ds, d ≠ .tuple ds) : noteD d = false := by
  cases d with
  | tuple ds => exact absurd rfl (h ds)
  | _ => rfl
theorem runD_nt {d : PyData} (h : ∀ ds, d ≠ .tuple ds) : runD d = false := by
  cases d with
  | tuple ds => exact absurd rfl (h ds)
  | _ => rfl
/-! ### k01, k06: a thing bent -/
mutual
def inB (B : Int) : PyData → Prop
  | .int i => -B ≤ i ∧ i ≤ B
  | .list xs => inBs B xs
  | .tuple xs => inBs B xs
  | _ => True
def inBs (B : Int) : List PyData → Prop
  | [] => True
  | x :: xs => inB B x ∧ inBs B xs
end
mutual
theorem inB_mono {B C : Int} (h : B ≤ C) : ∀ {d : PyData}, inB B d → inB C d
  | .int i, k => ⟨by have := k.1; omega, by have := k.2; omega⟩
  | .list xs, k => inBs_mono h k
  | .tuple xs, k => inBs_mono h k
  | .none, _ => trivial
  | .bool _, _ => trivial
  | .str _, _ => trivial
  | .dict _, _ => trivial
theorem inBs_mono {B C : Int} (h : B ≤ C) : ∀ {ds : List PyData}, inBs B ds → inBs C ds
  | [], _ => trivial
  | _ :: _, k => ⟨inB_mono h k.1, inBs_mono h k.2⟩
end
theorem inBs_at {B : Int} : ∀ {ds : List PyData}, inBs B ds → ∀ d ∈ ds, inB B d
  | d :: ds, h, x, hx => by
    rcases List.mem_cons.mp hx with rfl | hx
    · exact h.1
    · exact inBs_at h.2 x hx
theorem inBs_of {B : Int} : ∀ {ds : List PyData}, (∀ d ∈ ds, inB B d) → inBs B ds
  | [], _ => trivial
  | d :: ds, h => ⟨h d List.mem_cons_self, inBs_of fun x hx => h x (List.mem_cons_of_mem _ hx)⟩
structure Fin3 (k : Nat) (B : Int) (d : PyData) : Prop where
  fine : fineD d = true
  plain : d.plain = true
  dep : d.depth ≤ k
  inb : inB B d
theorem Fin3.mono {k l : Nat} {B C : Int} {d : PyData} (h : Fin3 k B d) (h1 : k ≤ l) (h2 : B ≤ C) : Fin3 l C d := ⟨h.fine, h.plain, Nat.le_trans h.dep h1, inB_mono h2 h.inb⟩
theorem fin_all {k : Nat} {B : Int} : ∀ {es : List PyData}, (∀ e ∈ es, Fin3 k B e) → fineAll es = true ∧ PyData.plainAll es = true ∧ PyData.depthAll es ≤ k
  | [], _ => ⟨rfl, rfl, by simp [PyData.depthAll]⟩
  | e :: es, h => by
    obtain ⟨a1, a2, a3⟩ := fin_all fun x hx => h x (List.mem_cons_of_mem _ hx)
    have b := h e List.mem_cons_self
    refine ⟨?_, ?_, ?_⟩
    · unfold fineAll
      rw [b.fine, a1]
      rfl
    · simp only [PyData.plainAll, b.plain, a2, Bool.and_self]
    · simp only [PyData.depthAll]
      exact Nat.max_le.mpr ⟨b.dep, a3⟩
theorem fin_tup {k : Nat} {B : Int} {es : List PyData} (h : ∀ e ∈ es, Fin3 k B e) : Fin3 (k + 1) B (.tuple es) := by
  obtain ⟨a1, a2, a3⟩ := fin_all h
  exact ⟨a1, a2, by simp only [PyData.depth]; omega, inBs_of fun e he => (h e he).inb⟩
theorem fin_lst {k : Nat} {B : Int} {es : List PyData} (h : ∀ e ∈ es, Fin3 k B e) : Fin3 (k + 1) B (.list es) := by
  obtain ⟨a1, a2, a3⟩ := fin_all h
  exact ⟨a1, a2, by simp only [PyData.depth]; omega, inBs_of fun e he => (h e he).inb⟩
theorem fine_at : ∀ {ds : List PyData}, fineAll ds = true → ∀ d ∈ ds, fineD d = true
  | x :: ds, h, d, hd => by
    unfold fineAll at h
    rw [Bool.and_eq_true] at h
    rcases List.mem_cons.mp hd with rfl | hd
    · exact h.1
    · exact fine_at h.2 d hd
theorem fin_part {k : Nat} {B : Int} {ds : List PyData} (h : Fin3 k B (.tuple ds)) : ∃ m, k = m + 1 ∧ ∀ d ∈ ds, Fin3 m B d := by
  have z := h.dep
  simp only [PyData.depth] at z
  obtain ⟨m, rfl⟩ : ∃ m, k = m + 1 := ⟨k - 1, by omega⟩
  exact ⟨m, rfl, fun d hd => ⟨fine_at h.fine d hd, plain_of h.plain d hd, depth_of (show PyData.depthAll ds ≤ m by omega) d hd, inBs_at h.inb d hd⟩⟩
theorem fin_partL {k : Nat} {B : Int} {ds : List PyData} (h : Fin3 k B (.list ds)) : ∃ m, k = m + 1 ∧ ∀ d ∈ ds, Fin3 m B d := by
  have z := h.dep
  simp only [PyData.depth] at z
  obtain ⟨m, rfl⟩ : ∃ m, k = m + 1 := ⟨k - 1, by omega⟩
  exact ⟨m, rfl, fun d hd => ⟨fine_at h.fine d hd, plain_of h.plain d hd, depth_of (show PyData.depthAll ds ≤ m by omega) d hd, inBs_at h.inb d hd⟩⟩
/-- signs that a text may have -/
def ChOk (x : Str) : Prop := ∀ c ∈ x.cps.toList, c < 16 ^ 8
theorem fin_str {k : Nat} {B : Int} {x : Str} (h : ChOk x) : Fin3 k B (.str x) := ⟨List.all_eq_true.mpr fun c hc => decide_eq_true (h c hc), rfl, by simp [PyData.depth], trivial⟩
theorem Fin3.ch {k : Nat} {B : Int} {x : Str} (h : Fin3 k B (.str x)) : ChOk x := fun c hc => of_decide_eq_true (List.all_eq_true.mp h.fine c hc)
theorem fin_non {k : Nat} {B : Int} : Fin3 k B .none := ⟨rfl, rfl, by simp [PyData.depth], trivial⟩
theorem fin_bool {k : Nat} {B : Int} (b : Bool) : Fin3 k B (.bool b) := ⟨rfl, rfl, by simp [PyData.depth], trivial⟩
theorem t40 : (10 ^ 40 : Int) = 10000000000000000000000000000000000000000 := by decide +kernel
theorem fin_int {k : Nat} {B i : Int} (h1 : -B ≤ i) (h2 : i ≤ B) (hB : B ≤ 10 ^ 40) : Fin3 k B (.int i) := by
  refine ⟨decide_eq_true ?_, rfl, by simp [PyData.depth], h1, h2⟩
  have h : i.natAbs ≤ 10 ^ 40 := by
    have : (10 ^ 40 : Nat) = 10000000000000000000000000000000000000000 := by decide +kernel
    rw [t40] at hB
    omega
  by_cases c : i.natAbs = 0
  · rw [c]; decide
  · exact (Nat.log2_lt c).mpr (Nat.lt_of_le_of_lt h (by decide +kernel))
/-- good data of a size -/
def Gd (k c : Nat) (B : Int) (d : PyData) : Prop := Fin3 k B d ∧ cost d ≤ c
def GV (N : Addr → Prop) (H : Hp) (k c : Nat) (B : Int) (v : V) : Prop := ∃ d, Dn N H v d ∧ Gd k c B d
theorem Gd.mono {k l c e : Nat} {B C : Int} {d : PyData} (h : Gd k c B d) (h1 : k ≤ l) (h2 : c ≤ e) (h3 : B ≤ C) : Gd l e C d := ⟨h.1.mono h1 h3, Nat.le_trans h.2 h2⟩
theorem GV.mono {N : Addr → Prop} {H : Hp} {k l c e : Nat} {B C : Int} {v : V} (h : GV N H k c B v) (h1 : k ≤ l) (h2 : c ≤ e) (h3 : B ≤ C) : GV N H l e C v := by
  obtain ⟨d, a, b⟩ := h
  exact ⟨d, a, b.mono h1 h2 h3⟩
theorem GV.same {N : Addr → Prop} {H H' : Hp} {k c : Nat} {B : Int} {v : V} (s : Same H H') (h : GV N H k c B v) : GV N H' k c B v := by
  obtain ⟨d, a, b⟩ := h
  exact ⟨d, a.same s, b⟩
theorem GV.but {f c0 : Addr} {n : Int} {H H' : Hp} {k c : Nat} {B : Int} {v : V} (b : But f H H') (hf : Fd H f c0 n) (h : GV (fun a => a ≠ f) H k c B v) : GV (fun a => a ≠ f) H' k c B v := by
  obtain ⟨d, a, g⟩ := h
  exact ⟨d, a.but (fun _ z => z) b hf, g⟩
theorem DnAll.but {f c0 : Addr} {n : Int} {H H' : Hp} {xs : List V} {ds : List PyData} (b : But f H H') (hf : Fd H f c0 n) (h : DnAll (fun a => a ≠ f) H xs ds) : DnAll (fun a => a ≠ f) H' xs ds := by
  obtain ⟨zs, hz⟩ := hf.at
  exact h.stay (fun a xs n e => b a _ n e) fun a xs e => b a _ (ne_of e hz fun z => nomatch z) e
def cutD (ds : List PyData) (lo hi : Option Int) : List PyData := (ds.drop (HT.sIx ds.length 0 lo)).take (HT.sIx ds.length ds.length hi - HT.sIx ds.length 0 lo)
theorem DnAll.take {N : Addr → Prop} {H : Hp} : ∀ {xs : List V} {ds : List PyData} (n : Nat), DnAll N H xs ds → DnAll N H (xs.take n) (ds.take n)
  | _, _, 0, _ => .nil
  | _, _, _ + 1, .nil => .nil
  | _, _, n + 1, .cons a b => .cons a (DnAll.take n b)
theorem DnAll.drop {N : Addr → Prop} {H : Hp} : ∀ {xs : List V} {ds : List PyData} (n : Nat), DnAll N H xs ds → DnAll N H (xs.drop n) (ds.drop n)
  | _, _, 0, h => h
  | _, _, _ + 1, .nil => .nil
  | _, _, n + 1, .cons _ b => DnAll.drop n b
theorem DnAll.rev {N : Addr → Prop} {H : Hp} : ∀ {xs : List V} {ds : List PyData}, DnAll N H xs ds → DnAll N H xs.reverse ds.reverse
  | _, _, .nil => .nil
  | _, _, .cons a b => by
    rw [List.reverse_cons, List.reverse_cons]
    exact (DnAll.rev b).app (.cons a .nil)
theorem DnAll.cut {N : Addr → Prop} {H : Hp} {xs : List V} {ds : List PyData} (h : DnAll N H xs ds) (lo hi : Option Int) : DnAll N H (cutV xs lo hi) (cutD ds lo hi) := by
  unfold cutV cutD
  rw [h.len]
  exact (h.drop _).take _
theorem cost_app : ∀ (a b : List PyData), costAll (a ++ b) = costAll a + costAll b
  | [], b => by
    show costAll b = 0 + costAll b
    omega
  | x :: a, b => by
    show cost x + 2 + costAll (a ++ b) = cost x + 2 + costAll a + costAll b
    rw [cost_app a b]
    omega
theorem cost_rev : ∀ (a : List PyData), costAll a.reverse = costAll a
  | [] => rfl
  | x :: a => by
    rw [List.reverse_cons, cost_app, cost_rev a]
    show costAll a + (cost x + 2 + 0) = cost x + 2 + costAll a
    omega
theorem cost_take (a : List PyData) (n : Nat) : costAll (a.take n) ≤ costAll a := by
  have e := cost_app (a.take n) (a.drop n)
  rw [List.take_append_drop] at e
  omega
theorem cost_drop (a : List PyData) (n : Nat) : costAll (a.drop n) ≤ costAll a := by
  have e := cost_app (a.take n) (a.drop n)
  rw [List.take_append_drop] at e
  omega
theorem cost_cut (a : List PyData) (lo hi : Option Int) : costAll (cutD a lo hi) ≤ costAll a := Nat.le_trans (cost_take _ _) (cost_drop _ _)
theorem cutD_mem {a : List PyData} {lo hi : Option Int} {e : PyData} (h : e ∈ cutD a lo hi) : e ∈ a := List.mem_of_mem_drop (List.mem_of_mem_take h)
/-- one part put in the place of another -/
theorem cost_put {a : List PyData} {i : Nat} {d : PyData} (h : a[i]? = some d) : costAll (a.take i) + costAll (a.drop (i + 1)) + (cost d + 2) = costAll a := by
  obtain ⟨hi, e⟩ := List.getElem?_eq_some_iff.mp h
  have z := cost_app (a.take i) (a.drop i)
  rw [List.take_append_drop, List.drop_eq_getElem_cons hi, e] at z
  have y : costAll (d :: a.drop (i + 1)) = cost d + 2 + costAll (a.drop (i + 1)) := rfl
  omega
theorem cutD_to (a : List PyData) (n : Nat) : cutD a none (some (n : Int)) = a.take n := by
  unfold cutD
  rw [HT.sIx_none, HT.sIx_nat, List.drop_zero, Nat.sub_zero]
  rcases Nat.le_total n a.length with h | h
  · rw [Nat.min_eq_left h]
  · rw [Nat.min_eq_right h, List.take_of_length_le (Nat.le_refl _), List.take_of_length_le h]
theorem cutD_from (a : List PyData) (n : Nat) : cutD a (some (n : Int)) none = a.drop n := by
  unfold cutD
  rw [HT.sIx_none, HT.sIx_nat]
  rcases Nat.le_total n a.length with h | h
  · rw [Nat.min_eq_left h, List.take_of_length_le (by rw [List.length_drop]; exact Nat.le_refl _)]
  · rw [Nat.min_eq_right h, Nat.sub_self, List.take_zero, List.drop_eq_nil_of_le h]
/-- a new tuple, a new list of good parts -/
theorem gv_tup {N : Addr → Prop} {H : Hp} {k c : Nat} {B : Int} {t : Addr} {xs : List V} {es : List PyData} (ht : H t = some (.tup xs)) (hx : DnAll N H xs es) (h : ∀ e ∈ es, Fin3 k B e) (hc : costAll es + 3 ≤ c) : GV N H (k + 1) c B (.ref t) := ⟨_, .tup ht hx, fin_tup h, hc⟩
theorem gv_lst {N : Addr → Prop} {H : Hp} {k c : Nat} {B : Int} {t : Addr} {xs : List V} {es : List PyData} (hn : N t) (ht : H t = some (.lst xs)) (hx : DnAll N H xs es) (h : ∀ e ∈ es, Fin3 k B e) (hc : costAll es + 3 ≤ c) : GV N H (k + 1) c B (.ref t) := ⟨_, .lst hn ht hx, fin_lst h, hc⟩
theorem gv_non {N : Addr → Prop} {H : Hp} {k c : Nat} {B : Int} (hc : 10 ≤ c) : GV N H k c B .non := ⟨_, .non, fin_non, Nat.le_trans (show cost .none ≤ 10 by decide) hc⟩
theorem gv_bl {N : Addr → Prop} {H : Hp} {k c : Nat} {B : Int} (b : Bool) (hc : 10 ≤ c) : GV N H k c B (.bl b) := ⟨_, .bl b, fin_bool b, Nat.le_trans (show cost (.bool b) ≤ 10 by cases b <;> decide) hc⟩
theorem gv_int {N : Addr → Prop} {H : Hp} {k c : Nat} {B i : Int} (h1 : -B ≤ i) (h2 : i ≤ B) (hB : B ≤ 10 ^ 40) (hc : 2000 ≤ c) : GV N H k c B (.int i) := ⟨_, .int i, fin_int h1 h2 hB, hc⟩
theorem gv_str {N : Addr → Prop} {H : Hp} {k c : Nat} {B : Int} {x : Str} (h : ChOk x) (hc : 10 * x.length + 2 ≤ c) : GV N H k c B (.str x) := ⟨_, .str x, fin_str h, hc⟩
theorem ch_cut {x : Str} (h : ChOk x) (lo hi : Option Int) : ChOk (cutS x lo hi) := fun c hc => h c (by
  have hc : c ∈ (((x.cps.toList.drop (HT.sIx x.length 0 lo)).take (HT.sIx x.length x.length hi - HT.sIx x.length 0 lo)).toArray).toList := hc
  exact List.mem_of_mem_drop (List.mem_of_mem_take hc))
theorem ch_app {x y : Str} (h : ChOk x) (k : ChOk y) : ChOk (x ++ y) := fun c hc => by
  have hc : c ∈ (x.cps ++ y.cps).toList := hc
  rw [Array.toList_append] at hc
  exact (List.mem_append.mp hc).elim (h c) (k c)
theorem ch_one {c : Nat} (h : c < 16 ^ 8) : ChOk ⟨#[c]⟩ := fun d hd => by
  have hd : d ∈ [c] := hd
  rw [List.mem_singleton.mp hd]
  exact h
/-- what odd and bent answer -/
def BtOk (f c0 : Addr) (n m : Int) (k c : Nat) (B : Int) (H : Hp) (Q : VK) : Prop := ∀ (v : V) (H' : Hp), Fd H' f c0 (n + m) → But f H H' → GV (fun a => a ≠ f) H' (k + 1) (3 * c + 5000) (B + 1) v → Q v H'
def spOdd : Sp := fun vs H Q _ => ∃ (f c0 : Addr) (v : V) (d : PyData) (n : Int) (k c : Nat) (B : Int), vs = [.ref f, v] ∧ Fd H f c0 n ∧ n ≤ 900000 ∧ Dn (fun a => a ≠ f) H v d ∧ Gd k c B d ∧ k ≤ 30 ∧ c ≤ 4000000 ∧ 1000000010 ≤ B ∧ B ≤ 10 ^ 39 ∧ BtOk f c0 n 10 k c B H Q
def spBentK : Nat → Sp
  | 0 => fun _ _ _ _ => False
  | m + 1 => fun vs H Q _ => ∃ (f c0 : Addr) (v : V) (d : PyData) (n : Int) (k c : Nat) (B : Int), vs = [.ref f, v] ∧ Fd H f c0 n ∧ n + 20 * (m + 1) ≤ 800000 ∧ Dn (fun a => a ≠ f) H v d ∧ Gd k c B d ∧ k ≤ m ∧ k ≤ 30 ∧ c ≤ 4000000 ∧ 1000000010 ≤ B ∧ B ≤ 10 ^ 39 ∧ BtOk f c0 n (20 * (m + 1)) k c B H Q
theorem bent_none {P : Program} {w : World} {K : PySem.W.Frag} {mg : Str → Option Value} {base : Heap} {k : Nat} {f : Addr} {fd : FuncData} {ps : List Str} : FnOk P w K mg base CX0 k f fd ps (spBentK 0) :=
  ⟨fun _ _ _ _ h => h.elim, fun _ _ _ _ _ _ _ _ _ _ _ _ _ h => h.elim⟩
theorem sign_at {i : Int} (h0 : 0 ≤ i) (h1 : i < 13) : ∃ c, atI ((("abmyz A0-_`{~" : String) : Str)).cps.toList i = some c ∧ c < 16 ^ 8 := by
  have k : i = 0 ∨ i = 1 ∨ i = 2 ∨ i = 3 ∨ i = 4 ∨ i = 5 ∨ i = 6 ∨ i = 7 ∨ i = 8 ∨ i = 9 ∨ i = 10 ∨ i = 11 ∨ i = 12 := by omega
  rcases k with rfl | rfl | rfl | rfl | rfl | rfl | rfl | rfl | rfl | rfl | rfl | rfl | rfl
  · exact ⟨97, by decide +kernel, by decide⟩
  · exact ⟨98, by decide +kernel, by decide⟩
  · exact ⟨109, by decide +kernel, by decide⟩
  · exact ⟨121, by decide +kernel, by decide⟩
  · exact ⟨122, by decide +kernel, by decide⟩
  · exact ⟨32, by decide +kernel, by decide⟩
  · exact ⟨65, by decide +kernel, by decide⟩
  · exact ⟨48, by decide +kernel, by decide⟩
  · exact ⟨45, by decide +kernel, by decide⟩
  · exact ⟨95, by decide +kernel, by decide⟩
  · exact ⟨96, by decide +kernel, by decide⟩
  · exact ⟨123, by decide +kernel, by decide⟩
  · exact ⟨126, by decide +kernel, by decide⟩
theorem chA : ChOk (("a" : String) : Str) := fun c hc => by
  have hc : c ∈ [97] := hc
  rw [List.mem_singleton.mp hc]
  decide
theorem chE : ChOk (("" : String) : Str) := fun c hc => by
  have hc : c ∈ ([] : List Nat) := hc
  cases hc
theorem But.tup {f c0 a : Addr} {n : Int} {H H' : Hp} {xs : List V} (b : But f H H') (hf : Fd H f c0 n) (h : H a = some (.tup xs)) : H' a = some (.tup xs) := by
  obtain ⟨zs, hz⟩ := hf.at
  exact b _ _ (ne_of h hz fun z => nomatch z) h
theorem gvs_cons {P : V → Prop} {v : V} {l : List V} (h : P v) (k : ∀ w ∈ l, P w) : ∀ w ∈ v :: l, P w := fun w hw => by
  rcases List.mem_cons.mp hw with rfl | hw
  · exact h
  · exact k w hw
theorem gvs_nil {P : V → Prop} : ∀ w ∈ ([] : List V), P w := fun w hw => nomatch hw
theorem dn_allP2 {N : Addr → Prop} {H : Hp} {P : PyData → Prop} : ∀ {xs : List V}, (∀ v ∈ xs, ∃ d, Dn N H v d ∧ P d) → ∃ ds, DnAll N H xs ds ∧ ∀ d ∈ ds, P d
  | [], _ => ⟨[], .nil, fun _ z => nomatch z⟩
  | v :: xs, h => by
    obtain ⟨d, d1, d2⟩ := h v List.mem_cons_self
    obtain ⟨ds, e1, e2⟩ := dn_allP2 fun u hu => h u (List.mem_cons_of_mem _ hu)
    exact ⟨d :: ds, .cons d1 e1, fun z hz => (List.mem_cons.mp hz).elim (fun k => k ▸ d2) (e2 z)⟩
theorem gv_all {N : Addr → Prop} {H : Hp} {k c : Nat} {B : Int} {xs : List V} (h : ∀ v ∈ xs, GV N H k c B v) : ∃ es, DnAll N H xs es ∧ (∀ e ∈ es, Fin3 k B e) ∧ costAll es ≤ (c + 2) * xs.length := by
  obtain ⟨es, d1, d2⟩ := dn_allP2 h
  have l := d1.len
  refine ⟨es, d1, fun e he => (d2 e he).1, ?_⟩
  rw [l]
  clear d1 l h
  induction es with
  | nil => exact Nat.zero_le _
  | cons e es ih =>
    have a := (d2 e List.mem_cons_self).2
    have b := ih fun x hx => d2 x (List.mem_cons_of_mem _ hx)
    show cost e + 2 + costAll es ≤ (c + 2) * (es.length + 1)
    rw [Nat.mul_add, Nat.mul_one]
    omega
theorem gvt {N : Addr → Prop} {H : Hp} {k c e : Nat} {B : Int} {t : Addr} {xs : List V} (ht : H t = some (.tup xs)) (h : ∀ v ∈ xs, GV N H k c B v) (he : (c + 2) * xs.length + 3 ≤ e) : GV N H (k + 1) e B (.ref t) := by
  obtain ⟨es, d1, d2, d3⟩ := gv_all h
  exact gv_tup ht d1 d2 (by omega)
theorem gvl {N : Addr → Prop} {H : Hp} {k c e : Nat} {B : Int} {t : Addr} {xs : List V} (hn : N t) (ht : H t = some (.lst xs)) (h : ∀ v ∈ xs, GV N H k c B v) (he : (c + 2) * xs.length + 3 ≤ e) : GV N H (k + 1) e B (.ref t) := by
  obtain ⟨es, d1, d2, d3⟩ := gv_all h
  exact gv_lst hn ht d1 d2 (by omega)
theorem GV.imp {N M : Addr → Prop} {H : Hp} {k c : Nat} {B : Int} {v : V} (i : ∀ a, N a → M a) (h : GV N H k c B v) : GV M H k c B v := by
  obtain ⟨d, a, b⟩ := h
  exact ⟨d, a.imp i, b⟩
def MB : Int := 10 ^ 39 + 100
theorem mb40 : MB ≤ 10 ^ 40 := by unfold MB; decide +kernel
/-- atoms of the menu -/
theorem ma_str {N : Addr → Prop} {H : Hp} {x : Str} (h : (x.cps.toList.all fun c => decide (c < 16 ^ 8)) = true) (l : x.length ≤ 100) : GV N H 0 2000 MB (.str x) := gv_str (fun c hc => of_decide_eq_true (List.all_eq_true.mp h c hc)) (by omega)
theorem ma_int {N : Addr → Prop} {H : Hp} {i : Int} (h1 : decide (-MB ≤ i) = true) (h2 : decide (i ≤ MB) = true) : GV N H 0 2000 MB (.int i) := gv_int (of_decide_eq_true h1) (of_decide_eq_true h2) mb40 (Nat.le_refl _)
theorem ma_non {N : Addr → Prop} {H : Hp} : GV N H 0 2000 MB .non := gv_non (by decide)
theorem ma_bl {N : Addr → Prop} {H : Hp} (b : Bool) : GV N H 0 2000 MB (.bl b) := gv_bl b (by decide)
def spMenu : Sp := fun vs H Q _ => vs = [] ∧ ∀ (l : Addr) (xs : List V) (H' : Hp), Same H H' → H l = none → H' l = some (.lst xs) → xs.length ≤ 100 → (∀ v ∈ xs, GV (fun a => H a = none) H' 4 200000 MB v) → Q (.ref l) H'
theorem nm_ch {x : Str} (h : NmOk x) : ChOk x := fun c hc => of_decide_eq_true (List.all_eq_true.mp h.2 c hc)
theorem fin_rn {r : Rn} {B : Int} (h1 : RnOk r) (h2 : NmOk r.1) (hB : 1000000000 ≤ B) (hB2 : B ≤ 10 ^ 40) : Fin3 1 B (rnD r) ∧ cost (rnD r) ≤ 5000 := by
  obtain ⟨a, b, c⟩ := h1
  refine ⟨fin_tup (k := 0) fun e he => ?_, (rn_fine ⟨a, b, c⟩ h2).2⟩
  simp only [List.mem_cons, List.not_mem_nil, or_false] at he
  rcases he with rfl | rfl | rfl
  · exact fin_str (nm_ch h2)
  · exact fin_int (by omega) (by omega) hB2
  · exact fin_int (by omega) (by omega) hB2
theorem rn_dn {N : Addr → Prop} {H : Hp} {p : Addr} {r : Rn} (h : H p = some (.tup (rnV r))) : Dn N H (.ref p) (rnD r) := .tup h (.cons (.str _) (.cons (.int _) (.cons (.int _) .nil)))
theorem rn_gv {N : Addr → Prop} {H : Hp} {p : Addr} {r : Rn} {B : Int} (h : H p = some (.tup (rnV r))) (h1 : RnOk r) (h2 : NmOk r.1) (hB : 1000000000 ≤ B) (hB2 : B ≤ 10 ^ 40) : GV N H 1 5000 B (.ref p) := by
  obtain ⟨a, b⟩ := fin_rn h1 h2 hB hB2
  exact ⟨_, rn_dn h, a, b⟩
theorem prd_gvs {N : Addr → Prop} {H : Hp} {B : Int} (hB : 1000000000 ≤ B) (hB2 : B ≤ 10 ^ 40) : ∀ {ps : List Addr} {rs : List Rn}, Prd H ps rs → (∀ r ∈ rs, RnOk r ∧ NmOk r.1) → ∀ v ∈ ps.map V.ref, GV N H 1 5000 B v
  | _, _, .nil, _ => fun v hv => nomatch hv
  | _, _, .cons a b, h => by
    rw [List.map_cons]
    obtain ⟨x, y⟩ := h _ List.mem_cons_self
    exact gvs_cons (rn_gv a x y hB hB2) (prd_gvs hB hB2 b fun r hr => h r (List.mem_cons_of_mem _ hr))
theorem prd_gv {N : Addr → Prop} {H : Hp} {t : Addr} {ps : List Addr} {rs : List Rn} {B : Int} (ht : H t = some (.tup (ps.map V.ref))) (h : Prd H ps rs) (ok : ∀ r ∈ rs, RnOk r ∧ NmOk r.1) (l : rs.length ≤ 65) (hB : 1000000000 ≤ B) (hB2 : B ≤ 10 ^ 40) : GV N H 2 330000 B (.ref t) := by
  have e := h.len
  exact gvt ht (prd_gvs hB hB2 h ok) (by
    rw [List.length_map]
    have : (5000 + 2) * ps.length ≤ (5000 + 2) * 65 := Nat.mul_le_mul_left _ (by omega)
    omega)
def spThings : Sp := fun vs H Q _ => ∃ (f c l : Addr) (m n : Int) (xs : List Str), vs = [.ref f, .ref l, .int m] ∧ Fd H f c n ∧ n ≤ 100000 ∧ 0 < m ∧ m ≤ 1000000 ∧ H l = some (.lst (xs.map V.str)) ∧ l ≠ f ∧ xs.length = 4 ∧ (∀ x ∈ xs, NmOk x) ∧
  ∀ (t : Addr) (us : List V) (H' : Hp), Fd H' f c (n + 10000) → But f H H' → t ≠ f → H' t = some (.lst us) → us.length ≤ 200 → (∀ v ∈ us, GV (fun a => a ≠ f) H' 4 3000000 MB v) → Q (.ref t) H'
theorem runsOf_good {rs : List Rn} {P : Str → Prop} (h : ∀ r ∈ rs, RnOk r ∧ P r.1) : ∀ r ∈ runsOf rs, RnOk r ∧ P r.1 := fun r hr => by
  have hf : Full rs := fun x hx => (h x hx).1.2.1
  obtain ⟨ca, hs⟩ := runsOf_ok hf
  have fr := ca.2 r hr
  obtain ⟨x, hx, e1, l1, _⟩ := (hs r.1 r.2.1).mp ⟨r, hr, rfl, Int.le_refl _, fr⟩
  obtain ⟨y, hy, e2, _, l2⟩ := (hs r.1 (r.2.2 - 1)).mp ⟨r, hr, rfl, by omega, by omega⟩
  obtain ⟨⟨a1, a2, a3⟩, a4⟩ := h x hx
  obtain ⟨⟨b1, b2, b3⟩, b4⟩ := h y hy
  exact ⟨⟨by omega, fr, by omega⟩, e1 ▸ a4⟩
theorem Prd.takeN {H : Hp} : ∀ {ps : List Addr} {rs : List Rn} (n : Nat), Prd H ps rs → Prd H (ps.take n) (rs.take n)
  | _, _, 0, _ => .nil
  | _, _, _ + 1, .nil => .nil
  | _, _, n + 1, .cons a b => .cons a (Prd.takeN n b)
def top (i : Nat) : Stmt := PySem.Challenge.pw_pressnotes_k01_kinds_of_any_thing.main.body.getD i (.Pass ⟨0, 0, 0, 0⟩)
abbrev s_is_number : Stmt := top 1
abbrev s_is_from_to : Stmt := top 2
abbrev s_is_word : Stmt := top 3
abbrev s_is_tuple_of : Stmt := top 4
abbrev s_is_note : Stmt := top 7
abbrev s_is_run : Stmt := top 8
abbrev s_is_runs : Stmt := top 9
abbrev s_is_apart : Stmt := top 10
abbrev s_lfeed : Stmt := top 12
abbrev s_ldraw : Stmt := top 13
abbrev s_lnames : Stmt := top 14
abbrev s_lat : Stmt := top 15
abbrev s_lrun : Stmt := top 16
abbrev s_llot : Stmt := top 17
abbrev s_lhas : Stmt := top 18
abbrev s_lmade : Stmt := top 19
abbrev s_lis_number : Stmt := top 20
abbrev s_lis_word : Stmt := top 21
abbrev s_lis_run : Stmt := top 22
abbrev s_lis_runs : Stmt := top 23
abbrev s_lis_note : Stmt := top 24
abbrev s_lodd : Stmt := top 25
abbrev s_lbent : Stmt := top 26
abbrev s_lmenu : Stmt := top 27
abbrev s_lthings : Stmt := top 28
abbrev s_law : Stmt := top 29
theorem sc_is_number : FnScope ["thing"] ["thing"] (defScope s_is_number) := ⟨rfl, rfl, rfl, by decide +kernel, rfl, by decide +kernel, by decide +kernel⟩
theorem sc_is_from_to : FnScope ["thing", "least", "most"] ["thing", "least", "most"] (defScope s_is_from_to) := ⟨rfl, rfl, rfl, by decide +kernel, rfl, by decide +kernel, by decide +kernel⟩
theorem sc_is_word : FnScope ["thing", "sign"] ["thing"] (defScope s_is_word) := ⟨rfl, rfl, rfl, by decide +kernel, rfl, by decide +kernel, by decide +kernel⟩
theorem sc_is_tuple_of : FnScope ["thing", "many"] ["thing", "many"] (defScope s_is_tuple_of) := ⟨rfl, rfl, rfl, by decide +kernel, rfl, by decide +kernel, by decide +kernel⟩
theorem sc_is_note : FnScope ["thing"] ["thing"] (defScope s_is_note) := ⟨rfl, rfl, rfl, by decide +kernel, rfl, by decide +kernel, by decide +kernel⟩
theorem sc_is_run : FnScope ["thing", "series", "low", "high"] ["thing"] (defScope s_is_run) := ⟨rfl, rfl, rfl, by decide +kernel, rfl, by decide +kernel, by decide +kernel⟩
theorem sc_is_runs : FnScope ["thing", "run", "at"] ["thing"] (defScope s_is_runs) := ⟨rfl, rfl, rfl, by decide +kernel, rfl, by decide +kernel, by decide +kernel⟩
theorem sc_is_apart : FnScope ["run", "later"] ["run", "later"] (defScope s_is_apart) := ⟨rfl, rfl, rfl, by decide +kernel, rfl, by decide +kernel, by decide +kernel⟩
theorem sc_lfeed : FnScope ["_law_script"] ["_law_script"] (defScope s_lfeed) := ⟨rfl, rfl, rfl, by decide +kernel, rfl, by decide +kernel, by decide +kernel⟩
theorem sc_ldraw : FnScope ["_law_feed_here", "_law_many", "_law_found", "_law_at_here", "_law_cell", "_law_first"] ["_law_feed_here", "_law_many"] (defScope s_ldraw) := ⟨rfl, rfl, rfl, by decide +kernel, rfl, by decide +kernel, by decide +kernel⟩
theorem sc_lnames : FnScope ["_law_feed_here", "_law_letters", "_law_way", "_law_base", "_law_many", "_law_ahead", "_law_k"] ["_law_feed_here"] (defScope s_lnames) := ⟨rfl, rfl, rfl, by decide +kernel, rfl, by decide +kernel, by decide +kernel⟩
theorem sc_lat : FnScope ["_law_feed_here", "_law_wide", "_law_way"] ["_law_feed_here", "_law_wide"] (defScope s_lat) := ⟨rfl, rfl, rfl, by decide +kernel, rfl, by decide +kernel, by decide +kernel⟩
theorem sc_lrun : FnScope ["_law_feed_here", "_law_names_here", "_law_wide", "_law_first", "_law_way", "_law_more"] ["_law_feed_here", "_law_names_here", "_law_wide"] (defScope s_lrun) := ⟨rfl, rfl, rfl, by decide +kernel, rfl, by decide +kernel, by decide +kernel⟩
theorem sc_llot : FnScope ["_law_feed_here", "_law_names_here", "_law_wide", "_law_most", "_law_lot_here", "_law_k", "_law_series", "_law_first", "_law_end"] ["_law_feed_here", "_law_names_here", "_law_wide", "_law_most"] (defScope s_llot) := ⟨rfl, rfl, rfl, by decide +kernel, rfl, by decide +kernel, by decide +kernel⟩
theorem sc_lhas : FnScope ["_law_runs", "_law_series", "_law_number", "_law_one", "_law_first", "_law_end"] ["_law_runs", "_law_series", "_law_number"] (defScope s_lhas) := ⟨rfl, rfl, rfl, by decide +kernel, rfl, by decide +kernel, by decide +kernel⟩
theorem sc_lmade : FnScope ["_law_lots", "_law_rule", "_law_names_here", "_law_ends", "_law_lot_here", "_law_run_here", "_law_cuts", "_law_found", "_law_series", "_law_begin", "_law_end", "_law_truths", "_law_good"] ["_law_lots", "_law_rule"] (defScope s_lmade) := ⟨rfl, rfl, rfl, by decide +kernel, rfl, by decide +kernel, by decide +kernel⟩
theorem sc_lis_number : FnScope ["_law_thing", "_law_least", "_law_most"] ["_law_thing", "_law_least", "_law_most"] (defScope s_lis_number) := ⟨rfl, rfl, rfl, by decide +kernel, rfl, by decide +kernel, by decide +kernel⟩
theorem sc_lis_word : FnScope ["_law_thing", "_law_sign"] ["_law_thing"] (defScope s_lis_word) := ⟨rfl, rfl, rfl, by decide +kernel, rfl, by decide +kernel, by decide +kernel⟩
theorem sc_lis_run : FnScope ["_law_thing"] ["_law_thing"] (defScope s_lis_run) := ⟨rfl, rfl, rfl, by decide +kernel, rfl, by decide +kernel, by decide +kernel⟩
theorem sc_lis_runs : FnScope ["_law_thing", "_law_one", "_law_k", "_law_other"] ["_law_thing"] (defScope s_lis_runs) := ⟨rfl, rfl, rfl, by decide +kernel, rfl, by decide +kernel, by decide +kernel⟩
theorem sc_lis_note : FnScope ["_law_thing"] ["_law_thing"] (defScope s_lis_note) := ⟨rfl, rfl, rfl, by decide +kernel, rfl, by decide +kernel, by decide +kernel⟩
theorem sc_lodd : FnScope ["_law_feed_here", "_law_thing", "_law_way", "_law_at_here", "_law_by", "_law_twice", "_law_some", "_law_sign"] ["_law_feed_here", "_law_thing"] (defScope s_lodd) := ⟨rfl, rfl, rfl, by decide +kernel, rfl, by decide +kernel, by decide +kernel⟩
theorem sc_lbent : FnScope ["_law_feed_here", "_law_thing", "_law_at_here"] ["_law_feed_here", "_law_thing"] (defScope s_lbent) := ⟨rfl, rfl, rfl, by decide +kernel, rfl, by decide +kernel, by decide +kernel⟩
theorem sc_lmenu : FnScope ["_law_some"] [] (defScope s_lmenu) := ⟨rfl, rfl, rfl, by decide +kernel, rfl, by decide +kernel, by decide +kernel⟩
theorem sc_lthings : FnScope ["_law_feed_here", "_law_names_here", "_law_wide", "_law_found", "_law_k", "_law_lot_here", "_law_some", "_law_thing", "_law_bent_here", "_law_long"] ["_law_feed_here", "_law_names_here", "_law_wide"] (defScope s_lthings) := ⟨rfl, rfl, rfl, by decide +kernel, rfl, by decide +kernel, by decide +kernel⟩
theorem sc_law : FnScope ["_law_script", "_law_feed_here", "_law_names_here", "_law_wide", "_law_thing", "_law_kept", "_law_due", "_law_found", "_law_one"] ["_law_script"] (defScope s_law) := ⟨rfl, rfl, rfl, by decide +kernel, rfl, by decide +kernel, by decide +kernel⟩
structure Txt (mg : Str → Option Value) (f_is_number f_is_from_to f_is_word f_is_tuple_of f_is_note f_is_run f_is_runs f_is_apart f_lfeed f_ldraw f_lnames f_lat f_lrun f_llot f_lhas f_lmade f_lis_number f_lis_word f_lis_run f_lis_runs f_lis_note f_lodd f_lbent f_lmenu f_lthings f_law : Addr) : Prop where
  m_is_number : mg "is_number" = some (.ref f_is_number)
  m_is_from_to : mg "is_from_to" = some (.ref f_is_from_to)
  m_is_word : mg "is_word" = some (.ref f_is_word)
  m_is_tuple_of : mg "is_tuple_of" = some (.ref f_is_tuple_of)
  m_is_note : mg "is_note" = some (.ref f_is_note)
  m_is_run : mg "is_run" = some (.ref f_is_run)
  m_is_runs : mg "is_runs" = some (.ref f_is_runs)
  m_is_apart : mg "is_apart" = some (.ref f_is_apart)
  m_lfeed : mg "_law_feed" = some (.ref f_lfeed)
  m_ldraw : mg "_law_draw" = some (.ref f_ldraw)
  m_lnames : mg "_law_names" = some (.ref f_lnames)
  m_lat : mg "_law_at" = some (.ref f_lat)
  m_lrun : mg "_law_run" = some (.ref f_lrun)
  m_llot : mg "_law_lot" = some (.ref f_llot)
  m_lhas : mg "_law_has" = some (.ref f_lhas)
  m_lmade : mg "_law_made" = some (.ref f_lmade)
  m_lis_number : mg "_law_is_number" = some (.ref f_lis_number)
  m_lis_word : mg "_law_is_word" = some (.ref f_lis_word)
  m_lis_run : mg "_law_is_run" = some (.ref f_lis_run)
  m_lis_runs : mg "_law_is_runs" = some (.ref f_lis_runs)
  m_lis_note : mg "_law_is_note" = some (.ref f_lis_note)
  m_lodd : mg "_law_odd" = some (.ref f_lodd)
  m_lbent : mg "_law_bent" = some (.ref f_lbent)
  m_lmenu : mg "_law_menu" = some (.ref f_lmenu)
  m_lthings : mg "_law_things" = some (.ref f_lthings)
  m_law : mg "law" = some (.ref f_law)
  len : mg "len" = none
  range : mg "range" = none
  sorted : mg "sorted" = none
  tuple : mg "tuple" = none
  list : mg "list" = none
  isinstance : mg "isinstance" = none
  repr : mg "repr" = none
  min : mg "min" = none
  max : mg "max" = none
  all : mg "all" = none
  any : mg "any" = none
  zip : mg "zip" = none
  int : mg "int" = none
  bool : mg "bool" = none
  str : mg "str" = none
  set : mg "set" = none
  c_NUMBERS : ∃ t, mg "NUMBERS" = some (.int 1000000000 t)
section
variable {P : Program} {w : World} {K : PySem.W.Frag} {mg : Str → Option Value} {base : Heap} {f_is_number f_is_from_to f_is_word f_is_tuple_of f_is_note f_is_run f_is_runs f_is_apart f_lfeed f_ldraw f_lnames f_lat f_lrun f_llot f_lhas f_lmade f_lis_number f_lis_word f_lis_run f_lis_runs f_lis_note f_lodd f_lbent f_lmenu f_lthings f_law c_is_runs P_is_runs c_is_word P_is_word : Addr} {d_is_number d_is_from_to d_is_word d_is_tuple_of d_is_note d_is_run d_is_runs d_is_apart d_lfeed d_ldraw d_lnames d_lat d_lrun d_llot d_lhas d_lmade d_lis_number d_lis_word d_lis_run d_lis_runs d_lis_note d_lodd d_lbent d_lmenu d_lthings d_law : FuncData}
theorem ok_ldraw (F : Fun K "_law_draw" "_law_draw" s_ldraw f_ldraw d_ldraw) (T : Txt mg f_is_number f_is_from_to f_is_word f_is_tuple_of f_is_note f_is_run f_is_runs f_is_apart f_lfeed f_ldraw f_lnames f_lat f_lrun f_llot f_lhas f_lmade f_lis_number f_lis_word f_lis_run f_lis_runs f_lis_note f_lodd f_lbent f_lmenu f_lthings f_law) :
    FnOk P w K mg base CX0 (1) f_ldraw d_ldraw ["_law_feed_here", "_law_many"] spDraw := by
  refine F.ok sc_ldraw (fun vs H Q E h => ?_) (fun cdv A outer s H vs Q E hr h => ?_)

  · obtain ⟨f, c, m, n, rfl, _⟩ := h
    rfl
  obtain ⟨f, c, m, n, rfl, ⟨cells, at_, g, hf, hc, h63, h0, hn⟩, hn2, hm0, hm1, q0⟩ := h
  refine ⟨_, (pss_cons (ps_if (pt_cmpR op_gt (pe_ix ix_list (pv 0) pe_int (fun _ _ => rfl)) pe_int (nomark _))
  (pss_cons (ps_set (i := 2) sc_ldraw.nd rfl (.inl rfl) (pe_op op_modN (pe_ix ix_list (pv 0) pe_int (fun _ _ => rfl)) (pv 1)))
  (pss_cons (ps_asg (pe_op op_fdivN (pe_ix ix_list (pv 0) pe_int (fun _ _ => rfl)) (pv 1)) (pg_sub (pv 0) pe_int set_list))
  (pss_one (ps_ret (pv 2)))))
  pss_nil)
  (pss_cons (ps_set (i := 3) sc_ldraw.nd rfl (.inl rfl) (pe_ix ix_list (pv 0) pe_int (fun _ _ => rfl)))
  (pss_cons (ps_asg (pe_op op_add (pv 3) pe_int) (pg_sub (pv 0) pe_int set_list))
  (pss_cons (ps_set (i := 4) sc_ldraw.nd rfl (.inl rfl) (pe_ifExp (pt_cmpR op_gt (pe_callB call_len_seq (by rfl) T.len (by decide +kernel) (pa_cons (pe_ix ix_list (pv 0) pe_int (fun _ _ => rfl)) pa_nil)) pe_int (nomark _)) (pe_ix ix_list (pe_ix ix_list (pv 0) pe_int (fun _ _ => rfl)) (pe_op op_modN (pv 3) (pe_callB call_len_seq (by rfl) T.len (by decide +kernel) (pa_cons (pe_ix ix_list (pv 0) pe_int (fun _ _ => rfl)) pa_nil))) (fun _ _ => rfl)) pe_int))
  (pss_cons (ps_if (PW.pt (pw_and (pt_cmpR op_ge (pv 4) (pe_op op_pow pe_int pe_int) (nomark _)) (pw_and1 (pt_cmpR op_lt (pv 3) (pe_callB call_len_seq (by rfl) T.len (by decide +kernel) (pa_cons (pe_ix ix_list (pv 0) pe_int (fun _ _ => rfl)) pa_nil)) (nomark _)))))
  (pss_cons (ps_asg (pe_op op_fdivN (pv 4) (pv 1)) (pg_sub (pv 0) pe_int set_list))
  (pss_one (ps_ret (pe_op op_modN (pv 4) (pv 1)))))
  pss_nil)
  (pss_cons (ps_set (i := 5) sc_ldraw.nd rfl (.inl rfl) (pe_op op_modN (pe_op op_mul (pe_op op_add (pe_op op_add (pe_op op_add (pe_op op_modN (pv 4) pe_int) (pe_op op_mul (pe_op op_mul pe_int (pv 3)) (pv 3))) (pe_op op_mul pe_int (pv 3))) pe_int) pe_int) pe_int))
  (pss_cons (ps_set (i := 5) sc_ldraw.nd rfl (.inl rfl) (pe_op op_modN (pe_op op_add (pe_op op_add (pe_op op_mul (pv 5) (pv 5)) (pe_op op_mul pe_int (pv 3))) pe_int) pe_int))
  (pss_one (ps_ret (pe_op op_modN (pe_op op_fdivN (pe_op op_modN (pe_op op_mul (pv 5) pe_int) pe_int) pe_int) (pv 1))))))))))), ?_⟩
  have hcf : c ≠ f := fd_ne hf hc
  have q : ∀ (d : Int) (o : HO), 0 ≤ d → d < m → Fd (upd H f o) f c (n + 1) → Q (.int d) (upd H f o) := fun d o h1 h2 h3 => q0 d _ h1 h2 h3 But.feed fun a ha => by
    rw [upd_ne (fun z => by rw [z, hf] at ha; cases ha)]
    exact ha
  have fdN : ∀ a' g', 0 ≤ a' → a' ≤ n + 1 → Fd (upd H f (.lst [.ref c, .int a', .int g'])) f c (n + 1) := fun a' g' h1 h2 => ⟨cells, a', g', upd_same, (upd_ne hcf).trans hc, h63, h1, h2⟩
  have hc1 : ∀ o, (upd H f o) c = some (.lst (cells.map V.int)) := fun o => (upd_ne hcf).trans hc
  refine ⟨_, rfl, f, _, _, _, rfl, rfl, SqL.of hf, rfl, _, _, rfl, rfl, _, rfl, ?_⟩
  refine ite2 (fun cg => ?_) (fun cg => ?_)
  · refine ⟨_, rfl, f, _, _, _, rfl, rfl, SqL.of hf, rfl, _, rfl, _, _, rfl, rfl, by omega, ?_⟩
    refine ⟨_, rfl, f, _, _, _, rfl, rfl, SqL.of hf, rfl, _, rfl, _, _, rfl, rfl, ⟨by omega, by omega⟩, ?_⟩
    refine ⟨_, rfl, f, _, _, 2, rfl, rfl, hf, rfl, ?_⟩
    refine ⟨_, rfl, ?_⟩
    exact q _ _ (mod_lo _ _ hm0) (mod_hi _ _ hm0) (fdN at_ _ h0 (by omega))
  refine ⟨_, rfl, f, _, _, _, rfl, rfl, SqL.of hf, rfl, ?_⟩
  refine ⟨_, rfl, _, _, rfl, rfl, ?_⟩
  refine ⟨_, rfl, f, _, _, 1, rfl, rfl, hf, rfl, ?_⟩
  refine ⟨_, rfl, f, _, _, _, rfl, rfl, SqL.of upd_same, rfl, c, _, rfl, .inl (SqL.of (hc1 _)), _, _, rfl, rfl, _, rfl, ?_⟩
  refine ite2 (fun c1 => ?_) (fun c1 => ?_)
  · have hl : 0 < cells.length := by
      have := of_decide_eq_true c1
      rw [List.length_map] at this
      omega
    obtain ⟨cell, hcell⟩ := at_mod at_ hl
    refine ⟨_, rfl, f, _, _, _, rfl, rfl, SqL.of upd_same, rfl, _, rfl, _, rfl, f, _, _, _, rfl, rfl, SqL.of upd_same, rfl, c, _, rfl, .inl (SqL.of (hc1 _)), _, _, rfl, rfl, ?_, c, _, _, _, rfl, rfl, SqL.of (hc1 _), hcell, ?_⟩
    · rw [List.length_map]
      omega
    refine ⟨_, rfl, _, _, rfl, rfl, ⟨by decide, by decide, by decide⟩, _, _, rfl, rfl, _, rfl, ?_⟩
    refine ite2 (fun c2 => ?_) (fun c2 => ?_)
    · refine ⟨_, rfl, _, rfl, f, _, _, _, rfl, rfl, SqL.of upd_same, rfl, c, _, rfl, .inl (SqL.of (hc1 _)), _, _, rfl, rfl, _, rfl, ?_⟩
      refine ite2 (fun c3 => ?_) (fun c3 => ?_)
      · refine ⟨_, rfl, _, rfl, _, _, rfl, rfl, ⟨by omega, by omega⟩, ?_⟩
        refine ⟨_, rfl, f, _, _, 2, rfl, rfl, upd_same, rfl, ?_⟩
        refine ⟨_, rfl, _, rfl, _, _, rfl, rfl, by omega, ?_⟩
        rw [upd_upd]
        exact q _ _ (mod_lo _ _ hm0) (mod_hi _ _ hm0) (fdN _ _ (by omega) (by omega))
      ·
        refine ⟨_, rfl, _, _, rfl, rfl, (by show (_ : Int) ≠ 0; decide), _, rfl, _, _, rfl, rfl, .inl ⟨by decide, by decide⟩, _, rfl, _, _, rfl, rfl, .inl ⟨by omega, by omega⟩, _, _, rfl, rfl, _, rfl, _, _, rfl, rfl, .inl ⟨by decide, by decide⟩, _, _, rfl, rfl, _, _, rfl, rfl, _, _, rfl, rfl, .inr ⟨by decide, by decide⟩, _, _, rfl, rfl, (by show (_ : Int) ≠ 0; decide), ?_⟩
        refine ⟨_, rfl, _, rfl, _, _, rfl, rfl, .inl ⟨Int.lt_of_lt_of_le (by decide) (mod_lo _ _ (by decide)), Int.lt_trans (mod_hi _ _ (by decide)) (by decide)⟩, _, rfl, _, _, rfl, rfl, .inl ⟨by decide, by decide⟩, _, _, rfl, rfl, _, _, rfl, rfl, _, _, rfl, rfl, (by show (_ : Int) ≠ 0; decide), ?_⟩
        refine ⟨_, rfl, _, _, rfl, rfl, .inr ⟨by decide, by decide⟩, _, _, rfl, rfl, (by show (_ : Int) ≠ 0; decide), _, _, rfl, rfl, ⟨by decide, by decide⟩, _, rfl, _, _, rfl, rfl, by omega, ?_⟩
        exact q _ _ (mod_lo _ _ hm0) (mod_hi _ _ hm0) (fdN _ _ (by omega) (by omega))
    ·
      refine ⟨_, rfl, _, _, rfl, rfl, (by show (_ : Int) ≠ 0; decide), _, rfl, _, _, rfl, rfl, .inl ⟨by decide, by decide⟩, _, rfl, _, _, rfl, rfl, .inl ⟨by omega, by omega⟩, _, _, rfl, rfl, _, rfl, _, _, rfl, rfl, .inl ⟨by decide, by decide⟩, _, _, rfl, rfl, _, _, rfl, rfl, _, _, rfl, rfl, .inr ⟨by decide, by decide⟩, _, _, rfl, rfl, (by show (_ : Int) ≠ 0; decide), ?_⟩
      refine ⟨_, rfl, _, rfl, _, _, rfl, rfl, .inl ⟨Int.lt_of_lt_of_le (by decide) (mod_lo _ _ (by decide)), Int.lt_trans (mod_hi _ _ (by decide)) (by decide)⟩, _, rfl, _, _, rfl, rfl, .inl ⟨by decide, by decide⟩, _, _, rfl, rfl, _, _, rfl, rfl, _, _, rfl, rfl, (by show (_ : Int) ≠ 0; decide), ?_⟩
      refine ⟨_, rfl, _, _, rfl, rfl, .inr ⟨by decide, by decide⟩, _, _, rfl, rfl, (by show (_ : Int) ≠ 0; decide), _, _, rfl, rfl, ⟨by decide, by decide⟩, _, rfl, _, _, rfl, rfl, by omega, ?_⟩
      exact q _ _ (mod_lo _ _ hm0) (mod_hi _ _ hm0) (fdN _ _ (by omega) (by omega))
  ·
    refine ⟨_, rfl, _, _, rfl, rfl, ⟨by decide, by decide, by decide⟩, _, _, rfl, rfl, _, rfl, ?_⟩
    refine ite2 (fun c2 => ?_) (fun c2 => ?_)
    · refine ⟨_, rfl, _, rfl, f, _, _, _, rfl, rfl, SqL.of upd_same, rfl, c, _, rfl, .inl (SqL.of (hc1 _)), _, _, rfl, rfl, _, rfl, ?_⟩
      refine ite2 (fun c3 => ?_) (fun c3 => ?_)
      · refine ⟨_, rfl, _, rfl, _, _, rfl, rfl, ⟨by omega, by omega⟩, ?_⟩
        refine ⟨_, rfl, f, _, _, 2, rfl, rfl, upd_same, rfl, ?_⟩
        refine ⟨_, rfl, _, rfl, _, _, rfl, rfl, by omega, ?_⟩
        rw [upd_upd]
        exact q _ _ (mod_lo _ _ hm0) (mod_hi _ _ hm0) (fdN _ _ (by omega) (by omega))
      ·
        refine ⟨_, rfl, _, _, rfl, rfl, (by show (_ : Int) ≠ 0; decide), _, rfl, _, _, rfl, rfl, .inl ⟨by decide, by decide⟩, _, rfl, _, _, rfl, rfl, .inl ⟨by omega, by omega⟩, _, _, rfl, rfl, _, rfl, _, _, rfl, rfl, .inl ⟨by decide, by decide⟩, _, _, rfl, rfl, _, _, rfl, rfl, _, _, rfl, rfl, .inr ⟨by decide, by decide⟩, _, _, rfl, rfl, (by show (_ : Int) ≠ 0; decide), ?_⟩
        refine ⟨_, rfl, _, rfl, _, _, rfl, rfl, .inl ⟨Int.lt_of_lt_of_le (by decide) (mod_lo _ _ (by decide)), Int.lt_trans (mod_hi _ _ (by decide)) (by decide)⟩, _, rfl, _, _, rfl, rfl, .inl ⟨by decide, by decide⟩, _, _, rfl, rfl, _, _, rfl, rfl, _, _, rfl, rfl, (by show (_ : Int) ≠ 0; decide), ?_⟩
        refine ⟨_, rfl, _, _, rfl, rfl, .inr ⟨by decide, by decide⟩, _, _, rfl, rfl, (by show (_ : Int) ≠ 0; decide), _, _, rfl, rfl, ⟨by decide, by decide⟩, _, rfl, _, _, rfl, rfl, by omega, ?_⟩
        exact q _ _ (mod_lo _ _ hm0) (mod_hi _ _ hm0) (fdN _ _ (by omega) (by omega))
    ·
      refine ⟨_, rfl, _, _, rfl, rfl, (by show (_ : Int) ≠ 0; decide), _, rfl, _, _, rfl, rfl, .inl ⟨by decide, by decide⟩, _, rfl, _, _, rfl, rfl, .inl ⟨by omega, by omega⟩, _, _, rfl, rfl, _, rfl, _, _, rfl, rfl, .inl ⟨by decide, by decide⟩, _, _, rfl, rfl, _, _, rfl, rfl, _, _, rfl, rfl, .inr ⟨by decide, by decide⟩, _, _, rfl, rfl, (by show (_ : Int) ≠ 0; decide), ?_⟩
      refine ⟨_, rfl, _, rfl, _, _, rfl, rfl, .inl ⟨Int.lt_of_lt_of_le (by decide) (mod_lo _ _ (by decide)), Int.lt_trans (mod_hi _ _ (by decide)) (by decide)⟩, _, rfl, _, _, rfl, rfl, .inl ⟨by decide, by decide⟩, _, _, rfl, rfl, _, _, rfl, rfl, _, _, rfl, rfl, (by show (_ : Int) ≠ 0; decide), ?_⟩
      refine ⟨_, rfl, _, _, rfl, rfl, .inr ⟨by decide, by decide⟩, _, _, rfl, rfl, (by show (_ : Int) ≠ 0; decide), _, _, rfl, rfl, ⟨by decide, by decide⟩, _, rfl, _, _, rfl, rfl, by omega, ?_⟩
      exact q _ _ (mod_lo _ _ hm0) (mod_hi _ _ hm0) (fdN _ _ (by omega) (by omega))

theorem ok_lfeed (F : Fun K "_law_feed" "_law_feed" s_lfeed f_lfeed d_lfeed) (T : Txt mg f_is_number f_is_from_to f_is_word f_is_tuple_of f_is_note f_is_run f_is_runs f_is_apart f_lfeed f_ldraw f_lnames f_lat f_lrun f_llot f_lhas f_lmade f_lis_number f_lis_word f_lis_run f_lis_runs f_lis_note f_lodd f_lbent f_lmenu f_lthings f_law) :
    FnOk P w K mg base CX0 (1) f_lfeed d_lfeed ["_law_script"] (spFeed K) := by
  refine F.ok sc_lfeed (fun vs H Q E h => ?_) (fun cdv A outer s H vs Q E hr h => ?_)

  · obtain ⟨a, ns, rfl, _⟩ := h
    rfl
  obtain ⟨a, ns, rfl, hs, q⟩ := h
  refine ⟨_, (pss_one (ps_ret (pe_lst (pa_cons (pe_slice sl_list (pv 0) po_none (po_some pe_int)) (pa_cons pe_int (pa_cons pe_int pa_nil)))))), ?_⟩
  refine ⟨_, rfl, _, rfl, a, _, rfl, hs, fun c hc => ?_⟩
  have e : cutV (ns.map V.int) none (some 63) = (ns.take 63).map V.int := (cut_take _ 63).trans (List.map_take).symm
  refine ⟨(show 3 ≤ sizeLine by decide), fun f hf => ?_⟩
  have hcf : c ≠ f := ne_of_none upd_same hf
  refine q f c _ (free_of hf) ((same_new hc _).trans (same_new hf _)) ⟨ns.take 63, 0, 0, upd_same, (upd_ne hcf).trans (by rw [upd_same, e]), List.length_take_le .., Int.le_refl _, Int.le_refl _⟩

theorem ok_lnames (F : Fun K "_law_names" "_law_names" s_lnames f_lnames d_lnames) (T : Txt mg f_is_number f_is_from_to f_is_word f_is_tuple_of f_is_note f_is_run f_is_runs f_is_apart f_lfeed f_ldraw f_lnames f_lat f_lrun f_llot f_lhas f_lmade f_lis_number f_lis_word f_lis_run f_lis_runs f_lis_note f_lodd f_lbent f_lmenu f_lthings f_law)
    (F_ldraw : Fun K "_law_draw" "_law_draw" s_ldraw f_ldraw d_ldraw) (b_ldraw : Binds K d_ldraw ["_law_feed_here", "_law_many"] []) (G_ldraw : FnOk P w K mg base CX0 (1) f_ldraw d_ldraw ["_law_feed_here", "_law_many"] spDraw) :
    FnOk P w K mg base CX0 (2) f_lnames d_lnames ["_law_feed_here"] spNames := by
  refine F.ok sc_lnames (fun vs H Q E h => ?_) (fun cdv A outer s H vs Q E hr h => ?_)

  · obtain ⟨f, c, n, rfl, _⟩ := h
    rfl
  obtain ⟨f, c, n, rfl, hf, hn, q⟩ := h
  refine ⟨_, (pss_cons (ps_set (i := 1) sc_lnames.nd rfl (.inr rfl) pe_str)
  (pss_cons (ps_asg (pe_tup (pa_cons (pe_call G_ldraw hr (by rfl) T.m_ldraw F_ldraw.kp b_ldraw .nil pass0 (pa_cons (pv 0) (pa_cons pe_int pa_nil))) (pa_cons (pe_call G_ldraw hr (by rfl) T.m_ldraw F_ldraw.kp b_ldraw .nil pass0 (pa_cons (pv 0) (pa_cons pe_int pa_nil))) pa_nil))) (pg_tup rfl (pgs_cons (pg_name (i := 2) sc_lnames.nd rfl (.inl rfl)) (pgs_cons (pg_name (i := 3) sc_lnames.nd rfl (.inr rfl)) pgs_nil))))
  (pss_cons (ps_if (pt_cmpR op_eq (pv 2) pe_int (nomark _))
  (pss_one (ps_ret (pe_lc (own := [("_law_many", 4)]) (g := (gName 4)) (by rfl) sc_lnames.nd (pi_tup (pe_tup (pa_cons pe_int (pa_cons pe_int (pa_cons pe_int (pa_cons pe_int pa_nil)))))) (blkOk_by (own := [("_law_many", 4)]) (N := ["_law_feed_here", "_law_letters", "_law_way", "_law_base", "_law_many", "_law_ahead", "_law_k"]) (sc := defScope s_lnames) (by decide +kernel)) (fun _ _ _ _ _ => (pg_name (i := 4) sc_lnames.nd rfl (.inl rfl))) (fun _ _ _ _ _ => pts_nil) (fun _ _ _ _ _ => (pe_op op_repS (pe_ix ix_str (pv 1) (pv 3) (fun _ _ => rfl)) (pv 4))))))
  pss_nil)
  (pss_cons (ps_if (pt_cmpR op_eq (pv 2) pe_int (nomark _))
  (pss_cons (ps_set (i := 5) sc_lnames.nd rfl (.inr rfl) (pe_op op_repS (pe_ix ix_str (pv 1) (pe_call G_ldraw hr (by rfl) T.m_ldraw F_ldraw.kp b_ldraw .nil pass0 (pa_cons (pv 0) (pa_cons pe_int pa_nil))) (fun _ _ => rfl)) (pe_call G_ldraw hr (by rfl) T.m_ldraw F_ldraw.kp b_ldraw .nil pass0 (pa_cons (pv 0) (pa_cons pe_int pa_nil)))))
  (pss_one (ps_ret (pe_lc (own := [("_law_k", 6)]) (g := (gName 6)) (by rfl) sc_lnames.nd (pi_range1 (by rfl) T.range (pa_cons pe_int pa_nil)) (blkOk_by (own := [("_law_k", 6)]) (N := ["_law_feed_here", "_law_letters", "_law_way", "_law_base", "_law_many", "_law_ahead", "_law_k"]) (sc := defScope s_lnames) (by decide +kernel)) (fun _ _ _ _ _ => (pg_name (i := 6) sc_lnames.nd rfl (.inl rfl))) (fun _ _ _ _ _ => pts_nil) (fun _ _ _ _ _ => (pe_op op_add_str (pv 5) (pe_ix ix_str (pv 1) (pe_op op_modN (pe_op op_add (pv 3) (pe_op op_mul pe_int (pv 6))) pe_int) (fun _ _ => rfl))))))))
  pss_nil)
  (pss_one (ps_ret (pe_lst (pa_cons pe_str (pa_cons pe_str (pa_cons (pe_op op_add_str (pe_ix ix_str (pv 1) (pv 3) (fun _ _ => rfl)) pe_str) (pa_cons pe_str pa_nil))))))))))), ?_⟩
  refine ⟨_, rfl, f, c, 3, n, rfl, hf, by omega, by decide, by decide, fun w Hw w0 w1 hfw bw _ => ?_⟩
  refine ⟨_, rfl, f, c, 26, n + 1, rfl, hfw, by omega, by decide, by decide, fun d Hd d0 d1 hfd bd _ => ?_⟩
  refine ⟨(show 2 ≤ sizeLine by decide), fun tp htp => ⟨tp, _, rfl, SqT.of upd_same, rfl, _, _, rfl, _, _, rfl, rfl, ?_⟩⟩
  have fd1 := hfd.new (o := .tup [.int w, .int d]) htp
  have B1 : But f H (upd Hd tp (.tup [.int w, .int d])) := (bw.trans bd).trans (But.new htp)
  generalize hH1 : upd Hd tp (.tup [.int w, .int d]) = H1 at *
  obtain ⟨ch, hch, hch2⟩ := abc_at d d0 d1
  refine ⟨_, rfl, rfl, _, rfl, ?_⟩
  refine ite2 (fun c0 => ?_) (fun c0 => ?_)
  · refine ⟨(show 4 ≤ sizeLine by decide), fun tt htt => ⟨tt, rfl, ⟨_, SqT.of upd_same⟩, fun D hD => ?_⟩⟩
    have fd2 := fd1.new (o := .tup [.int 1, .int 2, .int 3, .int 8]) htt
    have neD := fd2.ne hD
    have ft : H1 D = none := free_of hD
    refine lc_tup (K := K) (a := tt) (xs := [(1 : Int), 2, 3, 8].map V.int) (fun i H' => Same (upd H1 tt (.tup [.int 1, .int 2, .int 3, .int 8])) H' ∧ H' D = some (.lst ((([(1 : Int), 2, 3, 8].take i).map fun k => Txt.mul ⟨#[ch]⟩ k).map V.str))) ⟨same_new hD _, upd_same⟩ (fun i H' _ h => SqT.of (h.1 _ _ upd_same)) ?_ ?_
    · rintro i x H2 hx ⟨S2, hD2⟩
      obtain ⟨k, hk, rfl⟩ : ∃ k, [(1 : Int), 2, 3, 8][i]? = some k ∧ x = V.int k := by
        rw [List.getElem?_map] at hx
        cases e : [(1 : Int), 2, 3, 8][i]? with
        | none => rw [e] at hx; cases hx
        | some p => rw [e] at hx; exact ⟨p, rfl, (Option.some.inj hx).symm⟩
      obtain ⟨hi, ek⟩ := List.getElem?_eq_some_iff.mp hk
      have kk : 0 ≤ k ∧ k < 100 := by
        have hm := List.mem_of_getElem? hk
        simp only [List.mem_cons, List.not_mem_nil, or_false] at hm
        omega
      refine ⟨rfl, _, rfl, _, rfl, abc, _, ch, rfl, rfl, (by decide +kernel), hch, _, rfl, _, _, rfl, rfl, mulk_ok ch k kk.1 kk.2, _, hD2, ?_, same_mut S2 hD, ?_⟩
      · rw [List.length_map, List.length_map, List.length_take]
        exact Nat.lt_of_le_of_lt (show _ ≤ 4 from Nat.min_le_right _ _) (by decide)
      · rw [upd_same, List.take_succ_eq_append_getElem hi, List.map_append, List.map_append, ek]
        rfl
    · rintro H2 ⟨S2, hD2⟩
      refine q D _ H2 (((fd1.new htt).same S2).mono (by omega)) ((B1.trans (But.new htt)).trans (But.of_same S2)) neD.1 neD.2 (B1.back fd1 ft) hD2 rfl fun x hx => ?_
      obtain ⟨k, hk, rfl⟩ := List.mem_map.mp hx
      have hk := List.mem_of_mem_take hk
      simp only [List.mem_cons, List.not_mem_nil, or_false] at hk
      exact mulk_nm k hch2 (by omega)
  refine ⟨_, rfl, rfl, _, rfl, ?_⟩
  refine ite2 (fun c1 => ?_) (fun c1 => ?_)
  · refine ⟨_, rfl, _, rfl, f, c, 26, n + 1 + 1, rfl, fd1, by omega, by decide, by decide, fun e He e0 e1 hfe be _ => ?_⟩
    obtain ⟨cg, hcg, hcg2⟩ := abc_at e e0 e1
    refine ⟨abc, _, cg, rfl, rfl, (by decide +kernel), hcg, ?_⟩
    refine ⟨_, rfl, f, c, 8, n + 1 + 1 + 1, rfl, hfe, by omega, by decide, by decide, fun k Hk k0 k1 hfk bk _ => ?_⟩
    refine ⟨_, _, rfl, rfl, mulk_ok cg k k0 (by omega), ?_⟩
    have B2 : But f H Hk := B1.trans (be.trans bk)
    refine ⟨4, rfl, by decide, by decide, fun D hD => ?_⟩
    have neD := hfk.ne hD
    refine lc_range (lo := 0) (n := 4) (fun i H' => ∃ xs : List Str, Same Hk H' ∧ H' D = some (.lst (xs.map V.str)) ∧ xs.length = i ∧ ∀ x ∈ xs, NmOk x) ⟨[], same_new hD _, upd_same, rfl, fun _ h => nomatch h⟩ ?_ ?_
    · rintro i H2 hi ⟨xs, S2, hD2, len, ok⟩
      have m0 := mod_lo (d + 3 * (0 + (i : Int))) 26 (by decide)
      have m1 := mod_hi (d + 3 * (0 + (i : Int))) 26 (by decide)
      obtain ⟨cc, hcc, hcc2⟩ := abc_at _ m0 m1
      refine ⟨rfl, _, rfl, _, rfl, _, rfl, _, rfl, _, _, rfl, rfl, .inl ⟨by decide, by decide⟩, _, _, rfl, rfl, _, _, rfl, rfl, (by show (26 : Int) ≠ 0; decide), abc, _, cc, rfl, rfl, (by decide +kernel), hcc, ?_⟩
      have a1 : (Txt.mul ⟨#[cg]⟩ k).length ≤ 7 ∧ ((Txt.mul ⟨#[cg]⟩ k).cps.toList.all fun c => decide (c < 16 ^ 8)) = true := ⟨len_mul_one rfl (show k ≤ ((7 : Nat) : Int) by omega), mul_chr k hcg2⟩
      have a2 := nm_sign hcc2
      refine ⟨_, _, rfl, rfl, Nat.le_trans (Nat.add_le_add a1.1 a2.1) (by decide), _, hD2, ?_, xs ++ [Txt.mul ⟨#[cg]⟩ k ++ ⟨#[cc]⟩], same_mut S2 hD, ?_, ?_, fun y hy => ?_⟩
      · rw [List.length_map, len]
        exact Nat.lt_trans hi (by decide)
      · rw [upd_same, List.map_append]
        rfl
      · rw [List.length_append, List.length_singleton, len]
      · rcases List.mem_append.mp hy with hy | hy
        · exact ok y hy
        · rw [List.mem_singleton.mp hy]
          exact nm_app a1 a2 (by decide)
    · rintro H2 ⟨xs, S2, hD2, len, ok⟩
      exact q D xs H2 ((hfk.same S2).mono (by omega)) (B2.trans (But.of_same S2)) neD.1 neD.2 (B2.back hfk hD) hD2 len ok
  · have a2 := nm_sign hch2
    have a3 : ((("a" : String) : Str)).length ≤ 1 ∧ ((("a" : String) : Str).cps.toList.all fun c => decide (c < 16 ^ 8)) = true := ⟨by decide +kernel, by decide +kernel⟩
    refine ⟨_, rfl, _, rfl, abc, _, ch, rfl, rfl, (by decide +kernel), hch, _, _, rfl, rfl, Nat.le_trans (Nat.add_le_add a2.1 a3.1) (by decide), (show 4 ≤ sizeLine by decide), fun l hl => ?_⟩
    have nel := fd1.ne hl
    refine q l [("none" : String), ("row" : String), ⟨#[ch]⟩ ++ (("a" : String) : Str), ("zzzzzzzz" : String)] _ ((fd1.new hl).mono (by omega)) (B1.trans (But.new hl)) nel.1 nel.2 (B1.back fd1 hl) upd_same rfl fun y hy => ?_
    simp only [List.mem_cons, List.not_mem_nil, or_false] at hy
    rcases hy with rfl | rfl | rfl | rfl
    · exact ⟨by decide +kernel, by decide +kernel⟩
    · exact ⟨by decide +kernel, by decide +kernel⟩
    · exact nm_app a2 a3 (by decide)
    · exact ⟨by decide +kernel, by decide +kernel⟩

theorem ok_lat (F : Fun K "_law_at" "_law_at" s_lat f_lat d_lat) (T : Txt mg f_is_number f_is_from_to f_is_word f_is_tuple_of f_is_note f_is_run f_is_runs f_is_apart f_lfeed f_ldraw f_lnames f_lat f_lrun f_llot f_lhas f_lmade f_lis_number f_lis_word f_lis_run f_lis_runs f_lis_note f_lodd f_lbent f_lmenu f_lthings f_law)
    (F_ldraw : Fun K "_law_draw" "_law_draw" s_ldraw f_ldraw d_ldraw) (b_ldraw : Binds K d_ldraw ["_law_feed_here", "_law_many"] []) (G_ldraw : FnOk P w K mg base CX0 (1) f_ldraw d_ldraw ["_law_feed_here", "_law_many"] spDraw) :
    FnOk P w K mg base CX0 (2) f_lat d_lat ["_law_feed_here", "_law_wide"] spAt := by
  refine F.ok sc_lat (fun vs H Q E h => ?_) (fun cdv A outer s H vs Q E hr h => ?_)

  · obtain ⟨f, c, m, n, rfl, _⟩ := h
    rfl
  obtain ⟨f, c, m, n, rfl, hf, hn, m0, m1, q⟩ := h
  refine ⟨_, (pss_cons (ps_set (i := 2) sc_lat.nd rfl (.inl rfl) (pe_call G_ldraw hr (by rfl) T.m_ldraw F_ldraw.kp b_ldraw .nil pass0 (pa_cons (pv 0) (pa_cons pe_int pa_nil))))
  (pss_cons (ps_if (pt_cmpR op_lt (pv 2) pe_int (nomark _))
  (pss_one (ps_ret (pe_call G_ldraw hr (by rfl) T.m_ldraw F_ldraw.kp b_ldraw .nil pass0 (pa_cons (pv 0) (pa_cons (pv 1) pa_nil)))))
  pss_nil)
  (pss_cons (ps_if (pt_cmpR op_eq (pv 2) pe_int (nomark _))
  (pss_one (ps_ret (pe_op op_sub pe_int (pe_call G_ldraw hr (by rfl) T.m_ldraw F_ldraw.kp b_ldraw .nil pass0 (pa_cons (pv 0) (pa_cons (pv 1) pa_nil))))))
  pss_nil)
  (pss_one (ps_ret (pe_op op_add (pe_op op_mul (pe_call G_ldraw hr (by rfl) T.m_ldraw F_ldraw.kp b_ldraw .nil pass0 (pa_cons (pv 0) (pa_cons (pe_op op_pow pe_int pe_int) pa_nil))) (pe_op op_pow pe_int pe_int)) (pe_call G_ldraw hr (by rfl) T.m_ldraw F_ldraw.kp b_ldraw .nil pass0 (pa_cons (pv 0) (pa_cons (pe_op op_pow pe_int pe_int) pa_nil))))))))), ?_⟩
  refine ⟨_, rfl, f, c, 4, n, rfl, hf, by omega, by decide, by decide, fun w H1 w0 w1 hf1 b1 n1 => ?_⟩
  refine ⟨_, rfl, _, _, rfl, rfl, _, rfl, ?_⟩
  refine ite2 (fun c1 => ?_) (fun c1 => ?_)
  · refine ⟨_, rfl, _, rfl, f, c, m, n + 1, rfl, hf1, by omega, m0, by omega, fun d H2 d0 d1 hf2 b2 n2 => ?_⟩
    exact q d H2 d0 (by omega) (hf2.mono (by omega)) (b1.trans b2) fun a ha => n2 a (n1 a ha)
  refine ⟨_, rfl, rfl, _, rfl, ?_⟩
  refine ite2 (fun c2 => ?_) (fun c2 => ?_)
  · refine ⟨_, rfl, _, rfl, f, c, m, n + 1, rfl, hf1, by omega, m0, by omega, fun d H2 d0 d1 hf2 b2 n2 => ⟨_, _, rfl, rfl, ?_⟩⟩
    exact q _ H2 (by omega) (by omega) (hf2.mono (by omega)) (b1.trans b2) fun a ha => n2 a (n1 a ha)
  refine ⟨_, rfl, _, _, rfl, rfl, ⟨by decide, by decide, by decide⟩, f, c, 10 ^ 5, n + 1, rfl, hf1, by omega, by decide, by decide, fun d H2 d0 d1 hf2 b2 n2 => ?_⟩
  refine ⟨_, _, rfl, rfl, ⟨by decide, by decide, by decide⟩, _, _, rfl, rfl, .inr ⟨by decide, by decide⟩, ?_⟩
  refine ⟨_, rfl, _, _, rfl, rfl, ⟨by decide, by decide, by decide⟩, f, c, 10 ^ 4, n + 1 + 1, rfl, hf2, by omega, by decide, by decide, fun e H3 e0 e1 hf3 b3 n3 => ⟨_, _, rfl, rfl, ?_⟩⟩
  have z1 : (10 : Int) ^ 5 = 100000 := by decide
  have z2 : (10 : Int) ^ 4 = 10000 := by decide
  have z3 : (10 : Int) ^ (4 : Int).toNat = 10000 := by decide
  rw [z3]
  rw [z1] at d1
  rw [z2] at e1
  exact q _ H3 (by omega) (by omega) (hf3.mono (by omega)) (b1.trans (b2.trans b3)) fun a ha => n3 a (n2 a (n1 a ha))

theorem ok_lrun (F : Fun K "_law_run" "_law_run" s_lrun f_lrun d_lrun) (T : Txt mg f_is_number f_is_from_to f_is_word f_is_tuple_of f_is_note f_is_run f_is_runs f_is_apart f_lfeed f_ldraw f_lnames f_lat f_lrun f_llot f_lhas f_lmade f_lis_number f_lis_word f_lis_run f_lis_runs f_lis_note f_lodd f_lbent f_lmenu f_lthings f_law)
    (F_ldraw : Fun K "_law_draw" "_law_draw" s_ldraw f_ldraw d_ldraw) (b_ldraw : Binds K d_ldraw ["_law_feed_here", "_law_many"] []) (G_ldraw : FnOk P w K mg base CX0 (2) f_ldraw d_ldraw ["_law_feed_here", "_law_many"] spDraw)
    (F_lat : Fun K "_law_at" "_law_at" s_lat f_lat d_lat) (b_lat : Binds K d_lat ["_law_feed_here", "_law_wide"] []) (G_lat : FnOk P w K mg base CX0 (2) f_lat d_lat ["_law_feed_here", "_law_wide"] spAt) :
    FnOk P w K mg base CX0 (3) f_lrun d_lrun ["_law_feed_here", "_law_names_here", "_law_wide"] spRun := by
  refine F.ok sc_lrun (fun vs H Q E h => ?_) (fun cdv A outer s H vs Q E hr h => ?_)

  · obtain ⟨f, c, l, m, n, xs, rfl, _⟩ := h
    rfl
  obtain ⟨f, c, l, m, n, xs, rfl, hf, hn, m0, m1, hl, lf, x0, x1, q⟩ := h
  refine ⟨_, (pss_cons (ps_set (i := 3) sc_lrun.nd rfl (.inl rfl) (pe_call G_lat hr (by rfl) T.m_lat F_lat.kp b_lat .nil pass0 (pa_cons (pv 0) (pa_cons (pv 2) pa_nil))))
  (pss_cons (ps_set (i := 4) sc_lrun.nd rfl (.inl rfl) (pe_call G_ldraw hr (by rfl) T.m_ldraw F_ldraw.kp b_ldraw .nil pass0 (pa_cons (pv 0) (pa_cons pe_int pa_nil))))
  (pss_cons (ps_set (i := 5) sc_lrun.nd rfl (.inl rfl) (pe_op op_mul (pe_call G_ldraw hr (by rfl) T.m_ldraw F_ldraw.kp b_ldraw .nil pass0 (pa_cons (pv 0) (pa_cons (pe_ix ix_list (pe_lst (pa_cons pe_int (pa_cons (pv 2) (pa_cons (pe_op op_pow pe_int pe_int) pa_nil)))) (pv 4) (fun _ _ => rfl)) pa_nil))) (pe_ix ix_list (pe_lst (pa_cons pe_int (pa_cons pe_int (pa_cons (pe_op op_pow pe_int pe_int) pa_nil)))) (pv 4) (fun _ _ => rfl))))
  (pss_one (ps_ret (pe_tup (pa_cons (pe_ix ix_list (pv 1) (pe_call G_ldraw hr (by rfl) T.m_ldraw F_ldraw.kp b_ldraw .nil pass0 (pa_cons (pv 0) (pa_cons (pe_callB call_len_seq (by rfl) T.len (by decide +kernel) (pa_cons (pv 1) pa_nil)) pa_nil))) (fun _ _ => rfl)) (pa_cons (pv 3) (pa_cons (pe_callB (call_min2 rfl) (by rfl) T.min (by decide +kernel) (pa_cons (pe_op op_pow pe_int pe_int) (pa_cons (pe_op op_add (pe_op op_add (pv 3) pe_int) (pv 5)) pa_nil))) pa_nil))))))))), ?_⟩
  refine ⟨_, rfl, _, rfl, f, c, m, n, rfl, hf, by omega, m0, m1, fun d H1 d0 d1 hf1 b1 n1 => ?_⟩
  refine ⟨_, rfl, f, c, 3, n + 4, rfl, hf1, by omega, by decide, by decide, fun w H2 w0 w1 hf2 b2 n2 => ?_⟩
  have B2 : But f H H2 := b1.trans b2
  refine ⟨_, rfl, _, rfl, _, _, rfl, rfl, ⟨by decide, by decide, by decide⟩, (show 3 ≤ sizeLine by decide), fun la hla => ?_⟩
  obtain ⟨k, k0, k1, ak⟩ : ∃ k : Int, 0 < k ∧ k ≤ 1000000 ∧ atI [V.int 4, .int m, .int (10 ^ 5)] w = some (.int k) := by
    rcases (show w = 0 ∨ w = 1 ∨ w = 2 by omega) with rfl | rfl | rfl
    · exact ⟨4, by decide, by decide, rfl⟩
    · exact ⟨m, m0, m1, rfl⟩
    · exact ⟨10 ^ 5, by decide, by decide, rfl⟩
  refine ⟨_, rfl, la, _, _, _, rfl, rfl, SqL.of upd_same, ak, f, c, k, n + 4 + 1, rfl, hf2.new hla, by omega, k0, by omega, fun e H3 e0 e1 hf3 b3 n3 => ?_⟩
  refine ⟨_, _, rfl, rfl, ⟨by decide, by decide, by decide⟩, (show 3 ≤ sizeLine by decide), fun lb hlb => ?_⟩
  obtain ⟨z, z0, z1, az⟩ : ∃ z : Int, 0 < z ∧ z ≤ 10000 ∧ atI [V.int 1, .int 1, .int (10 ^ 4)] w = some (.int z) := by
    rcases (show w = 0 ∨ w = 1 ∨ w = 2 by omega) with rfl | rfl | rfl
    · exact ⟨1, by decide, by decide, rfl⟩
    · exact ⟨1, by decide, by decide, rfl⟩
    · exact ⟨10 ^ 4, by decide, by decide, rfl⟩
  have B3 : But f H H3 := B2.trans ((But.new hla).trans b3)
  have ez : 0 ≤ e * z := Int.mul_nonneg e0 (by omega)
  refine ⟨_, rfl, lb, _, _, _, rfl, rfl, SqL.of upd_same, az, _, _, rfl, rfl, .inr ⟨by omega, by omega⟩, ?_⟩
  have B4 : But f H (upd H3 lb (.lst [.int 1, .int 1, .int (10 ^ 4)])) := B3.trans (But.new hlb)
  have fd4 := hf3.new (o := .lst [.int 1, .int 1, .int (10 ^ 4)]) hlb
  refine ⟨_, rfl, _, rfl, _, rfl, l, _, rfl, .inl (SqL.of (B4 _ _ lf hl)), f, c, _, n + 4 + 1 + 1, rfl, fd4, by omega, ?_, ?_, fun i H5 i0 i1 hf5 b5 n5 => ?_⟩
  · rw [List.length_map]
    omega
  · rw [List.length_map]
    omega
  have B5 := B4.trans b5
  obtain ⟨nm, nm1, nm2⟩ := pick_str i0 i1
  refine ⟨l, _, _, _, rfl, rfl, SqL.of (B5 _ _ lf hl), nm2, ?_⟩
  refine ⟨_, rfl, _, _, rfl, rfl, ⟨by decide, by decide, by decide⟩, _, rfl, _, _, rfl, rfl, _, rfl, _, _, rfl, rfl, _, _, rfl, (show 3 ≤ sizeLine by decide), fun t ht => ?_⟩
  have z9 : (10 : Int) ^ Int.toNat 9 = 1000000000 := by decide
  refine q t (nm, d, if d + 1 + e * z < 10 ^ Int.toNat 9 then d + 1 + e * z else 10 ^ Int.toNat 9) _ ((hf5.new ht).mono (by omega)) (B5.trans (But.new ht)) (B5.back hf5 ht) upd_same ⟨d0, ?_, ?_⟩ nm1
  · show d < if d + 1 + e * z < 10 ^ Int.toNat 9 then d + 1 + e * z else 10 ^ Int.toNat 9
    rw [z9]
    split <;> omega
  · show (if d + 1 + e * z < 10 ^ Int.toNat 9 then d + 1 + e * z else 10 ^ Int.toNat 9) ≤ _
    rw [z9]
    split <;> omega

theorem ok_llot (F : Fun K "_law_lot" "_law_lot" s_llot f_llot d_llot) (T : Txt mg f_is_number f_is_from_to f_is_word f_is_tuple_of f_is_note f_is_run f_is_runs f_is_apart f_lfeed f_ldraw f_lnames f_lat f_lrun f_llot f_lhas f_lmade f_lis_number f_lis_word f_lis_run f_lis_runs f_lis_note f_lodd f_lbent f_lmenu f_lthings f_law)
    (F_ldraw : Fun K "_law_draw" "_law_draw" s_ldraw f_ldraw d_ldraw) (b_ldraw : Binds K d_ldraw ["_law_feed_here", "_law_many"] []) (G_ldraw : FnOk P w K mg base CX0 (3) f_ldraw d_ldraw ["_law_feed_here", "_law_many"] spDraw)
    (F_lrun : Fun K "_law_run" "_law_run" s_lrun f_lrun d_lrun) (b_lrun : Binds K d_lrun ["_law_feed_here", "_law_names_here", "_law_wide"] []) (G_lrun : FnOk P w K mg base CX0 (3) f_lrun d_lrun ["_law_feed_here", "_law_names_here", "_law_wide"] spRun) :
    FnOk P w K mg base CX0 (4) f_llot d_llot ["_law_feed_here", "_law_names_here", "_law_wide", "_law_most"] spLot := by
  refine F.ok sc_llot (fun vs H Q E h => ?_) (fun cdv A outer s H vs Q E hr h => ?_)

  · obtain ⟨f, c, l, m, k, n, xs, rfl, _⟩ := h
    rfl
  obtain ⟨f, c, l, m, k, n, xs, rfl, hf, hn, m0, m1, k0, k1, hl, lf, x0, x1, q⟩ := h
  refine ⟨_, (pss_cons (ps_setLc (i := 4) (own := [("_law_k", 5)]) (g := (gName 5)) (by rfl) sc_llot.nd rfl rfl (sw_true rfl rfl rfl (by decide +kernel)) (pi_range1 (by rfl) T.range (pa_cons (pe_call G_ldraw hr (by rfl) T.m_ldraw F_ldraw.kp b_ldraw .nil pass0 (pa_cons (pv 0) (pa_cons (pe_op op_sub (pv 3) pe_int) pa_nil))) pa_nil)) (blkOk_by (own := [("_law_k", 5)]) (N := ["_law_feed_here", "_law_names_here", "_law_wide", "_law_most", "_law_lot_here", "_law_k", "_law_series", "_law_first", "_law_end"]) (sc := defScope s_llot) (by decide +kernel)) (fun _ _ _ _ _ => (pg_name (i := 5) sc_llot.nd rfl (.inl rfl))) (fun _ _ _ _ _ => pts_nil) (fun _ _ _ _ _ => (pe_call G_lrun hr (by rfl) T.m_lrun F_lrun.kp b_lrun .nil pass0 (pa_cons (pv 0) (pa_cons (pv 1) (pa_cons (pv 2) pa_nil))))))
  (pss_cons (ps_for PassesOwn.never rfl (pi_range1 (by rfl) T.range (pa_cons (pe_op op_mul pe_int (pe_callTy call_int1 (by rfl) T.int (by decide +kernel) (pa_cons (pe_cmpR op_gt (pe_callB call_len_seq (by rfl) T.len (by decide +kernel) (pa_cons (pv 4) pa_nil)) pe_int (nomark _)) pa_nil))) pa_nil)) (pg_name (i := 5) sc_llot.nd rfl (.inl rfl))
  (pss_cons (ps_asg (pe_ix ix_list (pv 4) (pe_call G_ldraw hr (by rfl) T.m_ldraw F_ldraw.kp b_ldraw .nil pass0 (pa_cons (pv 0) (pa_cons (pe_callB call_len_seq (by rfl) T.len (by decide +kernel) (pa_cons (pv 4) pa_nil)) pa_nil))) (fun _ _ => rfl)) (pg_tup rfl (pgs_cons (pg_name (i := 6) sc_llot.nd rfl (.inl rfl)) (pgs_cons (pg_name (i := 7) sc_llot.nd rfl (.inl rfl)) (pgs_cons (pg_name (i := 8) sc_llot.nd rfl (.inl rfl)) pgs_nil)))))
  (pss_one (ps_expr (pe_bm PySem.F.plainAttrs_list PySem.F.slot_list_append PySem.F.type_list_append mt_append (pv 4) (pa_cons (pe_ix ix_list (pe_lst (pa_cons (pe_tup (pa_cons (pv 6) (pa_cons (pv 7) (pa_cons (pv 8) pa_nil)))) (pa_cons (pe_tup (pa_cons (pv 6) (pa_cons (pv 8) (pa_cons (pe_callB (call_min2 rfl) (by rfl) T.min (by decide +kernel) (pa_cons (pe_op op_pow pe_int pe_int) (pa_cons (pe_op op_add (pv 8) pe_int) pa_nil))) pa_nil)))) pa_nil))) (pe_callTy call_int1 (by rfl) T.int (by decide +kernel) (pa_cons (pe_cmpR op_lt (pv 8) (pe_op op_pow pe_int pe_int) (nomark _)) pa_nil)) (fun _ _ => rfl)) pa_nil))))))
  (pss_one (ps_ret (pv 4))))), ?_⟩
  refine ⟨_, rfl, _, rfl, _, _, rfl, rfl, f, c, _, n, rfl, hf, by omega, by omega, by omega, fun d H1 d0 d1 hf1 b1 n1 => ?_⟩
  refine ⟨d, rfl, by omega, by omega, fun D hD => ?_⟩
  have neD := hf1.ne hD
  have hl1 := b1 _ _ lf hl
  have lD : l ≠ D := ne_of_none hl1 hD
  refine lc_range (lo := 0) (n := d.toNat) (fun i H' => ∃ (ps : List Addr) (rs : List Rn), Fd H' f c (n + 1 + 8 * i) ∧ But f H1 H' ∧ H' D = some (.lst (ps.map V.ref)) ∧ Prd H' ps rs ∧ rs.length = i ∧ ∀ r ∈ rs, RnOk r ∧ r.1 ∈ xs) ?_ ?_ ?_
  · exact ⟨[], [], (hf1.new hD).mono (by omega), But.new hD, upd_same, .nil, rfl, fun _ h => nomatch h⟩
  · rintro i H2 hi ⟨ps, rs, hf2, b2, hD2, hp, len, ok⟩
    refine ⟨rfl, _, rfl, _, rfl, _, rfl, f, c, l, m, _, xs, rfl, hf2, by omega, m0, m1, b2 _ _ lf hl1, lf, x0, x1, fun t r H3 hf3 b3 nt ht okr inr => ?_⟩
    have hD3 := b3 _ _ neD.1 hD2
    have hp3 := hp.but hf2 b3
    refine ⟨_, hD3, ?_, ps ++ [t], rs ++ [r], (hf3.upd neD).mono (by omega), (b2.trans b3).mut hD, ?_, ?_, ?_, fun u hu => ?_⟩
    · rw [List.length_map, hp.len, len]
      exact Nat.lt_trans (show _ < 100 by omega) (by decide)
    · rw [upd_same, List.map_append]
      rfl
    · exact Prd.put hD3 (Prd.app hp3 (Prd.one ht))
    · rw [List.length_append, List.length_singleton, len]
    · rcases List.mem_append.mp hu with hu | hu
      · exact ok u hu
      · rw [List.mem_singleton.mp hu]
        exact ⟨okr, inr⟩
  · rintro H2 ⟨ps, rs, hf2, b2, hD2, hp, len, ok⟩
    refine ⟨_, rfl, D, _, rfl, .inl (SqL.of hD2), _, _, rfl, rfl, ?_⟩
    have jj : (2 * (if decide (0 < (((ps.map V.ref).length : Nat) : Int)) = true then 1 else 0) : Int) = if 0 < d.toNat then 2 else 0 := by
      rw [List.length_map, hp.len, len]
      by_cases z : 0 < d.toNat
      · rw [if_pos z, if_pos (decide_eq_true (by omega))]
        rfl
      · rw [if_neg z, if_neg (by rw [decide_eq_true_eq]; omega)]
        rfl
    refine .inr ⟨_, rfl, _, _, rfl, rfl, .inl ⟨by decide, by decide⟩, _, rfl, ?_, ?_, ?_⟩
    · rw [jj]
      split <;> decide
    · rw [jj]
      split <;> decide
    rw [jj]
    have j2 : (if 0 < d.toNat then (2 : Int) else 0).toNat ≤ 2 := by split <;> decide
    refine for_range (lo := 0) (n := (if 0 < d.toNat then (2 : Int) else 0).toNat) (fun i σ H' => ∃ (ps : List Addr) (rs : List Rn) (v5 v6 v7 v8 : Option V), σ = [some (.ref f), some (.ref l), some (.int m), some (.int k), some (.ref D), v5, v6, v7, v8] ∧ Fd H' f c (n + 1 + 8 * d.toNat + i) ∧ But f H1 H' ∧ H' D = some (.lst (ps.map V.ref)) ∧ Prd H' ps rs ∧ rs.length = d.toNat + i ∧ ∀ r ∈ rs, RnOk r ∧ r.1 ∈ xs) ?_ ?_ ?_
    · exact ⟨ps, rs, none, none, none, none, rfl, hf2.mono (by omega), b2, hD2, hp, len, ok⟩
    · rintro i σ H3 hi ⟨ps, rs, v5, v6, v7, v8, rfl, hf3, b3, hD3, hp3, len3, ok3⟩
      have pos : 0 < d.toNat := by
        by_cases z : 0 < d.toNat
        · exact z
        · rw [if_neg z] at hi
          exact absurd hi (Nat.not_lt_zero _)
      refine ⟨_, rfl, _, rfl, _, rfl, D, _, rfl, .inl (SqL.of hD3), f, c, _, _, rfl, hf3, by omega, ?_, ?_, fun e H4 e0 e1 hf4 b4 _ => ?_⟩
      · rw [List.length_map, hp3.len]
        omega
      · rw [List.length_map, hp3.len]
        omega
      have hD4 := b4 _ _ neD.1 hD3
      have hp4 := hp3.but hf3 b4
      obtain ⟨p, r, inr, atp, hp⟩ := pick_ref hp4 e0 e1
      refine ⟨D, _, _, _, rfl, rfl, SqL.of hD4, atp, p, _, rfl, SqT.of hp, rfl, _, _, rfl, _, _, rfl, _, _, rfl, rfl, ?_⟩
      obtain ⟨⟨r0, r1, r2⟩, rn⟩ := ok3 r inr
      have z9 : (10 : Int) ^ Int.toNat 9 = 1000000000 := by decide
      refine ⟨_, rfl, .inl ⟨rfl, _, SqL.of hD4⟩, _, rfl, _, rfl, _, rfl, (show 3 ≤ sizeLine by decide), fun t1 h1 => ?_⟩
      refine ⟨_, rfl, _, rfl, _, _, rfl, rfl, ⟨by decide, by decide, by decide⟩, _, rfl, _, _, rfl, rfl, _, _, rfl, (show 3 ≤ sizeLine by decide), fun t2 h2 => ⟨(show 2 ≤ sizeLine by decide), fun t3 h3 => ?_⟩⟩
      have N1 := same_new h1 (.tup [.str r.1, .int r.2.1, .int r.2.2])
      have N2 := same_new h2 (.tup [.str r.1, .int r.2.2, .int (if r.2.2 + 3 < 10 ^ Int.toNat 9 then r.2.2 + 3 else 10 ^ Int.toNat 9)])
      have N3 := same_new h3 (.lst [.ref t1, .ref t2])
      have N := N1.trans (N2.trans N3)
      have l5 : upd (upd (upd H4 t1 (.tup [.str r.1, .int r.2.1, .int r.2.2])) t2 (.tup [.str r.1, .int r.2.2, .int (if r.2.2 + 3 < 10 ^ Int.toNat 9 then r.2.2 + 3 else 10 ^ Int.toNat 9)])) t3 (.lst [.ref t1, .ref t2]) t3 = some (.lst [.ref t1, .ref t2]) := upd_same
      have e1 := (N2.trans N3) _ _ (upd_same (H := H4) (a := t1) (o := .tup [.str r.1, .int r.2.1, .int r.2.2]))
      have e2 := N3 _ _ (upd_same (a := t2) (o := .tup [.str r.1, .int r.2.2, .int (if r.2.2 + 3 < 10 ^ Int.toNat 9 then r.2.2 + 3 else 10 ^ Int.toNat 9)]))
      generalize upd (upd (upd H4 t1 (.tup [.str r.1, .int r.2.1, .int r.2.2])) t2 (.tup [.str r.1, .int r.2.2, .int (if r.2.2 + 3 < 10 ^ Int.toNat 9 then r.2.2 + 3 else 10 ^ Int.toNat 9)])) t3 (.lst [.ref t1, .ref t2]) = H5 at *
      obtain ⟨t, u, at5, ht5, oku⟩ : ∃ (t : Addr) (u : Rn), atI [V.ref t1, .ref t2] (if decide (r.2.2 < 10 ^ Int.toNat 9) = true then 1 else 0) = some (.ref t) ∧ H5 t = some (.tup (rnV u)) ∧ RnOk u ∧ u.1 ∈ xs := by
        by_cases z : r.2.2 < 10 ^ Int.toNat 9
        · rw [if_pos (decide_eq_true z)]
          refine ⟨t2, (r.1, r.2.2, if r.2.2 + 3 < 10 ^ Int.toNat 9 then r.2.2 + 3 else 10 ^ Int.toNat 9), rfl, e2, ⟨by show 0 ≤ r.2.2; omega, ?_, ?_⟩, rn⟩
          · show r.2.2 < if r.2.2 + 3 < 10 ^ Int.toNat 9 then r.2.2 + 3 else 10 ^ Int.toNat 9
            rw [z9] at *
            split <;> omega
          · show (if r.2.2 + 3 < 10 ^ Int.toNat 9 then r.2.2 + 3 else 10 ^ Int.toNat 9) ≤ _
            rw [z9]
            split <;> omega
        · rw [if_neg (by rw [decide_eq_true_eq]; exact z)]
          exact ⟨t1, r, rfl, e1, ⟨r0, r1, r2⟩, rn⟩
      have hD5 := N _ _ hD4
      refine ⟨_, rfl, _, _, rfl, rfl, ⟨by decide, by decide, by decide⟩, _, _, rfl, rfl, .inr ⟨_, rfl, t3, _, _, _, rfl, rfl, SqL.of l5, at5, D, _, _, rfl, rfl, hD5, ?_, ?_⟩⟩
      · rw [List.length_map, hp3.len, len3]
        exact Nat.lt_trans (show _ < 100 by omega) (by decide)
      · refine ⟨ps ++ [t], rs ++ [u], _, _, _, _, rfl, ((hf4.same N).upd neD).mono (by omega), ((b3.trans b4).trans (But.of_same N)).mut hD, ?_, Prd.put hD5 (Prd.app (Prd.same N hp4) (Prd.one ht5)), ?_, fun y hy => ?_⟩
        · rw [upd_same, List.map_append]
          rfl
        · rw [List.length_append, List.length_singleton, len3]
          omega
        · rcases List.mem_append.mp hy with hy | hy
          · exact ok3 y hy
          · rw [List.mem_singleton.mp hy]
            exact oku
    · rintro σ H3 ⟨ps, rs, v5, v6, v7, v8, rfl, hf3, b3, hD3, hp3, len3, ok3⟩
      exact ⟨_, rfl, q D ps rs H3 (hf3.mono (by omega)) (b1.trans b3) neD.1 neD.2 (b1.back hf1 hD) hD3 hp3 (by omega) (by omega) ok3⟩

theorem ok_lhas (F : Fun K "_law_has" "_law_has" s_lhas f_lhas d_lhas) (T : Txt mg f_is_number f_is_from_to f_is_word f_is_tuple_of f_is_note f_is_run f_is_runs f_is_apart f_lfeed f_ldraw f_lnames f_lat f_lrun f_llot f_lhas f_lmade f_lis_number f_lis_word f_lis_run f_lis_runs f_lis_note f_lodd f_lbent f_lmenu f_lthings f_law) :
    FnOk P w K mg base CX0 (1) f_lhas d_lhas ["_law_runs", "_law_series", "_law_number"] (spHas K) := by
  refine F.ok sc_lhas (fun vs H Q E h => ?_) (fun cdv A outer s H vs Q E hr h => ?_)

  · obtain ⟨b, a, s, n, ps, rs, rfl, _⟩ := h
    rfl
  obtain ⟨b, a, s, n, ps, rs, rfl, hs, hp, hz, q⟩ := h
  refine ⟨_, (pss_one (ps_ret (pe_callB (cr_any rfl) (by rfl) T.any (by decide +kernel) (pa_cons (pe_lc (own := [("_law_one", 3), ("_law_first", 4), ("_law_end", 5)]) (g := (gTup K 3 (gCons (gName 3) (gCons (gName 4) (gCons (gName 5) gNil))))) (by rfl) sc_lhas.nd (pi_seq (pv 0)) (blkOk_by (own := [("_law_one", 3), ("_law_first", 4), ("_law_end", 5)]) (N := ["_law_runs", "_law_series", "_law_number", "_law_one", "_law_first", "_law_end"]) (sc := defScope s_lhas) (by decide +kernel)) (fun _ _ _ _ _ => (pg_tup rfl (pgs_cons (pg_name (i := 3) sc_lhas.nd rfl (.inl rfl)) (pgs_cons (pg_name (i := 4) sc_lhas.nd rfl (.inl rfl)) (pgs_cons (pg_name (i := 5) sc_lhas.nd rfl (.inl rfl)) pgs_nil))))) (fun _ _ _ _ _ => pts_nil) (fun _ _ _ _ _ => (pe_and (pe_cmpR op_eq (pv 3) (pv 1) (nomark _)) (pe_one (pe_chain op_le op_lt (pv 4) (pv 2) (pv 5)))))) pa_nil)))), ?_⟩
  refine ⟨b, _, rfl, a, rfl, ⟨_, hs⟩, fun D hD => ?_⟩
  refine lc_it (walk_seq (b := b) (K := K) (a := a) (xs := ps.map V.ref)) (fun i H' => Same H H' ∧ H' D = some (.lst (((rs.take i).map fun r => decide (r.1 = s) && (decide (r.2.1 ≤ n) && decide (n < r.2.2))).map V.bl))) ⟨same_new hD _, upd_same⟩ (fun i H' _ h => SqB.sm h.1 hs) ?_ ?_
  · rintro i x H1 H2 hi ⟨S1, hD1⟩ ⟨rfl, hx⟩
    obtain ⟨u, hu, rfl⟩ : ∃ u, ps[i]? = some u ∧ x = V.ref u := by
      rw [List.getElem?_map] at hx
      cases e : ps[i]? with
      | none => rw [e] at hx; cases hx
      | some p => rw [e] at hx; exact ⟨p, rfl, (Option.some.inj hx).symm⟩
    obtain ⟨r, hr1, hr2⟩ := Prd.get hp hu
    obtain ⟨hi2, ek⟩ := List.getElem?_eq_some_iff.mp hr1
    refine ⟨u, _, rfl, SqT.of (S1 _ _ hr2), rfl, _, _, rfl, _, _, rfl, _, _, rfl, rfl, rfl, ?_⟩
    refine ⟨_, rfl, _, rfl, rfl, _, rfl, ?_⟩
    have lt : (((rs.take i).map fun r => decide (r.1 = s) && (decide (r.2.1 ≤ n) && decide (n < r.2.2))).map V.bl).length < sizeLine := by
      rw [List.length_map, List.length_map, List.length_take]
      exact Nat.lt_of_le_of_lt (Nat.le_trans (Nat.min_le_right _ _) hz) (by decide)
    have fin : ∀ b : Bool, b = (decide (r.1 = s) && (decide (r.2.1 ≤ n) && decide (n < r.2.2))) → Same H (upd H2 D (.lst ((((rs.take i).map fun r => decide (r.1 = s) && (decide (r.2.1 ≤ n) && decide (n < r.2.2))).map V.bl) ++ [.bl b]))) ∧ upd H2 D (.lst ((((rs.take i).map fun r => decide (r.1 = s) && (decide (r.2.1 ≤ n) && decide (n < r.2.2))).map V.bl) ++ [.bl b])) D = some (.lst (((rs.take (i + 1)).map fun r => decide (r.1 = s) && (decide (r.2.1 ≤ n) && decide (n < r.2.2))).map V.bl)) := fun b hb => by
      refine ⟨same_mut S1 hD, ?_⟩
      rw [upd_same, List.take_succ_eq_append_getElem hi2, List.map_append, List.map_append, ek, hb]
      rfl
    refine ite2 (fun c1 => ?_) (fun c1 => ?_)
    · have e1 : decide (r.1 = s) = true := decide_eq_true (V.str.inj (of_decide_eq_true c1))
      refine ⟨_, rfl, _, rfl, _, _, rfl, rfl, _, rfl, ?_⟩
      refine ite2 (fun c2 => ?_) (fun c2 => ?_)
      · refine ⟨_, rfl, _, _, rfl, rfl, _, hD1, lt, fin _ ?_⟩
        rw [e1, c2]
        rfl
      · refine ⟨_, hD1, lt, fin _ ?_⟩
        rw [e1, Bool.eq_false_iff.mpr c2]
        rfl
    · have e1 : decide (r.1 = s) = false := decide_eq_false fun z => c1 (decide_eq_true (congrArg V.str z))
      refine ⟨_, hD1, lt, fin _ ?_⟩
      rw [e1]
      rfl
  · rintro H1 ⟨S1, hD1⟩
    rw [List.length_map, hp.len, List.take_length] at hD1
    refine ⟨D, _, rfl, SqL.of hD1, ?_⟩
    have e : ((rs.map fun r => decide (r.1 = s) && (decide (r.2.1 ≤ n) && decide (n < r.2.2))).any _root_.id) = hasB rs s n := by
      unfold hasB
      rw [List.any_map]
      rfl
    rw [e]
    exact q H1 S1

theorem ok_lmade (F : Fun K "_law_made" "_law_made" s_lmade f_lmade d_lmade) (T : Txt mg f_is_number f_is_from_to f_is_word f_is_tuple_of f_is_note f_is_run f_is_runs f_is_apart f_lfeed f_ldraw f_lnames f_lat f_lrun f_llot f_lhas f_lmade f_lis_number f_lis_word f_lis_run f_lis_runs f_lis_note f_lodd f_lbent f_lmenu f_lthings f_law)
    (F_lhas : Fun K "_law_has" "_law_has" s_lhas f_lhas d_lhas) (b_lhas : Binds K d_lhas ["_law_runs", "_law_series", "_law_number"] []) (G_lhas : FnOk P w K mg base CX0 (1) f_lhas d_lhas ["_law_runs", "_law_series", "_law_number"] (spHas K)) :
    FnOk P w K mg base CX0 (2) f_lmade d_lmade ["_law_lots", "_law_rule"] (spMade K) := by
  refine F.ok sc_lmade (fun vs H Q E h => ?_) (fun cdv A outer s H vs Q E hr h => ?_)

  · obtain ⟨l, ls, rfl, _⟩ := h
    rfl
  obtain ⟨l, ls, rfl, hs, hls, ls0, ls3, full, q⟩ := h
  refine ⟨_, (pss_cons (ps_set (i := 2) sc_lmade.nd rfl (.inl rfl) (pe_lst pa_nil))
  (pss_cons (ps_set (i := 3) sc_lmade.nd rfl (.inl rfl) (pe_lst pa_nil))
  (pss_cons (ps_for PassesOwn.never rfl (pi_list (pv 0)) (pg_name (i := 4) sc_lmade.nd rfl (.inl rfl))
  (pss_cons (ps_expr (pe_bm PySem.F.plainAttrs_list PySem.F.slot_list_extend PySem.F.type_list_extend mt_extend (pv 2) (pa_cons (pe_lc (own := [("_law_run_here", 5)]) (g := (gName 5)) (by rfl) sc_lmade.nd (pi_seq (pv 4)) (blkOk_by (own := [("_law_run_here", 5)]) (N := ["_law_lots", "_law_rule", "_law_names_here", "_law_ends", "_law_lot_here", "_law_run_here", "_law_cuts", "_law_found", "_law_series", "_law_begin", "_law_end", "_law_truths", "_law_good"]) (sc := defScope s_lmade) (by decide +kernel)) (fun _ _ _ _ _ => (pg_name (i := 5) sc_lmade.nd rfl (.inl rfl))) (fun _ _ _ _ _ => pts_nil) (fun _ _ _ _ _ => (pe_ix (show IxR _ (rIxT K) from ix_tup) (pv 5) pe_int (fun _ _ => rfl)))) pa_nil)))
  (pss_one (ps_for PassesOwn.never rfl (pi_seq (pv 4)) (pg_name (i := 5) sc_lmade.nd rfl (.inl rfl))
  (pss_one (ps_expr (pe_bm PySem.F.plainAttrs_list PySem.F.slot_list_extend PySem.F.type_list_extend mt_extend (pv 3) (pa_cons (pe_lst (pa_cons (pe_ix ix_tup (pv 5) pe_int (fun _ _ => rfl)) (pa_cons (pe_ix ix_tup (pv 5) pe_int (fun _ _ => rfl)) pa_nil))) pa_nil))))))))
  (pss_cons (ps_set (i := 6) sc_lmade.nd rfl (.inl rfl) (pe_callB (cr_sortSI hr rfl) (by rfl) T.sorted (by decide +kernel) (pa_cons (pe_callTy (cr_setOf rfl) (by rfl) T.set (by decide +kernel) (pa_cons (pv 3) pa_nil)) pa_nil)))
  (pss_cons (ps_set (i := 7) sc_lmade.nd rfl (.inl rfl) (pe_lst pa_nil))
  (pss_cons (ps_for PassesOwn.never rfl (pi_list (pe_callB (cr_sortSS hr rfl) (by rfl) T.sorted (by decide +kernel) (pa_cons (pe_callTy (cr_setOf rfl) (by rfl) T.set (by decide +kernel) (pa_cons (pv 2) pa_nil)) pa_nil))) (pg_name (i := 8) sc_lmade.nd rfl (.inr rfl))
  (pss_one (ps_for PassesOwn.never rfl (RZ.pi_zipA (by rfl) T.zip (pa_cons (pv 6) (pa_cons (pe_slice sl_list (pv 6) (po_some pe_int) po_none) pa_nil))) (pg_tup rfl (pgs_cons (pg_name (i := 9) sc_lmade.nd rfl (.inr rfl)) (pgs_cons (pg_name (i := 10) sc_lmade.nd rfl (.inl rfl)) pgs_nil)))
  (pss_cons (ps_setLc (i := 11) (own := [("_law_lot_here", 4)]) (g := (gName 4)) (by rfl) sc_lmade.nd rfl rfl (sw_true rfl rfl rfl (by decide +kernel)) (pi_list (pv 0)) (blkOk_by (own := [("_law_lot_here", 4)]) (N := ["_law_lots", "_law_rule", "_law_names_here", "_law_ends", "_law_lot_here", "_law_run_here", "_law_cuts", "_law_found", "_law_series", "_law_begin", "_law_end", "_law_truths", "_law_good"]) (sc := defScope s_lmade) (by decide +kernel)) (fun _ _ _ _ _ => (pg_name (i := 4) sc_lmade.nd rfl (.inl rfl))) (fun _ _ _ _ _ => pts_nil) (fun _ _ _ _ _ => (pe_call G_lhas hr (by rfl) T.m_lhas F_lhas.kp b_lhas .nil pass0 (pa_cons (pv 4) (pa_cons (pv 8) (pa_cons (pv 9) pa_nil))))))
  (C8.pss_cut (ps_set (i := 12) sc_lmade.nd rfl (.inl rfl) (pe_dget (hu_of hr) (pe_disp (pps_cons pe_str (pe_callB (cr_any rfl) (by rfl) T.any (by decide +kernel) (pa_cons (pv 11) pa_nil)) (pps_cons pe_str (pe_callB (cr_all rfl) (by rfl) T.all (by decide +kernel) (pa_cons (pv 11) pa_nil)) (pps_cons pe_str (pe_and (pe_ix ix_list (pv 11) pe_int (fun _ _ => rfl)) (pe_one (pe_not (pe_callB (cr_any rfl) (by rfl) T.any (by decide +kernel) (pa_cons (pe_slice sl_list (pv 11) (po_some pe_int) po_none) pa_nil))))) pps_nil))) (by rfl) (by rfl) (fun z => by cases z) (by decide)) (pv 1) (fun _ _ => rfl)))
  (pss_one (ps_if (PW.pt (pw_and (pt_val (pv 12)) (pw_and (pt_cmpR op_gt (pe_callB call_len_seq (by rfl) T.len (by decide +kernel) (pa_cons (pv 7) pa_nil)) pe_int (nomark _)) (pw_and (pt_cmpR op_eq (pe_ix ix_tup (pe_ix ix_list (pv 7) (pe_un un_neg pe_int) (fun _ _ => rfl)) pe_int (fun _ _ => rfl)) (pv 8) (nomark _)) (pw_and1 (pt_cmpR op_eq (pe_ix ix_tup (pe_ix ix_list (pv 7) (pe_un un_neg pe_int) (fun _ _ => rfl)) pe_int (fun _ _ => rfl)) (pv 9) (nomark _)))))))
  (pss_one (ps_asg (pe_tup (pa_cons (pv 8) (pa_cons (pe_ix ix_tup (pe_ix ix_list (pv 7) (pe_un un_neg pe_int) (fun _ _ => rfl)) pe_int (fun _ _ => rfl)) (pa_cons (pv 10) pa_nil)))) (pg_sub (pv 7) (pe_un un_neg pe_int) set_list)))
  (pss_one (ps_if (pt_val (pv 12))
  (pss_one (ps_expr (pe_bm PySem.F.plainAttrs_list PySem.F.slot_list_append PySem.F.type_list_append mt_append (pv 7) (pa_cons (pe_tup (pa_cons (pv 8) (pa_cons (pv 9) (pa_cons (pv 10) pa_nil)))) pa_nil))))
  pss_nil)))))))))
  (pss_one (ps_ret (pe_callTy call_tuple_of (by rfl) T.tuple (by decide +kernel) (pa_cons (pv 7) pa_nil)))))))))), ?_⟩
  refine ⟨(show 0 ≤ sizeLine by decide), fun N hN => ⟨(show 0 ≤ sizeLine by decide), fun E1 hE => ?_⟩⟩
  have NE : N ≠ E1 := ne_of_none upd_same hE
  have S0 := (same_new hN (.lst [])).trans (same_new hE (.lst []))
  have hE0 : H E1 = none := free_of hE
  have len3 := allR_len hls
  have lt5 : ∀ n, n ≤ 5000 → n < sizeLine := fun n h => Nat.lt_of_le_of_lt h (by decide)
  refine ⟨_, rfl, l, rfl, ⟨_, SqL.sm S0 hs⟩, for_list (K := K) (a := l) (xs := ls.map fun x => V.ref x.a) (fun i σ H' => ∃ v4 v5 : Option V, σ = [some (.ref l), some (.str (("some" : String) : Str)), some (.ref N), some (.ref E1), v4, v5, none, none, none, none, none, none, none] ∧ Same H H' ∧ H' N = some (.lst (((allR (ls.take i)).map (·.1)).map V.str)) ∧ H' E1 = some (.lst ((endsOf (allR (ls.take i))).map V.int))) ?_ ?_ ?_ ?_⟩
  · exact ⟨none, none, rfl, S0, (upd_ne NE).trans upd_same, upd_same⟩
  · rintro i σ H' _ ⟨_, _, _, S, _⟩
    exact SqL.sm S hs
  · rintro i x σ H1 hx ⟨v4, v5, rfl, S1, hN1, hE1⟩
    obtain ⟨y, hy, rfl⟩ : ∃ y, ls[i]? = some y ∧ x = V.ref y.a := by
      rw [List.getElem?_map] at hx
      cases e : ls[i]? with
      | none => rw [e] at hx; cases hx
      | some p => rw [e] at hx; exact ⟨p, rfl, (Option.some.inj hx).symm⟩
    have iny := List.mem_of_getElem? hy
    have ily := (List.getElem?_eq_some_iff.mp hy).1
    obtain ⟨y1, y2, y3⟩ := hls y iny
    have lenI : (allR (ls.take i)).length ≤ 600 := by
      have z := allR_len (ls := ls.take i) fun x hx => hls x (List.mem_of_mem_take hx)
      rw [List.length_take] at z
      omega
    have more := allR_more hy
    refine ⟨_, rfl, .inl ⟨rfl, _, SqL.of hN1⟩, y.b, _, rfl, y.a, rfl, ⟨_, SqB.sm S1 y1⟩, fun D hD => ?_⟩
    have DN' : N ≠ D := ne_of_none hN1 hD
    have DE' : E1 ≠ D := ne_of_none hE1 hD
    have hD0 := S1.free hD
    refine lc_it (walk_seq (b := y.b) (K := K) (a := y.a) (xs := y.ps.map V.ref)) (fun j H' => Same H1 H' ∧ H' D = some (.lst (((y.rs.take j).map (·.1)).map V.str))) ⟨same_new hD _, upd_same⟩ (fun j H' _ h => SqB.sm (S1.trans h.1) y1) ?_ ?_
    · rintro i x H2 H2' hi ⟨S2, hD2⟩ ⟨rfl, hx⟩
      obtain ⟨u, hu, rfl⟩ : ∃ u, y.ps[i]? = some u ∧ x = V.ref u := by
        rw [List.getElem?_map] at hx
        cases e : y.ps[i]? with
        | none => rw [e] at hx; cases hx
        | some p => rw [e] at hx; exact ⟨p, rfl, (Option.some.inj hx).symm⟩
      obtain ⟨r, hr1, hr2⟩ := Prd.get y2 hu
      obtain ⟨hi2, ek⟩ := List.getElem?_eq_some_iff.mp hr1
      refine ⟨rfl, _, rfl, u, _, _, _, rfl, rfl, SqT.of ((S1.trans S2) _ _ hr2), rfl, _, hD2, ?_, same_mut S2 hD, ?_⟩
      · rw [List.length_map, List.length_map, List.length_take]
        exact lt5 _ (by omega)
      · rw [upd_same, List.take_succ_eq_append_getElem hi2, List.map_append, List.map_append, ek]
        rfl
    rintro H2 ⟨S2, hD2⟩
    rw [List.length_map, y2.len, List.take_length] at hD2
    refine ⟨N, D, _, _, rfl, rfl, S2 _ _ hN1, hD2, ?_, ?_⟩
    · rw [List.length_map, List.length_map, List.length_map, List.length_map]
      exact Nat.le_of_lt (lt5 _ (by omega))
    rw [← List.map_append, ← List.map_append, ← more]
    have S3 : Same H (upd H2 N (.lst (((allR (ls.take (i + 1))).map (·.1)).map V.str))) := same_mut (S1.trans S2) hN
    have hN3 : (upd H2 N (.lst (((allR (ls.take (i + 1))).map (·.1)).map V.str))) N = _ := upd_same
    have hE3 : (upd H2 N (.lst (((allR (ls.take (i + 1))).map (·.1)).map V.str))) E1 = some (.lst ((endsOf (allR (ls.take i))).map V.int)) := (upd_ne (Ne.symm NE)).trans (S2 _ _ hE1)
    generalize upd H2 N (.lst (((allR (ls.take (i + 1))).map (·.1)).map V.str)) = H3 at *
    refine ⟨y.b, _, rfl, y.a, rfl, ⟨_, SqB.sm S3 y1⟩, ?_⟩
    refine for_it (walk_seq (b := y.b) (K := K) (a := y.a) (xs := y.ps.map V.ref)) (fun j σ H' => ∃ v5 : Option V, σ = [some (.ref l), some (.str (("some" : String) : Str)), some (.ref N), some (.ref E1), some (.ref y.a), v5, none, none, none, none, none, none, none] ∧ Same H H' ∧ H' N = some (.lst (((allR (ls.take (i + 1))).map (·.1)).map V.str)) ∧ H' E1 = some (.lst ((endsOf (allR (ls.take i) ++ y.rs.take j)).map V.int))) ?_ ?_ ?_ ?_
    · refine ⟨v5, rfl, S3, hN3, ?_⟩
      rw [List.take_zero, List.append_nil]
      exact hE3
    · rintro j σ H' _ ⟨_, _, S, _⟩
      exact SqB.sm S y1
    · rintro i x σ H4 H4' hi ⟨v5, rfl, S4, hN4, hE4⟩ ⟨rfl, hx⟩
      obtain ⟨u, hu, rfl⟩ : ∃ u, y.ps[i]? = some u ∧ x = V.ref u := by
        rw [List.getElem?_map] at hx
        cases e : y.ps[i]? with
        | none => rw [e] at hx; cases hx
        | some p => rw [e] at hx; exact ⟨p, rfl, (Option.some.inj hx).symm⟩
      obtain ⟨r, hr1, hr2⟩ := Prd.get y2 hu
      obtain ⟨hi2, ek⟩ := List.getElem?_eq_some_iff.mp hr1
      have hu4 := S4 _ _ hr2
      refine ⟨_, rfl, .inl ⟨rfl, _, SqL.of hE4⟩, _, rfl, u, _, _, _, rfl, rfl, SqT.of hu4, rfl, _, rfl, u, _, _, _, rfl, rfl, SqT.of hu4, rfl, (show 2 ≤ sizeLine by decide), fun w hw => ?_⟩
      have N5 := same_new hw (.lst [.int r.2.1, .int r.2.2])
      refine ⟨E1, w, _, _, rfl, rfl, N5 _ _ hE4, upd_same, ?_, _, rfl, same_mut (S4.trans N5) hE0, ?_, ?_⟩
      · rw [List.length_map, endsOf_len, List.length_append, List.length_take]
        exact Nat.le_of_lt (lt5 _ (by show 2 * _ + 2 ≤ _; omega))
      · rw [upd_ne NE]
        exact N5 _ _ hN4
      · rw [upd_same, List.take_succ_eq_append_getElem hi2, ← List.append_assoc, endsOf_app (allR _ ++ _), List.map_append (f := V.int), ek]
        rfl
    · rintro σ H4 ⟨v5, rfl, S4, hN4, hE4⟩
      rw [List.length_map, y2.len, List.take_length, ← more] at hE4
      exact ⟨_, _, rfl, S4, hN4, hE4⟩
  rintro σ H1 ⟨v4, v5, rfl, S1, hN1, hE1⟩
  rw [List.length_map, List.take_length] at hN1 hE1
  generalize hR : allR ls = rs at *
  have rl : rs.length ≤ 600 := by omega
  refine ⟨_, rfl, E1, (endsOf rs).map Sum.inl, rfl, by rw [List.map_map]; exact SqL.of hE1, by rw [List.length_map, endsOf_len]; omega, fun p1 c1 o1 hp1 hc1 ho1 => ?_⟩
  rw [List.length_map, endsOf_len] at hc1
  refine ⟨p1, _, c1, o1, rfl, upd_same, ho1, fun k hk => by obtain ⟨j, _, rfl⟩ := List.mem_map.mp hk; exact ⟨j, rfl⟩, by omega, fun cs C ups mem clen hC => ?_⟩
  have T1 := (same_new hp1 o1).trans (same_new hC (.lst (cs.map V.int)))
  have mem1 : ∀ i, i ∈ cs ↔ i ∈ endsOf rs := fun i => by
    rw [mem]
    exact ⟨fun z => by obtain ⟨j, z1, z2⟩ := List.mem_map.mp z; cases z2; exact z1, fun z => List.mem_map.mpr ⟨i, z, rfl⟩⟩
  have hC2 : (upd (upd H1 p1 o1) C (.lst (cs.map V.int))) C = _ := upd_same
  generalize hH2 : upd (upd H1 p1 o1) C (.lst (cs.map V.int)) = H2 at *
  refine ⟨(show 0 ≤ sizeLine by decide), fun F hF => ?_⟩
  have T2 : Same H1 (upd H2 F (.lst [])) := T1.trans (same_new hF (.lst []))
  have hF0 : H F = none := S1.free (T1.free hF)
  have hC3 : upd H2 F (.lst []) C = some (.lst (cs.map V.int)) := (same_new hF (.lst [])) _ _ hC2
  have hF3 : upd H2 F (.lst []) F = some (.lst []) := upd_same
  have CF : C ≠ F := ne_of_none hC2 hF
  generalize hH3 : upd H2 F (.lst []) = H3 at *
  refine ⟨_, rfl, N, (rs.map (·.1)).map Sum.inr, rfl, by rw [List.map_map]; exact SqL.of (T2 _ _ hN1), by rw [List.length_map, List.length_map]; omega, fun p2 c2 o2 hp2 hc2 ho2 => ?_⟩
  rw [List.length_map, List.length_map] at hc2
  refine ⟨p2, _, c2, o2, rfl, upd_same, ho2, fun k hk => by obtain ⟨j, _, rfl⟩ := List.mem_map.mp hk; exact ⟨j, rfl⟩, by omega, fun ss Z upz memz slen hZ => ?_⟩
  have memz1 : ∀ i, i ∈ ss ↔ i ∈ rs.map (·.1) := fun i => by
    rw [memz]
    exact ⟨fun z => by obtain ⟨j, z1, z2⟩ := List.mem_map.mp z; cases z2; exact z1, fun z => List.mem_map.mpr ⟨i, z, rfl⟩⟩
  have T3 := (same_new hp2 o2).trans (same_new hZ (.lst (ss.map V.str)))
  have hZ0 : H3 Z = none := free_of hZ
  have ends := ends_of memz1 mem1
  have fin := mades_runs full ends upz ups
  refine ⟨Z, rfl, ⟨_, SqL.of upd_same⟩, ?_⟩
  have small : ∀ i j, i ≤ ss.length → j ≤ (pcs cs).length → ∀ s, (((ss.take i).flatMap fun s => goods (hasB rs) s (pcs cs)) ++ goods (hasB rs) s ((pcs cs).take j)).length ≤ 2000000 := fun i j hi hj s => by
    have z1 := flat_goods_len (P := hasB rs) (pcs cs) (ss.take i)
    have z2 := goods_len (P := hasB rs) (s := s) ((pcs cs).take j)
    have z3 := pcs_len cs
    rw [List.length_take] at z1 z2
    have z4 : min i ss.length * (pcs cs).length ≤ 600 * 1200 := Nat.mul_le_mul (by omega) (by omega)
    rw [List.length_append]
    omega
  have bigl : ∀ n, n ≤ 2000000 → n < sizeLine := fun n h => Nat.lt_of_le_of_lt h (by decide)
  refine for_list (K := K) (a := Z) (xs := ss.map V.str) (fun i σ H' => ∃ (fs : List Addr) (u4 u5 u8 u9 u10 u11 u12 : Option V), σ = [some (.ref l), some (.str (("some" : String) : Str)), some (.ref N), some (.ref E1), u4, u5, some (.ref C), some (.ref F), u8, u9, u10, u11, u12] ∧
    Same H H' ∧ H' Z = some (.lst (ss.map V.str)) ∧ H' C = some (.lst (cs.map V.int)) ∧ H' F = some (.lst (fs.map V.ref)) ∧ Prd H' fs (((ss.take i).flatMap fun s => goods (hasB rs) s (pcs cs)).foldl join [])) ?_ ?_ ?_ ?_
  · exact ⟨[], _, _, _, _, _, _, _, rfl, S1.trans (T2.trans T3), upd_same, T3 _ _ hC3, T3 _ _ hF3, .nil⟩
  · rintro i σ H' _ ⟨_, _, _, _, _, _, _, _, _, _, e, _⟩
    exact SqL.of e
  · rintro i x σ H4 hx ⟨fs, u4, u5, u8, u9, u10, u11, u12, rfl, S4, hZ4, hC4, hF4, hp4⟩
    obtain ⟨s, hs1, rfl⟩ : ∃ s, ss[i]? = some s ∧ x = V.str s := by
      rw [List.getElem?_map] at hx
      cases e : ss[i]? with
      | none => rw [e] at hx; cases hx
      | some p => rw [e] at hx; exact ⟨p, rfl, (Option.some.inj hx).symm⟩
    obtain ⟨hi1, es⟩ := List.getElem?_eq_some_iff.mp hs1
    refine ⟨_, rfl, _, rfl, 1, rfl, C, _, rfl, SqL.of hC4, fun C2 hC2' => ?_⟩
    rw [cut_tail, ← List.map_tail]
    have N5 := same_new hC2' (.lst (cs.tail.map V.int))
    have cl : (pcs cs).length = min (cs.map V.int).length (cs.tail.map V.int).length := by
      unfold pcs
      rw [List.length_zip, List.length_map, List.length_map]
    have ZF : Z ≠ F := Ne.symm (ne_of_none hF3 hZ0)
    have C2F : C2 ≠ F := Ne.symm (ne_of_none hF4 hC2')
    refine ⟨C, C2, _, _, rfl, .inl ⟨SqL.of (N5 _ _ hC4), SqL.of upd_same, ?_⟩⟩
    refine for_it (walk_zip (K := K) (a := C) (b := C2) cl) (fun j σ H' => ∃ (fs : List Addr) (u4 u5 u9 u10 u11 u12 : Option V), σ = [some (.ref l), some (.str (("some" : String) : Str)), some (.ref N), some (.ref E1), u4, u5, some (.ref C), some (.ref F), some (.str s), u9, u10, u11, u12] ∧
      Same H H' ∧ H' Z = some (.lst (ss.map V.str)) ∧ H' C = some (.lst (cs.map V.int)) ∧ H' C2 = some (.lst (cs.tail.map V.int)) ∧ H' F = some (.lst (fs.map V.ref)) ∧ Prd H' fs ((((ss.take i).flatMap fun s => goods (hasB rs) s (pcs cs)) ++ goods (hasB rs) s ((pcs cs).take j)).foldl join [])) ?_ ?_ ?_ ?_
    · refine ⟨fs, _, _, _, _, _, _, rfl, S4.trans N5, N5 _ _ hZ4, N5 _ _ hC4, upd_same, N5 _ _ hF4, ?_⟩
      have e0 : goods (hasB rs) s ((pcs cs).take 0) = [] := rfl
      rw [e0, List.append_nil]
      exact Prd.same N5 hp4
    · rintro j σ H' _ ⟨_, _, _, _, _, _, _, _, _, _, e1, e2, _⟩
      exact ⟨SqL.of e1, SqL.of e2⟩
    · rintro j x σ H5 H5' hj ⟨fs, u4, u5, u9, u10, u11, u12, rfl, S5, hZ5, hC5, hC25, hF5, hp5⟩ ⟨tp, b0, e0, rfl, htp, rfl, hb, he⟩
      have hb : (cs.map V.int)[j]? = some b0 := hb
      have he : (cs.tail.map V.int)[j]? = some e0 := he
      obtain ⟨b, hb1, rfl⟩ : ∃ b, cs[j]? = some b ∧ b0 = V.int b := by
        rw [List.getElem?_map] at hb
        cases e : cs[j]? with
        | none => rw [e] at hb; cases hb
        | some p => rw [e] at hb; exact ⟨p, rfl, (Option.some.inj hb).symm⟩
      obtain ⟨e, he1, rfl⟩ : ∃ b, cs.tail[j]? = some b ∧ e0 = V.int b := by
        rw [List.getElem?_map] at he
        cases e : cs.tail[j]? with
        | none => rw [e] at he; cases he
        | some p => rw [e] at he; exact ⟨p, rfl, (Option.some.inj he).symm⟩
      have pj := pcs_get hb1 he1
      have gm := goods_more (P := hasB rs) (s := s) pj
      have N6 := same_new htp (.tup [.int b, .int e])
      refine ⟨tp, _, rfl, SqT.of upd_same, rfl, _, _, rfl, _, _, rfl, rfl, ?_⟩
      refine ⟨_, rfl, l, rfl, ⟨_, SqL.sm (S5.trans N6) hs⟩, fun D hD => ?_⟩
      have hD5 := N6.free hD
      refine lc_list (K := K) (a := l) (xs := ls.map fun x => V.ref x.a) (fun i H' => Same (upd H5 tp (.tup [.int b, .int e])) H' ∧ H' D = some (.lst (((ls.take i).map fun x => hasB x.rs s b).map V.bl))) ⟨same_new hD _, upd_same⟩ (fun i H' _ h => SqL.sm ((S5.trans N6).trans h.1) hs) ?_ ?_
      · rintro i x H6 hx ⟨S6, hD6⟩
        obtain ⟨y, hy, rfl⟩ : ∃ y, ls[i]? = some y ∧ x = V.ref y.a := by
          rw [List.getElem?_map] at hx
          cases e : ls[i]? with
          | none => rw [e] at hx; cases hx
          | some p => rw [e] at hx; exact ⟨p, rfl, (Option.some.inj hx).symm⟩
        obtain ⟨hi2, ey⟩ := List.getElem?_eq_some_iff.mp hy
        obtain ⟨y1, y2, y3⟩ := hls y (List.mem_of_getElem? hy)
        have Sx := (S5.trans N6).trans S6
        refine ⟨rfl, _, rfl, _, rfl, _, rfl, y.b, y.a, s, b, y.ps, y.rs, rfl, SqB.sm Sx y1, Prd.same Sx y2, by omega, fun H7 S7 => ?_⟩
        refine ⟨_, S7 _ _ hD6, ?_, same_mut (S6.trans S7) hD, ?_⟩
        · rw [List.length_map, List.length_map, List.length_take]
          exact lt5 _ (by omega)
        · rw [upd_same, List.take_succ_eq_append_getElem hi2, List.map_append, List.map_append, ey]
          rfl
      rintro H6 ⟨S6, hD6⟩
      rw [List.length_map, List.take_length] at hD6
      have S56 : Same H5 H6 := N6.trans S6
      have hany := hasB_all ls s b
      rw [hR] at hany
      generalize hbs : (ls.map fun x => hasB x.rs s b) = bs at *
      have bl : bs.length = ls.length := by rw [← hbs, List.length_map]
      refine ⟨fun σ H' => ∃ (v11 : Option V), σ = [some (.ref l), some (.str (("some" : String) : Str)), some (.ref N), some (.ref E1), u4, u5, some (.ref C), some (.ref F), some (.str s), some (.int b), some (.int e), v11, some (.bl (hasB rs s b))] ∧ Same H5 H', ?_, ?_⟩
      · intro d hd
        have hd6 : ∀ o, (upd H6 d o) D = some (.lst (bs.map V.bl)) := fun o => (same_new hd o) _ _ hD6
        obtain ⟨b0, br, eb⟩ : ∃ b0 br, bs = b0 :: br := by
          cases bs with
          | nil => exact absurd (show 0 = ls.length from bl) (by omega)
          | cons x r => exact ⟨x, r, rfl⟩
        have at0 : atI (bs.map V.bl) 0 = some (.bl b0) := by
          rw [eb]
          exact atI_nat (j := 0) rfl
        refine ⟨_, rfl, D, bs, rfl, SqL.of (hd6 _), _, rfl, D, bs, rfl, SqL.of (hd6 _), _, rfl, D, _, _, _, rfl, rfl, SqL.of (hd6 _), at0, _, rfl, ?_⟩
        have last : ∀ (Hx : Hp) (c3 : Bool), Same (upd H6 d (.dK [])) Hx → Hx d = some (.dK []) ∧ Same H5 (upd Hx d (.dK (dictM (bs.any _root_.id) (bs.all _root_.id) c3))) ∧ DGet (upd Hx d (.dK (dictM (bs.any _root_.id) (bs.all _root_.id) c3))) d (.str (("some" : String) : Str)) (some (.bl (hasB rs s b))) := fun Hx c3 sx => by
          refine ⟨sx _ _ upd_same, same_mut (S56.trans ((same_new hd _).trans sx)) (S56.free hd), ?_⟩
          have z := DGet.k (k := Sum.inr (("some" : String) : Str)) (upd_same (H := Hx) (a := d) (o := .dK (dictM (bs.any _root_.id) (bs.all _root_.id) c3)))
          have e : valV (dictM (bs.any _root_.id) (bs.all _root_.id) c3) (Sum.inr (("some" : String) : Str)) = some (.bl (hasB rs s b)) := by
            rw [← hany]
            rfl
          rw [e] at z
          exact z
        refine ite2 (fun c1 => ?_) (fun c1 => ?_)
        · refine ⟨_, rfl, 1, rfl, D, _, rfl, SqL.of (hd6 _), fun l2 n2 => ?_⟩
          rw [cut_tail, ← List.map_tail]
          refine ⟨l2, bs.tail, rfl, SqL.of upd_same, _, rfl, ?_⟩
          obtain ⟨k1, k2, k3⟩ := last _ (!(bs.tail.any _root_.id)) (same_new n2 _)
          exact ⟨k1, dictM (bs.any _root_.id) (bs.all _root_.id) (!(bs.tail.any _root_.id)), rfl, (show 3 ≤ 15 by decide), _, rfl, d, _, rfl, k3, _, rfl, k2⟩
        · obtain ⟨k1, k2, k3⟩ := last _ false (Same.refl _)
          exact ⟨k1, dictM (bs.any _root_.id) (bs.all _root_.id) false, rfl, (show 3 ≤ 15 by decide), _, rfl, d, _, rfl, k3, _, rfl, k2⟩
      · rintro σ H7 ⟨v11, rfl, S7⟩
        have hF7 := S7 _ _ hF5
        have hp7 := Prd.same S7 hp5
        have K7 : ∀ (Hx : Hp) (fs' : List Addr), Same H7 Hx → Prd Hx fs' ((((ss.take i).flatMap fun s => goods (hasB rs) s (pcs cs)) ++ goods (hasB rs) s ((pcs cs).take (j + 1))).foldl join []) → ∃ (fs : List Addr) (w4 w5 w9 w10 w11 w12 : Option V), [some (.ref l), some (.str (("some" : String) : Str)), some (.ref N), some (.ref E1), u4, u5, some (.ref C), some (.ref F), some (.str s), some (.int b), some (.int e), v11, some (.bl (hasB rs s b))] = [some (.ref l), some (.str (("some" : String) : Str)), some (.ref N), some (.ref E1), w4, w5, some (.ref C), some (.ref F), some (.str s), w9, w10, w11, w12] ∧
            Same H (upd Hx F (.lst (fs'.map V.ref))) ∧ (upd Hx F (.lst (fs'.map V.ref))) Z = some (.lst (ss.map V.str)) ∧ (upd Hx F (.lst (fs'.map V.ref))) C = some (.lst (cs.map V.int)) ∧ (upd Hx F (.lst (fs'.map V.ref))) C2 = some (.lst (cs.tail.map V.int)) ∧ (upd Hx F (.lst (fs'.map V.ref))) F = some (.lst (fs.map V.ref)) ∧ Prd (upd Hx F (.lst (fs'.map V.ref))) fs ((((ss.take i).flatMap fun s => goods (hasB rs) s (pcs cs)) ++ goods (hasB rs) s ((pcs cs).take (j + 1))).foldl join []) := fun Hx fs' sx hh => by
          have sy := S7.trans sx
          refine ⟨fs', _, _, _, _, _, _, rfl, same_mut (S5.trans sy) hF0, ?_, ?_, ?_, upd_same, Prd.put (sx _ _ hF7) hh⟩
          · rw [upd_ne ZF]
            exact sy _ _ hZ5
          · rw [upd_ne CF]
            exact sy _ _ hC5
          · rw [upd_ne C2F]
            exact sy _ _ hC25
        cases hP : hasB rs s b with
        | false =>
          rw [hP, if_neg (by decide), List.append_nil] at gm
          refine ⟨_, rfl, _, rfl, iteF ?_⟩
          refine ⟨_, rfl, _, rfl, iteF ?_⟩
          exact ⟨fs, _, _, _, _, _, _, rfl, S5.trans S7, S7 _ _ hZ5, S7 _ _ hC5, S7 _ _ hC25, hF7, by rw [gm]; exact hp7⟩
        | true =>
          rw [hP] at K7
          rw [hP, if_pos rfl] at gm
          have step : (((ss.take i).flatMap fun s => goods (hasB rs) s (pcs cs)) ++ goods (hasB rs) s ((pcs cs).take (j + 1))).foldl join [] = join ((((ss.take i).flatMap fun s => goods (hasB rs) s (pcs cs)) ++ goods (hasB rs) s ((pcs cs).take j)).foldl join []) (s, b, e) := by
            rw [gm, ← List.append_assoc, List.foldl_append]
            rfl
          have flen : (fs.map V.ref).length < sizeLine := by
            rw [List.length_map, hp7.len]
            refine bigl _ (Nat.le_trans (fold_join_len _ _) ?_)
            rw [List.length_nil, Nat.zero_add]
            exact small i j (by omega) (by omega) s
          generalize (((ss.take i).flatMap fun s => goods (hasB rs) s (pcs cs)) ++ goods (hasB rs) s ((pcs cs).take j)).foldl join [] = X at *
          refine ⟨_, rfl, _, rfl, iteT ?_⟩
          refine ⟨_, rfl, F, _, rfl, .inl (SqL.of hF7), _, _, rfl, rfl, _, rfl, ?_⟩
          rcases nil_or_snoc fs with rfl | ⟨fi, la, rfl⟩
          · have eX : X = [] := List.eq_nil_of_length_eq_zero (by rw [← hp7.len]; rfl)
            refine ite2 (fun z => absurd (of_decide_eq_true z) (by simp)) (fun _ => ?_)
            refine ⟨_, rfl, _, rfl, iteT ?_⟩
            refine ⟨_, rfl, .inl ⟨rfl, _, SqL.of hF7⟩, _, rfl, _, rfl, _, rfl, (show 3 ≤ sizeLine by decide), fun t ht => ?_⟩
            have nx := same_new ht (.tup (rnV (s, b, e)))
            refine ⟨F, _, _, rfl, rfl, nx _ _ hF7, flen, ?_⟩
            have z := K7 _ ([] ++ [t]) nx (by rw [step, eX, show join [] (s, b, e) = [] ++ [(s, b, e)] from rfl]; exact Prd.app Paired.nil (Prd.one upd_same))
            rw [List.map_append] at z
            exact z
          · obtain ⟨ts, lr, e2, hi2, hla⟩ := Prd.snoc hp7
            have hF8 : H7 F = some (.lst (fi.map V.ref ++ [V.ref la])) := by
              rw [hF7, List.map_append]
              rfl
            refine ite2 (fun _ => ?_) (fun z => absurd z (by simp))
            refine ⟨_, rfl, 1, rfl, F, _, _, _, rfl, rfl, SqL.of hF8, atI_last _ _, la, _, _, _, rfl, rfl, SqT.of hla, rfl, _, rfl, rfl, _, rfl, ?_⟩
            refine ite2 (fun c2 => ?_) (fun c2 => ?_)
            · have d2 : lr.1 = s := V.str.inj (of_decide_eq_true c2)
              refine ⟨_, rfl, 1, rfl, F, _, _, _, rfl, rfl, SqL.of hF8, atI_last _ _, la, _, _, _, rfl, rfl, SqT.of hla, rfl, _, rfl, rfl, _, rfl, ?_⟩
              refine ite2 (fun c3 => ?_) (fun c3 => ?_)
              · have d3 : lr.2.2 = b := V.int.inj (of_decide_eq_true c3)
                have jn : join X (s, b, e) = ts ++ [(s, lr.2.1, e)] := by
                  rw [e2, join_snoc, if_pos ⟨d2, d3⟩]
                refine ⟨_, rfl, _, rfl, 1, rfl, F, _, _, _, rfl, rfl, SqL.of hF8, atI_last _ _, la, _, _, _, rfl, rfl, SqT.of hla, rfl, _, rfl, (show 3 ≤ sizeLine by decide), fun t ht => ?_⟩
                have nx := same_new ht (.tup (rnV (s, lr.2.1, e)))
                refine ⟨_, rfl, 1, rfl, F, _, _, fi.length, rfl, rfl, nx _ _ hF8, ?_, ?_⟩
                · rw [List.length_append, List.length_map, List.length_singleton]
                  exact ix_last _
                · have e3 : (fi.map V.ref ++ [V.ref la]).set fi.length (.ref t) = (fi ++ [t]).map V.ref := by
                    rw [List.set_append_right _ _ (by rw [List.length_map]; exact Nat.le_refl _), List.length_map, Nat.sub_self, List.map_append]
                    rfl
                  rw [e3]
                  exact K7 _ (fi ++ [t]) nx (by rw [step, jn]; exact Prd.app (Prd.same nx hi2) (Prd.one upd_same))
              · have jn : join X (s, b, e) = X ++ [(s, b, e)] := by
                  rw [e2, join_snoc, if_neg (fun z => c3 (decide_eq_true (congrArg V.int z.2)))]
                refine ⟨_, rfl, _, rfl, iteT ?_⟩
                refine ⟨_, rfl, .inl ⟨rfl, _, SqL.of hF7⟩, _, rfl, _, rfl, _, rfl, (show 3 ≤ sizeLine by decide), fun t ht => ?_⟩
                have nx := same_new ht (.tup (rnV (s, b, e)))
                refine ⟨F, _, _, rfl, rfl, nx _ _ hF7, flen, ?_⟩
                have z := K7 _ (fi ++ [la] ++ [t]) nx (by rw [step, jn]; exact Prd.app (Prd.same nx hp7) (Prd.one upd_same))
                rw [List.map_append] at z
                exact z
            · have jn : join X (s, b, e) = X ++ [(s, b, e)] := by
                rw [e2, join_snoc, if_neg (fun z => c2 (decide_eq_true (congrArg V.str z.1)))]
              refine ⟨_, rfl, _, rfl, iteT ?_⟩
              refine ⟨_, rfl, .inl ⟨rfl, _, SqL.of hF7⟩, _, rfl, _, rfl, _, rfl, (show 3 ≤ sizeLine by decide), fun t ht => ?_⟩
              have nx := same_new ht (.tup (rnV (s, b, e)))
              refine ⟨F, _, _, rfl, rfl, nx _ _ hF7, flen, ?_⟩
              have z := K7 _ (fi ++ [la] ++ [t]) nx (by rw [step, jn]; exact Prd.app (Prd.same nx hp7) (Prd.one upd_same))
              rw [List.map_append] at z
              exact z
    · rintro σ H5 ⟨fs, u4, u5, u9, u10, u11, u12, rfl, S5, hZ5, hC5, hC25, hF5, hp5⟩
      refine ⟨fs, _, _, _, _, _, _, _, rfl, S5, hZ5, hC5, hF5, ?_⟩
      rw [List.take_length] at hp5
      rw [List.take_succ_eq_append_getElem hi1, List.flatMap_append, es, List.flatMap_singleton]
      exact hp5
  · rintro σ H4 ⟨fs, u4, u5, u8, u9, u10, u11, u12, rfl, S4, hZ4, hC4, hF4, hp4⟩
    rw [List.length_map, List.take_length] at hp4
    have e : (ss.flatMap fun s => goods (hasB rs) s (pcs cs)).foldl join [] = runsOf rs := fin
    rw [e] at hp4
    refine ⟨_, rfl, F, _, rfl, .inl ⟨SqL.of hF4, fun t ht => ?_⟩⟩
    exact q t fs _ (S4.trans (same_new ht _)) (S4.free ht) upd_same (Prd.same (same_new ht _) hp4)

theorem ok_is_apart (F : Fun K "is_apart" "is_apart" s_is_apart f_is_apart d_is_apart) (T : Txt mg f_is_number f_is_from_to f_is_word f_is_tuple_of f_is_note f_is_run f_is_runs f_is_apart f_lfeed f_ldraw f_lnames f_lat f_lrun f_llot f_lhas f_lmade f_lis_number f_lis_word f_lis_run f_lis_runs f_lis_note f_lodd f_lbent f_lmenu f_lthings f_law) :
    FnOk P w K mg base CX0 (1) f_is_apart d_is_apart ["run", "later"] spApart := by
  refine F.ok sc_is_apart (fun vs H Q E h => ?_) (fun cdv A outer s H vs Q E hr h => ?_)

  · obtain ⟨p, q, a, b, rfl, _⟩ := h
    rfl
  obtain ⟨p, q, a, b, rfl, h1, h2, z⟩ := h
  refine ⟨_, (pss_cons (ps_if (pt_cmpR op_eq (pe_ix ix_tup (pv 0) pe_int (fun _ _ => rfl)) (pe_ix ix_tup (pv 1) pe_int (fun _ _ => rfl)) (nomark _))
  (pss_one (ps_ret (pe_cmpR op_lt (pe_ix ix_tup (pv 0) pe_int (fun _ _ => rfl)) (pe_ix ix_tup (pv 1) pe_int (fun _ _ => rfl)) (nomark _))))
  pss_nil)
  (pss_one (ps_ret (pe_cmpR op_lt_str (pe_ix ix_tup (pv 0) pe_int (fun _ _ => rfl)) (pe_ix ix_tup (pv 1) pe_int (fun _ _ => rfl)) (nomark _))))), ?_⟩
  refine ⟨_, rfl, p, _, _, _, rfl, rfl, SqT.of h1, rfl, _, rfl, q, _, _, _, rfl, rfl, SqT.of h2, rfl, rfl, _, rfl, ?_⟩
  refine ite2 (fun c => ?_) (fun c => ?_)
  · have e : a.1 = b.1 := V.str.inj (of_decide_eq_true c)
    have z2 : Q (.bl (decide (a.2.2 < b.2.1))) H := by
      unfold apart at z
      rw [if_pos e] at z
      exact z
    exact ⟨_, rfl, p, _, _, _, rfl, rfl, SqT.of h1, rfl, _, rfl, q, _, _, _, rfl, rfl, SqT.of h2, rfl, _, _, rfl, rfl, z2⟩
  · have e : ¬ a.1 = b.1 := fun k => c (decide_eq_true (congrArg V.str k))
    have z2 : Q (.bl (decide (a.1.cps.toList < b.1.cps.toList))) H := by
      unfold apart at z
      rw [if_neg e] at z
      exact z
    exact ⟨_, rfl, p, _, _, _, rfl, rfl, SqT.of h1, rfl, _, rfl, q, _, _, _, rfl, rfl, SqT.of h2, rfl, _, _, rfl, rfl, z2⟩

theorem ok_is_number (F : Fun K "is_number" "is_number" s_is_number f_is_number d_is_number) (T : Txt mg f_is_number f_is_from_to f_is_word f_is_tuple_of f_is_note f_is_run f_is_runs f_is_apart f_lfeed f_ldraw f_lnames f_lat f_lrun f_llot f_lhas f_lmade f_lis_number f_lis_word f_lis_run f_lis_runs f_lis_note f_lodd f_lbent f_lmenu f_lthings f_law) :
    FnOk P w K mg base CX0 (1) f_is_number d_is_number ["thing"] spKNum := by
  refine F.ok sc_is_number (fun vs H Q E h => ?_) (fun cdv A outer s H vs Q E hr h => ?_)

  · obtain ⟨v, d, N, rfl, _⟩ := h
    rfl
  obtain ⟨v, d, N, rfl, hd, q⟩ := h
  refine ⟨_, (pss_one (ps_ret (pe_and (pe_callB call_isi (by rfl) T.isinstance (by decide +kernel) (pa_cons (pv 0) (pa_cons (pe_bltn (v := .ty "int") (by rfl) T.int (by decide +kernel) rfl) pa_nil))) (pe_one (pe_not (pe_callB call_isi (by rfl) T.isinstance (by decide +kernel) (pa_cons (pv 0) (pa_cons (pe_bltn (v := .ty "bool") (by rfl) T.bool (by decide +kernel) rfl) pa_nil)))))))), ?_⟩
  have z := q H (Same.refl _)
  cases hd with
  | non => exact ⟨_, rfl, _, _, _, _, _, rfl, .ty _, .base .non, k_NoneType_int, _, rfl, iteF z⟩
  | bl b => exact ⟨_, rfl, _, _, _, _, _, rfl, .ty _, .base (.bl b), k_bool_int, _, rfl, iteT ⟨_, rfl, _, _, _, _, _, rfl, .ty _, .base (.bl b), k_bool_bool, _, rfl, z⟩⟩
  | int i => exact ⟨_, rfl, _, _, _, _, _, rfl, .ty _, .base (.int i), k_int_int, _, rfl, iteT ⟨_, rfl, _, _, _, _, _, rfl, .ty _, .base (.int i), k_int_bool, _, rfl, z⟩⟩
  | str x => exact ⟨_, rfl, _, _, _, _, _, rfl, .ty _, .base (.str x), k_str_int, _, rfl, iteF z⟩
  | lst _ h _ => exact ⟨_, rfl, _, _, _, _, _, rfl, .ty _, .base (.lst h), k_list_int, _, rfl, iteF z⟩
  | tup h _ => exact ⟨_, rfl, _, _, _, _, _, rfl, .ty _, .base (.tup h), k_tuple_int, _, rfl, iteF z⟩

theorem ok_is_from_to (F : Fun K "is_from_to" "is_from_to" s_is_from_to f_is_from_to d_is_from_to) (T : Txt mg f_is_number f_is_from_to f_is_word f_is_tuple_of f_is_note f_is_run f_is_runs f_is_apart f_lfeed f_ldraw f_lnames f_lat f_lrun f_llot f_lhas f_lmade f_lis_number f_lis_word f_lis_run f_lis_runs f_lis_note f_lodd f_lbent f_lmenu f_lthings f_law)
    (F_is_number : Fun K "is_number" "is_number" s_is_number f_is_number d_is_number) (b_is_number : Binds K d_is_number ["thing"] []) (G_is_number : FnOk P w K mg base CX0 (1) f_is_number d_is_number ["thing"] spKNum) :
    FnOk P w K mg base CX0 (2) f_is_from_to d_is_from_to ["thing", "least", "most"] spKFrom := by
  refine F.ok sc_is_from_to (fun vs H Q E h => ?_) (fun cdv A outer s H vs Q E hr h => ?_)

  · obtain ⟨v, d, N, lo, hi, rfl, _⟩ := h
    rfl
  obtain ⟨v, d, N, lo, hi, rfl, hd, q⟩ := h
  refine ⟨_, (pss_one (ps_ret (pe_and (pe_call G_is_number hr (by rfl) T.m_is_number F_is_number.kp b_is_number .nil pass0 (pa_cons (pv 0) pa_nil)) (pe_one (pe_chain op_le op_le (pv 1) (pv 0) (pv 2)))))), ?_⟩
  refine ⟨_, rfl, v, d, N, rfl, hd, fun H1 S1 => ?_⟩
  refine ⟨_, rfl, ?_⟩
  by_cases c : intD d = true
  rotate_left
  · have z := q _ S1
    have e : numD d lo hi = false := by
      cases d with
      | int i => exact absurd rfl c
      | _ => rfl
    rw [Bool.eq_false_iff.mpr c]
    rw [e] at z
    exact iteF z
  rw [c]
  obtain ⟨i, rfl⟩ : ∃ i, d = .int i := by
    cases d with
    | int i => exact ⟨i, rfl⟩
    | _ => cases c
  cases hd
  refine iteT ?_
  refine ⟨_, rfl, _, rfl, _, _, rfl, rfl, _, rfl, ?_⟩
  refine ite2 (fun c1 => ?_) (fun c1 => ?_)
  · refine ⟨_, rfl, _, _, rfl, rfl, ?_⟩
    have z := q _ S1
    have e : numD (.int i) lo hi = decide (i ≤ hi) := by
      show (decide (lo ≤ i) && decide (i ≤ hi)) = _
      rw [c1, Bool.true_and]
    rw [e] at z
    exact z
  · have z := q _ S1
    have e : numD (.int i) lo hi = false := by
      show (decide (lo ≤ i) && decide (i ≤ hi)) = _
      rw [Bool.eq_false_iff.mpr c1, Bool.false_and]
    rw [e] at z
    exact z

theorem ok_is_word (F : Fun K "is_word" "is_word" s_is_word f_is_word d_is_word) (T : Txt mg f_is_number f_is_from_to f_is_word f_is_tuple_of f_is_note f_is_run f_is_runs f_is_apart f_lfeed f_ldraw f_lnames f_lat f_lrun f_llot f_lhas f_lmade f_lis_number f_lis_word f_lis_run f_lis_runs f_lis_note f_lodd f_lbent f_lmenu f_lthings f_law)
    (hc_is_word : d_is_word.code = .ref c_is_word) (TB_is_word : GxR.TabB base mg c_is_word P_is_word) :
    FnOk P w K mg base CX0 (2) f_is_word d_is_word ["thing"] (spKWord P_is_word) := by
  refine okT F hc_is_word sc_is_word (fun vs H Q E h => ?_) (fun A outer s H vs Q E hr h => ?_)

  · obtain ⟨v, d, N, rfl, _⟩ := h
    rfl
  obtain ⟨v, d, N, rfl, hd, dp, hP, q⟩ := h
  refine ⟨_, (pss_cons (ps_if (PW.pt (pw_or (pt_not (pt_val (pe_callB call_isi (by rfl) T.isinstance (by decide +kernel) (pa_cons (pv 0) (pa_cons (pe_bltn (v := .ty "str") (by rfl) T.str (by decide +kernel) rfl) pa_nil))))) (pw_or (pt_cmpR op_lt (pe_callB call_len_str (by rfl) T.len (by decide +kernel) (pa_cons (pv 0) pa_nil)) pe_int (nomark _)) (pw_or1 (pt_cmpR op_gt (pe_callB call_len_str (by rfl) T.len (by decide +kernel) (pa_cons (pv 0) pa_nil)) pe_int (nomark _))))))
  (pss_one (ps_ret pe_bl))
  pss_nil)
  (pss_one (ps_ret (pe_allG (own := [("sign", 1)]) (g := (gName 1)) hr (by rfl) T.all sc_is_word.nd TB_is_word rfl (pi_str (pv 0)) (blkOk_by (own := [("sign", 1)]) (N := ["thing", "sign"]) (sc := defScope s_is_word) (by decide +kernel)) (by decide +kernel) (fun _ _ _ _ _ => (pg_name (i := 1) sc_is_word.nd rfl (.inl rfl))) (fun _ _ _ _ _ => pts_nil) (fun _ _ _ _ _ => (pe_chain op_le_str op_le_str pe_str (pv 1) pe_str)))))), ?_⟩
  have z := q H (Same.refl _)
  have no : ∀ {R : Prop}, R → R := fun h => h
  cases hd with
  | non => exact ⟨_, rfl, _, _, _, _, _, rfl, .ty _, .base .non, k_NoneType_str, _, rfl, iteT z⟩
  | bl b => exact ⟨_, rfl, _, _, _, _, _, rfl, .ty _, .base (.bl b), k_bool_str, _, rfl, iteT z⟩
  | int i => exact ⟨_, rfl, _, _, _, _, _, rfl, .ty _, .base (.int i), k_int_str, _, rfl, iteT z⟩
  | lst _ h _ => exact ⟨_, rfl, _, _, _, _, _, rfl, .ty _, .base (.lst h), k_list_str, _, rfl, iteT z⟩
  | tup h _ => exact ⟨_, rfl, _, _, _, _, _, rfl, .ty _, .base (.tup h), k_tuple_str, _, rfl, iteT z⟩
  | str s0 =>
    refine ⟨_, rfl, _, _, _, _, _, rfl, .ty _, .base (.str s0), k_str_str, _, rfl, iteF ?_⟩
    refine ⟨_, rfl, s0, rfl, dp.str, _, _, rfl, rfl, _, rfl, ?_⟩
    refine ite2 (fun c1 => ?_) (fun c1 => ?_)
    · have e : wordD (.str s0) = false := by
        show (decide (1 ≤ s0.length) && _) = false
        have c1 := of_decide_eq_true c1
        rw [decide_eq_false (by omega), Bool.false_and]
      rw [e] at z
      exact z
    refine ⟨_, rfl, s0, rfl, dp.str, _, _, rfl, rfl, _, rfl, ?_⟩
    have c1 : 1 ≤ s0.length := by
      have z : ¬ (((s0.length : Nat) : Int) < 1) := fun k => c1 (decide_eq_true k)
      omega
    refine ite2 (fun c2 => ?_) (fun c2 => ?_)
    · have e : wordD (.str s0) = false := by
        show (decide (1 ≤ s0.length) && (decide (s0.length ≤ 8) && _)) = false
        have c2 := of_decide_eq_true c2
        rw [decide_eq_false (show ¬ s0.length ≤ 8 by omega), Bool.false_and, Bool.and_false]
      rw [e] at z
      exact z
    have c2 : s0.length ≤ 8 := by
      have z : ¬ (8 < ((s0.length : Nat) : Int)) := fun k => c2 (decide_eq_true k)
      omega
    clear z
    refine ⟨_, rfl, s0, rfl, hP, s0.cps.size, fun _ => true, (fun i => .bl (chAt s0 i)), (fun _ H' => Same H H'), gx_it (walk_str (z := s0)) (fun _ H' => Same H H') (Same.refl _) (fun _ _ _ _ => trivial) ?_ ?_⟩
    · rintro i x H1 H2 hi s ⟨rfl, c, hc, rfl⟩
      have hc : s0.cps[i]? = some c := hc
      have f : chAt s0 i = chB c := by
        unfold chAt
        rw [hc]
      refine ⟨rfl, rfl, ?_⟩
      refine ⟨_, rfl, _, _, rfl, rfl, _, rfl, ?_⟩
      rw [lt_a]
      refine ite2 (fun c1 => ?_) (fun c1 => ?_)
      · refine ⟨_, _, rfl, rfl, ?_, s⟩
        rw [lt_z, f]
        show V.bl (!!decide (c ≤ 122)) = V.bl (decide (97 ≤ c) && decide (c ≤ 122))
        have c1 : (!!decide (97 ≤ c)) = true := c1
        rw [Bool.not_not] at c1 ⊢
        rw [c1, Bool.true_and]
      · refine ⟨?_, s⟩
        rw [f]
        show V.bl false = V.bl (decide (97 ≤ c) && decide (c ≤ 122))
        have c1 : ¬ (!!decide (97 ≤ c)) = true := c1
        rw [Bool.not_not] at c1
        rw [Bool.eq_false_iff.mpr c1, Bool.false_and]
    · refine ⟨chAt s0, rfl, fun i H2 _ S2 => ?_⟩
      have z := q _ S2
      have e : wordD (.str s0) = (((List.range s0.cps.size).filter fun _ => true).all (chAt s0)) := by
        rw [ch_all]
        show (decide (1 ≤ s0.length) && (decide (s0.length ≤ 8) && _)) = _
        rw [decide_eq_true c1, decide_eq_true c2, Bool.true_and, Bool.true_and]
      rw [e] at z
      exact z

theorem ok_is_tuple_of (F : Fun K "is_tuple_of" "is_tuple_of" s_is_tuple_of f_is_tuple_of d_is_tuple_of) (T : Txt mg f_is_number f_is_from_to f_is_word f_is_tuple_of f_is_note f_is_run f_is_runs f_is_apart f_lfeed f_ldraw f_lnames f_lat f_lrun f_llot f_lhas f_lmade f_lis_number f_lis_word f_lis_run f_lis_runs f_lis_note f_lodd f_lbent f_lmenu f_lthings f_law) :
    FnOk P w K mg base CX0 (1) f_is_tuple_of d_is_tuple_of ["thing", "many"] spKTup := by
  refine F.ok sc_is_tuple_of (fun vs H Q E h => ?_) (fun cdv A outer s H vs Q E hr h => ?_)

  · obtain ⟨v, d, N, m, rfl, _⟩ := h
    rfl
  obtain ⟨v, d, N, m, rfl, hd, q⟩ := h
  refine ⟨_, (pss_one (ps_ret (pe_and (pe_callB call_isi (by rfl) T.isinstance (by decide +kernel) (pa_cons (pv 0) (pa_cons (pe_bltn (v := .ty "tuple") (by rfl) T.tuple (by decide +kernel) rfl) pa_nil))) (pe_one (pe_cmpR op_eq (pe_callB call_len_seq (by rfl) T.len (by decide +kernel) (pa_cons (pv 0) pa_nil)) (pv 1) (nomark _)))))), ?_⟩
  have z := q H (Same.refl _)
  cases hd with
  | non => exact ⟨_, rfl, _, _, _, _, _, rfl, .ty _, .base .non, k_NoneType_tuple, _, rfl, iteF z⟩
  | bl b => exact ⟨_, rfl, _, _, _, _, _, rfl, .ty _, .base (.bl b), k_bool_tuple, _, rfl, iteF z⟩
  | int i => exact ⟨_, rfl, _, _, _, _, _, rfl, .ty _, .base (.int i), k_int_tuple, _, rfl, iteF z⟩
  | str x => exact ⟨_, rfl, _, _, _, _, _, rfl, .ty _, .base (.str x), k_str_tuple, _, rfl, iteF z⟩
  | lst _ h _ => exact ⟨_, rfl, _, _, _, _, _, rfl, .ty _, .base (.lst h), k_list_tuple, _, rfl, iteF z⟩
  | tup h a =>
    refine ⟨_, rfl, _, _, _, _, _, rfl, .ty _, .base (.tup h), k_tuple_tuple, _, rfl, iteT ?_⟩
    refine ⟨_, rfl, _, _, rfl, .inr (SqT.of h), _, rfl, rfl, ?_⟩
    rw [DnAll.len a]
    have e : ∀ x y : Int, decide (V.int x = V.int y) = decide (x = y) := fun x y => by simp
    rw [e]
    exact z

theorem ok_is_note (F : Fun K "is_note" "is_note" s_is_note f_is_note d_is_note) (T : Txt mg f_is_number f_is_from_to f_is_word f_is_tuple_of f_is_note f_is_run f_is_runs f_is_apart f_lfeed f_ldraw f_lnames f_lat f_lrun f_llot f_lhas f_lmade f_lis_number f_lis_word f_lis_run f_lis_runs f_lis_note f_lodd f_lbent f_lmenu f_lthings f_law)
    (F_is_tuple_of : Fun K "is_tuple_of" "is_tuple_of" s_is_tuple_of f_is_tuple_of d_is_tuple_of) (b_is_tuple_of : Binds K d_is_tuple_of ["thing", "many"] []) (G_is_tuple_of : FnOk P w K mg base CX0 (3) f_is_tuple_of d_is_tuple_of ["thing", "many"] spKTup)
    (F_is_word : Fun K "is_word" "is_word" s_is_word f_is_word d_is_word) (b_is_word : Binds K d_is_word ["thing"] []) (G_is_word : FnOk P w K mg base CX0 (3) f_is_word d_is_word ["thing"] (spKWord P_is_word))
    (F_is_from_to : Fun K "is_from_to" "is_from_to" s_is_from_to f_is_from_to d_is_from_to) (b_is_from_to : Binds K d_is_from_to ["thing", "least", "most"] []) (G_is_from_to : FnOk P w K mg base CX0 (3) f_is_from_to d_is_from_to ["thing", "least", "most"] spKFrom) :
    FnOk P w K mg base CX0 (4) f_is_note d_is_note ["thing"] (spKNote P_is_word) := by
  refine F.ok sc_is_note (fun vs H Q E h => ?_) (fun cdv A outer s H vs Q E hr h => ?_)

  · obtain ⟨v, d, N, rfl, _⟩ := h
    rfl
  obtain ⟨v, d, N, rfl, hd, sm, hP, q⟩ := h
  refine ⟨_, (pss_one (ps_ret (pe_and (pe_call G_is_tuple_of hr (by rfl) T.m_is_tuple_of F_is_tuple_of.kp b_is_tuple_of .nil pass0 (pa_cons (pv 0) (pa_cons pe_int pa_nil))) (pe_and (pe_call G_is_word hr (by rfl) T.m_is_word F_is_word.kp b_is_word .nil pass0 (pa_cons (pe_ix ix_tup (pv 0) pe_int (fun _ _ => rfl)) pa_nil)) (pe_one (pe_call G_is_from_to hr (by rfl) T.m_is_from_to F_is_from_to.kp b_is_from_to .nil pass0 (pa_cons (pe_ix ix_tup (pv 0) pe_int (fun _ _ => rfl)) (pa_cons pe_int (pa_cons (pe_op op_sub (pe_gint (by rfl) T.c_NUMBERS) pe_int) pa_nil))))))))), ?_⟩
  refine ⟨_, rfl, v, d, N, 2, rfl, hd, fun H1 S1 => ?_⟩
  refine ⟨_, rfl, ?_⟩
  by_cases c : tupN d (2 : Nat) = true
  rotate_left
  · have z := q _ S1
    rw [noteD_no c] at z
    exact (if_neg c).mpr z
  refine (if_pos c).mpr ?_
  obtain ⟨t, xs, ds, rfl, ht, rfl, hx, l2⟩ := tupN_iff hd c
  obtain ⟨a, b, rfl⟩ : ∃ a b, ds = [a, b] := by
    match ds, l2 with
    | [a, b], _ => exact ⟨a, b, rfl⟩
  match xs, hx with
  | [x, y], .cons h1 (.cons h2 .nil) =>
  have i1 : a ∈ [a, b] := List.mem_cons_self
  refine ⟨_, rfl, t, _, _, _, rfl, rfl, SqT.of (S1 _ _ ht), rfl, x, a, N, rfl, h1.same S1, sm.part i1, S1 _ _ hP, fun H2 S2 => ?_⟩
  refine ⟨_, rfl, ?_⟩
  refine ite2 (fun c1 => ?_) (fun c1 => ?_)
  · refine ⟨_, rfl, t, _, _, _, rfl, rfl, SqT.of (S2 _ _ (S1 _ _ ht)), rfl, _, _, rfl, rfl, y, b, N, 0, _, rfl, (h2.same S1).same S2, fun H3 S3 => ?_⟩
    have z := q _ (S1.trans (S2.trans S3))
    have e : noteD (.tuple [a, b]) = numD b 0 999999999 := by
      show (wordD a && _) = _
      rw [c1, Bool.true_and]
    rw [e] at z
    exact z
  · have z := q _ (S1.trans S2)
    have e : noteD (.tuple [a, b]) = false := by
      show (wordD a && _) = _
      rw [Bool.eq_false_iff.mpr c1, Bool.false_and]
    rw [e] at z
    exact z

theorem ok_is_run (F : Fun K "is_run" "is_run" s_is_run f_is_run d_is_run) (T : Txt mg f_is_number f_is_from_to f_is_word f_is_tuple_of f_is_note f_is_run f_is_runs f_is_apart f_lfeed f_ldraw f_lnames f_lat f_lrun f_llot f_lhas f_lmade f_lis_number f_lis_word f_lis_run f_lis_runs f_lis_note f_lodd f_lbent f_lmenu f_lthings f_law)
    (F_is_tuple_of : Fun K "is_tuple_of" "is_tuple_of" s_is_tuple_of f_is_tuple_of d_is_tuple_of) (b_is_tuple_of : Binds K d_is_tuple_of ["thing", "many"] []) (G_is_tuple_of : FnOk P w K mg base CX0 (3) f_is_tuple_of d_is_tuple_of ["thing", "many"] spKTup)
    (F_is_word : Fun K "is_word" "is_word" s_is_word f_is_word d_is_word) (b_is_word : Binds K d_is_word ["thing"] []) (G_is_word : FnOk P w K mg base CX0 (3) f_is_word d_is_word ["thing"] (spKWord P_is_word))
    (F_is_from_to : Fun K "is_from_to" "is_from_to" s_is_from_to f_is_from_to d_is_from_to) (b_is_from_to : Binds K d_is_from_to ["thing", "least", "most"] []) (G_is_from_to : FnOk P w K mg base CX0 (3) f_is_from_to d_is_from_to ["thing", "least", "most"] spKFrom) :
    FnOk P w K mg base CX0 (4) f_is_run d_is_run ["thing"] (spKRun P_is_word) := by
  refine F.ok sc_is_run (fun vs H Q E h => ?_) (fun cdv A outer s H vs Q E hr h => ?_)

  · obtain ⟨v, d, N, rfl, _⟩ := h
    rfl
  obtain ⟨v, d, N, rfl, hd, sm, hP, q⟩ := h
  refine ⟨_, (pss_cons (ps_if (pt_not (pt_val (pe_call G_is_tuple_of hr (by rfl) T.m_is_tuple_of F_is_tuple_of.kp b_is_tuple_of .nil pass0 (pa_cons (pv 0) (pa_cons pe_int pa_nil)))))
  (pss_one (ps_ret pe_bl))
  pss_nil)
  (pss_cons (ps_asg (pv 0) (pg_tup rfl (pgs_cons (pg_name (i := 1) sc_is_run.nd rfl (.inl rfl)) (pgs_cons (pg_name (i := 2) sc_is_run.nd rfl (.inl rfl)) (pgs_cons (pg_name (i := 3) sc_is_run.nd rfl (.inl rfl)) pgs_nil)))))
  (pss_one (ps_ret (pe_and (pe_call G_is_word hr (by rfl) T.m_is_word F_is_word.kp b_is_word .nil pass0 (pa_cons (pv 1) pa_nil)) (pe_and (pe_call G_is_from_to hr (by rfl) T.m_is_from_to F_is_from_to.kp b_is_from_to .nil pass0 (pa_cons (pv 2) (pa_cons pe_int (pa_cons (pe_op op_sub (pe_gint (by rfl) T.c_NUMBERS) pe_int) pa_nil)))) (pe_one (pe_call G_is_from_to hr (by rfl) T.m_is_from_to F_is_from_to.kp b_is_from_to .nil pass0 (pa_cons (pv 3) (pa_cons (pe_op op_add (pv 2) pe_int) (pa_cons (pe_gint (by rfl) T.c_NUMBERS) pa_nil))))))))))), ?_⟩
  refine ⟨_, rfl, v, d, N, 3, rfl, hd, fun H1 S1 => ?_⟩
  by_cases c : tupN d (3 : Nat) = true
  rotate_left
  · have z := q _ S1
    rw [runD_no c] at z
    refine ⟨false, congrArg V.bl (Bool.eq_false_iff.mpr c), ?_⟩
    exact z
  refine ⟨true, congrArg V.bl c, ?_⟩
  obtain ⟨t, xs, ds, rfl, ht, rfl, hx, l3⟩ := tupN_iff hd c
  obtain ⟨a, b, e, rfl⟩ : ∃ a b e, ds = [a, b, e] := by
    match ds, l3 with
    | [a, b, e], _ => exact ⟨a, b, e, rfl⟩
  match xs, hx with
  | [x, y, z], .cons h1 (.cons h2 (.cons h3 .nil)) =>
  have i1 : a ∈ [a, b, e] := List.mem_cons_self
  refine ⟨_, rfl, t, _, rfl, SqT.of (S1 _ _ ht), rfl, _, _, rfl, _, _, rfl, _, _, rfl, rfl, ?_⟩
  refine ⟨_, rfl, x, a, N, rfl, h1.same S1, sm.part i1, S1 _ _ hP, fun H2 S2 => ?_⟩
  have no : ∀ {Hx : Hp}, Same H Hx → runB a b e = false → Q (.bl false) Hx := fun S k => by
    have z := q _ S
    have k : runD (.tuple [a, b, e]) = false := k
    rw [k] at z
    exact z
  have S12 := S1.trans S2
  refine ⟨_, rfl, ?_⟩
  refine ite2 (fun c1 => ?_) (fun c1 => ?_)
  rotate_left
  · refine no S12 ?_
    exact runB_no (.inl (Bool.eq_false_iff.mpr c1))
  refine ⟨_, rfl, _, _, rfl, rfl, y, b, N, 0, _, rfl, h2.same S12, fun H3 S3 => ?_⟩
  have S13 := S12.trans S3
  refine ⟨_, rfl, ?_⟩
  refine ite2 (fun c2 => ?_) (fun c2 => ?_)
  rotate_left
  · refine no S13 ?_
    exact runB_no (.inr (.inl (Bool.eq_false_iff.mpr c2)))
  obtain ⟨i, rfl⟩ : ∃ i, b = .int i := by
    cases b with
    | int i => exact ⟨i, rfl⟩
    | _ => cases c2
  cases h2
  refine ⟨_, rfl, _, rfl, i, 1, rfl, rfl, z, e, N, i + 1, 1000000000, rfl, h3.same S13, fun H4 S4 => ?_⟩
  have z := q _ (S13.trans S4)
  have k : runD (.tuple [a, .int i, e]) = numD e (i + 1) 1000000000 := runB_yes c1 c2
  rw [k] at z
  exact z

theorem ok_is_runs (F : Fun K "is_runs" "is_runs" s_is_runs f_is_runs d_is_runs) (T : Txt mg f_is_number f_is_from_to f_is_word f_is_tuple_of f_is_note f_is_run f_is_runs f_is_apart f_lfeed f_ldraw f_lnames f_lat f_lrun f_llot f_lhas f_lmade f_lis_number f_lis_word f_lis_run f_lis_runs f_lis_note f_lodd f_lbent f_lmenu f_lthings f_law)
    (F_is_run : Fun K "is_run" "is_run" s_is_run f_is_run d_is_run) (b_is_run : Binds K d_is_run ["thing"] []) (G_is_run : FnOk P w K mg base CX0 (4) f_is_run d_is_run ["thing"] (spKRun P_is_word))
    (F_is_apart : Fun K "is_apart" "is_apart" s_is_apart f_is_apart d_is_apart) (b_is_apart : Binds K d_is_apart ["run", "later"] []) (G_is_apart : FnOk P w K mg base CX0 (4) f_is_apart d_is_apart ["run", "later"] spApart)
    (hc_is_runs : d_is_runs.code = .ref c_is_runs) (TB_is_runs : GxR.TabB base mg c_is_runs P_is_runs) :
    FnOk P w K mg base CX0 (6) f_is_runs d_is_runs ["thing"] (spKRuns P_is_runs P_is_word) := by
  refine okT F hc_is_runs sc_is_runs (fun vs H Q E h => ?_) (fun A outer s H vs Q E hr h => ?_)

  · obtain ⟨v, d, N, rfl, _⟩ := h
    rfl
  obtain ⟨v, d, N, rfl, hd, sm, hP1, hP2, q⟩ := h
  refine ⟨_, (pss_cons (ps_if (pt_not (pt_val (pe_callB call_isi (by rfl) T.isinstance (by decide +kernel) (pa_cons (pv 0) (pa_cons (pe_bltn (v := .ty "tuple") (by rfl) T.tuple (by decide +kernel) rfl) pa_nil)))))
  (pss_one (ps_ret pe_bl))
  pss_nil)
  (pss_cons (ps_if (pt_not (pt_val (pe_allG (own := [("run", 1)]) (g := (gName 1)) hr (by rfl) T.all sc_is_runs.nd TB_is_runs rfl (pi_tup (pv 0)) (blkOk_by (own := [("run", 1)]) (N := ["thing", "run", "at"]) (sc := defScope s_is_runs) (by decide +kernel)) (by decide +kernel) (fun _ _ _ _ _ => (pg_name (i := 1) sc_is_runs.nd rfl (.inl rfl))) (fun _ _ _ _ _ => pts_nil) (fun _ _ _ _ _ => (pe_call G_is_run ((room_gx hr).mono (by decide)) (by rfl) T.m_is_run F_is_run.kp b_is_run .nil pass0 (pa_cons (pv 1) pa_nil))))))
  (pss_one (ps_ret pe_bl))
  pss_nil)
  (pss_one (ps_ret (pe_allG (own := [("at", 2)]) (g := (gName 2)) hr (by rfl) T.all sc_is_runs.nd TB_is_runs rfl (pi_range2 (by rfl) T.range (pa_cons pe_int (pa_cons (pe_callB call_len_seq (by rfl) T.len (by decide +kernel) (pa_cons (pv 0) pa_nil)) pa_nil))) (blkOk_by (own := [("at", 2)]) (N := ["thing", "run", "at"]) (sc := defScope s_is_runs) (by decide +kernel)) (by decide +kernel) (fun _ _ _ _ _ => (pg_name (i := 2) sc_is_runs.nd rfl (.inl rfl))) (fun _ _ _ _ _ => pts_nil) (fun _ _ _ _ _ => (pe_call G_is_apart ((room_gx hr).mono (by decide)) (by rfl) T.m_is_apart F_is_apart.kp b_is_apart .nil pass0 (pa_cons (pe_ix (show IxR _ (rIxT K) from ix_tup) (pv 0) (pe_op op_sub (pv 2) pe_int) (fun _ _ => rfl)) (pa_cons (pe_ix (show IxR _ (rIxT K) from ix_tup) (pv 0) (pv 2) (fun _ _ => rfl)) pa_nil))))))))), ?_⟩
  rcases hd.cases with ⟨a, xs, ds, rfl, rfl, ha, hxs⟩ | nt
  rotate_left
  · obtain ⟨ty, n1, n2⟩ := noTup_of (K := K) hd.dp nt
    have z := q _ (Same.refl _)
    rw [runsD_no nt] at z
    refine ⟨_, rfl, _, _, _, _, _, rfl, .ty _, n1, n2, ?_⟩
    exact ⟨false, rfl, z⟩
  have ln := hxs.len
  have sl := sm.len
  refine ⟨_, rfl, _, _, _, _, _, rfl, .ty _, .base (.tup ha), k_tuple_tuple, ?_⟩
  refine ⟨true, rfl, ?_⟩
  refine ⟨_, rfl, a, rfl, ⟨_, SqT.of ha⟩, hP1, xs.length, fun _ => true, (fun i => .bl (atD runD ds i)), (fun _ H' => Same H H'), gx_it (walk_tup (K := K) (a := a) (xs := xs)) (fun _ H' => Same H H') (Same.refl _) (fun i H' _ s => SqT.of (s _ _ ha)) ?_ ?_⟩
  · rintro i x H1 H2 hi s ⟨rfl, hx⟩
    obtain ⟨d, d1, d2⟩ := hxs.get hx
    refine ⟨rfl, rfl, ?_⟩
    exact ⟨_, rfl, x, d, N, rfl, d2.same s, sm.part (List.mem_of_getElem? d1), s _ _ hP2, fun H3 S3 => ⟨by rw [atD_some d1], s.trans S3⟩⟩
  refine ⟨atD runD ds, rfl, fun i H1 _ S1 => ?_⟩
  rw [ln]
  by_cases c : (((List.range ds.length).filter fun _ => true).all (atD runD ds)) = true
  rotate_left
  · have z := q _ S1
    have e : runsD (.tuple ds) = false := by
      show (_ && _) = false
      rw [Bool.eq_false_iff.mpr c, Bool.false_and]
    rw [e] at z
    rw [Bool.eq_false_iff.mpr c]
    exact ⟨false, rfl, z⟩
  have all := at_all c
  rw [c]
  refine ⟨true, rfl, ?_⟩
  have e1 : (((xs.length : Nat) : Int) - 1).toNat = ds.length - 1 := by omega
  refine ⟨_, rfl, a, _, rfl, .inr (SqT.of (S1 _ _ ha)), 1, _, rfl, by omega, S1 _ _ hP1, (((xs.length : Nat) : Int) - 1).toNat, fun _ => true, (fun i => .bl (nextD ds i)), (fun _ H' => Same H H'), gx_it (walk_range (lo := 1) (n := (((xs.length : Nat) : Int) - 1).toNat)) (fun _ H' => Same H H') S1 (fun _ _ _ _ => trivial) ?_ ?_⟩
  · rintro i x H2 H3 hi s ⟨rfl, rfl⟩
    have h1 : i + 1 < xs.length := by omega
    obtain ⟨u, hu⟩ : ∃ u, xs[i]? = some u := ⟨_, List.getElem?_eq_getElem (by omega)⟩
    obtain ⟨v, hv⟩ : ∃ v, xs[i + 1]? = some v := ⟨_, List.getElem?_eq_getElem (by omega)⟩
    obtain ⟨du, hdu, du2⟩ := hxs.get hu
    obtain ⟨dv, hdv, dv2⟩ := hxs.get hv
    obtain ⟨r, rfl, _, _⟩ := runD_rn (all _ (List.mem_of_getElem? hdu))
    obtain ⟨r', rfl, _, _⟩ := runD_rn (all _ (List.mem_of_getElem? hdv))
    obtain ⟨pu, rfl, hpu⟩ := dn_rn du2
    obtain ⟨pv, rfl, hpv⟩ := dn_rn dv2
    have aa : atI xs (1 + (i : Int) - 1) = some (.ref pu) := by
      rw [show 1 + (i : Int) - 1 = (i : Nat) by omega]
      exact atI_nat hu
    have ab : atI xs (1 + (i : Int)) = some (.ref pv) := by
      rw [show 1 + (i : Int) = ((i + 1 : Nat) : Int) by omega]
      exact atI_nat hv
    have ha2 := s _ _ ha
    refine ⟨rfl, rfl, ?_⟩
    refine ⟨_, rfl, _, rfl, _, _, rfl, rfl, a, _, _, _, rfl, rfl, SqT.of ha2, aa, _, rfl, _, rfl, a, _, _, _, rfl, rfl, SqT.of ha2, ab, pu, pv, r, r', rfl, s _ _ hpu, s _ _ hpv, congrArg V.bl (nextD_some hdu hdv).symm, s⟩
  refine ⟨nextD ds, rfl, fun i H2 _ S2 => ?_⟩
  rw [e1]
  have z := q _ S2
  have e : runsD (.tuple ds) = (((List.range (ds.length - 1)).filter fun _ => true).all (nextD ds)) := by
    show (_ && _) = _
    rw [c, Bool.true_and]
  rw [e] at z
  exact z

theorem ok_lis_number (F : Fun K "_law_is_number" "_law_is_number" s_lis_number f_lis_number d_lis_number) (T : Txt mg f_is_number f_is_from_to f_is_word f_is_tuple_of f_is_note f_is_run f_is_runs f_is_apart f_lfeed f_ldraw f_lnames f_lat f_lrun f_llot f_lhas f_lmade f_lis_number f_lis_word f_lis_run f_lis_runs f_lis_note f_lodd f_lbent f_lmenu f_lthings f_law) :
    FnOk P w K mg base CX0 (1) f_lis_number d_lis_number ["_law_thing", "_law_least", "_law_most"] spKFrom := by
  refine F.ok sc_lis_number (fun vs H Q E h => ?_) (fun cdv A outer s H vs Q E hr h => ?_)

  · obtain ⟨v, d, N, lo, hi, rfl, _⟩ := h
    rfl
  obtain ⟨v, d, N, lo, hi, rfl, hd, q⟩ := h
  refine ⟨_, (pss_one (ps_ret (pe_and (pe_callB call_isi (by rfl) T.isinstance (by decide +kernel) (pa_cons (pv 0) (pa_cons (pe_bltn (v := .ty "int") (by rfl) T.int (by decide +kernel) rfl) pa_nil))) (pe_and (pe_not (pe_callB call_isi (by rfl) T.isinstance (by decide +kernel) (pa_cons (pv 0) (pa_cons (pe_bltn (v := .ty "bool") (by rfl) T.bool (by decide +kernel) rfl) pa_nil)))) (pe_one (pe_chain op_le op_le (pv 1) (pv 0) (pv 2))))))), ?_⟩
  have S1 := Same.refl H
  have z := q H (Same.refl _)
  cases hd with
  | non => exact ⟨_, rfl, _, _, _, _, _, rfl, .ty _, .base .non, k_NoneType_int, _, rfl, iteF z⟩
  | str x => exact ⟨_, rfl, _, _, _, _, _, rfl, .ty _, .base (.str x), k_str_int, _, rfl, iteF z⟩
  | lst _ h _ => exact ⟨_, rfl, _, _, _, _, _, rfl, .ty _, .base (.lst h), k_list_int, _, rfl, iteF z⟩
  | tup h _ => exact ⟨_, rfl, _, _, _, _, _, rfl, .ty _, .base (.tup h), k_tuple_int, _, rfl, iteF z⟩
  | bl b => exact ⟨_, rfl, _, _, _, _, _, rfl, .ty _, .base (.bl b), k_bool_int, _, rfl, iteT ⟨_, rfl, _, _, _, _, _, rfl, .ty _, .base (.bl b), k_bool_bool, _, rfl, _, rfl, iteF z⟩⟩
  | int i =>
  clear z
  refine ⟨_, rfl, _, _, _, _, _, rfl, .ty _, .base (.int i), k_int_int, _, rfl, iteT ?_⟩
  refine ⟨_, rfl, _, _, _, _, _, rfl, .ty _, .base (.int i), k_int_bool, _, rfl, _, rfl, iteT ?_⟩
  refine ⟨_, rfl, _, rfl, _, _, rfl, rfl, _, rfl, ?_⟩
  refine ite2 (fun c1 => ?_) (fun c1 => ?_)
  · refine ⟨_, rfl, _, _, rfl, rfl, ?_⟩
    have z := q _ S1
    have e : numD (.int i) lo hi = decide (i ≤ hi) := by
      show (decide (lo ≤ i) && decide (i ≤ hi)) = _
      rw [c1, Bool.true_and]
    rw [e] at z
    exact z
  · have z := q _ S1
    have e : numD (.int i) lo hi = false := by
      show (decide (lo ≤ i) && decide (i ≤ hi)) = _
      rw [Bool.eq_false_iff.mpr c1, Bool.false_and]
    rw [e] at z
    exact z

theorem ok_lis_word (F : Fun K "_law_is_word" "_law_is_word" s_lis_word f_lis_word d_lis_word) (T : Txt mg f_is_number f_is_from_to f_is_word f_is_tuple_of f_is_note f_is_run f_is_runs f_is_apart f_lfeed f_ldraw f_lnames f_lat f_lrun f_llot f_lhas f_lmade f_lis_number f_lis_word f_lis_run f_lis_runs f_lis_note f_lodd f_lbent f_lmenu f_lthings f_law) :
    FnOk P w K mg base CX0 (1) f_lis_word d_lis_word ["_law_thing"] (spKWord P_is_word) := by
  refine F.ok sc_lis_word (fun vs H Q E h => ?_) (fun cdv A outer s H vs Q E hr h => ?_)

  · obtain ⟨v, d, N, rfl, _⟩ := h
    rfl
  obtain ⟨v, d, N, rfl, hd, dp, hP, q⟩ := h
  refine ⟨_, (pss_one (ps_ret (pe_and (pe_callB call_isi (by rfl) T.isinstance (by decide +kernel) (pa_cons (pv 0) (pa_cons (pe_bltn (v := .ty "str") (by rfl) T.str (by decide +kernel) rfl) pa_nil))) (pe_and (pe_chain op_le op_le pe_int (pe_callB call_len_str (by rfl) T.len (by decide +kernel) (pa_cons (pv 0) pa_nil)) pe_int) (pe_one (pe_callB (cr_all rfl) (by rfl) T.all (by decide +kernel) (pa_cons (pe_lc (own := [("_law_sign", 1)]) (g := (gName 1)) (by rfl) sc_lis_word.nd (pi_str (pv 0)) (blkOk_by (own := [("_law_sign", 1)]) (N := ["_law_thing", "_law_sign"]) (sc := defScope s_lis_word) (by decide +kernel)) (fun _ _ _ _ _ => (pg_name (i := 1) sc_lis_word.nd rfl (.inl rfl))) (fun _ _ _ _ _ => pts_nil) (fun _ _ _ _ _ => (pe_chain op_le_str op_le_str pe_str (pv 1) pe_str))) pa_nil))))))), ?_⟩
  have z := q H (Same.refl _)
  cases hd with
  | non => exact ⟨_, rfl, _, _, _, _, _, rfl, .ty _, .base .non, k_NoneType_str, _, rfl, iteF z⟩
  | bl b => exact ⟨_, rfl, _, _, _, _, _, rfl, .ty _, .base (.bl b), k_bool_str, _, rfl, iteF z⟩
  | int i => exact ⟨_, rfl, _, _, _, _, _, rfl, .ty _, .base (.int i), k_int_str, _, rfl, iteF z⟩
  | lst _ h _ => exact ⟨_, rfl, _, _, _, _, _, rfl, .ty _, .base (.lst h), k_list_str, _, rfl, iteF z⟩
  | tup h _ => exact ⟨_, rfl, _, _, _, _, _, rfl, .ty _, .base (.tup h), k_tuple_str, _, rfl, iteF z⟩
  | str s0 =>
    refine ⟨_, rfl, _, _, _, _, _, rfl, .ty _, .base (.str s0), k_str_str, _, rfl, iteT ?_⟩
    have w : wordD (.str s0) = (decide (1 ≤ s0.length) && (decide (s0.length ≤ 8) && s0.cps.toList.all chB)) := rfl
    refine ⟨_, rfl, s0, rfl, dp.str, _, _, rfl, rfl, _, rfl, ?_⟩
    refine ite2 (fun c1 => ?_) (fun c1 => ?_)
    rotate_left
    · have c1 : ¬ s0.length ≥ 1 := fun k => c1 (decide_eq_true (by omega))
      rw [w, decide_eq_false (show ¬ 1 ≤ s0.length from c1), Bool.false_and] at z
      exact ⟨_, rfl, iteF z⟩
    have c1 : 1 ≤ s0.length := by
      have k := of_decide_eq_true c1
      omega
    refine ⟨_, _, rfl, rfl, _, rfl, ?_⟩
    refine ite2 (fun c2 => ?_) (fun c2 => ?_)
    rotate_left
    · have c2 : ¬ s0.length ≤ 8 := fun k => c2 (decide_eq_true (by omega))
      rw [w, decide_eq_false c2, Bool.false_and, Bool.and_false] at z
      exact z
    have c2 : s0.length ≤ 8 := by
      have k := of_decide_eq_true c2
      omega
    clear z
    refine ⟨_, rfl, s0, rfl, fun D hD => ?_⟩
    refine lc_it (walk_str (z := s0)) (fun i H' => Same H H' ∧ H' D = some (.lst (((List.range i).map (chAt s0)).map V.bl))) ⟨same_new hD _, upd_same⟩ (fun _ _ _ _ => trivial) ?_ ?_
    · rintro i x H1 H2 hi ⟨s, hD1⟩ ⟨rfl, c, hc, rfl⟩
      have hc : s0.cps[i]? = some c := hc
      have f : chAt s0 i = (decide (97 ≤ c) && decide (c ≤ 122)) := by
        unfold chAt
        rw [hc]
        rfl
      have put : ∀ b : Bool, b = chAt s0 i → ∃ acc, H2 D = some (.lst acc) ∧ acc.length < sizeLine ∧ Same H (upd H2 D (.lst (acc ++ [.bl b]))) ∧ upd H2 D (.lst (acc ++ [.bl b])) D = some (.lst (((List.range (i + 1)).map (chAt s0)).map V.bl)) := fun b e => by
        refine ⟨_, hD1, ?_, same_mut s hD, ?_⟩
        · rw [List.length_map, List.length_map, List.length_range]
          exact Nat.lt_of_lt_of_le hi (Nat.le_trans c2 (by decide))
        · rw [upd_same, List.range_succ, List.map_append, List.map_append, e]
          rfl
      refine ⟨rfl, ?_⟩
      refine ⟨_, rfl, _, _, rfl, rfl, _, rfl, ?_⟩
      rw [lt_a]
      refine ite2 (fun k1 => ?_) (fun k1 => ?_)
      · refine ⟨_, _, rfl, rfl, ?_⟩
        rw [lt_z]
        have k1 : (!!decide (97 ≤ c)) = true := k1
        rw [Bool.not_not] at k1
        exact put _ (by rw [f, k1, Bool.true_and, Bool.not_not])
      · have k1 : ¬ (!!decide (97 ≤ c)) = true := k1
        rw [Bool.not_not] at k1
        exact put _ (by rw [f, Bool.eq_false_iff.mpr k1, Bool.false_and])
    · rintro H1 ⟨s, hD1⟩
      refine ⟨D, _, rfl, SqL.of hD1, ?_⟩
      have z := q _ s
      rw [w, decide_eq_true c1, decide_eq_true c2, Bool.true_and, Bool.true_and, ← ch_all] at z
      rw [List.all_map]
      have e : ((List.range s0.cps.size).filter fun _ => true) = List.range s0.cps.size := List.filter_eq_self.mpr fun _ _ => rfl
      rw [e] at z
      exact z

theorem ok_lis_note (F : Fun K "_law_is_note" "_law_is_note" s_lis_note f_lis_note d_lis_note) (T : Txt mg f_is_number f_is_from_to f_is_word f_is_tuple_of f_is_note f_is_run f_is_runs f_is_apart f_lfeed f_ldraw f_lnames f_lat f_lrun f_llot f_lhas f_lmade f_lis_number f_lis_word f_lis_run f_lis_runs f_lis_note f_lodd f_lbent f_lmenu f_lthings f_law)
    (F_lis_word : Fun K "_law_is_word" "_law_is_word" s_lis_word f_lis_word d_lis_word) (b_lis_word : Binds K d_lis_word ["_law_thing"] []) (G_lis_word : FnOk P w K mg base CX0 (1) f_lis_word d_lis_word ["_law_thing"] (spKWord P_is_word))
    (F_lis_number : Fun K "_law_is_number" "_law_is_number" s_lis_number f_lis_number d_lis_number) (b_lis_number : Binds K d_lis_number ["_law_thing", "_law_least", "_law_most"] []) (G_lis_number : FnOk P w K mg base CX0 (1) f_lis_number d_lis_number ["_law_thing", "_law_least", "_law_most"] spKFrom) :
    FnOk P w K mg base CX0 (2) f_lis_note d_lis_note ["_law_thing"] (spKNote P_is_word) := by
  refine F.ok sc_lis_note (fun vs H Q E h => ?_) (fun cdv A outer s H vs Q E hr h => ?_)

  · obtain ⟨v, d, N, rfl, _⟩ := h
    rfl
  obtain ⟨v, d, N, rfl, hd, sm, hP, q⟩ := h
  refine ⟨_, (pss_cons (ps_if (PW.pt (pw_or (pt_not (pt_val (pe_callB call_isi (by rfl) T.isinstance (by decide +kernel) (pa_cons (pv 0) (pa_cons (pe_bltn (v := .ty "tuple") (by rfl) T.tuple (by decide +kernel) rfl) pa_nil))))) (pw_or1 (pt_cmpR op_ne (pe_callB call_len_seq (by rfl) T.len (by decide +kernel) (pa_cons (pv 0) pa_nil)) pe_int (nomark _)))))
  (pss_one (ps_ret pe_bl))
  pss_nil)
  (pss_one (ps_ret (pe_and (pe_call G_lis_word hr (by rfl) T.m_lis_word F_lis_word.kp b_lis_word .nil pass0 (pa_cons (pe_ix ix_tup (pv 0) pe_int (fun _ _ => rfl)) pa_nil)) (pe_one (pe_call G_lis_number hr (by rfl) T.m_lis_number F_lis_number.kp b_lis_number .nil pass0 (pa_cons (pe_ix ix_tup (pv 0) pe_int (fun _ _ => rfl)) (pa_cons pe_int (pa_cons pe_int pa_nil))))))))), ?_⟩
  rcases hd.cases with ⟨t, xs, ds, rfl, rfl, ht, hx⟩ | nt
  rotate_left
  · obtain ⟨ty, n1, n2⟩ := noTup_of (K := K) hd.dp nt
    have z := q _ (Same.refl _)
    rw [noteD_nt nt] at z
    exact ⟨_, rfl, _, _, _, _, _, rfl, .ty _, n1, n2, _, rfl, iteT z⟩
  refine ⟨_, rfl, _, _, _, _, _, rfl, .ty _, .base (.tup ht), k_tuple_tuple, _, rfl, iteF ?_⟩
  refine ⟨_, rfl, _, _, rfl, .inr (SqT.of ht), rfl, _, rfl, ?_⟩
  have lx := hx.len
  by_cases c : ds.length = 2
  rotate_left
  · have e : (!decide (V.int ((xs.length : Nat) : Int) = V.int 2)) = true := by
      simp
      omega
    rw [e]
    have z := q _ (Same.refl _)
    rw [noteD_no (fun k => c (by have k := of_decide_eq_true (p := (((ds.length : Nat) : Int) = ((2 : Nat) : Int))) k; omega))] at z
    exact iteT z
  have e : (!decide (V.int ((xs.length : Nat) : Int) = V.int 2)) = false := by
    simp
    omega
  rw [e]

  refine iteF ?_
  obtain ⟨a, b, rfl⟩ : ∃ a b, ds = [a, b] := by
    match ds, c with
    | [a, b], _ => exact ⟨a, b, rfl⟩
  match xs, hx with
  | [x, y], .cons h1 (.cons h2 .nil) =>
  have i1 : a ∈ [a, b] := List.mem_cons_self
  refine ⟨_, rfl, t, _, _, _, rfl, rfl, SqT.of ht, rfl, x, a, N, rfl, h1, sm.part i1, hP, fun H2 S2 => ?_⟩
  refine ⟨_, rfl, ?_⟩
  refine ite2 (fun c1 => ?_) (fun c1 => ?_)
  · refine ⟨_, rfl, t, _, _, _, rfl, rfl, SqT.of (S2 _ _ ht), rfl, y, b, N, 0, _, rfl, h2.same S2, fun H3 S3 => ?_⟩
    have z := q _ (S2.trans S3)
    have e : noteD (.tuple [a, b]) = numD b 0 999999999 := by
      show (wordD a && _) = _
      rw [c1, Bool.true_and]
    rw [e] at z
    exact z
  · have z := q _ S2
    have e : noteD (.tuple [a, b]) = false := by
      show (wordD a && _) = _
      rw [Bool.eq_false_iff.mpr c1, Bool.false_and]
    rw [e] at z
    exact z

theorem ok_lis_run (F : Fun K "_law_is_run" "_law_is_run" s_lis_run f_lis_run d_lis_run) (T : Txt mg f_is_number f_is_from_to f_is_word f_is_tuple_of f_is_note f_is_run f_is_runs f_is_apart f_lfeed f_ldraw f_lnames f_lat f_lrun f_llot f_lhas f_lmade f_lis_number f_lis_word f_lis_run f_lis_runs f_lis_note f_lodd f_lbent f_lmenu f_lthings f_law)
    (F_lis_word : Fun K "_law_is_word" "_law_is_word" s_lis_word f_lis_word d_lis_word) (b_lis_word : Binds K d_lis_word ["_law_thing"] []) (G_lis_word : FnOk P w K mg base CX0 (1) f_lis_word d_lis_word ["_law_thing"] (spKWord P_is_word))
    (F_lis_number : Fun K "_law_is_number" "_law_is_number" s_lis_number f_lis_number d_lis_number) (b_lis_number : Binds K d_lis_number ["_law_thing", "_law_least", "_law_most"] []) (G_lis_number : FnOk P w K mg base CX0 (1) f_lis_number d_lis_number ["_law_thing", "_law_least", "_law_most"] spKFrom) :
    FnOk P w K mg base CX0 (2) f_lis_run d_lis_run ["_law_thing"] (spKRun P_is_word) := by
  refine F.ok sc_lis_run (fun vs H Q E h => ?_) (fun cdv A outer s H vs Q E hr h => ?_)

  · obtain ⟨v, d, N, rfl, _⟩ := h
    rfl
  obtain ⟨v, d, N, rfl, hd, sm, hP, q⟩ := h
  refine ⟨_, (pss_cons (ps_if (PW.pt (pw_or (pt_not (pt_val (pe_callB call_isi (by rfl) T.isinstance (by decide +kernel) (pa_cons (pv 0) (pa_cons (pe_bltn (v := .ty "tuple") (by rfl) T.tuple (by decide +kernel) rfl) pa_nil))))) (pw_or (pt_cmpR op_ne (pe_callB call_len_seq (by rfl) T.len (by decide +kernel) (pa_cons (pv 0) pa_nil)) pe_int (nomark _)) (pw_or1 (pt_not (pt_val (pe_call G_lis_word hr (by rfl) T.m_lis_word F_lis_word.kp b_lis_word .nil pass0 (pa_cons (pe_ix ix_tup (pv 0) pe_int (fun _ _ => rfl)) pa_nil))))))))
  (pss_one (ps_ret pe_bl))
  pss_nil)
  (pss_cons (ps_if (PW.pt (pw_or (pt_not (pt_val (pe_call G_lis_number hr (by rfl) T.m_lis_number F_lis_number.kp b_lis_number .nil pass0 (pa_cons (pe_ix ix_tup (pv 0) pe_int (fun _ _ => rfl)) (pa_cons pe_int (pa_cons (pe_op op_pow pe_int pe_int) pa_nil)))))) (pw_or1 (pt_not (pt_val (pe_call G_lis_number hr (by rfl) T.m_lis_number F_lis_number.kp b_lis_number .nil pass0 (pa_cons (pe_ix ix_tup (pv 0) pe_int (fun _ _ => rfl)) (pa_cons pe_int (pa_cons (pe_op op_pow pe_int pe_int) pa_nil)))))))))
  (pss_one (ps_ret pe_bl))
  pss_nil)
  (pss_one (ps_ret (pe_cmpR op_gt (pe_ix ix_tup (pv 0) pe_int (fun _ _ => rfl)) (pe_ix ix_tup (pv 0) pe_int (fun _ _ => rfl)) (nomark _)))))), ?_⟩
  rcases hd.cases with ⟨t, xs, ds, rfl, rfl, ht, hx⟩ | nt
  rotate_left
  · obtain ⟨ty, n1, n2⟩ := noTup_of (K := K) hd.dp nt
    have z := q _ (Same.refl _)
    rw [runD_nt nt] at z
    exact ⟨_, rfl, _, _, _, _, _, rfl, .ty _, n1, n2, _, rfl, iteT z⟩
  refine ⟨_, rfl, _, _, _, _, _, rfl, .ty _, .base (.tup ht), k_tuple_tuple, _, rfl, iteF ?_⟩
  refine ⟨_, rfl, _, _, rfl, .inr (SqT.of ht), rfl, _, rfl, ?_⟩
  have lx := hx.len
  by_cases c : ds.length = 3
  rotate_left
  · have e : (!decide (V.int ((xs.length : Nat) : Int) = V.int 3)) = true := by
      simp
      omega
    rw [e]
    have z := q _ (Same.refl _)
    rw [runD_no (fun k => c (by have k := of_decide_eq_true (p := (((ds.length : Nat) : Int) = ((3 : Nat) : Int))) k; omega))] at z
    exact iteT z
  have e : (!decide (V.int ((xs.length : Nat) : Int) = V.int 3)) = false := by
    simp
    omega
  rw [e]

  refine iteF ?_
  obtain ⟨a, b, u, rfl⟩ : ∃ a b u, ds = [a, b, u] := by
    match ds, c with
    | [a, b, u], _ => exact ⟨a, b, u, rfl⟩
  match xs, hx with
  | [x, y, z], .cons h1 (.cons h2 (.cons h3 .nil)) =>
  have i1 : a ∈ [a, b, u] := List.mem_cons_self
  have rd : runD (.tuple [a, b, u]) = runB a b u := rfl
  rw [rd] at q
  refine ⟨_, rfl, t, _, _, _, rfl, rfl, SqT.of ht, rfl, x, a, N, rfl, h1, sm.part i1, hP, fun H2 S2 => ?_⟩
  have e9 : (10 : Int) ^ (9 : Int).toNat = 1000000000 := by decide +kernel
  have no : ∀ {Hx : Hp}, Same H Hx → runB a b u = false → Q (.bl false) Hx := fun S k => by
    have z := q _ S
    rw [k] at z
    exact z
  have cp : CPow 10 9 := ⟨by decide, by decide, by decide⟩
  refine ⟨_, rfl, ?_⟩
  refine ite2 (fun c1 => ?_) (fun c1 => ?_)
  · have c1 : (!wordD a) = true := c1
    exact no S2 (runB_no (.inl (by simpa using c1)))
  have c1 : wordD a = true := by
    have c1 : ¬ (!wordD a) = true := c1
    simpa using c1
  refine ⟨_, rfl, t, _, _, _, rfl, rfl, SqT.of (S2 _ _ ht), rfl, 10, 9, rfl, rfl, cp, y, b, N, 0, _, rfl, h2.same S2, fun H3 S3 => ?_⟩
  rw [e9]
  have S3 := S2.trans S3
  refine ⟨_, rfl, ?_⟩
  refine ite2 (fun c2 => ?_) (fun c2 => ?_)
  · refine no S3 ?_
    rw [Bool.eq_false_iff]
    intro k
    obtain ⟨s, i, j, rfl, rfl, rfl, g1, g2, g3, g4⟩ := runB_int k
    have c2 : (!(decide (0 ≤ i) && decide (i ≤ 1000000000))) = true := c2
    rw [decide_eq_true g2, decide_eq_true (by omega)] at c2
    cases c2
  have c2 : numD b 0 1000000000 = true := by
    have c2 : ¬ (!numD b 0 1000000000) = true := c2
    simpa using c2
  obtain ⟨i, rfl⟩ : ∃ i, b = .int i := by
    cases b with
    | int i => exact ⟨i, rfl⟩
    | _ => cases c2
  refine ⟨_, rfl, t, _, _, _, rfl, rfl, SqT.of (S3 _ _ ht), rfl, 10, 9, rfl, rfl, cp, z, u, N, 0, _, rfl, h3.same S3, fun H4 S4 => ?_⟩
  rw [e9]
  have S4 := S3.trans S4
  refine ⟨_, rfl, ?_⟩
  refine ite2 (fun c3 => ?_) (fun c3 => ?_)
  · refine no S4 ?_
    rw [Bool.eq_false_iff]
    intro k
    obtain ⟨s, i, j, rfl, e, rfl, g1, g2, g3, g4⟩ := runB_int k
    have c3 : (!(decide (0 ≤ j) && decide (j ≤ 1000000000))) = true := c3
    rw [decide_eq_true (by omega), decide_eq_true g4] at c3
    cases c3
  have c3 : numD u 0 1000000000 = true := by
    have c3 : ¬ (!numD u 0 1000000000) = true := c3
    simpa using c3
  obtain ⟨j, rfl⟩ : ∃ j, u = .int j := by
    cases u with
    | int i => exact ⟨i, rfl⟩
    | _ => cases c3
  cases h2
  cases h3
  refine ⟨_, rfl, t, _, _, _, rfl, rfl, SqT.of (S4 _ _ ht), rfl, _, rfl, t, _, _, _, rfl, rfl, SqT.of (S4 _ _ ht), rfl, _, _, rfl, rfl, ?_⟩
  have z := q _ S4
  have k : runB a (.int i) (.int j) = decide (i < j) := by
    show (wordD a && ((decide (0 ≤ i) && decide (i ≤ 999999999)) && (decide (i + 1 ≤ j) && decide (j ≤ 1000000000)))) = _
    have c2 : (decide (0 ≤ i) && decide (i ≤ 1000000000)) = true := c2
    have c3 : (decide (0 ≤ j) && decide (j ≤ 1000000000)) = true := c3
    rw [Bool.and_eq_true] at c2 c3
    have g1 := of_decide_eq_true c2.1
    have g2 := of_decide_eq_true c2.2
    have g3 := of_decide_eq_true c3.1
    have g4 := of_decide_eq_true c3.2
    rw [c1, decide_eq_true g1, decide_eq_true g4, Bool.true_and, Bool.true_and, Bool.and_true]
    by_cases l : i < j
    · rw [decide_eq_true l, decide_eq_true (by omega), decide_eq_true (by omega)]
      rfl
    · rw [decide_eq_false l, decide_eq_false (show ¬ i + 1 ≤ j by omega), Bool.and_false]
  rw [k] at z
  exact z

theorem ok_lis_runs (F : Fun K "_law_is_runs" "_law_is_runs" s_lis_runs f_lis_runs d_lis_runs) (T : Txt mg f_is_number f_is_from_to f_is_word f_is_tuple_of f_is_note f_is_run f_is_runs f_is_apart f_lfeed f_ldraw f_lnames f_lat f_lrun f_llot f_lhas f_lmade f_lis_number f_lis_word f_lis_run f_lis_runs f_lis_note f_lodd f_lbent f_lmenu f_lthings f_law)
    (F_lis_run : Fun K "_law_is_run" "_law_is_run" s_lis_run f_lis_run d_lis_run) (b_lis_run : Binds K d_lis_run ["_law_thing"] []) (G_lis_run : FnOk P w K mg base CX0 (2) f_lis_run d_lis_run ["_law_thing"] (spKRun P_is_word)) :
    FnOk P w K mg base CX0 (3) f_lis_runs d_lis_runs ["_law_thing"] (spKRuns P_is_runs P_is_word) := by
  refine F.ok sc_lis_runs (fun vs H Q E h => ?_) (fun cdv A outer s H vs Q E hr h => ?_)

  · obtain ⟨v, d, N, rfl, _⟩ := h
    rfl
  obtain ⟨v, d, N, rfl, hd, sm, hP1, hP2, q⟩ := h
  refine ⟨_, (pss_cons (ps_if (PW.pt (pw_or (pt_not (pt_val (pe_callB call_isi (by rfl) T.isinstance (by decide +kernel) (pa_cons (pv 0) (pa_cons (pe_bltn (v := .ty "tuple") (by rfl) T.tuple (by decide +kernel) rfl) pa_nil))))) (pw_or1 (pt_not (pt_val (pe_callB (cr_all rfl) (by rfl) T.all (by decide +kernel) (pa_cons (pe_lc (own := [("_law_one", 1)]) (g := (gName 1)) (by rfl) sc_lis_runs.nd (pi_tup (pv 0)) (blkOk_by (own := [("_law_one", 1)]) (N := ["_law_thing", "_law_one", "_law_k", "_law_other"]) (sc := defScope s_lis_runs) (by decide +kernel)) (fun _ _ _ _ _ => (pg_name (i := 1) sc_lis_runs.nd rfl (.inl rfl))) (fun _ _ _ _ _ => pts_nil) (fun _ _ _ _ _ => (pe_call G_lis_run hr (by rfl) T.m_lis_run F_lis_run.kp b_lis_run .nil pass0 (pa_cons (pv 1) pa_nil)))) pa_nil)))))))
  (pss_one (ps_ret pe_bl))
  pss_nil)
  (pss_cons (ps_for PassesOwn.never rfl (pi_range2 (by rfl) T.range (pa_cons pe_int (pa_cons (pe_callB call_len_seq (by rfl) T.len (by decide +kernel) (pa_cons (pv 0) pa_nil)) pa_nil))) (pg_name (i := 2) sc_lis_runs.nd rfl (.inl rfl))
  (pss_cons (ps_par (by rfl) sc_lis_runs.nd (i := 1) (j := 3) rfl rfl (by decide) rfl rfl (pa_cons (pe_ix ix_tup (pv 0) (pe_op op_sub (pv 2) pe_int) (fun _ _ => rfl)) (pa_cons (pe_ix ix_tup (pv 0) (pv 2) (fun _ _ => rfl)) pa_nil)) (by rfl))
  (pss_one (ps_if (PW.pt (pw_or (pt_cmpR op_gt_str (pe_ix ix_tup (pv 1) pe_int (fun _ _ => rfl)) (pe_ix ix_tup (pv 3) pe_int (fun _ _ => rfl)) (nomark _)) (pw_or1 (PW.pt (pw_and (pt_cmpR op_eq (pe_ix ix_tup (pv 1) pe_int (fun _ _ => rfl)) (pe_ix ix_tup (pv 3) pe_int (fun _ _ => rfl)) (nomark _)) (pw_and1 (pt_cmpR op_le (pe_ix ix_tup (pv 3) pe_int (fun _ _ => rfl)) (pe_ix ix_tup (pv 1) pe_int (fun _ _ => rfl)) (nomark _))))))))
  (pss_one (ps_ret pe_bl))
  pss_nil))))
  (pss_one (ps_ret pe_bl)))), ?_⟩
  rcases hd.cases with ⟨t, xs, ds, rfl, rfl, ht, hx⟩ | nt
  rotate_left
  · obtain ⟨ty, n1, n2⟩ := noTup_of (K := K) hd.dp nt
    have z := q _ (Same.refl _)
    rw [runsD_no nt] at z
    exact ⟨_, rfl, _, _, _, _, _, rfl, .ty _, n1, n2, _, rfl, iteT z⟩
  refine ⟨_, rfl, _, _, _, _, _, rfl, .ty _, .base (.tup ht), k_tuple_tuple, _, rfl, iteF ?_⟩
  have ln := hx.len
  have slen := sm.len
  refine ⟨_, rfl, t, rfl, ⟨_, SqT.of ht⟩, fun D hD => ?_⟩
  refine lc_tup (K := K) (a := t) (xs := xs) (fun i H' => Same H H' ∧ H' D = some (.lst (((List.range i).map (atD runD ds)).map V.bl))) ⟨same_new hD _, upd_same⟩ (fun i H' _ h => SqT.of (h.1 _ _ ht)) ?_ ?_
  · rintro i x H1 hxi ⟨s, hD1⟩
    obtain ⟨d, d1, d2⟩ := hx.get hxi
    have hi := (List.getElem?_eq_some_iff.mp hxi).1
    refine ⟨rfl, _, rfl, x, d, N, rfl, d2.same s, sm.part (List.mem_of_getElem? d1), s _ _ hP2, fun H2 S2 => ?_⟩
    refine ⟨_, S2 _ _ hD1, ?_, same_mut (s.trans S2) hD, ?_⟩
    · rw [List.length_map, List.length_map, List.length_range]
      exact Nat.lt_of_lt_of_le hi (Nat.le_trans (show xs.length ≤ 5000000 by omega) (by decide))
    · rw [upd_same, List.range_succ, List.map_append, List.map_append]
      show _ = some (HO.lst (_ ++ [V.bl (atD runD ds i)]))
      rw [atD_some d1]
  rintro H1 ⟨s, hD1⟩
  refine ⟨D, _, rfl, SqL.of hD1, _, rfl, ?_⟩
  have ea : (((List.range xs.length).map (atD runD ds)).all id) = (((List.range ds.length).filter fun _ => true).all (atD runD ds)) := by
    rw [List.all_map, ln, List.filter_eq_self.mpr fun _ _ => rfl]
    rfl
  rw [ea]
  have no : ∀ {Hx : Hp}, Same H Hx → runsD (.tuple ds) = false → Q (.bl false) Hx := fun S k => by
    have z := q _ S
    rw [k] at z
    exact z
  have rd : runsD (.tuple ds) = ((((List.range ds.length).filter fun _ => true).all (atD runD ds)) && (((List.range (ds.length - 1)).filter fun _ => true).all (nextD ds))) := rfl
  refine ite2 (fun c => ?_) (fun c => ?_)
  · refine no s ?_
    have c : (!(((List.range ds.length).filter fun _ => true).all (atD runD ds))) = true := c
    rw [rd, (by simpa using c : (((List.range ds.length).filter fun _ => true).all (atD runD ds)) = false), Bool.false_and]
  have c : (((List.range ds.length).filter fun _ => true).all (atD runD ds)) = true := by
    have c : ¬ (!(((List.range ds.length).filter fun _ => true).all (atD runD ds))) = true := c
    simpa using c
  have all := at_all c
  have e1 : (((xs.length : Nat) : Int) - 1).toNat = ds.length - 1 := by omega
  refine ⟨_, rfl, t, _, rfl, .inr (SqT.of (s _ _ ht)), 1, _, rfl, by omega, ?_⟩
  refine for_range (lo := 1) (n := (((xs.length : Nat) : Int) - 1).toNat) (fun i σ H' => ∃ (v1 v2 v3 : Option V), σ = [some (.ref t), v1, v2, v3] ∧ Same H H' ∧ ∀ j : Nat, j < i → nextD ds j = true) ?_ ?_ ?_
  · exact ⟨none, none, none, rfl, s, fun j hj => absurd hj (Nat.not_lt_zero _)⟩
  · rintro i σ H2 hi ⟨v1, v2, v3, rfl, s2, sofar⟩
    have h1 : i + 1 < xs.length := by omega
    obtain ⟨u, hu⟩ : ∃ u, xs[i]? = some u := ⟨_, List.getElem?_eq_getElem (by omega)⟩
    obtain ⟨v, hv⟩ : ∃ v, xs[i + 1]? = some v := ⟨_, List.getElem?_eq_getElem (by omega)⟩
    obtain ⟨du, hdu, du2⟩ := hx.get hu
    obtain ⟨dv, hdv, dv2⟩ := hx.get hv
    obtain ⟨r, rfl, _, _⟩ := runD_rn (all _ (List.mem_of_getElem? hdu))
    obtain ⟨r', rfl, _, _⟩ := runD_rn (all _ (List.mem_of_getElem? hdv))
    obtain ⟨pu, rfl, hpu⟩ := dn_rn du2
    obtain ⟨pv, rfl, hpv⟩ := dn_rn dv2
    have aa : atI xs (1 + (i : Int) - 1) = some (.ref pu) := by
      rw [show 1 + (i : Int) - 1 = (i : Nat) by omega]
      exact atI_nat hu
    have ab : atI xs (1 + (i : Int)) = some (.ref pv) := by
      rw [show 1 + (i : Int) = ((i + 1 : Nat) : Int) by omega]
      exact atI_nat hv
    have ha2 := s2 _ _ ht
    have hpu := s2 _ _ hpu
    have hpv := s2 _ _ hpv
    have bad : apart r r' = false → Q (.bl false) H2 := fun k => no s2 (by
      rw [rd, Bool.and_eq_false_iff]
      refine .inr (Bool.eq_false_iff.mpr fun z => ?_)
      have y := List.all_eq_true.mp z i (List.mem_filter.mpr ⟨List.mem_range.mpr (by omega), rfl⟩)
      rw [nextD_some hdu hdv, k] at y
      cases y)
    have good : apart r r' = true → ∃ (v1' v2' v3' : Option V), [some (V.ref t), some (.ref pu), some (.int (1 + (i : Int))), some (.ref pv)] = [some (.ref t), v1', v2', v3'] ∧ Same H H2 ∧ ∀ j : Nat, j < i + 1 → nextD ds j = true := fun k => ⟨_, _, _, rfl, s2, fun j hj => by
      by_cases cj : j < i
      · exact sofar j cj
      · have : j = i := by omega
        subst this
        rw [nextD_some hdu hdv, k]⟩
    refine ⟨_, rfl, _, rfl, _, _, rfl, rfl, t, _, _, _, rfl, rfl, SqT.of ha2, aa, _, rfl, _, rfl, t, _, _, _, rfl, rfl, SqT.of ha2, ab, _, _, rfl, ?_⟩
    refine ⟨_, rfl, pu, _, _, _, rfl, rfl, SqT.of hpu, rfl, _, rfl, pv, _, _, _, rfl, rfl, SqT.of hpv, rfl, _, _, rfl, rfl, _, rfl, ?_⟩
    refine ite2 (fun c1 => ?_) (fun c1 => ?_)
    · refine bad ?_
      have c1 : sl r'.1 r.1 := of_decide_eq_true (p := r'.1.cps.toList < r.1.cps.toList) c1
      unfold apart
      rw [if_neg fun e => sl_irr _ (e ▸ c1)]
      exact decide_eq_false fun k => sl_irr _ (sl_tr c1 k)
    have c1 : ¬ sl r'.1 r.1 := fun k => c1 (decide_eq_true (p := r'.1.cps.toList < r.1.cps.toList) k)
    refine ⟨_, rfl, pu, _, _, _, rfl, rfl, SqT.of hpu, rfl, _, rfl, pv, _, _, _, rfl, rfl, SqT.of hpv, rfl, rfl, _, rfl, ?_⟩
    refine ite2 (fun c2 => ?_) (fun c2 => ?_)
    rotate_left
    · have c2 : ¬ r.1 = r'.1 := fun k => c2 (decide_eq_true (congrArg V.str k))
      refine good ?_
      unfold apart
      rw [if_neg c2]
      refine decide_eq_true ?_
      rcases sl_tot r.1 r'.1 with k | k | k
      · exact k
      · exact absurd k c2
      · exact absurd k c1
    have c2 : r.1 = r'.1 := V.str.inj (of_decide_eq_true c2)
    refine ⟨_, rfl, pv, _, _, _, rfl, rfl, SqT.of hpv, rfl, _, rfl, pu, _, _, _, rfl, rfl, SqT.of hpu, rfl, _, _, rfl, rfl, _, rfl, ?_⟩
    refine ite2 (fun c3 => ?_) (fun c3 => ?_)
    · have c3 : r'.2.1 ≤ r.2.2 := of_decide_eq_true c3
      refine bad ?_
      unfold apart
      rw [if_pos c2]
      exact decide_eq_false (by omega)
    · have c3 : ¬ r'.2.1 ≤ r.2.2 := fun k => c3 (decide_eq_true k)
      refine good ?_
      unfold apart
      rw [if_pos c2]
      exact decide_eq_true (by omega)
  · rintro σ H2 ⟨v1, v2, v3, rfl, s2, sofar⟩
    have z := q _ s2
    have k : runsD (.tuple ds) = true := by
      rw [rd, c, Bool.true_and, List.all_eq_true]
      intro j hj
      exact sofar j (by
        have := List.mem_range.mp (List.mem_filter.mp hj).1
        omega)
    rw [k] at z
    exact z

theorem ok_lodd (F : Fun K "_law_odd" "_law_odd" s_lodd f_lodd d_lodd) (T : Txt mg f_is_number f_is_from_to f_is_word f_is_tuple_of f_is_note f_is_run f_is_runs f_is_apart f_lfeed f_ldraw f_lnames f_lat f_lrun f_llot f_lhas f_lmade f_lis_number f_lis_word f_lis_run f_lis_runs f_lis_note f_lodd f_lbent f_lmenu f_lthings f_law)
    (F_ldraw : Fun K "_law_draw" "_law_draw" s_ldraw f_ldraw d_ldraw) (b_ldraw : Binds K d_ldraw ["_law_feed_here", "_law_many"] []) (G_ldraw : FnOk P w K mg base CX0 (1) f_ldraw d_ldraw ["_law_feed_here", "_law_many"] spDraw) :
    FnOk P w K mg base CX0 (2) f_lodd d_lodd ["_law_feed_here", "_law_thing"] spOdd := by
  refine F.ok sc_lodd (fun vs H Q E h => ?_) (fun cdv A outer s H vs Q E hr h => ?_)

  · obtain ⟨f, c0, v, d, n, k, c, B, rfl, _⟩ := h
    rfl
  obtain ⟨f, c0, v, d, n, k, c, B, rfl, hf, hn, hd, ⟨fd, cd⟩, hk, hc, hB1, hB2, q⟩ := h
  refine ⟨_, (pss_cons (ps_set (i := 2) sc_lodd.nd rfl (.inl rfl) (pe_call G_ldraw hr (by rfl) T.m_ldraw F_ldraw.kp b_ldraw .nil pass0 (pa_cons (pv 0) (pa_cons pe_int pa_nil))))
  (pss_cons (ps_if (pt_val (pe_callB call_isi (by rfl) T.isinstance (by decide +kernel) (pa_cons (pv 1) (pa_cons (pe_bltn (v := .ty "list") (by rfl) T.list (by decide +kernel) rfl) pa_nil))))
  (pss_one (ps_ret (pe_callTy call_tuple_of (by rfl) T.tuple (by decide +kernel) (pa_cons (pv 1) pa_nil))))
  pss_nil)
  (pss_cons (ps_if (pt_val (pe_callB call_isi (by rfl) T.isinstance (by decide +kernel) (pa_cons (pv 1) (pa_cons (pe_bltn (v := .ty "tuple") (by rfl) T.tuple (by decide +kernel) rfl) pa_nil))))
  (pss_cons (ps_par (by rfl) sc_lodd.nd (i := 3) (j := 4) rfl rfl (by decide) rfl rfl (pa_cons (pe_call G_ldraw hr (by rfl) T.m_ldraw F_ldraw.kp b_ldraw .nil pass0 (pa_cons (pv 0) (pa_cons (pe_op op_add (pe_callB call_len_seq (by rfl) T.len (by decide +kernel) (pa_cons (pv 1) pa_nil)) pe_int) pa_nil))) (pa_cons (pe_call G_ldraw hr (by rfl) T.m_ldraw F_ldraw.kp b_ldraw .nil pass0 (pa_cons (pv 0) (pa_cons (pe_op op_add (pe_callB call_len_seq (by rfl) T.len (by decide +kernel) (pa_cons (pv 1) pa_nil)) pe_int) pa_nil))) pa_nil)) (by rfl))
  (pss_cons (ps_set (i := 5) sc_lodd.nd rfl (.inl rfl) (pe_op op_catTk (pe_op op_catTk (pe_slice sl_tupTk (pv 1) po_none (po_some (pv 3))) (pe_slice sl_tupTk (pv 1) (po_some (pv 3)) (po_some (pe_op op_add (pv 3) pe_int)))) (pe_slice sl_tupTk (pv 1) (po_some (pv 3)) po_none)))
  (pss_cons (ps_set (i := 6) sc_lodd.nd rfl (.inl rfl) (pe_lst (pa_cons (pe_callTy call_list_of (by rfl) T.list (by decide +kernel) (pa_cons (pv 1) pa_nil)) (pa_cons (pe_op op_catTk (pe_slice sl_tupTk (pv 1) po_none (po_some (pv 3))) (pe_slice sl_tupTk (pv 1) (po_some (pe_op op_add (pv 3) pe_int)) po_none)) (pa_cons (pv 5) (pa_cons (pe_revT (pv 1)) (pa_cons (pe_op op_catTk (pv 1) (pe_tup (pa_cons pe_non pa_nil))) (pa_cons (pe_op op_catTk (pe_slice sl_tupTk (pv 1) (po_some (pv 4)) po_none) (pe_slice sl_tupTk (pv 1) po_none (po_some (pv 4)))) pa_nil))))))))
  (pss_one (ps_ret (pe_ix ix_list (pe_op op_cat (pv 6) (pe_lst (pa_cons pe_non (pa_cons (pe_op op_catTk (pe_op op_catTk (pe_slice sl_tupTk (pv 1) po_none (po_some (pv 3))) (pe_tup (pa_cons (pe_tup pa_nil) pa_nil))) (pe_slice sl_tupTk (pv 1) (po_some (pv 3)) po_none)) pa_nil)))) (pv 2) (fun _ _ => rfl)))))))
  pss_nil)
  (pss_cons (ps_if (pt_val (pe_callB call_isi (by rfl) T.isinstance (by decide +kernel) (pa_cons (pv 1) (pa_cons (pe_bltn (v := .ty "str") (by rfl) T.str (by decide +kernel) rfl) pa_nil))))
  (pss_cons (ps_set (i := 7) sc_lodd.nd rfl (.inl rfl) (pe_ix ix_str pe_str (pe_call G_ldraw hr (by rfl) T.m_ldraw F_ldraw.kp b_ldraw .nil pass0 (pa_cons (pv 0) (pa_cons pe_int pa_nil))) (fun _ _ => rfl)))
  (pss_cons (ps_set (i := 3) sc_lodd.nd rfl (.inl rfl) (pe_call G_ldraw hr (by rfl) T.m_ldraw F_ldraw.kp b_ldraw .nil pass0 (pa_cons (pv 0) (pa_cons (pe_op op_add (pe_callB call_len_str (by rfl) T.len (by decide +kernel) (pa_cons (pv 1) pa_nil)) pe_int) pa_nil))))
  (pss_cons (ps_set (i := 6) sc_lodd.nd rfl (.inl rfl) (pe_lst (pa_cons (pe_op op_add_str (pv 1) (pv 7)) (pa_cons (pe_op op_add_str (pe_op op_add_str (pe_slice sl_str (pv 1) po_none (po_some (pv 3))) (pv 7)) (pe_slice sl_str (pv 1) (po_some (pv 3)) po_none)) (pa_cons (pe_slice sl_str (pv 1) (po_some pe_int) po_none) (pa_cons (pe_op op_add_str (pe_op op_add_str (pe_slice sl_str (pv 1) po_none (po_some (pv 3))) (pv 7)) (pe_slice sl_str (pv 1) (po_some (pe_op op_add (pv 3) pe_int)) po_none)) (pa_cons pe_str (pa_cons (pv 7) pa_nil))))))))
  (pss_one (ps_ret (pe_ix ix_list (pe_op op_cat (pv 6) (pe_lst (pa_cons pe_int (pa_cons (pe_tup (pa_cons (pv 1) pa_nil)) pa_nil)))) (pv 2) (fun _ _ => rfl)))))))
  pss_nil)
  (pss_cons (ps_if (PW.pt (pw_or (pt_cmpR op_isN (pv 1) pe_non (nomark _)) (pw_or1 (pt_val (pe_callB call_isi (by rfl) T.isinstance (by decide +kernel) (pa_cons (pv 1) (pa_cons (pe_bltn (v := .ty "bool") (by rfl) T.bool (by decide +kernel) rfl) pa_nil)))))))
  (pss_one (ps_ret (pe_ix ix_list (pe_lst (pa_cons pe_non (pa_cons pe_int (pa_cons pe_int (pa_cons pe_str (pa_cons (pe_tup pa_nil) (pa_cons pe_bl (pa_cons pe_bl (pa_cons (pe_un un_neg pe_int) pa_nil))))))))) (pv 2) (fun _ _ => rfl))))
  pss_nil)
  (pss_one (ps_ret (pe_ix ix_list (pe_lst (pa_cons (pe_op op_add (pv 1) pe_int) (pa_cons (pe_op op_sub (pv 1) pe_int) (pa_cons pe_int (pa_cons (pe_un un_neg pe_int) (pa_cons (pe_op op_pow pe_int pe_int) (pa_cons (pe_cmpR op_eq (pv 1) pe_int (nomark _)) (pa_cons (pe_op op_add (pe_op op_pow pe_int pe_int) pe_int) (pa_cons pe_str pa_nil))))))))) (pv 2) (fun _ _ => rfl))))))))), ?_⟩
  refine ⟨_, rfl, f, c0, 8, n, rfl, hf, by omega, by decide, by decide, fun way Ha y0 y1 hfa ba _ => ?_⟩
  have hd := hd.but (fun _ z => z) ba hf
  have t39 : (10 ^ 39 : Int) = 1000000000000000000000000000000000000000 := by decide +kernel
  have B40 : B + 1 ≤ 10 ^ 40 := by rw [t40]; rw [t39] at hB2; omega
  cases hd with
  | lst hna hl hx =>
    rename_i a xs ds
    refine ⟨_, rfl, _, _, _, _, _, rfl, .ty _, .base (.lst hl), k_list_list, _, rfl, iteT ?_⟩
    refine ⟨_, rfl, a, _, rfl, .inl ⟨SqL.of hl, fun t nt => ?_⟩⟩
    have S := same_new nt (.tup xs)
    obtain ⟨m, rfl, fp⟩ := fin_partL fd
    have cd : costAll ds + 3 ≤ c := cd
    exact q _ _ ((hfa.same S).mono (by omega)) (ba.trans (But.of_same S)) ((gv_tup upd_same (hx.same S) fp cd).mono (by omega) (by omega) (by omega))
  | tup ht hx =>
    rename_i t xs ds
    refine ⟨_, rfl, _, _, _, _, _, rfl, .ty _, .base (.tup ht), k_tuple_list, _, rfl, iteF ?_⟩
    refine ⟨_, rfl, _, _, _, _, _, rfl, .ty _, .base (.tup ht), k_tuple_tuple, _, rfl, iteT ?_⟩
    have ln := hx.len
    have cd : costAll ds + 3 ≤ c := cd
    have cl := cost_len ds
    have lx : xs.length ≤ 4000000 := by omega
    have lc2 : ∀ lo hi : Option Int, (cutV xs lo hi).length ≤ 2000000 := fun lo hi => Nat.le_trans (cutV_length _ _ _) (by omega)
    have lc : ∀ lo hi : Option Int, (cutV xs lo hi).length ≤ 4000000 := fun lo hi => Nat.le_trans (cutV_length _ _ _) lx
    have app2 : ∀ {a b : List V}, a.length ≤ 2000000 → b.length ≤ 2000000 → (a ++ b).length ≤ 4000000 := fun h k => by rw [List.length_append]; omega
    have small : ∀ {n : Nat}, n ≤ 10000000 → n ≤ sizeLine := fun h => Nat.le_trans h (by decide)
    have le2 : ∀ {a b : List V}, a.length ≤ 4000000 → b.length ≤ 4000000 → a.length + b.length ≤ 10000000 := fun h k => by omega
    have bump : ∀ {Hx : Hp}, But f Ha Hx → Hx t = some (.tup xs) := fun b => by
      obtain ⟨zs, hz⟩ := hfa.at
      exact b _ _ (ne_of ht hz fun z => nomatch z) ht
    refine ⟨_, rfl, _, rfl, t, _, rfl, .inr (SqT.of ht), _, _, rfl, rfl, f, c0, _, _, rfl, hfa, by omega, by omega, by omega, fun at_ Hb a0 a1 hfb bb _ => ?_⟩
    refine ⟨_, rfl, _, rfl, t, _, rfl, .inr (SqT.of (bump bb)), _, _, rfl, rfl, f, c0, _, _, rfl, hfb, by omega, by omega, by omega, fun by_ Hd z0 z1 hfd bd _ => ?_⟩
    have ht := bump (bb.trans bd)
    have bD := ba.trans (bb.trans bd)
    refine ⟨_, _, rfl, ?_⟩
    have UG0 : Same Hd Hd := Same.refl _
    refine ⟨_, rfl, _, rfl, _, rfl, t, _, rfl, ht, fun w1 G1 SG1 hw1 => ?_⟩
    have UG1 := UG0.trans SG1
    have ht := SG1 _ _ ht
    refine ⟨_, rfl, _, rfl, _, rfl, _, rfl, _, _, rfl, rfl, _, rfl, t, _, rfl, ht, fun w2 G2 SG2 hw2 => ?_⟩
    have UG2 := UG1.trans SG2
    have ht := SG2 _ _ ht
    have hw1 := SG2 _ _ hw1
    refine ⟨w1, w2, _, _, rfl, rfl, hw1, hw2, small (le2 (lc _ _) (lc _ _)), fun w3 G3 SG3 hw3 => ?_⟩
    have UG3 := UG2.trans SG3
    have ht := SG3 _ _ ht
    have hw1 := SG3 _ _ hw1
    have hw2 := SG3 _ _ hw2
    refine ⟨_, rfl, _, rfl, _, rfl, t, _, rfl, ht, fun w4 G4 SG4 hw4 => ?_⟩
    have UG4 := UG3.trans SG4
    have ht := SG4 _ _ ht
    have hw1 := SG4 _ _ hw1
    have hw2 := SG4 _ _ hw2
    have hw3 := SG4 _ _ hw3
    refine ⟨w3, w4, _, _, rfl, rfl, hw3, hw4, small (le2 (app2 (lc2 _ _) (lc2 _ _)) (lc _ _)), fun v2 G5 SG5 hv2 => ?_⟩
    have UG5 := UG4.trans SG5
    have ht := SG5 _ _ ht
    have hw1 := SG5 _ _ hw1
    have hw2 := SG5 _ _ hw2
    have hw3 := SG5 _ _ hw3
    have hw4 := SG5 _ _ hw4
    refine ⟨_, rfl, t, _, rfl, .inr (SqT.of ht), fun l0 nl0 => ?_⟩
    have SG6 := same_new nl0 (.lst xs)
    have hl0 : upd G5 l0 (.lst xs) l0 = some (.lst xs) := upd_same
    generalize hhG6 : upd G5 l0 (.lst xs) = G6 at *
    clear hhG6
    have UG6 := UG5.trans SG6
    have ht := SG6 _ _ ht
    have hw1 := SG6 _ _ hw1
    have hw2 := SG6 _ _ hw2
    have hw3 := SG6 _ _ hw3
    have hw4 := SG6 _ _ hw4
    have hv2 := SG6 _ _ hv2
    have nel0 := (hfd.same UG5).ne nl0
    refine ⟨_, rfl, _, rfl, _, rfl, t, _, rfl, ht, fun q1 G7 SG7 hq1 => ?_⟩
    have UG7 := UG6.trans SG7
    have ht := SG7 _ _ ht
    have hw1 := SG7 _ _ hw1
    have hw2 := SG7 _ _ hw2
    have hw3 := SG7 _ _ hw3
    have hw4 := SG7 _ _ hw4
    have hv2 := SG7 _ _ hv2
    have hl0 := SG7 _ _ hl0
    refine ⟨_, rfl, _, rfl, _, _, rfl, rfl, _, rfl, t, _, rfl, ht, fun q2 G8 SG8 hq2 => ?_⟩
    have UG8 := UG7.trans SG8
    have ht := SG8 _ _ ht
    have hw1 := SG8 _ _ hw1
    have hw2 := SG8 _ _ hw2
    have hw3 := SG8 _ _ hw3
    have hw4 := SG8 _ _ hw4
    have hv2 := SG8 _ _ hv2
    have hl0 := SG8 _ _ hl0
    have hq1 := SG8 _ _ hq1
    refine ⟨q1, q2, _, _, rfl, rfl, hq1, hq2, small (le2 (lc _ _) (lc _ _)), fun v1 G9 SG9 hv1 => ?_⟩
    have UG9 := UG8.trans SG9
    have ht := SG9 _ _ ht
    have hw1 := SG9 _ _ hw1
    have hw2 := SG9 _ _ hw2
    have hw3 := SG9 _ _ hw3
    have hw4 := SG9 _ _ hw4
    have hv2 := SG9 _ _ hv2
    have hl0 := SG9 _ _ hl0
    have hq1 := SG9 _ _ hq1
    have hq2 := SG9 _ _ hq2
    refine ⟨_, rfl, ?_⟩
    refine ⟨_, rfl, t, _, rfl, SqT.of ht, fun v3 nv3 => ?_⟩
    have SG10 := same_new nv3 (.tup xs.reverse)
    have hv3 : upd G9 v3 (.tup xs.reverse) v3 = some (.tup xs.reverse) := upd_same
    generalize hhG10 : upd G9 v3 (.tup xs.reverse) = G10 at *
    clear hhG10
    have UG10 := UG9.trans SG10
    have ht := SG10 _ _ ht
    have hw1 := SG10 _ _ hw1
    have hw2 := SG10 _ _ hw2
    have hw3 := SG10 _ _ hw3
    have hw4 := SG10 _ _ hw4
    have hv2 := SG10 _ _ hv2
    have hl0 := SG10 _ _ hl0
    have hq1 := SG10 _ _ hq1
    have hq2 := SG10 _ _ hq2
    have hv1 := SG10 _ _ hv1
    refine ⟨_, rfl, (show 1 ≤ sizeLine by decide), fun o1 no1 => ?_⟩
    have SG11 := same_new no1 (.tup [V.non])
    have ho1 : upd G10 o1 (.tup [V.non]) o1 = some (.tup [V.non]) := upd_same
    generalize hhG11 : upd G10 o1 (.tup [V.non]) = G11 at *
    clear hhG11
    have UG11 := UG10.trans SG11
    have ht := SG11 _ _ ht
    have hw1 := SG11 _ _ hw1
    have hw2 := SG11 _ _ hw2
    have hw3 := SG11 _ _ hw3
    have hw4 := SG11 _ _ hw4
    have hv2 := SG11 _ _ hv2
    have hl0 := SG11 _ _ hl0
    have hq1 := SG11 _ _ hq1
    have hq2 := SG11 _ _ hq2
    have hv1 := SG11 _ _ hv1
    have hv3 := SG11 _ _ hv3
    refine ⟨t, o1, _, _, rfl, rfl, ht, ho1, small (le2 lx (Nat.le_of_ble_eq_true rfl)), fun v4 G12 SG12 hv4 => ?_⟩
    have UG12 := UG11.trans SG12
    have ht := SG12 _ _ ht
    have hw1 := SG12 _ _ hw1
    have hw2 := SG12 _ _ hw2
    have hw3 := SG12 _ _ hw3
    have hw4 := SG12 _ _ hw4
    have hv2 := SG12 _ _ hv2
    have hl0 := SG12 _ _ hl0
    have hq1 := SG12 _ _ hq1
    have hq2 := SG12 _ _ hq2
    have hv1 := SG12 _ _ hv1
    have hv3 := SG12 _ _ hv3
    have ho1 := SG12 _ _ ho1
    refine ⟨_, rfl, _, rfl, _, rfl, t, _, rfl, ht, fun q3 G13 SG13 hq3 => ?_⟩
    have UG13 := UG12.trans SG13
    have ht := SG13 _ _ ht
    have hw1 := SG13 _ _ hw1
    have hw2 := SG13 _ _ hw2
    have hw3 := SG13 _ _ hw3
    have hw4 := SG13 _ _ hw4
    have hv2 := SG13 _ _ hv2
    have hl0 := SG13 _ _ hl0
    have hq1 := SG13 _ _ hq1
    have hq2 := SG13 _ _ hq2
    have hv1 := SG13 _ _ hv1
    have hv3 := SG13 _ _ hv3
    have ho1 := SG13 _ _ ho1
    have hv4 := SG13 _ _ hv4
    refine ⟨_, rfl, _, rfl, _, rfl, t, _, rfl, ht, fun q4 G14 SG14 hq4 => ?_⟩
    have UG14 := UG13.trans SG14
    have ht := SG14 _ _ ht
    have hw1 := SG14 _ _ hw1
    have hw2 := SG14 _ _ hw2
    have hw3 := SG14 _ _ hw3
    have hw4 := SG14 _ _ hw4
    have hv2 := SG14 _ _ hv2
    have hl0 := SG14 _ _ hl0
    have hq1 := SG14 _ _ hq1
    have hq2 := SG14 _ _ hq2
    have hv1 := SG14 _ _ hv1
    have hv3 := SG14 _ _ hv3
    have ho1 := SG14 _ _ ho1
    have hv4 := SG14 _ _ hv4
    have hq3 := SG14 _ _ hq3
    refine ⟨q3, q4, _, _, rfl, rfl, hq3, hq4, small (le2 (lc _ _) (lc _ _)), fun v5 G15 SG15 hv5 => ?_⟩
    have UG15 := UG14.trans SG15
    have ht := SG15 _ _ ht
    have hw1 := SG15 _ _ hw1
    have hw2 := SG15 _ _ hw2
    have hw3 := SG15 _ _ hw3
    have hw4 := SG15 _ _ hw4
    have hv2 := SG15 _ _ hv2
    have hl0 := SG15 _ _ hl0
    have hq1 := SG15 _ _ hq1
    have hq2 := SG15 _ _ hq2
    have hv1 := SG15 _ _ hv1
    have hv3 := SG15 _ _ hv3
    have ho1 := SG15 _ _ ho1
    have hv4 := SG15 _ _ hv4
    have hq3 := SG15 _ _ hq3
    have hq4 := SG15 _ _ hq4
    refine ⟨(show 6 ≤ sizeLine by decide), fun la nla => ?_⟩
    have SG16 := same_new nla (.lst [V.ref l0, .ref v1, .ref v2, .ref v3, .ref v4, .ref v5])
    have hla : upd G15 la (.lst [V.ref l0, .ref v1, .ref v2, .ref v3, .ref v4, .ref v5]) la = some (.lst [V.ref l0, .ref v1, .ref v2, .ref v3, .ref v4, .ref v5]) := upd_same
    generalize hhG16 : upd G15 la (.lst [V.ref l0, .ref v1, .ref v2, .ref v3, .ref v4, .ref v5]) = G16 at *
    clear hhG16
    have UG16 := UG15.trans SG16
    have ht := SG16 _ _ ht
    have hw1 := SG16 _ _ hw1
    have hw2 := SG16 _ _ hw2
    have hw3 := SG16 _ _ hw3
    have hw4 := SG16 _ _ hw4
    have hv2 := SG16 _ _ hv2
    have hl0 := SG16 _ _ hl0
    have hq1 := SG16 _ _ hq1
    have hq2 := SG16 _ _ hq2
    have hv1 := SG16 _ _ hv1
    have hv3 := SG16 _ _ hv3
    have ho1 := SG16 _ _ ho1
    have hv4 := SG16 _ _ hv4
    have hq3 := SG16 _ _ hq3
    have hq4 := SG16 _ _ hq4
    have hv5 := SG16 _ _ hv5
    refine ⟨_, rfl, ?_⟩
    refine ⟨_, rfl, _, rfl, _, rfl, t, _, rfl, ht, fun q5 G17 SG17 hq5 => ?_⟩
    have UG17 := UG16.trans SG17
    have ht := SG17 _ _ ht
    have hw1 := SG17 _ _ hw1
    have hw2 := SG17 _ _ hw2
    have hw3 := SG17 _ _ hw3
    have hw4 := SG17 _ _ hw4
    have hv2 := SG17 _ _ hv2
    have hl0 := SG17 _ _ hl0
    have hq1 := SG17 _ _ hq1
    have hq2 := SG17 _ _ hq2
    have hv1 := SG17 _ _ hv1
    have hv3 := SG17 _ _ hv3
    have ho1 := SG17 _ _ ho1
    have hv4 := SG17 _ _ hv4
    have hq3 := SG17 _ _ hq3
    have hq4 := SG17 _ _ hq4
    have hv5 := SG17 _ _ hv5
    have hla := SG17 _ _ hla
    refine ⟨(show 0 ≤ sizeLine by decide), fun e0 ne0 => ?_⟩
    have SG18 := same_new ne0 (.tup [])
    have he0 : upd G17 e0 (.tup []) e0 = some (.tup []) := upd_same
    generalize hhG18 : upd G17 e0 (.tup []) = G18 at *
    clear hhG18
    have UG18 := UG17.trans SG18
    have ht := SG18 _ _ ht
    have hw1 := SG18 _ _ hw1
    have hw2 := SG18 _ _ hw2
    have hw3 := SG18 _ _ hw3
    have hw4 := SG18 _ _ hw4
    have hv2 := SG18 _ _ hv2
    have hl0 := SG18 _ _ hl0
    have hq1 := SG18 _ _ hq1
    have hq2 := SG18 _ _ hq2
    have hv1 := SG18 _ _ hv1
    have hv3 := SG18 _ _ hv3
    have ho1 := SG18 _ _ ho1
    have hv4 := SG18 _ _ hv4
    have hq3 := SG18 _ _ hq3
    have hq4 := SG18 _ _ hq4
    have hv5 := SG18 _ _ hv5
    have hla := SG18 _ _ hla
    have hq5 := SG18 _ _ hq5
    refine ⟨(show 1 ≤ sizeLine by decide), fun o2 no2 => ?_⟩
    have SG19 := same_new no2 (.tup [V.ref e0])
    have ho2 : upd G18 o2 (.tup [V.ref e0]) o2 = some (.tup [V.ref e0]) := upd_same
    generalize hhG19 : upd G18 o2 (.tup [V.ref e0]) = G19 at *
    clear hhG19
    have UG19 := UG18.trans SG19
    have ht := SG19 _ _ ht
    have hw1 := SG19 _ _ hw1
    have hw2 := SG19 _ _ hw2
    have hw3 := SG19 _ _ hw3
    have hw4 := SG19 _ _ hw4
    have hv2 := SG19 _ _ hv2
    have hl0 := SG19 _ _ hl0
    have hq1 := SG19 _ _ hq1
    have hq2 := SG19 _ _ hq2
    have hv1 := SG19 _ _ hv1
    have hv3 := SG19 _ _ hv3
    have ho1 := SG19 _ _ ho1
    have hv4 := SG19 _ _ hv4
    have hq3 := SG19 _ _ hq3
    have hq4 := SG19 _ _ hq4
    have hv5 := SG19 _ _ hv5
    have hla := SG19 _ _ hla
    have hq5 := SG19 _ _ hq5
    have he0 := SG19 _ _ he0
    refine ⟨q5, o2, _, _, rfl, rfl, hq5, ho2, small (le2 (lc _ _) (Nat.le_of_ble_eq_true rfl)), fun q6 G20 SG20 hq6 => ?_⟩
    have UG20 := UG19.trans SG20
    have ht := SG20 _ _ ht
    have hw1 := SG20 _ _ hw1
    have hw2 := SG20 _ _ hw2
    have hw3 := SG20 _ _ hw3
    have hw4 := SG20 _ _ hw4
    have hv2 := SG20 _ _ hv2
    have hl0 := SG20 _ _ hl0
    have hq1 := SG20 _ _ hq1
    have hq2 := SG20 _ _ hq2
    have hv1 := SG20 _ _ hv1
    have hv3 := SG20 _ _ hv3
    have ho1 := SG20 _ _ ho1
    have hv4 := SG20 _ _ hv4
    have hq3 := SG20 _ _ hq3
    have hq4 := SG20 _ _ hq4
    have hv5 := SG20 _ _ hv5
    have hla := SG20 _ _ hla
    have hq5 := SG20 _ _ hq5
    have he0 := SG20 _ _ he0
    have ho2 := SG20 _ _ ho2
    refine ⟨_, rfl, _, rfl, _, rfl, t, _, rfl, ht, fun q7 G21 SG21 hq7 => ?_⟩
    have UG21 := UG20.trans SG21
    have ht := SG21 _ _ ht
    have hw1 := SG21 _ _ hw1
    have hw2 := SG21 _ _ hw2
    have hw3 := SG21 _ _ hw3
    have hw4 := SG21 _ _ hw4
    have hv2 := SG21 _ _ hv2
    have hl0 := SG21 _ _ hl0
    have hq1 := SG21 _ _ hq1
    have hq2 := SG21 _ _ hq2
    have hv1 := SG21 _ _ hv1
    have hv3 := SG21 _ _ hv3
    have ho1 := SG21 _ _ ho1
    have hv4 := SG21 _ _ hv4
    have hq3 := SG21 _ _ hq3
    have hq4 := SG21 _ _ hq4
    have hv5 := SG21 _ _ hv5
    have hla := SG21 _ _ hla
    have hq5 := SG21 _ _ hq5
    have he0 := SG21 _ _ he0
    have ho2 := SG21 _ _ ho2
    have hq6 := SG21 _ _ hq6
    refine ⟨q6, q7, _, _, rfl, rfl, hq6, hq7, small (le2 (app2 (lc2 _ _) (Nat.le_of_ble_eq_true rfl)) (lc _ _)), fun v7 G22 SG22 hv7 => ?_⟩
    have UG22 := UG21.trans SG22
    have ht := SG22 _ _ ht
    have hw1 := SG22 _ _ hw1
    have hw2 := SG22 _ _ hw2
    have hw3 := SG22 _ _ hw3
    have hw4 := SG22 _ _ hw4
    have hv2 := SG22 _ _ hv2
    have hl0 := SG22 _ _ hl0
    have hq1 := SG22 _ _ hq1
    have hq2 := SG22 _ _ hq2
    have hv1 := SG22 _ _ hv1
    have hv3 := SG22 _ _ hv3
    have ho1 := SG22 _ _ ho1
    have hv4 := SG22 _ _ hv4
    have hq3 := SG22 _ _ hq3
    have hq4 := SG22 _ _ hq4
    have hv5 := SG22 _ _ hv5
    have hla := SG22 _ _ hla
    have hq5 := SG22 _ _ hq5
    have he0 := SG22 _ _ he0
    have ho2 := SG22 _ _ ho2
    have hq6 := SG22 _ _ hq6
    have hq7 := SG22 _ _ hq7
    refine ⟨(show 2 ≤ sizeLine by decide), fun lb nlb => ?_⟩
    have SG23 := same_new nlb (.lst [V.non, .ref v7])
    have hlb : upd G22 lb (.lst [V.non, .ref v7]) lb = some (.lst [V.non, .ref v7]) := upd_same
    generalize hhG23 : upd G22 lb (.lst [V.non, .ref v7]) = G23 at *
    clear hhG23
    have UG23 := UG22.trans SG23
    have ht := SG23 _ _ ht
    have hw1 := SG23 _ _ hw1
    have hw2 := SG23 _ _ hw2
    have hw3 := SG23 _ _ hw3
    have hw4 := SG23 _ _ hw4
    have hv2 := SG23 _ _ hv2
    have hl0 := SG23 _ _ hl0
    have hq1 := SG23 _ _ hq1
    have hq2 := SG23 _ _ hq2
    have hv1 := SG23 _ _ hv1
    have hv3 := SG23 _ _ hv3
    have ho1 := SG23 _ _ ho1
    have hv4 := SG23 _ _ hv4
    have hq3 := SG23 _ _ hq3
    have hq4 := SG23 _ _ hq4
    have hv5 := SG23 _ _ hv5
    have hla := SG23 _ _ hla
    have hq5 := SG23 _ _ hq5
    have he0 := SG23 _ _ he0
    have ho2 := SG23 _ _ ho2
    have hq6 := SG23 _ _ hq6
    have hq7 := SG23 _ _ hq7
    have hv7 := SG23 _ _ hv7
    refine ⟨la, lb, _, _, rfl, rfl, hla, hlb, (show 8 ≤ sizeLine by decide), fun lz nlz => ?_⟩
    have SG24 := same_new nlz (.lst ([V.ref l0, .ref v1, .ref v2, .ref v3, .ref v4, .ref v5] ++ [V.non, .ref v7]))
    have hlz : upd G23 lz (.lst ([V.ref l0, .ref v1, .ref v2, .ref v3, .ref v4, .ref v5] ++ [V.non, .ref v7])) lz = some (.lst ([V.ref l0, .ref v1, .ref v2, .ref v3, .ref v4, .ref v5] ++ [V.non, .ref v7])) := upd_same
    generalize hhG24 : upd G23 lz (.lst ([V.ref l0, .ref v1, .ref v2, .ref v3, .ref v4, .ref v5] ++ [V.non, .ref v7])) = G24 at *
    clear hhG24
    have UG24 := UG23.trans SG24
    have ht := SG24 _ _ ht
    have hw1 := SG24 _ _ hw1
    have hw2 := SG24 _ _ hw2
    have hw3 := SG24 _ _ hw3
    have hw4 := SG24 _ _ hw4
    have hv2 := SG24 _ _ hv2
    have hl0 := SG24 _ _ hl0
    have hq1 := SG24 _ _ hq1
    have hq2 := SG24 _ _ hq2
    have hv1 := SG24 _ _ hv1
    have hv3 := SG24 _ _ hv3
    have ho1 := SG24 _ _ ho1
    have hv4 := SG24 _ _ hv4
    have hq3 := SG24 _ _ hq3
    have hq4 := SG24 _ _ hq4
    have hv5 := SG24 _ _ hv5
    have hla := SG24 _ _ hla
    have hq5 := SG24 _ _ hq5
    have he0 := SG24 _ _ he0
    have ho2 := SG24 _ _ ho2
    have hq6 := SG24 _ _ hq6
    have hq7 := SG24 _ _ hq7
    have hv7 := SG24 _ _ hv7
    have hlb := SG24 _ _ hlb
    obtain ⟨v, w1, w2⟩ := atI_some (xs := [V.ref l0, .ref v1, .ref v2, .ref v3, .ref v4, .ref v5, .non, .ref v7]) y0 (show way < 8 from y1)
    refine ⟨_, rfl, lz, _, _, _, rfl, rfl, SqL.of hlz, w1, ?_⟩
    refine q _ _ ((hfd.same UG24).mono (by omega)) (bD.trans (But.of_same UG24)) ?_
    have hxE := (hx.but (bb.trans bd) hfa).same UG24
    obtain ⟨m, rfl, fp⟩ := fin_part fd
    have fp1 : ∀ e ∈ ds, Fin3 (m + 1) (B + 1) e := fun e he => (fp e he).mono (Nat.le_succ _) (by omega)
    have cc : ∀ lo hi : Option Int, costAll (cutD ds lo hi) ≤ costAll ds := cost_cut ds
    have two : ∀ {a b : List PyData}, (∀ e ∈ a, Fin3 (m + 1) (B + 1) e) → (∀ e ∈ b, Fin3 (m + 1) (B + 1) e) → ∀ e ∈ a ++ b, Fin3 (m + 1) (B + 1) e := fun h k e he => (List.mem_append.mp he).elim (h e) (k e)
    have fc : ∀ lo hi : Option Int, ∀ e ∈ cutD ds lo hi, Fin3 (m + 1) (B + 1) e := fun lo hi e he => fp1 e (cutD_mem he)
    have f1 : ∀ {d}, Fin3 (m + 1) (B + 1) d → ∀ e ∈ [d], Fin3 (m + 1) (B + 1) e := fun h e he => by rw [List.mem_singleton.mp he]; exact h
    simp only [List.mem_cons, List.not_mem_nil, or_false] at w2
    rcases w2 with rfl | rfl | rfl | rfl | rfl | rfl | rfl | rfl
    · exact gv_lst nel0.1 hl0 hxE fp1 (by omega)
    · refine gv_tup hv1 ((hxE.cut _ _).app (hxE.cut _ _)) (two (fc _ _) (fc _ _)) ?_
      rw [cost_app]
      have k1 := cc none (some at_)
      have k2 := cc (some (at_ + 1)) none
      omega
    · refine gv_tup hv2 (((hxE.cut _ _).app (hxE.cut _ _)).app (hxE.cut _ _)) (two (two (fc _ _) (fc _ _)) (fc _ _)) ?_
      rw [cost_app, cost_app]
      have k1 := cc none (some at_)
      have k2 := cc (some at_) (some (at_ + 1))
      have k3 := cc (some at_) none
      omega
    · refine gv_tup hv3 hxE.rev (fun e he => fp1 e (List.mem_reverse.mp he)) ?_
      rw [cost_rev]
      omega
    · refine gv_tup hv4 (hxE.app (.cons .non .nil)) (two fp1 (f1 fin_non)) ?_
      rw [cost_app]
      have : costAll [PyData.none] = 6 := rfl
      omega
    · refine gv_tup hv5 ((hxE.cut _ _).app (hxE.cut _ _)) (two (fc _ _) (fc _ _)) ?_
      rw [cost_app]
      have k1 := cc (some by_) none
      have k2 := cc none (some by_)
      omega
    · exact gv_non (by omega)
    · refine gv_tup hv7 (((hxE.cut _ _).app (.cons (.tup he0 .nil) .nil)).app (hxE.cut _ _)) (two (two (fc _ _) (f1 ((fin_tup (k := 0) (es := []) (fun e he => nomatch he)).mono (by omega) (Int.le_refl _)))) (fc _ _)) ?_
      rw [cost_app, cost_app]
      have k1 := cc none (some at_)
      have k3 := cc (some at_) none
      have : costAll [PyData.tuple []] = 5 := rfl
      omega
  | str x =>
    refine ⟨_, rfl, _, _, _, _, _, rfl, .ty _, .base (.str x), k_str_list, _, rfl, iteF ?_⟩
    refine ⟨_, rfl, _, _, _, _, _, rfl, .ty _, .base (.str x), k_str_tuple, _, rfl, iteF ?_⟩
    refine ⟨_, rfl, _, _, _, _, _, rfl, .ty _, .base (.str x), k_str_str, _, rfl, iteT ?_⟩
    have cx : 10 * x.length + 2 ≤ c := cd
    have lx : x.length ≤ sizeLine := Nat.le_trans (show x.length ≤ 1000000 by omega) (by decide)
    refine ⟨_, rfl, f, c0, 13, _, rfl, hfa, by omega, by decide, by decide, fun si Hb s0 s1 hfb bb _ => ?_⟩
    obtain ⟨sg, sg1, sg2⟩ := sign_at s0 s1
    refine ⟨_, _, sg, rfl, rfl, (by decide +kernel), sg1, ?_⟩
    refine ⟨_, rfl, _, rfl, x, rfl, lx, _, _, rfl, rfl, f, c0, _, _, rfl, hfb, by omega, by omega, by omega, fun at_ Hc a0 a1 hfc bc _ => ?_⟩
    have bC := ba.trans (bb.trans bc)
    have l1 : (⟨#[sg]⟩ : Str).length = 1 := rfl
    have lcut : ∀ lo hi : Option Int, (cutS x lo hi).length ≤ x.length := cutS_length x
    have la2 : ∀ {a b : Str} {n : Nat}, a.length + b.length ≤ n → (a ++ b).length ≤ n := fun h => by rw [strLen_append]; exact h
    have sz : ∀ {n : Nat}, n ≤ 10000000 → n ≤ sizeLine := fun h => Nat.le_trans h (by decide)
    have cut1 : ∀ lo hi : Option Int, (cutS x lo hi ++ (⟨#[sg]⟩ : Str)).length ≤ x.length + 1 := fun lo hi => la2 (by have := lcut lo hi; omega)
    refine ⟨_, rfl, _, rfl, _, _, rfl, rfl, sz (by omega), ?_⟩
    refine ⟨_, rfl, _, rfl, _, rfl, x, rfl, lx, _, rfl, _, _, rfl, rfl, sz (by have := lcut none (some at_); omega), ?_⟩
    refine ⟨_, rfl, _, rfl, _, rfl, x, rfl, lx, _, _, rfl, rfl, sz (by have := cut1 none (some at_); have := lcut (some at_) none; omega), ?_⟩
    refine ⟨_, rfl, _, rfl, x, rfl, lx, ?_⟩
    refine ⟨_, rfl, _, rfl, _, rfl, x, rfl, lx, _, rfl, _, _, rfl, rfl, sz (by have := lcut none (some at_); omega), ?_⟩
    refine ⟨_, rfl, _, rfl, _, _, rfl, rfl, _, rfl, x, rfl, lx, _, _, rfl, rfl, sz (by have := cut1 none (some at_); have := lcut (some (at_ + 1)) none; omega), ?_⟩
    refine ⟨_, rfl, (show 6 ≤ sizeLine by decide), fun la nla => ?_⟩
    have Sa := same_new nla (.lst [V.str (x ++ ⟨#[sg]⟩), .str ((cutS x none (some at_) ++ ⟨#[sg]⟩) ++ cutS x (some at_) none), .str (cutS x (some 1) none), .str ((cutS x none (some at_) ++ ⟨#[sg]⟩) ++ cutS x (some (at_ + 1)) none), .str (("" : String) : Str), .str ⟨#[sg]⟩])
    refine ⟨_, rfl, _, rfl, (show 1 ≤ sizeLine by decide), fun o1 no1 => ?_⟩
    have So := same_new no1 (.tup [V.str x])
    refine ⟨(show 2 ≤ sizeLine by decide), fun lb nlb => ?_⟩
    have Sb := same_new nlb (.lst [V.int 7, .ref o1])
    refine ⟨la, lb, _, _, rfl, rfl, Sb _ _ (So _ _ upd_same), upd_same, (show 8 ≤ sizeLine by decide), fun lz nlz => ?_⟩
    have Sz := same_new nlz (.lst ([V.str (x ++ ⟨#[sg]⟩), .str ((cutS x none (some at_) ++ ⟨#[sg]⟩) ++ cutS x (some at_) none), .str (cutS x (some 1) none), .str ((cutS x none (some at_) ++ ⟨#[sg]⟩) ++ cutS x (some (at_ + 1)) none), .str (("" : String) : Str), .str ⟨#[sg]⟩] ++ [V.int 7, .ref o1]))
    have SS := Sa.trans (So.trans (Sb.trans Sz))
    have ho := (Sb.trans Sz) _ _ (show _ = some (HO.tup [V.str x]) from upd_same)
    obtain ⟨v, w1, w2⟩ := atI_some (xs := [V.str (x ++ ⟨#[sg]⟩), .str ((cutS x none (some at_) ++ ⟨#[sg]⟩) ++ cutS x (some at_) none), .str (cutS x (some 1) none), .str ((cutS x none (some at_) ++ ⟨#[sg]⟩) ++ cutS x (some (at_ + 1)) none), .str (("" : String) : Str), .str ⟨#[sg]⟩, .int 7, .ref o1]) y0 (show way < 8 from y1)
    refine ⟨_, rfl, lz, _, _, _, rfl, rfl, SqL.of upd_same, w1, ?_⟩
    refine q _ _ ((hfc.same SS).mono (by omega)) (bC.trans (But.of_same SS)) ?_
    have chx := fd.ch
    have chs : ChOk ⟨#[sg]⟩ := ch_one sg2
    have cc := fun lo hi => ch_cut chx lo hi
    simp only [List.mem_cons, List.not_mem_nil, or_false] at w2
    rcases w2 with rfl | rfl | rfl | rfl | rfl | rfl | rfl | rfl
    · exact gv_str (ch_app chx chs) (by have := la2 (a := x) (b := ⟨#[sg]⟩) (n := x.length + 1) (by omega); omega)
    · refine gv_str (ch_app (ch_app (cc _ _) chs) (cc _ _)) ?_
      have k := la2 (a := cutS x none (some at_) ++ ⟨#[sg]⟩) (b := cutS x (some at_) none) (n := 2 * x.length + 1) (by have := cut1 none (some at_); have := lcut (some at_) none; omega)
      omega
    · exact gv_str (cc _ _) (by have := lcut (some 1) none; omega)
    · refine gv_str (ch_app (ch_app (cc _ _) chs) (cc _ _)) ?_
      have k := la2 (a := cutS x none (some at_) ++ ⟨#[sg]⟩) (b := cutS x (some (at_ + 1)) none) (n := 2 * x.length + 1) (by have := cut1 none (some at_); have := lcut (some (at_ + 1)) none; omega)
      omega
    · exact gv_str chE (by have : ((("" : String) : Str)).length = 0 := rfl; omega)
    · exact gv_str chs (by omega)
    · exact gv_int (by omega) (by omega) B40 (by omega)
    · exact (gv_tup (k := k) (es := [.str x]) ho (.cons (.str x) .nil) (fun e he => by rw [List.mem_singleton.mp he]; exact fin_str chx) (show 10 * x.length + 2 + 2 + 0 + 3 ≤ 3 * c + 5000 by omega))
  | non =>
    refine ⟨_, rfl, _, _, _, _, _, rfl, .ty _, .base .non, k_NoneType_list, _, rfl, iteF ?_⟩
    refine ⟨_, rfl, _, _, _, _, _, rfl, .ty _, .base .non, k_NoneType_tuple, _, rfl, iteF ?_⟩
    refine ⟨_, rfl, _, _, _, _, _, rfl, .ty _, .base .non, k_NoneType_str, _, rfl, iteF ?_⟩
    refine ⟨_, rfl, rfl, _, rfl, iteT ?_⟩
    refine ⟨(show 0 ≤ sizeLine by decide), fun e0 ne0 => ?_⟩
    have Se := same_new ne0 (.tup [])
    refine ⟨1, rfl, (show 8 ≤ sizeLine by decide), fun la nla => ?_⟩
    have Sa := same_new nla (.lst [V.non, .int 0, .int 1, .str (("a" : String) : Str), .ref e0, .bl true, .bl false, .int (-1)])
    have he0 := Sa _ _ (show _ = some (HO.tup []) from upd_same)
    have SS := Se.trans Sa
    obtain ⟨v, w1, w2⟩ := atI_some (xs := [V.non, .int 0, .int 1, .str (("a" : String) : Str), .ref e0, .bl true, .bl false, .int (-1)]) y0 (show way < 8 from y1)
    refine ⟨_, rfl, la, _, _, _, rfl, rfl, SqL.of upd_same, w1, ?_⟩
    refine q _ _ ((hfa.same SS).mono (by omega)) (ba.trans (But.of_same SS)) ?_
    simp only [List.mem_cons, List.not_mem_nil, or_false] at w2
    rcases w2 with rfl | rfl | rfl | rfl | rfl | rfl | rfl | rfl
    · exact gv_non (by omega)
    · exact gv_int (by omega) (by omega) B40 (by omega)
    · exact gv_int (by omega) (by omega) B40 (by omega)
    · exact gv_str chA (by have : ((("a" : String) : Str)).length = 1 := rfl; omega)
    · exact (gv_tup (k := k) he0 .nil (fun e he => nomatch he) (show 0 + 3 ≤ 3 * c + 5000 by omega))
    · exact gv_bl _ (by omega)
    · exact gv_bl _ (by omega)
    · exact gv_int (by omega) (by omega) B40 (by omega)
  | bl b =>
    refine ⟨_, rfl, _, _, _, _, _, rfl, .ty _, .base (.bl b), k_bool_list, _, rfl, iteF ?_⟩
    refine ⟨_, rfl, _, _, _, _, _, rfl, .ty _, .base (.bl b), k_bool_tuple, _, rfl, iteF ?_⟩
    refine ⟨_, rfl, _, _, _, _, _, rfl, .ty _, .base (.bl b), k_bool_str, _, rfl, iteF ?_⟩
    refine ⟨_, rfl, rfl, _, rfl, iteF ?_⟩
    refine ⟨_, rfl, _, _, _, _, _, rfl, .ty _, .base (.bl b), k_bool_bool, _, rfl, iteT ?_⟩
    refine ⟨(show 0 ≤ sizeLine by decide), fun e0 ne0 => ?_⟩
    have Se := same_new ne0 (.tup [])
    refine ⟨1, rfl, (show 8 ≤ sizeLine by decide), fun la nla => ?_⟩
    have Sa := same_new nla (.lst [V.non, .int 0, .int 1, .str (("a" : String) : Str), .ref e0, .bl true, .bl false, .int (-1)])
    have he0 := Sa _ _ (show _ = some (HO.tup []) from upd_same)
    have SS := Se.trans Sa
    obtain ⟨v, w1, w2⟩ := atI_some (xs := [V.non, .int 0, .int 1, .str (("a" : String) : Str), .ref e0, .bl true, .bl false, .int (-1)]) y0 (show way < 8 from y1)
    refine ⟨_, rfl, la, _, _, _, rfl, rfl, SqL.of upd_same, w1, ?_⟩
    refine q _ _ ((hfa.same SS).mono (by omega)) (ba.trans (But.of_same SS)) ?_
    simp only [List.mem_cons, List.not_mem_nil, or_false] at w2
    rcases w2 with rfl | rfl | rfl | rfl | rfl | rfl | rfl | rfl
    · exact gv_non (by omega)
    · exact gv_int (by omega) (by omega) B40 (by omega)
    · exact gv_int (by omega) (by omega) B40 (by omega)
    · exact gv_str chA (by have : ((("a" : String) : Str)).length = 1 := rfl; omega)
    · exact (gv_tup (k := k) he0 .nil (fun e he => nomatch he) (show 0 + 3 ≤ 3 * c + 5000 by omega))
    · exact gv_bl _ (by omega)
    · exact gv_bl _ (by omega)
    · exact gv_int (by omega) (by omega) B40 (by omega)
  | int i =>
    refine ⟨_, rfl, _, _, _, _, _, rfl, .ty _, .base (.int i), k_int_list, _, rfl, iteF ?_⟩
    refine ⟨_, rfl, _, _, _, _, _, rfl, .ty _, .base (.int i), k_int_tuple, _, rfl, iteF ?_⟩
    refine ⟨_, rfl, _, _, _, _, _, rfl, .ty _, .base (.int i), k_int_str, _, rfl, iteF ?_⟩
    refine ⟨_, rfl, rfl, _, rfl, iteF ?_⟩
    refine ⟨_, rfl, _, _, _, _, _, rfl, .ty _, .base (.int i), k_int_bool, _, rfl, iteF ?_⟩
    have e9 : (10 : Int) ^ (9 : Int).toNat = 1000000000 := by decide +kernel
    have cp : CPow 10 9 := ⟨by decide, by decide, by decide⟩
    refine ⟨_, rfl, _, _, rfl, rfl, _, rfl, _, _, rfl, rfl, 1, rfl, 10, 9, rfl, rfl, cp, _, rfl, rfl, 10, 9, rfl, rfl, cp, _, _, rfl, rfl, (show 8 ≤ sizeLine by decide), fun la nla => ?_⟩
    rw [e9]
    have Sa := same_new nla (.lst [V.int (i + 1), .int (i - 1), .int 0, .int (-1), .int 1000000000, .bl (decide (V.int i = V.int 1)), .int (1000000000 + 1), .str (("a" : String) : Str)])
    obtain ⟨v, w1, w2⟩ := atI_some (xs := [V.int (i + 1), .int (i - 1), .int 0, .int (-1), .int 1000000000, .bl (decide (V.int i = V.int 1)), .int (1000000000 + 1), .str (("a" : String) : Str)]) y0 (show way < 8 from y1)
    refine ⟨_, rfl, la, _, _, _, rfl, rfl, SqL.of upd_same, w1, ?_⟩
    refine q _ _ ((hfa.same Sa).mono (by omega)) (ba.trans (But.of_same Sa)) ?_
    have ib : -B ≤ i ∧ i ≤ B := fd.inb
    simp only [List.mem_cons, List.not_mem_nil, or_false] at w2
    rcases w2 with rfl | rfl | rfl | rfl | rfl | rfl | rfl | rfl
    · exact gv_int (by omega) (by omega) B40 (by omega)
    · exact gv_int (by omega) (by omega) B40 (by omega)
    · exact gv_int (by omega) (by omega) B40 (by omega)
    · exact gv_int (by omega) (by omega) B40 (by omega)
    · exact gv_int (by omega) (by omega) B40 (by omega)
    · exact gv_bl _ (by omega)
    · exact gv_int (by omega) (by omega) B40 (by omega)
    · exact gv_str chA (by have : ((("a" : String) : Str)).length = 1 := rfl; omega)

theorem ok_lbent {k n : Nat} (F : Fun K "_law_bent" "_law_bent" s_lbent f_lbent d_lbent) (T : Txt mg f_is_number f_is_from_to f_is_word f_is_tuple_of f_is_note f_is_run f_is_runs f_is_apart f_lfeed f_ldraw f_lnames f_lat f_lrun f_llot f_lhas f_lmade f_lis_number f_lis_word f_lis_run f_lis_runs f_lis_note f_lodd f_lbent f_lmenu f_lthings f_law)
    (F_ldraw : Fun K "_law_draw" "_law_draw" s_ldraw f_ldraw d_ldraw) (b_ldraw : Binds K d_ldraw ["_law_feed_here", "_law_many"] []) (G_ldraw : FnOk P w K mg base CX0 (k + 1) f_ldraw d_ldraw ["_law_feed_here", "_law_many"] spDraw)
    (F_lodd : Fun K "_law_odd" "_law_odd" s_lodd f_lodd d_lodd) (b_lodd : Binds K d_lodd ["_law_feed_here", "_law_thing"] []) (G_lodd : FnOk P w K mg base CX0 (k + 1) f_lodd d_lodd ["_law_feed_here", "_law_thing"] spOdd)
    (F_lbent : Fun K "_law_bent" "_law_bent" s_lbent f_lbent d_lbent) (b_lbent : Binds K d_lbent ["_law_feed_here", "_law_thing"] []) (G_lbent : FnOk P w K mg base CX0 (k + 1) f_lbent d_lbent ["_law_feed_here", "_law_thing"] (spBentK n)) :
    FnOk P w K mg base CX0 (k + 2) f_lbent d_lbent ["_law_feed_here", "_law_thing"] (spBentK (n + 1)) := by
  refine F.ok sc_lbent (fun vs H Q E h => ?_) (fun cdv A outer s H vs Q E hr h => ?_)

  · obtain ⟨f, c0, v, d, m, k, c, B, rfl, _⟩ := h
    rfl
  obtain ⟨f, c0, v, d, m, k, c, B, rfl, hf, hm, hd0, ⟨fd, cd⟩, hk, hk2, hc, hB1, hB2, q⟩ := h
  refine ⟨_, (pss_cons (ps_if (PW.pt (pw_and (pt_val (pe_callB call_isi (by rfl) T.isinstance (by decide +kernel) (pa_cons (pv 1) (pa_cons (pe_bltn (v := .ty "tuple") (by rfl) T.tuple (by decide +kernel) rfl) pa_nil)))) (pw_and (pt_cmpR op_gt (pe_callB call_len_seq (by rfl) T.len (by decide +kernel) (pa_cons (pv 1) pa_nil)) pe_int (nomark _)) (pw_and1 (pt_cmpR op_gt (pe_call G_ldraw hr (by rfl) T.m_ldraw F_ldraw.kp b_ldraw .nil pass0 (pa_cons (pv 0) (pa_cons pe_int pa_nil))) pe_int (nomark _))))))
  (pss_cons (ps_set (i := 2) sc_lbent.nd rfl (.inl rfl) (pe_call G_ldraw hr (by rfl) T.m_ldraw F_ldraw.kp b_ldraw .nil pass0 (pa_cons (pv 0) (pa_cons (pe_callB call_len_seq (by rfl) T.len (by decide +kernel) (pa_cons (pv 1) pa_nil)) pa_nil))))
  (pss_one (ps_ret (pe_op op_catTk (pe_op op_catTk (pe_slice sl_tupTk (pv 1) po_none (po_some (pv 2))) (pe_tup (pa_cons (pe_call G_lbent hr (by rfl) T.m_lbent F_lbent.kp b_lbent .nil pass0 (pa_cons (pv 0) (pa_cons (pe_ix ix_tup (pv 1) (pv 2) (fun _ _ => rfl)) pa_nil))) pa_nil))) (pe_slice sl_tupTk (pv 1) (po_some (pe_op op_add (pv 2) pe_int)) po_none)))))
  pss_nil)
  (pss_one (ps_ret (pe_call G_lodd hr (by rfl) T.m_lodd F_lodd.kp b_lodd .nil pass0 (pa_cons (pv 0) (pa_cons (pv 1) pa_nil)))))), ?_⟩
  have hd := hd0
  cases hd with
  | non =>
    refine ⟨_, rfl, _, _, _, _, _, rfl, .ty _, .base .non, k_NoneType_tuple, _, rfl, iteF ?_⟩
    exact ⟨_, rfl, _, rfl, f, c0, _, _, m, k, c, B, rfl, hf, by omega, hd0, ⟨fd, cd⟩, hk2, hc, hB1, hB2, fun v' H' h1 h2 h3 => q v' H' (h1.mono (by omega)) h2 h3⟩
  | bl b =>
    refine ⟨_, rfl, _, _, _, _, _, rfl, .ty _, .base (.bl b), k_bool_tuple, _, rfl, iteF ?_⟩
    exact ⟨_, rfl, _, rfl, f, c0, _, _, m, k, c, B, rfl, hf, by omega, hd0, ⟨fd, cd⟩, hk2, hc, hB1, hB2, fun v' H' h1 h2 h3 => q v' H' (h1.mono (by omega)) h2 h3⟩
  | int i =>
    refine ⟨_, rfl, _, _, _, _, _, rfl, .ty _, .base (.int i), k_int_tuple, _, rfl, iteF ?_⟩
    exact ⟨_, rfl, _, rfl, f, c0, _, _, m, k, c, B, rfl, hf, by omega, hd0, ⟨fd, cd⟩, hk2, hc, hB1, hB2, fun v' H' h1 h2 h3 => q v' H' (h1.mono (by omega)) h2 h3⟩
  | str x =>
    refine ⟨_, rfl, _, _, _, _, _, rfl, .ty _, .base (.str x), k_str_tuple, _, rfl, iteF ?_⟩
    exact ⟨_, rfl, _, rfl, f, c0, _, _, m, k, c, B, rfl, hf, by omega, hd0, ⟨fd, cd⟩, hk2, hc, hB1, hB2, fun v' H' h1 h2 h3 => q v' H' (h1.mono (by omega)) h2 h3⟩
  | lst hna h hx =>
    refine ⟨_, rfl, _, _, _, _, _, rfl, .ty _, .base (.lst h), k_list_tuple, _, rfl, iteF ?_⟩
    exact ⟨_, rfl, _, rfl, f, c0, _, _, m, k, c, B, rfl, hf, by omega, hd0, ⟨fd, cd⟩, hk2, hc, hB1, hB2, fun v' H' h1 h2 h3 => q v' H' (h1.mono (by omega)) h2 h3⟩
  | tup ht hx =>
    rename_i t xs ds
    refine ⟨_, rfl, _, _, _, _, _, rfl, .ty _, .base (.tup ht), k_tuple_tuple, _, rfl, iteT ?_⟩
    have ln := hx.len
    have cd2 : costAll ds + 3 ≤ c := cd
    have cl := cost_len ds
    refine ⟨_, rfl, _, _, rfl, .inr (SqT.of ht), _, _, rfl, rfl, _, rfl, ?_⟩
    refine ite2 (fun c1 => ?_) (fun c1 => ?_)
    rotate_left
    · exact ⟨_, rfl, _, rfl, f, c0, _, _, m, k, c, B, rfl, hf, by omega, hd0, ⟨fd, cd⟩, hk2, hc, hB1, hB2, fun v' H' h1 h2 h3 => q v' H' (h1.mono (by omega)) h2 h3⟩
    have c1 : 0 < xs.length := by
      have z := of_decide_eq_true c1
      omega
    have bump : ∀ {Hx : Hp}, But f H Hx → Hx t = some (.tup xs) := fun b => by
      obtain ⟨zs, hz⟩ := hf.at
      exact b _ _ (ne_of ht hz fun z => nomatch z) ht
    refine ⟨_, rfl, f, c0, 4, _, rfl, hf, by omega, by decide, by decide, fun w Ha w0 w1 hfa ba _ => ?_⟩
    refine ⟨_, _, rfl, rfl, _, rfl, ?_⟩
    have hdA := hd0.but (fun _ z => z) ba hf
    refine ite2 (fun c2 => ?_) (fun c2 => ?_)
    rotate_left
    · exact ⟨_, rfl, _, rfl, f, c0, _, _, _, k, c, B, rfl, hfa, by omega, hdA, ⟨fd, cd⟩, hk2, hc, hB1, hB2, fun v' H' h1 h2 h3 => q v' H' (h1.mono (by omega)) (ba.trans h2) h3⟩
    refine ⟨_, rfl, _, rfl, t, _, rfl, .inr (SqT.of (bump ba)), f, c0, _, _, rfl, hfa, by omega, by omega, by omega, fun at_ Hb a0 a1 hfb bb _ => ?_⟩
    obtain ⟨i, rfl⟩ : ∃ i : Nat, at_ = i := ⟨at_.toNat, by omega⟩
    have hi : i < xs.length := by omega
    have bB := ba.trans bb
    have htB := bump bB
    obtain ⟨dp, hdp, hxp⟩ := hx.get (List.getElem?_eq_getElem hi)
    have small : ∀ {n : Nat}, n ≤ 10000000 → n ≤ sizeLine := fun h => Nat.le_trans h (by decide)
    have lc : ∀ lo hi : Option Int, (cutV xs lo hi).length ≤ 2000000 := fun lo hi => Nat.le_trans (cutV_length _ _ _) (by omega)
    obtain ⟨j, rfl, fp⟩ := fin_part fd
    have fpd := fp dp (List.mem_of_getElem? hdp)
    have cpt := cost_put hdp
    refine ⟨_, rfl, _, rfl, _, rfl, t, _, rfl, htB, fun q1 Hc Sc hq1 => ?_⟩
    have htC := Sc _ _ htB
    have bC := bB.trans (But.of_same Sc)
    refine ⟨_, rfl, _, rfl, _, rfl, t, _, _, _, rfl, rfl, SqT.of htC, atI_nat (List.getElem?_eq_getElem hi), ?_⟩
    obtain ⟨n', rfl⟩ : ∃ n', n = n' + 1 := ⟨n - 1, by omega⟩
    have hxC := hx.but bC hf
    obtain ⟨dq, hdq, hxq⟩ := hxC.get (List.getElem?_eq_getElem hi)
    rw [hdp] at hdq
    cases hdq
    have fdC := hfb.same Sc
    refine ⟨f, c0, _, dp, _, j, cost dp, B, rfl, fdC, by omega, hxq, ⟨fpd, Nat.le_refl _⟩, by omega, by omega, by omega, hB1, hB2, fun u Hd hfd bd gu => ?_⟩
    refine ⟨(show 1 ≤ sizeLine by decide), fun o1 no1 => ?_⟩
    have So := same_new no1 (.tup [u])
    refine ⟨q1, o1, _, _, rfl, rfl, So _ _ (bd.tup fdC hq1), upd_same, small (by have := lc none (some (i : Int)); show _ + 1 ≤ _; omega), fun q2 He Se hq2 => ?_⟩
    have S2 := So.trans Se
    have hfe := hfd.same S2
    have bE := bC.trans (bd.trans (But.of_same S2))
    refine ⟨_, rfl, _, rfl, _, _, rfl, rfl, _, rfl, t, _, rfl, S2 _ _ (bd.tup fdC htC), fun q3 Hg Sg hq3 => ?_⟩
    refine ⟨q2, q3, _, _, rfl, rfl, Sg _ _ hq2, hq3, small (by rw [List.length_append]; have := lc none (some (i : Int)); have := lc (some ((i : Int) + 1)) none; show _ + 1 + _ ≤ _; omega), fun r Hz Sz hr => ?_⟩
    have S4 := Sg.trans Sz
    obtain ⟨du, hdu, fu, cu⟩ := gu.same (S2.trans S4)
    have hxZ := hx.but (bE.trans (But.of_same S4)) hf
    refine q _ _ ((hfe.same S4).mono (by omega)) (bE.trans (But.of_same S4)) ?_
    refine gv_tup hr (((hxZ.cut _ _).app (.cons hdu .nil)).app (hxZ.cut _ _)) (fun e he => ?_) ?_
    · rcases List.mem_append.mp he with he | he
      · rcases List.mem_append.mp he with he | he
        · exact (fp e (cutD_mem he)).mono (Nat.le_succ _) (by omega)
        · rw [List.mem_singleton.mp he]
          exact fu
      · exact (fp e (cutD_mem he)).mono (Nat.le_succ _) (by omega)
    · have e : ((i : Int) + 1) = ((i + 1 : Nat) : Int) := by omega
      rw [cost_app, cost_app, cutD_to, e, cutD_from]
      have : costAll [du] = cost du + 2 + 0 := rfl
      omega

theorem ok_lmenu (F : Fun K "_law_menu" "_law_menu" s_lmenu f_lmenu d_lmenu) (T : Txt mg f_is_number f_is_from_to f_is_word f_is_tuple_of f_is_note f_is_run f_is_runs f_is_apart f_lfeed f_ldraw f_lnames f_lat f_lrun f_llot f_lhas f_lmade f_lis_number f_lis_word f_lis_run f_lis_runs f_lis_note f_lodd f_lbent f_lmenu f_lthings f_law) :
    FnOk P w K mg base CX0 (1) f_lmenu d_lmenu [] spMenu := by
  refine F.ok sc_lmenu (fun vs H Q E h => ?_) (fun cdv A outer s H vs Q E hr h => ?_)

  · exact h.1 ▸ rfl
  obtain ⟨rfl, q⟩ := h
  refine ⟨_, (pss_cons (ps_set (i := 0) sc_lmenu.nd rfl (.inl rfl) (pe_lst (pa_cons pe_non (pa_cons pe_bl (pa_cons pe_int (pa_cons pe_str (pa_cons (pe_tup pa_nil) (pa_cons (pe_lst pa_nil) (pa_cons (pe_tup (pa_cons pe_str (pa_cons pe_int pa_nil))) (pa_cons (pe_lst (pa_cons pe_str (pa_cons pe_int pa_nil))) (pa_cons (pe_tup (pa_cons pe_str (pa_cons pe_bl pa_nil))) (pa_cons (pe_tup (pa_cons pe_str (pa_cons (pe_op op_pow pe_int pe_int) pa_nil))) (pa_cons (pe_tup (pa_cons pe_str (pa_cons pe_int pa_nil))) (pa_cons (pe_tup (pa_cons pe_str (pa_cons pe_int pa_nil))) pa_nil))))))))))))))
  (pss_cons (ps_set (i := 0) sc_lmenu.nd rfl (.inl rfl) (pe_op op_cat (pv 0) (pe_lst (pa_cons (pe_tup (pa_cons pe_str (pa_cons pe_int pa_nil))) (pa_cons (pe_tup (pa_cons pe_str (pa_cons pe_int pa_nil))) (pa_cons (pe_tup (pa_cons pe_str (pa_cons pe_int pa_nil))) (pa_cons (pe_tup (pa_cons pe_str (pa_cons pe_int pa_nil))) (pa_cons (pe_tup (pa_cons pe_str pa_nil)) (pa_cons (pe_tup (pa_cons pe_str (pa_cons pe_int (pa_cons pe_int pa_nil)))) (pa_cons (pe_tup (pa_cons pe_str (pa_cons pe_int (pa_cons (pe_op op_pow pe_int pe_int) pa_nil)))) pa_nil))))))))))
  (pss_cons (ps_set (i := 0) sc_lmenu.nd rfl (.inl rfl) (pe_op op_cat (pv 0) (pe_lst (pa_cons (pe_tup (pa_cons pe_str (pa_cons pe_int (pa_cons (pe_op op_add (pe_op op_pow pe_int pe_int) pe_int) pa_nil)))) (pa_cons (pe_tup (pa_cons pe_str (pa_cons (pe_un un_neg pe_int) (pa_cons pe_int pa_nil)))) (pa_cons (pe_tup (pa_cons pe_str (pa_cons pe_bl (pa_cons pe_int pa_nil)))) (pa_cons (pe_tup (pa_cons pe_str (pa_cons pe_int (pa_cons pe_bl pa_nil)))) (pa_cons (pe_lst (pa_cons pe_str (pa_cons pe_int (pa_cons pe_int pa_nil)))) (pa_cons (pe_tup (pa_cons pe_int (pa_cons pe_int (pa_cons pe_int pa_nil)))) pa_nil)))))))))
  (pss_cons (ps_set (i := 0) sc_lmenu.nd rfl (.inl rfl) (pe_op op_cat (pv 0) (pe_lst (pa_cons (pe_tup (pa_cons (pe_tup (pa_cons pe_str (pa_cons pe_int (pa_cons pe_int pa_nil)))) pa_nil)) (pa_cons (pe_tup (pa_cons (pe_tup (pa_cons pe_str (pa_cons pe_int (pa_cons pe_int pa_nil)))) (pa_cons (pe_tup (pa_cons pe_str (pa_cons pe_int (pa_cons pe_int pa_nil)))) pa_nil))) (pa_cons (pe_tup (pa_cons (pe_tup (pa_cons pe_str (pa_cons pe_int (pa_cons pe_int pa_nil)))) (pa_cons (pe_tup (pa_cons pe_str (pa_cons pe_int (pa_cons pe_int pa_nil)))) pa_nil))) (pa_cons (pe_tup (pa_cons (pe_tup (pa_cons pe_str (pa_cons pe_int (pa_cons pe_int pa_nil)))) (pa_cons (pe_tup (pa_cons pe_str (pa_cons pe_int (pa_cons pe_int pa_nil)))) pa_nil))) pa_nil)))))))
  (pss_cons (ps_set (i := 0) sc_lmenu.nd rfl (.inl rfl) (pe_op op_cat (pv 0) (pe_lst (pa_cons (pe_lst (pa_cons (pe_tup (pa_cons pe_str (pa_cons pe_int (pa_cons pe_int pa_nil)))) pa_nil)) (pa_cons (pe_tup (pa_cons (pe_tup (pa_cons pe_str (pa_cons pe_int (pa_cons pe_int pa_nil)))) (pa_cons (pe_lst (pa_cons pe_str (pa_cons pe_int (pa_cons pe_int pa_nil)))) pa_nil))) (pa_cons (pe_tup (pa_cons (pe_tup (pa_cons pe_str (pa_cons pe_int (pa_cons pe_int pa_nil)))) (pa_cons (pe_tup (pa_cons pe_str (pa_cons pe_int (pa_cons pe_int pa_nil)))) pa_nil))) (pa_cons (pe_tup (pa_cons (pe_tup (pa_cons pe_str (pa_cons pe_int (pa_cons (pe_op op_pow pe_int pe_int) pa_nil)))) pa_nil)) pa_nil)))))))
  (pss_cons (ps_set (i := 0) sc_lmenu.nd rfl (.inl rfl) (pe_op op_cat (pv 0) (pe_lst (pa_cons (pe_tup (pa_cons (pe_tup (pa_cons pe_str (pa_cons pe_int (pa_cons pe_int pa_nil)))) (pa_cons (pe_tup (pa_cons pe_str (pa_cons pe_int (pa_cons pe_int pa_nil)))) pa_nil))) (pa_cons (pe_tup (pa_cons (pe_tup (pa_cons pe_str (pa_cons pe_int (pa_cons pe_int pa_nil)))) (pa_cons (pe_tup (pa_cons pe_str (pa_cons pe_int (pa_cons pe_int pa_nil)))) pa_nil))) (pa_cons (pe_tup (pa_cons (pe_tup (pa_cons pe_str (pa_cons pe_int (pa_cons pe_int pa_nil)))) (pa_cons (pe_tup (pa_cons pe_str (pa_cons pe_int (pa_cons pe_int pa_nil)))) pa_nil))) (pa_cons (pe_tup (pa_cons (pe_tup pa_nil) (pa_cons (pe_tup pa_nil) pa_nil))) (pa_cons (pe_tup (pa_cons (pe_tup pa_nil) pa_nil)) pa_nil))))))))
  (pss_one (ps_ret (pe_op op_cat (pv 0) (pe_lst (pa_cons (pe_tup (pa_cons (pe_tup (pa_cons pe_str (pa_cons pe_int (pa_cons pe_int pa_nil)))) (pa_cons (pe_tup (pa_cons pe_str (pa_cons pe_int (pa_cons pe_int pa_nil)))) pa_nil))) (pa_cons (pe_tup (pa_cons pe_str (pa_cons (pe_op op_sub (pe_op op_pow pe_int pe_int) pe_int) (pa_cons (pe_op op_pow pe_int pe_int) pa_nil)))) (pa_cons (pe_tup (pa_cons pe_str (pa_cons (pe_op op_pow pe_int pe_int) (pa_cons (pe_op op_add (pe_op op_pow pe_int pe_int) pe_int) pa_nil)))) (pa_cons (pe_tup (pa_cons pe_str (pa_cons (pe_un un_neg pe_int) pa_nil))) pa_nil)))))))))))))), ?_⟩
  have cp : ∀ {j : Int}, 0 ≤ j ∧ j ≤ 1000000 → CPow 10 j := fun h => ⟨h.1, h.2, by decide⟩
  refine ⟨(show 0 ≤ sizeLine by decide), fun p1 np1 => ?_⟩
  have SG1 := same_new np1 (.tup [])
  have hp1 : upd H p1 (.tup []) p1 = some (.tup []) := upd_same
  generalize upd H p1 (.tup []) = G1 at hp1 SG1 ⊢
  refine ⟨(show 0 ≤ sizeLine by decide), fun p2 np2 => ?_⟩
  have SG2 := same_new np2 (.lst [])
  have hp2 : upd G1 p2 (.lst []) p2 = some (.lst []) := upd_same
  generalize upd G1 p2 (.lst []) = G2 at hp2 SG2 ⊢
  refine ⟨(show 2 ≤ sizeLine by decide), fun p3 np3 => ?_⟩
  have SG3 := same_new np3 (.tup [V.str (("a" : String) : Str), .int 0])
  have hp3 : upd G2 p3 (.tup [V.str (("a" : String) : Str), .int 0]) p3 = some (.tup [V.str (("a" : String) : Str), .int 0]) := upd_same
  generalize upd G2 p3 (.tup [V.str (("a" : String) : Str), .int 0]) = G3 at hp3 SG3 ⊢
  refine ⟨(show 2 ≤ sizeLine by decide), fun p4 np4 => ?_⟩
  have SG4 := same_new np4 (.lst [V.str (("a" : String) : Str), .int 0])
  have hp4 : upd G3 p4 (.lst [V.str (("a" : String) : Str), .int 0]) p4 = some (.lst [V.str (("a" : String) : Str), .int 0]) := upd_same
  generalize upd G3 p4 (.lst [V.str (("a" : String) : Str), .int 0]) = G4 at hp4 SG4 ⊢
  refine ⟨(show 2 ≤ sizeLine by decide), fun p5 np5 => ?_⟩
  have SG5 := same_new np5 (.tup [V.str (("a" : String) : Str), .bl true])
  have hp5 : upd G4 p5 (.tup [V.str (("a" : String) : Str), .bl true]) p5 = some (.tup [V.str (("a" : String) : Str), .bl true]) := upd_same
  generalize upd G4 p5 (.tup [V.str (("a" : String) : Str), .bl true]) = G5 at hp5 SG5 ⊢
  refine ⟨10, 9, rfl, rfl, cp (by decide), (show 2 ≤ sizeLine by decide), fun p6 np6 => ?_⟩
  have SG6 := same_new np6 (.tup [V.str (("a" : String) : Str), .int (10 ^ (9 : Int).toNat)])
  have hp6 : upd G5 p6 (.tup [V.str (("a" : String) : Str), .int (10 ^ (9 : Int).toNat)]) p6 = some (.tup [V.str (("a" : String) : Str), .int (10 ^ (9 : Int).toNat)]) := upd_same
  generalize upd G5 p6 (.tup [V.str (("a" : String) : Str), .int (10 ^ (9 : Int).toNat)]) = G6 at hp6 SG6 ⊢
  refine ⟨(show 2 ≤ sizeLine by decide), fun p7 np7 => ?_⟩
  have SG7 := same_new np7 (.tup [V.str (("a" : String) : Str), .int 999999999])
  have hp7 : upd G6 p7 (.tup [V.str (("a" : String) : Str), .int 999999999]) p7 = some (.tup [V.str (("a" : String) : Str), .int 999999999]) := upd_same
  generalize upd G6 p7 (.tup [V.str (("a" : String) : Str), .int 999999999]) = G7 at hp7 SG7 ⊢
  refine ⟨(show 2 ≤ sizeLine by decide), fun p8 np8 => ?_⟩
  have SG8 := same_new np8 (.tup [V.str (("" : String) : Str), .int 0])
  have hp8 : upd G7 p8 (.tup [V.str (("" : String) : Str), .int 0]) p8 = some (.tup [V.str (("" : String) : Str), .int 0]) := upd_same
  generalize upd G7 p8 (.tup [V.str (("" : String) : Str), .int 0]) = G8 at hp8 SG8 ⊢
  refine ⟨(show 12 ≤ sizeLine by decide), fun p9 np9 => ?_⟩
  have SG9 := same_new np9 (.lst [V.non, .bl true, .int 1, .str (("a" : String) : Str), .ref p1, .ref p2, .ref p3, .ref p4, .ref p5, .ref p6, .ref p7, .ref p8])
  have hp9 : upd G8 p9 (.lst [V.non, .bl true, .int 1, .str (("a" : String) : Str), .ref p1, .ref p2, .ref p3, .ref p4, .ref p5, .ref p6, .ref p7, .ref p8]) p9 = some (.lst [V.non, .bl true, .int 1, .str (("a" : String) : Str), .ref p1, .ref p2, .ref p3, .ref p4, .ref p5, .ref p6, .ref p7, .ref p8]) := upd_same
  generalize upd G8 p9 (.lst [V.non, .bl true, .int 1, .str (("a" : String) : Str), .ref p1, .ref p2, .ref p3, .ref p4, .ref p5, .ref p6, .ref p7, .ref p8]) = G9 at hp9 SG9 ⊢
  refine ⟨_, rfl, (show 2 ≤ sizeLine by decide), fun p10 np10 => ?_⟩
  have SG10 := same_new np10 (.tup [V.str (("abcdefghi" : String) : Str), .int 0])
  have hp10 : upd G9 p10 (.tup [V.str (("abcdefghi" : String) : Str), .int 0]) p10 = some (.tup [V.str (("abcdefghi" : String) : Str), .int 0]) := upd_same
  generalize upd G9 p10 (.tup [V.str (("abcdefghi" : String) : Str), .int 0]) = G10 at hp10 SG10 ⊢
  refine ⟨(show 2 ≤ sizeLine by decide), fun p11 np11 => ?_⟩
  have SG11 := same_new np11 (.tup [V.str (("abcdefgh" : String) : Str), .int 0])
  have hp11 : upd G10 p11 (.tup [V.str (("abcdefgh" : String) : Str), .int 0]) p11 = some (.tup [V.str (("abcdefgh" : String) : Str), .int 0]) := upd_same
  generalize upd G10 p11 (.tup [V.str (("abcdefgh" : String) : Str), .int 0]) = G11 at hp11 SG11 ⊢
  refine ⟨(show 2 ≤ sizeLine by decide), fun p12 np12 => ?_⟩
  have SG12 := same_new np12 (.tup [V.str (("A" : String) : Str), .int 0])
  have hp12 : upd G11 p12 (.tup [V.str (("A" : String) : Str), .int 0]) p12 = some (.tup [V.str (("A" : String) : Str), .int 0]) := upd_same
  generalize upd G11 p12 (.tup [V.str (("A" : String) : Str), .int 0]) = G12 at hp12 SG12 ⊢
  refine ⟨(show 2 ≤ sizeLine by decide), fun p13 np13 => ?_⟩
  have SG13 := same_new np13 (.tup [V.str (("a " : String) : Str), .int 0])
  have hp13 : upd G12 p13 (.tup [V.str (("a " : String) : Str), .int 0]) p13 = some (.tup [V.str (("a " : String) : Str), .int 0]) := upd_same
  generalize upd G12 p13 (.tup [V.str (("a " : String) : Str), .int 0]) = G13 at hp13 SG13 ⊢
  refine ⟨(show 1 ≤ sizeLine by decide), fun p14 np14 => ?_⟩
  have SG14 := same_new np14 (.tup [V.str (("a" : String) : Str)])
  have hp14 : upd G13 p14 (.tup [V.str (("a" : String) : Str)]) p14 = some (.tup [V.str (("a" : String) : Str)]) := upd_same
  generalize upd G13 p14 (.tup [V.str (("a" : String) : Str)]) = G14 at hp14 SG14 ⊢
  refine ⟨(show 3 ≤ sizeLine by decide), fun p15 np15 => ?_⟩
  have SG15 := same_new np15 (.tup [V.str (("a" : String) : Str), .int 0, .int 0])
  have hp15 : upd G14 p15 (.tup [V.str (("a" : String) : Str), .int 0, .int 0]) p15 = some (.tup [V.str (("a" : String) : Str), .int 0, .int 0]) := upd_same
  generalize upd G14 p15 (.tup [V.str (("a" : String) : Str), .int 0, .int 0]) = G15 at hp15 SG15 ⊢
  refine ⟨10, 9, rfl, rfl, cp (by decide), (show 3 ≤ sizeLine by decide), fun p16 np16 => ?_⟩
  have SG16 := same_new np16 (.tup [V.str (("a" : String) : Str), .int 0, .int (10 ^ (9 : Int).toNat)])
  have hp16 : upd G15 p16 (.tup [V.str (("a" : String) : Str), .int 0, .int (10 ^ (9 : Int).toNat)]) p16 = some (.tup [V.str (("a" : String) : Str), .int 0, .int (10 ^ (9 : Int).toNat)]) := upd_same
  generalize upd G15 p16 (.tup [V.str (("a" : String) : Str), .int 0, .int (10 ^ (9 : Int).toNat)]) = G16 at hp16 SG16 ⊢
  refine ⟨(show 7 ≤ sizeLine by decide), fun p17 np17 => ?_⟩
  have SG17 := same_new np17 (.lst [V.ref p10, .ref p11, .ref p12, .ref p13, .ref p14, .ref p15, .ref p16])
  have hp17 : upd G16 p17 (.lst [V.ref p10, .ref p11, .ref p12, .ref p13, .ref p14, .ref p15, .ref p16]) p17 = some (.lst [V.ref p10, .ref p11, .ref p12, .ref p13, .ref p14, .ref p15, .ref p16]) := upd_same
  generalize upd G16 p17 (.lst [V.ref p10, .ref p11, .ref p12, .ref p13, .ref p14, .ref p15, .ref p16]) = G17 at hp17 SG17 ⊢
  refine ⟨p9, p17, _, _, rfl, rfl, (SG17 _ _ (SG16 _ _ (SG15 _ _ (SG14 _ _ (SG13 _ _ (SG12 _ _ (SG11 _ _ (SG10 _ _ hp9)))))))), hp17, (show 19 ≤ sizeLine by decide), fun p18 np18 => ?_⟩
  have SG18 := same_new np18 (.lst ([V.non, .bl true, .int 1, .str (("a" : String) : Str), .ref p1, .ref p2, .ref p3, .ref p4, .ref p5, .ref p6, .ref p7, .ref p8] ++ [V.ref p10, .ref p11, .ref p12, .ref p13, .ref p14, .ref p15, .ref p16]))
  have hp18 : upd G17 p18 (.lst ([V.non, .bl true, .int 1, .str (("a" : String) : Str), .ref p1, .ref p2, .ref p3, .ref p4, .ref p5, .ref p6, .ref p7, .ref p8] ++ [V.ref p10, .ref p11, .ref p12, .ref p13, .ref p14, .ref p15, .ref p16])) p18 = some (.lst ([V.non, .bl true, .int 1, .str (("a" : String) : Str), .ref p1, .ref p2, .ref p3, .ref p4, .ref p5, .ref p6, .ref p7, .ref p8] ++ [V.ref p10, .ref p11, .ref p12, .ref p13, .ref p14, .ref p15, .ref p16])) := upd_same
  generalize upd G17 p18 (.lst ([V.non, .bl true, .int 1, .str (("a" : String) : Str), .ref p1, .ref p2, .ref p3, .ref p4, .ref p5, .ref p6, .ref p7, .ref p8] ++ [V.ref p10, .ref p11, .ref p12, .ref p13, .ref p14, .ref p15, .ref p16])) = G18 at hp18 SG18 ⊢
  have hp18 : G18 p18 = some (.lst [V.non, .bl true, .int 1, .str (("a" : String) : Str), .ref p1, .ref p2, .ref p3, .ref p4, .ref p5, .ref p6, .ref p7, .ref p8, .ref p10, .ref p11, .ref p12, .ref p13, .ref p14, .ref p15, .ref p16]) := hp18
  refine ⟨_, rfl, 10, 9, rfl, rfl, cp (by decide), _, _, rfl, rfl, (show 3 ≤ sizeLine by decide), fun p19 np19 => ?_⟩
  have SG19 := same_new np19 (.tup [V.str (("a" : String) : Str), .int 0, .int (10 ^ (9 : Int).toNat + 1)])
  have hp19 : upd G18 p19 (.tup [V.str (("a" : String) : Str), .int 0, .int (10 ^ (9 : Int).toNat + 1)]) p19 = some (.tup [V.str (("a" : String) : Str), .int 0, .int (10 ^ (9 : Int).toNat + 1)]) := upd_same
  generalize upd G18 p19 (.tup [V.str (("a" : String) : Str), .int 0, .int (10 ^ (9 : Int).toNat + 1)]) = G19 at hp19 SG19 ⊢
  refine ⟨1, rfl, (show 3 ≤ sizeLine by decide), fun p20 np20 => ?_⟩
  have SG20 := same_new np20 (.tup [V.str (("a" : String) : Str), .int (-1), .int 1])
  have hp20 : upd G19 p20 (.tup [V.str (("a" : String) : Str), .int (-1), .int 1]) p20 = some (.tup [V.str (("a" : String) : Str), .int (-1), .int 1]) := upd_same
  generalize upd G19 p20 (.tup [V.str (("a" : String) : Str), .int (-1), .int 1]) = G20 at hp20 SG20 ⊢
  refine ⟨(show 3 ≤ sizeLine by decide), fun p21 np21 => ?_⟩
  have SG21 := same_new np21 (.tup [V.str (("a" : String) : Str), .bl false, .int 1])
  have hp21 : upd G20 p21 (.tup [V.str (("a" : String) : Str), .bl false, .int 1]) p21 = some (.tup [V.str (("a" : String) : Str), .bl false, .int 1]) := upd_same
  generalize upd G20 p21 (.tup [V.str (("a" : String) : Str), .bl false, .int 1]) = G21 at hp21 SG21 ⊢
  refine ⟨(show 3 ≤ sizeLine by decide), fun p22 np22 => ?_⟩
  have SG22 := same_new np22 (.tup [V.str (("a" : String) : Str), .int 0, .bl true])
  have hp22 : upd G21 p22 (.tup [V.str (("a" : String) : Str), .int 0, .bl true]) p22 = some (.tup [V.str (("a" : String) : Str), .int 0, .bl true]) := upd_same
  generalize upd G21 p22 (.tup [V.str (("a" : String) : Str), .int 0, .bl true]) = G22 at hp22 SG22 ⊢
  refine ⟨(show 3 ≤ sizeLine by decide), fun p23 np23 => ?_⟩
  have SG23 := same_new np23 (.lst [V.str (("a" : String) : Str), .int 0, .int 1])
  have hp23 : upd G22 p23 (.lst [V.str (("a" : String) : Str), .int 0, .int 1]) p23 = some (.lst [V.str (("a" : String) : Str), .int 0, .int 1]) := upd_same
  generalize upd G22 p23 (.lst [V.str (("a" : String) : Str), .int 0, .int 1]) = G23 at hp23 SG23 ⊢
  refine ⟨(show 3 ≤ sizeLine by decide), fun p24 np24 => ?_⟩
  have SG24 := same_new np24 (.tup [V.int 0, .int 0, .int 1])
  have hp24 : upd G23 p24 (.tup [V.int 0, .int 0, .int 1]) p24 = some (.tup [V.int 0, .int 0, .int 1]) := upd_same
  generalize upd G23 p24 (.tup [V.int 0, .int 0, .int 1]) = G24 at hp24 SG24 ⊢
  refine ⟨(show 6 ≤ sizeLine by decide), fun p25 np25 => ?_⟩
  have SG25 := same_new np25 (.lst [V.ref p19, .ref p20, .ref p21, .ref p22, .ref p23, .ref p24])
  have hp25 : upd G24 p25 (.lst [V.ref p19, .ref p20, .ref p21, .ref p22, .ref p23, .ref p24]) p25 = some (.lst [V.ref p19, .ref p20, .ref p21, .ref p22, .ref p23, .ref p24]) := upd_same
  generalize upd G24 p25 (.lst [V.ref p19, .ref p20, .ref p21, .ref p22, .ref p23, .ref p24]) = G25 at hp25 SG25 ⊢
  refine ⟨p18, p25, _, _, rfl, rfl, (SG25 _ _ (SG24 _ _ (SG23 _ _ (SG22 _ _ (SG21 _ _ (SG20 _ _ (SG19 _ _ hp18))))))), hp25, (show 25 ≤ sizeLine by decide), fun p26 np26 => ?_⟩
  have SG26 := same_new np26 (.lst ([V.non, .bl true, .int 1, .str (("a" : String) : Str), .ref p1, .ref p2, .ref p3, .ref p4, .ref p5, .ref p6, .ref p7, .ref p8, .ref p10, .ref p11, .ref p12, .ref p13, .ref p14, .ref p15, .ref p16] ++ [V.ref p19, .ref p20, .ref p21, .ref p22, .ref p23, .ref p24]))
  have hp26 : upd G25 p26 (.lst ([V.non, .bl true, .int 1, .str (("a" : String) : Str), .ref p1, .ref p2, .ref p3, .ref p4, .ref p5, .ref p6, .ref p7, .ref p8, .ref p10, .ref p11, .ref p12, .ref p13, .ref p14, .ref p15, .ref p16] ++ [V.ref p19, .ref p20, .ref p21, .ref p22, .ref p23, .ref p24])) p26 = some (.lst ([V.non, .bl true, .int 1, .str (("a" : String) : Str), .ref p1, .ref p2, .ref p3, .ref p4, .ref p5, .ref p6, .ref p7, .ref p8, .ref p10, .ref p11, .ref p12, .ref p13, .ref p14, .ref p15, .ref p16] ++ [V.ref p19, .ref p20, .ref p21, .ref p22, .ref p23, .ref p24])) := upd_same
  generalize upd G25 p26 (.lst ([V.non, .bl true, .int 1, .str (("a" : String) : Str), .ref p1, .ref p2, .ref p3, .ref p4, .ref p5, .ref p6, .ref p7, .ref p8, .ref p10, .ref p11, .ref p12, .ref p13, .ref p14, .ref p15, .ref p16] ++ [V.ref p19, .ref p20, .ref p21, .ref p22, .ref p23, .ref p24])) = G26 at hp26 SG26 ⊢
  have hp26 : G26 p26 = some (.lst [V.non, .bl true, .int 1, .str (("a" : String) : Str), .ref p1, .ref p2, .ref p3, .ref p4, .ref p5, .ref p6, .ref p7, .ref p8, .ref p10, .ref p11, .ref p12, .ref p13, .ref p14, .ref p15, .ref p16, .ref p19, .ref p20, .ref p21, .ref p22, .ref p23, .ref p24]) := hp26
  refine ⟨_, rfl, (show 3 ≤ sizeLine by decide), fun p27 np27 => ?_⟩
  have SG27 := same_new np27 (.tup [V.str (("a" : String) : Str), .int 0, .int 1])
  have hp27 : upd G26 p27 (.tup [V.str (("a" : String) : Str), .int 0, .int 1]) p27 = some (.tup [V.str (("a" : String) : Str), .int 0, .int 1]) := upd_same
  generalize upd G26 p27 (.tup [V.str (("a" : String) : Str), .int 0, .int 1]) = G27 at hp27 SG27 ⊢
  refine ⟨(show 1 ≤ sizeLine by decide), fun p28 np28 => ?_⟩
  have SG28 := same_new np28 (.tup [V.ref p27])
  have hp28 : upd G27 p28 (.tup [V.ref p27]) p28 = some (.tup [V.ref p27]) := upd_same
  generalize upd G27 p28 (.tup [V.ref p27]) = G28 at hp28 SG28 ⊢
  refine ⟨(show 3 ≤ sizeLine by decide), fun p29 np29 => ?_⟩
  have SG29 := same_new np29 (.tup [V.str (("a" : String) : Str), .int 0, .int 1])
  have hp29 : upd G28 p29 (.tup [V.str (("a" : String) : Str), .int 0, .int 1]) p29 = some (.tup [V.str (("a" : String) : Str), .int 0, .int 1]) := upd_same
  generalize upd G28 p29 (.tup [V.str (("a" : String) : Str), .int 0, .int 1]) = G29 at hp29 SG29 ⊢
  refine ⟨(show 3 ≤ sizeLine by decide), fun p30 np30 => ?_⟩
  have SG30 := same_new np30 (.tup [V.str (("a" : String) : Str), .int 1, .int 2])
  have hp30 : upd G29 p30 (.tup [V.str (("a" : String) : Str), .int 1, .int 2]) p30 = some (.tup [V.str (("a" : String) : Str), .int 1, .int 2]) := upd_same
  generalize upd G29 p30 (.tup [V.str (("a" : String) : Str), .int 1, .int 2]) = G30 at hp30 SG30 ⊢
  refine ⟨(show 2 ≤ sizeLine by decide), fun p31 np31 => ?_⟩
  have SG31 := same_new np31 (.tup [V.ref p29, .ref p30])
  have hp31 : upd G30 p31 (.tup [V.ref p29, .ref p30]) p31 = some (.tup [V.ref p29, .ref p30]) := upd_same
  generalize upd G30 p31 (.tup [V.ref p29, .ref p30]) = G31 at hp31 SG31 ⊢
  refine ⟨(show 3 ≤ sizeLine by decide), fun p32 np32 => ?_⟩
  have SG32 := same_new np32 (.tup [V.str (("a" : String) : Str), .int 0, .int 1])
  have hp32 : upd G31 p32 (.tup [V.str (("a" : String) : Str), .int 0, .int 1]) p32 = some (.tup [V.str (("a" : String) : Str), .int 0, .int 1]) := upd_same
  generalize upd G31 p32 (.tup [V.str (("a" : String) : Str), .int 0, .int 1]) = G32 at hp32 SG32 ⊢
  refine ⟨(show 3 ≤ sizeLine by decide), fun p33 np33 => ?_⟩
  have SG33 := same_new np33 (.tup [V.str (("a" : String) : Str), .int 2, .int 3])
  have hp33 : upd G32 p33 (.tup [V.str (("a" : String) : Str), .int 2, .int 3]) p33 = some (.tup [V.str (("a" : String) : Str), .int 2, .int 3]) := upd_same
  generalize upd G32 p33 (.tup [V.str (("a" : String) : Str), .int 2, .int 3]) = G33 at hp33 SG33 ⊢
  refine ⟨(show 2 ≤ sizeLine by decide), fun p34 np34 => ?_⟩
  have SG34 := same_new np34 (.tup [V.ref p32, .ref p33])
  have hp34 : upd G33 p34 (.tup [V.ref p32, .ref p33]) p34 = some (.tup [V.ref p32, .ref p33]) := upd_same
  generalize upd G33 p34 (.tup [V.ref p32, .ref p33]) = G34 at hp34 SG34 ⊢
  refine ⟨(show 3 ≤ sizeLine by decide), fun p35 np35 => ?_⟩
  have SG35 := same_new np35 (.tup [V.str (("b" : String) : Str), .int 0, .int 1])
  have hp35 : upd G34 p35 (.tup [V.str (("b" : String) : Str), .int 0, .int 1]) p35 = some (.tup [V.str (("b" : String) : Str), .int 0, .int 1]) := upd_same
  generalize upd G34 p35 (.tup [V.str (("b" : String) : Str), .int 0, .int 1]) = G35 at hp35 SG35 ⊢
  refine ⟨(show 3 ≤ sizeLine by decide), fun p36 np36 => ?_⟩
  have SG36 := same_new np36 (.tup [V.str (("a" : String) : Str), .int 5, .int 6])
  have hp36 : upd G35 p36 (.tup [V.str (("a" : String) : Str), .int 5, .int 6]) p36 = some (.tup [V.str (("a" : String) : Str), .int 5, .int 6]) := upd_same
  generalize upd G35 p36 (.tup [V.str (("a" : String) : Str), .int 5, .int 6]) = G36 at hp36 SG36 ⊢
  refine ⟨(show 2 ≤ sizeLine by decide), fun p37 np37 => ?_⟩
  have SG37 := same_new np37 (.tup [V.ref p35, .ref p36])
  have hp37 : upd G36 p37 (.tup [V.ref p35, .ref p36]) p37 = some (.tup [V.ref p35, .ref p36]) := upd_same
  generalize upd G36 p37 (.tup [V.ref p35, .ref p36]) = G37 at hp37 SG37 ⊢
  refine ⟨(show 4 ≤ sizeLine by decide), fun p38 np38 => ?_⟩
  have SG38 := same_new np38 (.lst [V.ref p28, .ref p31, .ref p34, .ref p37])
  have hp38 : upd G37 p38 (.lst [V.ref p28, .ref p31, .ref p34, .ref p37]) p38 = some (.lst [V.ref p28, .ref p31, .ref p34, .ref p37]) := upd_same
  generalize upd G37 p38 (.lst [V.ref p28, .ref p31, .ref p34, .ref p37]) = G38 at hp38 SG38 ⊢
  refine ⟨p26, p38, _, _, rfl, rfl, (SG38 _ _ (SG37 _ _ (SG36 _ _ (SG35 _ _ (SG34 _ _ (SG33 _ _ (SG32 _ _ (SG31 _ _ (SG30 _ _ (SG29 _ _ (SG28 _ _ (SG27 _ _ hp26)))))))))))), hp38, (show 29 ≤ sizeLine by decide), fun p39 np39 => ?_⟩
  have SG39 := same_new np39 (.lst ([V.non, .bl true, .int 1, .str (("a" : String) : Str), .ref p1, .ref p2, .ref p3, .ref p4, .ref p5, .ref p6, .ref p7, .ref p8, .ref p10, .ref p11, .ref p12, .ref p13, .ref p14, .ref p15, .ref p16, .ref p19, .ref p20, .ref p21, .ref p22, .ref p23, .ref p24] ++ [V.ref p28, .ref p31, .ref p34, .ref p37]))
  have hp39 : upd G38 p39 (.lst ([V.non, .bl true, .int 1, .str (("a" : String) : Str), .ref p1, .ref p2, .ref p3, .ref p4, .ref p5, .ref p6, .ref p7, .ref p8, .ref p10, .ref p11, .ref p12, .ref p13, .ref p14, .ref p15, .ref p16, .ref p19, .ref p20, .ref p21, .ref p22, .ref p23, .ref p24] ++ [V.ref p28, .ref p31, .ref p34, .ref p37])) p39 = some (.lst ([V.non, .bl true, .int 1, .str (("a" : String) : Str), .ref p1, .ref p2, .ref p3, .ref p4, .ref p5, .ref p6, .ref p7, .ref p8, .ref p10, .ref p11, .ref p12, .ref p13, .ref p14, .ref p15, .ref p16, .ref p19, .ref p20, .ref p21, .ref p22, .ref p23, .ref p24] ++ [V.ref p28, .ref p31, .ref p34, .ref p37])) := upd_same
  generalize upd G38 p39 (.lst ([V.non, .bl true, .int 1, .str (("a" : String) : Str), .ref p1, .ref p2, .ref p3, .ref p4, .ref p5, .ref p6, .ref p7, .ref p8, .ref p10, .ref p11, .ref p12, .ref p13, .ref p14, .ref p15, .ref p16, .ref p19, .ref p20, .ref p21, .ref p22, .ref p23, .ref p24] ++ [V.ref p28, .ref p31, .ref p34, .ref p37])) = G39 at hp39 SG39 ⊢
  have hp39 : G39 p39 = some (.lst [V.non, .bl true, .int 1, .str (("a" : String) : Str), .ref p1, .ref p2, .ref p3, .ref p4, .ref p5, .ref p6, .ref p7, .ref p8, .ref p10, .ref p11, .ref p12, .ref p13, .ref p14, .ref p15, .ref p16, .ref p19, .ref p20, .ref p21, .ref p22, .ref p23, .ref p24, .ref p28, .ref p31, .ref p34, .ref p37]) := hp39
  refine ⟨_, rfl, (show 3 ≤ sizeLine by decide), fun p40 np40 => ?_⟩
  have SG40 := same_new np40 (.tup [V.str (("a" : String) : Str), .int 0, .int 1])
  have hp40 : upd G39 p40 (.tup [V.str (("a" : String) : Str), .int 0, .int 1]) p40 = some (.tup [V.str (("a" : String) : Str), .int 0, .int 1]) := upd_same
  generalize upd G39 p40 (.tup [V.str (("a" : String) : Str), .int 0, .int 1]) = G40 at hp40 SG40 ⊢
  refine ⟨(show 1 ≤ sizeLine by decide), fun p41 np41 => ?_⟩
  have SG41 := same_new np41 (.lst [V.ref p40])
  have hp41 : upd G40 p41 (.lst [V.ref p40]) p41 = some (.lst [V.ref p40]) := upd_same
  generalize upd G40 p41 (.lst [V.ref p40]) = G41 at hp41 SG41 ⊢
  refine ⟨(show 3 ≤ sizeLine by decide), fun p42 np42 => ?_⟩
  have SG42 := same_new np42 (.tup [V.str (("a" : String) : Str), .int 0, .int 1])
  have hp42 : upd G41 p42 (.tup [V.str (("a" : String) : Str), .int 0, .int 1]) p42 = some (.tup [V.str (("a" : String) : Str), .int 0, .int 1]) := upd_same
  generalize upd G41 p42 (.tup [V.str (("a" : String) : Str), .int 0, .int 1]) = G42 at hp42 SG42 ⊢
  refine ⟨(show 3 ≤ sizeLine by decide), fun p43 np43 => ?_⟩
  have SG43 := same_new np43 (.lst [V.str (("b" : String) : Str), .int 0, .int 1])
  have hp43 : upd G42 p43 (.lst [V.str (("b" : String) : Str), .int 0, .int 1]) p43 = some (.lst [V.str (("b" : String) : Str), .int 0, .int 1]) := upd_same
  generalize upd G42 p43 (.lst [V.str (("b" : String) : Str), .int 0, .int 1]) = G43 at hp43 SG43 ⊢
  refine ⟨(show 2 ≤ sizeLine by decide), fun p44 np44 => ?_⟩
  have SG44 := same_new np44 (.tup [V.ref p42, .ref p43])
  have hp44 : upd G43 p44 (.tup [V.ref p42, .ref p43]) p44 = some (.tup [V.ref p42, .ref p43]) := upd_same
  generalize upd G43 p44 (.tup [V.ref p42, .ref p43]) = G44 at hp44 SG44 ⊢
  refine ⟨(show 3 ≤ sizeLine by decide), fun p45 np45 => ?_⟩
  have SG45 := same_new np45 (.tup [V.str (("a" : String) : Str), .int 0, .int 1])
  have hp45 : upd G44 p45 (.tup [V.str (("a" : String) : Str), .int 0, .int 1]) p45 = some (.tup [V.str (("a" : String) : Str), .int 0, .int 1]) := upd_same
  generalize upd G44 p45 (.tup [V.str (("a" : String) : Str), .int 0, .int 1]) = G45 at hp45 SG45 ⊢
  refine ⟨(show 3 ≤ sizeLine by decide), fun p46 np46 => ?_⟩
  have SG46 := same_new np46 (.tup [V.str (("a" : String) : Str), .int 0, .int 1])
  have hp46 : upd G45 p46 (.tup [V.str (("a" : String) : Str), .int 0, .int 1]) p46 = some (.tup [V.str (("a" : String) : Str), .int 0, .int 1]) := upd_same
  generalize upd G45 p46 (.tup [V.str (("a" : String) : Str), .int 0, .int 1]) = G46 at hp46 SG46 ⊢
  refine ⟨(show 2 ≤ sizeLine by decide), fun p47 np47 => ?_⟩
  have SG47 := same_new np47 (.tup [V.ref p45, .ref p46])
  have hp47 : upd G46 p47 (.tup [V.ref p45, .ref p46]) p47 = some (.tup [V.ref p45, .ref p46]) := upd_same
  generalize upd G46 p47 (.tup [V.ref p45, .ref p46]) = G47 at hp47 SG47 ⊢
  refine ⟨10, 39, rfl, rfl, cp (by decide), (show 3 ≤ sizeLine by decide), fun p48 np48 => ?_⟩
  have SG48 := same_new np48 (.tup [V.str (("a" : String) : Str), .int 0, .int (10 ^ (39 : Int).toNat)])
  have hp48 : upd G47 p48 (.tup [V.str (("a" : String) : Str), .int 0, .int (10 ^ (39 : Int).toNat)]) p48 = some (.tup [V.str (("a" : String) : Str), .int 0, .int (10 ^ (39 : Int).toNat)]) := upd_same
  generalize upd G47 p48 (.tup [V.str (("a" : String) : Str), .int 0, .int (10 ^ (39 : Int).toNat)]) = G48 at hp48 SG48 ⊢
  refine ⟨(show 1 ≤ sizeLine by decide), fun p49 np49 => ?_⟩
  have SG49 := same_new np49 (.tup [V.ref p48])
  have hp49 : upd G48 p49 (.tup [V.ref p48]) p49 = some (.tup [V.ref p48]) := upd_same
  generalize upd G48 p49 (.tup [V.ref p48]) = G49 at hp49 SG49 ⊢
  refine ⟨(show 4 ≤ sizeLine by decide), fun p50 np50 => ?_⟩
  have SG50 := same_new np50 (.lst [V.ref p41, .ref p44, .ref p47, .ref p49])
  have hp50 : upd G49 p50 (.lst [V.ref p41, .ref p44, .ref p47, .ref p49]) p50 = some (.lst [V.ref p41, .ref p44, .ref p47, .ref p49]) := upd_same
  generalize upd G49 p50 (.lst [V.ref p41, .ref p44, .ref p47, .ref p49]) = G50 at hp50 SG50 ⊢
  refine ⟨p39, p50, _, _, rfl, rfl, (SG50 _ _ (SG49 _ _ (SG48 _ _ (SG47 _ _ (SG46 _ _ (SG45 _ _ (SG44 _ _ (SG43 _ _ (SG42 _ _ (SG41 _ _ (SG40 _ _ hp39))))))))))), hp50, (show 33 ≤ sizeLine by decide), fun p51 np51 => ?_⟩
  have SG51 := same_new np51 (.lst ([V.non, .bl true, .int 1, .str (("a" : String) : Str), .ref p1, .ref p2, .ref p3, .ref p4, .ref p5, .ref p6, .ref p7, .ref p8, .ref p10, .ref p11, .ref p12, .ref p13, .ref p14, .ref p15, .ref p16, .ref p19, .ref p20, .ref p21, .ref p22, .ref p23, .ref p24, .ref p28, .ref p31, .ref p34, .ref p37] ++ [V.ref p41, .ref p44, .ref p47, .ref p49]))
  have hp51 : upd G50 p51 (.lst ([V.non, .bl true, .int 1, .str (("a" : String) : Str), .ref p1, .ref p2, .ref p3, .ref p4, .ref p5, .ref p6, .ref p7, .ref p8, .ref p10, .ref p11, .ref p12, .ref p13, .ref p14, .ref p15, .ref p16, .ref p19, .ref p20, .ref p21, .ref p22, .ref p23, .ref p24, .ref p28, .ref p31, .ref p34, .ref p37] ++ [V.ref p41, .ref p44, .ref p47, .ref p49])) p51 = some (.lst ([V.non, .bl true, .int 1, .str (("a" : String) : Str), .ref p1, .ref p2, .ref p3, .ref p4, .ref p5, .ref p6, .ref p7, .ref p8, .ref p10, .ref p11, .ref p12, .ref p13, .ref p14, .ref p15, .ref p16, .ref p19, .ref p20, .ref p21, .ref p22, .ref p23, .ref p24, .ref p28, .ref p31, .ref p34, .ref p37] ++ [V.ref p41, .ref p44, .ref p47, .ref p49])) := upd_same
  generalize upd G50 p51 (.lst ([V.non, .bl true, .int 1, .str (("a" : String) : Str), .ref p1, .ref p2, .ref p3, .ref p4, .ref p5, .ref p6, .ref p7, .ref p8, .ref p10, .ref p11, .ref p12, .ref p13, .ref p14, .ref p15, .ref p16, .ref p19, .ref p20, .ref p21, .ref p22, .ref p23, .ref p24, .ref p28, .ref p31, .ref p34, .ref p37] ++ [V.ref p41, .ref p44, .ref p47, .ref p49])) = G51 at hp51 SG51 ⊢
  have hp51 : G51 p51 = some (.lst [V.non, .bl true, .int 1, .str (("a" : String) : Str), .ref p1, .ref p2, .ref p3, .ref p4, .ref p5, .ref p6, .ref p7, .ref p8, .ref p10, .ref p11, .ref p12, .ref p13, .ref p14, .ref p15, .ref p16, .ref p19, .ref p20, .ref p21, .ref p22, .ref p23, .ref p24, .ref p28, .ref p31, .ref p34, .ref p37, .ref p41, .ref p44, .ref p47, .ref p49]) := hp51
  refine ⟨_, rfl, (show 3 ≤ sizeLine by decide), fun p52 np52 => ?_⟩
  have SG52 := same_new np52 (.tup [V.str (("a" : String) : Str), .int 0, .int 9])
  have hp52 : upd G51 p52 (.tup [V.str (("a" : String) : Str), .int 0, .int 9]) p52 = some (.tup [V.str (("a" : String) : Str), .int 0, .int 9]) := upd_same
  generalize upd G51 p52 (.tup [V.str (("a" : String) : Str), .int 0, .int 9]) = G52 at hp52 SG52 ⊢
  refine ⟨(show 3 ≤ sizeLine by decide), fun p53 np53 => ?_⟩
  have SG53 := same_new np53 (.tup [V.str (("a" : String) : Str), .int 3, .int 5])
  have hp53 : upd G52 p53 (.tup [V.str (("a" : String) : Str), .int 3, .int 5]) p53 = some (.tup [V.str (("a" : String) : Str), .int 3, .int 5]) := upd_same
  generalize upd G52 p53 (.tup [V.str (("a" : String) : Str), .int 3, .int 5]) = G53 at hp53 SG53 ⊢
  refine ⟨(show 2 ≤ sizeLine by decide), fun p54 np54 => ?_⟩
  have SG54 := same_new np54 (.tup [V.ref p52, .ref p53])
  have hp54 : upd G53 p54 (.tup [V.ref p52, .ref p53]) p54 = some (.tup [V.ref p52, .ref p53]) := upd_same
  generalize upd G53 p54 (.tup [V.ref p52, .ref p53]) = G54 at hp54 SG54 ⊢
  refine ⟨(show 3 ≤ sizeLine by decide), fun p55 np55 => ?_⟩
  have SG55 := same_new np55 (.tup [V.str (("a" : String) : Str), .int 3, .int 5])
  have hp55 : upd G54 p55 (.tup [V.str (("a" : String) : Str), .int 3, .int 5]) p55 = some (.tup [V.str (("a" : String) : Str), .int 3, .int 5]) := upd_same
  generalize upd G54 p55 (.tup [V.str (("a" : String) : Str), .int 3, .int 5]) = G55 at hp55 SG55 ⊢
  refine ⟨(show 3 ≤ sizeLine by decide), fun p56 np56 => ?_⟩
  have SG56 := same_new np56 (.tup [V.str (("a" : String) : Str), .int 0, .int 1])
  have hp56 : upd G55 p56 (.tup [V.str (("a" : String) : Str), .int 0, .int 1]) p56 = some (.tup [V.str (("a" : String) : Str), .int 0, .int 1]) := upd_same
  generalize upd G55 p56 (.tup [V.str (("a" : String) : Str), .int 0, .int 1]) = G56 at hp56 SG56 ⊢
  refine ⟨(show 2 ≤ sizeLine by decide), fun p57 np57 => ?_⟩
  have SG57 := same_new np57 (.tup [V.ref p55, .ref p56])
  have hp57 : upd G56 p57 (.tup [V.ref p55, .ref p56]) p57 = some (.tup [V.ref p55, .ref p56]) := upd_same
  generalize upd G56 p57 (.tup [V.ref p55, .ref p56]) = G57 at hp57 SG57 ⊢
  refine ⟨(show 3 ≤ sizeLine by decide), fun p58 np58 => ?_⟩
  have SG58 := same_new np58 (.tup [V.str (("ab" : String) : Str), .int 0, .int 1])
  have hp58 : upd G57 p58 (.tup [V.str (("ab" : String) : Str), .int 0, .int 1]) p58 = some (.tup [V.str (("ab" : String) : Str), .int 0, .int 1]) := upd_same
  generalize upd G57 p58 (.tup [V.str (("ab" : String) : Str), .int 0, .int 1]) = G58 at hp58 SG58 ⊢
  refine ⟨(show 3 ≤ sizeLine by decide), fun p59 np59 => ?_⟩
  have SG59 := same_new np59 (.tup [V.str (("a" : String) : Str), .int 5, .int 6])
  have hp59 : upd G58 p59 (.tup [V.str (("a" : String) : Str), .int 5, .int 6]) p59 = some (.tup [V.str (("a" : String) : Str), .int 5, .int 6]) := upd_same
  generalize upd G58 p59 (.tup [V.str (("a" : String) : Str), .int 5, .int 6]) = G59 at hp59 SG59 ⊢
  refine ⟨(show 2 ≤ sizeLine by decide), fun p60 np60 => ?_⟩
  have SG60 := same_new np60 (.tup [V.ref p58, .ref p59])
  have hp60 : upd G59 p60 (.tup [V.ref p58, .ref p59]) p60 = some (.tup [V.ref p58, .ref p59]) := upd_same
  generalize upd G59 p60 (.tup [V.ref p58, .ref p59]) = G60 at hp60 SG60 ⊢
  refine ⟨(show 0 ≤ sizeLine by decide), fun p61 np61 => ?_⟩
  have SG61 := same_new np61 (.tup [])
  have hp61 : upd G60 p61 (.tup []) p61 = some (.tup []) := upd_same
  generalize upd G60 p61 (.tup []) = G61 at hp61 SG61 ⊢
  refine ⟨(show 0 ≤ sizeLine by decide), fun p62 np62 => ?_⟩
  have SG62 := same_new np62 (.tup [])
  have hp62 : upd G61 p62 (.tup []) p62 = some (.tup []) := upd_same
  generalize upd G61 p62 (.tup []) = G62 at hp62 SG62 ⊢
  refine ⟨(show 2 ≤ sizeLine by decide), fun p63 np63 => ?_⟩
  have SG63 := same_new np63 (.tup [V.ref p61, .ref p62])
  have hp63 : upd G62 p63 (.tup [V.ref p61, .ref p62]) p63 = some (.tup [V.ref p61, .ref p62]) := upd_same
  generalize upd G62 p63 (.tup [V.ref p61, .ref p62]) = G63 at hp63 SG63 ⊢
  refine ⟨(show 0 ≤ sizeLine by decide), fun p64 np64 => ?_⟩
  have SG64 := same_new np64 (.tup [])
  have hp64 : upd G63 p64 (.tup []) p64 = some (.tup []) := upd_same
  generalize upd G63 p64 (.tup []) = G64 at hp64 SG64 ⊢
  refine ⟨(show 1 ≤ sizeLine by decide), fun p65 np65 => ?_⟩
  have SG65 := same_new np65 (.tup [V.ref p64])
  have hp65 : upd G64 p65 (.tup [V.ref p64]) p65 = some (.tup [V.ref p64]) := upd_same
  generalize upd G64 p65 (.tup [V.ref p64]) = G65 at hp65 SG65 ⊢
  refine ⟨(show 5 ≤ sizeLine by decide), fun p66 np66 => ?_⟩
  have SG66 := same_new np66 (.lst [V.ref p54, .ref p57, .ref p60, .ref p63, .ref p65])
  have hp66 : upd G65 p66 (.lst [V.ref p54, .ref p57, .ref p60, .ref p63, .ref p65]) p66 = some (.lst [V.ref p54, .ref p57, .ref p60, .ref p63, .ref p65]) := upd_same
  generalize upd G65 p66 (.lst [V.ref p54, .ref p57, .ref p60, .ref p63, .ref p65]) = G66 at hp66 SG66 ⊢
  refine ⟨p51, p66, _, _, rfl, rfl, (SG66 _ _ (SG65 _ _ (SG64 _ _ (SG63 _ _ (SG62 _ _ (SG61 _ _ (SG60 _ _ (SG59 _ _ (SG58 _ _ (SG57 _ _ (SG56 _ _ (SG55 _ _ (SG54 _ _ (SG53 _ _ (SG52 _ _ hp51))))))))))))))), hp66, (show 38 ≤ sizeLine by decide), fun p67 np67 => ?_⟩
  have SG67 := same_new np67 (.lst ([V.non, .bl true, .int 1, .str (("a" : String) : Str), .ref p1, .ref p2, .ref p3, .ref p4, .ref p5, .ref p6, .ref p7, .ref p8, .ref p10, .ref p11, .ref p12, .ref p13, .ref p14, .ref p15, .ref p16, .ref p19, .ref p20, .ref p21, .ref p22, .ref p23, .ref p24, .ref p28, .ref p31, .ref p34, .ref p37, .ref p41, .ref p44, .ref p47, .ref p49] ++ [V.ref p54, .ref p57, .ref p60, .ref p63, .ref p65]))
  have hp67 : upd G66 p67 (.lst ([V.non, .bl true, .int 1, .str (("a" : String) : Str), .ref p1, .ref p2, .ref p3, .ref p4, .ref p5, .ref p6, .ref p7, .ref p8, .ref p10, .ref p11, .ref p12, .ref p13, .ref p14, .ref p15, .ref p16, .ref p19, .ref p20, .ref p21, .ref p22, .ref p23, .ref p24, .ref p28, .ref p31, .ref p34, .ref p37, .ref p41, .ref p44, .ref p47, .ref p49] ++ [V.ref p54, .ref p57, .ref p60, .ref p63, .ref p65])) p67 = some (.lst ([V.non, .bl true, .int 1, .str (("a" : String) : Str), .ref p1, .ref p2, .ref p3, .ref p4, .ref p5, .ref p6, .ref p7, .ref p8, .ref p10, .ref p11, .ref p12, .ref p13, .ref p14, .ref p15, .ref p16, .ref p19, .ref p20, .ref p21, .ref p22, .ref p23, .ref p24, .ref p28, .ref p31, .ref p34, .ref p37, .ref p41, .ref p44, .ref p47, .ref p49] ++ [V.ref p54, .ref p57, .ref p60, .ref p63, .ref p65])) := upd_same
  generalize upd G66 p67 (.lst ([V.non, .bl true, .int 1, .str (("a" : String) : Str), .ref p1, .ref p2, .ref p3, .ref p4, .ref p5, .ref p6, .ref p7, .ref p8, .ref p10, .ref p11, .ref p12, .ref p13, .ref p14, .ref p15, .ref p16, .ref p19, .ref p20, .ref p21, .ref p22, .ref p23, .ref p24, .ref p28, .ref p31, .ref p34, .ref p37, .ref p41, .ref p44, .ref p47, .ref p49] ++ [V.ref p54, .ref p57, .ref p60, .ref p63, .ref p65])) = G67 at hp67 SG67 ⊢
  have hp67 : G67 p67 = some (.lst [V.non, .bl true, .int 1, .str (("a" : String) : Str), .ref p1, .ref p2, .ref p3, .ref p4, .ref p5, .ref p6, .ref p7, .ref p8, .ref p10, .ref p11, .ref p12, .ref p13, .ref p14, .ref p15, .ref p16, .ref p19, .ref p20, .ref p21, .ref p22, .ref p23, .ref p24, .ref p28, .ref p31, .ref p34, .ref p37, .ref p41, .ref p44, .ref p47, .ref p49, .ref p54, .ref p57, .ref p60, .ref p63, .ref p65]) := hp67
  refine ⟨_, rfl, (show 3 ≤ sizeLine by decide), fun p68 np68 => ?_⟩
  have SG68 := same_new np68 (.tup [V.str (("a" : String) : Str), .int 0, .int 1])
  have hp68 : upd G67 p68 (.tup [V.str (("a" : String) : Str), .int 0, .int 1]) p68 = some (.tup [V.str (("a" : String) : Str), .int 0, .int 1]) := upd_same
  generalize upd G67 p68 (.tup [V.str (("a" : String) : Str), .int 0, .int 1]) = G68 at hp68 SG68 ⊢
  refine ⟨(show 3 ≤ sizeLine by decide), fun p69 np69 => ?_⟩
  have SG69 := same_new np69 (.tup [V.str (("ab" : String) : Str), .int 0, .int 1])
  have hp69 : upd G68 p69 (.tup [V.str (("ab" : String) : Str), .int 0, .int 1]) p69 = some (.tup [V.str (("ab" : String) : Str), .int 0, .int 1]) := upd_same
  generalize upd G68 p69 (.tup [V.str (("ab" : String) : Str), .int 0, .int 1]) = G69 at hp69 SG69 ⊢
  refine ⟨(show 2 ≤ sizeLine by decide), fun p70 np70 => ?_⟩
  have SG70 := same_new np70 (.tup [V.ref p68, .ref p69])
  have hp70 : upd G69 p70 (.tup [V.ref p68, .ref p69]) p70 = some (.tup [V.ref p68, .ref p69]) := upd_same
  generalize upd G69 p70 (.tup [V.ref p68, .ref p69]) = G70 at hp70 SG70 ⊢
  refine ⟨10, 9, rfl, rfl, cp (by decide), _, _, rfl, rfl, 10, 9, rfl, rfl, cp (by decide), (show 3 ≤ sizeLine by decide), fun p71 np71 => ?_⟩
  have SG71 := same_new np71 (.tup [V.str (("a" : String) : Str), .int (10 ^ (9 : Int).toNat - 1), .int (10 ^ (9 : Int).toNat)])
  have hp71 : upd G70 p71 (.tup [V.str (("a" : String) : Str), .int (10 ^ (9 : Int).toNat - 1), .int (10 ^ (9 : Int).toNat)]) p71 = some (.tup [V.str (("a" : String) : Str), .int (10 ^ (9 : Int).toNat - 1), .int (10 ^ (9 : Int).toNat)]) := upd_same
  generalize upd G70 p71 (.tup [V.str (("a" : String) : Str), .int (10 ^ (9 : Int).toNat - 1), .int (10 ^ (9 : Int).toNat)]) = G71 at hp71 SG71 ⊢
  refine ⟨10, 9, rfl, rfl, cp (by decide), 10, 9, rfl, rfl, cp (by decide), _, _, rfl, rfl, (show 3 ≤ sizeLine by decide), fun p72 np72 => ?_⟩
  have SG72 := same_new np72 (.tup [V.str (("a" : String) : Str), .int (10 ^ (9 : Int).toNat), .int (10 ^ (9 : Int).toNat + 1)])
  have hp72 : upd G71 p72 (.tup [V.str (("a" : String) : Str), .int (10 ^ (9 : Int).toNat), .int (10 ^ (9 : Int).toNat + 1)]) p72 = some (.tup [V.str (("a" : String) : Str), .int (10 ^ (9 : Int).toNat), .int (10 ^ (9 : Int).toNat + 1)]) := upd_same
  generalize upd G71 p72 (.tup [V.str (("a" : String) : Str), .int (10 ^ (9 : Int).toNat), .int (10 ^ (9 : Int).toNat + 1)]) = G72 at hp72 SG72 ⊢
  refine ⟨1, rfl, (show 2 ≤ sizeLine by decide), fun p73 np73 => ?_⟩
  have SG73 := same_new np73 (.tup [V.str (("a" : String) : Str), .int (-1)])
  have hp73 : upd G72 p73 (.tup [V.str (("a" : String) : Str), .int (-1)]) p73 = some (.tup [V.str (("a" : String) : Str), .int (-1)]) := upd_same
  generalize upd G72 p73 (.tup [V.str (("a" : String) : Str), .int (-1)]) = G73 at hp73 SG73 ⊢
  refine ⟨(show 4 ≤ sizeLine by decide), fun p74 np74 => ?_⟩
  have SG74 := same_new np74 (.lst [V.ref p70, .ref p71, .ref p72, .ref p73])
  have hp74 : upd G73 p74 (.lst [V.ref p70, .ref p71, .ref p72, .ref p73]) p74 = some (.lst [V.ref p70, .ref p71, .ref p72, .ref p73]) := upd_same
  generalize upd G73 p74 (.lst [V.ref p70, .ref p71, .ref p72, .ref p73]) = G74 at hp74 SG74 ⊢
  refine ⟨p67, p74, _, _, rfl, rfl, (SG74 _ _ (SG73 _ _ (SG72 _ _ (SG71 _ _ (SG70 _ _ (SG69 _ _ (SG68 _ _ hp67))))))), hp74, (show 42 ≤ sizeLine by decide), fun p75 np75 => ?_⟩
  have SG75 := same_new np75 (.lst ([V.non, .bl true, .int 1, .str (("a" : String) : Str), .ref p1, .ref p2, .ref p3, .ref p4, .ref p5, .ref p6, .ref p7, .ref p8, .ref p10, .ref p11, .ref p12, .ref p13, .ref p14, .ref p15, .ref p16, .ref p19, .ref p20, .ref p21, .ref p22, .ref p23, .ref p24, .ref p28, .ref p31, .ref p34, .ref p37, .ref p41, .ref p44, .ref p47, .ref p49, .ref p54, .ref p57, .ref p60, .ref p63, .ref p65] ++ [V.ref p70, .ref p71, .ref p72, .ref p73]))
  have hp75 : upd G74 p75 (.lst ([V.non, .bl true, .int 1, .str (("a" : String) : Str), .ref p1, .ref p2, .ref p3, .ref p4, .ref p5, .ref p6, .ref p7, .ref p8, .ref p10, .ref p11, .ref p12, .ref p13, .ref p14, .ref p15, .ref p16, .ref p19, .ref p20, .ref p21, .ref p22, .ref p23, .ref p24, .ref p28, .ref p31, .ref p34, .ref p37, .ref p41, .ref p44, .ref p47, .ref p49, .ref p54, .ref p57, .ref p60, .ref p63, .ref p65] ++ [V.ref p70, .ref p71, .ref p72, .ref p73])) p75 = some (.lst ([V.non, .bl true, .int 1, .str (("a" : String) : Str), .ref p1, .ref p2, .ref p3, .ref p4, .ref p5, .ref p6, .ref p7, .ref p8, .ref p10, .ref p11, .ref p12, .ref p13, .ref p14, .ref p15, .ref p16, .ref p19, .ref p20, .ref p21, .ref p22, .ref p23, .ref p24, .ref p28, .ref p31, .ref p34, .ref p37, .ref p41, .ref p44, .ref p47, .ref p49, .ref p54, .ref p57, .ref p60, .ref p63, .ref p65] ++ [V.ref p70, .ref p71, .ref p72, .ref p73])) := upd_same
  generalize upd G74 p75 (.lst ([V.non, .bl true, .int 1, .str (("a" : String) : Str), .ref p1, .ref p2, .ref p3, .ref p4, .ref p5, .ref p6, .ref p7, .ref p8, .ref p10, .ref p11, .ref p12, .ref p13, .ref p14, .ref p15, .ref p16, .ref p19, .ref p20, .ref p21, .ref p22, .ref p23, .ref p24, .ref p28, .ref p31, .ref p34, .ref p37, .ref p41, .ref p44, .ref p47, .ref p49, .ref p54, .ref p57, .ref p60, .ref p63, .ref p65] ++ [V.ref p70, .ref p71, .ref p72, .ref p73])) = G75 at hp75 SG75 ⊢
  have hp75 : G75 p75 = some (.lst [V.non, .bl true, .int 1, .str (("a" : String) : Str), .ref p1, .ref p2, .ref p3, .ref p4, .ref p5, .ref p6, .ref p7, .ref p8, .ref p10, .ref p11, .ref p12, .ref p13, .ref p14, .ref p15, .ref p16, .ref p19, .ref p20, .ref p21, .ref p22, .ref p23, .ref p24, .ref p28, .ref p31, .ref p34, .ref p37, .ref p41, .ref p44, .ref p47, .ref p49, .ref p54, .ref p57, .ref p60, .ref p63, .ref p65, .ref p70, .ref p71, .ref p72, .ref p73]) := hp75
  have T75 : Same G75 G75 := Same.refl _
  have T74 : Same G74 G75 := SG75.trans T75
  have T73 : Same G73 G75 := SG74.trans T74
  have T72 : Same G72 G75 := SG73.trans T73
  have T71 : Same G71 G75 := SG72.trans T72
  have T70 : Same G70 G75 := SG71.trans T71
  have T69 : Same G69 G75 := SG70.trans T70
  have T68 : Same G68 G75 := SG69.trans T69
  have T67 : Same G67 G75 := SG68.trans T68
  have T66 : Same G66 G75 := SG67.trans T67
  have T65 : Same G65 G75 := SG66.trans T66
  have T64 : Same G64 G75 := SG65.trans T65
  have T63 : Same G63 G75 := SG64.trans T64
  have T62 : Same G62 G75 := SG63.trans T63
  have T61 : Same G61 G75 := SG62.trans T62
  have T60 : Same G60 G75 := SG61.trans T61
  have T59 : Same G59 G75 := SG60.trans T60
  have T58 : Same G58 G75 := SG59.trans T59
  have T57 : Same G57 G75 := SG58.trans T58
  have T56 : Same G56 G75 := SG57.trans T57
  have T55 : Same G55 G75 := SG56.trans T56
  have T54 : Same G54 G75 := SG55.trans T55
  have T53 : Same G53 G75 := SG54.trans T54
  have T52 : Same G52 G75 := SG53.trans T53
  have T51 : Same G51 G75 := SG52.trans T52
  have T50 : Same G50 G75 := SG51.trans T51
  have T49 : Same G49 G75 := SG50.trans T50
  have T48 : Same G48 G75 := SG49.trans T49
  have T47 : Same G47 G75 := SG48.trans T48
  have T46 : Same G46 G75 := SG47.trans T47
  have T45 : Same G45 G75 := SG46.trans T46
  have T44 : Same G44 G75 := SG45.trans T45
  have T43 : Same G43 G75 := SG44.trans T44
  have T42 : Same G42 G75 := SG43.trans T43
  have T41 : Same G41 G75 := SG42.trans T42
  have T40 : Same G40 G75 := SG41.trans T41
  have T39 : Same G39 G75 := SG40.trans T40
  have T38 : Same G38 G75 := SG39.trans T39
  have T37 : Same G37 G75 := SG38.trans T38
  have T36 : Same G36 G75 := SG37.trans T37
  have T35 : Same G35 G75 := SG36.trans T36
  have T34 : Same G34 G75 := SG35.trans T35
  have T33 : Same G33 G75 := SG34.trans T34
  have T32 : Same G32 G75 := SG33.trans T33
  have T31 : Same G31 G75 := SG32.trans T32
  have T30 : Same G30 G75 := SG31.trans T31
  have T29 : Same G29 G75 := SG30.trans T30
  have T28 : Same G28 G75 := SG29.trans T29
  have T27 : Same G27 G75 := SG28.trans T28
  have T26 : Same G26 G75 := SG27.trans T27
  have T25 : Same G25 G75 := SG26.trans T26
  have T24 : Same G24 G75 := SG25.trans T25
  have T23 : Same G23 G75 := SG24.trans T24
  have T22 : Same G22 G75 := SG23.trans T23
  have T21 : Same G21 G75 := SG22.trans T22
  have T20 : Same G20 G75 := SG21.trans T21
  have T19 : Same G19 G75 := SG20.trans T20
  have T18 : Same G18 G75 := SG19.trans T19
  have T17 : Same G17 G75 := SG18.trans T18
  have T16 : Same G16 G75 := SG17.trans T17
  have T15 : Same G15 G75 := SG16.trans T16
  have T14 : Same G14 G75 := SG15.trans T15
  have T13 : Same G13 G75 := SG14.trans T14
  have T12 : Same G12 G75 := SG13.trans T13
  have T11 : Same G11 G75 := SG12.trans T12
  have T10 : Same G10 G75 := SG11.trans T11
  have T9 : Same G9 G75 := SG10.trans T10
  have T8 : Same G8 G75 := SG9.trans T9
  have T7 : Same G7 G75 := SG8.trans T8
  have T6 : Same G6 G75 := SG7.trans T7
  have T5 : Same G5 G75 := SG6.trans T6
  have T4 : Same G4 G75 := SG5.trans T5
  have T3 : Same G3 G75 := SG4.trans T4
  have T2 : Same G2 G75 := SG3.trans T3
  have T1 : Same G1 G75 := SG2.trans T2
  have T0 : Same H G75 := SG1.trans T1
  have R0 : Same H H := Same.refl _
  have R1 : Same H G1 := R0.trans SG1
  have R2 : Same H G2 := R1.trans SG2
  have R3 : Same H G3 := R2.trans SG3
  have R4 : Same H G4 := R3.trans SG4
  have R5 : Same H G5 := R4.trans SG5
  have R6 : Same H G6 := R5.trans SG6
  have R7 : Same H G7 := R6.trans SG7
  have R8 : Same H G8 := R7.trans SG8
  have R9 : Same H G9 := R8.trans SG9
  have R10 : Same H G10 := R9.trans SG10
  have R11 : Same H G11 := R10.trans SG11
  have R12 : Same H G12 := R11.trans SG12
  have R13 : Same H G13 := R12.trans SG13
  have R14 : Same H G14 := R13.trans SG14
  have R15 : Same H G15 := R14.trans SG15
  have R16 : Same H G16 := R15.trans SG16
  have R17 : Same H G17 := R16.trans SG17
  have R18 : Same H G18 := R17.trans SG18
  have R19 : Same H G19 := R18.trans SG19
  have R20 : Same H G20 := R19.trans SG20
  have R21 : Same H G21 := R20.trans SG21
  have R22 : Same H G22 := R21.trans SG22
  have R23 : Same H G23 := R22.trans SG23
  have R24 : Same H G24 := R23.trans SG24
  have R25 : Same H G25 := R24.trans SG25
  have R26 : Same H G26 := R25.trans SG26
  have R27 : Same H G27 := R26.trans SG27
  have R28 : Same H G28 := R27.trans SG28
  have R29 : Same H G29 := R28.trans SG29
  have R30 : Same H G30 := R29.trans SG30
  have R31 : Same H G31 := R30.trans SG31
  have R32 : Same H G32 := R31.trans SG32
  have R33 : Same H G33 := R32.trans SG33
  have R34 : Same H G34 := R33.trans SG34
  have R35 : Same H G35 := R34.trans SG35
  have R36 : Same H G36 := R35.trans SG36
  have R37 : Same H G37 := R36.trans SG37
  have R38 : Same H G38 := R37.trans SG38
  have R39 : Same H G39 := R38.trans SG39
  have R40 : Same H G40 := R39.trans SG40
  have R41 : Same H G41 := R40.trans SG41
  have R42 : Same H G42 := R41.trans SG42
  have R43 : Same H G43 := R42.trans SG43
  have R44 : Same H G44 := R43.trans SG44
  have R45 : Same H G45 := R44.trans SG45
  have R46 : Same H G46 := R45.trans SG46
  have R47 : Same H G47 := R46.trans SG47
  have R48 : Same H G48 := R47.trans SG48
  have R49 : Same H G49 := R48.trans SG49
  have R50 : Same H G50 := R49.trans SG50
  have R51 : Same H G51 := R50.trans SG51
  have R52 : Same H G52 := R51.trans SG52
  have R53 : Same H G53 := R52.trans SG53
  have R54 : Same H G54 := R53.trans SG54
  have R55 : Same H G55 := R54.trans SG55
  have R56 : Same H G56 := R55.trans SG56
  have R57 : Same H G57 := R56.trans SG57
  have R58 : Same H G58 := R57.trans SG58
  have R59 : Same H G59 := R58.trans SG59
  have R60 : Same H G60 := R59.trans SG60
  have R61 : Same H G61 := R60.trans SG61
  have R62 : Same H G62 := R61.trans SG62
  have R63 : Same H G63 := R62.trans SG63
  have R64 : Same H G64 := R63.trans SG64
  have R65 : Same H G65 := R64.trans SG65
  have R66 : Same H G66 := R65.trans SG66
  have R67 : Same H G67 := R66.trans SG67
  have R68 : Same H G68 := R67.trans SG68
  have R69 : Same H G69 := R68.trans SG69
  have R70 : Same H G70 := R69.trans SG70
  have R71 : Same H G71 := R70.trans SG71
  have R72 : Same H G72 := R71.trans SG72
  have R73 : Same H G73 := R72.trans SG73
  have R74 : Same H G74 := R73.trans SG74
  have R75 : Same H G75 := R74.trans SG75
  have gp1 : GV (fun a => H a = none) G75 1 3 MB (.ref p1) := gvt (k := 0) (c := 2000) (T1 _ _ hp1) gvs_nil (Nat.le_of_ble_eq_true rfl)
  have gp2 : GV (fun a => H a = none) G75 1 3 MB (.ref p2) := gvl (k := 0) (c := 2000) (R1.free np2) (T2 _ _ hp2) gvs_nil (Nat.le_of_ble_eq_true rfl)
  have gp3 : GV (fun a => H a = none) G75 1 4007 MB (.ref p3) := gvt (k := 0) (c := 2000) (T3 _ _ hp3) (gvs_cons ((ma_str (by decide +kernel) (by decide +kernel)).mono (by decide) (by decide) (Int.le_refl _)) (gvs_cons ((ma_int (by decide +kernel) (by decide +kernel)).mono (by decide) (by decide) (Int.le_refl _)) gvs_nil)) (Nat.le_of_ble_eq_true rfl)
  have gp4 : GV (fun a => H a = none) G75 1 4007 MB (.ref p4) := gvl (k := 0) (c := 2000) (R3.free np4) (T4 _ _ hp4) (gvs_cons ((ma_str (by decide +kernel) (by decide +kernel)).mono (by decide) (by decide) (Int.le_refl _)) (gvs_cons ((ma_int (by decide +kernel) (by decide +kernel)).mono (by decide) (by decide) (Int.le_refl _)) gvs_nil)) (Nat.le_of_ble_eq_true rfl)
  have gp5 : GV (fun a => H a = none) G75 1 4007 MB (.ref p5) := gvt (k := 0) (c := 2000) (T5 _ _ hp5) (gvs_cons ((ma_str (by decide +kernel) (by decide +kernel)).mono (by decide) (by decide) (Int.le_refl _)) (gvs_cons ((ma_bl true).mono (by decide) (by decide) (Int.le_refl _)) gvs_nil)) (Nat.le_of_ble_eq_true rfl)
  have gp6 : GV (fun a => H a = none) G75 1 4007 MB (.ref p6) := gvt (k := 0) (c := 2000) (T6 _ _ hp6) (gvs_cons ((ma_str (by decide +kernel) (by decide +kernel)).mono (by decide) (by decide) (Int.le_refl _)) (gvs_cons ((ma_int (by decide +kernel) (by decide +kernel)).mono (by decide) (by decide) (Int.le_refl _)) gvs_nil)) (Nat.le_of_ble_eq_true rfl)
  have gp7 : GV (fun a => H a = none) G75 1 4007 MB (.ref p7) := gvt (k := 0) (c := 2000) (T7 _ _ hp7) (gvs_cons ((ma_str (by decide +kernel) (by decide +kernel)).mono (by decide) (by decide) (Int.le_refl _)) (gvs_cons ((ma_int (by decide +kernel) (by decide +kernel)).mono (by decide) (by decide) (Int.le_refl _)) gvs_nil)) (Nat.le_of_ble_eq_true rfl)
  have gp8 : GV (fun a => H a = none) G75 1 4007 MB (.ref p8) := gvt (k := 0) (c := 2000) (T8 _ _ hp8) (gvs_cons ((ma_str (by decide +kernel) (by decide +kernel)).mono (by decide) (by decide) (Int.le_refl _)) (gvs_cons ((ma_int (by decide +kernel) (by decide +kernel)).mono (by decide) (by decide) (Int.le_refl _)) gvs_nil)) (Nat.le_of_ble_eq_true rfl)
  have gp10 : GV (fun a => H a = none) G75 1 4007 MB (.ref p10) := gvt (k := 0) (c := 2000) (T10 _ _ hp10) (gvs_cons ((ma_str (by decide +kernel) (by decide +kernel)).mono (by decide) (by decide) (Int.le_refl _)) (gvs_cons ((ma_int (by decide +kernel) (by decide +kernel)).mono (by decide) (by decide) (Int.le_refl _)) gvs_nil)) (Nat.le_of_ble_eq_true rfl)
  have gp11 : GV (fun a => H a = none) G75 1 4007 MB (.ref p11) := gvt (k := 0) (c := 2000) (T11 _ _ hp11) (gvs_cons ((ma_str (by decide +kernel) (by decide +kernel)).mono (by decide) (by decide) (Int.le_refl _)) (gvs_cons ((ma_int (by decide +kernel) (by decide +kernel)).mono (by decide) (by decide) (Int.le_refl _)) gvs_nil)) (Nat.le_of_ble_eq_true rfl)
  have gp12 : GV (fun a => H a = none) G75 1 4007 MB (.ref p12) := gvt (k := 0) (c := 2000) (T12 _ _ hp12) (gvs_cons ((ma_str (by decide +kernel) (by decide +kernel)).mono (by decide) (by decide) (Int.le_refl _)) (gvs_cons ((ma_int (by decide +kernel) (by decide +kernel)).mono (by decide) (by decide) (Int.le_refl _)) gvs_nil)) (Nat.le_of_ble_eq_true rfl)
  have gp13 : GV (fun a => H a = none) G75 1 4007 MB (.ref p13) := gvt (k := 0) (c := 2000) (T13 _ _ hp13) (gvs_cons ((ma_str (by decide +kernel) (by decide +kernel)).mono (by decide) (by decide) (Int.le_refl _)) (gvs_cons ((ma_int (by decide +kernel) (by decide +kernel)).mono (by decide) (by decide) (Int.le_refl _)) gvs_nil)) (Nat.le_of_ble_eq_true rfl)
  have gp14 : GV (fun a => H a = none) G75 1 2005 MB (.ref p14) := gvt (k := 0) (c := 2000) (T14 _ _ hp14) (gvs_cons ((ma_str (by decide +kernel) (by decide +kernel)).mono (by decide) (by decide) (Int.le_refl _)) gvs_nil) (Nat.le_of_ble_eq_true rfl)
  have gp15 : GV (fun a => H a = none) G75 1 6009 MB (.ref p15) := gvt (k := 0) (c := 2000) (T15 _ _ hp15) (gvs_cons ((ma_str (by decide +kernel) (by decide +kernel)).mono (by decide) (by decide) (Int.le_refl _)) (gvs_cons ((ma_int (by decide +kernel) (by decide +kernel)).mono (by decide) (by decide) (Int.le_refl _)) (gvs_cons ((ma_int (by decide +kernel) (by decide +kernel)).mono (by decide) (by decide) (Int.le_refl _)) gvs_nil))) (Nat.le_of_ble_eq_true rfl)
  have gp16 : GV (fun a => H a = none) G75 1 6009 MB (.ref p16) := gvt (k := 0) (c := 2000) (T16 _ _ hp16) (gvs_cons ((ma_str (by decide +kernel) (by decide +kernel)).mono (by decide) (by decide) (Int.le_refl _)) (gvs_cons ((ma_int (by decide +kernel) (by decide +kernel)).mono (by decide) (by decide) (Int.le_refl _)) (gvs_cons ((ma_int (by decide +kernel) (by decide +kernel)).mono (by decide) (by decide) (Int.le_refl _)) gvs_nil))) (Nat.le_of_ble_eq_true rfl)
  have gp19 : GV (fun a => H a = none) G75 1 6009 MB (.ref p19) := gvt (k := 0) (c := 2000) (T19 _ _ hp19) (gvs_cons ((ma_str (by decide +kernel) (by decide +kernel)).mono (by decide) (by decide) (Int.le_refl _)) (gvs_cons ((ma_int (by decide +kernel) (by decide +kernel)).mono (by decide) (by decide) (Int.le_refl _)) (gvs_cons ((ma_int (by decide +kernel) (by decide +kernel)).mono (by decide) (by decide) (Int.le_refl _)) gvs_nil))) (Nat.le_of_ble_eq_true rfl)
  have gp20 : GV (fun a => H a = none) G75 1 6009 MB (.ref p20) := gvt (k := 0) (c := 2000) (T20 _ _ hp20) (gvs_cons ((ma_str (by decide +kernel) (by decide +kernel)).mono (by decide) (by decide) (Int.le_refl _)) (gvs_cons ((ma_int (by decide +kernel) (by decide +kernel)).mono (by decide) (by decide) (Int.le_refl _)) (gvs_cons ((ma_int (by decide +kernel) (by decide +kernel)).mono (by decide) (by decide) (Int.le_refl _)) gvs_nil))) (Nat.le_of_ble_eq_true rfl)
  have gp21 : GV (fun a => H a = none) G75 1 6009 MB (.ref p21) := gvt (k := 0) (c := 2000) (T21 _ _ hp21) (gvs_cons ((ma_str (by decide +kernel) (by decide +kernel)).mono (by decide) (by decide) (Int.le_refl _)) (gvs_cons ((ma_bl false).mono (by decide) (by decide) (Int.le_refl _)) (gvs_cons ((ma_int (by decide +kernel) (by decide +kernel)).mono (by decide) (by decide) (Int.le_refl _)) gvs_nil))) (Nat.le_of_ble_eq_true rfl)
  have gp22 : GV (fun a => H a = none) G75 1 6009 MB (.ref p22) := gvt (k := 0) (c := 2000) (T22 _ _ hp22) (gvs_cons ((ma_str (by decide +kernel) (by decide +kernel)).mono (by decide) (by decide) (Int.le_refl _)) (gvs_cons ((ma_int (by decide +kernel) (by decide +kernel)).mono (by decide) (by decide) (Int.le_refl _)) (gvs_cons ((ma_bl true).mono (by decide) (by decide) (Int.le_refl _)) gvs_nil))) (Nat.le_of_ble_eq_true rfl)
  have gp23 : GV (fun a => H a = none) G75 1 6009 MB (.ref p23) := gvl (k := 0) (c := 2000) (R22.free np23) (T23 _ _ hp23) (gvs_cons ((ma_str (by decide +kernel) (by decide +kernel)).mono (by decide) (by decide) (Int.le_refl _)) (gvs_cons ((ma_int (by decide +kernel) (by decide +kernel)).mono (by decide) (by decide) (Int.le_refl _)) (gvs_cons ((ma_int (by decide +kernel) (by decide +kernel)).mono (by decide) (by decide) (Int.le_refl _)) gvs_nil))) (Nat.le_of_ble_eq_true rfl)
  have gp24 : GV (fun a => H a = none) G75 1 6009 MB (.ref p24) := gvt (k := 0) (c := 2000) (T24 _ _ hp24) (gvs_cons ((ma_int (by decide +kernel) (by decide +kernel)).mono (by decide) (by decide) (Int.le_refl _)) (gvs_cons ((ma_int (by decide +kernel) (by decide +kernel)).mono (by decide) (by decide) (Int.le_refl _)) (gvs_cons ((ma_int (by decide +kernel) (by decide +kernel)).mono (by decide) (by decide) (Int.le_refl _)) gvs_nil))) (Nat.le_of_ble_eq_true rfl)
  have gp27 : GV (fun a => H a = none) G75 1 6009 MB (.ref p27) := gvt (k := 0) (c := 2000) (T27 _ _ hp27) (gvs_cons ((ma_str (by decide +kernel) (by decide +kernel)).mono (by decide) (by decide) (Int.le_refl _)) (gvs_cons ((ma_int (by decide +kernel) (by decide +kernel)).mono (by decide) (by decide) (Int.le_refl _)) (gvs_cons ((ma_int (by decide +kernel) (by decide +kernel)).mono (by decide) (by decide) (Int.le_refl _)) gvs_nil))) (Nat.le_of_ble_eq_true rfl)
  have gp28 : GV (fun a => H a = none) G75 2 6014 MB (.ref p28) := gvt (k := 1) (c := 6009) (T28 _ _ hp28) (gvs_cons (gp27.mono (by decide) (by decide) (Int.le_refl _)) gvs_nil) (Nat.le_of_ble_eq_true rfl)
  have gp29 : GV (fun a => H a = none) G75 1 6009 MB (.ref p29) := gvt (k := 0) (c := 2000) (T29 _ _ hp29) (gvs_cons ((ma_str (by decide +kernel) (by decide +kernel)).mono (by decide) (by decide) (Int.le_refl _)) (gvs_cons ((ma_int (by decide +kernel) (by decide +kernel)).mono (by decide) (by decide) (Int.le_refl _)) (gvs_cons ((ma_int (by decide +kernel) (by decide +kernel)).mono (by decide) (by decide) (Int.le_refl _)) gvs_nil))) (Nat.le_of_ble_eq_true rfl)
  have gp30 : GV (fun a => H a = none) G75 1 6009 MB (.ref p30) := gvt (k := 0) (c := 2000) (T30 _ _ hp30) (gvs_cons ((ma_str (by decide +kernel) (by decide +kernel)).mono (by decide) (by decide) (Int.le_refl _)) (gvs_cons ((ma_int (by decide +kernel) (by decide +kernel)).mono (by decide) (by decide) (Int.le_refl _)) (gvs_cons ((ma_int (by decide +kernel) (by decide +kernel)).mono (by decide) (by decide) (Int.le_refl _)) gvs_nil))) (Nat.le_of_ble_eq_true rfl)
  have gp31 : GV (fun a => H a = none) G75 2 12025 MB (.ref p31) := gvt (k := 1) (c := 6009) (T31 _ _ hp31) (gvs_cons (gp29.mono (by decide) (by decide) (Int.le_refl _)) (gvs_cons (gp30.mono (by decide) (by decide) (Int.le_refl _)) gvs_nil)) (Nat.le_of_ble_eq_true rfl)
  have gp32 : GV (fun a => H a = none) G75 1 6009 MB (.ref p32) := gvt (k := 0) (c := 2000) (T32 _ _ hp32) (gvs_cons ((ma_str (by decide +kernel) (by decide +kernel)).mono (by decide) (by decide) (Int.le_refl _)) (gvs_cons ((ma_int (by decide +kernel) (by decide +kernel)).mono (by decide) (by decide) (Int.le_refl _)) (gvs_cons ((ma_int (by decide +kernel) (by decide +kernel)).mono (by decide) (by decide) (Int.le_refl _)) gvs_nil))) (Nat.le_of_ble_eq_true rfl)
  have gp33 : GV (fun a => H a = none) G75 1 6009 MB (.ref p33) := gvt (k := 0) (c := 2000) (T33 _ _ hp33) (gvs_cons ((ma_str (by decide +kernel) (by decide +kernel)).mono (by decide) (by decide) (Int.le_refl _)) (gvs_cons ((ma_int (by decide +kernel) (by decide +kernel)).mono (by decide) (by decide) (Int.le_refl _)) (gvs_cons ((ma_int (by decide +kernel) (by decide +kernel)).mono (by decide) (by decide) (Int.le_refl _)) gvs_nil))) (Nat.le_of_ble_eq_true rfl)
  have gp34 : GV (fun a => H a = none) G75 2 12025 MB (.ref p34) := gvt (k := 1) (c := 6009) (T34 _ _ hp34) (gvs_cons (gp32.mono (by decide) (by decide) (Int.le_refl _)) (gvs_cons (gp33.mono (by decide) (by decide) (Int.le_refl _)) gvs_nil)) (Nat.le_of_ble_eq_true rfl)
  have gp35 : GV (fun a => H a = none) G75 1 6009 MB (.ref p35) := gvt (k := 0) (c := 2000) (T35 _ _ hp35) (gvs_cons ((ma_str (by decide +kernel) (by decide +kernel)).mono (by decide) (by decide) (Int.le_refl _)) (gvs_cons ((ma_int (by decide +kernel) (by decide +kernel)).mono (by decide) (by decide) (Int.le_refl _)) (gvs_cons ((ma_int (by decide +kernel) (by decide +kernel)).mono (by decide) (by decide) (Int.le_refl _)) gvs_nil))) (Nat.le_of_ble_eq_true rfl)
  have gp36 : GV (fun a => H a = none) G75 1 6009 MB (.ref p36) := gvt (k := 0) (c := 2000) (T36 _ _ hp36) (gvs_cons ((ma_str (by decide +kernel) (by decide +kernel)).mono (by decide) (by decide) (Int.le_refl _)) (gvs_cons ((ma_int (by decide +kernel) (by decide +kernel)).mono (by decide) (by decide) (Int.le_refl _)) (gvs_cons ((ma_int (by decide +kernel) (by decide +kernel)).mono (by decide) (by decide) (Int.le_refl _)) gvs_nil))) (Nat.le_of_ble_eq_true rfl)
  have gp37 : GV (fun a => H a = none) G75 2 12025 MB (.ref p37) := gvt (k := 1) (c := 6009) (T37 _ _ hp37) (gvs_cons (gp35.mono (by decide) (by decide) (Int.le_refl _)) (gvs_cons (gp36.mono (by decide) (by decide) (Int.le_refl _)) gvs_nil)) (Nat.le_of_ble_eq_true rfl)
  have gp40 : GV (fun a => H a = none) G75 1 6009 MB (.ref p40) := gvt (k := 0) (c := 2000) (T40 _ _ hp40) (gvs_cons ((ma_str (by decide +kernel) (by decide +kernel)).mono (by decide) (by decide) (Int.le_refl _)) (gvs_cons ((ma_int (by decide +kernel) (by decide +kernel)).mono (by decide) (by decide) (Int.le_refl _)) (gvs_cons ((ma_int (by decide +kernel) (by decide +kernel)).mono (by decide) (by decide) (Int.le_refl _)) gvs_nil))) (Nat.le_of_ble_eq_true rfl)
  have gp41 : GV (fun a => H a = none) G75 2 6014 MB (.ref p41) := gvl (k := 1) (c := 6009) (R40.free np41) (T41 _ _ hp41) (gvs_cons (gp40.mono (by decide) (by decide) (Int.le_refl _)) gvs_nil) (Nat.le_of_ble_eq_true rfl)
  have gp42 : GV (fun a => H a = none) G75 1 6009 MB (.ref p42) := gvt (k := 0) (c := 2000) (T42 _ _ hp42) (gvs_cons ((ma_str (by decide +kernel) (by decide +kernel)).mono (by decide) (by decide) (Int.le_refl _)) (gvs_cons ((ma_int (by decide +kernel) (by decide +kernel)).mono (by decide) (by decide) (Int.le_refl _)) (gvs_cons ((ma_int (by decide +kernel) (by decide +kernel)).mono (by decide) (by decide) (Int.le_refl _)) gvs_nil))) (Nat.le_of_ble_eq_true rfl)
  have gp43 : GV (fun a => H a = none) G75 1 6009 MB (.ref p43) := gvl (k := 0) (c := 2000) (R42.free np43) (T43 _ _ hp43) (gvs_cons ((ma_str (by decide +kernel) (by decide +kernel)).mono (by decide) (by decide) (Int.le_refl _)) (gvs_cons ((ma_int (by decide +kernel) (by decide +kernel)).mono (by decide) (by decide) (Int.le_refl _)) (gvs_cons ((ma_int (by decide +kernel) (by decide +kernel)).mono (by decide) (by decide) (Int.le_refl _)) gvs_nil))) (Nat.le_of_ble_eq_true rfl)
  have gp44 : GV (fun a => H a = none) G75 2 12025 MB (.ref p44) := gvt (k := 1) (c := 6009) (T44 _ _ hp44) (gvs_cons (gp42.mono (by decide) (by decide) (Int.le_refl _)) (gvs_cons (gp43.mono (by decide) (by decide) (Int.le_refl _)) gvs_nil)) (Nat.le_of_ble_eq_true rfl)
  have gp45 : GV (fun a => H a = none) G75 1 6009 MB (.ref p45) := gvt (k := 0) (c := 2000) (T45 _ _ hp45) (gvs_cons ((ma_str (by decide +kernel) (by decide +kernel)).mono (by decide) (by decide) (Int.le_refl _)) (gvs_cons ((ma_int (by decide +kernel) (by decide +kernel)).mono (by decide) (by decide) (Int.le_refl _)) (gvs_cons ((ma_int (by decide +kernel) (by decide +kernel)).mono (by decide) (by decide) (Int.le_refl _)) gvs_nil))) (Nat.le_of_ble_eq_true rfl)
  have gp46 : GV (fun a => H a = none) G75 1 6009 MB (.ref p46) := gvt (k := 0) (c := 2000) (T46 _ _ hp46) (gvs_cons ((ma_str (by decide +kernel) (by decide +kernel)).mono (by decide) (by decide) (Int.le_refl _)) (gvs_cons ((ma_int (by decide +kernel) (by decide +kernel)).mono (by decide) (by decide) (Int.le_refl _)) (gvs_cons ((ma_int (by decide +kernel) (by decide +kernel)).mono (by decide) (by decide) (Int.le_refl _)) gvs_nil))) (Nat.le_of_ble_eq_true rfl)
  have gp47 : GV (fun a => H a = none) G75 2 12025 MB (.ref p47) := gvt (k := 1) (c := 6009) (T47 _ _ hp47) (gvs_cons (gp45.mono (by decide) (by decide) (Int.le_refl _)) (gvs_cons (gp46.mono (by decide) (by decide) (Int.le_refl _)) gvs_nil)) (Nat.le_of_ble_eq_true rfl)
  have gp48 : GV (fun a => H a = none) G75 1 6009 MB (.ref p48) := gvt (k := 0) (c := 2000) (T48 _ _ hp48) (gvs_cons ((ma_str (by decide +kernel) (by decide +kernel)).mono (by decide) (by decide) (Int.le_refl _)) (gvs_cons ((ma_int (by decide +kernel) (by decide +kernel)).mono (by decide) (by decide) (Int.le_refl _)) (gvs_cons ((ma_int (by decide +kernel) (by decide +kernel)).mono (by decide) (by decide) (Int.le_refl _)) gvs_nil))) (Nat.le_of_ble_eq_true rfl)
  have gp49 : GV (fun a => H a = none) G75 2 6014 MB (.ref p49) := gvt (k := 1) (c := 6009) (T49 _ _ hp49) (gvs_cons (gp48.mono (by decide) (by decide) (Int.le_refl _)) gvs_nil) (Nat.le_of_ble_eq_true rfl)
  have gp52 : GV (fun a => H a = none) G75 1 6009 MB (.ref p52) := gvt (k := 0) (c := 2000) (T52 _ _ hp52) (gvs_cons ((ma_str (by decide +kernel) (by decide +kernel)).mono (by decide) (by decide) (Int.le_refl _)) (gvs_cons ((ma_int (by decide +kernel) (by decide +kernel)).mono (by decide) (by decide) (Int.le_refl _)) (gvs_cons ((ma_int (by decide +kernel) (by decide +kernel)).mono (by decide) (by decide) (Int.le_refl _)) gvs_nil))) (Nat.le_of_ble_eq_true rfl)
  have gp53 : GV (fun a => H a = none) G75 1 6009 MB (.ref p53) := gvt (k := 0) (c := 2000) (T53 _ _ hp53) (gvs_cons ((ma_str (by decide +kernel) (by decide +kernel)).mono (by decide) (by decide) (Int.le_refl _)) (gvs_cons ((ma_int (by decide +kernel) (by decide +kernel)).mono (by decide) (by decide) (Int.le_refl _)) (gvs_cons ((ma_int (by decide +kernel) (by decide +kernel)).mono (by decide) (by decide) (Int.le_refl _)) gvs_nil))) (Nat.le_of_ble_eq_true rfl)
  have gp54 : GV (fun a => H a = none) G75 2 12025 MB (.ref p54) := gvt (k := 1) (c := 6009) (T54 _ _ hp54) (gvs_cons (gp52.mono (by decide) (by decide) (Int.le_refl _)) (gvs_cons (gp53.mono (by decide) (by decide) (Int.le_refl _)) gvs_nil)) (Nat.le_of_ble_eq_true rfl)
  have gp55 : GV (fun a => H a = none) G75 1 6009 MB (.ref p55) := gvt (k := 0) (c := 2000) (T55 _ _ hp55) (gvs_cons ((ma_str (by decide +kernel) (by decide +kernel)).mono (by decide) (by decide) (Int.le_refl _)) (gvs_cons ((ma_int (by decide +kernel) (by decide +kernel)).mono (by decide) (by decide) (Int.le_refl _)) (gvs_cons ((ma_int (by decide +kernel) (by decide +kernel)).mono (by decide) (by decide) (Int.le_refl _)) gvs_nil))) (Nat.le_of_ble_eq_true rfl)
  have gp56 : GV (fun a => H a = none) G75 1 6009 MB (.ref p56) := gvt (k := 0) (c := 2000) (T56 _ _ hp56) (gvs_cons ((ma_str (by decide +kernel) (by decide +kernel)).mono (by decide) (by decide) (Int.le_refl _)) (gvs_cons ((ma_int (by decide +kernel) (by decide +kernel)).mono (by decide) (by decide) (Int.le_refl _)) (gvs_cons ((ma_int (by decide +kernel) (by decide +kernel)).mono (by decide) (by decide) (Int.le_refl _)) gvs_nil))) (Nat.le_of_ble_eq_true rfl)
  have gp57 : GV (fun a => H a = none) G75 2 12025 MB (.ref p57) := gvt (k := 1) (c := 6009) (T57 _ _ hp57) (gvs_cons (gp55.mono (by decide) (by decide) (Int.le_refl _)) (gvs_cons (gp56.mono (by decide) (by decide) (Int.le_refl _)) gvs_nil)) (Nat.le_of_ble_eq_true rfl)
  have gp58 : GV (fun a => H a = none) G75 1 6009 MB (.ref p58) := gvt (k := 0) (c := 2000) (T58 _ _ hp58) (gvs_cons ((ma_str (by decide +kernel) (by decide +kernel)).mono (by decide) (by decide) (Int.le_refl _)) (gvs_cons ((ma_int (by decide +kernel) (by decide +kernel)).mono (by decide) (by decide) (Int.le_refl _)) (gvs_cons ((ma_int (by decide +kernel) (by decide +kernel)).mono (by decide) (by decide) (Int.le_refl _)) gvs_nil))) (Nat.le_of_ble_eq_true rfl)
  have gp59 : GV (fun a => H a = none) G75 1 6009 MB (.ref p59) := gvt (k := 0) (c := 2000) (T59 _ _ hp59) (gvs_cons ((ma_str (by decide +kernel) (by decide +kernel)).mono (by decide) (by decide) (Int.le_refl _)) (gvs_cons ((ma_int (by decide +kernel) (by decide +kernel)).mono (by decide) (by decide) (Int.le_refl _)) (gvs_cons ((ma_int (by decide +kernel) (by decide +kernel)).mono (by decide) (by decide) (Int.le_refl _)) gvs_nil))) (Nat.le_of_ble_eq_true rfl)
  have gp60 : GV (fun a => H a = none) G75 2 12025 MB (.ref p60) := gvt (k := 1) (c := 6009) (T60 _ _ hp60) (gvs_cons (gp58.mono (by decide) (by decide) (Int.le_refl _)) (gvs_cons (gp59.mono (by decide) (by decide) (Int.le_refl _)) gvs_nil)) (Nat.le_of_ble_eq_true rfl)
  have gp61 : GV (fun a => H a = none) G75 1 3 MB (.ref p61) := gvt (k := 0) (c := 2000) (T61 _ _ hp61) gvs_nil (Nat.le_of_ble_eq_true rfl)
  have gp62 : GV (fun a => H a = none) G75 1 3 MB (.ref p62) := gvt (k := 0) (c := 2000) (T62 _ _ hp62) gvs_nil (Nat.le_of_ble_eq_true rfl)
  have gp63 : GV (fun a => H a = none) G75 2 4007 MB (.ref p63) := gvt (k := 1) (c := 2000) (T63 _ _ hp63) (gvs_cons (gp61.mono (by decide) (by decide) (Int.le_refl _)) (gvs_cons (gp62.mono (by decide) (by decide) (Int.le_refl _)) gvs_nil)) (Nat.le_of_ble_eq_true rfl)
  have gp64 : GV (fun a => H a = none) G75 1 3 MB (.ref p64) := gvt (k := 0) (c := 2000) (T64 _ _ hp64) gvs_nil (Nat.le_of_ble_eq_true rfl)
  have gp65 : GV (fun a => H a = none) G75 2 2005 MB (.ref p65) := gvt (k := 1) (c := 2000) (T65 _ _ hp65) (gvs_cons (gp64.mono (by decide) (by decide) (Int.le_refl _)) gvs_nil) (Nat.le_of_ble_eq_true rfl)
  have gp68 : GV (fun a => H a = none) G75 1 6009 MB (.ref p68) := gvt (k := 0) (c := 2000) (T68 _ _ hp68) (gvs_cons ((ma_str (by decide +kernel) (by decide +kernel)).mono (by decide) (by decide) (Int.le_refl _)) (gvs_cons ((ma_int (by decide +kernel) (by decide +kernel)).mono (by decide) (by decide) (Int.le_refl _)) (gvs_cons ((ma_int (by decide +kernel) (by decide +kernel)).mono (by decide) (by decide) (Int.le_refl _)) gvs_nil))) (Nat.le_of_ble_eq_true rfl)
  have gp69 : GV (fun a => H a = none) G75 1 6009 MB (.ref p69) := gvt (k := 0) (c := 2000) (T69 _ _ hp69) (gvs_cons ((ma_str (by decide +kernel) (by decide +kernel)).mono (by decide) (by decide) (Int.le_refl _)) (gvs_cons ((ma_int (by decide +kernel) (by decide +kernel)).mono (by decide) (by decide) (Int.le_refl _)) (gvs_cons ((ma_int (by decide +kernel) (by decide +kernel)).mono (by decide) (by decide) (Int.le_refl _)) gvs_nil))) (Nat.le_of_ble_eq_true rfl)
  have gp70 : GV (fun a => H a = none) G75 2 12025 MB (.ref p70) := gvt (k := 1) (c := 6009) (T70 _ _ hp70) (gvs_cons (gp68.mono (by decide) (by decide) (Int.le_refl _)) (gvs_cons (gp69.mono (by decide) (by decide) (Int.le_refl _)) gvs_nil)) (Nat.le_of_ble_eq_true rfl)
  have gp71 : GV (fun a => H a = none) G75 1 6009 MB (.ref p71) := gvt (k := 0) (c := 2000) (T71 _ _ hp71) (gvs_cons ((ma_str (by decide +kernel) (by decide +kernel)).mono (by decide) (by decide) (Int.le_refl _)) (gvs_cons ((ma_int (by decide +kernel) (by decide +kernel)).mono (by decide) (by decide) (Int.le_refl _)) (gvs_cons ((ma_int (by decide +kernel) (by decide +kernel)).mono (by decide) (by decide) (Int.le_refl _)) gvs_nil))) (Nat.le_of_ble_eq_true rfl)
  have gp72 : GV (fun a => H a = none) G75 1 6009 MB (.ref p72) := gvt (k := 0) (c := 2000) (T72 _ _ hp72) (gvs_cons ((ma_str (by decide +kernel) (by decide +kernel)).mono (by decide) (by decide) (Int.le_refl _)) (gvs_cons ((ma_int (by decide +kernel) (by decide +kernel)).mono (by decide) (by decide) (Int.le_refl _)) (gvs_cons ((ma_int (by decide +kernel) (by decide +kernel)).mono (by decide) (by decide) (Int.le_refl _)) gvs_nil))) (Nat.le_of_ble_eq_true rfl)
  have gp73 : GV (fun a => H a = none) G75 1 4007 MB (.ref p73) := gvt (k := 0) (c := 2000) (T73 _ _ hp73) (gvs_cons ((ma_str (by decide +kernel) (by decide +kernel)).mono (by decide) (by decide) (Int.le_refl _)) (gvs_cons ((ma_int (by decide +kernel) (by decide +kernel)).mono (by decide) (by decide) (Int.le_refl _)) gvs_nil)) (Nat.le_of_ble_eq_true rfl)
  exact q p75 _ G75 R75 (R74.free np75) (T75 _ _ hp75) (Nat.le_of_ble_eq_true rfl) (gvs_cons (ma_non.mono (by decide) (by decide) (Int.le_refl _)) (gvs_cons ((ma_bl true).mono (by decide) (by decide) (Int.le_refl _)) (gvs_cons ((ma_int (by decide +kernel) (by decide +kernel)).mono (by decide) (by decide) (Int.le_refl _)) (gvs_cons ((ma_str (by decide +kernel) (by decide +kernel)).mono (by decide) (by decide) (Int.le_refl _)) (gvs_cons (gp1.mono (by decide) (by decide) (Int.le_refl _)) (gvs_cons (gp2.mono (by decide) (by decide) (Int.le_refl _)) (gvs_cons (gp3.mono (by decide) (by decide) (Int.le_refl _)) (gvs_cons (gp4.mono (by decide) (by decide) (Int.le_refl _)) (gvs_cons (gp5.mono (by decide) (by decide) (Int.le_refl _)) (gvs_cons (gp6.mono (by decide) (by decide) (Int.le_refl _)) (gvs_cons (gp7.mono (by decide) (by decide) (Int.le_refl _)) (gvs_cons (gp8.mono (by decide) (by decide) (Int.le_refl _)) (gvs_cons (gp10.mono (by decide) (by decide) (Int.le_refl _)) (gvs_cons (gp11.mono (by decide) (by decide) (Int.le_refl _)) (gvs_cons (gp12.mono (by decide) (by decide) (Int.le_refl _)) (gvs_cons (gp13.mono (by decide) (by decide) (Int.le_refl _)) (gvs_cons (gp14.mono (by decide) (by decide) (Int.le_refl _)) (gvs_cons (gp15.mono (by decide) (by decide) (Int.le_refl _)) (gvs_cons (gp16.mono (by decide) (by decide) (Int.le_refl _)) (gvs_cons (gp19.mono (by decide) (by decide) (Int.le_refl _)) (gvs_cons (gp20.mono (by decide) (by decide) (Int.le_refl _)) (gvs_cons (gp21.mono (by decide) (by decide) (Int.le_refl _)) (gvs_cons (gp22.mono (by decide) (by decide) (Int.le_refl _)) (gvs_cons (gp23.mono (by decide) (by decide) (Int.le_refl _)) (gvs_cons (gp24.mono (by decide) (by decide) (Int.le_refl _)) (gvs_cons (gp28.mono (by decide) (by decide) (Int.le_refl _)) (gvs_cons (gp31.mono (by decide) (by decide) (Int.le_refl _)) (gvs_cons (gp34.mono (by decide) (by decide) (Int.le_refl _)) (gvs_cons (gp37.mono (by decide) (by decide) (Int.le_refl _)) (gvs_cons (gp41.mono (by decide) (by decide) (Int.le_refl _)) (gvs_cons (gp44.mono (by decide) (by decide) (Int.le_refl _)) (gvs_cons (gp47.mono (by decide) (by decide) (Int.le_refl _)) (gvs_cons (gp49.mono (by decide) (by decide) (Int.le_refl _)) (gvs_cons (gp54.mono (by decide) (by decide) (Int.le_refl _)) (gvs_cons (gp57.mono (by decide) (by decide) (Int.le_refl _)) (gvs_cons (gp60.mono (by decide) (by decide) (Int.le_refl _)) (gvs_cons (gp63.mono (by decide) (by decide) (Int.le_refl _)) (gvs_cons (gp65.mono (by decide) (by decide) (Int.le_refl _)) (gvs_cons (gp70.mono (by decide) (by decide) (Int.le_refl _)) (gvs_cons (gp71.mono (by decide) (by decide) (Int.le_refl _)) (gvs_cons (gp72.mono (by decide) (by decide) (Int.le_refl _)) (gvs_cons (gp73.mono (by decide) (by decide) (Int.le_refl _)) gvs_nil))))))))))))))))))))))))))))))))))))))))))

theorem ok_lthings (F : Fun K "_law_things" "_law_things" s_lthings f_lthings d_lthings) (T : Txt mg f_is_number f_is_from_to f_is_word f_is_tuple_of f_is_note f_is_run f_is_runs f_is_apart f_lfeed f_ldraw f_lnames f_lat f_lrun f_llot f_lhas f_lmade f_lis_number f_lis_word f_lis_run f_lis_runs f_lis_note f_lodd f_lbent f_lmenu f_lthings f_law)
    (F_ldraw : Fun K "_law_draw" "_law_draw" s_ldraw f_ldraw d_ldraw) (b_ldraw : Binds K d_ldraw ["_law_feed_here", "_law_many"] []) (G_ldraw : FnOk P w K mg base CX0 (8) f_ldraw d_ldraw ["_law_feed_here", "_law_many"] spDraw)
    (F_lmenu : Fun K "_law_menu" "_law_menu" s_lmenu f_lmenu d_lmenu) (b_lmenu : Binds K d_lmenu [] []) (G_lmenu : FnOk P w K mg base CX0 (8) f_lmenu d_lmenu [] spMenu)
    (F_llot : Fun K "_law_lot" "_law_lot" s_llot f_llot d_llot) (b_llot : Binds K d_llot ["_law_feed_here", "_law_names_here", "_law_wide", "_law_most"] []) (G_llot : FnOk P w K mg base CX0 (8) f_llot d_llot ["_law_feed_here", "_law_names_here", "_law_wide", "_law_most"] spLot)
    (F_lat : Fun K "_law_at" "_law_at" s_lat f_lat d_lat) (b_lat : Binds K d_lat ["_law_feed_here", "_law_wide"] []) (G_lat : FnOk P w K mg base CX0 (8) f_lat d_lat ["_law_feed_here", "_law_wide"] spAt)
    (F_lrun : Fun K "_law_run" "_law_run" s_lrun f_lrun d_lrun) (b_lrun : Binds K d_lrun ["_law_feed_here", "_law_names_here", "_law_wide"] []) (G_lrun : FnOk P w K mg base CX0 (8) f_lrun d_lrun ["_law_feed_here", "_law_names_here", "_law_wide"] spRun)
    (F_lmade : Fun K "_law_made" "_law_made" s_lmade f_lmade d_lmade) (b_lmade : Binds K d_lmade ["_law_lots", "_law_rule"] []) (G_lmade : FnOk P w K mg base CX0 (8) f_lmade d_lmade ["_law_lots", "_law_rule"] (spMade K))
    (F_lbent : Fun K "_law_bent" "_law_bent" s_lbent f_lbent d_lbent) (b_lbent : Binds K d_lbent ["_law_feed_here", "_law_thing"] []) (G_lbent : FnOk P w K mg base CX0 (8) f_lbent d_lbent ["_law_feed_here", "_law_thing"] (spBentK 5)) :
    FnOk P w K mg base CX0 (9) f_lthings d_lthings ["_law_feed_here", "_law_names_here", "_law_wide"] spThings := by
  refine F.ok sc_lthings (fun vs H Q E h => ?_) (fun cdv A outer s H vs Q E hr h => ?_)

  · obtain ⟨f, c, l, m, n, xs, rfl, _⟩ := h
    rfl
  obtain ⟨f, c, l, m, n, xs, rfl, hf, hn, m0, m1, hl, lf, xl, nm, q⟩ := h
  refine ⟨_, (pss_cons (ps_set (i := 3) sc_lthings.nd rfl (.inl rfl) (pe_call0 G_lmenu hr (by rfl) T.m_lmenu F_lmenu.kp b_lmenu .nil pass0))
  (pss_cons (ps_for PassesOwn.never rfl (pi_range1 (by rfl) T.range (pa_cons pe_int pa_nil)) (pg_name (i := 4) sc_lthings.nd rfl (.inl rfl))
  (pss_cons (ps_set (i := 5) sc_lthings.nd rfl (.inl rfl) (pe_call G_llot hr (by rfl) T.m_llot F_llot.kp b_llot .nil pass0 (pa_cons (pv 0) (pa_cons (pv 1) (pa_cons (pv 2) (pa_cons pe_int pa_nil))))))
  (pss_cons (ps_set (i := 6) sc_lthings.nd rfl (.inl rfl) (pe_lst (pa_cons (pe_tup (pa_cons (pe_ix ix_list (pv 1) (pe_call G_ldraw hr (by rfl) T.m_ldraw F_ldraw.kp b_ldraw .nil pass0 (pa_cons (pv 0) (pa_cons pe_int pa_nil))) (fun _ _ => rfl)) (pa_cons (pe_call G_lat hr (by rfl) T.m_lat F_lat.kp b_lat .nil pass0 (pa_cons (pv 0) (pa_cons (pv 2) pa_nil))) pa_nil))) (pa_cons (pe_call G_lrun hr (by rfl) T.m_lrun F_lrun.kp b_lrun .nil pass0 (pa_cons (pv 0) (pa_cons (pv 1) (pa_cons (pv 2) pa_nil)))) pa_nil))))
  (pss_cons (ps_set (i := 6) sc_lthings.nd rfl (.inl rfl) (pe_op op_cat (pv 6) (pe_lst (pa_cons (pe_call G_lmade hr (by rfl) T.m_lmade F_lmade.kp b_lmade .nil pass0 (pa_cons (pe_lst (pa_cons (pv 5) pa_nil)) (pa_cons pe_str pa_nil))) (pa_cons (pe_callTy call_tuple_of (by rfl) T.tuple (by decide +kernel) (pa_cons (pe_callB (cr_sortedD hr) (by rfl) T.sorted (by decide +kernel) (pa_cons (pv 5) pa_nil)) pa_nil)) (pa_cons (pe_callTy call_tuple_of (by rfl) T.tuple (by decide +kernel) (pa_cons (pe_slice sl_list (pv 5) po_none (po_some pe_int)) pa_nil)) pa_nil))))))
  (pss_one (ps_for PassesOwn.never rfl (pi_list (pv 6)) (pg_name (i := 7) sc_lthings.nd rfl (.inl rfl))
  (pss_cons (ps_set (i := 8) sc_lthings.nd rfl (.inl rfl) (pe_call G_lbent hr (by rfl) T.m_lbent F_lbent.kp b_lbent .nil pass0 (pa_cons (pv 0) (pa_cons (pv 7) pa_nil))))
  (pss_one (ps_set (i := 3) sc_lthings.nd rfl (.inl rfl) (pe_op op_cat (pv 3) (pe_lst (pa_cons (pv 7) (pa_cons (pv 8) (pa_cons (pe_call G_lbent hr (by rfl) T.m_lbent F_lbent.kp b_lbent .nil pass0 (pa_cons (pv 0) (pa_cons (pv 8) pa_nil))) pa_nil))))))))))))))
  (pss_cons (ps_set (i := 9) sc_lthings.nd rfl (.inl rfl) (pe_callTy call_tuple_of (by rfl) T.tuple (by decide +kernel) (pa_cons (pe_lc (own := [("_law_k", 4)]) (g := (gName 4)) (by rfl) sc_lthings.nd (pi_range1 (by rfl) T.range (pa_cons (pe_op op_add pe_int (pe_call G_ldraw hr (by rfl) T.m_ldraw F_ldraw.kp b_ldraw .nil pass0 (pa_cons (pv 0) (pa_cons pe_int pa_nil)))) pa_nil)) (blkOk_by (own := [("_law_k", 4)]) (N := ["_law_feed_here", "_law_names_here", "_law_wide", "_law_found", "_law_k", "_law_lot_here", "_law_some", "_law_thing", "_law_bent_here", "_law_long"]) (sc := defScope s_lthings) (by decide +kernel)) (fun _ _ _ _ _ => (pg_name (i := 4) sc_lthings.nd rfl (.inl rfl))) (fun _ _ _ _ _ => pts_nil) (fun _ _ _ _ _ => (pe_tup (pa_cons (pe_ix (show IxR _ (rIxL K) from ix_list) (pv 1) pe_int (fun _ _ => rfl)) (pa_cons (pe_op op_mul pe_int (pv 4)) (pa_cons (pe_op op_add (pe_op op_mul pe_int (pv 4)) pe_int) pa_nil)))))) pa_nil)))
  (pss_one (ps_ret (pe_op op_cat (pv 3) (pe_lst (pa_cons (pv 9) (pa_cons (pe_call G_lbent hr (by rfl) T.m_lbent F_lbent.kp b_lbent .nil pass0 (pa_cons (pv 0) (pa_cons (pv 9) pa_nil))) pa_nil))))))))), ?_⟩
  refine ⟨rfl, fun F us H1 S1 nF hF lu gu => ?_⟩
  have hf1 := hf.same S1
  have Ff := hf.ne nF
  have g1 : ∀ v ∈ us, GV (fun a => a ≠ f) H1 4 3000000 MB v := fun v hv => ((gu v hv).imp fun a ha => (hf.ne ha).1).mono (Nat.le_refl _) (by decide) (Int.le_refl _)
  refine ⟨3, rfl, by decide, by decide, ?_⟩
  refine for_range (lo := 0) (n := 3) (fun i σ H' => ∃ (F : Addr) (us : List V) (v4 v5 v6 v7 v8 : Option V), σ = [some (.ref f), some (.ref l), some (.int m), some (.ref F), v4, v5, v6, v7, v8, none] ∧ Fd H' f c (n + 3000 * i) ∧ But f H H' ∧ F ≠ f ∧ H' F = some (.lst us) ∧ us.length ≤ 100 + 15 * i ∧ ∀ v ∈ us, GV (fun a => a ≠ f) H' 4 3000000 MB v) ?_ ?_ ?_
  · exact ⟨F, us, none, none, none, none, none, rfl, hf1.mono (by omega), But.of_same S1, Ff.1, hF, by omega, g1⟩
  · clear hF lu gu g1 hf1 S1 nF Ff us F H1
    rintro i σ H1 hi ⟨F, us, v4, v5, v6, v7, v8, rfl, hf1, B1, Ff, hF, lu, gu⟩
    have hl1 := B1 _ _ lf hl
    refine ⟨_, rfl, _, rfl, _, rfl, f, c, l, m, 24, _, xs, rfl, hf1, by omega, m0, m1, by decide, by decide, hl1, lf, by omega, by omega, fun lot ps rs H2 hf2 b2 lof loc nlot hlot hp len len2 ok => ?_⟩
    have B2 := B1.trans b2
    have hl2 := B2 _ _ lf hl
    have ok2 : ∀ r ∈ rs, RnOk r ∧ NmOk r.1 := fun r hr => ⟨(ok r hr).1, nm _ (ok r hr).2⟩
    have full : Full rs := fun r hr => (ok r hr).1.2.1
    refine ⟨_, rfl, _, rfl, f, c, 4, _, rfl, hf2, by omega, by decide, by decide, fun d H3 d0 d1 hf3 b3 _ => ?_⟩
    have hl3 := b3 _ _ lf hl2
    obtain ⟨nv, nv1, nv2⟩ := atI_some (xs := xs.map V.str) d0 (by rw [List.length_map]; omega)
    obtain ⟨s1, hs1, rfl⟩ := List.mem_map.mp nv2
    refine ⟨l, _, _, _, rfl, rfl, SqL.of hl3, nv1, _, rfl, _, rfl, f, c, m, _, rfl, hf3, by omega, m0, m1, fun nu H4 u0 u1 hf4 b4 _ => ?_⟩
    refine ⟨(show 2 ≤ sizeLine by decide), fun T1 nT1 => ?_⟩
    have S5 := same_new nT1 (.tup [V.str s1, .int nu])
    have hT1 : upd H4 T1 (.tup [V.str s1, .int nu]) T1 = some (.tup [V.str s1, .int nu]) := upd_same
    generalize upd H4 T1 (.tup [V.str s1, .int nu]) = H5 at hT1 S5 ⊢
    have hf5 := hf4.same S5
    have b25 := b3.trans (b4.trans (But.of_same S5))
    have hl5 := b25 _ _ lf hl2
    refine ⟨_, rfl, _, rfl, _, rfl, f, c, l, m, _, xs, rfl, hf5, by omega, m0, m1, hl5, lf, by omega, by omega, fun T2 r H6 hf6 b6 _ hT2 rok rin => ?_⟩
    have hT1 := b6.tup hf5 hT1
    refine ⟨(show 2 ≤ sizeLine by decide), fun l1 nl1 => ?_⟩
    have S7 := same_new nl1 (.lst [V.ref T1, .ref T2])
    have hl1' : upd H6 l1 (.lst [V.ref T1, .ref T2]) l1 = some (.lst [V.ref T1, .ref T2]) := upd_same
    generalize upd H6 l1 (.lst [V.ref T1, .ref T2]) = H7 at hl1' S7 ⊢
    have b27 := b25.trans (b6.trans (But.of_same S7))
    have hf7 := hf6.same S7
    have hlot7 := b27 _ _ lof hlot
    have hp7 := hp.but hf2 b27
    refine ⟨_, rfl, _, rfl, (show 1 ≤ sizeLine by decide), fun l2 nl2 => ?_⟩
    have S8 := same_new nl2 (.lst [V.ref lot])
    refine ⟨l2, [⟨true, lot, ps, rs⟩], rfl, SqL.of upd_same, one_lot ⟨SqL.of (S8 _ _ hlot7), Prd.same S8 hp7, by show rs.length ≤ 200; omega⟩, (show 0 < 1 by decide), (show 1 ≤ 3 by decide), by rw [all_one]; exact full, fun T3 q3 H9 S9 _ hT3 hq3 => ?_⟩
    rw [all_one] at hq3
    have hq3 : Prd H9 q3 (runsOf rs) := hq3
    have S79 := S8.trans S9
    have hlot9 := S79 _ _ hlot7
    have hp9 := Prd.same S79 hp7
    obtain ⟨qs, e1, hq⟩ := sort_rn hp9
    refine ⟨_, rfl, lot, _, _, rfl, SqL.of hlot9, Prd.dp hp9, rn_alike rs, rn_sortable rs, rn_depth rs, fun sb nsb => ?_⟩
    rw [e1]
    have S10 := same_new nsb (.lst (qs.map V.ref))
    refine ⟨sb, _, rfl, .inl ⟨SqL.of upd_same, fun T4 nT4 => ?_⟩⟩
    have S11 := same_new nT4 (.tup (qs.map V.ref))
    have hT4 : upd (upd H9 sb (.lst (qs.map V.ref))) T4 (.tup (qs.map V.ref)) T4 = some (.tup (qs.map V.ref)) := upd_same
    have S911 := S10.trans S11
    generalize upd (upd H9 sb (.lst (qs.map V.ref))) T4 (.tup (qs.map V.ref)) = H11 at hT4 S911 ⊢
    refine ⟨_, rfl, _, rfl, lot, _, rfl, SqL.of (S911 _ _ hlot9), fun sc nsc => ?_⟩
    have S12 := same_new nsc (.lst (cutV (ps.map V.ref) none (some 2)))
    refine ⟨sc, _, rfl, .inl ⟨SqL.of upd_same, fun T5 nT5 => ?_⟩⟩
    have S13 := same_new nT5 (.tup (cutV (ps.map V.ref) none (some 2)))
    have hT5 : upd (upd H11 sc (.lst (cutV (ps.map V.ref) none (some 2)))) T5 (.tup (cutV (ps.map V.ref) none (some 2))) T5 = some (.tup (cutV (ps.map V.ref) none (some 2))) := upd_same
    have S1113 := S12.trans S13
    generalize upd (upd H11 sc (.lst (cutV (ps.map V.ref) none (some 2)))) T5 (.tup (cutV (ps.map V.ref) none (some 2))) = H13 at hT5 S1113 ⊢
    refine ⟨(show 3 ≤ sizeLine by decide), fun l3 nl3 => ?_⟩
    have S14 := same_new nl3 (.lst [V.ref T3, .ref T4, .ref T5])
    have S714 := S79.trans (S911.trans (S1113.trans S14))
    refine ⟨l1, l3, _, _, rfl, rfl, S714 _ _ hl1', upd_same, (show 5 ≤ sizeLine by decide), fun S nS => ?_⟩
    have S15 := same_new nS (.lst ([V.ref T1, .ref T2] ++ [V.ref T3, .ref T4, .ref T5]))
    have hS : upd (upd H13 l3 (.lst [V.ref T3, .ref T4, .ref T5])) S (.lst ([V.ref T1, .ref T2] ++ [V.ref T3, .ref T4, .ref T5])) S = some (.lst [V.ref T1, .ref T2, .ref T3, .ref T4, .ref T5]) := upd_same
    have S1315 := S14.trans S15
    generalize hH15 : upd (upd H13 l3 (.lst [V.ref T3, .ref T4, .ref T5])) S (.lst ([V.ref T1, .ref T2] ++ [V.ref T3, .ref T4, .ref T5])) = H15 at hS S1315 ⊢
    have S715 := S79.trans (S911.trans (S1113.trans S1315))
    have hf15 := hf7.same S715
    have Sf : S ≠ f := ((hf7.same S714).ne nS).1
    have B15 := B2.trans (b27.trans (But.of_same S715))
    have BB : (1000000010 : Int) ≤ 10 ^ 40 := by decide +kernel
    have B39 : (1000000010 : Int) + 1 ≤ 10 ^ 39 := by decide +kernel
    have things : ∀ v ∈ [V.ref T1, .ref T2, .ref T3, .ref T4, .ref T5], GV (fun a => a ≠ f) H15 2 330000 1000000010 v := by
      intro v hv
      simp only [List.mem_cons, List.not_mem_nil, or_false] at hv
      rcases hv with rfl | rfl | rfl | rfl | rfl
      · exact ((gvt (k := 0) (c := 2000) ((S7.trans S715) _ _ hT1) (gvs_cons (gv_str (nm_ch (nm _ hs1)) (by have := (nm _ hs1).1; omega)) (gvs_cons (gv_int (by omega) (by omega) BB (Nat.le_refl _)) gvs_nil)) (show (2000 + 2) * 2 + 3 ≤ 10000 by decide)).mono (by decide) (by decide) (Int.le_refl _))
      · exact (rn_gv ((S7.trans S715) _ _ hT2) rok (nm _ rin) (by decide) BB).mono (by decide) (by decide) (Int.le_refl _)
      · exact prd_gv ((S911.trans (S1113.trans S1315)) _ _ hT3) (Prd.same (S911.trans (S1113.trans S1315)) hq3) (runsOf_good ok2) (by have := runsOf_len rs; omega) (by decide) BB
      · exact prd_gv ((S1113.trans S1315) _ _ hT4) (Prd.same (S911.trans (S1113.trans S1315)) hq) (fun r hr => ok2 r (List.mem_mergeSort.mp hr)) (by rw [List.length_mergeSort]; omega) (by decide) BB
      · have e2 : cutV (ps.map V.ref) none (some 2) = (ps.take 2).map V.ref := (cut_take _ 2).trans (List.map_take).symm
        refine prd_gv (ps := ps.take 2) (rs := rs.take 2) (by rw [← e2]; exact S1315 _ _ hT5) ((Prd.same (S911.trans (S1113.trans S1315)) hp9).takeN 2) (fun r hr => ok2 r (List.mem_of_mem_take hr)) (Nat.le_trans (List.length_take_le _ _) (by decide)) (by decide) BB
    refine ⟨_, rfl, S, rfl, ⟨_, SqL.of hS⟩, ?_⟩
    have hF15 := B15.trans (But.refl f H15)
    have hF0 : H15 F = some (.lst us) := (b2.trans (b27.trans (But.of_same S715))) _ _ Ff hF
    have gu0 : ∀ v ∈ us, GV (fun a => a ≠ f) H15 4 3000000 MB v := fun v hv => (gu v hv).but (b2.trans (b27.trans (But.of_same S715))) hf1
    refine for_list (K := K) (a := S) (xs := [V.ref T1, .ref T2, .ref T3, .ref T4, .ref T5]) (fun j σ H' => ∃ (F : Addr) (us : List V) (v7 v8 : Option V), σ = [some (.ref f), some (.ref l), some (.int m), some (.ref F), some (.int (0 + (i : Int))), some (.ref lot), some (.ref S), v7, v8, none] ∧ Fd H' f c (n + 3000 * i + 700 + 300 * j) ∧ But f H15 H' ∧ F ≠ f ∧ H' F = some (.lst us) ∧ us.length ≤ 100 + 15 * i + 3 * j ∧ ∀ v ∈ us, GV (fun a => a ≠ f) H' 4 3000000 MB v) ?_ ?_ ?_ ?_
    · exact ⟨F, us, _, _, rfl, hf15.mono (by omega), But.refl _ _, Ff, hF0, by omega, gu0⟩
    · rintro j σ H' _ ⟨_, _, _, _, _, _, b, _⟩
      exact SqL.of (b _ _ Sf hS)
    · rintro j x σ Hj hx ⟨F, us, v7, v8, rfl, hfj, bj, Ff, hF, lu, gu⟩
      have hj : j < 5 := (List.getElem?_eq_some_iff.mp hx).1
      have gx := (things x (List.mem_of_getElem? hx)).but bj hf15
      obtain ⟨dx, hdx, gdx⟩ := gx
      refine ⟨_, rfl, _, rfl, f, c, x, dx, _, 2, 330000, 1000000010, rfl, hfj, (show _ + 20 * (((4 : Nat) : Int) + 1) ≤ (800000 : Int) by omega), hdx, gdx, by decide, by decide, by decide, by decide, by decide +kernel, fun y Hk hfk bk gy => ?_⟩
      have hfk : Fd Hk f c (n + 3000 * i + 700 + 300 * j + 20 * (((4 : Nat) : Int) + 1)) := hfk
      obtain ⟨dy, hdy, gdy⟩ := gy
      refine ⟨_, rfl, _, rfl, _, rfl, _, rfl, _, rfl, f, c, y, dy, _, 3, 3 * 330000 + 5000, 1000000010 + 1, rfl, hfk, (show _ + 20 * (((4 : Nat) : Int) + 1) ≤ (800000 : Int) by omega), hdy, gdy, by decide, by decide, by decide, by decide, B39, fun z Hm hfm bm gz => ?_⟩
      have hfm : Fd Hm f c (n + 3000 * i + 700 + 300 * j + 20 * (((4 : Nat) : Int) + 1) + 20 * (((4 : Nat) : Int) + 1)) := hfm
      refine ⟨(show 3 ≤ sizeLine by decide), fun l4 nl4 => ?_⟩
      have Sm4 := same_new nl4 (.lst [x, y, z])
      have bkm := bk.trans bm
      refine ⟨F, l4, _, _, rfl, rfl, Sm4 _ _ (bkm _ _ Ff hF), upd_same, Nat.le_trans (show us.length + 3 ≤ 200 by omega) (by decide), fun F2 nF2 => ?_⟩
      have Sm5 := same_new nF2 (.lst (us ++ [x, y, z]))
      have Sm := Sm4.trans Sm5
      have bj2 := bkm.trans (But.of_same Sm)
      refine ⟨F2, us ++ [x, y, z], _, _, rfl, (hfm.same Sm).mono (by omega), bj.trans bj2, ((hfm.same Sm4).ne nF2).1, upd_same, ?_, fun v hv => ?_⟩
      · rw [List.length_append]
        show us.length + 3 ≤ _
        omega
      · rcases List.mem_append.mp hv with hv | hv
        · exact (gu v hv).but bj2 hfj
        · have top : (1000000010 : Int) + 1 + 1 ≤ MB := by decide +kernel
          have xx : GV (fun a => a ≠ f) _ 4 3000000 MB x := (GV.but bj2 hfj ⟨dx, hdx, gdx⟩).mono (by decide) (by decide) (by decide +kernel)
          have yy : GV (fun a => a ≠ f) _ 4 3000000 MB y := (GV.but (bm.trans (But.of_same Sm)) hfk ⟨dy, hdy, gdy⟩).mono (by decide) (by decide) (by decide +kernel)
          have zz : GV (fun a => a ≠ f) _ 4 3000000 MB z := (gz.same Sm).mono (by decide) (by decide) top
          exact gvs_cons xx (gvs_cons yy (gvs_cons zz gvs_nil)) v hv
    · rintro σ Hj ⟨F, us, v7, v8, rfl, hfj, bj, Ff, hF, lu, gu⟩
      have lu : us.length ≤ 100 + 15 * i + 3 * 5 := lu
      have hfj : Fd Hj f c (n + 3000 * i + 700 + 300 * 5) := hfj
      exact ⟨F, us, _, _, _, _, _, rfl, hfj.mono (by omega), B15.trans bj, Ff, hF, by omega, gu⟩
  clear hF lu gu g1 hf1 S1 nF Ff us F H1
  rintro σ H1 ⟨F, us, v4, v5, v6, v7, v8, rfl, hf1, B1, Ff, hF, lu, gu⟩
  have hf1 : Fd H1 f c (n + 9000) := hf1.mono (by show n + 3000 * ((3 : Nat) : Int) ≤ _; omega)
  have lu : us.length ≤ 145 := lu
  have hl1 := B1 _ _ lf hl
  refine ⟨_, rfl, f, c, 40, _, rfl, hf1, by omega, by decide, by decide, fun d H2 d0 d1 hf2 b2 _ => ?_⟩
  refine ⟨_, _, rfl, rfl, _, rfl, by omega, by omega, fun D hD => ?_⟩
  have hl2 := b2 _ _ lf hl1
  have lD := ne_of_none hl2 hD
  obtain ⟨s1, hs1⟩ : ∃ s1, xs[0]? = some s1 := ⟨_, List.getElem?_eq_getElem (by omega)⟩
  have n1 := nm _ (List.mem_of_getElem? hs1)
  refine lc_range (lo := 0) (n := (25 + d).toNat) (fun i H' => ∃ ts : List Addr, Same H2 H' ∧ H' D = some (.lst (ts.map V.ref)) ∧ Prd H' ts ((List.range i).map fun (k : Nat) => (s1, 5 * (k : Int), 5 * (k : Int) + 4))) ⟨[], same_new hD _, upd_same, .nil⟩ ?_ ?_
  · rintro i Hi hi ⟨ts, Si, hDi, hpi⟩
    have li := hpi.len
    rw [List.length_map, List.length_range] at li
    refine ⟨rfl, _, rfl, l, _, _, _, rfl, rfl, SqL.of (Si _ _ hl2), atI_nat (j := 0) (by rw [List.getElem?_map, hs1]; rfl), ?_⟩
    refine ⟨_, rfl, _, _, rfl, rfl, .inl ⟨by decide, by decide⟩, _, rfl, _, _, rfl, rfl, .inl ⟨by decide, by decide⟩, _, _, rfl, rfl, (show 3 ≤ sizeLine by decide), fun u nu => ?_⟩
    have Su := same_new nu (.tup [V.str s1, .int (5 * (0 + (i : Int))), .int (5 * (0 + (i : Int)) + 4)])
    refine ⟨_, Su _ _ hDi, ?_, ts ++ [u], same_mut (Si.trans Su) hD, ?_, ?_⟩
    · rw [List.length_map]
      exact Nat.lt_of_le_of_lt (show ts.length ≤ 100 by omega) (by decide)
    · rw [upd_same, List.map_append]
      rfl
    · rw [List.range_succ, List.map_append]
      have uD : u ≠ D := (ne_of_none hDi nu).symm
      refine Prd.app ?_ (Prd.one ?_)
      · refine Prd.keep (fun p0 hp0 o0 ho0 => ?_) (Prd.same Su hpi)
        obtain ⟨r0, _, e0⟩ := Prd.mem (Prd.same Su hpi) hp0
        rw [upd_ne (ne_of e0 (Su _ _ hDi) (fun z => nomatch z))]
        exact ho0
      · rw [upd_ne uD, upd_same, Int.zero_add]
        rfl
  rintro Hi ⟨ts, Si, hDi, hpi⟩
  refine ⟨D, _, rfl, .inl ⟨SqL.of hDi, fun T6 nT6 => ?_⟩⟩
  have S6 := same_new nT6 (.tup (ts.map V.ref))
  have hT6 : upd Hi T6 (.tup (ts.map V.ref)) T6 = some (.tup (ts.map V.ref)) := upd_same
  generalize upd Hi T6 (.tup (ts.map V.ref)) = H6 at hT6 S6 ⊢
  have S26 := Si.trans S6
  have hf6 := hf2.same S26
  have b16 := b2.trans (But.of_same S26)
  have BB : (1000000010 : Int) ≤ 10 ^ 40 := by decide +kernel
  have gl : GV (fun a => a ≠ f) H6 2 330000 1000000010 (.ref T6) := by
    refine prd_gv hT6 (Prd.same S6 hpi) (fun r hr => ?_) (by rw [List.length_map, List.length_range]; omega) (by decide) BB
    obtain ⟨k, hk, rfl⟩ := List.mem_map.mp hr
    have hk := List.mem_range.mp hk
    exact ⟨⟨by show 0 ≤ 5 * (k : Int); omega, by show 5 * (k : Int) < 5 * (k : Int) + 4; omega, by show 5 * (k : Int) + 4 ≤ 1000000000; omega⟩, n1⟩
  obtain ⟨dl, hdl, gdl⟩ := gl
  refine ⟨_, rfl, _, rfl, _, rfl, _, rfl, f, c, _, dl, _, 2, 330000, 1000000010, rfl, hf6, (show _ + 20 * (((4 : Nat) : Int) + 1) ≤ (800000 : Int) by omega), hdl, gdl, by decide, by decide, by decide, by decide, by decide +kernel, fun y Hk hfk bk gy => ?_⟩
  have hfk : Fd Hk f c (n + 9000 + 1 + 20 * (((4 : Nat) : Int) + 1)) := hfk
  refine ⟨(show 2 ≤ sizeLine by decide), fun l4 nl4 => ?_⟩
  have Sm4 := same_new nl4 (.lst [V.ref T6, y])
  refine ⟨F, l4, _, _, rfl, rfl, Sm4 _ _ ((b16.trans bk) _ _ Ff hF), upd_same, Nat.le_trans (show us.length + 2 ≤ 200 by omega) (by decide), fun F2 nF2 => ?_⟩
  have Sm5 := same_new nF2 (.lst (us ++ [V.ref T6, y]))
  have Sm := Sm4.trans Sm5
  refine q F2 (us ++ [V.ref T6, y]) _ ((hfk.same Sm).mono (by omega)) (B1.trans (b16.trans (bk.trans (But.of_same Sm)))) ((hfk.same Sm4).ne nF2).1 upd_same (by rw [List.length_append]; show us.length + 2 ≤ _; omega) fun v hv => ?_
  rcases List.mem_append.mp hv with hv | hv
  · exact (gu v hv).but (b16.trans (bk.trans (But.of_same Sm))) hf1
  · have xx : GV (fun a => a ≠ f) _ 4 3000000 MB (.ref T6) := (GV.but (bk.trans (But.of_same Sm)) hf6 ⟨dl, hdl, gdl⟩).mono (by decide) (by decide) (by decide +kernel)
    have yy : GV (fun a => a ≠ f) _ 4 3000000 MB y := (gy.same Sm).mono (by decide) (by decide) (by decide +kernel)
    exact gvs_cons xx (gvs_cons yy gvs_nil) v hv

theorem ok_law (F : Fun K "law" "law" s_law f_law d_law) (T : Txt mg f_is_number f_is_from_to f_is_word f_is_tuple_of f_is_note f_is_run f_is_runs f_is_apart f_lfeed f_ldraw f_lnames f_lat f_lrun f_llot f_lhas f_lmade f_lis_number f_lis_word f_lis_run f_lis_runs f_lis_note f_lodd f_lbent f_lmenu f_lthings f_law)
    (F_lfeed : Fun K "_law_feed" "_law_feed" s_lfeed f_lfeed d_lfeed) (b_lfeed : Binds K d_lfeed ["_law_script"] []) (G_lfeed : FnOk P w K mg base CX0 (9) f_lfeed d_lfeed ["_law_script"] (spFeed K))
    (F_lnames : Fun K "_law_names" "_law_names" s_lnames f_lnames d_lnames) (b_lnames : Binds K d_lnames ["_law_feed_here"] []) (G_lnames : FnOk P w K mg base CX0 (9) f_lnames d_lnames ["_law_feed_here"] spNames)
    (F_ldraw : Fun K "_law_draw" "_law_draw" s_ldraw f_ldraw d_ldraw) (b_ldraw : Binds K d_ldraw ["_law_feed_here", "_law_many"] []) (G_ldraw : FnOk P w K mg base CX0 (9) f_ldraw d_ldraw ["_law_feed_here", "_law_many"] spDraw)
    (F_lthings : Fun K "_law_things" "_law_things" s_lthings f_lthings d_lthings) (b_lthings : Binds K d_lthings ["_law_feed_here", "_law_names_here", "_law_wide"] []) (G_lthings : FnOk P w K mg base CX0 (9) f_lthings d_lthings ["_law_feed_here", "_law_names_here", "_law_wide"] spThings)
    (F_lis_note : Fun K "_law_is_note" "_law_is_note" s_lis_note f_lis_note d_lis_note) (b_lis_note : Binds K d_lis_note ["_law_thing"] []) (G_lis_note : FnOk P w K mg base CX0 (9) f_lis_note d_lis_note ["_law_thing"] (spKNote P_is_word))
    (F_lis_run : Fun K "_law_is_run" "_law_is_run" s_lis_run f_lis_run d_lis_run) (b_lis_run : Binds K d_lis_run ["_law_thing"] []) (G_lis_run : FnOk P w K mg base CX0 (9) f_lis_run d_lis_run ["_law_thing"] (spKRun P_is_word))
    (F_lis_runs : Fun K "_law_is_runs" "_law_is_runs" s_lis_runs f_lis_runs d_lis_runs) (b_lis_runs : Binds K d_lis_runs ["_law_thing"] []) (G_lis_runs : FnOk P w K mg base CX0 (9) f_lis_runs d_lis_runs ["_law_thing"] (spKRuns P_is_runs P_is_word))
    (F_is_note : Fun K "is_note" "is_note" s_is_note f_is_note d_is_note) (b_is_note : Binds K d_is_note ["thing"] []) (G_is_note : FnOk P w K mg base CX0 (9) f_is_note d_is_note ["thing"] (spKNote P_is_word))
    (F_is_run : Fun K "is_run" "is_run" s_is_run f_is_run d_is_run) (b_is_run : Binds K d_is_run ["thing"] []) (G_is_run : FnOk P w K mg base CX0 (9) f_is_run d_is_run ["thing"] (spKRun P_is_word))
    (F_is_runs : Fun K "is_runs" "is_runs" s_is_runs f_is_runs d_is_runs) (b_is_runs : Binds K d_is_runs ["thing"] []) (G_is_runs : FnOk P w K mg base CX0 (9) f_is_runs d_is_runs ["thing"] (spKRuns P_is_runs P_is_word)) :
    FnG P w K mg base 10 f_law d_law ["_law_script"] (spLawT K [P_is_runs, P_is_word]) := by
  refine okG F sc_law (fun vs H Q E h => ?_) (fun cdv A outer s H vs Q E hr hg h => ?_)

  · obtain ⟨a, ns, rfl, _⟩ := h
    rfl
  obtain ⟨a, ns, rfl, hs, ht, q⟩ := h
  have hP1 : H P_is_runs = some (TabO P_is_runs) := ht _ List.mem_cons_self
  have hP2 : H P_is_word = some (TabO P_is_word) := ht _ (List.mem_cons_of_mem _ List.mem_cons_self)
  refine ⟨_, (pss_cons (ps_set (i := 1) sc_law.nd rfl (.inl rfl) (pe_call G_lfeed hr (by rfl) T.m_lfeed F_lfeed.kp b_lfeed .nil pass0 (pa_cons (pv 0) pa_nil)))
  (pss_cons (ps_set (i := 2) sc_law.nd rfl (.inl rfl) (pe_call G_lnames hr (by rfl) T.m_lnames F_lnames.kp b_lnames .nil pass0 (pa_cons (pv 1) pa_nil)))
  (pss_cons (ps_set (i := 3) sc_law.nd rfl (.inl rfl) (pe_ix ix_list (pe_lst (pa_cons pe_int (pa_cons pe_int (pa_cons pe_int (pa_cons (pe_op op_pow pe_int pe_int) pa_nil))))) (pe_call G_ldraw hr (by rfl) T.m_ldraw F_ldraw.kp b_ldraw .nil pass0 (pa_cons (pv 1) (pa_cons pe_int pa_nil))) (fun _ _ => rfl)))
  (pss_cons (ps_for PassesOwn.never rfl (pi_list (pe_call G_lthings hr (by rfl) T.m_lthings F_lthings.kp b_lthings .nil pass0 (pa_cons (pv 1) (pa_cons (pv 2) (pa_cons (pv 3) pa_nil))))) (pg_name (i := 4) sc_law.nd rfl (.inl rfl))
  (pss_cons (ps_set (i := 5) sc_law.nd rfl (.inl rfl) (pe_callB (show CallR _ (.builtin "repr") (rReprD K) from cr_reprD hg hr) (by rfl) T.repr (by decide +kernel) (pa_cons (pv 4) pa_nil)))
  (pss_cons (ps_set (i := 6) sc_law.nd rfl (.inl rfl) (pe_lst (pa_cons (pe_call G_lis_note hr (by rfl) T.m_lis_note F_lis_note.kp b_lis_note .nil pass0 (pa_cons (pv 4) pa_nil)) (pa_cons (pe_call G_lis_run hr (by rfl) T.m_lis_run F_lis_run.kp b_lis_run .nil pass0 (pa_cons (pv 4) pa_nil)) (pa_cons (pe_call G_lis_runs hr (by rfl) T.m_lis_runs F_lis_runs.kp b_lis_runs .nil pass0 (pa_cons (pv 4) pa_nil)) pa_nil)))))
  (pss_cons (ps_for PassesOwn.never rfl (RZ.pi_zipA (by rfl) T.zip (pa_cons (pe_lst (pa_cons (pe_call G_is_note hr (by rfl) T.m_is_note F_is_note.kp b_is_note .nil pass0 (pa_cons (pv 4) pa_nil)) (pa_cons (pe_call G_is_run hr (by rfl) T.m_is_run F_is_run.kp b_is_run .nil pass0 (pa_cons (pv 4) pa_nil)) (pa_cons (pe_call G_is_runs hr (by rfl) T.m_is_runs F_is_runs.kp b_is_runs .nil pass0 (pa_cons (pv 4) pa_nil)) pa_nil)))) (pa_cons (pv 6) pa_nil))) (pg_tup rfl (pgs_cons (pg_name (i := 7) sc_law.nd rfl (.inl rfl)) (pgs_cons (pg_name (i := 8) sc_law.nd rfl (.inl rfl)) pgs_nil)))
  (pss_one (ps_if (PW.pt (pw_or (pt_not (pt_val (pe_callB call_isi (by rfl) T.isinstance (by decide +kernel) (pa_cons (pv 7) (pa_cons (pe_bltn (v := .ty "bool") (by rfl) T.bool (by decide +kernel) rfl) pa_nil))))) (pw_or1 (pt_cmpR op_ne (pv 7) (pv 8) (nomark _)))))
  (pss_one (ps_ret pe_bl))
  pss_nil)))
  (pss_one (ps_if (pt_cmpR op_ne (pe_callB (show CallR _ (.builtin "repr") (rReprD K) from cr_reprD hg hr) (by rfl) T.repr (by decide +kernel) (pa_cons (pv 4) pa_nil)) (pv 5) (nomark _))
  (pss_one (ps_ret pe_bl))
  pss_nil))))))
  (pss_one (ps_ret pe_bl)))))), ?_⟩
  have cp : CPow 10 6 := ⟨by decide, by decide, by decide⟩
  refine ⟨_, rfl, a, ns, rfl, hs, fun f c H1 nf S1 hf1 => ?_⟩
  refine ⟨_, rfl, f, c, 0, rfl, hf1, by decide, fun nl xs H2 hf2 b2 nlf nlc nl0 hnl xl nm => ?_⟩
  refine ⟨10, 6, rfl, rfl, cp, (show 4 ≤ sizeLine by decide), fun la nla => ?_⟩
  have S3 := same_new nla (.lst [V.int 8, .int 30, .int 300, .int (10 ^ (6 : Int).toNat)])
  have laf := (hf2.ne nla).1
  refine ⟨_, rfl, f, c, 4, _, rfl, hf2.same S3, by omega, by decide, by decide, fun d H4 d0 d1 hf4 b4 _ => ?_⟩
  have hla := b4 _ _ laf (show upd H2 la (.lst [V.int 8, .int 30, .int 300, .int (10 ^ (6 : Int).toNat)]) la = some _ from upd_same)
  obtain ⟨wv, wv1, wv2⟩ := atI_some (xs := [V.int 8, .int 30, .int 300, .int (10 ^ (6 : Int).toNat)]) d0 (show d < 4 from d1)
  obtain ⟨m, rfl, m0, m1⟩ : ∃ m : Int, wv = .int m ∧ 0 < m ∧ m ≤ 1000000 := by
    simp only [List.mem_cons, List.not_mem_nil, or_false] at wv2
    rcases wv2 with rfl | rfl | rfl | rfl
    · exact ⟨8, rfl, by decide, by decide⟩
    · exact ⟨30, rfl, by decide, by decide⟩
    · exact ⟨300, rfl, by decide, by decide⟩
    · exact ⟨10 ^ Int.toNat 6, rfl, by decide, by decide⟩
  have b24 := (But.of_same S3).trans b4
  refine ⟨la, _, _, _, rfl, rfl, SqL.of hla, wv1, ?_⟩
  refine ⟨_, rfl, _, rfl, _, rfl, f, c, nl, m, _, xs, rfl, hf4, by omega, m0, m1, b24 _ _ nlf hnl, nlf, xl, nm, fun t us H5 hf5 b5 tf htt lu gu => ?_⟩
  have hP1 := tab_but hf4 b5 (tab_but hf2 b24 (tab_but hf1 b2 (S1 _ _ hP1)))
  have hP2 := tab_but hf4 b5 (tab_but hf2 b24 (tab_but hf1 b2 (S1 _ _ hP2)))
  refine ⟨t, rfl, ⟨_, SqL.of htt⟩, ?_⟩
  refine for_list (K := K) (a := t) (xs := us) (fun i σ H' => ∃ (v4 v5 v6 v7 v8 : Option V), σ = [some (.ref a), some (.ref f), some (.ref nl), some (.int m), v4, v5, v6, v7, v8] ∧ Same H5 H') ⟨_, _, _, _, _, rfl, Same.refl _⟩ (fun i σ H' _ h => by obtain ⟨_, _, _, _, _, _, S⟩ := h; exact SqL.of (S _ _ htt)) ?_ ?_
  · rintro i x σ H6 hx ⟨v4, v5, v6, v7, v8, rfl, S6⟩
    obtain ⟨d, hd, fd, cd⟩ := gu x (List.mem_of_getElem? hx)
    have hd6 := hd.same S6
    have hP1 := S6 _ _ hP1
    have hP2 := S6 _ _ hP2
    have sm : Sm d := ⟨Nat.le_trans fd.dep (by decide), Nat.le_trans cd (by decide)⟩
    obtain ⟨s1, s2⟩ := fine_show _ fd.fine
    have s3 : d.depth ≤ 60 := Nat.le_trans fd.dep (by decide)
    have s4 : d.shown.length ≤ sizeLine := Nat.le_trans (shown_cost _ fd.fine) (Nat.le_trans cd (by decide))
    refine ⟨_, rfl, x, d, rfl, hd6.dp, s1, s2, s3, s4, ?_⟩
    refine ⟨_, rfl, x, d, _, rfl, hd6, sm, hP2, fun Ha Sa => ?_⟩
    refine ⟨_, rfl, x, d, _, rfl, hd6.same Sa, sm, Sa _ _ hP2, fun Hb Sb => ?_⟩
    have Tb := Sa.trans Sb
    refine ⟨_, rfl, x, d, _, rfl, hd6.same Tb, sm, Tb _ _ hP1, Tb _ _ hP2, fun Hc Sc => ?_⟩
    have Tc := Tb.trans Sc
    refine ⟨(show 3 ≤ sizeLine by decide), fun dl ndl => ?_⟩
    have Sd := same_new ndl (.lst [V.bl (noteD d), .bl (runD d), .bl (runsD d)])
    have hdl : upd Hc dl (.lst [V.bl (noteD d), .bl (runD d), .bl (runsD d)]) dl = some (.lst [V.bl (noteD d), .bl (runD d), .bl (runsD d)]) := upd_same
    generalize upd Hc dl (.lst [V.bl (noteD d), .bl (runD d), .bl (runsD d)]) = Hd at hdl Sd ⊢
    have Td := Tc.trans Sd
    refine ⟨_, rfl, x, d, _, rfl, hd6.same Td, sm, Td _ _ hP2, fun He Se => ?_⟩
    refine ⟨_, rfl, x, d, _, rfl, (hd6.same Td).same Se, sm, Se _ _ (Td _ _ hP2), fun Hf Sf => ?_⟩
    have Tf := Td.trans (Se.trans Sf)
    refine ⟨_, rfl, x, d, _, rfl, hd6.same Tf, sm, Tf _ _ hP1, Tf _ _ hP2, fun Hg Sg => ?_⟩
    refine ⟨(show 3 ≤ sizeLine by decide), fun zl nzl => ?_⟩
    have Sh := same_new nzl (.lst [V.bl (noteD d), .bl (runD d), .bl (runsD d)])
    have hzl : upd Hg zl (.lst [V.bl (noteD d), .bl (runD d), .bl (runsD d)]) zl = some (.lst [V.bl (noteD d), .bl (runD d), .bl (runsD d)]) := upd_same
    generalize upd Hg zl (.lst [V.bl (noteD d), .bl (runD d), .bl (runsD d)]) = Hh at hzl Sh ⊢
    have Tg := Se.trans (Sf.trans (Sg.trans Sh))
    have hdl := Tg _ _ hdl
    have Th := Td.trans Tg
    refine ⟨_, rfl, zl, dl, _, _, rfl, .inl ⟨SqL.of hzl, SqL.of hdl, ?_⟩⟩
    refine RZ.for_zipL (K := K) (a := zl) (b := dl) (xs := [V.bl (noteD d), .bl (runD d), .bl (runsD d)]) (ys := [V.bl (noteD d), .bl (runD d), .bl (runsD d)]) rfl (fun j σ H' => ∃ (v7 v8 : Option V), σ = [some (.ref a), some (.ref f), some (.ref nl), some (.int m), some x, some (.str d.shown), some (.ref dl), v7, v8] ∧ Same Hh H') ⟨_, _, rfl, Same.refl _⟩ (fun j σ H' h => by obtain ⟨_, _, _, S⟩ := h; exact ⟨SqL.of (S _ _ hzl), SqL.of (S _ _ hdl)⟩) ?_ ?_
    · rintro j y y2 T σ H7 hy hy2 ⟨v7, v8, rfl, S7⟩ nT
      rw [hy] at hy2
      cases hy2
      obtain ⟨b, rfl⟩ : ∃ b, y = .bl b := by
        have z := List.mem_of_getElem? hy
        simp only [List.mem_cons, List.not_mem_nil, or_false] at z
        rcases z with rfl | rfl | rfl <;> exact ⟨_, rfl⟩
      have ST := same_new nT (.tup [V.bl b, .bl b])
      refine ⟨T, _, rfl, SqT.of upd_same, rfl, _, _, rfl, _, _, rfl, rfl, ?_⟩
      refine ⟨_, rfl, _, _, _, _, _, rfl, .ty _, .base (.bl b), k_bool_bool, _, rfl, iteF ?_⟩
      have e1 : (!decide (V.bl b = V.bl b)) = false := by rw [decide_eq_true rfl]; rfl
      refine ⟨_, rfl, _, rfl, rfl, ?_⟩
      rw [e1]
      exact ⟨_, rfl, iteF ⟨_, _, rfl, S7.trans ST⟩⟩
    · rintro σ H7 ⟨v7, v8, rfl, S7⟩
      refine ⟨_, rfl, x, d, rfl, (hd6.same (Th.trans S7)).dp, s1, s2, s3, s4, _, rfl, rfl, ?_⟩
      have e1 : (!decide (V.str d.shown = V.str d.shown)) = false := by rw [decide_eq_true rfl]; rfl
      rw [e1]
      exact ⟨_, rfl, iteF ⟨_, _, _, _, _, rfl, S6.trans (Th.trans S7)⟩⟩
  · rintro σ H6 ⟨v4, v5, v6, v7, v8, rfl, S6⟩
    refine q _ fun t ht => ?_
    rcases List.mem_cons.mp ht with rfl | ht
    · exact S6 _ _ hP1
    · rw [List.mem_singleton.mp ht]
      exact S6 _ _ hP2

end
def e_is_number : He.DefD := ⟨("is_number", none), "is_number", "is_number", defArgs s_is_number, defBody s_is_number, defScope s_is_number, [], []⟩
def e_is_from_to : He.DefD := ⟨("is_from_to", none), "is_from_to", "is_from_to", defArgs s_is_from_to, defBody s_is_from_to, defScope s_is_from_to, [], []⟩
def e_is_word : He.DefD := ⟨("is_word", none), "is_word", "is_word", defArgs s_is_word, defBody s_is_word, defScope s_is_word, [], []⟩
def e_is_tuple_of : He.DefD := ⟨("is_tuple_of", none), "is_tuple_of", "is_tuple_of", defArgs s_is_tuple_of, defBody s_is_tuple_of, defScope s_is_tuple_of, [], []⟩
def e_is_note : He.DefD := ⟨("is_note", none), "is_note", "is_note", defArgs s_is_note, defBody s_is_note, defScope s_is_note, [], []⟩
def e_is_run : He.DefD := ⟨("is_run", none), "is_run", "is_run", defArgs s_is_run, defBody s_is_run, defScope s_is_run, [], []⟩
def e_is_runs : He.DefD := ⟨("is_runs", none), "is_runs", "is_runs", defArgs s_is_runs, defBody s_is_runs, defScope s_is_runs, [], []⟩
def e_is_apart : He.DefD := ⟨("is_apart", none), "is_apart", "is_apart", defArgs s_is_apart, defBody s_is_apart, defScope s_is_apart, [], []⟩
def e_lfeed : He.DefD := ⟨("_law_feed", none), "_law_feed", "_law_feed", defArgs s_lfeed, defBody s_lfeed, defScope s_lfeed, [], []⟩
def e_ldraw : He.DefD := ⟨("_law_draw", none), "_law_draw", "_law_draw", defArgs s_ldraw, defBody s_ldraw, defScope s_ldraw, [], []⟩
def e_lnames : He.DefD := ⟨("_law_names", none), "_law_names", "_law_names", defArgs s_lnames, defBody s_lnames, defScope s_lnames, [], []⟩
def e_lat : He.DefD := ⟨("_law_at", none), "_law_at", "_law_at", defArgs s_lat, defBody s_lat, defScope s_lat, [], []⟩
def e_lrun : He.DefD := ⟨("_law_run", none), "_law_run", "_law_run", defArgs s_lrun, defBody s_lrun, defScope s_lrun, [], []⟩
def e_llot : He.DefD := ⟨("_law_lot", none), "_law_lot", "_law_lot", defArgs s_llot, defBody s_llot, defScope s_llot, [], []⟩
def e_lhas : He.DefD := ⟨("_law_has", none), "_law_has", "_law_has", defArgs s_lhas, defBody s_lhas, defScope s_lhas, [], []⟩
def e_lmade : He.DefD := ⟨("_law_made", none), "_law_made", "_law_made", defArgs s_lmade, defBody s_lmade, defScope s_lmade, [], []⟩
def e_lis_number : He.DefD := ⟨("_law_is_number", none), "_law_is_number", "_law_is_number", defArgs s_lis_number, defBody s_lis_number, defScope s_lis_number, [], []⟩
def e_lis_word : He.DefD := ⟨("_law_is_word", none), "_law_is_word", "_law_is_word", defArgs s_lis_word, defBody s_lis_word, defScope s_lis_word, [], []⟩
def e_lis_run : He.DefD := ⟨("_law_is_run", none), "_law_is_run", "_law_is_run", defArgs s_lis_run, defBody s_lis_run, defScope s_lis_run, [], []⟩
def e_lis_runs : He.DefD := ⟨("_law_is_runs", none), "_law_is_runs", "_law_is_runs", defArgs s_lis_runs, defBody s_lis_runs, defScope s_lis_runs, [], []⟩
def e_lis_note : He.DefD := ⟨("_law_is_note", none), "_law_is_note", "_law_is_note", defArgs s_lis_note, defBody s_lis_note, defScope s_lis_note, [], []⟩
def e_lodd : He.DefD := ⟨("_law_odd", none), "_law_odd", "_law_odd", defArgs s_lodd, defBody s_lodd, defScope s_lodd, [], []⟩
def e_lbent : He.DefD := ⟨("_law_bent", none), "_law_bent", "_law_bent", defArgs s_lbent, defBody s_lbent, defScope s_lbent, [], []⟩
def e_lmenu : He.DefD := ⟨("_law_menu", none), "_law_menu", "_law_menu", defArgs s_lmenu, defBody s_lmenu, defScope s_lmenu, [], []⟩
def e_lthings : He.DefD := ⟨("_law_things", none), "_law_things", "_law_things", defArgs s_lthings, defBody s_lthings, defScope s_lthings, [], []⟩
def e_law : He.DefD := ⟨("law", none), "law", "law", defArgs s_law, defBody s_law, defScope s_law, [], []⟩
def fn : List He.DefD := [e_is_number, e_is_from_to, e_is_word, e_is_tuple_of, e_is_note, e_is_run, e_is_runs, e_is_apart, e_lfeed, e_ldraw, e_lnames, e_lat, e_lrun, e_llot, e_lhas, e_lmade, e_lis_number, e_lis_word, e_lis_run, e_lis_runs, e_lis_note, e_lodd, e_lbent, e_lmenu, e_lthings, e_law]
def fa : List He.Fa := [.glo "is_number", .glo "is_from_to", .glo "is_word", .glo "is_tuple_of", .glo "is_note", .glo "is_run", .glo "is_runs", .glo "is_apart", .glo "_law_feed", .glo "_law_draw", .glo "_law_names", .glo "_law_at", .glo "_law_run", .glo "_law_lot", .glo "_law_has", .glo "_law_made", .glo "_law_is_number", .glo "_law_is_word", .glo "_law_is_run", .glo "_law_is_runs", .glo "_law_is_note", .glo "_law_odd", .glo "_law_bent", .glo "_law_menu", .glo "_law_things", .glo "law", .free "len", .free "range", .free "sorted", .free "tuple", .free "list", .free "isinstance", .free "repr", .free "min", .free "max", .free "all", .free "any", .free "zip", .free "int", .free "bool", .free "str", .free "set", .int "NUMBERS" 1000000000]
abbrev R : PySem.W.OpenRow := PySem.W.OpenLaw.row PySem.Challenge.rw_pressnotes_k01_kinds_of_any_thing
def tf : List He.Defn := [("is_runs", none), ("is_word", none)]
def exB (K : PySem.W.Frag) : Bool := true
abbrev hk : PySem.W.Hook := He.hookX 6 fa fn [] tf exB
def ob (s : PySem.W.SharedT) : He.AlX := He.obsX 6 fa fn [] tf exB (HandSHeadRun.getT s)
theorem ob_eq (s : PySem.W.SharedT) : ob s = hk.obs s.abs := He.obsX_eq (HandSHeadRun.getT_eq s)
def loose : List Str := [("is_number" : PySem.Str), ("is_from_to" : PySem.Str), ("is_word" : PySem.Str), ("is_tuple_of" : PySem.Str), ("is_note" : PySem.Str), ("is_run" : PySem.Str), ("is_runs" : PySem.Str), ("is_apart" : PySem.Str), ("_law_feed" : PySem.Str), ("_law_draw" : PySem.Str), ("_law_names" : PySem.Str), ("_law_at" : PySem.Str), ("_law_run" : PySem.Str), ("_law_lot" : PySem.Str), ("_law_has" : PySem.Str), ("_law_made" : PySem.Str), ("_law_is_number" : PySem.Str), ("_law_is_word" : PySem.Str), ("_law_is_run" : PySem.Str), ("_law_is_runs" : PySem.Str), ("_law_is_note" : PySem.Str), ("_law_odd" : PySem.Str), ("_law_bent" : PySem.Str), ("_law_menu" : PySem.Str), ("_law_things" : PySem.Str), ("NUMBERS" : PySem.Str)]
theorem run (w : World) : HandSHeadRun.RunEq R (PySem.W.view R.prog [29]) hk ob 12000 [("is_number" : PySem.Str), ("is_from_to" : PySem.Str), ("is_word" : PySem.Str), ("is_tuple_of" : PySem.Str), ("is_note" : PySem.Str), ("is_run" : PySem.Str), ("is_runs" : PySem.Str), ("is_apart" : PySem.Str), ("_law_feed" : PySem.Str), ("_law_draw" : PySem.Str), ("_law_names" : PySem.Str), ("_law_at" : PySem.Str), ("_law_run" : PySem.Str), ("_law_lot" : PySem.Str), ("_law_has" : PySem.Str), ("_law_made" : PySem.Str), ("_law_is_number" : PySem.Str), ("_law_is_word" : PySem.Str), ("_law_is_run" : PySem.Str), ("_law_is_runs" : PySem.Str), ("_law_is_note" : PySem.Str), ("_law_odd" : PySem.Str), ("_law_bent" : PySem.Str), ("_law_menu" : PySem.Str), ("_law_things" : PySem.Str), ("NUMBERS" : PySem.Str)] w := by
  intro os
  kernel_rfl
theorem toFun {K : PySem.W.Frag} {x : Str} {st : Stmt} {f : Addr} {fd : FuncData} (F : FunD K x x (defArgs st) (defBody st) (defScope st) [] [] f fd) : Fun K x x st f fd := by
  obtain ⟨oc, od, dV, kV, doc, pm, an, cdv, ct, osl, e, lk, hcd, hd, hk⟩ := F.ex
  have z : dV = .none := by
    rcases hd with h | h
    · exact h.2
    · exact absurd rfl h.1
  subst z
  exact ⟨⟨oc, od, kV, doc, pm, an, cdv, ct, osl, e, lk, hcd⟩, F.kp⟩
theorem facts {w : World} {K : PySem.W.Frag} {h : Heap} {mg : Str → Option Value} {f : Addr} (X : K.In h) (G : h.Ns mainGlobals mg) (hfa : mg ("law" : Str) = some (.ref f)) (c : He.SaysD fa fn K) :
    ∃ fd : FuncData, (∀ (s : Shared) (v : Value), BindsTo s fd ⟨[v], []⟩ [("_law_script", v)]) ∧ ∀ base : Heap, K.In base → base.Ns mainGlobals mg → (∀ p ∈ tf.map (He.cT K), GxR.TabB base mg p.1 p.2) → FnG (PySem.Challenge.rw_pressnotes_k01_kinds_of_any_thing).prog w K mg base 10 f fd ["_law_script"] (spLawT K ((tf.map (He.cT K)).map (·.2))) := by
  obtain ⟨d_is_number, F0_is_number⟩ := c.def_ 0 (d := e_is_number) rfl
  have F_is_number := toFun (st := s_is_number) F0_is_number
  obtain ⟨d_is_from_to, F0_is_from_to⟩ := c.def_ 1 (d := e_is_from_to) rfl
  have F_is_from_to := toFun (st := s_is_from_to) F0_is_from_to
  obtain ⟨d_is_word, F0_is_word⟩ := c.def_ 2 (d := e_is_word) rfl
  have F_is_word := toFun (st := s_is_word) F0_is_word
  obtain ⟨d_is_tuple_of, F0_is_tuple_of⟩ := c.def_ 3 (d := e_is_tuple_of) rfl
  have F_is_tuple_of := toFun (st := s_is_tuple_of) F0_is_tuple_of
  obtain ⟨d_is_note, F0_is_note⟩ := c.def_ 4 (d := e_is_note) rfl
  have F_is_note := toFun (st := s_is_note) F0_is_note
  obtain ⟨d_is_run, F0_is_run⟩ := c.def_ 5 (d := e_is_run) rfl
  have F_is_run := toFun (st := s_is_run) F0_is_run
  obtain ⟨d_is_runs, F0_is_runs⟩ := c.def_ 6 (d := e_is_runs) rfl
  have F_is_runs := toFun (st := s_is_runs) F0_is_runs
  obtain ⟨d_is_apart, F0_is_apart⟩ := c.def_ 7 (d := e_is_apart) rfl
  have F_is_apart := toFun (st := s_is_apart) F0_is_apart
  obtain ⟨d_lfeed, F0_lfeed⟩ := c.def_ 8 (d := e_lfeed) rfl
  have F_lfeed := toFun (st := s_lfeed) F0_lfeed
  obtain ⟨d_ldraw, F0_ldraw⟩ := c.def_ 9 (d := e_ldraw) rfl
  have F_ldraw := toFun (st := s_ldraw) F0_ldraw
  obtain ⟨d_lnames, F0_lnames⟩ := c.def_ 10 (d := e_lnames) rfl
  have F_lnames := toFun (st := s_lnames) F0_lnames
  obtain ⟨d_lat, F0_lat⟩ := c.def_ 11 (d := e_lat) rfl
  have F_lat := toFun (st := s_lat) F0_lat
  obtain ⟨d_lrun, F0_lrun⟩ := c.def_ 12 (d := e_lrun) rfl
  have F_lrun := toFun (st := s_lrun) F0_lrun
  obtain ⟨d_llot, F0_llot⟩ := c.def_ 13 (d := e_llot) rfl
  have F_llot := toFun (st := s_llot) F0_llot
  obtain ⟨d_lhas, F0_lhas⟩ := c.def_ 14 (d := e_lhas) rfl
  have F_lhas := toFun (st := s_lhas) F0_lhas
  obtain ⟨d_lmade, F0_lmade⟩ := c.def_ 15 (d := e_lmade) rfl
  have F_lmade := toFun (st := s_lmade) F0_lmade
  obtain ⟨d_lis_number, F0_lis_number⟩ := c.def_ 16 (d := e_lis_number) rfl
  have F_lis_number := toFun (st := s_lis_number) F0_lis_number
  obtain ⟨d_lis_word, F0_lis_word⟩ := c.def_ 17 (d := e_lis_word) rfl
  have F_lis_word := toFun (st := s_lis_word) F0_lis_word
  obtain ⟨d_lis_run, F0_lis_run⟩ := c.def_ 18 (d := e_lis_run) rfl
  have F_lis_run := toFun (st := s_lis_run) F0_lis_run
  obtain ⟨d_lis_runs, F0_lis_runs⟩ := c.def_ 19 (d := e_lis_runs) rfl
  have F_lis_runs := toFun (st := s_lis_runs) F0_lis_runs
  obtain ⟨d_lis_note, F0_lis_note⟩ := c.def_ 20 (d := e_lis_note) rfl
  have F_lis_note := toFun (st := s_lis_note) F0_lis_note
  obtain ⟨d_lodd, F0_lodd⟩ := c.def_ 21 (d := e_lodd) rfl
  have F_lodd := toFun (st := s_lodd) F0_lodd
  obtain ⟨d_lbent, F0_lbent⟩ := c.def_ 22 (d := e_lbent) rfl
  have F_lbent := toFun (st := s_lbent) F0_lbent
  obtain ⟨d_lmenu, F0_lmenu⟩ := c.def_ 23 (d := e_lmenu) rfl
  have F_lmenu := toFun (st := s_lmenu) F0_lmenu
  obtain ⟨d_lthings, F0_lthings⟩ := c.def_ 24 (d := e_lthings) rfl
  have F_lthings := toFun (st := s_lthings) F0_lthings
  obtain ⟨d_law, F0_law⟩ := c.def_ 25 (d := e_law) rfl
  have F_law := toFun (st := s_law) F0_law
  have T : Txt mg _ _ _ _ _ _ _ _ _ _ _ _ _ _ _ _ _ _ _ _ _ _ _ _ _ _ := ⟨He.glo_ok X G (c.fact 0 (f := .glo "is_number") rfl), He.glo_ok X G (c.fact 1 (f := .glo "is_from_to") rfl), He.glo_ok X G (c.fact 2 (f := .glo "is_word") rfl), He.glo_ok X G (c.fact 3 (f := .glo "is_tuple_of") rfl), He.glo_ok X G (c.fact 4 (f := .glo "is_note") rfl), He.glo_ok X G (c.fact 5 (f := .glo "is_run") rfl), He.glo_ok X G (c.fact 6 (f := .glo "is_runs") rfl), He.glo_ok X G (c.fact 7 (f := .glo "is_apart") rfl), He.glo_ok X G (c.fact 8 (f := .glo "_law_feed") rfl), He.glo_ok X G (c.fact 9 (f := .glo "_law_draw") rfl), He.glo_ok X G (c.fact 10 (f := .glo "_law_names") rfl), He.glo_ok X G (c.fact 11 (f := .glo "_law_at") rfl), He.glo_ok X G (c.fact 12 (f := .glo "_law_run") rfl), He.glo_ok X G (c.fact 13 (f := .glo "_law_lot") rfl), He.glo_ok X G (c.fact 14 (f := .glo "_law_has") rfl), He.glo_ok X G (c.fact 15 (f := .glo "_law_made") rfl), He.glo_ok X G (c.fact 16 (f := .glo "_law_is_number") rfl), He.glo_ok X G (c.fact 17 (f := .glo "_law_is_word") rfl), He.glo_ok X G (c.fact 18 (f := .glo "_law_is_run") rfl), He.glo_ok X G (c.fact 19 (f := .glo "_law_is_runs") rfl), He.glo_ok X G (c.fact 20 (f := .glo "_law_is_note") rfl), He.glo_ok X G (c.fact 21 (f := .glo "_law_odd") rfl), He.glo_ok X G (c.fact 22 (f := .glo "_law_bent") rfl), He.glo_ok X G (c.fact 23 (f := .glo "_law_menu") rfl), He.glo_ok X G (c.fact 24 (f := .glo "_law_things") rfl), He.glo_ok X G (c.fact 25 (f := .glo "law") rfl), He.free_ok X G (c.fact 26 (f := .free "len") rfl), He.free_ok X G (c.fact 27 (f := .free "range") rfl), He.free_ok X G (c.fact 28 (f := .free "sorted") rfl), He.free_ok X G (c.fact 29 (f := .free "tuple") rfl), He.free_ok X G (c.fact 30 (f := .free "list") rfl), He.free_ok X G (c.fact 31 (f := .free "isinstance") rfl), He.free_ok X G (c.fact 32 (f := .free "repr") rfl), He.free_ok X G (c.fact 33 (f := .free "min") rfl), He.free_ok X G (c.fact 34 (f := .free "max") rfl), He.free_ok X G (c.fact 35 (f := .free "all") rfl), He.free_ok X G (c.fact 36 (f := .free "any") rfl), He.free_ok X G (c.fact 37 (f := .free "zip") rfl), He.free_ok X G (c.fact 38 (f := .free "int") rfl), He.free_ok X G (c.fact 39 (f := .free "bool") rfl), He.free_ok X G (c.fact 40 (f := .free "str") rfl), He.free_ok X G (c.fact 41 (f := .free "set") rfl), He.int_ok X G (c.fact 42 (f := .int "NUMBERS" 1000000000) rfl)⟩
  have el := hfa.symm.trans T.m_law
  cases el
  have b_is_number := F_is_number.binds (ps := ["thing"]) fun _ _ _ _ _ _ us hl => match us, hl with | [_], _ => rfl
  have b_is_from_to := F_is_from_to.binds (ps := ["thing", "least", "most"]) fun _ _ _ _ _ _ us hl => match us, hl with | [_, _, _], _ => rfl
  have b_is_word := F_is_word.binds (ps := ["thing"]) fun _ _ _ _ _ _ us hl => match us, hl with | [_], _ => rfl
  have b_is_tuple_of := F_is_tuple_of.binds (ps := ["thing", "many"]) fun _ _ _ _ _ _ us hl => match us, hl with | [_, _], _ => rfl
  have b_is_note := F_is_note.binds (ps := ["thing"]) fun _ _ _ _ _ _ us hl => match us, hl with | [_], _ => rfl
  have b_is_run := F_is_run.binds (ps := ["thing"]) fun _ _ _ _ _ _ us hl => match us, hl with | [_], _ => rfl
  have b_is_runs := F_is_runs.binds (ps := ["thing"]) fun _ _ _ _ _ _ us hl => match us, hl with | [_], _ => rfl
  have b_is_apart := F_is_apart.binds (ps := ["run", "later"]) fun _ _ _ _ _ _ us hl => match us, hl with | [_, _], _ => rfl
  have b_lfeed := F_lfeed.binds (ps := ["_law_script"]) fun _ _ _ _ _ _ us hl => match us, hl with | [_], _ => rfl
  have b_ldraw := F_ldraw.binds (ps := ["_law_feed_here", "_law_many"]) fun _ _ _ _ _ _ us hl => match us, hl with | [_, _], _ => rfl
  have b_lnames := F_lnames.binds (ps := ["_law_feed_here"]) fun _ _ _ _ _ _ us hl => match us, hl with | [_], _ => rfl
  have b_lat := F_lat.binds (ps := ["_law_feed_here", "_law_wide"]) fun _ _ _ _ _ _ us hl => match us, hl with | [_, _], _ => rfl
  have b_lrun := F_lrun.binds (ps := ["_law_feed_here", "_law_names_here", "_law_wide"]) fun _ _ _ _ _ _ us hl => match us, hl with | [_, _, _], _ => rfl
  have b_llot := F_llot.binds (ps := ["_law_feed_here", "_law_names_here", "_law_wide", "_law_most"]) fun _ _ _ _ _ _ us hl => match us, hl with | [_, _, _, _], _ => rfl
  have b_lhas := F_lhas.binds (ps := ["_law_runs", "_law_series", "_law_number"]) fun _ _ _ _ _ _ us hl => match us, hl with | [_, _, _], _ => rfl
  have b_lmade := F_lmade.binds (ps := ["_law_lots", "_law_rule"]) fun _ _ _ _ _ _ us hl => match us, hl with | [_, _], _ => rfl
  have b_lis_number := F_lis_number.binds (ps := ["_law_thing", "_law_least", "_law_most"]) fun _ _ _ _ _ _ us hl => match us, hl with | [_, _, _], _ => rfl
  have b_lis_word := F_lis_word.binds (ps := ["_law_thing"]) fun _ _ _ _ _ _ us hl => match us, hl with | [_], _ => rfl
  have b_lis_run := F_lis_run.binds (ps := ["_law_thing"]) fun _ _ _ _ _ _ us hl => match us, hl with | [_], _ => rfl
  have b_lis_runs := F_lis_runs.binds (ps := ["_law_thing"]) fun _ _ _ _ _ _ us hl => match us, hl with | [_], _ => rfl
  have b_lis_note := F_lis_note.binds (ps := ["_law_thing"]) fun _ _ _ _ _ _ us hl => match us, hl with | [_], _ => rfl
  have b_lodd := F_lodd.binds (ps := ["_law_feed_here", "_law_thing"]) fun _ _ _ _ _ _ us hl => match us, hl with | [_, _], _ => rfl
  have b_lbent := F_lbent.binds (ps := ["_law_feed_here", "_law_thing"]) fun _ _ _ _ _ _ us hl => match us, hl with | [_, _], _ => rfl
  have b_lmenu := F_lmenu.binds (ps := []) fun _ _ _ _ _ _ us hl => match us, hl with | [], _ => rfl
  have b_lthings := F_lthings.binds (ps := ["_law_feed_here", "_law_names_here", "_law_wide"]) fun _ _ _ _ _ _ us hl => match us, hl with | [_, _, _], _ => rfl
  have b_law := F_law.binds (ps := ["_law_script"]) fun _ _ _ _ _ _ us hl => match us, hl with | [_], _ => rfl
  refine ⟨d_law, fun s v => FunD.bindsA (ps := ["_law_script"]) F0_law (fun _ _ _ _ _ _ us hl => match us, hl with | [_], _ => rfl) s [v] rfl, fun base _ _ TBs => ?_⟩
  have hc_is_runs := code_of (p := ("is_runs", none)) F0_is_runs
  have TB_is_runs := TBs (He.cT K ("is_runs", none)) (List.mem_map.mpr ⟨_, by simp [tf], rfl⟩)
  have hc_is_word := code_of (p := ("is_word", none)) F0_is_word
  have TB_is_word := TBs (He.cT K ("is_word", none)) (List.mem_map.mpr ⟨_, by simp [tf], rfl⟩)
  have G_ldraw : FnOk (PySem.Challenge.rw_pressnotes_k01_kinds_of_any_thing).prog w K mg base CX0 1 _ _ _ _ := ok_ldraw F_ldraw T
  have G_lfeed : FnOk (PySem.Challenge.rw_pressnotes_k01_kinds_of_any_thing).prog w K mg base CX0 1 _ _ _ _ := ok_lfeed F_lfeed T
  have G_lnames : FnOk (PySem.Challenge.rw_pressnotes_k01_kinds_of_any_thing).prog w K mg base CX0 2 _ _ _ _ := ok_lnames F_lnames T F_ldraw b_ldraw G_ldraw
  have G_lat : FnOk (PySem.Challenge.rw_pressnotes_k01_kinds_of_any_thing).prog w K mg base CX0 2 _ _ _ _ := ok_lat F_lat T F_ldraw b_ldraw G_ldraw
  have G_lrun : FnOk (PySem.Challenge.rw_pressnotes_k01_kinds_of_any_thing).prog w K mg base CX0 3 _ _ _ _ := ok_lrun F_lrun T F_ldraw b_ldraw (G_ldraw.mono (by decide)) F_lat b_lat G_lat
  have G_llot : FnOk (PySem.Challenge.rw_pressnotes_k01_kinds_of_any_thing).prog w K mg base CX0 4 _ _ _ _ := ok_llot F_llot T F_ldraw b_ldraw (G_ldraw.mono (by decide)) F_lrun b_lrun G_lrun
  have G_lhas : FnOk (PySem.Challenge.rw_pressnotes_k01_kinds_of_any_thing).prog w K mg base CX0 1 _ _ _ _ := ok_lhas F_lhas T
  have G_lmade : FnOk (PySem.Challenge.rw_pressnotes_k01_kinds_of_any_thing).prog w K mg base CX0 2 _ _ _ _ := ok_lmade F_lmade T F_lhas b_lhas G_lhas
  have G_is_apart : FnOk (PySem.Challenge.rw_pressnotes_k01_kinds_of_any_thing).prog w K mg base CX0 1 _ _ _ _ := ok_is_apart F_is_apart T
  have G_is_number : FnOk (PySem.Challenge.rw_pressnotes_k01_kinds_of_any_thing).prog w K mg base CX0 1 _ _ _ _ := ok_is_number F_is_number T
  have G_is_from_to : FnOk (PySem.Challenge.rw_pressnotes_k01_kinds_of_any_thing).prog w K mg base CX0 2 _ _ _ _ := ok_is_from_to F_is_from_to T F_is_number b_is_number G_is_number
  have G_is_word : FnOk (PySem.Challenge.rw_pressnotes_k01_kinds_of_any_thing).prog w K mg base CX0 2 _ _ _ _ := ok_is_word F_is_word T  hc_is_word TB_is_word
  have G_is_tuple_of : FnOk (PySem.Challenge.rw_pressnotes_k01_kinds_of_any_thing).prog w K mg base CX0 1 _ _ _ _ := ok_is_tuple_of F_is_tuple_of T
  have G_is_note : FnOk (PySem.Challenge.rw_pressnotes_k01_kinds_of_any_thing).prog w K mg base CX0 4 _ _ _ _ := ok_is_note F_is_note T F_is_tuple_of b_is_tuple_of (G_is_tuple_of.mono (by decide)) F_is_word b_is_word (G_is_word.mono (by decide)) F_is_from_to b_is_from_to (G_is_from_to.mono (by decide))
  have G_is_run : FnOk (PySem.Challenge.rw_pressnotes_k01_kinds_of_any_thing).prog w K mg base CX0 4 _ _ _ _ := ok_is_run F_is_run T F_is_tuple_of b_is_tuple_of (G_is_tuple_of.mono (by decide)) F_is_word b_is_word (G_is_word.mono (by decide)) F_is_from_to b_is_from_to (G_is_from_to.mono (by decide))
  have G_is_runs : FnOk (PySem.Challenge.rw_pressnotes_k01_kinds_of_any_thing).prog w K mg base CX0 6 _ _ _ _ := ok_is_runs F_is_runs T F_is_run b_is_run G_is_run F_is_apart b_is_apart (G_is_apart.mono (by decide)) hc_is_runs TB_is_runs
  have G_lis_number : FnOk (PySem.Challenge.rw_pressnotes_k01_kinds_of_any_thing).prog w K mg base CX0 1 _ _ _ _ := ok_lis_number F_lis_number T
  have G_lis_word : ∀ P : Addr, FnOk (PySem.Challenge.rw_pressnotes_k01_kinds_of_any_thing).prog w K mg base CX0 1 _ _ _ (spKWord P) := fun (P : Addr) => ok_lis_word (P_is_word := P) F_lis_word T
  have G_lis_note : ∀ P : Addr, FnOk (PySem.Challenge.rw_pressnotes_k01_kinds_of_any_thing).prog w K mg base CX0 2 _ _ _ (spKNote P) := fun (P : Addr) => ok_lis_note (P_is_word := P) F_lis_note T F_lis_word b_lis_word (G_lis_word P) F_lis_number b_lis_number G_lis_number
  have G_lis_run : ∀ P : Addr, FnOk (PySem.Challenge.rw_pressnotes_k01_kinds_of_any_thing).prog w K mg base CX0 2 _ _ _ (spKRun P) := fun (P : Addr) => ok_lis_run (P_is_word := P) F_lis_run T F_lis_word b_lis_word (G_lis_word P) F_lis_number b_lis_number G_lis_number
  have G_lis_runs : ∀ P R : Addr, FnOk (PySem.Challenge.rw_pressnotes_k01_kinds_of_any_thing).prog w K mg base CX0 3 _ _ _ (spKRuns R P) := fun (P R : Addr) => ok_lis_runs (P_is_word := P) (P_is_runs := R) F_lis_runs T F_lis_run b_lis_run (G_lis_run P)
  have G_lodd : FnOk (PySem.Challenge.rw_pressnotes_k01_kinds_of_any_thing).prog w K mg base CX0 2 _ _ _ _ := ok_lodd F_lodd T F_ldraw b_ldraw G_ldraw
  have G_lmenu : FnOk (PySem.Challenge.rw_pressnotes_k01_kinds_of_any_thing).prog w K mg base CX0 1 _ _ _ _ := ok_lmenu F_lmenu T
  have A1 : FnOk (PySem.Challenge.rw_pressnotes_k01_kinds_of_any_thing).prog w K mg base CX0 3 _ _ _ (spBentK 1) := ok_lbent F_lbent T F_ldraw b_ldraw (G_ldraw.mono (by decide)) F_lodd b_lodd (G_lodd.mono (by decide)) F_lbent b_lbent bent_none
  have A2 : FnOk (PySem.Challenge.rw_pressnotes_k01_kinds_of_any_thing).prog w K mg base CX0 4 _ _ _ (spBentK 2) := ok_lbent F_lbent T F_ldraw b_ldraw (G_ldraw.mono (by decide)) F_lodd b_lodd (G_lodd.mono (by decide)) F_lbent b_lbent A1
  have A3 : FnOk (PySem.Challenge.rw_pressnotes_k01_kinds_of_any_thing).prog w K mg base CX0 5 _ _ _ (spBentK 3) := ok_lbent F_lbent T F_ldraw b_ldraw (G_ldraw.mono (by decide)) F_lodd b_lodd (G_lodd.mono (by decide)) F_lbent b_lbent A2
  have A4 : FnOk (PySem.Challenge.rw_pressnotes_k01_kinds_of_any_thing).prog w K mg base CX0 6 _ _ _ (spBentK 4) := ok_lbent F_lbent T F_ldraw b_ldraw (G_ldraw.mono (by decide)) F_lodd b_lodd (G_lodd.mono (by decide)) F_lbent b_lbent A3
  have A5 : FnOk (PySem.Challenge.rw_pressnotes_k01_kinds_of_any_thing).prog w K mg base CX0 7 _ _ _ (spBentK 5) := ok_lbent F_lbent T F_ldraw b_ldraw (G_ldraw.mono (by decide)) F_lodd b_lodd (G_lodd.mono (by decide)) F_lbent b_lbent A4
  have G_lthings : FnOk (PySem.Challenge.rw_pressnotes_k01_kinds_of_any_thing).prog w K mg base CX0 9 _ _ _ _ := ok_lthings F_lthings T F_ldraw b_ldraw (G_ldraw.mono (by decide)) F_lmenu b_lmenu (G_lmenu.mono (by decide)) F_llot b_llot (G_llot.mono (by decide)) F_lat b_lat (G_lat.mono (by decide)) F_lrun b_lrun (G_lrun.mono (by decide)) F_lmade b_lmade (G_lmade.mono (by decide)) F_lbent b_lbent (A5.mono (by decide))
  exact ok_law F_law T F_lfeed b_lfeed (G_lfeed.mono (by decide)) F_lnames b_lnames (G_lnames.mono (by decide)) F_ldraw b_ldraw (G_ldraw.mono (by decide)) F_lthings b_lthings (G_lthings.mono (by decide)) F_lis_note b_lis_note ((G_lis_note _).mono (by decide)) F_lis_run b_lis_run ((G_lis_run _).mono (by decide)) F_lis_runs b_lis_runs ((G_lis_runs _ _).mono (by decide)) F_is_note b_is_note (G_is_note.mono (by decide)) F_is_run b_is_run (G_is_run.mono (by decide)) F_is_runs b_is_runs (G_is_runs.mono (by decide))

end Pn
open PySem PySem.W PySem.Calls PyProof.Rows
set_option maxRecDepth 100000 in
set_option maxHeartbeats 0 in
theorem PySem.Challenge.cw_pressnotes_k01_kinds_of_any_thing_holds : PySem.Challenge.rw_pressnotes_k01_kinds_of_any_thing.Holds := by
  w_on; o_law
  refine HandSHeadRun.head_any (r := OpenLaw.row PySem.Challenge.rw_pressnotes_k01_kinds_of_any_thing) (q := view (OpenLaw.row PySem.Challenge.rw_pressnotes_k01_kinds_of_any_thing).prog [29]) (H := Pn.hk) (ob := Pn.ob) (M := 12000) (loose := [("is_number" : PySem.Str), ("is_from_to" : PySem.Str), ("is_word" : PySem.Str), ("is_tuple_of" : PySem.Str), ("is_note" : PySem.Str), ("is_run" : PySem.Str), ("is_runs" : PySem.Str), ("is_apart" : PySem.Str), ("_law_feed" : PySem.Str), ("_law_draw" : PySem.Str), ("_law_names" : PySem.Str), ("_law_at" : PySem.Str), ("_law_run" : PySem.Str), ("_law_lot" : PySem.Str), ("_law_has" : PySem.Str), ("_law_made" : PySem.Str), ("_law_is_number" : PySem.Str), ("_law_is_word" : PySem.Str), ("_law_is_run" : PySem.Str), ("_law_is_runs" : PySem.Str), ("_law_is_note" : PySem.Str), ("_law_odd" : PySem.Str), ("_law_bent" : PySem.Str), ("_law_menu" : PySem.Str), ("_law_things" : PySem.Str), ("NUMBERS" : PySem.Str)]) (d := HandSHeadRun.topDef (OpenLaw.row PySem.Challenge.rw_pressnotes_k01_kinds_of_any_thing).prog 29) (kwd := []) Pn.ob_eq
    (by kernel_rfl) (fun s => by kernel_rfl) Pn.run (by kernel_rfl) (by kernel_rfl) (by kernel_rfl) (by rfl) (by first | assumption | decide +kernel) (by decide +kernel) ⟨rfl, rfl, rfl, rfl, rfl, by decide +kernel⟩ ?hw ?hc
  case hw => w_witness2
  case hc =>
    refine Pn.walkGT (l := PySem.Challenge.rw_pressnotes_k01_kinds_of_any_thing) (n := 63) (k := 10) (x := "_law_script") (sp := Pn.spLawT) rfl (by decide) (by kernel_rfl) ⟨rfl, by decide, by decide⟩ ?F (fun K ts H a ns hl sq tt => ⟨a, ns, rfl, sq, tt, fun _ h => ⟨rfl, h⟩⟩)
    intro w mg fa h Y G hmg0
    obtain ⟨K, KX, c⟩ := Y
    have hmg : mg ("law" : PySem.Str) = some (.ref fa) := by
      have e : (HandSHeadRun.topDef (OpenLaw.row PySem.Challenge.rw_pressnotes_k01_kinds_of_any_thing).prog 29).name = ("law" : PySem.Str) := by kernel_rfl
      rw [← e]
      exact hmg0
    obtain ⟨fd, hb, hF⟩ := Pn.facts (w := w) KX G hmg c.t.d 
    refine ⟨K, fd, Pn.tf.map (He.cT K), KX, fun p hp => ?_, fun p hp => ?_, fun p hp => ?_, hb, hF⟩
    · obtain ⟨d, hd, rfl⟩ := List.mem_map.mp hp
      exact c.empty d hd
    · obtain ⟨d, hd, rfl⟩ := List.mem_map.mp hp
      exact c.out d hd
    · obtain ⟨d, hd, rfl⟩ := List.mem_map.mp hp
      exact PySem.W.codeHd_of_K KX (c.hd d hd)
