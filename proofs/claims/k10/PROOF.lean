import PyProof.Rows.All
import Wide.All
import OpenK.AllK
import Wide.FinOn
import HandS.ForMost
import HandS.Strs
import HandS.Sort
import HandS.SortInts
import HandS.IsInst
import HandS.Zip
import HandS.Deep
import HandS.TupLe
import HandS.TupAny
import HandS.Style
import HandS.Walk
import HandS.EndBits
import KE.SortData
import HandS.More
import HandS.Codes
import HandS.Set
import HandS.SetFor
import KE.DataCmp
import KE.DataEq
import HandS.ExcInit
import HandS.ExcField
import HandS.ExcOwn
import HandS.WordsExc
import KE.KExcIs
import HandS.HeadHook1
import HandS.Small
import PyProof.GenQ
import PyProof.CodeObjX
import PyProof.ConsumeS
import HandS.GenOver
import HandS.AnyAll
import KE.KNest
import HandS.Defaults
import HandS.HeadHook2
import HandS.HeadHook3
import HandS.HeadHook4
import KE.KNestM
import HandS.Wide
import HandS.NoneIn
import HandS.Conv
import KE.KStateDown
import Lean
import HandS.Head0
import HandS.Head1
import HandS.Head2
import HandS.HeadEnd
import PySem.Challenge.RW_pressnotes_k10_whole_printing_each_once
set_option Elab.async false
set_option linter.all false
set_option maxRecDepth 100000
set_option maxHeartbeats 4000000
namespace Pn
open PySem PySem.Spec PyProof.Rows L2
/-! ### Rules of our own: text times int, sorted of data, repr of data -/
theorem op_repS {X : Cx} : OpR X (binaryOp .Mult) (fun x y H Q => ∃ (z : Str) (n : Int), x = .str z ∧ y = .int n ∧ MulOk z n ∧ Q (.str (Txt.mul z n)) H) := by
  intro pins s σ H x y v u Q I rx ry h
  obtain ⟨z, n, rfl, rfl, ok, q⟩ := h
  obtain ⟨t, rfl⟩ := rx
  obtain ⟨t2, rfl⟩ := ry
  exact SB.mul ok fun t3 k => ⟨.str _, H, I.tok _, ⟨_, rfl⟩, q⟩
section
variable {X : Cx} {pins : List (Addr × Obj)} {σ : L2.St} {H : Hp} {s : Shared}
theorem each_rel : ∀ {ys : List V} {ds : List PyData} {us : List Value}, DpAll X.K H ys ds → Vals ys us → PySem.W.EachIs (fun (v : Value) (b : V × PyData) => RelV b.1 v) us (ys.zip ds)
  | _, _, _, .nil, .nil => .nil
  | _, _, _, .cons _ d, .cons r t => .cons r (each_rel d t)
theorem each_reads (I : Inv X pins σ H s) : ∀ {ys : List V} {ds : List PyData} {us : List Value}, DpAll X.K H ys ds → Vals ys us →
    PySem.W.EachIs (fun (v : Value) (b : V × PyData) => ∃ as, Reads s.heap v b.2 as) us (ys.zip ds)
  | _, _, _, .nil, .nil => .nil
  | _, _, _, .cons d1 d, .cons r t => .cons (Dp.reads I _ _ _ d1 r) (each_reads I d t)
theorem zip_snd : ∀ {ys : List V} {ds : List PyData}, DpAll X.K H ys ds → (ys.zip ds).map Prod.snd = ds
  | _, _, .nil => rfl
  | _, _, .cons _ d => by rw [List.zip_cons_cons, List.map_cons, zip_snd d]
theorem zip_len : ∀ {ys : List V} {ds : List PyData}, DpAll X.K H ys ds → (ys.zip ds).length = ys.length
  | _, _, .nil => rfl
  | _, _, .cons _ d => by rw [List.zip_cons_cons, List.length_cons, List.length_cons, zip_len d]
theorem vals_each : ∀ {bs : List (V × PyData)} {out : List Value}, PySem.W.EachIs (fun (v : Value) (b : V × PyData) => RelV b.1 v) out bs → Vals (bs.map Prod.fst) out
  | _, _, .nil => .nil
  | _, _, .cons r t => .cons r (vals_each t)
end
/-- what sorted makes of the values ys that read as the data ds -/
def sortD (ys : List V) (ds : List PyData) : List V := ((ys.zip ds).mergeSort (PySem.W.dataLe false Prod.snd)).map Prod.fst
def rSortedD (K : PySem.W.Frag) : List V → Hp → VK → Prop := fun xs H Q => ∃ (a : Addr) (ys : List V) (ds : List PyData), xs = [.ref a] ∧ SqL K H a ys ∧ DpAll K H ys ds ∧
  PySem.W.AllAlike ds ∧ PySem.W.Sortable ds ∧ (∀ d ∈ ds, d.depth ≤ 60) ∧ ∀ p, H p = none → Q (.ref p) (upd H p (.lst (sortD ys ds)))
theorem cr_sortedD {X : Cx} {k : Nat} (hr : Room k X.A) : CallR X (.builtin "sorted") (rSortedD X.K) := by
  intro pins s σ H vs us Q I r h
  obtain ⟨a, ys, ds, rfl, hs, hd, h1, h2, h3, q⟩ := h
  obtain ⟨its, rv, hl, hz⟩ := I.list hs
  rw [Vals.ref1 r]
  have un := hr.un
  refine PySem.W.sorted_data (enc := Prod.snd) (R := fun (v : Value) (b : V × PyData) => RelV b.1 v) (bs := ys.zip ds) hl.isList (each_rel hd rv) (each_reads I hd rv) (by rw [zip_snd hd]; exact h1) (by rw [zip_snd hd]; exact h2) (by rw [zip_len hd]; exact hz)
    (fun b hb => ?_) (fun out ho he => ?_)
  · have z := h3 b.2 (by rw [← zip_snd hd]; exact List.mem_map.mpr ⟨b, hb, rfl⟩)
    omega
  · obtain ⟨ep, he'⟩ := PyProof.Rows.sortedAll_at s.heap its out.toArray
    have rv2 := vals_each he
    have hlen : (sortD ys ds).length ≤ sizeLine := by
      unfold sortD
      rw [List.length_map, List.length_mergeSort, zip_len hd]
      exact hz
    exact ⟨.ref _, upd H (s.heap.objs.size + 1) (.lst (sortD ys ds)), I.laid (t' := s.toks) (fun _ _ => PyProof.Rows.sortedAll_old) (Nat.le_succ _) ⟨hlen, out, ep, rv2, he'⟩, rfl, q _ (I.hok.fresh (Nat.le_succ _))⟩
def rRepr (K : PySem.W.Frag) : List V → Hp → VK → Prop := fun xs H Q => ∃ (a : Addr) (d : PyData), xs = [.ref a] ∧ Dp K H (.ref a) d ∧ d.showable = true ∧ d.hasDict = false ∧ d.depth ≤ 60 ∧ d.shown.length ≤ sizeLine ∧ Q (.str d.shown) H
theorem cr_repr {X : Cx} {k : Nat} (hg : X.A.guards = some []) (hr : Room k X.A) : CallR X (.builtin "repr") (rRepr X.K) := by
  intro pins s σ H vs us Q I r h
  obtain ⟨a, d, rfl, hd, h1, h2, h3, h4, q⟩ := h
  rw [Vals.ref1 r]
  have un := hr.un
  obtain ⟨as, rd⟩ := Dp.reads I d _ _ hd rfl
  exact repr_of_reads' rd h1 (PyData.noDict_hsm h2) hg (by omega) (fun _ _ e => e) (fun h' u tk hk => ⟨.str _, H, I.kept hk, ⟨u, rfl⟩, q⟩) h4
/-- a walk over a range within a comprehension of two fors -/
theorem rng_w {lo : Int} {n : Nat} {H0 : Hp} {B : V → Hp → (Hp → Prop) → Prop} {Qd : Hp → Prop} (Pv : Nat → Hp → Prop) (h0 : Pv 0 H0)
    (hs : ∀ i H, i < n → Pv i H → B (.int (lo + i)) H (Pv (i + 1))) (hd : ∀ H, Pv n H → Qd H) :
    ∃ W : Nat → Nat → Hp → Prop, (∃ m, W 0 m H0) ∧ ∀ i m H, W i m H → ((Itr lo n).stop i H ∧ Qd H) ∨
      ((Itr lo n).go i H ∧ ∃ Nx : Hp → Prop, (∀ H', Nx H' → ∃ m', m' < m ∧ W (i + 1) m' H') ∧ ∀ x H', (Itr lo n).yld i H x H' → B x H' Nx) := by
  refine ⟨fun i m H => m + i = n ∧ Pv i H, ⟨n, rfl, h0⟩, ?_⟩
  rintro i m H ⟨e, p⟩
  by_cases c : i < n
  · refine Or.inr ⟨c, Pv (i + 1), fun H' p' => ⟨m - 1, by omega, by omega, p'⟩, fun x H' y => ?_⟩
    obtain ⟨rfl, rfl⟩ := y
    exact hs i _ c p
  · have z : i = n := by omega
    subst z
    exact Or.inl ⟨Nat.le_refl _, hd H p⟩
/-! a tuple that is known to have no dict (so that its methods can be called) -/
def Tpl (o : Obj) : Prop := o.cls = .type "tuple" ∧ o.dict = none
def tTupF (t : TA) : TE := fun σ H Q => t σ H fun xs H1 => xs.length ≤ sizeLine ∧ ∀ p o, H1 p = none → Tpl o → Q (.ref p) (upd H1 p (.frz o (.tup xs)))
theorem pe_tupF {X : Cx} {es : List Expr} {t : TA} {pos : Pos} {x1} (h : PA X es t) : PE X (.Tuple es x1 pos) (tTupF t) := by
  constructor
  intro pins s σ H Q I hq
  refine wpAny_Tuple_spliced (thn (h.run pos pins s σ H _ I hq) ?_)
  rintro us s1 ⟨xs, H1, I1, r, z, q⟩
  refine ⟨by rw [← r.length]; exact z, ?_⟩
  have new : (s1.heap.push { cls := .type "tuple", data := .seq us.toArray }).get? s1.heap.objs.size = some { cls := .type "tuple", data := .seq us.toArray } := Heap.get?_push_size _ rfl
  exact ⟨.ref s1.heap.objs.size, upd H1 _ (.frz { cls := .type "tuple", data := .seq us.toArray } (.tup xs)), I1.laid (t' := s1.toks) (fun _ _ e => Heap.get?_push_of_some _ e) (Nat.le_refl _) ⟨new, z, us, r, _, new, rfl, _, rfl⟩, rfl,
    q _ _ (I1.hok.fresh (Nat.le_refl _)) ⟨rfl, rfl⟩⟩
def tBMF (r : V → List V → Hp → VK → Prop) (to : TE) (t : TA) : TE := fun σ H Q => to σ H fun x H1 => (∃ p o u, x = .ref p ∧ H1 p = some (.frz o u) ∧ Tpl o) ∧ t σ H1 fun xs H2 => r x xs H2 Q
theorem pe_bmF {X : Cx} {o e : Expr} {es : List Expr} {to : TE} {t : TA} {name : Str} {apos cpos : Pos} {id : String} {r : V → List V → Hp → VK → Prop}
    (pa : PlainAttrs "tuple") (slot : Slot "tuple" name id) (hty : typeOf (.builtin id) = pure (.type "method_descriptor")) (hm : MtR X id r) (ho : PE X o to) (ha : PA X (e :: es) t)
    (hb : attributeBase o name X.env (eval o X.env) = eval o X.env := by rfl)
    (hf : ((backTo cpos (starEach (e :: es) X.env)).all (fun x => !x.1) && (backToKw cpos (keywordEach [] X.env)).all (fun x => x.1.isSome) && decide ((e :: es).length + ([] : List Keyword).length + (if ([] : List Keyword).isEmpty then 0 else 1) < 30)) = true := by rfl)
    (hl : (apos.endLine == cpos.line) = true := by rfl) (hs : starEach (e :: es) X.env = (false, eval e X.env) :: starEach es X.env := by rfl) (hp : (backTo cpos (starEach es X.env)).any (·.1) = false := by rfl) :
    PE X (.Call (.Attribute o name apos) (e :: es) [] cpos) (tBMF r to t) := by
  constructor
  intro pins s σ H Q I h
  refine wpAny_Call_method_late hb hf hl rfl (thn (ho.run pins s σ H _ I h) ?_)
  rintro v s1 ⟨x, H1, I1, r1, ⟨p, ob, u, rfl, hfz, hc, hd⟩, q1⟩
  obtain rfl : v = .ref p := r1
  obtain ⟨at1, _⟩ := I1.hok p _ hfz
  refine ⟨"tuple", id, pa, slot, hty, ⟨ob, at1, hc⟩, fun a e => by cases e; exact ⟨ob, at1, hd⟩, ?_⟩
  have run := ha.run cpos pins s1 σ H1 _ I1 q1
  rw [hs] at run ⊢
  refine Calls.callWith_builtin (by show (false || (backTo cpos (starEach es X.env)).any (·.1)) = false; rw [hp]; rfl) (Calls.evalArgs_plain ?_)
  exact thn run fun us s2 ⟨vs, H2, I2, r2, q2⟩ => hm pins s2 σ H2 (.ref p) vs (.ref p) us Q I2 rfl r2 q2
/-! ### A def that is run where no repr is under way, and a law's end over it -/
structure FnG (P : Program) (w : World) (K : PySem.W.Frag) (mg : Str → Option Value) (base : Heap) (k : Nat) (f : Addr)
    (fd : FuncData) (ps : List Str) (sp : Sp) : Prop where
  len : ∀ vs H Q E, sp vs H Q E → vs.length = ps.length
  run : ∀ (A : Around) (outer : List Env) (s : Shared) (H : Hp) (args : Args) (us : List Value) (vs : List V) (Q : VK) (E : XK),
    Room k A → A.guards = some [] → Env0 P w K mg base A outer s H → BindsTo s fd args (ps.zip us) → Vals vs us → sp vs H Q E →
    codeAny (model P w) A (.call (.ref f) args) (CR CX0 outer P w H s Q E) s
section
variable {P : Program} {w : World} {K : PySem.W.Frag} {mg : Str → Option Value} {base : Heap}
/-- a body's walk, told that no repr is under way -/
theorem okG {x qual : Str} {st : Stmt} {f : Addr} {fd : FuncData} {N ps : List Str} {k : Nat} {sp : Sp}
    (F : Fun K x qual st f fd) (S : FnScope N ps (defScope st)) (hlen : ∀ vs H Q E, sp vs H Q E → vs.length = ps.length)
    (hb : ∀ (cdv : Value) (A : Around) (outer : List Env) (s : Shared) (H : Hp) (vs : List V) (Q : VK) (E : XK),
      Room k (A.deeper (envOfC qual (defScope st) s.heap.objs.size f cdv)) → (A.deeper (envOfC qual (defScope st) s.heap.objs.size f cdv)).guards = some [] →
      sp vs H Q E → ∃ t, PSs (cxOf CX0 P w K mg base N qual (defScope st) f cdv A outer s H E).nox (defBody st) t ∧
        t { nx := fun _ H' => Q .non H', rt := Q } (start N vs) H) : FnG P w K mg base (k + 1) f fd ps sp := by
  obtain ⟨oc, od, kV, doc, pm, an, cdv, ct, osl, rfl, lk, hcd⟩ := F.ex
  refine ⟨hlen, fun A outer s H args us vs Q E room gu e0 bind rel wish => ?_⟩
  have lv := hlen _ _ _ _ wish
  have old : ∀ b o, base.get? b = some o → s.heap.get? b = some o := fun b o e => (e0.bs b o e).1
  have inK : K.In s.heap := e0.mod.kin.keeps old
  refine codeAny_call_function room.depth (inK _ _ lk) rfl S.co S.gen rfl (PySem.W.codeRec_of inK hcd) (bind _ _ _ _ ?_)
  refine wpAny_newFunctionEnv_cells S.kind (fun y hy => ?_) fun env ee s1 x1 => ?_
  · obtain ⟨n, v⟩ := y
    cases S.par n (List.of_mem_zip hy).1 with
    | inl q => exact Or.inl q
    | inr q => exact Or.inr ⟨q, PySem.W.cellsFrom_some _ _ _ (Or.inl q)⟩
  subst ee
  refine ⟨(e0.mod.nolimit.keeps old).keeps x1.toInCall.keep, codeAny_func ?_⟩
  obtain ⟨t, ht, hq⟩ := hb cdv A outer s H vs Q E (room.deeper _) gu wish
  have I0 := inv_start (CX := CX0) (E := E) S room.hd e0 lv rel x1
  refine wpAny_mono (ht.nox.run [] s1 (start N vs) H _ I0 hq) (fun fl s2 hs => ?_) fun _ _ z => z
  cases fl with
  | ret u =>
    obtain ⟨v, σ2, H2, J, rv, q⟩ := hs
    exact ⟨v, H2, J.os, J.bare, J.base, J.hok, rv, q⟩
  | next =>
    obtain ⟨σ2, H2, J, q⟩ := hs
    exact ⟨.non, H2, J.os, J.bare, J.base, J.hok, rfl, q⟩
  | brk => exact hs.choose_spec.choose_spec.2.elim
  | cont => exact hs.choose_spec.choose_spec.2.elim
end
section
variable {P : Program} {w : World} {K : PySem.W.Frag} {mg mb : Str → Option Value} {k : Nat} {fa a : Addr} {fd : FuncData} {x : Str} {sp : Sp} {s1 : Shared} {vs : List Value} {ns : List Int}
/-- what the caller is told of the law's call -/
def Told (s1 : Shared) (r : Result) (s' : Shared) : Prop := r = .ok (.ret (.bool true)) ∧ OldK s1.heap s'.heap ∧ s'.os = s1.os ∧ AllBare s'.gens
theorem told_from (H : Hp) (kin : K.In s1.heap) (glob : s1.heap.Ns mainGlobals mg) (blt : s1.heap.Ns builtinsNs mb) (same : ∀ y : Str, y ≠ "__name__" → mb y = bootBuiltins y) (lim : s1.heap.NoLimit) (bare : s1.gens = #[])
    (obj : s1.heap.get? a = some { cls := .type "list", data := .seq vs.toArray }) (room : Room k callerA)
    (F : ∀ base : Heap, K.In base → base.Ns mainGlobals mg → FnG P w K mg base k fa fd [x] sp) (bind : ∀ (s : Shared) (u : Value), BindsTo s fd ⟨[u], []⟩ [(x, u)])
    (only : Only H) (wish : sp [.ref a] H (fun v _ => v = .bl true) fun _ _ _ => False) (hok : HOk P w H s1.heap) (self : ∀ b u, H b = some u → b = a ∧ K.lookup a = none) :
    codeAny (model P w) callerA (.call (.ref fa) ⟨[.ref a], []⟩) (Told s1) s1 := by
  have free : ∀ b, (b ≠ a ∨ K.lookup a ≠ none) → H b = none := fun b hb => by
    cases e : H b with
    | none => rfl
    | some u =>
      obtain ⟨e1, e2⟩ := self b u e
      cases hb with
      | inl n => exact absurd e1 n
      | inr n => exact absurd e2 n
  have nsB : ∀ {b : Addr} {m : Str → Option Value}, s1.heap.Ns b m → (hidT s1.heap H).Ns b m := by
    rintro b m ⟨o, es, ep, e, d, r⟩
    refine ⟨o, es, ep, hidT_get e (free b (Or.inl fun z => ?_)), d, r⟩
    subst z
    rw [obj] at e
    cases e
    exact nomatch d
  have kinB : K.In (hidT s1.heap H) := fun b o e => by
    refine hidT_get (kin b o e) ?_
    by_cases z : b = a
    · subst z
      exact free b (Or.inr (by rw [e]; exact fun q => nomatch q))
    · exact free b (Or.inl z)
  have limB : (hidT s1.heap H).NoLimit := by
    obtain ⟨mc, h1, h2⟩ := lim
    exact ⟨mc, nsB h1, h2⟩
  have env : Env0 P w K mg (hidT s1.heap H) callerA [] s1 H :=
    { frames := rfl, mod := ⟨kinB, nsB glob, ⟨mb, nsB blt, same⟩, limB⟩, bs := fun _ _ e => of_hidT e, bsz := Nat.le_of_eq (hidT_size _ _), funs := trivial,
      frf := fun b z => (List.not_mem_nil (show b ∈ ([] : List Addr) from z)).elim, hok := hok, bare := .of_eq bare }
  refine codeAny_mono ((F _ kinB (nsB glob)).run callerA [] s1 H ⟨[.ref a], []⟩ [.ref a] [.ref a] _ _ room rfl env (bind s1 _) (.cons rfl .nil) wish) ?_
  rintro (e | fl) s2 h
  · exact (show False from h).elim
  · cases fl with
    | ret u =>
      obtain ⟨v, H2, os2, bare2, un, hok2, rel, q⟩ := h
      have q : v = V.bl true := q
      subst q
      obtain rfl : u = Value.bool true := rel
      refine ⟨rfl, OldK.of_keep fun b o e => ?_, os2, bare2⟩
      cases z : H b with
      | none => exact un.keep b o e z (fun y => List.not_mem_nil (show b ∈ ([] : List Addr) from y)) List.not_mem_nil
      | some u =>
        obtain y | ⟨ob, xs, y⟩ := only b
        · rw [z] at y
          cases y
        · obtain ⟨g1, _⟩ := hok b _ y
          obtain ⟨g2, _⟩ := hok2 b _ (un.frzs b ob _ y)
          rw [e] at g1
          cases g1
          exact g2
    | next => exact h.elim
    | brk => exact h.elim
    | cont => exact h.elim
theorem told_law (kin : K.In s1.heap) (glob : s1.heap.Ns mainGlobals mg) (blt : s1.heap.Ns builtinsNs mb) (same : ∀ y : Str, y ≠ "__name__" → mb y = bootBuiltins y) (lim : s1.heap.NoLimit) (bare : s1.gens = #[])
    (obj : s1.heap.get? a = some { cls := .type "list", data := .seq vs.toArray }) (are : IntsAre vs ns) (long : ns.length ≤ sizeLine) (room : Room k callerA)
    (F : ∀ base : Heap, K.In base → base.Ns mainGlobals mg → FnG P w K mg base k fa fd [x] sp) (bind : ∀ (s : Shared) (u : Value), BindsTo s fd ⟨[u], []⟩ [(x, u)])
    (wish : ∀ H : Hp, SqL K H a (ns.map V.int) → sp [.ref a] H (fun v _ => v = .bl true) fun _ _ _ => False) :
    codeAny (model P w) callerA (.call (.ref fa) ⟨[.ref a], []⟩) (Told s1) s1 := by
  have rv := vals_ints are
  have nl := are.length
  cases hk : K.lookup a with
  | some o =>
    have e := kin a o hk
    rw [obj] at e
    cases e
    have sq : SqL K (fun _ => none) a (ns.map V.int) := Or.inr ⟨_, vs.toArray, _, hk, rfl, rfl, rfl, by rw [List.size_toArray, nl]; exact long, by simpa using rv⟩
    exact told_from (fun _ => none) kin glob blt same lim bare obj room F bind (fun _ => Or.inl rfl) (wish _ sq) (fun _ _ z => nomatch z) fun _ _ z => nomatch z
  | none =>
    have h1 : upd (fun _ => none) a (.frz { cls := .type "list", data := .seq vs.toArray } (.lst (ns.map V.int))) a = some (.frz { cls := .type "list", data := .seq vs.toArray } (.lst (ns.map V.int))) := upd_same
    have at_ : ∀ b u, upd (fun _ => none) a (.frz { cls := .type "list", data := .seq vs.toArray } (.lst (ns.map V.int))) b = some u → b = a ∧ u = .frz { cls := .type "list", data := .seq vs.toArray } (.lst (ns.map V.int)) := fun b u z => by
      by_cases e : b = a
      · subst e
        rw [h1] at z
        exact ⟨rfl, (Option.some.inj z).symm⟩
      · rw [upd_ne e] at z
        exact nomatch z
    refine told_from _ kin glob blt same lim bare obj room F bind (fun b => ?_) (wish _ (Or.inl (Or.inr ⟨_, h1⟩))) (fun b u z => ?_) fun b u z => ⟨(at_ b u z).1, hk⟩
    · by_cases e : b = a
      · rw [e, h1]
        exact Or.inr ⟨_, _, rfl⟩
      · exact Or.inl (upd_ne e)
    · obtain ⟨e1, e2⟩ := at_ b u z
      subst e1
      subst e2
      exact ⟨obj, by rw [List.length_map]; exact long, vs, _, rv, obj⟩
end
/-- a law's end, its def told that no repr is under way -/
theorem walkG {l : PySem.W.OpenLaw} {n k : Nat} {q : Program} {loose : List Str} {XP : (Str → Option Value) → Heap → Prop} {YP : World → Heap → Prop} {d : DefRec} {x : Str} {sp : PySem.W.Frag → Sp}
    (hn : l.most = some n) (hn2 : n ≤ sizeLine) (hdf : d.params.defaults = []) (hr : Room k callerA)
    (F : ∀ (w : World) (mg : Str → Option Value) (fa : Addr) (h : Heap), YP w h → h.Ns mainGlobals mg → mg d.name = some (.ref fa) →
      ∃ (K : PySem.W.Frag) (fd : FuncData), K.In h ∧ (∀ (s : Shared) (u : Value), BindsTo s fd ⟨[u], []⟩ [(x, u)]) ∧
        ∀ base : Heap, K.In base → base.Ns mainGlobals mg → FnG l.prog w K mg base k fa fd [x] (sp K))
    (hsp : ∀ (K : PySem.W.Frag) (H : Hp) (a : Addr) (ns : List Int), ns.length ≤ n → SqL K H a (ns.map V.int) → sp K [.ref a] H (fun v _ => v = .bl true) fun _ _ _ => False) :
    PySem.W.WalkO q loose XP YP l.row.toRowW d [] (fun f vs => PySem.call f vs) := by
  refine Att.attach_call hn hdf fun w s0 s1 mg mb fa o pm cd doc a vs ns G Y ho hd hcd hmg hobj hints hlen hg => ?_
  obtain ⟨K, fd, kin, hb, hF⟩ := F w mg fa _ Y G.T.g hmg
  exact told_law kin G.T.g G.T.b G.T.builtins G.T.nolimit hg hobj hints (Nat.le_trans hlen hn2) hr hF hb fun H sq => hsp K H a ns hlen sq

theorem mod_lo (x y : Int) (h : 0 < y) : 0 ≤ x.fmod y := Int.fmod_nonneg_of_pos _ h
theorem mod_hi (x y : Int) (h : 0 < y) : x.fmod y < y := Int.fmod_lt_of_pos _ h
/-- the feed at f: its cells, a counter of at most n, what is left of a great number -/
def Fd (H : Hp) (f c : Addr) (n : Int) : Prop := ∃ (cells : List Int) (at_ g : Int),
  H f = some (.lst [.ref c, .int at_, .int g]) ∧ H c = some (.lst (cells.map V.int)) ∧ cells.length ≤ 63 ∧ 0 ≤ at_ ∧ at_ ≤ n
theorem fd_ne {H : Hp} {f c : Addr} {cells : List Int} {a g : Int} (hf : H f = some (.lst [.ref c, .int a, .int g])) (hc : H c = some (.lst (cells.map V.int))) : c ≠ f := by
  refine ne_of hc hf fun z => ?_
  have z := HO.lst.inj z
  cases cells with
  | nil => cases z
  | cons x r => rw [List.map_cons] at z; cases z
theorem at_mod {cells : List Int} (a : Int) (h : 0 < cells.length) : ∃ v, atI (cells.map V.int) (a.fmod (((cells.map V.int).length : Nat) : Int)) = some (.int v) := by
  have hp : (0 : Int) < (((cells.map V.int).length : Nat) : Int) := by rw [List.length_map]; omega
  have h1 := mod_lo a _ hp
  have h2 := mod_hi a _ hp
  rw [List.length_map] at h1 h2 ⊢
  obtain ⟨k, hk⟩ : ∃ k : Nat, a.fmod ((cells.length : Nat) : Int) = (k : Int) := ⟨(a.fmod ((cells.length : Nat) : Int)).toNat, by omega⟩
  rw [hk] at h2 ⊢
  have hk2 : k < cells.length := by omega
  exact ⟨cells[k], atI_nat (by rw [List.getElem?_map, List.getElem?_eq_getElem hk2] <;> rfl)⟩
/-- what drawing leaves: all but the feed as it was -/
def But (f : Addr) (H H' : Hp) : Prop := ∀ a o, a ≠ f → H a = some o → H' a = some o
theorem But.refl (f : Addr) (H : Hp) : But f H H := fun _ _ _ h => h
theorem But.trans {f : Addr} {H H1 H2 : Hp} (a : But f H H1) (b : But f H1 H2) : But f H H2 := fun x o n h => b x o n (a x o n h)
theorem But.of_same {f : Addr} {H H' : Hp} (s : Same H H') : But f H H' := fun a o _ h => s a o h
theorem But.new {f : Addr} {H : Hp} {p : Addr} {o : HO} (h : H p = none) : But f H (upd H p o) := fun a u _ e => by
  rw [upd_ne (ne_of_none e h)]; exact e
theorem same_new {H : Hp} {p : Addr} (h : H p = none) (o : HO) : Same H (upd H p o) := fun b u q => by rw [upd_ne (ne_of_none q h)]; exact q
theorem But.feed {f : Addr} {H : Hp} {o : HO} : But f H (upd H f o) := fun a u n e => (upd_ne n).trans e
theorem Fd.mono {H : Hp} {f c : Addr} {n m : Int} (h : Fd H f c n) (l : n ≤ m) : Fd H f c m := by
  obtain ⟨cells, a, g, h1, h2, h3, h4, h5⟩ := h
  exact ⟨cells, a, g, h1, h2, h3, h4, by omega⟩
theorem Fd.same {H H' : Hp} {f c : Addr} {n : Int} (h : Fd H f c n) (s : Same H H') : Fd H' f c n := by
  obtain ⟨cells, a, g, h1, h2, h3⟩ := h
  exact ⟨cells, a, g, s _ _ h1, s _ _ h2, h3⟩
theorem Fd.new {H : Hp} {f c p : Addr} {n : Int} {o : HO} (h : Fd H f c n) (hp : H p = none) : Fd (upd H p o) f c n := h.same (same_new hp o)
theorem Fd.at {H : Hp} {f c : Addr} {n : Int} (h : Fd H f c n) : ∃ xs, H f = some (.lst xs) := by
  obtain ⟨cells, a, g, h1, _⟩ := h
  exact ⟨_, h1⟩
theorem Fd.cell {H : Hp} {f c : Addr} {n : Int} (h : Fd H f c n) : ∃ xs, H c = some (.lst xs) := by
  obtain ⟨cells, a, g, h1, h2, _⟩ := h
  exact ⟨_, h2⟩
theorem Fd.ne {H : Hp} {f c l : Addr} {n : Int} (h : Fd H f c n) (hl : H l = none) : l ≠ f ∧ l ≠ c := by
  obtain ⟨xs, h1⟩ := h.at
  obtain ⟨ys, h2⟩ := h.cell
  exact ⟨Ne.symm (ne_of_none h1 hl), Ne.symm (ne_of_none h2 hl)⟩
theorem Fd.upd {H : Hp} {f c l : Addr} {n : Int} {o : HO} (h : Fd H f c n) (e : l ≠ f ∧ l ≠ c) : Fd (upd H l o) f c n := by
  obtain ⟨cells, a, g, h1, h2, h3⟩ := h
  exact ⟨cells, a, g, (upd_ne (Ne.symm e.1)).trans h1, (upd_ne (Ne.symm e.2)).trans h2, h3⟩
theorem But.mut {f : Addr} {H H' : Hp} {l : Addr} {o : HO} (b : But f H H') (hl : H l = none) : But f H (upd H' l o) := fun a u n e => by
  rw [upd_ne (ne_of_none e hl)]
  exact b a u n e
theorem But.back {f c : Addr} {H H' : Hp} {t : Addr} {n : Int} (b : But f H H') (hf : Fd H' f c n) (ht : H' t = none) : H t = none := by
  cases e : H t with
  | none => rfl
  | some o =>
    have ne : t ≠ f := (hf.ne ht).1
    rw [b t o ne e] at ht
    cases ht
theorem same_mut {H H' : Hp} {l : Addr} {o : HO} (s : Same H H') (hl : H l = none) : Same H (upd H' l o) := fun b u q => by
  rw [upd_ne (ne_of_none q hl)]
  exact s _ _ q
theorem cut_take (xs : List V) (n : Nat) : cutV xs none (some (n : Int)) = xs.take n := by
  unfold cutV
  rw [HT.sIx_nat, HT.sIx_none, List.drop_zero, Nat.sub_zero]
  rw [List.take_eq_take_iff]
  omega
theorem free_of {H : Hp} {a b : Addr} {o : HO} (h : upd H a o b = none) : H b = none := by
  by_cases e : b = a
  · subst e
    rw [upd_same] at h
    cases h
  · rw [upd_ne e] at h
    exact h
def spDraw : Sp := fun vs H Q _ => ∃ (f c : Addr) (m n : Int), vs = [.ref f, .int m] ∧ Fd H f c n ∧ n ≤ 1000000 ∧ 0 < m ∧ m ≤ 1000000000 ∧
  ∀ (d : Int) (H' : Hp), 0 ≤ d → d < m → Fd H' f c (n + 1) → But f H H' → (∀ a, H a = none → H' a = none) → Q (.int d) H'
def spFeed (K : PySem.W.Frag) : Sp := fun vs H Q _ => ∃ (a : Addr) (ns : List Int), vs = [.ref a] ∧ SqL K H a (ns.map V.int) ∧
  ∀ (f c : Addr) (H' : Hp), H f = none → Same H H' → Fd H' f c 0 → Q (.ref f) H'
/-! ### Data that is alike -/
def flatD : PyData → Bool
  | .none => true
  | .bool _ => true
  | .int _ => true
  | .str _ => true
  | _ => false
/-- data of at most n lists or tuples within one another, none of more than 100,000 -/
def Nice : Nat → PyData → Prop
  | 0, d => flatD d = true
  | n + 1, d => flatD d = true ∨ ∃ ds, (d = .list ds ∨ d = .tuple ds) ∧ ds.length ≤ 100000 ∧ ∀ e ∈ ds, Nice n e
theorem Nice.flat {n : Nat} {d : PyData} (h : flatD d = true) : Nice n d := by
  cases n with
  | zero => exact h
  | succ n => exact Or.inl h
theorem kit2 {K : PySem.W.Frag} {t c1 c2 : Value} {b1 b2 : Bool} (h1 : PySem.W.kitOne K t c1 = some b1) (h2 : PySem.W.kitOne K t c2 = some b2) : PySem.W.kitAny K t [c1, c2] = some (b1 || b2) := by
  unfold PySem.W.kitAny PySem.W.kitAny PySem.W.kitAny
  rw [h1, h2]
  cases b1 <;> cases b2 <;> rfl
theorem k_NoneType_tuple {K : PySem.W.Frag} : PySem.W.kitOne K (.type "NoneType") (.type "tuple") = some false := kit_ty (by decide +kernel)
theorem k_NoneType_list {K : PySem.W.Frag} : PySem.W.kitOne K (.type "NoneType") (.type "list") = some false := kit_ty (by decide +kernel)
theorem k_NoneType_bool {K : PySem.W.Frag} : PySem.W.kitOne K (.type "NoneType") (.type "bool") = some false := kit_ty (by decide +kernel)
theorem k_NoneType_str {K : PySem.W.Frag} : PySem.W.kitOne K (.type "NoneType") (.type "str") = some false := kit_ty (by decide +kernel)
theorem k_NoneType_int {K : PySem.W.Frag} : PySem.W.kitOne K (.type "NoneType") (.type "int") = some false := kit_ty (by decide +kernel)
theorem k_bool_tuple {K : PySem.W.Frag} : PySem.W.kitOne K (.type "bool") (.type "tuple") = some false := kit_ty (by decide +kernel)
theorem k_bool_list {K : PySem.W.Frag} : PySem.W.kitOne K (.type "bool") (.type "list") = some false := kit_ty (by decide +kernel)
theorem k_bool_bool {K : PySem.W.Frag} : PySem.W.kitOne K (.type "bool") (.type "bool") = some true := kit_ty (by decide +kernel)
theorem k_bool_str {K : PySem.W.Frag} : PySem.W.kitOne K (.type "bool") (.type "str") = some false := kit_ty (by decide +kernel)
theorem k_bool_int {K : PySem.W.Frag} : PySem.W.kitOne K (.type "bool") (.type "int") = some true := kit_ty (by decide +kernel)
theorem k_int_tuple {K : PySem.W.Frag} : PySem.W.kitOne K (.type "int") (.type "tuple") = some false := kit_ty (by decide +kernel)
theorem k_int_list {K : PySem.W.Frag} : PySem.W.kitOne K (.type "int") (.type "list") = some false := kit_ty (by decide +kernel)
theorem k_int_bool {K : PySem.W.Frag} : PySem.W.kitOne K (.type "int") (.type "bool") = some false := kit_ty (by decide +kernel)
theorem k_int_str {K : PySem.W.Frag} : PySem.W.kitOne K (.type "int") (.type "str") = some false := kit_ty (by decide +kernel)
theorem k_int_int {K : PySem.W.Frag} : PySem.W.kitOne K (.type "int") (.type "int") = some true := kit_ty (by decide +kernel)
theorem k_str_tuple {K : PySem.W.Frag} : PySem.W.kitOne K (.type "str") (.type "tuple") = some false := kit_ty (by decide +kernel)
theorem k_str_list {K : PySem.W.Frag} : PySem.W.kitOne K (.type "str") (.type "list") = some false := kit_ty (by decide +kernel)
theorem k_str_bool {K : PySem.W.Frag} : PySem.W.kitOne K (.type "str") (.type "bool") = some false := kit_ty (by decide +kernel)
theorem k_str_str {K : PySem.W.Frag} : PySem.W.kitOne K (.type "str") (.type "str") = some true := kit_ty (by decide +kernel)
theorem k_str_int {K : PySem.W.Frag} : PySem.W.kitOne K (.type "str") (.type "int") = some false := kit_ty (by decide +kernel)
theorem k_list_tuple {K : PySem.W.Frag} : PySem.W.kitOne K (.type "list") (.type "tuple") = some false := kit_ty (by decide +kernel)
theorem k_list_list {K : PySem.W.Frag} : PySem.W.kitOne K (.type "list") (.type "list") = some true := kit_ty (by decide +kernel)
theorem k_list_bool {K : PySem.W.Frag} : PySem.W.kitOne K (.type "list") (.type "bool") = some false := kit_ty (by decide +kernel)
theorem k_list_str {K : PySem.W.Frag} : PySem.W.kitOne K (.type "list") (.type "str") = some false := kit_ty (by decide +kernel)
theorem k_list_int {K : PySem.W.Frag} : PySem.W.kitOne K (.type "list") (.type "int") = some false := kit_ty (by decide +kernel)
theorem k_tuple_tuple {K : PySem.W.Frag} : PySem.W.kitOne K (.type "tuple") (.type "tuple") = some true := kit_ty (by decide +kernel)
theorem k_tuple_list {K : PySem.W.Frag} : PySem.W.kitOne K (.type "tuple") (.type "list") = some false := kit_ty (by decide +kernel)
theorem k_tuple_bool {K : PySem.W.Frag} : PySem.W.kitOne K (.type "tuple") (.type "bool") = some false := kit_ty (by decide +kernel)
theorem k_tuple_str {K : PySem.W.Frag} : PySem.W.kitOne K (.type "tuple") (.type "str") = some false := kit_ty (by decide +kernel)
theorem k_tuple_int {K : PySem.W.Frag} : PySem.W.kitOne K (.type "tuple") (.type "int") = some false := kit_ty (by decide +kernel)
def tyD : PyData → String
  | .none => "NoneType"
  | .bool _ => "bool"
  | .int _ => "int"
  | .str _ => "str"
  | .list _ => "list"
  | .tuple _ => "tuple"
  | _ => "object"
theorem ty_of {K : PySem.W.Frag} {H : Hp} {v : V} {d : PyData} (h : Dp K H v d) : TyX K H v (.type (tyD d)) := by
  cases h with
  | non => exact .base .non
  | bl b => exact .base (.bl b)
  | int i => exact .base (.int i)
  | str x => exact .base (.str x)
  | lst s _ =>
    rcases s with (e | ⟨o, e⟩) | ⟨o, its, n, e, c, _⟩
    · exact .base (.lst e)
    · exact .base (.frz e)
    · exact .kList e c
  | tup s _ =>
    rcases s with (e | ⟨o, e⟩) | ⟨o, its, n, e, c, _⟩
    · exact .base (.tup e)
    · exact .fTuple e
    · exact .kTuple e c
theorem SqL.sm {K : PySem.W.Frag} {H H' : Hp} {a : Addr} {xs : List V} (e : Same H H') (h : SqL K H a xs) : SqL K H' a xs := e.seq h
theorem SqT.sm {K : PySem.W.Frag} {H H' : Hp} {a : Addr} {xs : List V} (e : Same H H') (h : SqT K H a xs) : SqT K H' a xs := by
  rcases h with (h | ⟨o, h⟩) | h
  · exact Or.inl (Or.inl (e _ _ h))
  · exact Or.inl (Or.inr ⟨o, e _ _ h⟩)
  · exact Or.inr h
mutual
theorem Dp.sm {K : PySem.W.Frag} {H H' : Hp} (e : Same H H') : ∀ {v : V} {d : PyData}, Dp K H v d → Dp K H' v d
  | _, _, .non => .non
  | _, _, .bl b => .bl b
  | _, _, .int i => .int i
  | _, _, .str x => .str x
  | _, _, .lst s a => .lst (SqL.sm e s) (DpAll.sm e a)
  | _, _, .tup s a => .tup (SqT.sm e s) (DpAll.sm e a)
theorem DpAll.sm {K : PySem.W.Frag} {H H' : Hp} (e : Same H H') : ∀ {vs : List V} {ds : List PyData}, DpAll K H vs ds → DpAll K H' vs ds
  | _, _, .nil => .nil
  | _, _, .cons a b => .cons (Dp.sm e a) (DpAll.sm e b)
end
theorem DpAll.len {K : PySem.W.Frag} {H : Hp} : ∀ {vs : List V} {ds : List PyData}, DpAll K H vs ds → vs.length = ds.length
  | _, _, .nil => rfl
  | _, _, .cons _ b => congrArg (· + 1) (DpAll.len b)
theorem DpAll.get {K : PySem.W.Frag} {H : Hp} : ∀ {vs : List V} {ds : List PyData} {i : Nat} {v : V}, DpAll K H vs ds → vs[i]? = some v → ∃ d, ds[i]? = some d ∧ Dp K H v d
  | _, _, 0, _, .cons a _, h => by
    cases h
    exact ⟨_, rfl, a⟩
  | _, _, i + 1, v, .cons _ b, h => DpAll.get (i := i) (v := v) b h
theorem walk_zt {K : PySem.W.Frag} {a b : Addr} {xs ys : List V} (hl : xs.length = ys.length) : Walk (RZ.ItzT K a b) xs.length (fun H => SqT K H a xs ∧ SqT K H b ys) (YPair (fun i => xs[i]?) (fun i => ys[i]?)) := by
  refine ⟨fun i H hi q => ?_, fun H q => ⟨xs, ys, q.1, q.2, Or.inl (Nat.le_refl _)⟩, fun i H v H' hi q y => ?_⟩
  · exact ⟨xs, ys, xs[i], ys[i]'(by omega), q.1, q.2, List.getElem?_eq_getElem hi, List.getElem?_eq_getElem (by omega)⟩
  · obtain ⟨T, x, y, h1, h2, h3, h4, h5⟩ := y
    exact ⟨T, x, y, h1, h2, h3, h4 xs q.1, h5 ys q.2⟩
/-- alike(x, y), x and y the same data -/
def spAlike (K : PySem.W.Frag) : Nat → Sp
  | 0 => fun _ _ _ _ => False
  | n + 1 => fun vs H Q _ => ∃ (x y : V) (d : PyData), vs = [x, y] ∧ Dp K H x d ∧ Dp K H y d ∧ Nice n d ∧ ∀ H', Same H H' → Q (.bl true) H'
theorem alike_none {P : Program} {w : World} {K : PySem.W.Frag} {mg : Str → Option Value} {base : Heap} {k : Nat} {f : Addr} {fd : FuncData} {ps : List Str} : FnOk P w K mg base CX0 k f fd ps (spAlike K 0) :=
  ⟨fun _ _ _ _ h => h.elim, fun _ _ _ _ _ _ _ _ _ _ _ _ _ h => h.elim⟩
/-! ### Printings -/
inductive Wd where | sh | ro | co
  deriving DecidableEq
def Wd.s : Wd → Str
  | .sh => "sheet"
  | .ro => "row"
  | .co => "column"
structure Prt where
  series : Str
  first : Int
  cols : Int
  rows : Int
  sheets : Int
  o1 : Wd
  o2 : Wd
  o3 : Wd
def Prt.size (p : Prt) : Wd → Int
  | .sh => p.sheets
  | .ro => p.rows
  | .co => p.cols
def seatW (s r c : Int) : Wd → Int
  | .sh => s
  | .ro => r
  | .co => c
def Prt.num (p : Prt) (s r c : Int) : Int := p.first + ((seatW s r c p.o1 * p.size p.o2 + seatW s r c p.o2) * p.size p.o3 + seatW s r c p.o3)
structure PrOk (p : Prt) : Prop where
  len : p.series.length ≤ 8
  f0 : 0 ≤ p.first
  c1 : 1 ≤ p.cols
  c2 : p.cols ≤ 12
  r1 : 1 ≤ p.rows
  r2 : p.rows ≤ 12
  s1 : 1 ≤ p.sheets
  s2 : p.sheets ≤ 1000000
  most : p.first + p.cols * p.rows * p.sheets ≤ 1000000000
  d12 : p.o1 ≠ p.o2
  d13 : p.o1 ≠ p.o3
  d23 : p.o2 ≠ p.o3
  chr : (p.series.cps.toList.all fun c => decide (c < 16 ^ 8)) = true
def prV (p : Prt) (t : Addr) : List V := [.str p.series, .int p.first, .int p.cols, .int p.rows, .int p.sheets, .ref t]
def ordV (p : Prt) : List V := [.str p.o1.s, .str p.o2.s, .str p.o3.s]
/-- the printing p stands at a -/
def PrAt (H : Hp) (a : Addr) (p : Prt) : Prop := ∃ t, H a = some (.tup (prV p t)) ∧ ∃ o, H t = some (.frz o (.tup (ordV p))) ∧ Tpl o
theorem PrAt.same {H H' : Hp} {a : Addr} {p : Prt} (h : PrAt H a p) (s : Same H H') : PrAt H' a p := by
  obtain ⟨t, h1, o, h2, h3⟩ := h
  exact ⟨t, s _ _ h1, o, s _ _ h2, h3⟩
theorem PrAt.but {H H' : Hp} {f c a : Addr} {p : Prt} {n : Int} (h : PrAt H a p) (hf : Fd H f c n) (s : But f H H') : PrAt H' a p := by
  obtain ⟨t, h1, o, h2, h3⟩ := h
  obtain ⟨xs, hx⟩ := hf.at
  exact ⟨t, s _ _ (ne_of h1 hx (fun z => nomatch z)) h1, o, s _ _ (ne_of h2 hx (fun z => nomatch z)) h2, h3⟩
theorem sqF {K : PySem.W.Frag} {H : Hp} {a : Addr} {o : Obj} {xs : List V} (h : H a = some (.frz o (.tup xs))) : SqT K H a xs := Or.inl (Or.inr ⟨o, h⟩)
def dictW (f : Wd → Int) : List (Key × V) := [(Sum.inr Wd.sh.s, .int (f .sh)), (Sum.inr Wd.ro.s, .int (f .ro)), (Sum.inr Wd.co.s, .int (f .co))]
def dictC (f : Wd → Int) : List (Key × V) := [(Sum.inr Wd.co.s, .int (f .co)), (Sum.inr Wd.ro.s, .int (f .ro)), (Sum.inr Wd.sh.s, .int (f .sh))]
theorem valW (f : Wd → Int) (u : Wd) : valV (dictW f) (Sum.inr u.s) = some (.int (f u)) := by cases u <;> rfl
theorem valC (f : Wd → Int) (u : Wd) : valV (dictC f) (Sum.inr u.s) = some (.int (f u)) := by cases u <;> rfl
theorem PrOk.size_lo {p : Prt} (h : PrOk p) (u : Wd) : 1 ≤ p.size u := by cases u <;> simp only [Prt.size] <;> first | exact h.s1 | exact h.r1 | exact h.c1
theorem PrOk.size_hi {p : Prt} (h : PrOk p) (u : Wd) : p.size u ≤ 1000000 := by
  have h1 := h.s2; have h2 := h.r2; have h3 := h.c2
  cases u <;> simp only [Prt.size] <;> omega
def spHow (dict : (Wd → Int) → List (Key × V)) : Sp := fun vs H Q _ => ∃ (a : Addr) (p : Prt), vs = [.ref a] ∧ PrAt H a p ∧
  ∀ (d : Addr) (H' : Hp), Same H H' → H' d = some (.dK (dict p.size)) → Q (.ref d) H'
def spNum : Sp := fun vs H Q _ => ∃ (a : Addr) (p : Prt) (s r c : Int), vs = [.ref a, .int s, .int r, .int c] ∧ PrAt H a p ∧ PrOk p ∧
  ∀ (H' : Hp), Same H H' → Q (.int (p.num s r c)) H'
theorem get_dW {H : Hp} {d : Addr} {f : Wd → Int} (h : H d = some (.dK (dictW f))) (u : Wd) : DGet H d (.str u.s) (some (.int (f u))) := by
  have q := DGet.k (k := Sum.inr u.s) h
  rw [valW] at q
  exact q
theorem get_dC {H : Hp} {d : Addr} {f : Wd → Int} (h : H d = some (.dK (dictC f))) (u : Wd) : DGet H d (.str u.s) (some (.int (f u))) := by
  have q := DGet.k (k := Sum.inr u.s) h
  rw [valC] at q
  exact q
theorem Prt.num_eq (p : Prt) (s r c : Int) : p.first + (seatW s r c p.o1 * p.size p.o2 * p.size p.o3 + seatW s r c p.o2 * p.size p.o3 + seatW s r c p.o3) = p.num s r c := by
  unfold Prt.num
  rw [Int.add_mul]
theorem PrOk.big {p : Prt} (ok : PrOk p) (u : Wd) : -(2 ^ 64) < p.size u ∧ p.size u < 2 ^ 64 := by
  have := ok.size_lo u
  have := ok.size_hi u
  constructor <;> omega
/-- what draw and its like leave for the words of an order -/
def spOrder : Sp := fun vs H Q _ => ∃ (f c : Addr) (n : Int), vs = [.ref f] ∧ Fd H f c n ∧ n ≤ 900000 ∧
  ∀ (t : Addr) (o : Obj) (u1 u2 u3 : Wd) (H' : Hp), Tpl o → u1 ≠ u2 → u1 ≠ u3 → u2 ≠ u3 → Fd H' f c (n + 2) → But f H H' → H t = none → H' t = some (.frz o (.tup [.str u1.s, .str u2.s, .str u3.s])) → Q (.ref t) H'
def spPrint : Sp := fun vs H Q _ => ∃ (f c : Addr) (n k : Int), vs = [.ref f, .int k] ∧ Fd H f c n ∧ n ≤ 800000 ∧ (k = 0 ∨ k = 1) ∧
  ∀ (a : Addr) (p : Prt) (H' : Hp), Fd H' f c (n + 20) → But f H H' → PrAt H' a p → PrOk p → (k = 1 → p.cols ≤ 4 ∧ p.rows ≤ 4 ∧ p.sheets ≤ 6) → Q (.ref a) H'
theorem mul_bound {a b : Int} {m n : Int} (a0 : 0 ≤ a) (a1 : a ≤ m) (b0 : 0 ≤ b) (b1 : b ≤ n) : 0 ≤ a * b ∧ a * b ≤ m * n :=
  ⟨Int.mul_nonneg a0 b0, Int.mul_le_mul a1 b1 b0 (Int.le_trans a0 a1)⟩
theorem prod_bound {c r s : Int} (c0 : 0 ≤ c) (c1 : c ≤ 12) (r0 : 0 ≤ r) (r1 : r ≤ 12) (s0 : 0 ≤ s) (s1 : s ≤ 1000000) : 0 ≤ c * r * s ∧ c * r * s ≤ 144000000 := by
  obtain ⟨h1, h2⟩ := mul_bound c0 c1 r0 r1
  obtain ⟨h3, h4⟩ := mul_bound h1 h2 s0 s1
  exact ⟨h3, by omega⟩
def abc : Str := "abcdefghijklmnopqrstuvwxyz"
theorem abc_at (i : Int) (h0 : 0 ≤ i) (h1 : i < 26) : ∃ ch, atI abc.cps.toList i = some ch ∧ ch < 16 ^ 8 := by
  obtain ⟨k, rfl⟩ : ∃ k : Nat, i = (k : Int) := ⟨i.toNat, by omega⟩
  have hk : k < abc.cps.toList.length := by
    have e : abc.cps.toList.length = 26 := by decide +kernel
    omega
  have all : ∀ c ∈ abc.cps.toList, c < 16 ^ 8 := by decide +kernel
  exact ⟨abc.cps.toList[k], atI_nat (List.getElem?_eq_getElem hk), all _ (List.getElem_mem hk)⟩
theorem mul_chr {ch : Nat} (n : Int) (h : ch < 16 ^ 8) : ((Txt.mul ⟨#[ch]⟩ n).cps.toList.all fun c => decide (c < 16 ^ 8)) = true := by
  rw [mul_one_list, List.all_eq_true]
  intro c hc
  rw [List.eq_of_mem_replicate hc]
  exact decide_eq_true h
theorem mul1_ok (ch : Nat) (d : Int) (h0 : 0 ≤ d) (h1 : d < 100) : MulOk ⟨#[ch]⟩ (1 + d) := by
  refine ⟨?_, fun _ _ => ?_, fun _ _ => ?_⟩
  · simp only [Bool.or_eq_false_iff, decide_eq_false_iff_not]
    constructor <;> omega
  · have e : (⟨#[ch]⟩ : Str).length = 1 := rfl
    rw [e]
    have : (1 : Int) ≤ (2 ^ 63 - 1) / (1 + d) := by
      rw [Int.le_ediv_iff_mul_le (by omega)]
      omega
    omega
  · have e : (⟨#[ch]⟩ : Str).length = 1 := rfl
    rw [e, Nat.one_mul]
    unfold Builtin.Str.tooLong
    rw [decide_eq_false_iff_not, sizeLine_eq]
    omega
theorem mul1_len (ch : Nat) (d : Int) (N : Nat) (h : 1 + d ≤ (N : Int)) : (Txt.mul ⟨#[ch]⟩ (1 + d)).length ≤ N := len_mul_one rfl h
def rowNums (p : Prt) (s r : Int) : List Int := (List.range p.cols.toNat).map fun (c : Nat) => p.num s r c
def numsOn (p : Prt) (s : Int) : List Int := (List.range p.rows.toNat).flatMap fun (r : Nat) => rowNums p s r
theorem rowNums_len (p : Prt) (s r : Int) : (rowNums p s r).length = p.cols.toNat := by
  unfold rowNums
  rw [List.length_map, List.length_range]
/-- the numbers ahead of the c-th of row r -/
def numsTo (p : Prt) (s : Int) (r c : Nat) : List Int := ((List.range r).flatMap fun (r : Nat) => rowNums p s r) ++ (List.range c).map fun (c : Nat) => p.num s r c
theorem numsTo_row (p : Prt) (s : Int) (r : Nat) : numsTo p s r p.cols.toNat = numsTo p s (r + 1) 0 := by
  unfold numsTo rowNums
  rw [List.range_succ, List.flatMap_append, List.range_zero, List.map_nil, List.append_nil, List.flatMap_singleton]
theorem numsTo_col (p : Prt) (s : Int) (r c : Nat) : numsTo p s r (c + 1) = numsTo p s r c ++ [p.num s r c] := by
  unfold numsTo
  rw [List.range_succ, List.map_append, List.append_assoc]
  rfl
theorem numsTo_all (p : Prt) (s : Int) : numsTo p s p.rows.toNat 0 = numsOn p s := by
  unfold numsTo numsOn
  rw [List.range_zero, List.map_nil, List.append_nil]
theorem numsTo_len (p : Prt) (s : Int) (r c : Nat) : (numsTo p s r c).length = r * p.cols.toNat + c := by
  unfold numsTo
  rw [List.length_append, List.length_map, List.length_range, List.length_flatMap]
  have e : (List.map (fun (a : Nat) => (rowNums p s a).length) (List.range r)) = List.replicate r p.cols.toNat := by
    apply List.ext_getElem
    · simp
    · intro i h1 h2
      simp [rowNums_len]
  rw [e, List.sum_replicate_nat]
def spNumsOn : Sp := fun vs H Q _ => ∃ (a : Addr) (p : Prt) (s : Int), vs = [.ref a, .int s] ∧ PrAt H a p ∧ PrOk p ∧
  ∀ (l : Addr) (H' : Hp), Same H H' → H l = none → H' l = some (.lst ((numsOn p s).map V.int)) → Q (.ref l) H'
/-! ### Runs -/
abbrev Rn := Str × Int × Int
def rnV (r : Rn) : List V := [.str r.1, .int r.2.1, .int r.2.2]
def rnD (r : Rn) : PyData := .tuple [.str r.1, .int r.2.1, .int r.2.2]
/-- the runs rs stand at the places ps -/
abbrev Prd (H : Hp) (ps : List Addr) (rs : List Rn) : Prop := Paired (fun (p : Addr) (r : Rn) => H p = some (.tup (rnV r))) ps rs
theorem Prd.len {H : Hp} {ps : List Addr} {rs : List Rn} (h : Prd H ps rs) : ps.length = rs.length := Paired.length h
theorem Prd.same {H H' : Hp} (s : Same H H') : ∀ {ps : List Addr} {rs : List Rn}, Prd H ps rs → Prd H' ps rs
  | _, _, .nil => .nil
  | _, _, .cons a b => .cons (s _ _ a) (Prd.same s b)
theorem Prd.get {H : Hp} : ∀ {ps : List Addr} {rs : List Rn} {i : Nat} {p : Addr}, Prd H ps rs → ps[i]? = some p → ∃ r, rs[i]? = some r ∧ H p = some (.tup (rnV r))
  | _, _, 0, _, .cons a _, h => by
    cases h
    exact ⟨_, rfl, a⟩
  | _, _, i + 1, p, .cons _ b, h => Prd.get (i := i) (p := p) b h
theorem Prd.app {H : Hp} : ∀ {ps qs : List Addr} {rs ts : List Rn}, Prd H ps rs → Prd H qs ts → Prd H (ps ++ qs) (rs ++ ts)
  | _, _, _, _, .nil, b => b
  | _, _, _, _, .cons a r, b => .cons a (Prd.app r b)
theorem Prd.mem {H : Hp} : ∀ {ps : List Addr} {rs : List Rn} {p : Addr}, Prd H ps rs → p ∈ ps → ∃ r ∈ rs, H p = some (.tup (rnV r))
  | _, _, p, .cons a b, h => by
    rcases List.mem_cons.mp h with e | e
    · subst e
      exact ⟨_, List.mem_cons_self, a⟩
    · obtain ⟨r, h1, h2⟩ := Prd.mem b e
      exact ⟨r, List.mem_cons_of_mem _ h1, h2⟩
theorem Prd.dp {K : PySem.W.Frag} {H : Hp} : ∀ {ps : List Addr} {rs : List Rn}, Prd H ps rs → DpAll K H (ps.map V.ref) (rs.map rnD)
  | _, _, .nil => .nil
  | _, _, .cons a b => .cons (.tup (SqT.of a) (.cons (.str _) (.cons (.int _) (.cons (.int _) .nil)))) (Prd.dp b)
/-- one run more, its place new or not, all else as it was -/
theorem Prd.keep {H H' : Hp} : ∀ {ps : List Addr} {rs : List Rn}, (∀ p ∈ ps, ∀ o, H p = some o → H' p = some o) → Prd H ps rs → Prd H' ps rs
  | _, _, _, .nil => .nil
  | _, _, k, .cons a b => .cons (k _ List.mem_cons_self _ a) (Prd.keep (fun p hp => k p (List.mem_cons_of_mem _ hp)) b)
def rnLe (a b : Rn) : Bool := PySem.W.dataLe false rnD a b
/-- Python's order of runs -/
def rnLt (a b : Rn) : Prop := a.1.cps.toList < b.1.cps.toList ∨ (a.1 = b.1 ∧ (a.2.1 < b.2.1 ∨ (a.2.1 = b.2.1 ∧ a.2.2 < b.2.2)))
theorem rn_lt (a b : Rn) : PySem.W.dataLt (rnD a) (rnD b) = decide (a.1.cps.toList < b.1.cps.toList ∨ (a.1 = b.1 ∧ (a.2.1 < b.2.1 ∨ (a.2.1 = b.2.1 ∧ a.2.2 < b.2.2)))) := by
  unfold rnD
  rw [PySem.W.dataLt_tuple, PySem.W.dataLt_cons (by simp [PySem.W.alike]), PySem.W.dataLt_cons (by simp [PySem.W.alike]), PySem.W.dataLt_cons (by simp [PySem.W.alike]), PySem.W.dataLt_str, PySem.W.dataLt_int, PySem.W.dataLt_int]
  rw [PyProof.Rows.lex_irrefl]
  simp only [PyData.eqv, beq_iff_eq]
  by_cases h1 : a.1 = b.1
  · have n : ¬ a.1.cps.toList < b.1.cps.toList := by
      rw [h1]
      exact List.lt_irrefl _
    by_cases h2 : a.2.1 = b.2.1
    · by_cases h3 : a.2.2 = b.2.2
      · rw [if_pos h1, if_pos h2, if_pos h3]
        symm
        rw [decide_eq_false_iff_not]
        rintro (h | ⟨_, h | ⟨_, h⟩⟩)
        · exact n h
        · omega
        · omega
      · rw [if_pos h1, if_pos h2, if_neg h3, decide_eq_decide]
        refine ⟨fun h => Or.inr ⟨h1, Or.inr ⟨h2, h⟩⟩, ?_⟩
        rintro (h | ⟨_, h | ⟨_, h⟩⟩)
        · exact absurd h n
        · omega
        · exact h
    · rw [if_pos h1, if_neg h2, decide_eq_decide]
      refine ⟨fun h => Or.inr ⟨h1, Or.inl h⟩, ?_⟩
      rintro (h | ⟨_, h | ⟨h, _⟩⟩)
      · exact absurd h n
      · exact h
      · exact absurd h h2
  · rw [if_neg h1, decide_eq_decide]
    refine ⟨Or.inl, ?_⟩
    rintro (h | ⟨h, _⟩)
    · exact h
    · exact absurd h h1
def apart (a b : Rn) : Bool := if a.1 = b.1 then decide (a.2.2 < b.2.1) else decide (a.1.cps.toList < b.1.cps.toList)
def push (acc : List Rn) (r : Rn) : List Rn := match acc.getLast? with
  | none => [r]
  | some l => if apart l r then acc ++ [r] else acc.dropLast ++ [(l.1, l.2.1, if r.2.2 > l.2.2 then r.2.2 else l.2.2)]
def merge (rs : List Rn) : List Rn := rs.foldl push []
def runsOf (rs : List Rn) : List Rn := merge (rs.mergeSort rnLe)
theorem sort_rn {H : Hp} {ps : List Addr} {rs : List Rn} (h : Prd H ps rs) : ∃ qs : List Addr, sortD (ps.map V.ref) (rs.map rnD) = qs.map V.ref ∧ Prd H qs (rs.mergeSort rnLe) := by
  have hl := h.len
  have e1 : ((ps.map V.ref).zip (rs.map rnD)) = (ps.zip rs).map (fun x => (V.ref x.1, rnD x.2)) := by
    rw [List.zip_map]
    rfl
  refine ⟨((ps.zip rs).mergeSort (fun x y => rnLe x.2 y.2)).map Prod.fst, ?_, ?_⟩
  · unfold sortD
    rw [e1, ← PySem.W.sort_maps (r := fun x y => rnLe x.2 y.2) (fun x : Addr × Rn => (V.ref x.1, rnD x.2)) (fun _ _ _ _ => rfl), List.map_map, List.map_map]
    rfl
  · have e2 : ((ps.zip rs).mergeSort (fun x y => rnLe x.2 y.2)).map Prod.snd = rs.mergeSort rnLe := by
      rw [PySem.W.sort_maps (s := rnLe) Prod.snd (fun _ _ _ _ => rfl), List.map_snd_zip (by omega)]
    rw [← e2]
    have at_ : ∀ x ∈ ps.zip rs, H x.1 = some (.tup (rnV x.2)) := by
      clear e1 e2 hl
      induction h with
      | nil => exact fun x hx => nomatch hx
      | cons a b ih =>
        intro x hx
        rcases List.mem_cons.mp hx with z | z
        · subst z
          exact a
        · exact ih x z
    have all : ∀ l : List (Addr × Rn), (∀ x ∈ l, H x.1 = some (.tup (rnV x.2))) → Prd H (l.map Prod.fst) (l.map Prod.snd) := fun l => by
      induction l with
      | nil => exact fun _ => .nil
      | cons x l ih => exact fun k => .cons (k x List.mem_cons_self) (ih fun y hy => k y (List.mem_cons_of_mem _ hy))
    exact all _ fun x hx => at_ x (List.mem_mergeSort.mp hx)
theorem rn_alike (rs : List Rn) : PySem.W.AllAlike (rs.map rnD) := by
  intro d hd e he
  obtain ⟨a, _, rfl⟩ := List.mem_map.mp hd
  obtain ⟨b, _, rfl⟩ := List.mem_map.mp he
  simp [rnD, PySem.W.alike, PySem.W.alikeAll]
theorem rn_sortable (rs : List Rn) : PySem.W.Sortable (rs.map rnD) := by
  refine Or.inl fun d hd => ?_
  obtain ⟨a, _, rfl⟩ := List.mem_map.mp hd
  exact ⟨_, _, rfl⟩
theorem rn_depth (rs : List Rn) : ∀ d ∈ rs.map rnD, d.depth ≤ 60 := by
  intro d hd
  obtain ⟨a, _, rfl⟩ := List.mem_map.mp hd
  simp [rnD, PyData.depth, PyData.depthAll]
theorem push_len (acc : List Rn) (r : Rn) : (push acc r).length ≤ acc.length + 1 := by
  unfold push
  split
  · simp
  · split
    · simp
    · simp
theorem merge_len (rs : List Rn) : (merge rs).length ≤ rs.length := by
  have all : ∀ (l acc : List Rn), (l.foldl push acc).length ≤ acc.length + l.length := fun l => by
    induction l with
    | nil => intro acc; simp
    | cons r l ih =>
      intro acc
      have h1 := ih (push acc r)
      have h2 := push_len acc r
      rw [List.foldl_cons, List.length_cons]
      omega
  have z := all rs []
  rw [List.length_nil, Nat.zero_add] at z
  exact z
theorem push_snoc (acc : List Rn) (l r : Rn) : push (acc ++ [l]) r = if apart l r then acc ++ [l] ++ [r] else acc ++ [(l.1, l.2.1, if r.2.2 > l.2.2 then r.2.2 else l.2.2)] := by
  unfold push
  rw [List.getLast?_concat]
  simp only [List.dropLast_concat]
theorem Prd.snoc {H : Hp} : ∀ {ps : List Addr} {rs : List Rn} {p : Addr}, Prd H (ps ++ [p]) rs → ∃ ts r, rs = ts ++ [r] ∧ Prd H ps ts ∧ H p = some (.tup (rnV r))
  | [], _, p, h => by
    cases h with
    | cons a b =>
      cases b
      exact ⟨[], _, rfl, .nil, a⟩
  | x :: ps, _, p, h => by
    cases h with
    | cons a b =>
      obtain ⟨ts, r, rfl, h1, h2⟩ := Prd.snoc b
      exact ⟨_ :: ts, r, rfl, .cons a h1, h2⟩
theorem Prd.one {H : Hp} {p : Addr} {r : Rn} (h : H p = some (.tup (rnV r))) : Prd H [p] [r] := .cons h .nil
theorem ix_last (n : Nat) : ixN (n + 1) (-1) = some n := by
  unfold ixN
  rw [if_neg (by omega), if_pos (by omega)]
  exact congrArg some (by omega)
theorem nil_or_snoc {α : Type} (l : List α) : l = [] ∨ ∃ i x, l = i ++ [x] := by
  rcases List.eq_nil_or_concat l with h | ⟨i, x, h⟩
  · exact .inl h
  · exact .inr ⟨i, x, by rw [h, List.concat_eq_append]⟩
theorem merge_more {l : List Rn} {i : Nat} {r : Rn} (h : l[i]? = some r) : merge (l.take (i + 1)) = push (merge (l.take i)) r := by
  unfold merge
  obtain ⟨hi, e⟩ := List.getElem?_eq_some_iff.mp h
  rw [List.take_succ_eq_append_getElem hi, List.foldl_append, e]
  rfl
def spApart : Sp := fun vs H Q _ => ∃ (p q : Addr) (a b : Rn), vs = [.ref p, .ref q] ∧ H p = some (.tup (rnV a)) ∧ H q = some (.tup (rnV b)) ∧ Q (.bl (apart a b)) H
def spRunsOf (K : PySem.W.Frag) : Sp := fun vs H Q _ => ∃ (a : Addr) (ps : List Addr) (rs : List Rn), vs = [.ref a] ∧ SqL K H a (ps.map V.ref) ∧ Prd H ps rs ∧ rs.length ≤ 100000 ∧
  ∀ (t : Addr) (qs : List Addr) (H' : Hp), Same H H' → H t = none → H' t = some (.tup (qs.map V.ref)) → Prd H' qs (runsOf rs) → Q (.ref t) H'
def single (s : Str) (n : Int) : Rn := (s, n, n + 1)
def spRunsNums : Sp := fun vs H Q _ => ∃ (a l : Addr) (p : Prt) (ns : List Int), vs = [.ref a, .ref l] ∧ PrAt H a p ∧ H l = some (.lst (ns.map V.int)) ∧ ns.length ≤ 100000 ∧
  ∀ (t : Addr) (qs : List Addr) (H' : Hp), Same H H' → H t = none → H' t = some (.tup (qs.map V.ref)) → Prd H' qs (runsOf (ns.map (single p.series))) → Q (.ref t) H'
def spSheetRuns : Sp := fun vs H Q _ => ∃ (a : Addr) (p : Prt) (s : Int), vs = [.ref a, .int s] ∧ PrAt H a p ∧ PrOk p ∧
  ∀ (t : Addr) (qs : List Addr) (H' : Hp), Same H H' → H t = none → H' t = some (.tup (qs.map V.ref)) → Prd H' qs (runsOf ((numsOn p s).map (single p.series))) → Q (.ref t) H'
def spPile (f : Prt → Int → Int → Int) : Sp := fun vs H Q _ => ∃ (a : Addr) (p : Prt) (r c : Int), vs = [.ref a, .int r, .int c] ∧ PrAt H a p ∧ PrOk p ∧
  ∀ (t : Addr) (H' : Hp), Same H H' → H t = none → H' t = some (.tup [.int (p.num 0 r c), .int (f p r c), .int p.sheets]) → Q (.ref t) H'
theorem numsOn_len {p : Prt} (ok : PrOk p) (s : Int) : (numsOn p s).length ≤ 144 := by
  rw [← numsTo_all, numsTo_len]
  have h1 := ok.r2
  have h2 := ok.c2
  have : p.rows.toNat * p.cols.toNat ≤ 12 * 12 := Nat.mul_le_mul (by omega) (by omega)
  omega
/-! ### Sheets: numbers on a sheet are unlike; joined they are the runs -/
theorem mixed {x y n c d : Int} (e : x * n + c = y * n + d) (c0 : 0 ≤ c) (c1 : c < n) (d0 : 0 ≤ d) (d1 : d < n) : x = y ∧ c = d := by
  have h1 : (x * n + c) / n = x := by
    rw [Int.add_comm, Int.add_mul_ediv_right _ _ (by omega), Int.ediv_eq_zero_of_lt c0 c1, Int.zero_add]
  have h2 : (y * n + d) / n = y := by
    rw [Int.add_comm, Int.add_mul_ediv_right _ _ (by omega), Int.ediv_eq_zero_of_lt d0 d1, Int.zero_add]
  have h3 : x = y := by rw [← h1, ← h2, e]
  subst h3
  exact ⟨rfl, by omega⟩
theorem cancel {x y n : Int} (e : x * n = y * n) (h : 1 ≤ n) : x = y := Int.eq_of_mul_eq_mul_right (by omega) e
theorem num_inj {p : Prt} (ok : PrOk p) {s r c r' c' : Int} (r0 : 0 ≤ r) (r1 : r < p.rows) (c0 : 0 ≤ c) (c1 : c < p.cols) (r0' : 0 ≤ r') (r1' : r' < p.rows) (c0' : 0 ≤ c') (c1' : c' < p.cols)
    (e : p.num s r c = p.num s r' c') : r = r' ∧ c = c' := by
  obtain ⟨series, first, cols, rows, sheets, o1, o2, o3⟩ := p
  have s1 := ok.s1
  have d12 := ok.d12
  have d13 := ok.d13
  have d23 := ok.d23
  dsimp only at *
  unfold Prt.num at e
  dsimp only at e
  have e := Int.add_left_cancel e
  cases o1 <;> cases o2 <;> cases o3 <;> first | exact absurd rfl d12 | exact absurd rfl d13 | exact absurd rfl d23 | skip
  all_goals simp only [seatW, Prt.size] at e
  · obtain ⟨h1, h2⟩ := mixed e c0 c1 c0' c1'
    exact ⟨by omega, h2⟩
  · obtain ⟨h1, h2⟩ := mixed e r0 r1 r0' r1'
    exact ⟨h2, by omega⟩
  · obtain ⟨h1, h2⟩ := mixed e c0 c1 c0' c1'
    exact ⟨cancel (n := sheets) (by omega) s1, h2⟩
  · have h1 := cancel (x := r * cols + c) (y := r' * cols + c') (n := sheets) (by omega) s1
    exact mixed h1 c0 c1 c0' c1'
  · obtain ⟨h1, h2⟩ := mixed e r0 r1 r0' r1'
    exact ⟨h2, cancel (n := sheets) (by omega) s1⟩
  · have h1 := cancel (x := c * rows + r) (y := c' * rows + r') (n := sheets) (by omega) s1
    obtain ⟨h2, h3⟩ := mixed h1 r0 r1 r0' r1'
    exact ⟨h3, h2⟩
theorem nums_nodup {p : Prt} (ok : PrOk p) (s : Int) : (numsOn p s).Pairwise (· ≠ ·) := by
  unfold numsOn
  rw [List.pairwise_flatMap]
  refine ⟨fun r hr => ?_, ?_⟩
  · unfold rowNums
    rw [List.pairwise_map]
    refine List.Pairwise.imp_of_mem ?_ List.nodup_range
    intro c c' hc hc' ne e
    have h1 := List.mem_range.mp hr
    have h2 := List.mem_range.mp hc
    have h3 := List.mem_range.mp hc'
    have z := num_inj ok (by omega) (by omega) (by omega) (by omega) (by omega) (by omega) (by omega) (by omega) e
    exact ne (by omega)
  · refine List.Pairwise.imp_of_mem ?_ List.nodup_range
    intro r r' hr hr' ne x hx y hy e
    unfold rowNums at hx hy
    obtain ⟨c, hc, rfl⟩ := List.mem_map.mp hx
    obtain ⟨c', hc', rfl⟩ := List.mem_map.mp hy
    have h1 := List.mem_range.mp hr
    have h2 := List.mem_range.mp hr'
    have h3 := List.mem_range.mp hc
    have h4 := List.mem_range.mp hc'
    have z := num_inj ok (by omega) (by omega) (by omega) (by omega) (by omega) (by omega) (by omega) (by omega) e
    exact ne (by omega)
/-- one number more, as the law joins them -/
def step (s : Str) (acc : List Rn) (n : Int) : List Rn := match acc.getLast? with
  | none => [single s n]
  | some l => if l.2.2 = n then acc.dropLast ++ [(s, l.2.1, n + 1)] else acc ++ [single s n]
theorem step_snoc (s : Str) (acc : List Rn) (l : Rn) (n : Int) : step s (acc ++ [l]) n = if l.2.2 = n then acc ++ [(s, l.2.1, n + 1)] else acc ++ [l] ++ [single s n] := by
  unfold step
  rw [List.getLast?_concat]
  simp only [List.dropLast_concat]
theorem push_step {s : Str} {acc : List Rn} {n : Int} (h : ∀ l, acc.getLast? = some l → l.1 = s ∧ l.2.2 ≤ n) : push acc (single s n) = step s acc n := by
  rcases nil_or_snoc acc with rfl | ⟨i, l, rfl⟩
  · rfl
  · obtain ⟨h1, h2⟩ := h l List.getLast?_concat
    rw [push_snoc, step_snoc]
    have e : apart l (single s n) = decide (l.2.2 < n) := if_pos h1
    rw [e]
    by_cases c : l.2.2 = n
    · rw [if_neg (by rw [decide_eq_true_eq]; omega), if_pos c]
      have m : (if (single s n).2.2 > l.2.2 then (single s n).2.2 else l.2.2) = n + 1 := if_pos (show n + 1 > l.2.2 by omega)
      rw [m, h1]
    · rw [if_pos (by rw [decide_eq_true_eq]; omega), if_neg c]
theorem step_last (s : Str) (acc : List Rn) (n : Int) : ∃ i l, step s acc n = i ++ [l] ∧ l.1 = s ∧ l.2.2 = n + 1 := by
  rcases nil_or_snoc acc with rfl | ⟨i, l, rfl⟩
  · exact ⟨[], single s n, rfl, rfl, rfl⟩
  · rw [step_snoc]
    by_cases c : l.2.2 = n
    · rw [if_pos c]
      exact ⟨_, _, rfl, rfl, rfl⟩
    · rw [if_neg c]
      exact ⟨_, _, rfl, rfl, rfl⟩
theorem fold_step (s : Str) : ∀ (ns : List Int) (acc : List Rn), ns.Pairwise (· < ·) → (∀ l, acc.getLast? = some l → l.1 = s ∧ ∀ n ∈ ns, l.2.2 ≤ n) → (ns.map (single s)).foldl push acc = ns.foldl (step s) acc
  | [], _, _, _ => rfl
  | n :: ns, acc, hp, h => by
    have hp := List.pairwise_cons.mp hp
    rw [List.map_cons, List.foldl_cons, List.foldl_cons, push_step (fun l hl => ⟨(h l hl).1, (h l hl).2 n List.mem_cons_self⟩)]
    refine fold_step s ns _ hp.2 fun l hl => ?_
    obtain ⟨i, l', e, h1, h2⟩ := step_last s acc n
    rw [e, List.getLast?_concat] at hl
    cases hl
    refine ⟨h1, fun m hm => ?_⟩
    have := hp.1 m hm
    omega
theorem single_le (s : Str) (a b : Int) : rnLe (single s a) (single s b) = decide (a ≤ b) := by
  show (!PySem.W.dataLt (rnD (single s b)) (rnD (single s a))) = _
  rw [rn_lt]
  have n : ¬ (single s b).1.cps.toList < (single s a).1.cps.toList := List.lt_irrefl _
  by_cases c : b < a
  · rw [decide_eq_true (Or.inr ⟨rfl, Or.inl c⟩), decide_eq_false (by omega)]
    rfl
  · have z : ¬ ((single s b).1.cps.toList < (single s a).1.cps.toList ∨ (single s b).1 = (single s a).1 ∧ ((single s b).2.1 < (single s a).2.1 ∨ (single s b).2.1 = (single s a).2.1 ∧ (single s b).2.2 < (single s a).2.2)) := by
      rintro (h | ⟨_, h | ⟨_, h⟩⟩)
      · exact n h
      · exact c h
      · have h : b + 1 < a + 1 := h
        omega
    rw [decide_eq_false z, decide_eq_true (by omega)]
    rfl
theorem runsOf_singles {s : Str} {ns ms : List Int} (hp : ms.Perm ns) (hs : ms.Pairwise (· ≤ ·)) (hn : ns.Pairwise (· ≠ ·)) : ms.foldl (step s) [] = runsOf (ns.map (single s)) := by
  unfold runsOf merge
  have e1 : (ns.map (single s)).mergeSort rnLe = (ns.mergeSort fun a b => decide (a ≤ b)).map (single s) := (PySem.W.sort_maps (single s) (fun a _ b _ => (single_le s a b).symm)).symm
  have e2 : ms = ns.mergeSort fun a b => decide (a ≤ b) := by
    refine List.Perm.eq_of_pairwise (le := fun a b => a ≤ b) (fun a b _ _ => Int.le_antisymm) hs ?_ (hp.trans (List.mergeSort_perm _ _).symm)
    have z := List.pairwise_mergeSort (le := fun (a b : Int) => decide (a ≤ b)) (fun a b c h1 h2 => by rw [decide_eq_true_eq] at *; omega) (fun a b => by rw [Bool.or_eq_true, decide_eq_true_eq, decide_eq_true_eq]; omega) ns
    exact z.imp fun h => of_decide_eq_true h
  have lt : ms.Pairwise (· < ·) := by
    have hm : ms.Pairwise (· ≠ ·) := (hp.pairwise_iff (fun h => Ne.symm h)).mpr hn
    exact (hs.and hm).imp fun h => by omega
  rw [e1, ← e2]
  exact (fold_step s ms [] lt fun l hl => nomatch hl).symm
theorem step_len (s : Str) (acc : List Rn) (n : Int) : (step s acc n).length ≤ acc.length + 1 := by
  rcases nil_or_snoc acc with rfl | ⟨i, l, rfl⟩
  · exact Nat.le_refl _
  · rw [step_snoc]
    split <;> simp
theorem steps_len (s : Str) (ns : List Int) : (ns.foldl (step s) []).length ≤ ns.length := by
  have all : ∀ (l : List Int) (acc : List Rn), (l.foldl (step s) acc).length ≤ acc.length + l.length := fun l => by
    induction l with
    | nil => intro acc; simp
    | cons r l ih =>
      intro acc
      have h1 := ih (step s acc r)
      have h2 := step_len s acc r
      rw [List.foldl_cons, List.length_cons]
      omega
  have z := all ns []
  rw [List.length_nil, Nat.zero_add] at z
  exact z
theorem steps_more {s : Str} {l : List Int} {i : Nat} {n : Int} (h : l[i]? = some n) : (l.take (i + 1)).foldl (step s) [] = step s ((l.take i).foldl (step s) []) n := by
  obtain ⟨hi, e⟩ := List.getElem?_eq_some_iff.mp h
  rw [List.take_succ_eq_append_getElem hi, List.foldl_append, e]
  rfl
/-- what a pile's numbers grow by, from the sizes of the words behind "sheet" -/
def stepOf (p : Prt) : Int := match p.o1, p.o2, p.o3 with
  | .sh, b, c => 1 * p.size b * p.size c
  | _, .sh, c => 1 * p.size c
  | _, _, _ => 1
theorem step_of {p : Prt} (ok : PrOk p) (r c : Int) : p.num 1 r c - p.num 0 r c = stepOf p := by
  obtain ⟨series, first, cols, rows, sheets, o1, o2, o3⟩ := p
  have d12 := ok.d12
  have d13 := ok.d13
  have d23 := ok.d23
  dsimp only at *
  unfold Prt.num stepOf
  dsimp only
  cases o1 <;> cases o2 <;> cases o3 <;> first | exact absurd rfl d12 | exact absurd rfl d13 | exact absurd rfl d23 | skip
  all_goals simp only [seatW, Prt.size, Int.zero_mul, Int.one_mul, Int.add_mul, Int.zero_add]
  all_goals omega
def strsW (ws : List Wd) : List V := ws.map fun w => V.str w.s
theorem behind {p : Prt} (ok : PrOk p) : ∃ (j : Nat) (bs : List Wd), [p.o1.s, p.o2.s, p.o3.s][j]? = some Wd.sh.s ∧ (∀ m, m < j → [p.o1.s, p.o2.s, p.o3.s][m]? ≠ some Wd.sh.s) ∧
    cutV (ordV p) (some ((j : Int) + 1)) none = strsW bs ∧ bs.foldl (fun x w => x * p.size w) 1 = stepOf p ∧ j < 3 := by
  obtain ⟨series, first, cols, rows, sheets, o1, o2, o3⟩ := p
  have d12 := ok.d12
  have d13 := ok.d13
  have d23 := ok.d23
  dsimp only at *
  cases o1 <;> cases o2 <;> cases o3 <;> first | exact absurd rfl d12 | exact absurd rfl d13 | exact absurd rfl d23 | skip
  · exact ⟨0, [.ro, .co], rfl, fun m hm => absurd hm (Nat.not_lt_zero _), rfl, rfl, by decide⟩
  · exact ⟨0, [.co, .ro], rfl, fun m hm => absurd hm (Nat.not_lt_zero _), rfl, rfl, by decide⟩
  · refine ⟨1, [.co], rfl, fun m hm => ?_, rfl, rfl, by decide⟩
    obtain rfl : m = 0 := by omega
    decide +kernel
  · refine ⟨2, [], rfl, fun m hm => ?_, rfl, rfl, by decide⟩
    rcases (show m = 0 ∨ m = 1 by omega) with rfl | rfl <;> decide +kernel
  · refine ⟨1, [.ro], rfl, fun m hm => ?_, rfl, rfl, by decide⟩
    obtain rfl : m = 0 := by omega
    decide +kernel
  · refine ⟨2, [], rfl, fun m hm => ?_, rfl, rfl, by decide⟩
    rcases (show m = 0 ∨ m = 1 by omega) with rfl | rfl <;> decide +kernel
theorem PrOk.thin1 {p : Prt} (ok : PrOk p) : PrOk { p with sheets := 1 } := by
  have h1 := ok.most
  have h2 : p.cols * p.rows * 1 ≤ p.cols * p.rows * p.sheets := Int.mul_le_mul_of_nonneg_left ok.s1 (Int.mul_nonneg (by have := ok.c1; omega) (by have := ok.r1; omega))
  exact ⟨ok.len, ok.f0, ok.c1, ok.c2, ok.r1, ok.r2, Int.le_refl 1, (show (1 : Int) ≤ 1000000 by decide), by show p.first + p.cols * p.rows * 1 ≤ _; omega, ok.d12, ok.d13, ok.d23, ok.chr⟩
theorem PrOk.thin2 {p : Prt} (ok : PrOk p) : PrOk { p with cols := 1 } := by
  have h1 := ok.most
  have h3 := ok.s1
  have h4 := ok.r1
  have h2 : 1 * p.rows * p.sheets ≤ p.cols * p.rows * p.sheets := Int.mul_le_mul_of_nonneg_right (Int.mul_le_mul_of_nonneg_right ok.c1 (by omega)) (by omega)
  exact ⟨ok.len, ok.f0, Int.le_refl 1, (show (1 : Int) ≤ 12 by decide), ok.r1, ok.r2, ok.s1, ok.s2, by show p.first + 1 * p.rows * p.sheets ≤ _; omega, ok.d12, ok.d13, ok.d23, ok.chr⟩
theorem PrOk.thin3 {p : Prt} (ok : PrOk p) : PrOk { p with rows := 1 } := by
  have h1 := ok.most
  have h3 := ok.s1
  have h4 := ok.c1
  have h2 : p.cols * 1 * p.sheets ≤ p.cols * p.rows * p.sheets := Int.mul_le_mul_of_nonneg_right (Int.mul_le_mul_of_nonneg_left ok.r1 (by omega)) (by omega)
  exact ⟨ok.len, ok.f0, ok.c1, ok.c2, Int.le_refl 1, (show (1 : Int) ≤ 12 by decide), ok.s1, ok.s2, by show p.first + p.cols * 1 * p.sheets ≤ _; omega, ok.d12, ok.d13, ok.d23, ok.chr⟩
/-- right printings at these places -/
def PrsAt (H : Hp) (as : List Addr) (ps : List Prt) : Prop := Paired (fun (a : Addr) (p : Prt) => PrAt H a p ∧ PrOk p) as ps
theorem PrsAt.same {H H' : Hp} (s : Same H H') : ∀ {as : List Addr} {ps : List Prt}, PrsAt H as ps → PrsAt H' as ps
  | _, _, .nil => .nil
  | _, _, .cons a b => .cons ⟨a.1.same s, a.2⟩ (PrsAt.same s b)
theorem PrsAt.but {H H' : Hp} {f c : Addr} {n : Int} (hf : Fd H f c n) (s : But f H H') : ∀ {as : List Addr} {ps : List Prt}, PrsAt H as ps → PrsAt H' as ps
  | _, _, .nil => .nil
  | _, _, .cons a b => .cons ⟨a.1.but hf s, a.2⟩ (PrsAt.but hf s b)
theorem PrsAt.get {H : Hp} : ∀ {as : List Addr} {ps : List Prt} {i : Nat} {a : Addr}, PrsAt H as ps → as[i]? = some a → ∃ p, ps[i]? = some p ∧ PrAt H a p ∧ PrOk p
  | _, _, 0, _, .cons a _, h => by
    cases h
    exact ⟨_, rfl, a.1, a.2⟩
  | _, _, i + 1, a, .cons _ b, h => PrsAt.get (i := i) (a := a) b h
def spPrints : Sp := fun vs H Q _ => ∃ (f c : Addr) (n : Int), vs = [.ref f] ∧ Fd H f c n ∧ n ≤ 700000 ∧
  ∀ (l : Addr) (as : List Addr) (ps : List Prt) (H' : Hp), Fd H' f c (n + 50) → But f H H' → l ≠ f → H' l = some (.lst (as.map V.ref)) → PrsAt H' as ps → as.length = 4 → Q (.ref l) H'
/-! ### How long a repr is -/
mutual
def cost : PyData → Nat
  | .none => 4
  | .bool _ => 5
  | .int _ => 2000
  | .str x => 10 * x.length + 2
  | .list xs => costAll xs + 3
  | .tuple xs => costAll xs + 3
  | .dict _ => 0
def costAll : List PyData → Nat
  | [] => 0
  | x :: xs => cost x + 2 + costAll xs
end
mutual
def fineD : PyData → Bool
  | .none => true
  | .bool _ => true
  | .int i => decide (i.natAbs.log2 < 1920)
  | .str x => x.cps.toList.all fun c => decide (c < 16 ^ 8)
  | .list xs => fineAll xs
  | .tuple xs => fineAll xs
  | .dict _ => false
def fineAll : List PyData → Bool
  | [] => true
  | x :: xs => fineD x && fineAll xs
end
theorem from_len : ∀ (ts : List Str) (k : Nat) (acc : Str), (textFrom k acc ts).length ≤ acc.length + piled ts
  | [], k, acc => by
    unfold textFrom
    exact Nat.le_add_right _ _
  | t :: ts, k, acc => by
    unfold textFrom
    rw [piled_cons]
    have z := from_len ts (k + 1) (acc ++ (if k > 0 then ", " else "" : String) ++ t)
    have e : (((if k > 0 then ", " else "" : String) : Str)).length ≤ 2 := by split <;> decide +kernel
    rw [strLen_append, strLen_append] at z
    omega
theorem tup_len (ts : List Str) : (tupleText ts).length ≤ piled ts + 3 := by
  have e1 : ((("(" : String) : Str)).length = 1 := rfl
  have e3 : (((if ts.length == 1 then ",)" else ")" : String) : Str)).length ≤ 2 := by split <;> decide +kernel
  unfold tupleText
  rw [strLen_append, strLen_append, e1]
  cases ts with
  | nil =>
    have : (Str.join ", " []).length = 0 := rfl
    omega
  | cons t ts =>
    have := join_length_add (t :: ts) (fun z => nomatch z)
    omega
mutual
theorem shown_cost : ∀ d : PyData, fineD d = true → d.shown.length ≤ cost d
  | .none, _ => by decide +kernel
  | .bool b, _ => by cases b <;> decide +kernel
  | .int i, h => by
    have := int_text_len_1921 (of_decide_eq_true h)
    unfold PyData.shown cost
    omega
  | .str x, h => StrLaws.reprText_len x fun c hc => of_decide_eq_true (List.all_eq_true.mp h c hc)
  | .list xs, h => by
    have z := shown_costAll xs h
    have y := from_len (PyData.shownAll xs) 0 "["
    have e : (("[" : String) : Str).length = 1 := rfl
    have e2 : (("]" : String) : Str).length = 1 := rfl
    unfold PyData.shown cost listText
    rw [strLen_append, e2]
    rw [e] at y
    omega
  | .tuple xs, h => by
    have z := shown_costAll xs h
    have y := tup_len (PyData.shownAll xs)
    unfold PyData.shown cost
    omega
theorem shown_costAll : ∀ xs : List PyData, fineAll xs = true → piled (PyData.shownAll xs) ≤ costAll xs
  | [], _ => Nat.zero_le _
  | x :: xs, h => by
    have h := Bool.and_eq_true_iff.mp h
    have z1 := shown_cost x h.1
    have z2 := shown_costAll xs h.2
    unfold PyData.shownAll costAll
    rw [piled_cons]
    omega
end
mutual
theorem fine_show : ∀ d : PyData, fineD d = true → d.showable = true ∧ d.hasDict = false
  | .none, _ => ⟨rfl, rfl⟩
  | .bool b, _ => ⟨rfl, rfl⟩
  | .int i, h => ⟨h, rfl⟩
  | .str x, h => ⟨rfl, rfl⟩
  | .list xs, h => fine_showAll xs h
  | .tuple xs, h => fine_showAll xs h
theorem fine_showAll : ∀ xs : List PyData, fineAll xs = true → PyData.showableAll xs = true ∧ PyData.hasDictAll xs = false
  | [], _ => ⟨rfl, rfl⟩
  | x :: xs, h => by
    have h := Bool.and_eq_true_iff.mp h
    have z1 := fine_show x h.1
    have z2 := fine_showAll xs h.2
    unfold PyData.showableAll PyData.hasDictAll
    rw [z1.1, z1.2, z2.1, z2.2]
    exact ⟨rfl, rfl⟩
end
theorem log_small {n : Nat} (h : n < 2 ^ 64) : n.log2 < 1920 := by
  by_cases z : n = 0
  · subst z
    decide +kernel
  · exact (Nat.log2_lt z).mpr (Nat.lt_of_lt_of_le h (Nat.pow_le_pow_right (by decide) (by decide)))
theorem int_fine {i : Int} (h0 : -1000000000000 ≤ i) (h1 : i ≤ 1000000000000) : fineD (.int i) = true := decide_eq_true (log_small (by omega))
def prD (p : Prt) : PyData := .tuple [.str p.series, .int p.first, .int p.cols, .int p.rows, .int p.sheets, .tuple [.str p.o1.s, .str p.o2.s, .str p.o3.s]]
theorem PrAt.dp {K : PySem.W.Frag} {H : Hp} {a : Addr} {p : Prt} (h : PrAt H a p) : Dp K H (.ref a) (prD p) := by
  obtain ⟨t, h1, o, h2, _⟩ := h
  exact .tup (SqT.of h1) (.cons (.str _) (.cons (.int _) (.cons (.int _) (.cons (.int _) (.cons (.int _) (.cons (.tup (sqF h2) (.cons (.str _) (.cons (.str _) (.cons (.str _) .nil)))) .nil))))))
theorem word_fine (u : Wd) : fineD (.str u.s) = true := by cases u <;> decide +kernel
theorem PrOk.fine {p : Prt} (ok : PrOk p) : fineD (prD p) = true := by
  have h1 := ok.f0; have h2 := ok.c1; have h3 := ok.c2; have h4 := ok.r1; have h5 := ok.r2; have h6 := ok.s1; have h7 := ok.s2; have h8 := ok.most
  have h9 := (prod_bound (c := p.cols) (r := p.rows) (s := p.sheets) (by omega) h3 (by omega) h5 (by omega) h7).1
  show (fineD (.str p.series) && (fineD (.int p.first) && (fineD (.int p.cols) && (fineD (.int p.rows) && (fineD (.int p.sheets) && ((fineD (.str p.o1.s) && (fineD (.str p.o2.s) && (fineD (.str p.o3.s) && true))) && true)))))) = true
  have e0 : fineD (.str p.series) = true := ok.chr
  rw [e0, int_fine (by omega) (by omega), int_fine (by omega) (by omega), int_fine (by omega) (by omega), int_fine (by omega) (by omega), word_fine, word_fine, word_fine]
  rfl
theorem word_cost (u : Wd) : cost (.str u.s) ≤ 62 := by cases u <;> decide +kernel
theorem PrOk.cost {p : Prt} (ok : PrOk p) : cost (prD p) ≤ 9000 := by
  have h := ok.len
  have h1 := word_cost p.o1; have h2 := word_cost p.o2; have h3 := word_cost p.o3
  simp only [prD, Pn.cost, costAll] at *
  omega
theorem PrsAt.dp {K : PySem.W.Frag} {H : Hp} : ∀ {as : List Addr} {ps : List Prt}, PrsAt H as ps → DpAll K H (as.map V.ref) (ps.map prD)
  | _, _, .nil => .nil
  | _, _, .cons a b => .cons a.1.dp (PrsAt.dp b)
theorem PrsAt.fine {H : Hp} : ∀ {as : List Addr} {ps : List Prt}, PrsAt H as ps → fineAll (ps.map prD) = true ∧ costAll (ps.map prD) ≤ 9002 * ps.length ∧ as.length = ps.length
  | _, _, .nil => ⟨rfl, Nat.le_refl _, rfl⟩
  | _, _, .cons (l₂ := l) a b => by
    obtain ⟨z1, z2, z3⟩ := PrsAt.fine b
    have y1 := a.2.fine
    have y2 := a.2.cost
    refine ⟨?_, ?_, congrArg (· + 1) z3⟩
    · rw [List.map_cons]
      unfold fineAll
      rw [y1, z1]
      rfl
    · rw [List.map_cons, List.length_cons]
      unfold costAll
      omega
theorem prs_depth (ps : List Prt) : (PyData.list (ps.map prD)).depth ≤ 60 := by
  have all : ∀ l : List Prt, PyData.depthAll (l.map prD) ≤ 4 := fun l => by
    induction l with
    | nil => simp [PyData.depthAll]
    | cons p l ih =>
      rw [List.map_cons]
      simp only [PyData.depthAll, prD, PyData.depth] at *
      omega
  have z := all ps
  simp only [PyData.depth]
  omega
def rnsD (rs : List Rn) : PyData := .tuple (rs.map rnD)
theorem rns_nice {rs : List Rn} (h : rs.length ≤ 100000) : Nice 2 (rnsD rs) := by
  refine Or.inr ⟨_, Or.inr rfl, by rw [List.length_map]; exact h, fun e he => ?_⟩
  obtain ⟨r, _, rfl⟩ := List.mem_map.mp he
  refine Or.inr ⟨_, Or.inr rfl, (show 3 ≤ 100000 by decide), fun e he => ?_⟩
  rcases List.mem_cons.mp he with rfl | he
  · exact Nice.flat rfl
  rcases List.mem_cons.mp he with rfl | he
  · exact Nice.flat rfl
  rcases List.mem_cons.mp he with rfl | he
  · exact Nice.flat rfl
  · exact nomatch he
theorem runsOf_len (rs : List Rn) : (runsOf rs).length ≤ rs.length := by
  unfold runsOf
  have z := merge_len (rs.mergeSort rnLe)
  rw [List.length_mergeSort] at z
  exact z
theorem prd_dp {K : PySem.W.Frag} {H : Hp} {t : Addr} {qs : List Addr} {rs : List Rn} (h : H t = some (.tup (qs.map V.ref))) (hq : Prd H qs rs) : Dp K H (.ref t) (rnsD rs) := .tup (SqT.of h) (Prd.dp hq)
def intsD (ns : List Int) : PyData := .tuple (ns.map .int)
theorem ints_dp {K : PySem.W.Frag} {H : Hp} {t : Addr} {ns : List Int} (h : H t = some (.tup (ns.map V.int))) : Dp K H (.ref t) (intsD ns) := by
  refine .tup (SqT.of h) ?_
  clear h
  induction ns with
  | nil => exact .nil
  | cons n ns ih => exact .cons (.int n) ih
theorem ints_nice {ns : List Int} (h : ns.length ≤ 100000) : Nice 2 (intsD ns) := by
  refine Or.inr ⟨_, Or.inr rfl, by rw [List.length_map]; exact h, fun e he => ?_⟩
  obtain ⟨r, _, rfl⟩ := List.mem_map.mp he
  exact Nice.flat rfl
def spLaw (K : PySem.W.Frag) : Sp := fun vs H Q _ => ∃ (a : Addr) (ns : List Int), vs = [.ref a] ∧ SqL K H a (ns.map V.int) ∧ ∀ H', Q (.bl true) H'
/-! ### The one writing of a set of notes -/
def sl (a b : Str) : Prop := a.cps.toList < b.cps.toList
theorem sl_irr (a : Str) : ¬ sl a a := List.lt_irrefl _
theorem sl_tr {a b c : Str} (h : sl a b) (k : sl b c) : sl a c := List.lt_trans h k
theorem sl_as {a b : Str} (h : sl a b) (k : sl b a) : False := sl_irr a (sl_tr h k)
theorem sl_tot (a b : Str) : sl a b ∨ a = b ∨ sl b a := by
  by_cases h1 : sl a b
  · exact .inl h1
  by_cases h2 : sl b a
  · exact .inr (.inr h2)
  refine .inr (.inl ?_)
  have e : a.cps.toList = b.cps.toList := List.le_antisymm (List.not_lt.mp h2) (List.not_lt.mp h1)
  cases a
  cases b
  exact congrArg Str.mk (Array.toList_inj.mp e)
def has (rs : List Rn) (s : Str) (n : Int) : Prop := ∃ r ∈ rs, r.1 = s ∧ r.2.1 ≤ n ∧ n < r.2.2
def Full (rs : List Rn) : Prop := ∀ r ∈ rs, r.2.1 < r.2.2
def Canon (rs : List Rn) : Prop := rs.Pairwise (fun a b => apart a b = true) ∧ Full rs
theorem apart_iff (a b : Rn) : apart a b = true ↔ (a.1 = b.1 ∧ a.2.2 < b.2.1) ∨ sl a.1 b.1 := by
  unfold apart
  by_cases e : a.1 = b.1
  · rw [if_pos e, decide_eq_true_eq]
    refine ⟨fun h => .inl ⟨e, h⟩, ?_⟩
    rintro (h | h)
    · exact h.2
    · rw [e] at h
      exact (sl_irr _ h).elim
  · rw [if_neg e, decide_eq_true_eq]
    refine ⟨.inr, ?_⟩
    rintro (h | h)
    · exact absurd h.1 e
    · exact h
theorem apart_tr {a b c : Rn} (h : apart a b = true) (f : b.2.1 < b.2.2) (k : apart b c = true) : apart a c = true := by
  rw [apart_iff] at *
  rcases h with ⟨h1, h2⟩ | h <;> rcases k with ⟨k1, k2⟩ | k
  · exact .inl ⟨h1.trans k1, by omega⟩
  · exact .inr (h1 ▸ k)
  · exact .inr (k1 ▸ h)
  · exact .inr (sl_tr h k)
theorem has_cons (x : Rn) (rs : List Rn) (s : Str) (n : Int) : has (x :: rs) s n ↔ (x.1 = s ∧ x.2.1 ≤ n ∧ n < x.2.2) ∨ has rs s n := by
  unfold has
  constructor
  · rintro ⟨r, h, k⟩
    rcases List.mem_cons.mp h with rfl | h
    · exact .inl k
    · exact .inr ⟨r, h, k⟩
  · rintro (k | ⟨r, h, k⟩)
    · exact ⟨x, List.mem_cons_self, k⟩
    · exact ⟨r, List.mem_cons_of_mem _ h, k⟩
theorem has_nil (s : Str) (n : Int) : ¬ has [] s n := fun ⟨_, h, _⟩ => nomatch h
theorem has_app (a b : List Rn) (s : Str) (n : Int) : has (a ++ b) s n ↔ has a s n ∨ has b s n := by
  unfold has
  constructor
  · rintro ⟨r, h, k⟩
    rcases List.mem_append.mp h with h | h
    · exact .inl ⟨r, h, k⟩
    · exact .inr ⟨r, h, k⟩
  · rintro (⟨r, h, k⟩ | ⟨r, h, k⟩)
    · exact ⟨r, List.mem_append_left _ h, k⟩
    · exact ⟨r, List.mem_append_right _ h, k⟩
/-- all notes behind the first run -/
theorem canon_first {x : Rn} {rs : List Rn} (h : Canon (x :: rs)) {s : Str} {n : Int} (k : has rs s n) : (x.1 = s ∧ x.2.2 < n) ∨ sl x.1 s := by
  obtain ⟨r, hr, rfl, k1, k2⟩ := k
  rcases (apart_iff x r).mp ((List.pairwise_cons.mp h.1).1 r hr) with ⟨e, l⟩ | l
  · exact .inl ⟨e, by omega⟩
  · exact .inr l
theorem Canon.tail {x : Rn} {rs : List Rn} (h : Canon (x :: rs)) : Canon rs := ⟨(List.pairwise_cons.mp h.1).2, fun r hr => h.2 r (List.mem_cons_of_mem _ hr)⟩
theorem canon_uniq : ∀ {a b : List Rn}, Canon a → Canon b → (∀ s n, has a s n ↔ has b s n) → a = b
  | [], [], _, _, _ => rfl
  | [], y :: b, _, hb, h => by
    have z := (h y.1 y.2.1).mpr ⟨y, List.mem_cons_self, rfl, Int.le_refl _, hb.2 y List.mem_cons_self⟩
    exact (has_nil _ _ z).elim
  | x :: a, [], ha, _, h => by
    have z := (h x.1 x.2.1).mp ⟨x, List.mem_cons_self, rfl, Int.le_refl _, ha.2 x List.mem_cons_self⟩
    exact (has_nil _ _ z).elim
  | x :: a, y :: b, ha, hb, h => by
    have fx := ha.2 x List.mem_cons_self
    have fy := hb.2 y List.mem_cons_self
    have lo : ∀ {x y : Rn} {a b : List Rn}, Canon (x :: a) → Canon (y :: b) → (∀ s n, has (x :: a) s n → has (y :: b) s n) → (y.1 = x.1 ∧ y.2.1 ≤ x.2.1) ∨ sl y.1 x.1 := fun {x y a b} ha hb h => by
      have fy := hb.2 y List.mem_cons_self
      rcases (has_cons _ _ _ _).mp (h x.1 x.2.1 ⟨x, List.mem_cons_self, rfl, Int.le_refl _, ha.2 x List.mem_cons_self⟩) with ⟨e, k, _⟩ | k
      · exact .inl ⟨e, k⟩
      · rcases canon_first hb k with ⟨e, k⟩ | k
        · exact .inl ⟨e, by omega⟩
        · exact .inr k
    have l1 := lo ha hb fun s n => (h s n).mp
    have l2 := lo hb ha fun s n => (h s n).mpr
    have e1 : x.1 = y.1 ∧ x.2.1 = y.2.1 := by
      rcases l1 with ⟨e, k⟩ | k <;> rcases l2 with ⟨e', k'⟩ | k'
      · exact ⟨e', by omega⟩
      · exact (sl_irr _ (e ▸ k')).elim
      · exact (sl_irr _ (e' ▸ k)).elim
      · exact (sl_as k k').elim
    have hi : ∀ {x y : Rn} {a b : List Rn}, Canon (x :: a) → Canon (y :: b) → x.1 = y.1 → x.2.1 = y.2.1 → (∀ s n, has (y :: b) s n → has (x :: a) s n) → ¬ x.2.2 < y.2.2 := fun {x y a b} ha hb e1 e2 h lt => by
      have fx := ha.2 x List.mem_cons_self
      rcases (has_cons _ _ _ _).mp (h x.1 x.2.2 ⟨y, List.mem_cons_self, e1.symm, by omega, lt⟩) with ⟨_, _, k⟩ | k
      · omega
      · rcases canon_first ha k with ⟨_, k⟩ | k
        · omega
        · exact sl_irr _ k
    have h1 := hi ha hb e1.1 e1.2 fun s n => (h s n).mpr
    have h2 := hi hb ha e1.1.symm e1.2.symm fun s n => (h s n).mp
    have e : x = y := Prod.ext e1.1 (Prod.ext e1.2 (by omega))
    subst e
    have off : ∀ {l : List Rn}, Canon (x :: l) → ∀ s n, has l s n → ¬ (x.1 = s ∧ x.2.1 ≤ n ∧ n < x.2.2) := fun {l} hl s n k z => by
      rcases canon_first hl k with ⟨_, k⟩ | k
      · omega
      · exact sl_irr _ (z.1 ▸ k)
    refine congrArg (x :: ·) (canon_uniq ha.tail hb.tail fun s n => ⟨fun k => ?_, fun k => ?_⟩)
    · rcases (has_cons _ _ _ _).mp ((h s n).mp ((has_cons _ _ _ _).mpr (.inr k))) with z | z
      · exact (off ha s n k z).elim
      · exact z
    · rcases (has_cons _ _ _ _).mp ((h s n).mpr ((has_cons _ _ _ _).mpr (.inr k))) with z | z
      · exact (off hb s n k z).elim
      · exact z
/-- not ahead of -/
def Wk (a b : Rn) : Prop := (a.1 = b.1 ∧ a.2.1 ≤ b.2.1) ∨ sl a.1 b.1
theorem push_ok {acc : List Rn} {r : Rn} (ha : Canon acc) (hw : ∀ x, acc.getLast? = some x → Wk x r) (f : r.2.1 < r.2.2) :
    Canon (push acc r) ∧ (∀ s n, has (push acc r) s n ↔ has acc s n ∨ (r.1 = s ∧ r.2.1 ≤ n ∧ n < r.2.2)) ∧ ∀ x, (push acc r).getLast? = some x → x.1 = r.1 ∧ x.2.1 ≤ r.2.1 := by
  rcases nil_or_snoc acc with rfl | ⟨i, l, rfl⟩
  · refine ⟨⟨List.pairwise_singleton _ _, fun x hx => ?_⟩, fun s n => ?_, fun x hx => ?_⟩
    · rw [List.mem_singleton.mp hx]
      exact f
    · show has [r] s n ↔ _
      rw [has_cons]
      exact Or.comm
    · cases (Option.some.inj hx)
      exact ⟨rfl, Int.le_refl _⟩
  have w := hw l List.getLast?_concat
  obtain ⟨p1, p2, p3⟩ := List.pairwise_append.mp ha.1
  have fl := ha.2 l (List.mem_append_right _ List.mem_cons_self)
  rw [push_snoc]
  by_cases ap : apart l r = true
  · rw [if_pos ap]
    refine ⟨⟨List.pairwise_append.mpr ⟨ha.1, List.pairwise_singleton _ _, fun x hx y hy => ?_⟩, fun x hx => ?_⟩, fun s n => ?_, fun x hx => ?_⟩
    · rw [List.mem_singleton.mp hy]
      rcases List.mem_append.mp hx with hx | hx
      · exact apart_tr (p3 x hx l List.mem_cons_self) fl ap
      · rw [List.mem_singleton.mp hx]
        exact ap
    · rcases List.mem_append.mp hx with hx | hx
      · exact ha.2 x hx
      · rw [List.mem_singleton.mp hx]
        exact f
    · rw [has_app, has_cons]
      simp only [has_nil, or_false]
    · rw [List.getLast?_concat] at hx
      cases (Option.some.inj hx)
      exact ⟨rfl, Int.le_refl _⟩
  · rw [if_neg ap]
    have na : ¬ ((l.1 = r.1 ∧ l.2.2 < r.2.1) ∨ sl l.1 r.1) := fun z => ap ((apart_iff l r).mpr z)
    have w1 : l.1 = r.1 ∧ l.2.1 ≤ r.2.1 := w.resolve_right fun z => na (.inr z)
    have w2 : r.2.1 ≤ l.2.2 := Int.not_lt.mp fun z => na (.inl ⟨w1.1, z⟩)
    generalize hm : (if r.2.2 > l.2.2 then r.2.2 else l.2.2) = m
    have m1 : m = r.2.2 ∧ l.2.2 < r.2.2 ∨ m = l.2.2 ∧ r.2.2 ≤ l.2.2 := by
      split at hm <;> omega
    refine ⟨⟨List.pairwise_append.mpr ⟨p1, List.pairwise_singleton _ _, fun x hx y hy => ?_⟩, fun x hx => ?_⟩, fun s n => ?_, fun x hx => ?_⟩
    · rw [List.mem_singleton.mp hy]
      have z := p3 x hx l List.mem_cons_self
      rw [apart_iff] at z ⊢
      exact z
    · rcases List.mem_append.mp hx with hx | hx
      · exact ha.2 x (List.mem_append_left _ hx)
      · rw [List.mem_singleton.mp hx]
        show l.2.1 < m
        omega
    · rw [has_app, has_app, has_cons, has_cons]
      simp only [has_nil, or_false]
      rw [or_assoc]
      refine or_congr Iff.rfl ⟨fun ⟨h1, h2, h3⟩ => ?_, ?_⟩
      · by_cases c : n < l.2.2
        · exact .inl ⟨h1, h2, c⟩
        · exact .inr ⟨w1.1 ▸ h1, by omega, by omega⟩
      · rintro (⟨h1, h2, h3⟩ | ⟨h1, h2, h3⟩)
        · exact ⟨h1, h2, show n < m by omega⟩
        · exact ⟨w1.1.trans h1, show l.2.1 ≤ n by omega, show n < m by omega⟩
    · rw [List.getLast?_concat] at hx
      cases (Option.some.inj hx)
      exact w1
theorem fold_ok : ∀ (l acc : List Rn), Canon acc → (∀ x, acc.getLast? = some x → ∀ r ∈ l, Wk x r) → l.Pairwise Wk → Full l →
    Canon (l.foldl push acc) ∧ ∀ s n, has (l.foldl push acc) s n ↔ has acc s n ∨ has l s n
  | [], acc, ha, _, _, _ => ⟨ha, fun s n => by simp only [List.foldl_nil, has_nil, or_false]⟩
  | r :: l, acc, ha, hw, hp, hf => by
    obtain ⟨q1, q2⟩ := List.pairwise_cons.mp hp
    obtain ⟨z1, z2, z3⟩ := push_ok ha (fun x hx => hw x hx r List.mem_cons_self) (hf r List.mem_cons_self)
    obtain ⟨y1, y2⟩ := fold_ok l (push acc r) z1 (fun x hx u hu => by
      obtain ⟨e, k⟩ := z3 x hx
      rcases q1 u hu with ⟨e', k'⟩ | k'
      · exact .inl ⟨e.trans e', by omega⟩
      · exact .inr (e ▸ k')) q2 fun x hx => hf x (List.mem_cons_of_mem _ hx)
    refine ⟨y1, fun s n => ?_⟩
    rw [List.foldl_cons, y2, z2, has_cons, or_assoc]
theorem canon_nil : Canon [] := ⟨List.Pairwise.nil, fun _ h => nomatch h⟩
theorem merge_ok {l : List Rn} (hp : l.Pairwise Wk) (hf : Full l) : Canon (merge l) ∧ ∀ s n, has (merge l) s n ↔ has l s n := by
  obtain ⟨y1, y2⟩ := fold_ok l [] canon_nil (fun x hx => nomatch hx) hp hf
  refine ⟨y1, fun s n => (y2 s n).trans ?_⟩
  simp only [has_nil, false_or]
theorem rnLe_iff (a b : Rn) : rnLe a b = true ↔ sl a.1 b.1 ∨ (a.1 = b.1 ∧ (a.2.1 < b.2.1 ∨ (a.2.1 = b.2.1 ∧ a.2.2 ≤ b.2.2))) := by
  have e : rnLe a b = !PySem.W.dataLt (rnD b) (rnD a) := rfl
  rw [e, rn_lt, Bool.not_eq_true', decide_eq_false_iff_not]
  constructor
  · intro h
    rcases sl_tot a.1 b.1 with k | k | k
    · exact .inl k
    · refine .inr ⟨k, ?_⟩
      by_cases c : a.2.1 < b.2.1
      · exact .inl c
      · refine .inr ⟨?_, ?_⟩
        · by_cases d : b.2.1 < a.2.1
          · exact (h (.inr ⟨k.symm, .inl d⟩)).elim
          · omega
        · by_cases d : b.2.2 < a.2.2
          · by_cases d2 : b.2.1 < a.2.1
            · exact (h (.inr ⟨k.symm, .inl d2⟩)).elim
            · exact (h (.inr ⟨k.symm, .inr ⟨by omega, d⟩⟩)).elim
          · omega
    · exact (h (.inl k)).elim
  · rintro (k | ⟨e, k⟩) (h | ⟨e', h⟩)
    · exact sl_as k h
    · rw [e'] at k
      exact sl_irr _ k
    · have h : sl b.1 a.1 := h
      rw [e] at h
      exact sl_irr _ h
    · omega
theorem sort_Wk (rs : List Rn) : (rs.mergeSort rnLe).Pairwise Wk := by
  have z := List.pairwise_mergeSort (le := rnLe) (fun a b c h1 h2 => ?_) (fun a b => ?_) rs
  · refine z.imp fun {a b} h => ?_
    rcases (rnLe_iff a b).mp h with k | ⟨e, k⟩
    · exact .inr k
    · exact .inl ⟨e, by omega⟩
  · rw [rnLe_iff] at *
    rcases h1 with k | ⟨e, k⟩ <;> rcases h2 with k' | ⟨e', k'⟩
    · exact .inl (sl_tr k k')
    · exact .inl (e' ▸ k)
    · exact .inl (e ▸ k')
    · exact .inr ⟨e.trans e', by omega⟩
  · rw [Bool.or_eq_true, rnLe_iff, rnLe_iff]
    rcases sl_tot a.1 b.1 with k | k | k
    · exact .inl (.inl k)
    · by_cases c : a.2.1 < b.2.1 ∨ a.2.1 = b.2.1 ∧ a.2.2 ≤ b.2.2
      · exact .inl (.inr ⟨k, c⟩)
      · exact .inr (.inr ⟨k.symm, by omega⟩)
    · exact .inr (.inl k)
theorem has_perm {a b : List Rn} (h : ∀ r, r ∈ a ↔ r ∈ b) (s : Str) (n : Int) : has a s n ↔ has b s n :=
  ⟨fun ⟨r, h1, h2⟩ => ⟨r, (h r).mp h1, h2⟩, fun ⟨r, h1, h2⟩ => ⟨r, (h r).mpr h1, h2⟩⟩
theorem runsOf_ok {rs : List Rn} (hf : Full rs) : Canon (runsOf rs) ∧ ∀ s n, has (runsOf rs) s n ↔ has rs s n := by
  obtain ⟨y1, y2⟩ := merge_ok (sort_Wk rs) fun r hr => hf r (List.mem_mergeSort.mp hr)
  exact ⟨y1, fun s n => (y2 s n).trans (has_perm (fun r => List.mem_mergeSort) s n)⟩
theorem runsOf_eq {rs c : List Rn} (hf : Full rs) (hc : Canon c) (h : ∀ s n, has c s n ↔ has rs s n) : runsOf rs = c := by
  obtain ⟨y1, y2⟩ := runsOf_ok hf
  exact canon_uniq y1 hc fun s n => (y2 s n).trans (h s n).symm
/-! pieces joined, as the laws do it -/
def join (acc : List Rn) (r : Rn) : List Rn := match acc.getLast? with
  | none => [r]
  | some l => if l.1 = r.1 ∧ l.2.2 = r.2.1 then acc.dropLast ++ [(r.1, l.2.1, r.2.2)] else acc ++ [r]
theorem join_snoc (acc : List Rn) (l r : Rn) : join (acc ++ [l]) r = if l.1 = r.1 ∧ l.2.2 = r.2.1 then acc ++ [(r.1, l.2.1, r.2.2)] else acc ++ [l] ++ [r] := by
  unfold join
  rw [List.getLast?_concat]
  simp only [List.dropLast_concat]
/-- one behind the other, touching perhaps -/
def Vk (a b : Rn) : Prop := (a.1 = b.1 ∧ a.2.2 ≤ b.2.1) ∨ sl a.1 b.1
theorem join_push {acc : List Rn} {r : Rn} (hw : ∀ x, acc.getLast? = some x → Vk x r) (f : r.2.1 < r.2.2) : join acc r = push acc r ∧ ∀ x, (push acc r).getLast? = some x → x.1 = r.1 ∧ x.2.2 = r.2.2 := by
  rcases nil_or_snoc acc with rfl | ⟨i, l, rfl⟩
  · refine ⟨rfl, fun x hx => ?_⟩
    cases (Option.some.inj hx)
    exact ⟨rfl, rfl⟩
  have w := hw l List.getLast?_concat
  rw [join_snoc, push_snoc]
  by_cases c : l.1 = r.1 ∧ l.2.2 = r.2.1
  · have ap : ¬ apart l r = true := fun z => by
      rcases (apart_iff l r).mp z with ⟨_, z⟩ | z
      · omega
      · exact sl_irr _ (c.1 ▸ z)
    rw [if_pos c, if_neg ap, if_pos (by omega), c.1]
    refine ⟨rfl, fun x hx => ?_⟩
    rw [List.getLast?_concat] at hx
    cases (Option.some.inj hx)
    exact ⟨rfl, rfl⟩
  · have ap : apart l r = true := by
      rw [apart_iff]
      rcases w with ⟨e, k⟩ | k
      · exact .inl ⟨e, by have : l.2.2 ≠ r.2.1 := fun z => c ⟨e, z⟩; omega⟩
      · exact .inr k
    rw [if_neg c, if_pos ap]
    refine ⟨rfl, fun x hx => ?_⟩
    rw [List.getLast?_concat] at hx
    cases (Option.some.inj hx)
    exact ⟨rfl, rfl⟩
theorem fold_join : ∀ (l acc : List Rn), (∀ x, acc.getLast? = some x → ∀ r ∈ l, Vk x r) → l.Pairwise Vk → Full l → l.foldl join acc = l.foldl push acc
  | [], _, _, _, _ => rfl
  | r :: l, acc, hw, hp, hf => by
    obtain ⟨q1, q2⟩ := List.pairwise_cons.mp hp
    obtain ⟨z1, z2⟩ := join_push (fun x hx => hw x hx r List.mem_cons_self) (hf r List.mem_cons_self)
    rw [List.foldl_cons, List.foldl_cons, z1]
    refine fold_join l _ (fun x hx u hu => ?_) q2 fun x hx => hf x (List.mem_cons_of_mem _ hx)
    obtain ⟨e, k⟩ := z2 x hx
    rcases q1 u hu with ⟨e', k'⟩ | k'
    · exact .inl ⟨e.trans e', by omega⟩
    · exact .inr (e ▸ k')
def pcs (cs : List Int) : List (Int × Int) := cs.zip cs.tail
theorem pcs_cons (x y : Int) (l : List Int) : pcs (x :: y :: l) = (x, y) :: pcs (y :: l) := rfl
theorem pcs_len (cs : List Int) : (pcs cs).length ≤ cs.length := by
  unfold pcs
  rw [List.length_zip]
  omega
theorem pcs_in : ∀ {cs : List Int} {p : Int × Int}, p ∈ pcs cs → p.1 ∈ cs ∧ p.2 ∈ cs
  | [], p, h => nomatch h
  | [x], p, h => nomatch h
  | x :: y :: l, p, h => by
    rw [pcs_cons] at h
    rcases List.mem_cons.mp h with rfl | h
    · exact ⟨List.mem_cons_self, List.mem_cons_of_mem _ List.mem_cons_self⟩
    · have z := pcs_in h
      exact ⟨List.mem_cons_of_mem _ z.1, List.mem_cons_of_mem _ z.2⟩
theorem pcs_up : ∀ {cs : List Int}, cs.Pairwise (· < ·) → (pcs cs).Pairwise (fun a b => a.2 ≤ b.1) ∧ ∀ p ∈ pcs cs, p.1 < p.2 ∧ ∀ c ∈ cs, c ≤ p.1 ∨ p.2 ≤ c
  | [], _ => ⟨.nil, fun _ h => nomatch h⟩
  | [x], _ => ⟨.nil, fun _ h => nomatch h⟩
  | x :: y :: l, h => by
    obtain ⟨h1, h2⟩ := List.pairwise_cons.mp h
    obtain ⟨h3, h4⟩ := List.pairwise_cons.mp h2
    obtain ⟨i1, i2⟩ := pcs_up h2
    rw [pcs_cons]
    have le : ∀ c ∈ y :: l, y ≤ c := fun c hc => by
      rcases List.mem_cons.mp hc with rfl | hc
      · exact Int.le_refl _
      · have := h3 c hc
        omega
    refine ⟨List.pairwise_cons.mpr ⟨fun p hp => le _ (pcs_in hp).1, i1⟩, fun p hp => ?_⟩
    rcases List.mem_cons.mp hp with rfl | hp2
    · refine ⟨h1 y List.mem_cons_self, fun c hc => ?_⟩
      rcases List.mem_cons.mp hc with rfl | hc
      · exact .inl (Int.le_refl _)
      · exact .inr (le c hc)
    · obtain ⟨j1, j2⟩ := i2 p hp2
      refine ⟨j1, fun c hc => ?_⟩
      rcases List.mem_cons.mp hc with rfl | hc
      · have := h1 _ (pcs_in hp2).1
        exact .inl (by omega)
      · exact j2 c hc
theorem pcs_at : ∀ {cs : List Int} {a b n : Int}, cs.Pairwise (· < ·) → a ∈ cs → b ∈ cs → a ≤ n → n < b → ∃ p ∈ pcs cs, p.1 ≤ n ∧ n < p.2
  | [], _, _, _, _, h, _, _, _ => nomatch h
  | [x], a, b, n, _, h1, h2, h3, h4 => by
    rw [List.mem_singleton] at h1 h2
    omega
  | x :: y :: l, a, b, n, h, h1, h2, h3, h4 => by
    obtain ⟨g1, g2⟩ := List.pairwise_cons.mp h
    rw [pcs_cons]
    by_cases c : n < y
    · refine ⟨(x, y), List.mem_cons_self, ?_, c⟩
      rcases List.mem_cons.mp h1 with rfl | h1
      · exact h3
      · have := g1 a h1
        show x ≤ n
        omega
    · have hb : b ∈ y :: l := by
        rcases List.mem_cons.mp h2 with rfl | h2
        · have := g1 y List.mem_cons_self
          omega
        · exact h2
      obtain ⟨p, p1, p2⟩ := pcs_at (a := y) g2 List.mem_cons_self hb (by omega) h4
      exact ⟨p, List.mem_cons_of_mem _ p1, p2⟩
/-- the pieces of a series that are good -/
def goods (P : Str → Int → Bool) (s : Str) (ps : List (Int × Int)) : List Rn := (ps.filter fun p => P s p.1).map fun p => (s, p.1, p.2)
def mades (P : Str → Int → Bool) (ns : List Str) (cs : List Int) : List Rn := (ns.flatMap fun s => goods P s (pcs cs)).foldl join []
theorem goods_in {P : Str → Int → Bool} {s : Str} {ps : List (Int × Int)} {r : Rn} : r ∈ goods P s ps ↔ r.1 = s ∧ (r.2.1, r.2.2) ∈ ps ∧ P s r.2.1 = true := by
  unfold goods
  rw [List.mem_map]
  constructor
  · rintro ⟨p, h, rfl⟩
    obtain ⟨h1, h2⟩ := List.mem_filter.mp h
    exact ⟨rfl, h1, h2⟩
  · rintro ⟨h1, h2, h3⟩
    exact ⟨(r.2.1, r.2.2), List.mem_filter.mpr ⟨h2, h3⟩, Prod.ext h1.symm rfl⟩
/-- what is made is the one writing of the notes that P tells -/
theorem mades_ok {P : Str → Int → Bool} {ns : List Str} {cs : List Int} (hn : ns.Pairwise sl) (hc : cs.Pairwise (· < ·))
    (flat : ∀ s p n, p ∈ pcs cs → p.1 ≤ n → n < p.2 → P s n = P s p.1) (only : ∀ s n, P s n = true → s ∈ ns ∧ ∃ p ∈ pcs cs, p.1 ≤ n ∧ n < p.2) :
    Canon (mades P ns cs) ∧ ∀ s n, has (mades P ns cs) s n ↔ P s n = true := by
  obtain ⟨u1, u2⟩ := pcs_up hc
  have full : Full (ns.flatMap fun s => goods P s (pcs cs)) := fun r hr => by
    obtain ⟨s, _, h2⟩ := List.mem_flatMap.mp hr
    exact (u2 _ (goods_in.mp h2).2.1).1
  have pv : (ns.flatMap fun s => goods P s (pcs cs)).Pairwise Vk := by
    rw [List.pairwise_flatMap]
    refine ⟨fun s _ => ?_, hn.imp fun {s s'} h x hx y hy => ?_⟩
    · unfold goods
      rw [List.pairwise_map]
      exact (u1.filter _).imp fun h => .inl ⟨rfl, h⟩
    · refine .inr ?_
      rw [(goods_in.mp hx).1, (goods_in.mp hy).1]
      exact h
  have pw : (ns.flatMap fun s => goods P s (pcs cs)).Pairwise Wk := List.Pairwise.imp_of_mem (fun {a b} ha hb h => by
    rcases h with ⟨e, k⟩ | k
    · have := full a ha
      exact .inl ⟨e, by omega⟩
    · exact .inr k) pv
  obtain ⟨y1, y2⟩ := merge_ok pw full
  have e : mades P ns cs = merge (ns.flatMap fun s => goods P s (pcs cs)) := fold_join _ [] (fun x hx => nomatch hx) pv full
  rw [e]
  refine ⟨y1, fun s n => (y2 s n).trans ⟨?_, fun h => ?_⟩⟩
  · rintro ⟨r, hr, rfl, h1, h2⟩
    obtain ⟨s', _, g⟩ := List.mem_flatMap.mp hr
    obtain ⟨g1, g2, g3⟩ := goods_in.mp g
    subst g1
    rw [flat r.1 (r.2.1, r.2.2) n g2 h1 h2]
    exact g3
  · obtain ⟨h1, p, h2, h3, h4⟩ := only s n h
    refine ⟨(s, p.1, p.2), List.mem_flatMap.mpr ⟨s, h1, goods_in.mpr ⟨rfl, h2, ?_⟩⟩, rfl, h3, h4⟩
    rw [← flat s p n h2 h3 h4]
    exact h
def hasB (rs : List Rn) (s : Str) (n : Int) : Bool := rs.any fun r => decide (r.1 = s) && (decide (r.2.1 ≤ n) && decide (n < r.2.2))
theorem hasB_iff (rs : List Rn) (s : Str) (n : Int) : hasB rs s n = true ↔ has rs s n := by
  unfold hasB has
  rw [List.any_eq_true]
  simp only [Bool.and_eq_true, decide_eq_true_eq]
/-- ends and names of the runs are among those told -/
def Ends (rs : List Rn) (ns : List Str) (cs : List Int) : Prop := ∀ r ∈ rs, r.1 ∈ ns ∧ r.2.1 ∈ cs ∧ r.2.2 ∈ cs
theorem hasB_flat {rs : List Rn} {ns : List Str} {cs : List Int} (he : Ends rs ns cs) (hc : cs.Pairwise (· < ·)) {s : Str} {p : Int × Int} {n : Int} (hp : p ∈ pcs cs) (h1 : p.1 ≤ n) (h2 : n < p.2) : hasB rs s n = hasB rs s p.1 := by
  obtain ⟨u1, u2⟩ := pcs_up hc
  obtain ⟨v1, v2⟩ := u2 p hp
  rw [Bool.eq_iff_iff, hasB_iff, hasB_iff]
  constructor
  · rintro ⟨r, hr, e, k1, k2⟩
    have z1 := v2 _ (he r hr).2.1
    have z2 := v2 _ (he r hr).2.2
    exact ⟨r, hr, e, by omega, by omega⟩
  · rintro ⟨r, hr, e, k1, k2⟩
    have z1 := v2 _ (he r hr).2.1
    have z2 := v2 _ (he r hr).2.2
    exact ⟨r, hr, e, by omega, by omega⟩
theorem hasB_only {rs : List Rn} {ns : List Str} {cs : List Int} (he : Ends rs ns cs) (hc : cs.Pairwise (· < ·)) {s : Str} {n : Int} (h : hasB rs s n = true) : s ∈ ns ∧ ∃ p ∈ pcs cs, p.1 ≤ n ∧ n < p.2 := by
  obtain ⟨r, hr, rfl, k1, k2⟩ := (hasB_iff _ _ _).mp h
  obtain ⟨e1, e2, e3⟩ := he r hr
  exact ⟨e1, pcs_at hc e2 e3 k1 k2⟩
theorem mades_runs {rs : List Rn} {ns : List Str} {cs : List Int} (hf : Full rs) (he : Ends rs ns cs) (hn : ns.Pairwise sl) (hc : cs.Pairwise (· < ·)) : mades (hasB rs) ns cs = runsOf rs := by
  obtain ⟨y1, y2⟩ := mades_ok (P := hasB rs) hn hc (fun s p n h1 h2 h3 => hasB_flat he hc h1 h2 h3) (fun s n h => hasB_only he hc h)
  exact (runsOf_eq hf y1 fun s n => (y2 s n).trans (hasB_iff _ _ _)).symm
theorem runsOf_mems {a b : List Rn} (hf : Full a) (h : ∀ r, r ∈ a ↔ r ∈ b) : runsOf a = runsOf b := by
  have hb : Full b := fun r hr => hf r ((h r).mpr hr)
  obtain ⟨y1, y2⟩ := runsOf_ok hb
  exact runsOf_eq hf y1 fun s n => (y2 s n).trans (has_perm h s n).symm
theorem runsOf_again {a : List Rn} (hf : Full a) : runsOf (runsOf a) = runsOf a := by
  obtain ⟨y1, y2⟩ := runsOf_ok hf
  exact runsOf_eq y1.2 y1 fun s n => Iff.rfl
/-! ### sets of keys (ints, texts), however many: set(list), sorted of a set -/
def kx (e : Int × Value) : Key := match e.2 with
  | .int k _ => .inl k
  | .str x _ => .inr x
  | _ => .inl 0
def Gk (w : World) (e : Int × Value) : Prop := ∃ k, keyIs k e.2 = true ∧ e.1 = keyH w k
theorem kx_of {k : Key} {e : Int × Value} (h : keyIs k e.2 = true) : kx e = k := by
  rcases keyIs_shape h with ⟨i, t, rfl, q⟩ | ⟨x, t, rfl, q⟩ <;> (unfold kx; rw [q])
theorem kx_is {w : World} {e : Int × Value} (g : Gk w e) (k : Key) : keyIs k e.2 = true ↔ kx e = k := by
  refine ⟨kx_of, fun q => ?_⟩
  obtain ⟨k0, h1, _⟩ := g
  rw [kx_of h1] at q
  rw [← q]
  exact h1
/-- at a stands a set of n keys, just those that S tells -/
def SX (w : World) (h : Heap) (a : Addr) (S : Key → Prop) (n : Nat) : Prop := ∃ (o : Obj) (es : Array (Int × Value)) (ep : Nat) (t : SetTable),
  (h.get? a = some o ∧ o.ExactSet ∧ o.data = .set es ep t) ∧ ((∀ e ∈ es.toList, Gk w e) ∧ (es.toList.map kx).Nodup ∧ ∀ k, S k ↔ k ∈ es.toList.map kx) ∧
  (es.size < scanBound ∧ t.fits es.size = true ∧ es.size = n) ∧ Ris t.place.toList ∧ (w.params.followText "set-order" = true ∨ t.led = true)
section
variable {P : Program} {w : World} {A : Around} {E : Value → Shared → Prop} {s : Shared} {a : Addr} {S : Key → Prop} {n : Nat}
theorem SX.keep {h h' : Heap} (R : SX w h a S n) (k : ∀ o, h.get? a = some o → h'.get? a = some o) : SX w h' a S n := by
  obtain ⟨o, es, ep, t, ⟨h1, h2⟩, r⟩ := R
  exact ⟨o, es, ep, t, ⟨k o h1, h2⟩, r⟩
theorem SX.like {h : Heap} {S' : Key → Prop} (R : SX w h a S n) (k : ∀ j, S' j ↔ S j) : SX w h a S' n := by
  have e : S' = S := funext fun j => propext (k j)
  rw [e]
  exact R
theorem gk_all {l : List (Int × Value)} (g : ∀ e ∈ l, Gk w e) : ElemsOf (mixKind P w) l := fun e he => by
  obtain ⟨k, q1, q2⟩ := g e he
  refine ⟨⟨k, q1, q2⟩, ?_⟩
  rcases keyIs_shape q1 with ⟨i, t, _, q⟩ | ⟨x, t, _, q⟩ <;> (rw [q]; rfl)
theorem put_at {h : Heap} {o : Obj} {es es' : Array (Int × Value)} {ep : Nat} {t t' : SetTable} (q1 : h.get? a = some o) (q2 : o.data = .set es ep t) :
    (h.update a (Obj.putSet es' t')).get? a = some { o with data := .set es' (ep + 1) t' } := by
  have z := Heap.get?_update_self (Obj.putSet es' t') q1 (by rw [putSet_of es' t' q2]; rfl)
  exact z.trans (congrArg some (putSet_of es' t' q2))
theorem sx_lay {g : Bool → Sem Unit} (calm : ∀ (b : Bool) (s1 : Shared) (Z : Unit → Shared → Prop), Z () s1 → wpAny (model P w) A (g b) Z E s1)
    {o : Obj} {es fs : Array (Int × Value)} {ep : Nat} {t u : SetTable} {S' : Key → Prop} (q : s.heap.get? a = some o ∧ o.ExactSet ∧ o.data = .set es ep t)
    (keys : (∀ e ∈ fs.toList, Gk w e) ∧ (fs.toList.map kx).Nodup ∧ ∀ k, S' k ↔ k ∈ fs.toList.map kx) (few : fs.size < scanBound) (fit : u.fits fs.size = true) (up : Ris u.place.toList)
    (led : w.params.followText "set-order" = true ∨ u.led = true) {dm : Bool} {Z : Option Bool → Shared → Prop}
    (fin : ∀ h', Heap.SameBut a s.heap h' → SX w h' a S' fs.size → Z (some true) { s with heap := h' }) :
    wpAny (model P w) A (do
      storeSet a fs u
      if (!dm && u.tooFull) = true then do
          g (relayAll u fs (SetTable.grown fs.size)).2.2
          storeSet a (relayAll u fs (SetTable.grown fs.size)).1 (relayAll u fs (SetTable.grown fs.size)).2.1
          pure (some true)
        else pure (some true)) Z E s := by
  obtain ⟨q1, q2, q3⟩ := q
  obtain ⟨k1, k2, k3⟩ := keys
  refine wpAny_bind (wpAny_storeSet_of q1 q3 ?_ (fits_of_scanBound few))
  have at1 := put_at (es' := fs) (t' := u) q1 q3
  have b1 := Heap.SameBut.update s.heap a (Obj.putSet fs u)
  split
  · have p1 := relayAll_perm u fs (SetTable.grown fs.size)
    have p2 := relayAll_fits u fs (SetTable.grown fs.size)
    have p3 := relayAll_ris u fs (SetTable.grown fs.size)
    have p4 := relayAll_led u fs (SetTable.grown fs.size)
    generalize relayAll u fs (SetTable.grown fs.size) = L at p1 p2 p3 p4 ⊢
    obtain ⟨gs, v, gave⟩ := L
    dsimp only at p1 p2 p3 p4 ⊢
    have size : gs.size = fs.size := by rw [← Array.length_toList, p1.length_eq, Array.length_toList]
    have few2 : gs.size < scanBound := by omega
    refine wpAny_bind (calm _ _ _ ?_)
    refine wpAny_bind (wpAny_storeSet_of at1 rfl ?_ (fits_of_scanBound few2))
    have at2 := put_at (es' := gs) (t' := v) at1 rfl
    refine wpAny_pure (fin _ (b1.trans (Heap.SameBut.update _ a _)) ⟨_, gs, _, v, ⟨at2, q2, rfl⟩, ⟨fun e he => k1 e (p1.mem_iff.mp he), (p1.map kx).nodup_iff.mpr k2, fun k => (k3 k).trans (p1.map kx).mem_iff.symm⟩, ⟨few2, p2, size⟩, p3, ?_⟩)
    exact led.imp _root_.id fun z => p4.trans z
  · exact wpAny_pure (fin _ b1 ⟨_, fs, _, u, ⟨at1, q2, rfl⟩, ⟨k1, k2, k3⟩, ⟨few, fit, rfl⟩, up, led⟩)
theorem sx_add {k : Key} {v : Value} {Z : Bool → Shared → Prop} (R : SX w s.heap a S n) (room : n + 1 < scanBound) (hk : keyIs k v = true)
    (fin : ∀ h' m, Heap.SameBut a s.heap h' → m ≤ n + 1 → SX w h' a (fun j => S j ∨ j = k) m → ∀ b, Z b { s with heap := h' }) :
    wpAny (model P w) A (setAddHashed a v (keyH w k)) Z E s := by
  obtain ⟨o, es, ep, t, ⟨q1, q2, q3⟩, ⟨k1, k2, k3⟩, ⟨few, fit, size⟩, up, led⟩ := R
  have scan : v.scannable = true := by
    rcases keyIs_shape hk with ⟨i, t, _, rfl⟩ | ⟨x, t, _, rfl⟩ <;> rfl
  have all : ElemsOf (mixKind P w) es.toList := gk_all k1
  have is' : (mixKind P w).is k v = true := hk
  unfold setAddHashed setAddHashedIn
  refine wpAny_holding (wpAny_bind (wpAny_setState_of q1 q3 fit ?_))
  dsimp only
  rw [byScan_of scan few all]
  simp only [↓reduceIte]
  unfold setAddByScan
  refine wpAny_bind ?_
  refine wpAny_bind (wpAny_rule ?_)
  refine wpAny_bind (wpAny_setScan_of is' q1 q3 fit all ?_)
  have memb : ∀ j, j ∈ es.toList.map kx ↔ ∃ e ∈ es.toList, keyIs j e.2 = true := fun j => by
    rw [List.mem_map]
    exact ⟨fun ⟨e, h1, h2⟩ => ⟨e, h1, (kx_is (k1 e h1) j).mpr h2⟩, fun ⟨e, h1, h2⟩ => ⟨e, h1, (kx_is (k1 e h1) j).mp h2⟩⟩
  cases found : List.findIdx? (fun e => (mixKind P w).is k e.2) es.toList with
  | some j =>
    dsimp only
    obtain ⟨hj, pj, _⟩ := List.findIdx?_eq_some_iff_getElem.mp found
    have inS : S k := (k3 k).mpr ((memb k).mpr ⟨es.toList[j], List.getElem_mem hj, pj⟩)
    refine wpAny_pure (wpAny_pure ?_)
    exact fin s.heap n (Heap.SameBut.refl a s.heap) (Nat.le_succ _) ⟨o, es, ep, t, ⟨q1, q2, q3⟩, ⟨k1, k2, fun i => by rw [← k3 i]; exact ⟨fun z => z.elim _root_.id fun e => e ▸ inS, .inl⟩⟩, ⟨few, fit, size⟩, up, led⟩ _
  | none =>
    dsimp only
    have new : k ∉ es.toList.map kx := fun z => by
      obtain ⟨e, h1, h2⟩ := (memb k).mp z
      have c := List.findIdx?_eq_none_iff.mp found e h1
      have c : keyIs k e.2 = false := c
      rw [h2] at c
      cases c
    have way : ∀ (b : Bool) {s1 : Shared} {Y : Unit → Shared → Prop}, Y () s1 → wpAny (model P w) A (match b with | true => rule "set.scan.the-table-gave-way" | false => pure ()) Y E s1 := fun b s1 Y y => by
      cases b
      · exact wpAny_pure y
      · exact wpAny_rule y
    have p1 := layNew_perm t es (keyH w k) v
    have p2 := layNew_fits t es (keyH w k) v
    have p3 := layNew_ris t es (keyH w k) v up
    have p4 := layNew_led t es (keyH w k) v
    generalize layNew t es (keyH w k) v = L at p1 p2 p3 p4 ⊢
    obtain ⟨fs, u, dm, gave⟩ := L
    dsimp only at p1 p2 p3 p4 ⊢
    rw [Array.toList_push] at p1
    have pc : fs.toList.Perm ((keyH w k, v) :: es.toList) := p1.trans (List.perm_append_singleton _ _)
    have pk : (fs.toList.map kx).Perm (k :: es.toList.map kx) := by
      have z := pc.map kx
      rw [List.map_cons, kx_of (e := (keyH w k, v)) hk] at z
      exact z
    have keys : (∀ e ∈ fs.toList, Gk w e) ∧ (fs.toList.map kx).Nodup ∧ ∀ j, (S j ∨ j = k) ↔ j ∈ fs.toList.map kx := by
      refine ⟨fun e he => ?_, pk.nodup_iff.mpr (List.nodup_cons.mpr ⟨new, k2⟩), fun j => ?_⟩
      · rcases List.mem_cons.mp (pc.mem_iff.mp he) with z | z
        · rw [z]
          exact ⟨k, hk, rfl⟩
        · exact k1 e z
      · rw [k3 j, pk.mem_iff, List.mem_cons]
        exact Or.comm
    have size2 : fs.size = n + 1 := by rw [← Array.length_toList, pc.length_eq, List.length_cons, Array.length_toList, size]
    have few2 : fs.size < scanBound := by omega
    have led2 : w.params.followText "set-order" = true ∨ u.led = true := led.imp _root_.id fun z => p4.trans z
    have fin2 : ∀ h', Heap.SameBut a s.heap h' → SX w h' a (fun j => S j ∨ j = k) fs.size → ∀ b, Z b { s with heap := h' } := fun h' sb r => fin h' _ sb (Nat.le_of_eq size2) r
    refine wpAny_bind (way _ ?_)
    split
    · refine wpAny_bind ?_
      rw [hashByValue_scannable 8 scan]
      refine wpAny_pure ?_
      refine sx_lay ?_ ⟨q1, q2, q3⟩ keys few2 ?_ ?_ ?_ ?_
      · intro b s1 Y y
        cases b
        · exact wpAny_pure y
        · exact wpAny_rule y
      · first | (split <;> first | exact p2 | exact SetTable.fits_plain_off p2) | exact p2
      · first | (split <;> exact p3) | exact p3
      · first | (split <;> exact led2) | exact led2
      · intro h' sb r
        dsimp only
        exact wpAny_pure (fin2 h' sb r _)
    · refine wpAny_bind (wpAny_pure ?_)
      simp only [↓reduceIte]
      refine sx_lay ?_ ⟨q1, q2, q3⟩ keys few2 p2 p3 led2 ?_
      · intro b s1 Y y
        cases b
        · exact wpAny_pure y
        · exact wpAny_rule y
      · intro h' sb r
        dsimp only
        exact wpAny_pure (fin2 h' sb r _)
theorem sx_loop {I : Addr} {fp wr : List Addr} {G : Array GenState → Array GenState → Prop} {n : Nat} {Pv : Nat → Value → Prop} {St : Nat → Shared → Prop} {R : Result → Shared → Prop}
    (W : WalksS P w A.in1 I fp wr G n Pv St) (D : Addr) (hD : D ∉ fp) (ks : List Key) (hn : n = ks.length) (few : ks.length + 1 < scanBound) (are : ∀ i v, Pv i v → ∃ k, ks[i]? = some k ∧ keyIs k v = true) :
    ∀ (m i : Nat) (s : Shared), n - i = m → i ≤ n → St i s → (∃ c, c ≤ i ∧ SX w s.heap D (fun j => j ∈ ks.take i) c) →
      (∀ s' c, Moved (D :: wr) G s s' → c ≤ n → SX w s'.heap D (fun j => j ∈ ks) c → R (.ok (.ret .none)) s') →
      codeAny (model P w) A (.builtin "set.update.loop" ⟨[.ref D, .ref I], []⟩) R s := by
  have notw : D ∉ wr := fun z => hD (W.sub _ z)
  have more : ∀ b ∈ wr, b ∈ D :: wr := fun b hb => List.mem_cons_of_mem _ hb
  intro m
  induction m with
  | zero =>
    intro i s e1 e2 st ⟨c, hc, hS⟩ fin
    obtain rfl : i = n := by omega
    refine codeAny_builtin F.entry_set_update_loop ?_
    rw [Around.under_plainId F.plain_set_update_loop _]
    show wpAny _ A.in1 (pyNext (.ref I) >>= _) _ _ s
    refine wpAny_bind (W.done s _ _ st fun s2 mv => ?_)
    show wpAny _ A.in1 (ret Value.none) _ _ s2
    rw [List.take_of_length_le (l := ks) (i := i) (by omega)] at hS
    exact wpAny_pure (fin s2 c (mv.mono more) hc (hS.keep fun o e => mv.heap D o notw e))
  | succ m ih =>
    intro i s e1 e2 st ⟨c, hc, hS⟩ fin
    have lt : i < n := by omega
    refine codeAny_builtin F.entry_set_update_loop ?_
    rw [Around.under_plainId F.plain_set_update_loop _]
    show wpAny _ A.in1 (pyNext (.ref I) >>= _) _ _ s
    refine wpAny_bind (W.item i s _ _ lt st fun v s2 pv st2 mv => ?_)
    obtain ⟨k, hk, isk⟩ := are i v pv
    have hS2 := hS.keep fun o e => mv.heap D o notw e
    show wpAny _ A.in1 (holding [v] (setAdd D v) >>= _) _ _ s2
    refine wpAny_bind (wpAny_holding ?_)
    unfold setAdd
    refine wpAny_holding ?_
    refine wpAny_bind ((mixKind P w).pyHash (k := k) isk ?_)
    refine sx_add (s := { s2 with toks := s2.toks + 1 }) hS2 (by omega) isk fun h' m2 sb hm hS3 b => ?_
    have hS4 : SX w h' D (fun j => j ∈ ks.take (i + 1)) m2 := hS3.like fun j => by
      rw [List.take_add_one, hk, List.mem_append]
      simp
    refine wpAny_pure ⟨plainId_quiet F.plain_set_update_loop _, ih (i + 1) _ (by omega) lt (W.frame _ s2 _ _ st2 (Nat.le_succ _) fun b hb o e => ?_) ⟨_, (show m2 ≤ i + 1 by omega), hS4⟩ fun s3 c3 mv3 hc3 hS5 => ?_⟩
    · rw [sb.2 b (fun z : b = D => hD (z ▸ hb))]
      exact e
    · refine fin s3 c3 (Moved.trans W.gtrans ((mv.mono more).then_heap (Nat.le_succ _) fun b o hb e => ?_) mv3) hc3 hS5
      rw [sb.2 b (fun z : b = D => hb (by rw [z]; exact List.mem_cons_self))]
      exact e
theorem sx_new {h : Heap} {ks : List Key} (q : h.get? a = some { cls := .type "set", dict := none, data := .set #[] 0 (.fresh 0 0 (!w.params.followText "set-order")) }) : SX w h a (fun j => j ∈ ks.take 0) 0 := by
  refine ⟨_, #[], 0, _, ⟨q, ⟨rfl, rfl, rfl⟩, rfl⟩, ⟨fun e he => by simp at he, by simp, fun k => by simp⟩, ⟨by decide, by rfl, rfl⟩, List.Pairwise.nil, ?_⟩
  show _ ∨ (!w.params.followText "set-order") = true
  cases w.params.followText "set-order"
  · exact .inr rfl
  · exact .inl rfl
set_option maxHeartbeats 3200000 in
theorem sx_call {l : Addr} {items : Array Value} (ks : List Key) {Q : Value → Shared → Prop} (hh : A.handled = none) (hl : s.heap.IsList l items) (len : items.size = ks.length) (are : ∀ (i : Nat) (v : Value), items[i]? = some v → ∃ k, ks[i]? = some k ∧ keyIs k v = true) (few : ks.length + 1 < scanBound)
    (fin : ∀ (h' : Heap) (tk c : Nat), SX w h' s.heap.objs.size (fun j => j ∈ ks) c → c ≤ ks.length → (∀ b o, s.heap.get? b = some o → h'.get? b = some o) → Q (.ref s.heap.objs.size) { s with heap := h', toks := tk }) :
    wpAny (model P w) A (call (.type "set") [.ref l]) Q E s := by
  obtain ⟨c, tl, m1⟩ := F.called_set.mro
  have m2 := F.called_set.made
  have m3 := F.called_set.sub
  refine wpAny_call (codeAny_of_tree ?_)
  show wpAny _ _ (callAny (.type "set") _) _ _ _
  refine wpAny_pure ⟨Code.quiet_builtin _ (by decide +kernel), codeAny_builtin F.entry_type_call ?_⟩
  rw [Around.under_plain (weight_type_call_type "set" [.ref l] []) rfl]
  have m4 := F.called_set.notType
  have m5 := F.called_set.canCreate
  have m6 := F.typeCall_set_1 (.ref l)
  repeat (any_goals (first | assumption | wp_step))
  refine codeAny_mono (code_set_led1 (.ref l) (E := E) (Q₁ := fun obj s1 => obj = .ref s.heap.objs.size ∧ s1 = { s with heap := s.heap.push { cls := .type "set", dict := none, data := .set #[] 0 (.fresh 0 0 (!w.params.followText "set-order")) } }) ⟨rfl, rfl⟩) fun r s1 hr => ?_
  cases r with
  | error e => exact hr
  | ok fl =>
    cases fl with
    | ret obj =>
      obtain ⟨rfl, rfl⟩ := hr
      have atS : (s.heap.push { cls := .type "set", dict := none, data := .set #[] 0 (.fresh 0 0 (!w.params.followText "set-order")) }).get? s.heap.objs.size = some { cls := .type "set", dict := none, data := .set #[] 0 (.fresh 0 0 (!w.params.followText "set-order")) } := Heap.get?_push_size _ rfl
      have tyS : Shared.TypeIs { s with heap := s.heap.push { cls := .type "set", dict := none, data := .set #[] 0 (.fresh 0 0 (!w.params.followText "set-order")) } } (.ref s.heap.objs.size) "set" := ⟨_, atS, rfl⟩
      have m7 := F.called_set.init.lookup
      have m8 := F.called_set.init.bind (.ref s.heap.objs.size)
      repeat (any_goals (first | assumption | wp_step))
      refine codeAny_mono (codeAny_call_builtin (R := wants (fun r s2 => r = .none ∧ ∃ h' tk c, s2 = { s with heap := h', toks := tk } ∧ SX w h' s.heap.objs.size (fun j => j ∈ ks) c ∧ c ≤ ks.length ∧
          (∀ b o, s.heap.get? b = some o → h'.get? b = some o)) E) F.called_set.init.plain F.entry_set_init (check_set_init_1 tyS ?_)) fun r2 s2 hr2 => ?_
      · obtain ⟨ol, o1, o2, nl, o3⟩ := hl
        obtain ⟨ocls, odict, odata, oslots⟩ := ol
        simp only at o2 o3
        subst o2
        subst o3
        have at2 : (s.heap.push { cls := .type "set", dict := none, data := .set #[] 0 (.fresh 0 0 (!w.params.followText "set-order")) }).get? l = some { cls := .type "list", dict := odict, data := .seq items nl, slots := oslots } := Heap.get?_push_of_some _ o1
        have n1 := F.sub_list_set
        have n2 := F.sub_list_frozenset
        have n3 : (Value.type "list" == Value.type "dict") = false := by decide
        have isl : (s.heap.push { cls := .type "set", dict := none, data := .set #[] 0 (.fresh 0 0 (!w.params.followText "set-order")) }).IsList l items := ⟨_, at2, rfl, nl, rfl⟩
        unfold Builtin.«set.__init__» noKeywords Builtin.Frozenset.updateFrom
        generalize hPI : pyIter = PI
        wp_walk
        subst hPI
        refine wpAny_pyIter_list isl ?_
        refine wpAny_bind (wpAny_runValue ?_)
        have lS : l < s.heap.objs.size := Heap.lt_size o1
        have hh3 : A.in1.in1.in1.handled = none := by simp [hh]
        have sz1 : (s.heap.push { cls := .type "set", dict := none, data := .set #[] 0 (.fresh 0 0 (!w.params.followText "set-order")) }).objs.size = s.heap.objs.size + 1 := Heap.size_push ..
        have ne1 : l ≠ (s.heap.push { cls := .type "set", dict := none, data := .set #[] 0 (.fresh 0 0 (!w.params.followText "set-order")) }).objs.size := Nat.ne_of_lt (sz1.symm ▸ Nat.lt_succ_of_lt lS)
        have ne2 : s.heap.objs.size ∉ [(s.heap.push { cls := .type "set", dict := none, data := .set #[] 0 (.fresh 0 0 (!w.params.followText "set-order")) }).objs.size, l] := by
          rw [sz1]
          simp only [List.mem_cons, List.not_mem_nil, or_false, not_or]
          exact ⟨Nat.ne_of_lt (Nat.lt_succ_self _), Nat.ne_of_gt lS⟩
        refine sx_loop ((Walks.list hh3 _ l ne1 items).toS) s.heap.objs.size ne2 ks len few are (items.size - 0) 0 _ (by omega) (Nat.zero_le _) ⟨⟨_, Heap.get?_push_size _ rfl, rfl, rfl⟩, (isl.push _)⟩ ?one ?all
        case one => exact ⟨0, Nat.le_refl 0, sx_new (Heap.get?_push_of_some _ atS)⟩
        case all =>
          intro s3 c3 mv hc hS
          obtain ⟨h', g2, d', tk', os'⟩ := s3
          have eg : g2 = s.gens := mv.gens
          have ed : d' = s.drawn := mv.drawn
          have eo : os' = s.os := mv.os
          subst eg
          subst ed
          subst eo
          show wpAny _ _ _ _ _ _
          refine wpAny_pure ?_
          show wpAny _ _ (ret Value.none) _ _ _
          refine wpAny_pure ⟨rfl, h', tk', c3, rfl, hS, by omega, fun b o e => ?_⟩
          have lt : b < s.heap.objs.size := Heap.lt_size e
          refine mv.heap b o ?_ (Heap.get?_push_of_some _ (Heap.get?_push_of_some _ e))
          rw [sz1]
          simp only [List.mem_cons, List.not_mem_nil, or_false, not_or]
          exact ⟨Nat.ne_of_lt lt, Nat.ne_of_lt (Nat.lt_succ_of_lt lt)⟩
      · cases r2 with
        | error e => exact hr2
        | ok fl2 =>
          cases fl2 with
          | ret r =>
            obtain ⟨rfl, h', tk, c', rfl, z1, z2, z3⟩ := hr2
            repeat (any_goals (first | assumption | wp_step))
            exact fin _ _ _ z1 z2 z3
          | _ => exact hr2.elim
    | _ => exact hr.elim
/-- sorted of a set whose keys are all read as data by enc -/
theorem sx_sorted {enc : Key → PyData} {Q : Value → Shared → Prop} (R : SX w s.heap a S n) (hh : A.handled = none) (all : ∀ k v, S k → keyIs k v = true → ∃ as, ∀ h : Heap, Reads h v (enc k) as ∧ ∀ b, b ∉ as)
    (alk : ∀ k j, S k → S j → PySem.W.alike (enc k) (enc j) = true) (plain : ∀ k, S k → enc k ≠ .none ∧ ∀ xs, enc k ≠ .tuple xs) (un : A.units + 70 < cLine) (dep : ∀ k, (enc k).depth ≤ 60) (line : n ≤ sizeLine)
    (fin : ∀ s' p (out : List Value) (c : Nat) (ks : List Key), (∀ b o, s.heap.get? b = some o → s'.heap.get? b = some o) → s'.gens = s.gens → s'.os = s.os → s.heap.objs.size ≤ p →
      s'.heap.get? p = some (seqObj "list" out.toArray c) → ks.Nodup → (∀ k, k ∈ ks ↔ S k) → ks.length = n → PySem.W.EachIs (fun v k => keyIs k v = true) out (ks.mergeSort (PySem.W.dataLe false enc)) → Q (.ref p) s') :
    wpAny (model P w) A (call (.builtin "sorted") [.ref a]) Q E s := by
  obtain ⟨o, es, ep, t, ⟨q1, q2, q3⟩, ⟨k1, k2, k3⟩, ⟨few, fit, size⟩, up, led⟩ := R
  refine Calls.call_function_entry PyProof.Rows.kind_sorted PyProof.Rows.plain_sorted PyProof.Rows.entry_sorted (PyProof.Rows.args_sorted1 _) ?_
  unfold Builtin.«sorted»
  refine wpAny_bind (m := checkCount "sorted" 1 1 _) (wpAny_pure ?_)
  refine wpAny_bind (collect_set (A := A.in1) hh ⟨o, q1, q2.1, q3⟩ fit few up led fun s1 vs keep big gens os perm => ?_)
  obtain ⟨ks, p1, p2⟩ : ∃ ks : List Key, ks.Perm (es.toList.map kx) ∧ PySem.W.EachIs (fun v k => keyIs k v = true) vs ks := by
    have key : ∀ l : List Value, (∀ v ∈ l, ∃ k, keyIs k v = true) → PySem.W.EachIs (fun v k => keyIs k v = true) l (l.map fun v => kx (0, v)) := fun l => by
      induction l with
      | nil => exact fun _ => .nil
      | cons v l ih =>
        intro h
        obtain ⟨k, hk⟩ := h v List.mem_cons_self
        exact .cons (by show keyIs (kx (0, v)) v = true; rw [kx_of (e := (0, v)) hk]; exact hk) (ih fun u hu => h u (List.mem_cons_of_mem _ hu))
    refine ⟨vs.map fun v => kx (0, v), ?_, key vs fun v hv => ?_⟩
    · have z := perm.map fun v => kx (0, v)
      rw [List.map_map] at z
      exact z
    · obtain ⟨e, he, rfl⟩ := List.mem_map.mp (perm.mem_iff.mp hv)
      obtain ⟨k, g1, _⟩ := k1 e he
      exact ⟨k, g1⟩
  have inS : ∀ k, k ∈ ks ↔ S k := fun k => by rw [p1.mem_iff, ← k3 k]
  have len1 : ks.length = n := by rw [p1.length_eq, List.length_map, Array.length_toList, size]
  have len2 : vs.length = n := by rw [p2.length, len1]
  refine wpAny_bind (wpAny_newList ?_ (by rw [len2]; exact line))
  have at1 : (s1.heap.push (seqObj "list" vs.toArray 0)).get? s1.heap.objs.size = some (seqObj "list" vs.toArray 0) := Heap.get?_push_size _ rfl
  have reads : ∀ h : Heap, PySem.W.EachIs (fun v k => ∃ as, Reads h v (enc k) as ∧ s1.heap.objs.size ∉ as) vs ks := fun h => by
    have go : ∀ {l : List Value} {m : List Key}, PySem.W.EachIs (fun v k => keyIs k v = true) l m → (∀ k ∈ m, S k) → PySem.W.EachIs (fun v k => ∃ as, Reads h v (enc k) as ∧ s1.heap.objs.size ∉ as) l m := fun {l m} e => by
      induction e with
      | nil => exact fun _ => .nil
      | cons r e ih =>
        intro hS
        obtain ⟨as, ha⟩ := all _ _ (hS _ List.mem_cons_self) r
        exact .cons ⟨as, (ha h).1, (ha h).2 _⟩ (ih fun k hk => hS k (List.mem_cons_of_mem _ hk))
    exact go p2 fun k hk => (inS k).mp hk
  refine wpAny_bind (wpAny_holding (PySem.W.list_sort_data (enc := enc) (R := fun v k => keyIs k v = true) at1 p2 (reads _) (fun d hd e he => ?_) (.inr fun d hd => ?_) (by rw [len1]; exact line) (fun k hk => ?_) fun out ho each => ?_))
  · obtain ⟨k, hk, rfl⟩ := List.mem_map.mp hd
    obtain ⟨j, hj, rfl⟩ := List.mem_map.mp he
    exact alk k j ((inS k).mp hk) ((inS j).mp hj)
  · obtain ⟨k, hk, rfl⟩ := List.mem_map.mp hd
    exact plain k ((inS k).mp hk)
  · have := dep k
    show A.units + 1 + 1 + _ < cLine
    omega
  obtain ⟨c, atp⟩ := PyProof.Rows.sortedHeap_at (vs := vs) (out := out.toArray) at1
  refine wpAny_pure ⟨_, rfl, fin _ s1.heap.objs.size out c ks (fun b u e => ?_) gens os big atp (p1.nodup_iff.mpr k2) inS len1 each⟩
  have z := keep b u e
  have lt := Heap.lt_size z
  show (PyProof.Rows.sortedHeap (s1.heap.push (seqObj "list" vs.toArray 0)) s1.heap.objs.size vs out.toArray).get? b = some u
  rw [PyProof.Rows.sortedHeap_old (Nat.ne_of_lt lt) (by rw [size_push']; exact Nat.lt_succ_of_lt lt)]
  exact Heap.get?_push_of_some _ z
end
/-! rules of the hand layer for them -/
def SXO (w : World) (a : Addr) (S : Key → Prop) (n : Nat) : HO := .ext fun h => SX w h a S n
theorem sxo_new {w : World} {P : Program} {H : Hp} {h : Heap} {a : Addr} {S : Key → Prop} {n : Nat} (R : SX w h a S n) : ObjOk P w H h a (SXO w a S n) := by
  have R0 := R
  obtain ⟨o, es, ep, t, ⟨q, _⟩, _⟩ := R0
  exact ⟨R, ⟨o, q⟩, fun _ _ p k => SX.keep p k⟩
theorem vals_at : ∀ {xs : List V} {us : List Value} {i : Nat} {u : Value}, Vals xs us → us[i]? = some u → ∃ x, xs[i]? = some x ∧ RelV x u
  | _, _, 0, _, .cons r _, h => by
    cases h
    exact ⟨_, rfl, r⟩
  | _, _, i + 1, u, .cons _ t, h => vals_at (i := i) (u := u) t h
theorem vals_keys : ∀ {us : List Value} {ks : List Key}, PySem.W.EachIs (fun v k => keyIs k v = true) us ks → Vals (ks.map kV) us
  | _, _, .nil => .nil
  | _, _, .cons r t => by
    refine .cons ?_ (vals_keys t)
    rcases keyIs_shape r with ⟨i, t, rfl, rfl⟩ | ⟨x, t, rfl, rfl⟩
    · exact ⟨t, rfl⟩
    · exact ⟨t, rfl⟩
def encK : Key → PyData
  | .inl i => .int i
  | .inr x => .str x
def leK : Key → Key → Bool := PySem.W.dataLe false encK
section
variable {X : Cx}
def rSetOf (K : PySem.W.Frag) (w : World) : List V → Hp → VK → Prop := fun xs H Q => ∃ (a : Addr) (ks : List Key), xs = [.ref a] ∧ SqL K H a (ks.map kV) ∧ ks.length ≤ 4000 ∧ ∀ p c o, H p = none → c ≤ ks.length → o = SXO w p (fun j => j ∈ ks) c → Q (.ref p) (upd H p o)
theorem cr_setOf (calm : X.calm = true) : CallR X (.type "set") (rSetOf X.K X.w) := by
  intro pins s σ H vs us Q I r h
  obtain ⟨a, ks, rfl, hs, few, q⟩ := h
  obtain ⟨its, rv, hl, _⟩ := I.list hs
  rw [Vals.ref1 r]
  have len : its.toArray.size = ks.length := by
    have z := rv.length
    rw [List.length_map] at z
    rw [List.size_toArray]
    omega
  refine sx_call (A := X.A) ks (I.ok.hd calm) hl.isList len (fun i v hv => ?_) (show ks.length + 1 < 4096 by omega) fun h' tk c hS cc keep => ?_
  · rw [List.getElem?_toArray] at hv
    obtain ⟨x, h1, h2⟩ := vals_at rv hv
    rw [List.getElem?_map] at h1
    cases e : ks[i]? with
    | none => rw [e] at h1; cases h1
    | some k =>
      rw [e] at h1
      cases Option.some.inj h1
      exact ⟨k, rfl, kV_is (P := X.prog) (w := X.w) h2⟩
  · exact ⟨.ref _, upd H s.heap.objs.size (SXO X.w s.heap.objs.size (fun j => j ∈ ks) c), I.laid (t' := tk) keep (Nat.le_refl _) (sxo_new hS), rfl, q _ _ _ (I.hok.fresh (Nat.le_refl _)) cc rfl⟩
theorem sx_rule {k : Nat} (hr : Room k X.A) (calm : X.calm = true) {pins : List (Addr × Obj)} {s : Shared} {σ : L2.St} {H : Hp} {a : Addr} {S : Key → Prop} {n : Nat} {Q : VK} {E : Value → Shared → Prop} (I : Inv X pins σ H s) (ha : H a = some (SXO X.w a S n))
    (kind : (∀ k, S k → ∃ i, k = .inl i) ∨ ∀ k, S k → ∃ x, k = .inr x) (few : n ≤ 4000) (q : ∀ (ks : List Key) (p : Addr), ks.Nodup → (∀ k, k ∈ ks ↔ S k) → ks.length = n → H p = none → Q (.ref p) (upd H p (.lst ((ks.mergeSort leK).map kV)))) :
    wpAny (model X.prog X.w) X.A (call (.builtin "sorted") [.ref a]) (fun v s' => ∃ x H', Inv X pins σ H' s' ∧ RelV x v ∧ Q x H') E s := by
  have R : SX X.w s.heap a S n := (I.hok a _ ha).1
  have un := hr.un
  refine sx_sorted (enc := encK) R (I.ok.hd calm) (fun k v hk hv => ⟨[], fun h => ⟨?_, fun _ z => nomatch z⟩⟩) (fun k j hk hj => ?_) (fun k hk => ?_) (by omega) (fun k => ?_) (Nat.le_trans few (by decide)) fun s' p out c ks keep gens os hp atp nd mem len each => ?_
  · rcases keyIs_shape hv with ⟨i, t, rfl, rfl⟩ | ⟨x, t, rfl, rfl⟩
    · exact .int i t
    · exact .str x t
  · rcases kind with c | c
    · obtain ⟨i, rfl⟩ := c k hk
      obtain ⟨j, rfl⟩ := c j hj
      rfl
    · obtain ⟨i, rfl⟩ := c k hk
      obtain ⟨j, rfl⟩ := c j hj
      rfl
  · cases k <;> exact ⟨nofun, nofun⟩
  · cases k <;> exact Nat.zero_le _
  have rv := vals_keys each
  have hlen : ((ks.mergeSort leK).map kV).length ≤ sizeLine := by
    rw [List.length_map, List.length_mergeSort, len]
    exact Nat.le_trans few (by decide)
  have hn : H p = none := I.hok.fresh hp
  have J : Inv X pins σ (upd H p (.lst ((ks.mergeSort leK).map kV))) { s with heap := s'.heap, gens := s'.gens, drawn := s'.drawn, toks := s'.toks } :=
    I.call (ch := []) (Un.laid keep hp hn) (I.hok.laid keep hp ⟨hlen, out, c, rv, atp⟩) (by rw [gens]; exact I.bare) (fun _ z => nomatch z)
  have e : s' = { s with heap := s'.heap, gens := s'.gens, drawn := s'.drawn, toks := s'.toks } := by
    cases s'
    cases s
    cases os
    rfl
  rw [e]
  exact ⟨.ref p, _, J, rfl, q ks p nd mem len hn⟩
theorem keys_ints : ∀ ks : List Key, (∀ k ∈ ks, ∃ i, k = .inl i) → ∃ ns : List Int, ks = ns.map Sum.inl
  | [], _ => ⟨[], rfl⟩
  | k :: ks, h => by
    obtain ⟨i, rfl⟩ := h k List.mem_cons_self
    obtain ⟨ns, rfl⟩ := keys_ints ks fun j hj => h j (List.mem_cons_of_mem _ hj)
    exact ⟨i :: ns, rfl⟩
theorem keys_strs : ∀ ks : List Key, (∀ k ∈ ks, ∃ i, k = .inr i) → ∃ ns : List Str, ks = ns.map Sum.inr
  | [], _ => ⟨[], rfl⟩
  | k :: ks, h => by
    obtain ⟨i, rfl⟩ := h k List.mem_cons_self
    obtain ⟨ns, rfl⟩ := keys_strs ks fun j hj => h j (List.mem_cons_of_mem _ hj)
    exact ⟨i :: ns, rfl⟩
theorem nodup_of_map {α β : Type} (f : α → β) : ∀ l : List α, (l.map f).Nodup → l.Nodup
  | [], _ => List.nodup_nil
  | x :: l, h => by
    rw [List.map_cons] at h
    obtain ⟨h1, h2⟩ := List.nodup_cons.mp h
    exact List.nodup_cons.mpr ⟨fun z => h1 (List.mem_map.mpr ⟨x, z, rfl⟩), nodup_of_map f l h2⟩
/-- sorted of a set of ints -/
def rSortSI (w : World) : List V → Hp → VK → Prop := fun xs H Q => ∃ (a : Addr) (S : Key → Prop) (n : Nat) (o : HO), xs = [.ref a] ∧ H a = some o ∧ o = SXO w a S n ∧ (∀ k, S k → ∃ i, k = .inl i) ∧ n ≤ 4000 ∧
  ∀ (ns : List Int) (p : Addr), ns.Pairwise (· < ·) → (∀ i, i ∈ ns ↔ S (.inl i)) → ns.length = n → H p = none → Q (.ref p) (upd H p (.lst (ns.map V.int)))
theorem cr_sortSI {k : Nat} (hr : Room k X.A) (calm : X.calm = true) : CallR X (.builtin "sorted") (rSortSI X.w) := by
  intro pins s σ H vs us Q I r h
  obtain ⟨a, S, n, o, rfl, ha, rfl, kind, few, q⟩ := h
  rw [Vals.ref1 r]
  refine sx_rule hr calm I ha (.inl kind) few fun ks p nd mem len hp => ?_
  obtain ⟨ns, rfl⟩ := keys_ints ks fun k hk => kind k ((mem k).mp hk)
  have le : ∀ a b : Int, leK (.inl a) (.inl b) = decide (a ≤ b) := fun a b => congrFun (congrFun (PySem.W.dataLe_int (β := Int) fun x => x) a) b
  have e : (ns.map Sum.inl).mergeSort leK = (ns.mergeSort fun a b => decide (a ≤ b)).map Sum.inl := (PySem.W.sort_maps (s := leK) Sum.inl (fun a _ b _ => (le a b).symm)).symm
  rw [e, List.map_map]
  have nd2 := nodup_of_map Sum.inl ns nd
  have up := List.pairwise_mergeSort (le := fun (a b : Int) => decide (a ≤ b)) (fun a b c h1 h2 => by rw [decide_eq_true_eq] at *; omega) (fun a b => by rw [Bool.or_eq_true, decide_eq_true_eq, decide_eq_true_eq]; omega) ns
  have nd3 : (ns.mergeSort fun a b => decide (a ≤ b)).Nodup := (List.mergeSort_perm ns _).nodup_iff.mpr nd2
  refine q _ p ((up.and nd3).imp fun {a b} h => ?_) (fun i => ?_) ?_ hp
  · have h1 := of_decide_eq_true h.1
    have h2 := h.2
    omega
  · rw [List.mem_mergeSort, ← mem]
    exact ⟨fun z => List.mem_map.mpr ⟨i, z, rfl⟩, fun z => by
      obtain ⟨j, z1, z2⟩ := List.mem_map.mp z
      cases z2
      exact z1⟩
  · rw [List.length_mergeSort, ← len, List.length_map]
/-- sorted of a set of texts -/
def rSortSS (w : World) : List V → Hp → VK → Prop := fun xs H Q => ∃ (a : Addr) (S : Key → Prop) (n : Nat) (o : HO), xs = [.ref a] ∧ H a = some o ∧ o = SXO w a S n ∧ (∀ k, S k → ∃ i, k = .inr i) ∧ n ≤ 4000 ∧
  ∀ (ns : List Str) (p : Addr), ns.Pairwise sl → (∀ i, i ∈ ns ↔ S (.inr i)) → ns.length = n → H p = none → Q (.ref p) (upd H p (.lst (ns.map V.str)))
theorem cr_sortSS {k : Nat} (hr : Room k X.A) (calm : X.calm = true) : CallR X (.builtin "sorted") (rSortSS X.w) := by
  intro pins s σ H vs us Q I r h
  obtain ⟨a, S, n, o, rfl, ha, rfl, kind, few, q⟩ := h
  rw [Vals.ref1 r]
  refine sx_rule hr calm I ha (.inr kind) few fun ks p nd mem len hp => ?_
  obtain ⟨ns, rfl⟩ := keys_strs ks fun k hk => kind k ((mem k).mp hk)
  have le : ∀ a b : Str, leK (.inr a) (.inr b) = decide (a.cps.toList ≤ b.cps.toList) := fun a b => congrFun (congrFun (PySem.W.dataLe_str (β := Str) fun x => x) a) b
  have e : (ns.map Sum.inr).mergeSort leK = (ns.mergeSort fun a b => decide (a.cps.toList ≤ b.cps.toList)).map Sum.inr := (PySem.W.sort_maps (s := leK) Sum.inr (fun a _ b _ => (le a b).symm)).symm
  rw [e, List.map_map]
  have nd2 := nodup_of_map Sum.inr ns nd
  have up := List.pairwise_mergeSort (le := fun (a b : Str) => decide (a.cps.toList ≤ b.cps.toList)) (fun a b c h1 h2 => by rw [decide_eq_true_eq] at *; exact List.le_trans h1 h2) (fun a b => by rw [Bool.or_eq_true, decide_eq_true_eq, decide_eq_true_eq]; exact List.le_total _ _) ns
  have nd3 : (ns.mergeSort fun a b => decide (a.cps.toList ≤ b.cps.toList)).Nodup := (List.mergeSort_perm ns _).nodup_iff.mpr nd2
  refine q _ p ((up.and nd3).imp fun {a b} h => ?_) (fun i => ?_) ?_ hp
  · have h1 := of_decide_eq_true h.1
    rcases sl_tot a b with z | z | z
    · exact z
    · exact absurd z h.2
    · exact absurd z (List.not_lt.mpr h1)
  · rw [List.mem_mergeSort, ← mem]
    exact ⟨fun z => List.mem_map.mpr ⟨i, z, rfl⟩, fun z => by
      obtain ⟨j, z1, z2⟩ := List.mem_map.mp z
      cases z2
      exact z1⟩
  · rw [List.length_mergeSort, ← len, List.length_map]
end
/-! ### lots of runs, in lists or tuples -/
def SqB (b : Bool) (K : PySem.W.Frag) (H : Hp) (a : Addr) (xs : List V) : Prop := if b = true then SqL K H a xs else SqT K H a xs
def Ita (b : Bool) (K : PySem.W.Frag) (a : Addr) : It := if b = true then Itl K a else Itt K a
theorem SqB.sm {b : Bool} {K : PySem.W.Frag} {H H' : Hp} {a : Addr} {xs : List V} (e : Same H H') (h : SqB b K H a xs) : SqB b K H' a xs := by
  cases b
  · exact SqT.sm e h
  · exact SqL.sm e h
/-- a walk over a list or a tuple, whichever is told ahead -/
def iSeq (K : PySem.W.Frag) (tl : TE) : TI := fun σ H R => ∃ b : Bool, tl σ H fun x H1 => ∃ a, x = .ref a ∧ (∃ xs, SqB b K H1 a xs) ∧ R (Ita b K a) H1
theorem pi_seq {X : Cx} {tg l : Expr} {tl : TE} (hl : PE X l tl) : PI X tg l (iSeq X.K tl) := by
  refine ⟨fun pins s σ H R I h => ?_⟩
  obtain ⟨b, h⟩ := h
  cases b
  · exact (pi_tup hl).run pins s σ H R I h
  · exact (pi_list hl).run pins s σ H R I h
theorem walk_seq {b : Bool} {K : PySem.W.Frag} {a : Addr} {xs : List V} : Walk (Ita b K a) xs.length (fun H => SqB b K H a xs) (YAt xs) := by
  cases b
  · exact walk_tup
  · exact walk_list
def NmOk (x : Str) : Prop := x.length ≤ 8 ∧ (x.cps.toList.all fun c => decide (c < 16 ^ 8)) = true
def RnOk (r : Rn) : Prop := 0 ≤ r.2.1 ∧ r.2.1 < r.2.2 ∧ r.2.2 ≤ 1000000000
def spNames : Sp := fun vs H Q _ => ∃ (f c : Addr) (n : Int), vs = [.ref f] ∧ Fd H f c n ∧ n ≤ 900000 ∧
  ∀ (l : Addr) (xs : List Str) (H' : Hp), Fd H' f c (n + 8) → But f H H' → l ≠ f → l ≠ c → H l = none → H' l = some (.lst (xs.map V.str)) → xs.length = 4 → (∀ x ∈ xs, NmOk x) → Q (.ref l) H'
def spAt : Sp := fun vs H Q _ => ∃ (f c : Addr) (m n : Int), vs = [.ref f, .int m] ∧ Fd H f c n ∧ n ≤ 900000 ∧ 0 < m ∧ m ≤ 1000000 ∧
  ∀ (d : Int) (H' : Hp), 0 ≤ d → d ≤ 999999999 → Fd H' f c (n + 4) → But f H H' → (∀ a, H a = none → H' a = none) → Q (.int d) H'
def spRun : Sp := fun vs H Q _ => ∃ (f c l : Addr) (m n : Int) (xs : List Str), vs = [.ref f, .ref l, .int m] ∧ Fd H f c n ∧ n ≤ 800000 ∧ 0 < m ∧ m ≤ 1000000 ∧ H l = some (.lst (xs.map V.str)) ∧ l ≠ f ∧ 0 < xs.length ∧ xs.length ≤ 10 ∧
  ∀ (t : Addr) (r : Rn) (H' : Hp), Fd H' f c (n + 8) → But f H H' → H t = none → H' t = some (.tup (rnV r)) → RnOk r → r.1 ∈ xs → Q (.ref t) H'
def spLot : Sp := fun vs H Q _ => ∃ (f c l : Addr) (m k n : Int) (xs : List Str), vs = [.ref f, .ref l, .int m, .int k] ∧ Fd H f c n ∧ n ≤ 700000 ∧ 0 < m ∧ m ≤ 1000000 ∧ 2 ≤ k ∧ k ≤ 60 ∧ H l = some (.lst (xs.map V.str)) ∧ l ≠ f ∧ 0 < xs.length ∧ xs.length ≤ 10 ∧
  ∀ (t : Addr) (ps : List Addr) (rs : List Rn) (H' : Hp), Fd H' f c (n + 600) → But f H H' → t ≠ f → t ≠ c → H t = none → H' t = some (.lst (ps.map V.ref)) → Prd H' ps rs → rs.length ≤ 60 → (rs.length : Int) ≤ k → (∀ r ∈ rs, RnOk r ∧ r.1 ∈ xs) → Q (.ref t) H'
def spHas (K : PySem.W.Frag) : Sp := fun vs H Q _ => ∃ (b : Bool) (a : Addr) (s : Str) (n : Int) (ps : List Addr) (rs : List Rn), vs = [.ref a, .str s, .int n] ∧ SqB b K H a (ps.map V.ref) ∧ Prd H ps rs ∧ rs.length ≤ 1000 ∧
  ∀ H', Same H H' → Q (.bl (hasB rs s n)) H'
theorem Prd.but {H H' : Hp} {f c : Addr} {n : Int} {ps : List Addr} {rs : List Rn} (hf : Fd H f c n) (b : But f H H') (h : Prd H ps rs) : Prd H' ps rs := by
  obtain ⟨zs, hz⟩ := hf.at
  refine Prd.keep (fun p hp o e => ?_) h
  obtain ⟨r, _, e2⟩ := Prd.mem h hp
  rw [e2] at e
  cases Option.some.inj e
  exact b p _ (ne_of e2 hz (fun z => nomatch z)) e2
theorem Prd.put {H : Hp} {l : Addr} {xs : List V} {o : HO} {ps : List Addr} {rs : List Rn} (hl : H l = some (.lst xs)) (h : Prd H ps rs) : Prd (upd H l o) ps rs := by
  refine Prd.keep (fun p hp u e => ?_) h
  obtain ⟨r, _, e2⟩ := Prd.mem h hp
  rw [upd_ne (ne_of e2 hl (fun z => nomatch z))]
  exact e
theorem pick_str {xs : List Str} {d : Int} (d0 : 0 ≤ d) (d1 : d < (((xs.map V.str).length : Nat) : Int)) : ∃ s ∈ xs, atI (xs.map V.str) d = some (.str s) := by
  rw [List.length_map] at d1
  obtain ⟨k, rfl⟩ : ∃ k : Nat, d = (k : Int) := ⟨d.toNat, by omega⟩
  have hk : k < xs.length := by omega
  exact ⟨xs[k], List.getElem_mem hk, atI_nat (by rw [List.getElem?_map, List.getElem?_eq_getElem hk]; rfl)⟩
theorem pick_ref {ps : List Addr} {rs : List Rn} {H : Hp} {d : Int} (h : Prd H ps rs) (d0 : 0 ≤ d) (d1 : d < (((ps.map V.ref).length : Nat) : Int)) : ∃ p, ∃ r ∈ rs, atI (ps.map V.ref) d = some (.ref p) ∧ H p = some (.tup (rnV r)) := by
  rw [List.length_map] at d1
  obtain ⟨k, rfl⟩ : ∃ k : Nat, d = (k : Int) := ⟨d.toNat, by omega⟩
  have hk : k < ps.length := by omega
  obtain ⟨r, h1, h2⟩ := Prd.get h (List.getElem?_eq_getElem hk)
  exact ⟨ps[k], r, List.mem_of_getElem? h1, atI_nat (by rw [List.getElem?_map, List.getElem?_eq_getElem hk]; rfl), h2⟩
theorem mulk_ok (ch : Nat) (d : Int) (h0 : 0 ≤ d) (h1 : d < 100) : MulOk ⟨#[ch]⟩ d := by
  refine ⟨?_, fun _ hd => ?_, fun _ _ => ?_⟩
  · simp only [Bool.or_eq_false_iff, decide_eq_false_iff_not]
    constructor <;> omega
  · have e : (⟨#[ch]⟩ : Str).length = 1 := rfl
    rw [e]
    by_cases z : d = 0
    · subst z
      first | omega | simp_all
    · have : (1 : Int) ≤ (2 ^ 63 - 1) / d := by
        rw [Int.le_ediv_iff_mul_le (by omega)]
        omega
      omega
  · have e : (⟨#[ch]⟩ : Str).length = 1 := rfl
    rw [e, Nat.one_mul]
    unfold Builtin.Str.tooLong
    rw [decide_eq_false_iff_not, sizeLine_eq]
    omega
theorem mulk_nm {ch : Nat} (d : Int) (h : ch < 16 ^ 8) (h1 : d ≤ 8) : NmOk (Txt.mul ⟨#[ch]⟩ d) := ⟨len_mul_one rfl h1, mul_chr d h⟩
theorem nm_app {a b : Str} {n m : Nat} (ha : a.length ≤ n ∧ (a.cps.toList.all fun c => decide (c < 16 ^ 8)) = true) (hb : b.length ≤ m ∧ (b.cps.toList.all fun c => decide (c < 16 ^ 8)) = true) (h : n + m ≤ 8) : NmOk (a ++ b) := by
  refine ⟨?_, ?_⟩
  · rw [strLen_append]
    omega
  · have e : (a ++ b).cps.toList = a.cps.toList ++ b.cps.toList := Array.toList_append
    rw [e, List.all_append, ha.2, hb.2]
    rfl
theorem nm_sign {ch : Nat} (h : ch < 16 ^ 8) : (⟨#[ch]⟩ : Str).length ≤ 1 ∧ ((⟨#[ch]⟩ : Str).cps.toList.all fun c => decide (c < 16 ^ 8)) = true := ⟨Nat.le_refl 1, by simp [h]⟩
theorem cut_tail (xs : List V) : cutV xs (some 1) none = xs.tail := by
  have e : HT.sIx xs.length 0 (some ((1 : Nat) : Int)) = min 1 xs.length := HT.sIx_nat _ _ _
  have e : HT.sIx xs.length 0 (some 1) = min 1 xs.length := e
  unfold cutV
  rw [e, HT.sIx_none]
  cases xs with
  | nil => rfl
  | cons x r =>
    have z : min 1 (x :: r).length = 1 := by rw [List.length_cons]; omega
    rw [z, List.length_cons]
    show r.take (r.length + 1 - 1) = r
    rw [Nat.add_sub_cancel, List.take_length]
/-- a lot of runs, in a list (b) or a tuple -/
structure Lt where
  b : Bool
  a : Addr
  ps : List Addr
  rs : List Rn
def LtAt (K : PySem.W.Frag) (H : Hp) (x : Lt) : Prop := SqB x.b K H x.a (x.ps.map V.ref) ∧ Prd H x.ps x.rs ∧ x.rs.length ≤ 200
theorem LtAt.same {K : PySem.W.Frag} {H H' : Hp} {x : Lt} (s : Same H H') (h : LtAt K H x) : LtAt K H' x := ⟨SqB.sm s h.1, Prd.same s h.2.1, h.2.2⟩
def allR (ls : List Lt) : List Rn := ls.flatMap fun x => x.rs
theorem allR_more {ls : List Lt} {i : Nat} {x : Lt} (h : ls[i]? = some x) : allR (ls.take (i + 1)) = allR (ls.take i) ++ x.rs := by
  obtain ⟨hi, e⟩ := List.getElem?_eq_some_iff.mp h
  unfold allR
  rw [List.take_succ_eq_append_getElem hi, List.flatMap_append, e, List.flatMap_singleton]
theorem allR_len {K : PySem.W.Frag} {H : Hp} : ∀ {ls : List Lt}, (∀ x ∈ ls, LtAt K H x) → (allR ls).length ≤ 200 * ls.length
  | [], _ => Nat.le_refl _
  | x :: ls, h => by
    have z := allR_len (ls := ls) fun y hy => h y (List.mem_cons_of_mem _ hy)
    have y := (h x List.mem_cons_self).2.2
    unfold allR at *
    rw [List.flatMap_cons, List.length_append, List.length_cons]
    omega
def endsOf (rs : List Rn) : List Int := rs.flatMap fun r => [r.2.1, r.2.2]
theorem endsOf_app (a b : List Rn) : endsOf (a ++ b) = endsOf a ++ endsOf b := List.flatMap_append
theorem endsOf_len : ∀ rs : List Rn, (endsOf rs).length = 2 * rs.length
  | [] => rfl
  | r :: rs => by
    have z := endsOf_len rs
    unfold endsOf at *
    rw [List.flatMap_cons, List.length_append, z, List.length_cons (as := rs)]
    show 2 + 2 * rs.length = 2 * (rs.length + 1)
    omega
theorem ends_of {rs : List Rn} {ns : List Str} {cs : List Int} (h1 : ∀ s, s ∈ ns ↔ s ∈ rs.map (·.1)) (h2 : ∀ i, i ∈ cs ↔ i ∈ endsOf rs) : Ends rs ns cs := fun r hr => by
  refine ⟨(h1 _).mpr (List.mem_map.mpr ⟨r, hr, rfl⟩), (h2 _).mpr ?_, (h2 _).mpr ?_⟩
  · exact List.mem_flatMap.mpr ⟨r, hr, List.mem_cons_self⟩
  · exact List.mem_flatMap.mpr ⟨r, hr, List.mem_cons_of_mem _ List.mem_cons_self⟩
theorem hasB_all (ls : List Lt) (s : Str) (n : Int) : ((ls.map fun x => hasB x.rs s n).any _root_.id) = hasB (allR ls) s n := by
  unfold hasB allR
  rw [List.any_flatMap, List.any_map]
  rfl
theorem goods_more {P : Str → Int → Bool} {s : Str} {ps : List (Int × Int)} {j : Nat} {p : Int × Int} (h : ps[j]? = some p) : goods P s (ps.take (j + 1)) = goods P s (ps.take j) ++ if P s p.1 = true then [(s, p.1, p.2)] else [] := by
  obtain ⟨hj, e⟩ := List.getElem?_eq_some_iff.mp h
  unfold goods
  rw [List.take_succ_eq_append_getElem hj, List.filter_append, List.map_append, e]
  congr 1
  cases hP : P s p.1 <;> simp [hP]
theorem goods_len {P : Str → Int → Bool} {s : Str} (ps : List (Int × Int)) : (goods P s ps).length ≤ ps.length := by
  unfold goods
  rw [List.length_map]
  exact List.length_filter_le _ _
theorem join_len (acc : List Rn) (r : Rn) : (join acc r).length ≤ acc.length + 1 := by
  rcases nil_or_snoc acc with rfl | ⟨i, l, rfl⟩
  · exact Nat.le_refl _
  · rw [join_snoc]
    split
    · rw [List.length_append, List.length_append, List.length_singleton, List.length_singleton]
      omega
    · rw [List.length_append, List.length_append, List.length_singleton, List.length_singleton]
      omega
theorem fold_join_len : ∀ (l acc : List Rn), (l.foldl join acc).length ≤ acc.length + l.length
  | [], acc => Nat.le_refl _
  | r :: l, acc => by
    have z := fold_join_len l (join acc r)
    have y := join_len acc r
    rw [List.foldl_cons, List.length_cons]
    omega
theorem flat_goods_len {P : Str → Int → Bool} (ps : List (Int × Int)) : ∀ ss : List Str, (ss.flatMap fun s => goods P s ps).length ≤ ss.length * ps.length
  | [] => Nat.zero_le _
  | s :: ss => by
    have z := flat_goods_len (P := P) ps ss
    have y := goods_len (P := P) (s := s) ps
    rw [List.flatMap_cons, List.length_append, List.length_cons, Nat.succ_mul]
    omega
theorem pcs_get {cs : List Int} {j : Nat} {x y : Int} (hx : cs[j]? = some x) (hy : cs.tail[j]? = some y) : (pcs cs)[j]? = some (x, y) := by
  unfold pcs
  rw [List.getElem?_zip_eq_some]
  exact ⟨hx, hy⟩
def spMade (K : PySem.W.Frag) : Sp := fun vs H Q _ => ∃ (l : Addr) (ls : List Lt), vs = [.ref l, .str (("some" : String) : Str)] ∧ SqL K H l (ls.map fun x => V.ref x.a) ∧ (∀ x ∈ ls, LtAt K H x) ∧ 0 < ls.length ∧ ls.length ≤ 3 ∧ Full (allR ls) ∧
  ∀ (t : Addr) (qs : List Addr) (H' : Hp), Same H H' → H t = none → H' t = some (.tup (qs.map V.ref)) → Prd H' qs (runsOf (allR ls)) → Q (.ref t) H'
def dictM (a b c : Bool) : List (Key × V) := [(Sum.inr (("some" : String) : Str), .bl a), (Sum.inr (("all" : String) : Str), .bl b), (Sum.inr (("first" : String) : Str), .bl c)]
theorem rn_fine {r : Rn} (h1 : RnOk r) (h2 : NmOk r.1) : fineD (rnD r) = true ∧ cost (rnD r) ≤ 5000 := by
  obtain ⟨a, b, c⟩ := h1
  refine ⟨?_, ?_⟩
  · show (fineD (.str r.1) && (fineD (.int r.2.1) && (fineD (.int r.2.2) && true))) = true
    have e : fineD (.str r.1) = true := h2.2
    rw [e, int_fine (by omega) (by omega), int_fine (by omega) (by omega)]
    rfl
  · have := h2.1
    simp only [rnD, Pn.cost, costAll]
    omega
theorem rns_fine : ∀ rs : List Rn, (∀ r ∈ rs, RnOk r ∧ NmOk r.1) → fineAll (rs.map rnD) = true ∧ costAll (rs.map rnD) ≤ 5002 * rs.length
  | [], _ => ⟨rfl, Nat.le_refl _⟩
  | r :: rs, h => by
    obtain ⟨z1, z2⟩ := rns_fine rs fun x hx => h x (List.mem_cons_of_mem _ hx)
    obtain ⟨y1, y2⟩ := rn_fine (h r List.mem_cons_self).1 (h r List.mem_cons_self).2
    refine ⟨?_, ?_⟩
    · rw [List.map_cons]
      unfold fineAll
      rw [y1, z1]
      rfl
    · rw [List.map_cons, List.length_cons]
      unfold costAll
      omega
theorem rns_depth (rs : List Rn) : PyData.depthAll (rs.map rnD) ≤ 2 := by
  induction rs with
  | nil => simp [PyData.depthAll]
  | cons r l ih =>
    rw [List.map_cons]
    simp only [PyData.depthAll, rnD, PyData.depth] at *
    omega
def lotD (rs : List Rn) : PyData := .list (rs.map rnD)
theorem lot_show {rs : List Rn} (h : ∀ r ∈ rs, RnOk r ∧ NmOk r.1) (hl : rs.length ≤ 60) : (lotD rs).showable = true ∧ (lotD rs).hasDict = false ∧ (lotD rs).depth ≤ 60 ∧ (lotD rs).shown.length ≤ sizeLine := by
  obtain ⟨z1, z2⟩ := rns_fine rs h
  have f : fineD (lotD rs) = true := z1
  have c := shown_cost _ f
  have e : cost (lotD rs) = costAll (rs.map rnD) + 3 := rfl
  have d := rns_depth rs
  obtain ⟨s1, s2⟩ := fine_show _ f
  refine ⟨s1, s2, ?_, Nat.le_trans c (Nat.le_trans (show _ ≤ 1000000 by omega) (by decide))⟩
  simp only [lotD, PyData.depth]
  omega
theorem lot_dp {K : PySem.W.Frag} {H : Hp} {t : Addr} {ps : List Addr} {rs : List Rn} (h : H t = some (.lst (ps.map V.ref))) (hp : Prd H ps rs) : Dp K H (.ref t) (lotD rs) := .lst (SqL.of h) (Prd.dp hp)
theorem Prd.rev {H : Hp} : ∀ {ps : List Addr} {rs : List Rn}, Prd H ps rs → Prd H ps.reverse rs.reverse
  | _, _, .nil => .nil
  | _, _, .cons a b => by
    rw [List.reverse_cons, List.reverse_cons]
    exact Prd.app (Prd.rev b) (Prd.one a)
theorem Prd.take {H : Hp} : ∀ {ps : List Addr} {rs : List Rn} (n : Nat), Prd H ps rs → Prd H (ps.take n) (rs.take n)
  | _, _, 0, _ => .nil
  | _, _, _ + 1, .nil => .nil
  | _, _, n + 1, .cons a b => .cons a (Prd.take n b)
theorem one_lot {K : PySem.W.Frag} {H : Hp} {x : Lt} (h : LtAt K H x) : ∀ y ∈ [x], LtAt K H y := fun y hy => by
  rw [List.mem_singleton.mp hy]
  exact h
theorem all_one (x : Lt) : allR [x] = x.rs := List.flatMap_singleton ..
theorem Nice.up : ∀ {n : Nat} {d : PyData}, Nice n d → Nice (n + 1) d
  | 0, _, h => Or.inl h
  | n + 1, _, h => by
    rcases h with h | ⟨ds, h1, h2, h3⟩
    · exact Or.inl h
    · exact Or.inr ⟨ds, h1, h2, fun e he => Nice.up (h3 e he)⟩
/-! ### both, less: pure, and what they have -/
/-- (a, i) ≤ (b, j) as Python has it -/
def lexLe (a : Str) (i : Int) (b : Str) (j : Int) : Bool := !PySem.W.dataLt (.tuple [.str b, .int j]) (.tuple [.str a, .int i])
theorem lexLe_iff (a : Str) (i : Int) (b : Str) (j : Int) : lexLe a i b j = true ↔ sl a b ∨ (a = b ∧ i ≤ j) := by
  unfold lexLe
  rw [PySem.W.dataLt_pair (by simp [PySem.W.alike]) (by simp [PySem.W.alike]), PySem.W.dataLt_str, PySem.W.dataLt_int]
  simp only [PyData.eqv, beq_iff_eq]
  by_cases e : b = a
  · subst e
    rw [if_pos rfl]
    by_cases e2 : j = i
    · subst e2
      rw [if_pos rfl]
      exact ⟨fun _ => .inr ⟨rfl, Int.le_refl _⟩, fun _ => rfl⟩
    · rw [if_neg e2, Bool.not_eq_true', decide_eq_false_iff_not]
      constructor
      · intro h
        exact .inr ⟨rfl, by omega⟩
      · rintro (h | ⟨_, h⟩)
        · exact (sl_irr _ h).elim
        · omega
  · rw [if_neg e, Bool.not_eq_true', decide_eq_false_iff_not]
    constructor
    · intro h
      rcases sl_tot a b with z | z | z
      · exact .inl z
      · exact absurd z.symm e
      · exact absurd z h
    · rintro (h | ⟨h, _⟩) z
      · exact sl_as h z
      · exact e h.symm
theorem lexLe_not {a : Str} {i : Int} {b : Str} {j : Int} (h : ¬ lexLe a i b j = true) : sl b a ∨ (a = b ∧ j < i) := by
  rw [lexLe_iff] at h
  rcases sl_tot a b with z | z | z
  · exact absurd (.inl z) h
  · exact .inr ⟨z, Int.not_le.mp fun k => h (.inr ⟨z, k⟩)⟩
  · exact .inl z
def mx (a b : Int) : Int := if b > a then b else a
def mn (a b : Int) : Int := if b < a then b else a
theorem mx_is (a b : Int) : (mx a b = a ∧ b ≤ a) ∨ (mx a b = b ∧ a ≤ b) := by
  unfold mx
  split <;> omega
theorem mn_is (a b : Int) : (mn a b = a ∧ a ≤ b) ∨ (mn a b = b ∧ b ≤ a) := by
  unfold mn
  split <;> omega
def meet (x y : Rn) : List Rn := if x.1 = y.1 ∧ mx x.2.1 y.2.1 < mn x.2.2 y.2.2 then [(x.1, mx x.2.1 y.2.1, mn x.2.2 y.2.2)] else []
def bothL : List Rn → List Rn → List Rn
  | x :: a, y :: b => meet x y ++ if lexLe x.1 x.2.2 y.1 y.2.2 = true then bothL a (y :: b) else bothL (x :: a) b
  | [], _ => []
  | _ :: _, [] => []
termination_by a b => a.length + b.length
theorem both_cons (x : Rn) (a : List Rn) (y : Rn) (b : List Rn) : bothL (x :: a) (y :: b) = meet x y ++ if lexLe x.1 x.2.2 y.1 y.2.2 = true then bothL a (y :: b) else bothL (x :: a) b := by
  rw [bothL]
theorem both_nil (b : List Rn) : bothL [] b = [] := by rw [bothL]
theorem both_nil2 (a : List Rn) : bothL a [] = [] := by cases a <;> rw [bothL]
theorem meet_in {x y r : Rn} : r ∈ meet x y ↔ x.1 = y.1 ∧ r.1 = x.1 ∧ r.2.1 = mx x.2.1 y.2.1 ∧ r.2.2 = mn x.2.2 y.2.2 ∧ r.2.1 < r.2.2 := by
  unfold meet
  split
  · rename_i h
    rw [List.mem_singleton]
    constructor
    · rintro rfl
      exact ⟨h.1, rfl, rfl, rfl, h.2⟩
    · rintro ⟨_, h1, h2, h3, _⟩
      exact Prod.ext h1 (Prod.ext h2 h3)
  · rename_i h
    refine ⟨fun z => (nomatch z), ?_⟩
    rintro ⟨h0, h1, h2, h3, h4⟩
    exact (h ⟨h0, by omega⟩).elim
theorem both_in : ∀ (a b : List Rn) (r : Rn), r ∈ bothL a b → ∃ u ∈ a, ∃ v ∈ b, r ∈ meet u v
  | [], b, r, h => by rw [both_nil] at h; exact nomatch h
  | x :: a, [], r, h => by rw [both_nil2] at h; exact nomatch h
  | x :: a, y :: b, r, h => by
    rw [both_cons] at h
    rcases List.mem_append.mp h with h | h
    · exact ⟨x, List.mem_cons_self, y, List.mem_cons_self, h⟩
    · split at h
      · obtain ⟨u, hu, v, hv, z⟩ := both_in a (y :: b) r h
        exact ⟨u, List.mem_cons_of_mem _ hu, v, hv, z⟩
      · obtain ⟨u, hu, v, hv, z⟩ := both_in (x :: a) b r h
        exact ⟨u, hu, v, List.mem_cons_of_mem _ hv, z⟩
termination_by a b => a.length + b.length
theorem meet_apart {x y u v r s : Rn} (hr : r ∈ meet x y) (hs : s ∈ meet u v) (h : apart x u = true ∨ apart y v = true) : apart r s = true := by
  obtain ⟨r0, r1, r2, r3, r4⟩ := meet_in.mp hr
  obtain ⟨s0, s1, s2, s3, s4⟩ := meet_in.mp hs
  have m1 := mx_is u.2.1 v.2.1
  have m2 := mn_is x.2.2 y.2.2
  rw [apart_iff]
  rcases h with h | h
  · rcases (apart_iff _ _).mp h with ⟨e, k⟩ | k
    · exact .inl ⟨r1.trans (e.trans s1.symm), by omega⟩
    · exact .inr (by rw [r1, s1]; exact k)
  · rcases (apart_iff _ _).mp h with ⟨e, k⟩ | k
    · exact .inl ⟨r1.trans (r0.trans (e.trans (s0.symm.trans s1.symm))), by omega⟩
    · exact .inr (by rw [r1, s1, r0, s0]; exact k)
theorem has_one {r : Rn} {l : List Rn} {s : Str} {n : Int} (h : r ∈ l) (k : r.1 = s ∧ r.2.1 ≤ n ∧ n < r.2.2) : has l s n := ⟨r, h, k⟩
theorem meet_has (x y : Rn) (s : Str) (n : Int) : has (meet x y) s n ↔ (x.1 = s ∧ x.2.1 ≤ n ∧ n < x.2.2) ∧ (y.1 = s ∧ y.2.1 ≤ n ∧ n < y.2.2) := by
  have m1 := mx_is x.2.1 y.2.1
  have m2 := mn_is x.2.2 y.2.2
  constructor
  · rintro ⟨r, h, k1, k2, k3⟩
    obtain ⟨r0, r1, r2, r3, r4⟩ := meet_in.mp h
    exact ⟨⟨r1.symm.trans k1, by omega, by omega⟩, ⟨r0.symm.trans (r1.symm.trans k1), by omega, by omega⟩⟩
  · rintro ⟨⟨k1, k2, k3⟩, ⟨j1, j2, j3⟩⟩
    exact ⟨(x.1, mx x.2.1 y.2.1, mn x.2.2 y.2.2), meet_in.mpr ⟨k1.trans j1.symm, rfl, rfl, rfl, by show mx _ _ < mn _ _; omega⟩, k1, by show mx _ _ ≤ n; omega, by show n < mn _ _; omega⟩
theorem both_ok : ∀ (a b : List Rn), Canon a → Canon b → Canon (bothL a b) ∧ ∀ s n, has (bothL a b) s n ↔ has a s n ∧ has b s n
  | [], b, _, _ => by
    rw [both_nil]
    exact ⟨canon_nil, fun s n => ⟨fun h => (has_nil _ _ h).elim, fun h => (has_nil _ _ h.1).elim⟩⟩
  | x :: a, [], _, _ => by
    rw [both_nil2]
    exact ⟨canon_nil, fun s n => ⟨fun h => (has_nil _ _ h).elim, fun h => (has_nil _ _ h.2).elim⟩⟩
  | x :: a, y :: b, ha, hb => by
    rw [both_cons]
    by_cases c : lexLe x.1 x.2.2 y.1 y.2.2 = true
    · rw [if_pos c]
      obtain ⟨i1, i2⟩ := both_ok a (y :: b) ha.tail hb
      rw [lexLe_iff] at c
      refine ⟨⟨List.pairwise_append.mpr ⟨?_, i1.1, fun r hr t ht => ?_⟩, fun r hr => ?_⟩, fun s n => ?_⟩
      · unfold meet
        split
        · exact List.pairwise_singleton _ _
        · exact .nil
      · obtain ⟨u, hu, v, hv, z⟩ := both_in _ _ _ ht
        exact meet_apart hr z (.inl ((List.pairwise_cons.mp ha.1).1 u hu))
      · rcases List.mem_append.mp hr with hr | hr
        · exact (meet_in.mp hr).2.2.2.2
        · exact i1.2 r hr
      · rw [has_app, i2, meet_has, has_cons x a, has_cons y b]
        constructor
        · rintro (⟨h1, h2⟩ | ⟨h1, h2⟩)
          · exact ⟨.inl h1, .inl h2⟩
          · exact ⟨.inr h1, h2⟩
        · rintro ⟨h1 | h1, h2⟩
          · rcases h2 with h2 | h2
            · exact .inl ⟨h1, h2⟩
            · exfalso
              rcases canon_first hb h2 with ⟨e, k⟩ | k
              · rcases c with c | ⟨c1, c2⟩
                · rw [h1.1, e] at c
                  exact sl_irr _ c
                · omega
              · rcases c with c | ⟨c1, c2⟩
                · exact sl_as c (h1.1 ▸ k)
                · rw [← c1, h1.1] at k
                  exact sl_irr _ k
          · exact .inr ⟨h1, h2⟩
    · rw [if_neg c]
      obtain ⟨i1, i2⟩ := both_ok (x :: a) b ha hb.tail
      have c := lexLe_not c
      refine ⟨⟨List.pairwise_append.mpr ⟨?_, i1.1, fun r hr t ht => ?_⟩, fun r hr => ?_⟩, fun s n => ?_⟩
      · unfold meet
        split
        · exact List.pairwise_singleton _ _
        · exact .nil
      · obtain ⟨u, hu, v, hv, z⟩ := both_in _ _ _ ht
        exact meet_apart hr z (.inr ((List.pairwise_cons.mp hb.1).1 v hv))
      · rcases List.mem_append.mp hr with hr | hr
        · exact (meet_in.mp hr).2.2.2.2
        · exact i1.2 r hr
      · rw [has_app, i2, meet_has, has_cons x a, has_cons y b]
        constructor
        · rintro (⟨h1, h2⟩ | ⟨h1, h2⟩)
          · exact ⟨.inl h1, .inl h2⟩
          · exact ⟨h1, .inr h2⟩
        · rintro ⟨h1, h2 | h2⟩
          · rcases h1 with h1 | h1
            · exact .inl ⟨h1, h2⟩
            · exfalso
              rcases canon_first ha h1 with ⟨e, k⟩ | k
              · rcases c with c | ⟨c1, c2⟩
                · rw [h2.1, e] at c
                  exact sl_irr _ c
                · omega
              · rcases c with c | ⟨c1, c2⟩
                · exact sl_as c (h2.1 ▸ k)
                · rw [c1, h2.1] at k
                  exact sl_irr _ k
          · exact .inr ⟨h1, h2⟩
termination_by a b => a.length + b.length
/-! less -/
def tailL (s : Str) (lo hi : Int) : List Rn := if lo < hi then [(s, lo, hi)] else []
def leftL (s : Str) (hi : Int) : Int → List Rn → List Rn
  | lo, [] => tailL s lo hi
  | lo, o :: os => if o.1 = s ∧ o.2.1 < hi then tailL s lo o.2.1 ++ leftL s hi o.2.2 os else tailL s lo hi
def skipL (s : Str) (lo : Int) (b : List Rn) : List Rn := b.dropWhile fun o => lexLe o.1 o.2.2 s lo
def lessL : List Rn → List Rn → List Rn
  | [], _ => []
  | x :: a, b => leftL x.1 x.2.2 x.2.1 (skipL x.1 x.2.1 b) ++ lessL a (skipL x.1 x.2.1 b)
theorem tail_in {s : Str} {lo hi : Int} {r : Rn} : r ∈ tailL s lo hi ↔ r = (s, lo, hi) ∧ lo < hi := by
  unfold tailL
  split
  · rename_i h
    rw [List.mem_singleton]
    exact ⟨fun z => ⟨z, h⟩, fun z => z.1⟩
  · rename_i h
    exact ⟨fun z => (nomatch z), fun z => (h z.2).elim⟩
theorem tail_has (s : Str) (lo hi : Int) (t : Str) (n : Int) : has (tailL s lo hi) t n ↔ t = s ∧ lo ≤ n ∧ n < hi := by
  constructor
  · rintro ⟨r, h, k1, k2, k3⟩
    obtain ⟨rfl, h2⟩ := tail_in.mp h
    exact ⟨k1.symm, k2, k3⟩
  · rintro ⟨rfl, k2, k3⟩
    exact ⟨(t, lo, hi), tail_in.mpr ⟨rfl, by omega⟩, rfl, k2, k3⟩
/-- what stands first isn't all ahead of it -/
def Ahd (s : Str) (lo : Int) (b : List Rn) : Prop := ∀ o os, b = o :: os → sl s o.1 ∨ (o.1 = s ∧ lo < o.2.2)
theorem left_ok : ∀ (b : List Rn) (s : Str) (lo hi : Int), Canon b → Ahd s lo b →
    ((leftL s hi lo b).Pairwise (fun a b => apart a b = true) ∧ ∀ r ∈ leftL s hi lo b, r.1 = s ∧ lo ≤ r.2.1 ∧ r.2.1 < r.2.2 ∧ r.2.2 ≤ hi) ∧ ∀ t n, has (leftL s hi lo b) t n ↔ t = s ∧ lo ≤ n ∧ n < hi ∧ ¬ has b t n
  | [], s, lo, hi, _, _ => by
    refine ⟨⟨?_, fun r hr => ?_⟩, fun t n => ?_⟩
    · show (tailL s lo hi).Pairwise _
      unfold tailL
      split
      · exact List.pairwise_singleton _ _
      · exact .nil
    · obtain ⟨rfl, h⟩ := tail_in.mp hr
      exact ⟨rfl, Int.le_refl _, h, Int.le_refl _⟩
    · show has (tailL s lo hi) t n ↔ _
      rw [tail_has]
      exact ⟨fun ⟨h1, h2, h3⟩ => ⟨h1, h2, h3, has_nil _ _⟩, fun ⟨h1, h2, h3, _⟩ => ⟨h1, h2, h3⟩⟩
  | o :: os, s, lo, hi, hb, hh => by
    have fo := hb.2 o List.mem_cons_self
    unfold leftL
    by_cases c : o.1 = s ∧ o.2.1 < hi
    · rw [if_pos c]
      have lo2 : lo < o.2.2 := by
        rcases hh o os rfl with z | z
        · exact (sl_irr _ (c.1 ▸ z)).elim
        · exact z.2
      obtain ⟨⟨i1, i2⟩, i3⟩ := left_ok os s o.2.2 hi hb.tail (fun p ps e => by
        subst e
        rcases (apart_iff _ _).mp ((List.pairwise_cons.mp hb.1).1 p List.mem_cons_self) with ⟨e, k⟩ | k
        · have := hb.2 p (List.mem_cons_of_mem _ List.mem_cons_self)
          exact .inr ⟨e.symm.trans c.1, by omega⟩
        · exact .inl (c.1 ▸ k))
      refine ⟨⟨List.pairwise_append.mpr ⟨?_, i1, fun x hx y hy => ?_⟩, fun r hr => ?_⟩, fun t n => ?_⟩
      · unfold tailL
        split
        · exact List.pairwise_singleton _ _
        · exact .nil
      · obtain ⟨rfl, h⟩ := tail_in.mp hx
        obtain ⟨j1, j2, j3, j4⟩ := i2 y hy
        rw [apart_iff]
        exact .inl ⟨j1.symm, show o.2.1 < y.2.1 by omega⟩
      · rcases List.mem_append.mp hr with hr | hr
        · obtain ⟨rfl, h⟩ := tail_in.mp hr
          exact ⟨rfl, Int.le_refl _, h, show o.2.1 ≤ hi by omega⟩
        · obtain ⟨j1, j2, j3, j4⟩ := i2 r hr
          exact ⟨j1, by omega, j3, j4⟩
      · rw [has_app, tail_has, i3, has_cons]
        constructor
        · rintro (⟨h1, h2, h3⟩ | ⟨h1, h2, h3, h4⟩)
          · refine ⟨h1, h2, by omega, ?_⟩
            rintro (z | z)
            · omega
            · rcases canon_first hb z with ⟨_, z⟩ | z
              · omega
              · rw [c.1, h1] at z
                exact sl_irr _ z
          · refine ⟨h1, by omega, h3, ?_⟩
            rintro (z | z)
            · omega
            · exact h4 z
        · rintro ⟨h1, h2, h3, h4⟩
          by_cases d : n < o.2.1
          · exact .inl ⟨h1, h2, d⟩
          · refine .inr ⟨h1, ?_, h3, fun z => h4 (.inr z)⟩
            by_cases d2 : n < o.2.2
            · exact (h4 (.inl ⟨c.1.trans h1.symm, by omega, d2⟩)).elim
            · omega
    · rw [if_neg c]
      refine ⟨⟨?_, fun r hr => ?_⟩, fun t n => ?_⟩
      · unfold tailL
        split
        · exact List.pairwise_singleton _ _
        · exact .nil
      · obtain ⟨rfl, h⟩ := tail_in.mp hr
        exact ⟨rfl, Int.le_refl _, h, Int.le_refl _⟩
      · rw [tail_has]
        refine ⟨fun ⟨h1, h2, h3⟩ => ⟨h1, h2, h3, fun z => ?_⟩, fun ⟨h1, h2, h3, _⟩ => ⟨h1, h2, h3⟩⟩
        subst h1
        rcases hh o os rfl with k | ⟨k1, k2⟩
        · rcases (has_cons _ _ _ _).mp z with z | z
          · rw [z.1] at k
            exact sl_irr _ k
          · rcases canon_first hb z with ⟨e, _⟩ | z
            · rw [e] at k
              exact sl_irr _ k
            · exact sl_as k z
        · have k3 : hi ≤ o.2.1 := Int.not_lt.mp fun z => c ⟨k1, z⟩
          rcases (has_cons _ _ _ _).mp z with z | z
          · omega
          · rcases canon_first hb z with ⟨_, z⟩ | z
            · omega
            · rw [k1] at z
              exact sl_irr _ z
theorem canon_drop {b : List Rn} (h : Canon b) (f : Rn → Bool) : Canon (b.dropWhile f) := by
  have z := List.dropWhile_suffix f (l := b)
  exact ⟨h.1.sublist z.sublist, fun r hr => h.2 r (z.subset hr)⟩
theorem skip_ahd (s : Str) (lo : Int) (b : List Rn) : Ahd s lo (skipL s lo b) := fun o os e => by
  have z := List.head?_dropWhile_not (fun o : Rn => lexLe o.1 o.2.2 s lo) b
  unfold skipL at e
  rw [e] at z
  have z : lexLe o.1 o.2.2 s lo = false := z
  exact lexLe_not (by rw [z]; decide)
theorem skip_has : ∀ (b : List Rn) (s : Str) (lo : Int) (t : Str) (n : Int), ((t = s ∧ lo ≤ n) ∨ sl s t) → (has (skipL s lo b) t n ↔ has b t n)
  | [], _, _, _, _, _ => Iff.rfl
  | o :: b, s, lo, t, n, h => by
    unfold skipL
    rw [List.dropWhile_cons]
    split
    · rename_i c
      rw [lexLe_iff] at c
      refine (skip_has b s lo t n h).trans ?_
      rw [has_cons]
      refine ⟨.inr, ?_⟩
      rintro (⟨k1, k2, k3⟩ | k)
      · exfalso
        rcases c with c | ⟨c1, c2⟩ <;> rcases h with ⟨h1, h2⟩ | h
        · rw [k1, h1] at c
          exact sl_irr _ c
        · exact sl_as (k1 ▸ c) h
        · omega
        · rw [← c1, k1] at h
          exact sl_irr _ h
      · exact k
    · exact Iff.rfl
theorem less_ok : ∀ (a b : List Rn), Canon a → Canon b → Canon (lessL a b) ∧ (∀ r ∈ lessL a b, ∃ u ∈ a, r.1 = u.1 ∧ u.2.1 ≤ r.2.1 ∧ r.2.2 ≤ u.2.2) ∧ ∀ s n, has (lessL a b) s n ↔ has a s n ∧ ¬ has b s n
  | [], b, _, _ => ⟨canon_nil, fun _ h => (nomatch h), fun s n => ⟨fun h => (has_nil _ _ h).elim, fun h => (has_nil _ _ h.1).elim⟩⟩
  | x :: a, b, ha, hb => by
    unfold lessL
    have hb2 : Canon (skipL x.1 x.2.1 b) := canon_drop hb _
    obtain ⟨⟨l1, l2⟩, l3⟩ := left_ok (skipL x.1 x.2.1 b) x.1 x.2.1 x.2.2 hb2 (skip_ahd _ _ _)
    obtain ⟨i1, i2, i3⟩ := less_ok a (skipL x.1 x.2.1 b) ha.tail hb2
    have fx := ha.2 x List.mem_cons_self
    refine ⟨⟨List.pairwise_append.mpr ⟨l1, i1.1, fun r hr t ht => ?_⟩, fun r hr => ?_⟩, fun r hr => ?_, fun s n => ?_⟩
    · obtain ⟨j1, j2, j3, j4⟩ := l2 r hr
      obtain ⟨u, hu, k1, k2, k3⟩ := i2 t ht
      rw [apart_iff]
      rcases (apart_iff _ _).mp ((List.pairwise_cons.mp ha.1).1 u hu) with ⟨e, k⟩ | k
      · exact .inl ⟨j1.trans (e.trans k1.symm), by omega⟩
      · exact .inr (by rw [j1, k1]; exact k)
    · rcases List.mem_append.mp hr with hr | hr
      · exact (l2 r hr).2.2.1
      · exact i1.2 r hr
    · rcases List.mem_append.mp hr with hr | hr
      · obtain ⟨j1, j2, j3, j4⟩ := l2 r hr
        exact ⟨x, List.mem_cons_self, j1, j2, j4⟩
      · obtain ⟨u, hu, k⟩ := i2 r hr
        exact ⟨u, List.mem_cons_of_mem _ hu, k⟩
    · rw [has_app, l3, i3, has_cons]
      constructor
      · rintro (⟨h1, h2, h3, h4⟩ | ⟨h1, h2⟩)
        · subst h1
          exact ⟨.inl ⟨rfl, h2, h3⟩, fun z => h4 ((skip_has b _ _ _ _ (.inl ⟨rfl, h2⟩)).mpr z)⟩
        · refine ⟨.inr h1, fun z => h2 ((skip_has b _ _ _ _ ?_).mpr z)⟩
          rcases canon_first ha h1 with ⟨e, k⟩ | k
          · exact .inl ⟨e.symm, by omega⟩
          · exact .inr k
      · rintro ⟨⟨k1, k2, k3⟩ | h1, h2⟩
        · refine .inl ⟨k1.symm, k2, k3, fun z => h2 ((skip_has b _ _ _ _ (.inl ⟨k1.symm, k2⟩)).mp z)⟩
        · refine .inr ⟨h1, fun z => h2 ((skip_has b _ _ _ _ ?_).mp z)⟩
          rcases canon_first ha h1 with ⟨e, k⟩ | k
          · exact .inl ⟨e.symm, by omega⟩
          · exact .inr k
/-! ### rules and promises of together, both, less -/
def rLeP (K : PySem.W.Frag) : R2 := fun x y H Q => ∃ (a b : Addr) (s t : Str) (i j : Int), x = .ref a ∧ y = .ref b ∧ SqT K H a [.str s, .int i] ∧ SqT K H b [.str t, .int j] ∧ Q (.bl (lexLe s i t j)) H
theorem op_leP {X : Cx} {k : Nat} (hr : Room k X.A) : OpR X (compareOp .LtE) (rLeP X.K) := by
  intro pins s σ H x y v u Q I rx ry h
  obtain ⟨a, b, p, q, i, j, rfl, rfl, ha, hb, q'⟩ := h
  have un := hr.un
  obtain ⟨as, r1⟩ := Dp.reads I (.tuple [.str p, .int i]) (.ref a) _ (.tup ha (.cons (.str _) (.cons (.int _) .nil))) rx
  obtain ⟨bs, r2⟩ := Dp.reads I (.tuple [.str q, .int j]) (.ref b) _ (.tup hb (.cons (.str _) (.cons (.int _) .nil))) ry
  refine PySem.W.le_data r1 r2 (by simp [PySem.W.alike, PySem.W.alikeAll]) nofun ?_ ⟨.bl _, H, I, rfl, q'⟩
  simp only [PyData.depth, PyData.depthAll]
  omega
/-- runs in a tuple -/
def TpAt (K : PySem.W.Frag) (H : Hp) (t : Addr) (rs : List Rn) : Prop := ∃ qs : List Addr, SqT K H t (qs.map V.ref) ∧ Prd H qs rs
theorem TpAt.same {K : PySem.W.Frag} {H H' : Hp} {t : Addr} {rs : List Rn} (s : Same H H') (h : TpAt K H t rs) : TpAt K H' t rs := by
  obtain ⟨qs, h1, h2⟩ := h
  exact ⟨qs, SqT.sm s h1, Prd.same s h2⟩
theorem TpAt.of {K : PySem.W.Frag} {H : Hp} {t : Addr} {qs : List Addr} {rs : List Rn} (h : H t = some (.tup (qs.map V.ref))) (k : Prd H qs rs) : TpAt K H t rs := ⟨qs, SqT.of h, k⟩
theorem TpAt.dp {K : PySem.W.Frag} {H : Hp} {t : Addr} {rs : List Rn} (h : TpAt K H t rs) : Dp K H (.ref t) (rnsD rs) := by
  obtain ⟨qs, h1, h2⟩ := h
  exact .tup h1 (Prd.dp h2)
/-- a def of two RUNS that tells RUNS -/
def spTwo (K : PySem.W.Frag) (F : List Rn → List Rn → List Rn) : Sp := fun vs H Q _ => ∃ (a b : Addr) (rs ts : List Rn), vs = [.ref a, .ref b] ∧ TpAt K H a rs ∧ TpAt K H b ts ∧ rs.length ≤ 3000 ∧ ts.length ≤ 3000 ∧
  ∀ (t : Addr) (qs : List Addr) (H' : Hp), Same H H' → H t = none → H' t = some (.tup (qs.map V.ref)) → Prd H' qs (F rs ts) → Q (.ref t) H'
def togL (a b : List Rn) : List Rn := runsOf (a ++ b)
def spLeft (K : PySem.W.Frag) : Sp := fun vs H Q _ => ∃ (x b : Addr) (k : Nat) (r : Rn) (ts : List Rn), vs = [.ref x, .ref b, .int k] ∧ H x = some (.tup (rnV r)) ∧ TpAt K H b ts ∧ ts.length ≤ 3000 ∧ k ≤ ts.length ∧
  ∀ (t : Addr) (qs : List Addr) (H' : Hp), Same H H' → H t = none → H' t = some (.lst (qs.map V.ref)) → Prd H' qs (leftL r.1 r.2.2 r.2.1 (ts.drop k)) → Q (.ref t) H'
theorem left_len (s : Str) (hi : Int) : ∀ (b : List Rn) (lo : Int), (leftL s hi lo b).length ≤ b.length + 1
  | [], lo => by
    show (tailL s lo hi).length ≤ 1
    unfold tailL
    split
    · exact Nat.le_refl 1
    · exact Nat.zero_le 1
  | o :: b, lo => by
    unfold leftL
    have t1 : ∀ x y : Int, (tailL s x y).length ≤ 1 := fun x y => by
      unfold tailL
      split
      · exact Nat.le_refl 1
      · exact Nat.zero_le 1
    split
    · have z := left_len s hi b o.2.2
      have y := t1 lo o.2.1
      rw [List.length_append, List.length_cons]
      omega
    · have y := t1 lo hi
      rw [List.length_cons]
      omega
theorem drop_at {α : Type} {l : List α} {k : Nat} {x : α} (h : l[k]? = some x) : l.drop k = x :: l.drop (k + 1) := by
  obtain ⟨hk, e⟩ := List.getElem?_eq_some_iff.mp h
  rw [List.drop_eq_getElem_cons hk, e]
theorem drop_end {α : Type} {l : List α} {k : Nat} (h : l.length ≤ k) : l.drop k = [] := List.drop_eq_nil_of_le h
/-- the run at place k of RUNS -/
theorem tp_at {H : Hp} {qs : List Addr} {rs : List Rn} (h : Prd H qs rs) {k : Nat} (hk : k < rs.length) : ∃ p r, atI (qs.map V.ref) (k : Int) = some (.ref p) ∧ rs[k]? = some r ∧ H p = some (.tup (rnV r)) := by
  have hk2 : k < qs.length := by rw [h.len]; exact hk
  obtain ⟨r, h1, h2⟩ := Prd.get h (List.getElem?_eq_getElem hk2)
  exact ⟨qs[k], r, atI_nat (by rw [List.getElem?_map, List.getElem?_eq_getElem hk2]; rfl), h1, h2⟩
def rEqP (K : PySem.W.Frag) (neg : Bool) : R2 := fun x y H Q => ∃ d e, Dp K H x d ∧ Dp K H y e ∧ d.plain = true ∧ e.plain = true ∧ d.depth ≤ 60 ∧ Q (.bl (xor neg (PyData.eqv d e))) H
theorem op_eqP {X : Cx} {k : Nat} (hr : Room k X.A) : OpR X (compareOp .Eq) (rEqP X.K false) := by
  intro pins s σ H x y v u Q I rx ry h
  obtain ⟨d, e, hd, he, p1, p2, dep, q⟩ := h
  have un := hr.un
  obtain ⟨as, r1⟩ := Dp.reads I d x v hd rx
  obtain ⟨bs, r2⟩ := Dp.reads I e y u he ry
  rw [Bool.false_xor] at q
  exact PySem.SeqAt.eq_plain r1 r2 p1 p2 (by omega) ⟨.bl _, H, I, rfl, q⟩
theorem op_neP {X : Cx} {k : Nat} (hr : Room k X.A) : OpR X (compareOp .NotEq) (rEqP X.K true) := by
  intro pins s σ H x y v u Q I rx ry h
  obtain ⟨d, e, hd, he, p1, p2, dep, q⟩ := h
  have un := hr.un
  obtain ⟨as, r1⟩ := Dp.reads I d x v hd rx
  obtain ⟨bs, r2⟩ := Dp.reads I e y u he ry
  rw [Bool.true_xor] at q
  exact PySem.SeqAt.ne_plain r1 r2 p1 p2 (by omega) ⟨.bl _, H, I, rfl, q⟩
theorem rns_plain (rs : List Rn) : (rnsD rs).plain = true := by
  have all : ∀ l : List Rn, PyData.plainAll (l.map rnD) = true := fun l => by
    induction l with
    | nil => rfl
    | cons r l ih =>
      rw [List.map_cons]
      simp only [PyData.plainAll, ih, rnD, PyData.plain, Bool.and_self]
  exact all rs
theorem rns_eqv : ∀ a b : List Rn, PyData.eqv (rnsD a) (rnsD b) = decide (a = b)
  | [], [] => rfl
  | [], y :: b => by simp [rnsD, PyData.eqv, PyData.eqvAll]
  | x :: a, [] => by simp [rnsD, PyData.eqv, PyData.eqvAll]
  | x :: a, y :: b => by
    have ih := rns_eqv a b
    have e : PyData.eqv (rnsD (x :: a)) (rnsD (y :: b)) = (PyData.eqv (rnD x) (rnD y) && PyData.eqv (rnsD a) (rnsD b)) := by
      unfold rnsD
      rw [List.map_cons, List.map_cons]
      simp only [PyData.eqv, PyData.eqvAll]
    have e2 : PyData.eqv (rnD x) (rnD y) = decide (x = y) := by
      obtain ⟨x1, x2, x3⟩ := x
      obtain ⟨y1, y2, y3⟩ := y
      rw [Bool.eq_iff_iff]
      simp [rnD, PyData.eqv, PyData.eqvAll]
    rw [e, ih, e2, Bool.eq_iff_iff]
    simp
theorem rnsD_depth (rs : List Rn) : (rnsD rs).depth ≤ 60 := by
  have z := rns_depth rs
  simp only [rnsD, PyData.depth]
  omega
theorem both_len : ∀ a b : List Rn, (bothL a b).length ≤ a.length + b.length
  | [], b => by rw [both_nil]; exact Nat.zero_le _
  | x :: a, [] => by rw [both_nil2]; exact Nat.zero_le _
  | x :: a, y :: b => by
    rw [both_cons, List.length_append]
    have m : (meet x y).length ≤ 1 := by
      unfold meet
      split
      · exact Nat.le_refl 1
      · exact Nat.zero_le 1
    split
    · have z := both_len a (y :: b)
      rw [List.length_cons (as := b)] at z
      rw [List.length_cons, List.length_cons]
      omega
    · have z := both_len (x :: a) b
      rw [List.length_cons (as := a)] at z
      rw [List.length_cons, List.length_cons]
      omega
termination_by a b => a.length + b.length
theorem skip_len (s : Str) (lo : Int) (b : List Rn) : (skipL s lo b).length ≤ b.length := (List.dropWhile_suffix _).sublist.length_le
/-- pieces left of all: no more than runs of both -/
theorem less_len : ∀ a b : List Rn, (lessL a b).length ≤ (a.length) * (b.length + 1)
  | [], b => Nat.zero_le _
  | x :: a, b => by
    unfold lessL
    have z1 := left_len x.1 x.2.2 (skipL x.1 x.2.1 b) x.2.1
    have z2 := less_len a (skipL x.1 x.2.1 b)
    have z3 := skip_len x.1 x.2.1 b
    have z4 : a.length * ((skipL x.1 x.2.1 b).length + 1) ≤ a.length * (b.length + 1) := Nat.mul_le_mul (Nat.le_refl _) (by omega)
    rw [List.length_append, List.length_cons, Nat.succ_mul]
    omega
def spWithin (K : PySem.W.Frag) : Sp := fun vs H Q _ => ∃ (a b : Addr) (rs ts : List Rn), vs = [.ref a, .ref b] ∧ TpAt K H a rs ∧ TpAt K H b ts ∧ rs.length ≤ 3000 ∧ ts.length ≤ 3000 ∧
  ∀ H', Same H H' → Q (.bl (decide (lessL rs ts = []))) H'
def ofL (s : Str) (rs : List Rn) : List Rn := rs.filter fun r => decide (r.1 = s)
def spOfs (K : PySem.W.Frag) : Sp := fun vs H Q _ => ∃ (a : Addr) (s : Str) (rs : List Rn), vs = [.ref a, .str s] ∧ TpAt K H a rs ∧ rs.length ≤ 3000 ∧
  ∀ (t : Addr) (qs : List Addr) (H' : Hp), Same H H' → H t = none → H' t = some (.tup (qs.map V.ref)) → Prd H' qs (ofL s rs) → Q (.ref t) H'
/-! ### the three of k04 -/
def rTupOf (K : PySem.W.Frag) : List V → Hp → VK → Prop := fun xs H Q => ∃ p ys, xs = [V.ref p] ∧ ((SqL K H p ys ∧ ∀ l, H l = none → Q (V.ref l) (upd H l (.tup ys))) ∨ SqT K H p ys ∧ Q (V.ref p) H)
def Pq (rs ts : List Rn) (q : Nat) (s : Str) (n : Int) : Bool := if q = 0 then hasB rs s n || hasB ts s n else if q = 1 then hasB rs s n && hasB ts s n else hasB rs s n && !hasB ts s n
def dueL (rs ts : List Rn) (q : Nat) : List Rn := if q = 0 then togL rs ts else if q = 1 then bothL rs ts else lessL rs ts
/-- t + u, whichever tuple that is -/
def rCatU (K : PySem.W.Frag) : R2 := fun x y H Q => ∃ a b xs ys, x = .ref a ∧ y = .ref b ∧ SqT K H a xs ∧ SqT K H b ys ∧ xs.length + ys.length ≤ sizeLine ∧ ∀ W H', Same H H' → SqT K H' W (xs ++ ys) → Q (.ref W) H'
theorem op_catU {X : Cx} : OpR X (binaryOp .Add) (rCatU X.K) := by
  intro pins s σ H x y v u Q I rx ry h
  obtain ⟨a, b, xs, ys, rfl, rfl, ha, hb, hl, q⟩ := h
  refine op_catA pins s σ H _ _ v u Q I rx ry ⟨a, b, xs, ys, rfl, rfl, ha, hb, hl, fun e => ?_, fun _ e => ?_, fun _ _ p hp => ?_⟩
  · subst e
    exact q b H (Same.refl _) hb
  · subst e
    exact q a H (Same.refl _) (by rw [List.append_nil]; exact ha)
  · exact q p _ (same_new hp _) (SqT.of upd_same)
theorem three_made {rs ts : List Rn} {ns : List Str} {cs : List Int} (hr : Canon rs) (ht : Canon ts) (h1 : Ends rs ns cs) (h2 : Ends ts ns cs) (hn : ns.Pairwise sl) (hc : cs.Pairwise (· < ·)) (q : Nat) : mades (Pq rs ts q) ns cs = dueL rs ts q := by
  obtain ⟨y1, y2⟩ := mades_ok (P := Pq rs ts q) hn hc (fun s p n k1 k2 k3 => by
    unfold Pq
    rw [hasB_flat h1 hc k1 k2 k3, hasB_flat h2 hc k1 k2 k3]) (fun s n h => by
    unfold Pq at h
    split at h
    · rcases Bool.or_eq_true_iff.mp h with h | h
      · exact hasB_only h1 hc h
      · exact hasB_only h2 hc h
    · split at h
      · exact hasB_only h1 hc (Bool.and_eq_true_iff.mp h).1
      · exact hasB_only h1 hc (Bool.and_eq_true_iff.mp h).1)
  unfold dueL
  unfold Pq at y1 y2 ⊢
  split
  · rename_i e
    simp only [if_pos e] at y1 y2 ⊢
    have full : Full (rs ++ ts) := fun r hr' => by
      rcases List.mem_append.mp hr' with z | z
      · exact hr.2 r z
      · exact ht.2 r z
    exact (runsOf_eq full y1 fun s n => by rw [y2, has_app, Bool.or_eq_true, hasB_iff, hasB_iff]).symm
  · rename_i e
    simp only [if_neg e] at y1 y2 ⊢
    split
    · rename_i e2
      simp only [if_pos e2] at y1 y2 ⊢
      obtain ⟨b1, b2⟩ := both_ok rs ts hr ht
      exact canon_uniq y1 b1 fun s n => by rw [y2, b2, Bool.and_eq_true, hasB_iff, hasB_iff]
    · rename_i e2
      simp only [if_neg e2] at y1 y2 ⊢
      obtain ⟨b1, _, b2⟩ := less_ok rs ts hr ht
      refine canon_uniq y1 b1 fun s n => ?_
      rw [y2, b2, Bool.and_eq_true, hasB_iff, Bool.not_eq_true', ← Bool.not_eq_true, hasB_iff]
theorem ends_of2 {rs : List Rn} {ns : List Str} {cs : List Int} (h1 : ∀ s, s ∈ ns ↔ s ∈ rs.map (·.1)) (h2 : ∀ i, i ∈ cs ↔ i ∈ rs.map (·.2.1) ++ rs.map (·.2.2)) : Ends rs ns cs := fun r hr => by
  refine ⟨(h1 _).mpr (List.mem_map.mpr ⟨r, hr, rfl⟩), (h2 _).mpr ?_, (h2 _).mpr ?_⟩
  · exact List.mem_append_left _ (List.mem_map.mpr ⟨r, hr, rfl⟩)
  · exact List.mem_append_right _ (List.mem_map.mpr ⟨r, hr, rfl⟩)
theorem Ends.left {a b : List Rn} {ns : List Str} {cs : List Int} (h : Ends (a ++ b) ns cs) : Ends a ns cs := fun r hr => h r (List.mem_append_left _ hr)
theorem Ends.right {a b : List Rn} {ns : List Str} {cs : List Int} (h : Ends (a ++ b) ns cs) : Ends b ns cs := fun r hr => h r (List.mem_append_right _ hr)
/-- what stands in part q when j pieces of the i-th series are looked at -/
def stL (rs ts : List Rn) (ss : List Str) (cs : List Int) (q i j : Nat) (s : Str) : List Rn := (((ss.take i).flatMap fun s => goods (Pq rs ts q) s (pcs cs)) ++ goods (Pq rs ts q) s ((pcs cs).take j)).foldl join []
def spThree (K : PySem.W.Frag) : Sp := fun vs H Q _ => ∃ (a b : Addr) (rs ts : List Rn), vs = [.ref a, .ref b] ∧ TpAt K H a rs ∧ TpAt K H b ts ∧ Canon rs ∧ Canon ts ∧ rs.length ≤ 1000 ∧ ts.length ≤ 1000 ∧
  ∀ (D t0 t1 t2 : Addr) (H' : Hp), Same H H' → H D = none → H' D = some (.lst [.ref t0, .ref t1, .ref t2]) → TpAt K H' t0 (togL rs ts) → TpAt K H' t1 (bothL rs ts) → TpAt K H' t2 (lessL rs ts) → Q (.ref D) H'
/-- good RUNS in a tuple -/
structure Rg (K : PySem.W.Frag) (H : Hp) (t : Addr) (rs : List Rn) (n : Nat) : Prop where
  tp : TpAt K H t rs
  ca : Canon rs
  len : rs.length ≤ n
  ok : ∀ r ∈ rs, RnOk r ∧ NmOk r.1
theorem Rg.same {K : PySem.W.Frag} {H H' : Hp} {t : Addr} {rs : List Rn} {n : Nat} (s : Same H H') (h : Rg K H t rs n) : Rg K H' t rs n := ⟨h.tp.same s, h.ca, h.len, h.ok⟩
theorem Rg.mono {K : PySem.W.Frag} {H : Hp} {t : Addr} {rs : List Rn} {n m : Nat} (h : Rg K H t rs n) (l : n ≤ m) : Rg K H t rs m := ⟨h.tp, h.ca, Nat.le_trans h.len l, h.ok⟩
theorem push_all {acc : List Rn} {r : Rn} (h : ∀ x ∈ acc, RnOk x ∧ NmOk x.1) (hr : RnOk r ∧ NmOk r.1) : ∀ x ∈ push acc r, RnOk x ∧ NmOk x.1 := by
  rcases nil_or_snoc acc with rfl | ⟨i, l, rfl⟩
  · intro x hx
    rw [List.mem_singleton.mp (show x ∈ [r] from hx)]
    exact hr
  · rw [push_snoc]
    split
    · intro x hx
      rcases List.mem_append.mp hx with hx | hx
      · exact h x hx
      · rw [List.mem_singleton.mp hx]
        exact hr
    · intro x hx
      rcases List.mem_append.mp hx with hx | hx
      · exact h x (List.mem_append_left _ hx)
      · rw [List.mem_singleton.mp hx]
        obtain ⟨⟨a1, a2, a3⟩, a4⟩ := h l (List.mem_append_right _ List.mem_cons_self)
        obtain ⟨⟨b1, b2, b3⟩, b4⟩ := hr
        refine ⟨⟨a1, ?_, ?_⟩, a4⟩
        · show l.2.1 < if r.2.2 > l.2.2 then r.2.2 else l.2.2
          split <;> omega
        · show (if r.2.2 > l.2.2 then r.2.2 else l.2.2) ≤ _
          split <;> omega
theorem runsOf_all {rs : List Rn} (h : ∀ x ∈ rs, RnOk x ∧ NmOk x.1) : ∀ x ∈ runsOf rs, RnOk x ∧ NmOk x.1 := by
  have all : ∀ (l acc : List Rn), (∀ x ∈ l, RnOk x ∧ NmOk x.1) → (∀ x ∈ acc, RnOk x ∧ NmOk x.1) → ∀ x ∈ l.foldl push acc, RnOk x ∧ NmOk x.1 := fun l => by
    induction l with
    | nil => exact fun _ _ h => h
    | cons r l ih => exact fun acc h1 h2 => ih _ (fun x hx => h1 x (List.mem_cons_of_mem _ hx)) (push_all h2 (h1 r List.mem_cons_self))
  exact all _ [] (fun x hx => h x (List.mem_mergeSort.mp hx)) fun _ h => nomatch h
theorem both_all {a b : List Rn} (ha : ∀ x ∈ a, RnOk x ∧ NmOk x.1) (hb : ∀ x ∈ b, RnOk x ∧ NmOk x.1) : ∀ x ∈ bothL a b, RnOk x ∧ NmOk x.1 := fun x hx => by
  obtain ⟨u, hu, v, hv, z⟩ := both_in a b x hx
  obtain ⟨r0, r1, r2, r3, r4⟩ := meet_in.mp z
  obtain ⟨⟨a1, a2, a3⟩, a4⟩ := ha u hu
  obtain ⟨⟨b1, b2, b3⟩, _⟩ := hb v hv
  have m1 := mx_is u.2.1 v.2.1
  have m2 := mn_is u.2.2 v.2.2
  exact ⟨⟨by omega, r4, by omega⟩, r1 ▸ a4⟩
theorem less_all {a b : List Rn} (ca : Canon a) (cb : Canon b) (ha : ∀ x ∈ a, RnOk x ∧ NmOk x.1) : ∀ x ∈ lessL a b, RnOk x ∧ NmOk x.1 := fun x hx => by
  obtain ⟨z1, z2, _⟩ := less_ok a b ca cb
  obtain ⟨u, hu, k1, k2, k3⟩ := z2 x hx
  obtain ⟨⟨a1, a2, a3⟩, a4⟩ := ha u hu
  exact ⟨⟨by omega, z1.2 x hx, by omega⟩, k1 ▸ a4⟩
/-- less has no more runs than both together -/
theorem left_len2 (s : Str) (hi : Int) : ∀ (b : List Rn) (lo : Int), ∃ k, k ≤ b.length ∧ (leftL s hi lo b).length ≤ k + 1 := fun b lo => ⟨b.length, Nat.le_refl _, left_len s hi b lo⟩
def spRight3 (K : PySem.W.Frag) : Sp := fun vs H Q _ => ∃ (a b : Addr) (rs ts : List Rn), vs = [.ref a, .ref b] ∧ Rg K H a rs 1000 ∧ Rg K H b ts 1000 ∧ (lessL rs ts).length ≤ 100000 ∧ ∀ H', Same H H' → Q (.bl true) H'
theorem pair_show {a b : List Rn} (ha : ∀ r ∈ a, RnOk r ∧ NmOk r.1) (hb : ∀ r ∈ b, RnOk r ∧ NmOk r.1) (la : a.length ≤ 1000) (lb : b.length ≤ 1000) :
    (PyData.tuple [rnsD a, rnsD b]).showable = true ∧ (PyData.tuple [rnsD a, rnsD b]).hasDict = false ∧ (PyData.tuple [rnsD a, rnsD b]).depth ≤ 60 ∧ (PyData.tuple [rnsD a, rnsD b]).shown.length ≤ sizeLine := by
  obtain ⟨x1, x2⟩ := rns_fine a ha
  obtain ⟨y1, y2⟩ := rns_fine b hb
  have f : fineD (.tuple [rnsD a, rnsD b]) = true := by
    show (fineAll (a.map rnD) && (fineAll (b.map rnD) && true)) = true
    rw [x1, y1]
    rfl
  have c := shown_cost _ f
  have e : cost (.tuple [rnsD a, rnsD b]) = ((costAll (a.map rnD) + 3) + 2 + ((costAll (b.map rnD) + 3) + 2 + 0)) + 3 := rfl
  have d1 := rns_depth a
  have d2 := rns_depth b
  obtain ⟨s1, s2⟩ := fine_show _ f
  refine ⟨s1, s2, ?_, Nat.le_trans c (Nat.le_trans (show _ ≤ 11000000 by omega) (by decide))⟩
  simp only [rnsD, PyData.depth, PyData.depthAll]
  omega
theorem stL_more {rs ts : List Rn} {ss : List Str} {cs : List Int} {q i j : Nat} {s : Str} {p : Int × Int} (h : (pcs cs)[j]? = some p) : stL rs ts ss cs q i (j + 1) s = if Pq rs ts q s p.1 = true then join (stL rs ts ss cs q i j s) (s, p.1, p.2) else stL rs ts ss cs q i j s := by
  unfold stL
  rw [goods_more h]
  split
  · rw [← List.append_assoc, List.foldl_append]
    rfl
  · rw [List.append_nil]
theorem stL_next {rs ts : List Rn} {ss : List Str} {cs : List Int} {q i : Nat} {s s' : Str} (h : ss[i]? = some s) : stL rs ts ss cs q i (pcs cs).length s = stL rs ts ss cs q (i + 1) 0 s' := by
  obtain ⟨hi, e⟩ := List.getElem?_eq_some_iff.mp h
  unfold stL
  rw [List.take_length, List.take_succ_eq_append_getElem hi, List.flatMap_append, e, List.flatMap_singleton]
  have z : goods (Pq rs ts q) s' ((pcs cs).take 0) = [] := rfl
  rw [z, List.append_nil]
theorem stL_end {rs ts : List Rn} {ss : List Str} {cs : List Int} {q : Nat} {s : Str} : stL rs ts ss cs q ss.length 0 s = mades (Pq rs ts q) ss cs := by
  unfold stL mades
  have z : goods (Pq rs ts q) s ((pcs cs).take 0) = [] := rfl
  rw [List.take_length, z, List.append_nil]
theorem stL_len {rs ts : List Rn} {ss : List Str} {cs : List Int} {q i j : Nat} {s : Str} (h1 : ss.length ≤ 2000) (h2 : cs.length ≤ 4000) : (stL rs ts ss cs q i j s).length < sizeLine := by
  have z0 := fold_join_len (((ss.take i).flatMap fun s => goods (Pq rs ts q) s (pcs cs)) ++ goods (Pq rs ts q) s ((pcs cs).take j)) []
  have z1 := flat_goods_len (P := Pq rs ts q) (pcs cs) (ss.take i)
  have z2 := goods_len (P := Pq rs ts q) (s := s) ((pcs cs).take j)
  have z3 := pcs_len cs
  rw [List.length_take] at z1 z2
  have z4 : min i ss.length * (pcs cs).length ≤ 2000 * 4000 := Nat.mul_le_mul (by omega) (by omega)
  rw [List.length_append, List.length_nil] at z0
  unfold stL
  exact Nat.lt_of_le_of_lt (show _ ≤ 9000000 by omega) (by decide)
def A3 (p0 p1 p2 : Addr) (q : Nat) : Addr := if q = 0 then p0 else if q = 1 then p1 else p2
theorem all3 {T : Nat → Prop} (h0 : T 0) (h1 : T 1) (h2 : T 2) : ∀ q, q < 3 → T q := fun q hq => by
  rcases (show q = 0 ∨ q = 1 ∨ q = 2 by omega) with rfl | rfl | rfl
  · exact h0
  · exact h1
  · exact h2
/-! ### a call of a def that is told that no repr is under way -/
theorem FnG.mono {P : Program} {w : World} {K : PySem.W.Frag} {mg : Str → Option Value} {base : Heap} {j k : Nat} {f : Addr} {fd : FuncData} {ps : List Str} {sp : Sp} (F : FnG P w K mg base j f fd ps sp) (h : j ≤ k) : FnG P w K mg base k f fd ps sp :=
  ⟨F.len, fun A outer s H args us vs Q E room => F.run A outer s H args us vs Q E (room.mono h)⟩
theorem pe_callG {X : Cx} {k : Nat} {f : Addr} {fd : FuncData} {ps : List Str} {sp : Sp} {x : Str} {ds : List Value} {dvs : List V} {E : XK} {e : Expr} {es : List Expr} {t : TA} {p pos : Pos}
    (F : FnG X.prog X.w X.K X.mg X.base k f fd ps sp) (gu : X.A.guards = some []) (room : Room k X.A) (gl : Gl X x) (hm : X.mg x = some (.ref f)) (kp : PySem.W.keepIn X.K (.ref f) = true) (bi : Binds X.K fd ps ds) (hd : Vals dvs ds) (pass : Passes CX0 X E)
    (ha : PA X (e :: es) t) (ndb : (x == ("__debug__" : Str)) = false := by decide) (st : starEach (e :: es) X.env = (false, eval e X.env) :: starEach es X.env := by rfl) (np : (backTo pos (starEach es X.env)).any (·.1) = false := by rfl) :
    PE X (.Call (.Name x p) (e :: es) [] pos) (tCall sp dvs E t) := by
  constructor
  intro pins s σ H Q I wish
  refine wpAny_Call_Name_kw (ld_glob I gl hm ?_ ndb)
  refine PySem.W.callWith_K (h₀ := X.base) I.ok.mod.kin kp (thn (ha.run pos pins s σ H _ I wish) fun us s1 ⟨vs, H1, I1, rel, q⟩ => ⟨I1.kIn, ?_⟩) st np
  have rel2 : Vals (vs ++ dvs) (us ++ ds) := rel.append hd
  have len : (us ++ ds).length = ps.length := rel2.length.symm.trans (F.len _ _ _ _ q)
  refine wpAny_call (codeAny_mono (F.run X.A X.stack s1 H1 ⟨us, []⟩ (us ++ ds) (vs ++ dvs) Q E room gu I1.env0 (bi s1 us I1.kIn len) rel2 q) fun res s2 told => ?_)
  match res, told with
  | .error er, told => exact pass pins σ H1 s1 er s2 I1 told
  | .ok (.ret u), told => exact I1.after told
  | .ok .next, told => exact told.elim
  | .ok .brk, told => exact told.elim
  | .ok .cont, told => exact told.elim
/-! ### Refusals: a class of the text over ValueError that keeps what it is made of -/
def clsBody : Stmt → List Stmt
  | .ClassDef _ _ _ b _ _ _ _ _ _ _ => b
  | _ => []
def oexB (K : PySem.W.Frag) (C : Addr) : Bool := match K.lookup C with
  | some ⟨c, _, .cls cd, sl⟩ => decide (c = .type "type") && (match cd.mro, sl.toList with
    | .ref D :: bm, [_, _, _, _, some (.builtin n), _] => decide (D = C) && (decide (n = "ValueError.__new__") && (PySem.HandSPX.refsVE bm && (cd.hasDict && !cd.hasDel)))
    | _, _ => false)
  | _ => false
theorem oexB_ok {K : PySem.W.Frag} {C : Addr} (h : oexB K C = true) : ∃ nm q N bs bm sn sub ab col dd k0 k1 k2 k3 k5,
    K.lookup C = some (excClassObj nm q C N bs bm true sn sub ab col dd k0 k1 k2 k3 k5 "ValueError.__new__") ∧ PySem.HandSPX.refsVE bm = true := by
  unfold oexB at h
  split at h
  · rename_i c dd cd sl e
    obtain ⟨h1, h2⟩ := Bool.and_eq_true_iff.mp h
    split at h2
    · rename_i D bm k0 k1 k2 k3 n k5 em es
      obtain ⟨h3, h2⟩ := Bool.and_eq_true_iff.mp h2
      obtain ⟨h4, h2⟩ := Bool.and_eq_true_iff.mp h2
      obtain ⟨h5, h2⟩ := Bool.and_eq_true_iff.mp h2
      obtain ⟨h6, h7⟩ := Bool.and_eq_true_iff.mp h2
      have z1 := of_decide_eq_true h1
      have z3 := of_decide_eq_true h3
      have z4 := of_decide_eq_true h4
      have z7 : cd.hasDel = false := by simpa using h7
      obtain ⟨nm, bs, mro, ns, qn, hd, sn, sub, ab, col, del⟩ := cd
      dsimp only at em h6 z7
      obtain ⟨l⟩ := sl
      dsimp only at es
      subst z1 z3 z4 em h6 z7 es
      exact ⟨nm, qn, ns, bs, bm, sn, sub, ab, col, dd, k0, k1, k2, k3, k5, e, h5⟩
    · cases h2
  · cases h
/-- what stands of the class x (one field f), caught by the class y, the classes zs others -/
structure Rf (K : PySem.W.Frag) (x f y : Str) (zs : List Str) : Prop where
  o : OexC K (He.ga K x)
  xf : XfC K (He.ga K x)
  no : PySem.W.findIn K (.ref (He.ga K x)) f = some none
  iC : PySem.W.findIn K (.ref (He.ga K x)) "__init__" = some (some (.ref (He.ma K (He.ga K x) "__init__")))
  tI : PySem.W.typeIn K (.ref (He.ma K (He.ga K x) "__init__")) = some (.type "function")
  cl : (PySem.W.clsIn K (He.ga K x)).isSome = true
  ha : PySem.W.findIn K (.ref (He.ga K x)) "__class__" = some (some (.builtin "object.__class__"))
  hn : PySem.W.specialIn K (.builtin "object.__class__") "__get__" = some (some (.builtin "getset_descriptor.__get__"))
  ht : PySem.W.takesIn K (.builtin "object.__class__") = some true
  hm : PySem.W.mroIn K (He.ga K x) (.type "object") = some true
  ex : PySem.W.exmOne K (.ref (He.ga K x)) (.ref (He.ga K y)) = some true
  isV : PySem.W.kitOne K (.ref (He.ga K x)) (.type "ValueError") = some true
  isO : PySem.W.kitAny K (.ref (He.ga K x)) (zs.map fun z => .ref (He.ga K z)) = some false
def rfB (K : PySem.W.Frag) (x f y : Str) (zs : List Str) : Bool :=
  oexB K (He.ga K x) && (He.eqO (PySem.W.findIn K (.ref (He.ga K x)) "__setattr__") (some (some (.builtin "object.__setattr__"))) && (decide (PySem.W.typeIn K (.ref (He.ga K x)) = some (.type "type")) && (PySem.W.keepIn K (.ref (He.ga K x)) &&
  (xfB K (He.ga K x) && (He.eqO (PySem.W.findIn K (.ref (He.ga K x)) f) (some none) && (He.eqO (PySem.W.findIn K (.ref (He.ga K x)) "__init__") (some (some (.ref (He.ma K (He.ga K x) "__init__")))) &&
  (decide (PySem.W.typeIn K (.ref (He.ma K (He.ga K x) "__init__")) = some (.type "function")) && ((PySem.W.clsIn K (He.ga K x)).isSome && (He.eqO (PySem.W.findIn K (.ref (He.ga K x)) "__class__") (some (some (.builtin "object.__class__"))) &&
  (He.eqO (PySem.W.specialIn K (.builtin "object.__class__") "__get__") (some (some (.builtin "getset_descriptor.__get__"))) && (decide (PySem.W.takesIn K (.builtin "object.__class__") = some true) && (decide (PySem.W.mroIn K (He.ga K x) (.type "object") = some true) &&
  (decide (PySem.W.exmOne K (.ref (He.ga K x)) (.ref (He.ga K y)) = some true) && (decide (PySem.W.kitOne K (.ref (He.ga K x)) (.type "ValueError") = some true) && decide (PySem.W.kitAny K (.ref (He.ga K x)) (zs.map fun z => .ref (He.ga K z)) = some false)))))))))))))))
theorem rfB_ok {K : PySem.W.Frag} {x f y : Str} {zs : List Str} (h : rfB K x f y zs = true) : Rf K x f y zs := by
  obtain ⟨h1, h⟩ := Bool.and_eq_true_iff.mp h
  obtain ⟨h2, h⟩ := Bool.and_eq_true_iff.mp h
  obtain ⟨h3, h⟩ := Bool.and_eq_true_iff.mp h
  obtain ⟨h4, h⟩ := Bool.and_eq_true_iff.mp h
  obtain ⟨h5, h⟩ := Bool.and_eq_true_iff.mp h
  obtain ⟨h6, h⟩ := Bool.and_eq_true_iff.mp h
  obtain ⟨h7, h⟩ := Bool.and_eq_true_iff.mp h
  obtain ⟨h8, h⟩ := Bool.and_eq_true_iff.mp h
  obtain ⟨h9, h⟩ := Bool.and_eq_true_iff.mp h
  obtain ⟨h10, h⟩ := Bool.and_eq_true_iff.mp h
  obtain ⟨h11, h⟩ := Bool.and_eq_true_iff.mp h
  obtain ⟨h12, h⟩ := Bool.and_eq_true_iff.mp h
  obtain ⟨h13, h⟩ := Bool.and_eq_true_iff.mp h
  obtain ⟨h14, h⟩ := Bool.and_eq_true_iff.mp h
  obtain ⟨h15, h16⟩ := Bool.and_eq_true_iff.mp h
  have xf := xfB_ok h5
  exact ⟨⟨oexB_ok h1, He.eqO_ok h2, xf.exC, of_decide_eq_true h3, h4⟩, xf, He.eqO_ok h6, He.eqO_ok h7, of_decide_eq_true h8, h9, He.eqO_ok h10, He.eqO_ok h11, of_decide_eq_true h12, of_decide_eq_true h13, of_decide_eq_true h14, of_decide_eq_true h15, of_decide_eq_true h16⟩
/-- what __init__ does: self.f = what it is given -/
def spIn (C : Addr) (f : Str) : Sp := fun vs H Q _ => ∃ (a : Addr) (x : V), vs = [.ref a, x] ∧ H a = some (exo a C none) ∧
  ∀ dx, H dx = none → dx ≠ a → Q .non (upd (upd H dx (exd dx [(f, x)])) a (exo a C (some dx)))
theorem init_ok {P : Program} {w : World} {K : PySem.W.Frag} {mg : Str → Option Value} {base : Heap} {qual f : Str} {st : Stmt} {fI C : Addr} {fd : FuncData} {N : List Str} {ps : List Str} {k : Nat} (F : Fun K "__init__" qual st fI fd) (S : FnScope N ps (defScope st)) (hp : ps.length = 2)
    (T : OexC K C) (no : PySem.W.findIn K (.ref C) f = some none)
    (hb : ∀ (X : Cx), X.N = N → X.K = K → X.env.scope = defScope st → PSs X (defBody st) (tOst X.K f (tVar 0) (tVar 1))) (hN : N = ps) : FnOk P w K mg base CX0 (k + 1) fI fd ps (spIn C f) := by
  refine F.ok S (fun vs H Q E h => ?_) (fun cdv A outer s H vs Q E hr h => ?_)
  · obtain ⟨a, x, rfl, _⟩ := h
    exact hp.symm
  · obtain ⟨a, x, rfl, ha, q⟩ := h
    refine ⟨_, hb _ rfl rfl rfl, ?_⟩
    subst hN
    match N, hp with
    | [n1, n2], _ => exact ⟨_, rfl, _, rfl, a, C, rfl, T, no, Or.inl ⟨ha, q⟩⟩
theorem mk_read {C : Addr} {f : Str} {v : V} {H : Hp} {Q : XK} (h : ∀ d H', H d = none → Same H H' → H' d = some (.xd [(f, v)]) → Q (.ref C) (some d) H') :
    [v].length ≤ 1000 ∧ ∀ a, H a = none → spIn C f (.ref a :: ([v] ++ [])) (upd H a (exo a C none))
      (fun u H2 => u = .non ∧ ∃ (d : Addr) (fs : List (Str × V)), H2 a = some (exo a C (some d)) ∧ H2 d = some (exd d fs) ∧ H d = none ∧ Q (.ref C) (some d) (upd (del H2 a) d (.xd fs))) (fun _ _ _ => False) := by
  refine ⟨(show 1 ≤ 1000 by decide), fun a ha => ⟨a, v, rfl, upd_same, fun dx hdx ne => ?_⟩⟩
  rw [upd_ne ne] at hdx
  refine ⟨rfl, dx, [(f, v)], upd_same, (upd_ne ne).trans upd_same, hdx, h dx _ hdx (fun b o e => ?_) upd_same⟩
  have n1 : b ≠ dx := ne_of_none e hdx
  have n2 : b ≠ a := ne_of_none e ha
  rw [upd_ne n1, del_ne n2, upd_ne n2, upd_ne n1, upd_ne n2]
  exact e
theorem PSs.as {X : Cx} {b : List Stmt} {t u : TS} (h : PSs X b t) (e : t = u) : PSs X b u := e ▸ h
section
variable {Y : Cx} {a : Addr} {oe : Obj} {cls : Value} {d : Option Addr} {x f y : Str} {zs : List Str}
theorem inst_at {C : Addr} {pins : List (Addr × Obj)} {σ : L2.St} {H : Hp} {s : Shared} {dd : Addr} {fs : List (Str × V)} (hp : (a, oe) ∈ Y.pn) (hz : Zc (.ref C) (some dd) oe) (hf : ∃ vs, oe.data = .fields vs) (I : Inv Y pins σ H s) (e : H dd = some (.xd fs)) :
    ∃ od, PySem.W.InstAt s.heap a oe C (some od) ∧ ∃ mA : Str → Option Value, (∀ g, RelO (fs.lookup g) (mA g)) ∧ ∀ n, PySem.W.lookIn n od = some (mA n) := by
  obtain ⟨ha, _⟩ := I.pin (a, oe) (List.mem_append_left _ hp)
  obtain ⟨vs, hd⟩ := hf
  have hx : ObjOk Y.prog Y.w H s.heap dd (.xd fs) := I.hok dd _ e
  obtain ⟨mA, hns, hr⟩ := hx
  obtain ⟨od, ho, hl⟩ := lookIn_ns hns
  exact ⟨od, ⟨ha, hz.1, by unfold PySem.W.notCls; rw [hd] <;> rfl, by rw [hz.2]; exact ho⟩, mA, hr, hl⟩
/-- isinstance(e, c), e the refusal that the suite holds -/
def rIs1 (K : PySem.W.Frag) (x : Str) (a : Addr) (cls : Value) (d : Option Addr) : List V → Hp → VK → Prop := fun xs H Q => cls = .ref (He.ga K x) ∧ ∃ (dd : Addr) (fs : List (Str × V)) (c : V) (cv : Value) (b : Bool), d = some dd ∧ H dd = some (.xd fs) ∧
  xs = [.ref a, c] ∧ (∀ u, RelV c u → u = cv) ∧ PySem.W.kitOne K (.ref (He.ga K x)) cv = some b ∧ Q (.bl b) H
theorem call_is1 {K : PySem.W.Frag} (hK : Y.K = K) (R : Rf K x f y zs) (hz : Zc cls d oe) (hf : ∃ vs, oe.data = .fields vs) (hp : (a, oe) ∈ Y.pn) : CallR Y (.builtin "isinstance") (rIs1 K x a cls d) := by
  subst hK
  intro pins s σ H xs us Q I r h
  obtain ⟨rfl, dd, fs, c, cv, b, rfl, hd, rfl, hcv, e, q⟩ := h
  obtain ⟨u1, u2, rfl, r1, r2⟩ := vals2 r
  obtain rfl : u1 = Value.ref a := r1
  have z := hcv _ r2
  subst z
  obtain ⟨od, J, _⟩ := inst_at hp hz hf I hd
  exact PySem.W.kia_one (PySem.W.kitx_exc (od := some od) R.cl R.xf.ga R.xf.gg R.xf.exC R.ha R.hn R.ht R.hm) I.kIn J e (fun z => nomatch z) fun tk => ⟨.bl b, H, I.kept (t' := tk) fun _ _ z => z, rfl, q⟩
theorem vals_refs : ∀ {cs : List Addr} {us : List Value}, Vals (cs.map V.ref) us → us = cs.map Value.ref
  | [], _, .nil => rfl
  | c :: cs, _, .cons r t => by
    have e : _ = Value.ref c := r
    rw [e, vals_refs t]
    rfl
/-- isinstance(e, (c, ..)) -/
def rIsN (K : PySem.W.Frag) (x : Str) (a : Addr) (cls : Value) (d : Option Addr) : List V → Hp → VK → Prop := fun xs H Q => cls = .ref (He.ga K x) ∧ ∃ (dd : Addr) (fs : List (Str × V)) (tp : Addr) (cs : List Addr) (b : Bool), d = some dd ∧ H dd = some (.xd fs) ∧
  xs = [.ref a, .ref tp] ∧ H tp = some (.tup (cs.map V.ref)) ∧ PySem.W.kitAny K (.ref (He.ga K x)) (cs.map Value.ref) = some b ∧ Q (.bl b) H
theorem call_isN {K : PySem.W.Frag} (hK : Y.K = K) (R : Rf K x f y zs) (hz : Zc cls d oe) (hf : ∃ vs, oe.data = .fields vs) (hp : (a, oe) ∈ Y.pn) : CallR Y (.builtin "isinstance") (rIsN K x a cls d) := by
  subst hK
  intro pins s σ H xs us Q I r h
  obtain ⟨rfl, dd, fs, tp, cs, b, rfl, hd, rfl, hT, e, q⟩ := h
  obtain ⟨u1, u2, rfl, r1, r2⟩ := vals2 r
  obtain rfl : u1 = Value.ref a := r1
  obtain rfl : u2 = Value.ref tp := r2
  obtain ⟨od, J, _⟩ := inst_at hp hz hf I hd
  obtain ⟨_, its, rv, o, h1, h2, n, h3⟩ := (show ObjOk Y.prog Y.w H s.heap tp (.tup (cs.map V.ref)) from I.hok tp _ hT)
  have e3 := vals_refs rv
  subst e3
  obtain ⟨oc, od2, dt, sl⟩ := o
  simp only at h2 h3
  subst h2 h3
  exact PySem.W.kia_tup (PySem.W.kitx_exc (od := some od) R.cl R.xf.ga R.xf.gg R.xf.exC R.ha R.hn R.ht R.hm) I.kIn J h1 e (fun z => nomatch z) fun tk => ⟨.bl b, H, I.kept (t' := tk) fun _ _ z => z, rfl, q⟩
/-- e.f, e the refusal that the suite holds -/
def tFld (K : PySem.W.Frag) (x f : Str) (a : Addr) (cls : Value) (d : Option Addr) (te : TE) : TE := fun σ H Q => te σ H fun u H1 => u = .ref a ∧ cls = .ref (He.ga K x) ∧ ∃ (dd : Addr) (fs : List (Str × V)) (v : V), d = some dd ∧ H1 dd = some (.xd fs) ∧ fs.lookup f = some v ∧ Q v H1
theorem pe_fld {K : PySem.W.Frag} {e : Expr} {te : TE} {pos : Pos} (hK : Y.K = K) (R : Rf K x f y zs) (hz : Zc cls d oe) (hf : ∃ vs, oe.data = .fields vs) (hp : (a, oe) ∈ Y.pn) (he : PE Y e te) (hb : attributeBase e f Y.env (eval e Y.env) = eval e Y.env := by rfl) :
    PE Y (.Attribute e f pos) (tFld K x f a cls d te) := by
  subst hK
  refine ⟨fun pins s σ H Q I h => attr_of hb (thn (he.run pins s σ H _ I h) fun u s1 hh => ?_)⟩
  obtain ⟨z, H1, I1, rx, rfl, rfl, dd, fs, v, rfl, ea, l, q⟩ := hh
  obtain rfl : u = Value.ref a := rx
  obtain ⟨od, J, mA, hr, hl⟩ := inst_at hp hz hf I1 ea
  obtain ⟨u, hu, ru⟩ := RelO.some_of (v := v) (o := mA f) (by rw [← l]; exact hr f)
  exact HandSPX.exc_get I1.kIn J R.xf.ga R.xf.gg R.xf.exC (PySem.W.findObj_own R.xf.hdC R.no rfl (by rw [hl, hu])) (handed_of ru) ⟨v, H1, I1.tok _, ru, q⟩
end
theorem kit_self {K : PySem.W.Frag} {t : Value} : PySem.W.kitOne K t t = some true := by
  unfold PySem.W.kitOne
  rw [if_pos (beq_iff_eq.mpr rfl)]
theorem look1 {f : Str} {v : V} : List.lookup f [(f, v)] = some v := by simp [List.lookup]
/-! ### Generator expressions that are used up at once (all, any, sum): the element by the layer's rules, calls within it too -/
/-- a code object's table, however far it has grown -/
def tabP (P : Addr) : Heap → Prop := fun h => ∃ ps : Array Value, h.get? P = some { cls := .none, data := .fields ps } ∧ TriplesOk ps.toList
def TabO (P : Addr) : HO := .ext (tabP P)
theorem tab_obj {Pr : Program} {w : World} {H : Hp} {h : Heap} {P : Addr} (e : tabP P h) : ObjOk Pr w H h P (TabO P) := by
  obtain ⟨ps, h1, h2⟩ := e
  exact ⟨⟨ps, h1, h2⟩, ⟨_, h1⟩, fun a b ⟨qs, g1, g2⟩ k => ⟨qs, k _ g1, g2⟩⟩
theorem inv_gens {X : Cx} {pins : List (Addr × Obj)} {σ : L2.St} {H : Hp} {s : Shared} {G : Array GenState} (I : Inv X pins σ H s) (hg : AllBare G) : Inv X pins σ H { s with gens := G } :=
  ⟨I.ok, I.os, hg, I.base, I.loc, I.cell, I.free, I.freeC, I.pin, I.hok, I.len⟩
theorem bare_set {s : Shared} {g : Nat} {x : GenState} (h : AllBare s.gens) (hx : x.bare = true) : AllBare (s.setGen g x).gens := by
  intro y hy
  obtain ⟨i, hi, rfl⟩ := Array.mem_iff_getElem.mp hy
  have hi2 : i < s.gens.size := by simpa [Shared.setGen] using hi
  by_cases e : g = i
  · subst e
    have z : (s.setGen g x).gens[g]? = some x := by simp [Shared.setGen, hi2]
    rw [Array.getElem?_eq_getElem hi] at z
    rw [Option.some.inj z]
    exact hx
  · have z : (s.setGen g x).gens[i]? = s.gens[i]? := by simp [Shared.setGen, e]
    rw [Array.getElem?_eq_getElem hi, Array.getElem?_eq_getElem hi2] at z
    rw [Option.some.inj z]
    exact h _ (Array.getElem_mem hi2)
section
variable {X : Cx} {pins : List (Addr × Obj)} {σ : L2.St} {H : Hp} {s : Shared}
theorem inv_tabO {P : Addr} {h' : Heap} {t' : Nat} (I : Inv X pins σ H s) (hP : H P = some (TabO P)) (k : ∀ b o, b ≠ P → s.heap.get? b = some o → h'.get? b = some o) (new : tabP P h') :
    Inv X pins σ H { s with heap := h', toks := t' } := by
  have nN : ∀ b, H b = none → b ≠ P := fun b n z => by rw [z, hP] at n; cases n
  have nO : ∀ b y, H b = some (.own y) → b ≠ P := fun b y n z => by
    rw [z, hP] at n
    have z2 : HO.ext (tabP P) = HO.own y := Option.some.inj n
    cases z2
  refine I.step (g' := s.gens) (d' := s.drawn) (ch := []) (fun _ z => nomatch z) (fun b o _ _ _ e n => k b o (nN b n) e) (fun b o _ _ _ e n => ⟨o.slots, k b o (nN b n) e⟩) (fun _ _ _ _ n => n) (fun b o _ e => ?_)
    (fun _ _ e => e) (fun _ _ _ e => e) (fun b ps e => ⟨#[], by rw [e]; simp⟩) (fun m hm => ?_) (fun b u e => ?_) I.bare
  · by_cases hb : b = P
    · obtain ⟨ps, h1, _⟩ := new
      rw [hb]
      exact ⟨_, h1⟩
    · exact ⟨o, k b o hb e⟩
  · obtain ⟨ob, es, ep, ho, r⟩ := hm
    exact ⟨ob, es, ep, k _ ob (nN _ I.free) ho, r⟩
  · by_cases hb : b = P
    · rw [hb] at e ⊢
      rw [hP] at e
      cases e
      exact tab_obj new
    · refine (I.hok b u e).stay (fun d v hd q => k d v ?_ q) (fun _ q => q) fun _ _ q => q
      rcases hd with z | z
      · rw [z]
        exact hb
      · exact nO d _ z
/-- the context of a generator expression's frame, made at s -/
abbrev gblk (X : Cx) (s : Shared) (H : Hp) (cenv : Env) (fp : List Addr) : Cx :=
  { X with A := X.A.in1.in1.deeper cenv, s_0 := s, H_0 := H, env := cenv, outer := X.stack, stack := cenv :: X.stack, ex := fp, fn := fun _ => false, calm := true, pn := [], xe := fun _ _ => False }
abbrev gxEnv (X : Cx) (scope : Scope) (C : Addr) (code : Value) : Env := genEnv scope (cloFrom X.env.cells scope.names []) C code builtinsNs X.env
theorem gblk_start {scope : Scope} {own : List (Str × Nat)} {fp : List Addr} {code : Value} {h5 : Heap} {a : Addr} {go : Obj} {G5 : Array GenState} {tk : Nat} {m5 : Str → Option Value}
    (I : Inv X pins σ H s) (ok : BlkOk X.N X.env.scope scope own) (nc : ∀ y ∈ scope.names, y.2 ≠ .cell) (hN : X.N.Nodup) (hd : X.A.handled = none) (hfp : ∀ b ∈ fp, FpOk X pins H b ∧ b < s.heap.objs.size)
    (kp : ∀ b o, s.heap.get? b = some o → h5.get? b = some o) (ns : h5.Ns s.heap.objs.size m5) (bare : AllBare G5) (ha : h5.get? a = some go) (hax : s.heap.objs.size < a) (hgo : ∀ v, go.data ≠ .cell v) :
    Inv (gblk X s H (gxEnv X scope s.heap.objs.size code) fp) [(a, go)] (wipe σ (own.map (·.2))) H { s with heap := h5, gens := G5, toks := tk } := by
  have hfree : ∀ y ∈ scope.names, y.2 = .free → ∃ c, X.env.cells.lookup y.1 = some c := fun y hy e => by
    rcases ok.free y hy e with k | k
    · exact I.ok.has _ (.inl k)
    · exact I.ok.has _ (.inr k)
  generalize hcenv : gxEnv X scope s.heap.objs.size code = cenv
  have hL : cenv.locals = s.heap.objs.size := by rw [← hcenv]; rfl
  have hcl : cenv.cells = cloFrom X.env.cells scope.names [] := by rw [← hcenv]; rfl
  have hsc : cenv.scope = scope := by rw [← hcenv]; rfl
  have hfr : cenv.frame = some cenv.locals := by rw [← hcenv]; rfl
  have cm : ∀ {y c}, (y, c) ∈ cloFrom X.env.cells scope.names [] → X.env.cells.lookup y = some c ∧ c < s.heap.objs.size := fun {y c} hm => by
    rcases cloFrom_mem hm with hm | ⟨h1, rfl⟩
    · cases hm
    · obtain ⟨c, hc⟩ := hfree _ h1 rfl
      rw [hc]
      obtain ⟨w, z⟩ := I.cell _ _ hc
      exact ⟨rfl, z.lt⟩
  have mem : ∀ {y c}, cenv.cells.lookup y = some c → X.env.cells.lookup y = some c ∧ c < s.heap.objs.size := fun {y c} e => by
    rw [hcl] at e
    exact cm (PySem.mem_of_lookup e)
  have look : ∀ {y}, scope.names.lookup y = some .free → ∃ c, cenv.cells.lookup y = some c ∧ X.env.cells.lookup y = some c := fun {y} hl => by
    have hy : (y, NameKind.free) ∈ scope.names := PySem.mem_of_lookup hl
    obtain ⟨c', e'⟩ := mem_lookup (cloFrom_has (cells := X.env.cells) (acc := []) hy)
    exact ⟨c', by rw [hcl]; exact e', (cm (PySem.mem_of_lookup e')).1⟩
  have nostk : ∀ b, s.heap.objs.size ≤ b → b ∉ frs X.stack := fun b hb z => by
    rcases List.mem_cons.mp (I.stkSub b z) with z | z
    · have := I.lt
      rw [z] at hb
      exact absurd (Nat.lt_of_lt_of_le this hb) (Nat.lt_irrefl _)
    · exact I.nofs hb z
  have okB : (gblk X s H cenv fp).Ok := by
    refine ⟨I.ok.mod, by show cenv.scope.kind = _; rw [hsc]; exact ok.kind, by show cenv.globals = _; rw [← hcenv]; exact I.ok.glob, by show cenv.builtins = _; rw [← hcenv]; rfl, by show s.heap.objs.size ≤ cenv.locals; rw [hL]; exact Nat.le_refl _,
      fun y z c e1 e2 => I.ok.inj y z c (mem e1).1 (mem e2).1, fun y hy => ?_, fun y c z e => absurd z Bool.false_ne_true, fun _ => hd, Around.frames_deeper (A := X.A.in1.in1) I.ok.frames, .inr ⟨rfl, hfr⟩, fun b hb => ⟨?_, fun y c e z => (hfp b hb).1.2.2.2.2.1 y c (mem e).1 z⟩,
      I.bs, Nat.le_trans I.ok.bsz I.sz, fun b o e hb => ?_, fun b hb z => ?_, I.stack, I.stkFree⟩
    · have key : scope.names.lookup y = some .cell ∨ scope.names.lookup y = some .free → ∃ c, cenv.cells.lookup y = some c := fun hk => by
        rcases hk with hk | hk
        · exact absurd rfl (nc _ (PySem.mem_of_lookup hk))
        · obtain ⟨c, h1, _⟩ := look hk
          exact ⟨c, h1⟩
      have hy : cenv.scope.names.lookup y = some .cell ∨ cenv.scope.names.lookup y = some .free := hy
      rw [hsc] at hy
      exact key hy
    · show b ≠ cenv.locals
      rw [hL]; exact Nat.ne_of_lt (hfp b hb).2
    · rcases (hfp b hb).1.2.2.2.1 with z | z
      · exact I.ok.noex b o e z
      · exact absurd (Nat.lt_of_lt_of_le (Heap.lt_size e) (Nat.le_trans I.ok.bsz z)) (Nat.lt_irrefl _)
    · rcases List.mem_cons.mp (I.stkSub b z) with z | z
      · exact (hfp b hb).1.2.1 z
      · exact (hfp b hb).1.2.2.1 z
  refine ⟨okB, rfl, bare, Un.kept kp, ⟨m5, ?_, fun i y av e1 e2 e3 => ?_⟩, fun y c e => ?_, ?_, fun y c e => ?_, fun p hp => ?_, I.hok.kept kp, by rw [wipe_length]; exact I.len⟩
  · show Heap.Ns _ cenv.locals _
    rw [hL]
    exact ns
  · obtain ⟨e2, hne⟩ := wipe_some e2
    have e3 : Vis cenv.scope y := e3
    rw [hsc] at e3
    have no : ∀ k, scope.names.lookup y = some k → (k = .local ∨ k = .cell) → False := fun k hk hh => by
      rcases ok.own _ (PySem.mem_of_lookup hk) hh with e' | e'
      · obtain ⟨p, hp, hpy⟩ := List.mem_map.mp e'
        have e3 := ok.ix p hp
        have : p.1 = y := hpy
        rw [this] at e3
        exact hne (List.mem_map.mpr ⟨p, hp, nodup_ix hN e3 e1⟩)
      · exact e' (List.mem_of_getElem? e1)
    have hf : scope.names.lookup y = some .free := by
      rcases e3 with e3 | e3 | e3
      · exact (no _ e3 (.inl rfl)).elim
      · exact (no _ e3 (.inr rfl)).elim
      · exact e3
    obtain ⟨m, hn, hl⟩ := I.loc
    have hvis : Vis X.env.scope y := (ok.free _ (PySem.mem_of_lookup hf) rfl).elim (fun k => .inr (.inl k)) (fun k => .inr (.inr k))
    obtain ⟨w, r, q⟩ := hl i y av e1 e2 hvis
    obtain ⟨c, h1, h2⟩ := look hf
    refine ⟨w, r, .inr ⟨.inr (by show cenv.scope.names.lookup y = _; rw [hsc]; exact hf), c, h1, ?_⟩⟩
    rcases q with ⟨k, _⟩ | ⟨_, c', e', z⟩
    · have k : X.env.scope.names.lookup y = some .local := k
      rcases ok.free _ (PySem.mem_of_lookup hf) rfl with k' | k' <;> rw [show X.env.scope.names.lookup y = _ from k'] at k <;> cases k
    · rw [h2] at e'; cases e'
      exact z.keeps kp
  · obtain ⟨w, z⟩ := I.cell y c (mem e).1
    exact ⟨w, z.keeps kp⟩
  · show H cenv.locals = none
    rw [hL]; exact I.hok.fresh (Nat.le_refl _)
  · exact I.freeC y c (mem e).1
  · have e : p = (a, go) := by simpa using (show p ∈ ([] : List (Addr × Obj)) ++ [(a, go)] from hp)
    subst e
    refine ⟨ha, I.hok.fresh (Nat.le_of_lt hax), ?_, nostk a (Nat.le_of_lt hax), hgo⟩
    show a ≠ cenv.locals
    rw [hL]; exact Nat.ne_of_gt hax
end

/-! the turns -/
section
variable {Y : Cx} {L fp : List Addr} {σw : L2.St} {tn : Nat → Heap → Prop} {Pv : Nat → Hp → Prop} {n : Nat} {pz : Nat → Bool} {F : Nat → V}
/-- the generator stands ahead of its turn i; what stands at L is pinned -/
def GAt (Y : Cx) (L fp : List Addr) (σw : L2.St) (tn : Nat → Heap → Prop) (Pv : Nat → Hp → Prop) (i : Nat) (s : Shared) : Prop :=
  ∃ H, Inv Y (pinsAt L s.heap) σw H s ∧ tn i s.heap ∧ (∀ b ∈ fp, H b = none) ∧ Pv i H
/-- the turn behind j that were handed out -/
def tj (pz : Nat → Bool) (n : Nat) : Nat → Nat
  | 0 => 0
  | j + 1 => (passing pz n 0).getD j 0 + 1
def GEnd (Y : Cx) (L : List Addr) (σw : L2.St) (Pv : Nat → Hp → Prop) (n : Nat) : GenEnd := fun m s0 r s1 =>
  r = .ok .next ∧ m = 0 ∧ ∃ H, Inv Y (pinsAt L s0.heap) σw H s1 ∧ Pv n H
def GYld (Y : Cx) (L fp : List Addr) (σw : L2.St) (tn : Nat → Heap → Prop) (Pv : Nat → Hp → Prop) (n : Nat) (pz : Nat → Bool) (F : Nat → V) : Protocol := fun m s0 v s kap =>
  ∃ i H, (passing pz n 0)[(passing pz n 0).length - 1 - m]? = some i ∧ RelV (F i) v ∧ Inv Y (pinsAt L s0.heap) σw H s ∧ tn (i + 1) s.heap ∧ (∀ b ∈ fp, H b = none) ∧ Pv (i + 1) H ∧
    ∀ s2, GAt Y L fp σw tn Pv (i + 1) s2 → kap (.send .none) s2
abbrev gxE (elt tg iter : Expr) (ifs : List Expr) (scope : Scope) (pos : Pos) : Expr := .GeneratorExp elt [⟨tg, iter, ifs, 0⟩] scope pos
theorem over_loopG {A : Around} {elt tg iter : Expr} {ifs : List Expr} {scope : Scope} {pos : Pos} {it acc : Value} {env : Env} : A.over (.compLoop (gxE elt tg iter ifs scope pos) 0 it acc env) [] = A.deeper env := by
  first
    | rfl
    | (obtain ⟨hd, d, fr, gs, u⟩ := A; simp [Around.over, Around.deeper, marksOver, frameCount, unitsOf, envsOf, guardsOf, pushEnvs, pushGuards, Code.envs, Code.env?, Code.isFrame, Code.guards, Code.isGuard, Code.weight, Code.frames, Code.isCreation, Code.isCaller, Code.cUnits])
theorem over_startG {A : Around} {elt tg iter : Expr} {ifs : List Expr} {scope : Scope} {pos : Pos} {it acc : Value} {env : Env} : A.over (.compStart (gxE elt tg iter ifs scope pos) 0 it acc env) [] = A.deeper env := by
  first
    | rfl
    | (obtain ⟨hd, d, fr, gs, u⟩ := A; simp [Around.over, Around.deeper, marksOver, frameCount, unitsOf, envsOf, guardsOf, pushEnvs, pushGuards, Code.envs, Code.env?, Code.isFrame, Code.guards, Code.isGuard, Code.weight, Code.frames, Code.isCreation, Code.isCaller, Code.cUnits])
/-- what a turn does -/
def GStep (J : It) (g : TG) (tt : TT) (te : TE) (σ : L2.St) (vs : List Nat) (Pv : Nat → Hp → Prop) (n : Nat) (pz : Nat → Bool) (F : Nat → V) : Prop :=
  ∀ i x H H', i < n → Pv i H → J.yld i H x H' → g x (wipe σ vs) H' fun σ2 H2 => wipe σ2 vs = wipe σ vs ∧ tt σ2 H2 fun b H3 => b = pz i ∧ if b = true then te σ2 H3 (fun y H4 => y = F i ∧ Pv (i + 1) H4) else Pv (i + 1) H3
theorem seg_gx {A : Around} {σ : L2.St} {vs : List Nat} {J : It} {g : TG} {tt : TT} {te : TE} {it : Addr} {elt tg iter : Expr} {ifs : List Expr} {scope : Scope} {pos : Pos}
    (hA : A.deeper Y.env = Y.A) (hc : Y.calm = true) (hpn : Y.pn = []) (hxe : Y.xe = fun _ _ => False) (hco : Y.env.scope.isCoroutine = false)
    (T : Turn Y.prog Y.w Y.K tg J fp it tn) (pg : PG Y tg g) (pt : PTs Y ifs tt) (pe : PE Y elt te) (hex : ∀ b ∈ fp, b ∈ Y.ex) (hLf : ∀ b ∈ fp, b ∉ L)
    (go : ∀ i H, i < n → Pv i H → J.go i H) (stop : ∀ H, Pv n H → J.stop n H) (step : GStep J g tt te σ vs Pv n pz F) :
    ∀ (k i : Nat) (s0 s : Shared), n - i = k → i ≤ n → (∃ H, Inv Y (pinsAt L s0.heap) (wipe σ vs) H s ∧ tn i s.heap ∧ (∀ b ∈ fp, H b = none) ∧ Pv i H) →
      Seg (model Y.prog Y.w) A (GEnd Y L (wipe σ vs) Pv n) (GYld Y L fp (wipe σ vs) tn Pv n pz F) (passing pz n i).length s0
        (.compLoop (gxE elt tg iter ifs scope pos) 0 (.ref it) .none Y.env) ((model Y.prog Y.w).den (.compLoop (gxE elt tg iter ifs scope pos) 0 (.ref it) .none Y.env)) [] s := by
  have ov : A.over (.compLoop (gxE elt tg iter ifs scope pos) 0 (.ref it) .none Y.env) [] = Y.A := over_loopG.trans hA
  have stat : ∀ {s0 : Shared} {σ' : L2.St} {H' : Hp} {s' : Shared}, Inv Y (pinsAt L s0.heap) σ' H' s' → (∀ b ∈ fp, H' b = none) → ∀ b ∈ fp, FpOk Y (pinsAt L s0.heap) H' b := fun {s0 σ' H' s'} I' hn b hb =>
    ⟨hn b hb, (I'.ok.exf b (hex b hb)).1, I'.ok.exfs b (hex b hb), .inl (hex b hb), fun x c e => (I'.ok.exf b (hex b hb)).2 x c e, fun p hp z => by
      rw [hpn, List.nil_append] at hp
      exact hLf b hb (by rw [← z]; exact (of_pinsAt hp).1)⟩
  intro k
  induction k with
  | zero =>
    intro i s0 s hk hi hst
    have hin : i = n := by omega
    subst hin
    obtain ⟨H, I, st, nf, pv⟩ := hst
    show Seg _ A _ _ _ s0 _ ((compTurn (gxE elt tg iter ifs scope pos) 0 (.ref it) .none Y.env).onRaise (leaving Y.env)) [] s
    rw [compTurn_gen, Sem.onRaise_eq_wrap]
    refine seg_bind_wrap (wpAny_standAt ?_)
    refine seg_bind_wrap ?_
    rw [ov]
    refine thnF (T.done Y rfl rfl rfl hc i _ s _ H (fun _ _ => False) I (stat I nf) st (stop H pv)) fun r s1 ⟨hr, I1⟩ => ?_
    subst hr
    exact seg_end (.ok .next) ⟨rfl, by rw [passing_end]; rfl, H, I1, pv⟩
  | succ k ih =>
    intro i s0 s hk hi hst
    have hlt : i < n := by omega
    obtain ⟨H, I, st, nf, pv⟩ := hst
    show Seg _ A _ _ _ s0 _ ((compTurn (gxE elt tg iter ifs scope pos) 0 (.ref it) .none Y.env).onRaise (leaving Y.env)) [] s
    rw [compTurn_gen, Sem.onRaise_eq_wrap]
    refine seg_bind_wrap (wpAny_standAt ?_)
    refine seg_bind_wrap ?_
    rw [ov]
    refine thnF (T.item Y rfl rfl rfl hc i _ s _ H (fun _ _ => False) I (stat I nf) st (go i H hlt pv)) fun r s1 ⟨u, hr, h1⟩ => ?_
    subst hr
    refine seg_bind_wrap ?_
    rw [ov]
    refine thnF h1 fun _ s2 ⟨x, H2, I2, r2, y2, st2, n2⟩ => ?_
    have I2' := I2.pinned (stat I2 n2) (T.obj _ _ st2)
    refine seg_bind_wrap ?_
    rw [ov]
    have pgr := pg.run _ s2 _ H2 x u _ I2' r2 (step i x H H2 hlt pv y2)
    have ptr := fun s3 σ3 H3 Q I3 q3 => pt.run (pinsAt L s0.heap ++ pinsAt fp s2.heap) s3 σ3 H3 Q I3 q3
    have per := fun s3 σ3 H3 Q I3 q3 => pe.run (pinsAt L s0.heap ++ pinsAt fp s2.heap) s3 σ3 H3 Q I3 q3
    rw [hxe] at pgr ptr per
    refine thnF pgr fun _ s3 ⟨σ3, H3, I3, hw3, q3⟩ => ?_
    refine seg_bind_wrap ?_
    rw [ov]
    refine thnF (ptr s3 σ3 H3 _ I3 q3) fun b s4 ⟨H4, I4, hb, q4⟩ => ?_
    have fin : ∀ {s' : Shared} {H' : Hp}, Inv Y (pinsAt L s0.heap ++ pinsAt fp s2.heap) σ3 H' s' → Inv Y (pinsAt L s0.heap) (wipe σ vs) H' s' ∧ tn (i + 1) s'.heap ∧ (∀ b ∈ fp, H' b = none) := fun {s' H'} I' => by
      have pin' : ∀ b ∈ fp, ∀ o, s2.heap.get? b = some o → s'.heap.get? b = some o ∧ H' b = none := fun b hb o e =>
        let z := I'.pin (b, o) (List.mem_append_right _ (List.mem_append_right _ (mem_pinsAt hb e)))
        ⟨z.1, z.2.1⟩
      have hl : (wipe σ vs).length = σ3.length := by rw [← hw3, wipe_length]
      refine ⟨I'.unpinned.weak hl (fun j v e => ?_), T.keep _ _ _ st2 fun b hb o e => (pin' b hb o e).1, fun b hb => ?_⟩
      · rw [← hw3] at e
        exact (wipe_some e).1
      · obtain ⟨o, e, _⟩ := T.obj _ _ st2 b hb
        exact (pin' b hb o e).2
    cases b with
    | false =>
      rw [passing_false hlt hb.symm]
      simp only [Bool.false_eq_true, if_false] at q4 ⊢
      obtain ⟨f1, f2, f3⟩ := fin I4
      exact seg_again rfl (ih (i + 1) s0 _ (by omega) hlt ⟨H4, f1, f2, f3, q4⟩)
    | true =>
      rw [passing_true hlt hb.symm, List.length_cons]
      simp only [if_true] at q4 ⊢
      have hy : ∀ v, yieldOut Y.env v = yieldValue v := fun v => by simp only [yieldOut, hco, Bool.false_eq_true, if_false]
      simp only [hy]
      rw [Sem.bind_eq_wrap', Sem.bind_eq_wrap', Sem.wrap_wrap, Sem.wrap_wrap]
      refine seg_wrap ?_
      rw [ov]
      refine thnF (per s4 σ3 H4 _ I4 q4) fun z s5 ⟨yv, H5, I5, r5, ey, p5⟩ => ?_
      subst ey
      obtain ⟨f1, f2, f3⟩ := fin I5
      refine seg_at (seg_yield rfl rfl rfl ⟨i, H5, passing_here hlt hb.symm, r5, f1, f2, f3, p5, fun s6 h6 => ?_⟩)
      exact seg_again rfl (ih (i + 1) s6 s6 (by omega) hlt h6)
theorem seg_gx0 {A : Around} {σ : L2.St} {vs : List Nat} {J : It} {g : TG} {tt : TT} {te : TE} {it : Addr} {elt tg iter : Expr} {ifs : List Expr} {scope : Scope} {pos : Pos}
    (hA : A.deeper Y.env = Y.A) (hc : Y.calm = true) (hpn : Y.pn = []) (hxe : Y.xe = fun _ _ => False) (hco : Y.env.scope.isCoroutine = false)
    (T : Turn Y.prog Y.w Y.K tg J fp it tn) (pg : PG Y tg g) (pt : PTs Y ifs tt) (pe : PE Y elt te) (hex : ∀ b ∈ fp, b ∈ Y.ex) (hLf : ∀ b ∈ fp, b ∉ L)
    (go : ∀ i H, i < n → Pv i H → J.go i H) (stop : ∀ H, Pv n H → J.stop n H) (step : GStep J g tt te σ vs Pv n pz F) (s : Shared) (h : GAt Y L fp (wipe σ vs) tn Pv 0 s) :
    Seg (model Y.prog Y.w) A (GEnd Y L (wipe σ vs) Pv n) (GYld Y L fp (wipe σ vs) tn Pv n pz F) (passing pz n 0).length s
      (.compStart (gxE elt tg iter ifs scope pos) 0 (.ref it) .none Y.env) ((model Y.prog Y.w).den (.compStart (gxE elt tg iter ifs scope pos) 0 (.ref it) .none Y.env)) [] s := by
  have loop := seg_gx (A := A) (iter := iter) (scope := scope) (pos := pos) (pz := pz) (F := F) hA hc hpn hxe hco T pg pt pe hex hLf go stop step n 0 s s rfl (Nat.zero_le _) h
  obtain ⟨H, I, st, nf, pv⟩ := h
  show Seg _ A _ _ _ s _ ((compStart (gxE elt tg iter ifs scope pos) 0 (.ref it) .none Y.env).onRaise (leaving Y.env)) [] s
  unfold compStart
  rw [Sem.onRaise_eq_wrap]
  show Seg _ A _ _ _ s _ ((ask >>= _).wrap _ _ _ _) [] s
  refine seg_bind_wrap (wpAny_askSetting ?_)
  split
  · exact seg_again rfl loop
  · first
      | exact seg_bind_wrap (wpAny_rule (seg_bind_wrap (wpAny_standAt (seg_bind_wrap (T.self _ 0 s _ _ st (seg_again rfl loop))))))
      | (refine seg_bind_wrap (wpAny_rule ?_); show Seg _ A _ _ _ s _ ((standAt iter.pos >>= _).wrap _ _ _ _) [] s; exact seg_bind_wrap (wpAny_standAt (seg_bind_wrap (T.self _ 0 s _ _ st (seg_again rfl loop)))))
end
/-! ### .. as their consumers see them -/
theorem pins_eq {h h' : Heap} : ∀ {L : List Addr}, (∀ b ∈ L, ∃ o, h.get? b = some o) → (∀ p ∈ pinsAt L h, h'.get? p.1 = some p.2) → pinsAt L h' = pinsAt L h
  | [], _, _ => rfl
  | b :: L, ho, k => by
    obtain ⟨o, e⟩ := ho b List.mem_cons_self
    have e' : h'.get? b = some o := k (b, o) (mem_pinsAt List.mem_cons_self e)
    have ih : pinsAt L h' = pinsAt L h := pins_eq (fun c hc => ho c (List.mem_cons_of_mem _ hc)) fun p hp => k p (by
      obtain ⟨h1, h2⟩ := of_pinsAt hp
      exact mem_pinsAt (b := p.1) (o := p.2) (List.mem_cons_of_mem _ h1) h2)
    unfold pinsAt at ih ⊢
    rw [List.filterMap_cons, List.filterMap_cons, e, e', ih]
theorem pins_nil {L : List Addr} {h : Heap} {X : Cx} {σ : L2.St} {H : Hp} {s : Shared} (I : Inv X (pinsAt L h) σ H s) : Inv X [] σ H s := I.pins_of fun p hp => nomatch hp
section
variable {Y : Cx} {L fp : List Addr} {σw : L2.St} {tn : Nat → Heap → Prop} {Pv : Nat → Hp → Prop} {n : Nat} {pz : Nat → Bool} {F : Nat → V} {A : Around} {a : Addr} {g : Nat}
/-- the generator at a, of the number g, j handed out -/
structure GS (Y : Cx) (L fp : List Addr) (σw : L2.St) (tn : Nat → Heap → Prop) (Pv : Nat → Hp → Prop) (n : Nat) (pz : Nat → Bool) (F : Nat → V) (A : Around) (a : Addr) (g j : Nat) (s : Shared) : Prop where
  gen : s.heap.IsGen a g
  objs : ∀ b ∈ L, ∃ o, s.heap.get? b = some o
  at_ : GAt Y L fp σw tn Pv (tj pz n j) s
  go : ∃ gs, s.gens[g]? = some gs ∧ ∀ s2, GAt Y L fp σw tn Pv (tj pz n j) s2 → gs.Goes (model Y.prog Y.w) A.in1 (GEnd Y L σw Pv n) (GYld Y L fp σw tn Pv n pz F) ((passing pz n 0).length - j) (.send .none) s2
theorem GS.running {j : Nat} {s : Shared} (h : GS Y L fp σw tn Pv n pz F A a g j s) : GAt Y L fp σw tn Pv (tj pz n j) (s.setGen g .running) := by
  obtain ⟨H, I, st, nf, pv⟩ := h.at_
  exact ⟨H, inv_gens I (bare_set I.bare rfl), st, nf, pv⟩
theorem GAt.again {i : Nat} {s s1 : Shared} {H : Hp} {G : Array GenState} (ho : ∀ b ∈ L, ∃ o, s.heap.get? b = some o) (I : Inv Y (pinsAt L s.heap) σw H s1) (st : tn i s1.heap) (nf : ∀ b ∈ fp, H b = none) (pv : Pv i H) (hG : AllBare G) :
    GAt Y L fp σw tn Pv i { s1 with gens := G } := by
  have e := pins_eq (h' := s1.heap) ho fun p hp => (I.pin p (List.mem_append_right _ hp)).1
  exact ⟨H, by show Inv Y (pinsAt L s1.heap) σw H { s1 with gens := G }; rw [e]; exact inv_gens I hG, st, nf, pv⟩
theorem next_gx {j : Nat} {s : Shared} {Q : Option Value → Shared → Prop} {E : Value → Shared → Prop} (hh : A.handled = none) (hroom : A.depth < recursionLimit) (haL : a ∈ L) (hj : j < (passing pz n 0).length) (h : GS Y L fp σw tn Pv n pz F A a g j s)
    (hQ : ∀ v i s', (passing pz n 0)[j]? = some i → RelV (F i) v → GS Y L fp σw tn Pv n pz F A a g (j + 1) s' → (∀ b ∈ L, ∀ o, s.heap.get? b = some o → s'.heap.get? b = some o) → Q (some v) s') :
    wpAny (model Y.prog Y.w) A (pyNext (.ref a)) Q E s := by
  obtain ⟨gs, hgs, hgo⟩ := h.go
  obtain ⟨m, hm⟩ : ∃ m, (passing pz n 0).length - j = m + 1 := ⟨(passing pz n 0).length - j - 1, by omega⟩
  rw [hm] at hgo
  have hgl : g < s.gens.size := (Array.getElem?_eq_some_iff.mp hgs).1
  have lim : s.heap.NoLimit := let ⟨_, I, _⟩ := h.at_; I.nolimit
  refine GenW.wpAny_gsz (n := s.gens.size) (Nat.le_refl _) ?_
  refine wpAny_pyNext_genexpQ (P := fun m s0 s1 => m = 0 ∧ ∃ H, Inv Y (pinsAt L s0.heap) σw H s1 ∧ Pv n H) hh lim hroom h.gen hgs (hgo _ h.running) (fun v s1 gs' hb hv => ?_) (fun s1 hp h' hk => ?_)
  · obtain ⟨i, H, hi, rv, I, st, nf, pv, kap⟩ := hv
    have hi : (passing pz n 0)[(passing pz n 0).length - 1 - (m + 1 - 1)]? = some i := hi
    have hidx : (passing pz n 0).length - 1 - (m + 1 - 1) = j := by omega
    rw [hidx] at hi
    have I : Inv Y (pinsAt L s.heap) σw H s1 := I
    intro hsz
    have hsz1 : s.gens.size ≤ s1.gens.size := by rw [GenW.setGen_size] at hsz; exact hsz
    have et : tj pz n (j + 1) = i + 1 := by
      show (passing pz n 0).getD j 0 + 1 = i + 1
      rw [List.getD_eq_getElem?_getD, hi]
      rfl
    have pin : ∀ b ∈ L, ∀ o, s.heap.get? b = some o → s1.heap.get? b = some o := fun b hb' o e => (I.pin (b, o) (List.mem_append_right _ (mem_pinsAt hb' e))).1
    refine hQ v i _ hi rv ⟨?_, fun b hb' => ?_, ?_, gs', ?_, fun s2 h2 => ?_⟩ pin
    · obtain ⟨o, nm, qn, ho, r⟩ := h.gen
      exact ⟨o, nm, qn, pin a haL o ho, r⟩
    · obtain ⟨o, e⟩ := h.objs b hb'
      exact ⟨o, pin b hb' o e⟩
    · rw [et]
      exact GAt.again h.objs I st nf pv (bare_set I.bare hb)
    · have : g < s1.gens.size := Nat.lt_of_lt_of_le hgl hsz1
      simp [Shared.setGen, this]
    · rw [et] at h2
      have k2 := kap s2 h2
      have e : (passing pz n 0).length - (j + 1) = m := by omega
      rw [e]
      exact k2
  · exact absurd hp.1 (Nat.succ_ne_zero m)
theorem done_gx {s : Shared} {Q : Option Value → Shared → Prop} {E : Value → Shared → Prop} (hh : A.handled = none) (hroom : A.depth < recursionLimit) (h : GS Y L fp σw tn Pv n pz F A a g (passing pz n 0).length s)
    (hQ : ∀ s' H, Inv Y (pinsAt L s.heap) σw H s' → Pv n H → Q none s') : wpAny (model Y.prog Y.w) A (pyNext (.ref a)) Q E s := by
  obtain ⟨gs, hgs, hgo⟩ := h.go
  rw [Nat.sub_self] at hgo
  have lim : s.heap.NoLimit := let ⟨_, I, _⟩ := h.at_; I.nolimit
  refine wpAny_pyNext_genexpQ (P := fun m s0 s1 => m = 0 ∧ ∃ H, Inv Y (pinsAt L s0.heap) σw H s1 ∧ Pv n H) hh lim hroom h.gen hgs (hgo _ h.running) (fun v s1 gs' hb hv => ?_) (fun s1 hp h' hk => ?_)
  · obtain ⟨i, H, hi, rv, I, st, nf, pv, kap⟩ := hv
    have I : Inv Y (pinsAt L s.heap) σw H s1 := I
    exact False.elim (kap s1 (GAt.again h.objs I st nf pv I.bare))
  · obtain ⟨_, H, I, pv⟩ := hp
    have I : Inv Y (pinsAt L s.heap) σw H s1 := I
    exact hQ _ H (inv_gens (I.kept (t' := s1.toks) hk) (bare_set I.bare rfl)) pv
/-- wherever it stands: what holds there -/
theorem GS.stands {j : Nat} {s : Shared} (h : GS Y L fp σw tn Pv n pz F A a g j s) (hj : j ≤ (passing pz n 0).length) : ∃ i H, i ≤ n ∧ Inv Y (pinsAt L s.heap) σw H s ∧ Pv i H := by
  obtain ⟨H, I, st, nf, pv⟩ := h.at_
  refine ⟨_, H, ?_, I, pv⟩
  match j, hj with
  | 0, _ => exact Nat.zero_le _
  | j + 1, hj =>
    have e : (passing pz n 0)[j]? = some ((passing pz n 0)[j]'hj) := List.getElem?_eq_getElem _
    show (passing pz n 0).getD j 0 + 1 ≤ n
    rw [List.getD_eq_getElem?_getD, e]
    have hm : (passing pz n 0)[j]'hj ∈ passing pz n 0 := List.getElem_mem _
    have hm2 : (passing pz n 0)[j]'hj ∈ List.range n := by
      unfold passing at hm
      exact (List.mem_filter.mp hm).1
    exact List.mem_range.mp hm2
theorem all_gx {f : Nat → Bool} {R : Result → Shared → Prop} (hh : A.in1.handled = none) (hroom : A.in1.depth < recursionLimit) (haL : a ∈ L) (hF : F = fun i => .bl (f i)) : ∀ (k j : Nat) (s : Shared), (passing pz n 0).length - j = k → j ≤ (passing pz n 0).length →
    GS Y L fp σw tn Pv n pz F A.in1 a g j s → (∀ s' i H, i ≤ n → Inv Y [] σw H s' → Pv i H → R (.ok (.ret (.bool (((passing pz n 0).drop j).all f)))) s') →
    codeAny (model Y.prog Y.w) A (.builtin "all.loop" ⟨[.ref a], []⟩) R s := by
  intro k
  induction k with
  | zero =>
    intro j s hk hj hst hR
    have hin : j = (passing pz n 0).length := by omega
    subst hin
    refine codeAny_builtin PySem.F.entry_all_loop ?_
    rw [Around.under_plainId PySem.F.plain_all_loop _]
    show wpAny _ A.in1 (pyNext (.ref a) >>= _) _ _ s
    refine wpAny_bind (done_gx hh hroom hst fun s' H I pv => ?_)
    refine wpAny_bind (wpAny_rule (wpAny_pure ?_))
    have := hR s' n H (Nat.le_refl _) (pins_nil I) pv
    rw [List.drop_of_length_le (Nat.le_refl _)] at this
    exact this
  | succ k ih =>
    intro j s hk hj hst hR
    have hlt : j < (passing pz n 0).length := by omega
    have hd : (passing pz n 0).drop j = (passing pz n 0)[j]'hlt :: (passing pz n 0).drop (j + 1) := List.drop_eq_getElem_cons hlt
    refine codeAny_builtin PySem.F.entry_all_loop ?_
    rw [Around.under_plainId PySem.F.plain_all_loop _]
    show wpAny _ A.in1 (pyNext (.ref a) >>= _) _ _ s
    refine wpAny_bind (next_gx hh hroom haL hlt hst fun v i s' hi rv hst' pin => ?_)
    rw [List.getElem?_eq_getElem hlt] at hi
    have ei := Option.some.inj hi
    rw [hF] at rv
    obtain rfl : v = Value.bool (f i) := rv
    refine wpAny_bind (wpAny_holding (wpAny_truthy_bool ?_))
    refine wpAny_bind (wpAny_letGo ?_)
    cases hb : f i with
    | true =>
      simp only [if_true]
      refine wpAny_pure ⟨plainId_quiet PySem.F.plain_all_loop _, ih (j + 1) _ (by omega) hlt hst' fun s'' i' H hi' I pv => ?_⟩
      have := hR s'' i' H hi' I pv
      rw [hd, List.all_cons, ei, hb, Bool.true_and] at this
      exact this
    | false =>
      simp only [Bool.false_eq_true, if_false]
      refine wpAny_bind (wpAny_rule (wpAny_pure ?_))
      obtain ⟨i', H, hi', I, pv⟩ := hst'.stands hlt
      have := hR s' i' H hi' (pins_nil I) pv
      rw [hd, List.all_cons, ei, hb, Bool.false_and] at this
      exact this
theorem any_gx {f : Nat → Bool} {R : Result → Shared → Prop} (hh : A.in1.handled = none) (hroom : A.in1.depth < recursionLimit) (haL : a ∈ L) (hF : F = fun i => .bl (f i)) : ∀ (k j : Nat) (s : Shared), (passing pz n 0).length - j = k → j ≤ (passing pz n 0).length →
    GS Y L fp σw tn Pv n pz F A.in1 a g j s → (∀ s' i H, i ≤ n → Inv Y [] σw H s' → Pv i H → R (.ok (.ret (.bool (((passing pz n 0).drop j).any f)))) s') →
    codeAny (model Y.prog Y.w) A (.builtin "any.loop" ⟨[.ref a], []⟩) R s := by
  intro k
  induction k with
  | zero =>
    intro j s hk hj hst hR
    have hin : j = (passing pz n 0).length := by omega
    subst hin
    refine codeAny_builtin PySem.F.entry_any_loop ?_
    rw [Around.under_plainId PySem.F.plain_any_loop _]
    show wpAny _ A.in1 (pyNext (.ref a) >>= _) _ _ s
    refine wpAny_bind (done_gx hh hroom hst fun s' H I pv => ?_)
    refine wpAny_bind (wpAny_rule (wpAny_pure ?_))
    have := hR s' n H (Nat.le_refl _) (pins_nil I) pv
    rw [List.drop_of_length_le (Nat.le_refl _)] at this
    exact this
  | succ k ih =>
    intro j s hk hj hst hR
    have hlt : j < (passing pz n 0).length := by omega
    have hd : (passing pz n 0).drop j = (passing pz n 0)[j]'hlt :: (passing pz n 0).drop (j + 1) := List.drop_eq_getElem_cons hlt
    refine codeAny_builtin PySem.F.entry_any_loop ?_
    rw [Around.under_plainId PySem.F.plain_any_loop _]
    show wpAny _ A.in1 (pyNext (.ref a) >>= _) _ _ s
    refine wpAny_bind (next_gx hh hroom haL hlt hst fun v i s' hi rv hst' pin => ?_)
    rw [List.getElem?_eq_getElem hlt] at hi
    have ei := Option.some.inj hi
    rw [hF] at rv
    obtain rfl : v = Value.bool (f i) := rv
    refine wpAny_bind (wpAny_holding (wpAny_truthy_bool ?_))
    refine wpAny_bind (wpAny_letGo ?_)
    cases hb : f i with
    | false =>
      simp only [Bool.false_eq_true, if_false]
      refine wpAny_pure ⟨plainId_quiet PySem.F.plain_any_loop _, ih (j + 1) _ (by omega) hlt hst' fun s'' i' H hi' I pv => ?_⟩
      have := hR s'' i' H hi' I pv
      rw [hd, List.any_cons, ei, hb, Bool.false_or] at this
      exact this
    | true =>
      simp only [if_true]
      refine wpAny_bind (wpAny_rule (wpAny_pure ?_))
      obtain ⟨i', H, hi', I, pv⟩ := hst'.stands hlt
      have := hR s' i' H hi' (pins_nil I) pv
      rw [hd, List.any_cons, ei, hb, Bool.true_or] at this
      exact this
end
/-! ### .. sum -/
section
variable {Y : Cx} {L fp : List Addr} {σw : L2.St} {tn : Nat → Heap → Prop} {Pv : Nat → Hp → Prop} {n : Nat} {pz : Nat → Bool} {F : Nat → V} {A : Around} {a S : Addr} {g : Nat}
/-- the consumer writes its own list at S -/
theorem GS.put {j : Nat} {s : Shared} {h' : Heap} {tk : Nat} (hpn : Y.pn = []) (hSL : S ∈ L) (haS : a ≠ S) (hS0 : Y.s_0.heap.objs.size ≤ S) (hLf : ∀ b ∈ fp, b ∉ L) (tk_ : ∀ i h h2, tn i h → (∀ b ∈ fp, ∀ o, h.get? b = some o → h2.get? b = some o) → tn i h2)
    (h : GS Y L fp σw tn Pv n pz F A a g j s) (k : ∀ b o, b ≠ S → s.heap.get? b = some o → h'.get? b = some o) (new : ∃ o, h'.get? S = some o ∧ ∀ v, o.data ≠ .cell v) :
    GS Y L fp σw tn Pv n pz F A a g j { s with heap := h', toks := tk } := by
  obtain ⟨H, I, st, nf, pv⟩ := h.at_
  obtain ⟨oS, eS⟩ := h.objs S hSL
  obtain ⟨_, p2, p3, p4, p5⟩ := I.pin (S, oS) (List.mem_append_right _ (mem_pinsAt hSL eS))
  have pS : H S = none := p2
  obtain ⟨oN, eN, dN⟩ := new
  have nS : ∀ b u, H b = some u → b ≠ S := fun b u e z => by rw [z, pS] at e; cases e
  have cS : ∀ x c, Y.env.cells.lookup x = some c → c ≠ S := fun x c e z => by
    obtain ⟨v, o, ho, hd⟩ := I.cell x c e
    rw [z, eS] at ho
    cases ho
    exact p5 _ hd
  have I0 : Inv Y [] σw H s := pins_nil I
  have J : Inv Y [] σw H { s with heap := h', toks := tk } := by
    refine I0.step (g' := s.gens) (d' := s.drawn) (ch := [S]) (fun b hb => ?_) (fun b o _ _ hc e _ => k b o (fun z => hc (by simp [z])) e) (fun b o _ _ hc e _ => ⟨o.slots, k b o (fun z => hc (by simp [z])) e⟩) (fun _ _ _ _ m => m)
      (fun b o hc e => ⟨o, k b o (fun z => hc (by simp [z])) e⟩) (fun _ _ e => e) (fun _ _ _ e => e) (fun b ps e => ⟨#[], by rw [e]; simp⟩) (fun m hm => ?_) (fun b u e => ?_) I.bare
    · have e : b = S := by simpa using hb
      subst e
      refine ⟨.inr hS0, p3, cS, fun p hp => ?_⟩
      rw [hpn] at hp
      exact nomatch hp
    · obtain ⟨o, es, ep, ho, r⟩ := hm
      exact ⟨o, es, ep, k _ o (Ne.symm p3) ho, r⟩
    · refine (I.hok b u e).stay (fun c v hc q => k c v ?_ q) (fun _ q => q) fun _ _ q => q
      rcases hc with z | z
      · rw [z]; exact nS b u e
      · exact nS c _ z
  refine ⟨?_, fun b hb => ?_, ⟨H, J.pins_of fun p hp => ?_, tk_ _ _ _ st fun b hb o e => k b o (fun z => hLf b hb (by rw [z]; exact hSL)) e, nf, pv⟩, h.go⟩
  · obtain ⟨o, nm, qn, ho, r⟩ := h.gen
    exact ⟨o, nm, qn, k a o haS ho, r⟩
  · by_cases z : b = S
    · rw [z]
      exact ⟨oN, eN⟩
    · obtain ⟨o, e⟩ := h.objs b hb
      exact ⟨o, k b o z e⟩
  · obtain ⟨h1, h2⟩ := of_pinsAt hp
    have h2 : h'.get? p.1 = some p.2 := h2
    by_cases z : p.1 = S
    · rw [z] at h2 ⊢
      rw [eN] at h2
      cases h2
      exact ⟨eN, pS, p3, p4, dN⟩
    · obtain ⟨o, e⟩ := h.objs p.1 h1
      have e2 := k p.1 o z e
      rw [h2] at e2
      have e3 := Option.some.inj e2
      obtain ⟨q1, q2, q3, q4, q5⟩ := I.pin (p.1, o) (List.mem_append_right _ (mem_pinsAt h1 e))
      exact ⟨h2, q2, q3, q4, by rw [e3]; exact q5⟩
abbrev sumObj (i : Int) (t : Tok) (c : Nat) : Obj := { cls := .type "list", dict := none, data := .seq #[.int i t] c, slots := #[] }
theorem sum_gx {f : Nat → Int} {val : Nat → Int} {R : Result → Shared → Prop} (hpn : Y.pn = []) (hSL : S ∈ L) (haS : a ≠ S) (hS0 : Y.s_0.heap.objs.size ≤ S) (hLf : ∀ b ∈ fp, b ∉ L) (tk_ : ∀ i h h2, tn i h → (∀ b ∈ fp, ∀ o, h.get? b = some o → h2.get? b = some o) → tn i h2)
    (hh : A.in1.handled = none) (hroom : A.in1.depth < recursionLimit) (haL : a ∈ L) (hF : F = fun i => .int (f i)) (hval : ∀ j i, (passing pz n 0)[j]? = some i → val j = f i) (hfit : ∀ j, j < (passing pz n 0).length → InLong (val j) ∧ InLong (preSum val (j + 1))) :
    ∀ (k j : Nat) (s : Shared) (tA : Tok) (c : Nat), (passing pz n 0).length - j = k → j ≤ (passing pz n 0).length → GS Y L fp σw tn Pv n pz F A.in1 a g j s → s.heap.get? S = some (sumObj (preSum val j) tA c) →
    (∀ s' t' H, Inv Y [] σw H s' → Pv n H → R (.ok (.ret (.int (preSum val (passing pz n 0).length) t'))) s') → codeAny (model Y.prog Y.w) A (.builtin "sum.loop" ⟨[.ref a, .ref S, rawInt 0, rawInt 0], []⟩) R s := by
  intro k
  induction k with
  | zero =>
    intro j s tA c hk hj hst hS hR
    have hin : j = (passing pz n 0).length := by omega
    subst hin
    refine codeAny_builtin PySem.F.entry_sum_loop ?_
    rw [Around.under_plainId PySem.F.plain_sum_loop _]
    show wpAny _ A.in1 (seqItems? (.ref S) >>= _) _ _ s
    refine wpAny_bind (wpAny_seqItems hS rfl ?_)
    show wpAny _ A.in1 (tryCatch (pyNext (.ref a)) _ >>= _) _ _ s
    refine wpAny_bind (wpAny_tryCatch (done_gx hh hroom hst fun s' H I pv => ?_))
    exact wpAny_pure (hR s' tA H (pins_nil I) pv)
  | succ k ih =>
    intro j s tA c hk hj hst hS hR
    have hlt : j < (passing pz n 0).length := by omega
    refine codeAny_builtin PySem.F.entry_sum_loop ?_
    rw [Around.under_plainId PySem.F.plain_sum_loop _]
    show wpAny _ A.in1 (seqItems? (.ref S) >>= _) _ _ s
    refine wpAny_bind (wpAny_seqItems hS rfl ?_)
    show wpAny _ A.in1 (tryCatch (pyNext (.ref a)) _ >>= _) _ _ s
    refine wpAny_bind (wpAny_tryCatch (next_gx hh hroom haL hlt hst fun v i s' hi rv hst' pin => ?_))
    rw [hF] at rv
    obtain ⟨t, rfl⟩ : ∃ t, v = Value.int (f i) t := rv
    rw [← hval j i hi]
    have hS' := pin S hSL _ hS
    obtain ⟨⟨f1, f2⟩, f3, f4⟩ := hfit j hlt
    have hc : ((decide (-(2 ^ 63) ≤ val j) && decide (val j < 2 ^ 63)) && (decide (-(2 ^ 63) ≤ preSum val j + val j) && decide (preSum val j + val j < 2 ^ 63))) = true := by
      simp only [preSum] at f3 f4
      simp only [Bool.and_eq_true, decide_eq_true_eq]
      exact ⟨⟨f1, f2⟩, f3, f4⟩
    show wpAny _ A.in1 (if (_ : Bool) = true then (mkInt (preSum val j + val j) >>= _) else _) _ _ _
    split
    · refine wpAny_bind (wpAny_mkInt ?_)
      show wpAny _ A.in1 (updateSeq S (fun _ => #[.int (preSum val j + val j) s'.toks]) >>= _) _ _ _
      refine wpAny_bind ?_
      refine wpAny_updateSeq hS' rfl (wpAny_pure ⟨plainId_quiet PySem.F.plain_sum_loop _, ih (j + 1) _ s'.toks _ (by omega) hlt ?_ (Heap.get?_update_self _ hS' rfl) hR⟩)
      exact GS.put (s := s') (tk := s'.toks + 1) hpn hSL haS hS0 hLf tk_ hst' (fun b o hb e => (Heap.get?_update_other _ _ (Ne.symm hb)).trans e) ⟨_, Heap.get?_update_self _ hS' rfl, fun v z => by cases z⟩
    · rename_i hneg
      exact absurd hc hneg
end
theorem preSum_take (f : Nat → Int) (l : List Nat) : ∀ j, j ≤ l.length → preSum (fun j => f (l.getD j 0)) j = ((l.take j).map f).sum
  | 0, _ => rfl
  | j + 1, h => by
    have e : l[j]? = some (l[j]'h) := List.getElem?_eq_getElem _
    rw [preSum, preSum_take f l j (Nat.le_of_succ_le h), List.take_add_one, e, List.map_append, List.sum_append, List.getD_eq_getElem?_getD, e]
    simp
theorem sum_bound {f : Nat → Int} {B : Nat} : ∀ l : List Nat, (∀ i ∈ l, (f i).natAbs ≤ B) → ((l.map f).sum).natAbs ≤ l.length * B
  | [], _ => by simp
  | i :: l, h => by
    have h1 := h i List.mem_cons_self
    have h2 := sum_bound l fun k hk => h k (List.mem_cons_of_mem _ hk)
    rw [List.map_cons, List.sum_cons, List.length_cons, Nat.succ_mul]
    exact Nat.le_trans (Int.natAbs_add_le _ _) (by omega)
/-! ### the rules -/
/-- a generator expression's own scope -/
def gxOk (scope : Scope) : Bool := decide (scope.kind = .function) && (!scope.isCoroutine && (scope.names.all (fun y => decide (y.2 ≠ .cell)) && decide (scope.names.lookup (".0" : Str) = some NameKind.local)))
structure GxOk (scope : Scope) : Prop where
  kind : scope.kind = .function
  co : scope.isCoroutine = false
  nc : ∀ y ∈ scope.names, y.2 ≠ .cell
  dot : scope.names.lookup (".0" : Str) = some NameKind.local
theorem gx_ok {scope : Scope} (h : gxOk scope = true) : GxOk scope := by
  obtain ⟨h1, h⟩ := Bool.and_eq_true_iff.mp h
  obtain ⟨h2, h⟩ := Bool.and_eq_true_iff.mp h
  obtain ⟨h3, h4⟩ := Bool.and_eq_true_iff.mp h
  exact ⟨of_decide_eq_true h1, by simpa using h2, fun y hy => of_decide_eq_true (List.all_eq_true.mp h3 y hy), of_decide_eq_true h4⟩
theorem room_gx {k : Nat} {A : Around} {env : Env} (r : Room (k + 1) A) : Room k (A.in1.in1.deeper env) :=
  ⟨r.hd, by have := r.dp; show A.depth + 1 + 3 * k + 5 < _; omega, by have := r.un; show A.units + 1 + 1 + 3 + 16 * k + 200 < _; omega⟩
section
variable {X : Cx}
/-- the generator at a is made and has not begun: it can be walked by a consumer that pins what stands at L a -/
structure GMd (X : Cx) (pins : List (Addr × Obj)) (σ : L2.St) (Pv : Nat → Hp → Prop) (n : Nat) (pz : Nat → Bool) (F : Nat → V) (vs : List Nat) (L : Addr → List Addr) (a : Addr) (s : Shared) : Prop where
  ex : ∃ (Y : Cx) (fp : List Addr) (tn : Nat → Heap → Prop) (g : Nat) (go : Obj), Y.prog = X.prog ∧ Y.w = X.w ∧ Y.pn = [] ∧ Y.s_0.heap.objs.size < a ∧ s.heap.objs.size = a + 1 ∧ s.heap.get? a = some go ∧ (∀ v, go.data ≠ .cell v) ∧ s.heap.IsGen a g ∧
    (∀ b ∈ fp, b < a) ∧ (∀ i h h2, tn i h → (∀ b ∈ fp, ∀ o, h.get? b = some o → h2.get? b = some o) → tn i h2) ∧
    (∃ H, Inv Y [(a, go)] (wipe σ vs) H s ∧ tn 0 s.heap ∧ (∀ b ∈ fp, H b = none) ∧ Pv 0 H) ∧
    (∃ gs, s.gens[g]? = some gs ∧ ∀ s2, GAt Y (L a) fp (wipe σ vs) tn Pv 0 s2 → gs.Goes (model Y.prog Y.w) X.A.in1.in1 (GEnd Y (L a) (wipe σ vs) Pv n) (GYld Y (L a) fp (wipe σ vs) tn Pv n pz F) (passing pz n 0).length (.send .none) s2) ∧
    ∀ s' H, Inv Y [] (wipe σ vs) H s' → Inv X pins σ H s'
def tGx (P : Addr) (wi : TI) (g : TG) (tt : TT) (te : TE) (vs : List Nat) (σ : L2.St) (H : Hp) (K : Nat → (Nat → Bool) → (Nat → V) → (Nat → Hp → Prop) → Prop) : Prop :=
  wi σ H fun J H1 => H1 P = some (TabO P) ∧ ∃ (n : Nat) (pz : Nat → Bool) (F : Nat → V) (Pv : Nat → Hp → Prop), Pv 0 H1 ∧ (∀ i H, i < n → Pv i H → J.go i H) ∧ (∀ H, Pv n H → J.stop n H) ∧ GStep J g tt te σ vs Pv n pz F ∧ K n pz F Pv
theorem make_gx {c P : Addr} {elt tg iter : Expr} {ifs : List Expr} {scope : Scope} {own : List (Str × Nat)} {gpos : Pos} {wi : TI} {g : TG} {tt : TT} {te : TE} {k : Nat} {pins : List (Addr × Obj)} {s : Shared} {σ : L2.St} {H : Hp} {Q' : Value → Shared → Prop} (L : Addr → List Addr)
    {Kk : Nat → (Nat → Bool) → (Nat → V) → (Nat → Hp → Prop) → Prop} (hL : ∀ a, ∀ b ∈ L a, a ≤ b)
    (hr : Room k X.A) (hN : X.N.Nodup) (TB : GxR.TabB X.base X.mg c P) (hcode : X.env.code = .ref c) (hi : PI X tg iter wi) (ok : BlkOk X.N X.env.scope scope own) (S : GxOk scope)
    (pg : ∀ (s : Shared) (H : Hp) (C : Addr) (code : Value) (fp : List Addr), PG (gblk X s H (gxEnv X scope C code) fp) tg g) (pt : ∀ (s : Shared) (H : Hp) (C : Addr) (code : Value) (fp : List Addr), PTs (gblk X s H (gxEnv X scope C code) fp) ifs tt)
    (pe : ∀ (s : Shared) (H : Hp) (C : Addr) (code : Value) (fp : List Addr), PE (gblk X s H (gxEnv X scope C code) fp) elt te)
    (hs : ∀ v, genFold iter X.env v = pure v) (I : Inv X pins σ H s) (h : tGx P wi g tt te (own.map (·.2)) σ H Kk)
    (hQ : ∀ n pz F Pv a s5, Kk n pz F Pv → GMd X pins σ Pv n pz F (own.map (·.2)) L a s5 → Q' (.ref a) s5) :
    wpAny (model X.prog X.w) X.A (eval (gxE elt tg iter ifs scope gpos) X.env) Q' X.xe s := by
  have hfree : ∀ y ∈ scope.names, y.2 = .free → ∃ c, X.env.cells.lookup y.1 = some c := fun y hy e => by
    rcases ok.free y hy e with k | k
    · exact I.ok.has _ (.inl k)
    · exact I.ok.has _ (.inr k)
  refine wpAny_GeneratorExp_make S.co (closure_ok hfree) S.nc S.dot S.kind (by have := hr.dp; omega) ?_ hs
  refine thn (hi.run pins s σ H _ I h) fun xv s1 hx => thn hx fun itv s2 h2 => ?_
  obtain ⟨it, fp, tn, J, H2, rfl, I2, T, st2, f2, hP, n, pz, F, Pv, p0, go, stop, step, kk⟩ := h2
  obtain ⟨⟨ps, hPs, ht⟩, _, _⟩ := (show ObjOk X.prog X.w H2 s2.heap P (TabO P) from I2.hok P _ hP)
  have cd : PySem.W.CodeHd s2.heap c P := TB.code.keeps fun b u e => I2.bk b u e
  have sz : ∀ b ∈ fp, b < s2.heap.objs.size := fun b hb => by
    obtain ⟨o, e, _⟩ := T.obj _ _ st2 b hb
    exact Heap.lt_size e
  have nPf : ∀ b ∈ fp, b ≠ P := fun b hb z => by
    have := (f2 b hb).1
    rw [z, hP] at this
    cases this
  have cont : ∀ (code : Value) (h3 : Heap) (tk : Nat), Heap.ExtBut P s2.heap h3 → s2.heap.objs.size ≤ h3.objs.size → tabP P h3 →
      wpAny (model X.prog X.w) X.A (builtinsFor X.env.globals X.env.builtins) (fun bi s4 => ∀ h', h'.Ns s4.heap.objs.size (fun y => if y = ".0" then some (.ref it) else none) → Heap.SameBut s4.heap.objs.size (s4.heap.push { cls := .type "frame", data := .dict #[] }) h' →
          Q' (.ref h'.objs.size) { s4 with
            gens := s4.gens.push (.fresh (.compStart (gxE elt tg iter ifs scope gpos) 0 (.ref it) .none (genEnv scope (cloFrom X.env.cells scope.names []) s4.heap.objs.size code bi X.env))),
            toks := s4.toks + 1 + 1 + 1,
            heap := h'.push { cls := .type "generator", data := .fields #[.int s4.gens.size 0, .str "<genexpr>" (s4.toks + 1), .str (X.env.qual ++ "<genexpr>") (s4.toks + 1 + 1)] } }) X.xe { s2 with heap := h3, toks := tk } := by
    intro code h3 tk hx hsz hP3
    obtain ⟨bm, ob, e1, e2, e3, e4, e5, e6, e7, e8⟩ := TB.bm
    have keep3 : ∀ b u, b ≠ P → s2.heap.get? b = some u → h3.get? b = some u := fun b u hb e => hx b u hb e
    refine wpAny_builtinsFor (m := X.mg) (by rw [I2.ok.glob]; exact (I2.mod.glob.keeps I2.bk).extBut hx TB.gP) e1 e2 (keep3 _ _ e4 (I2.bk _ _ e5)) e6 e7 e8 ?_
    have I3 : Inv X pins σ H2 { s2 with heap := h3, toks := tk } := inv_tabO I2 hP keep3 hP3
    have st3 : tn 0 h3 := T.keep _ _ _ st2 fun b hb o e => keep3 b o (nPf b hb) e
    generalize hs3 : ({ s2 with heap := h3, toks := tk } : Shared) = s3 at I3 ⊢
    have eh3 : s3.heap = h3 := by rw [← hs3]
    intro h' hn' hs'
    have hsz' : h'.objs.size = s3.heap.objs.size + 1 := by rw [hs'.1, Heap.size_push]
    have keep' : ∀ b o, s3.heap.get? b = some o → h'.get? b = some o := fun b o e => hs'.extBut b o (Nat.ne_of_lt (Heap.lt_size e)) (Heap.get?_push_of_some _ e)
    generalize hgo : ({ cls := .type "generator", data := .fields #[.int s3.gens.size 0, .str "<genexpr>" (s3.toks + 1), .str (X.env.qual ++ "<genexpr>") (s3.toks + 1 + 1)] } : Obj) = gob
    have keep5 : ∀ b o, s3.heap.get? b = some o → (h'.push gob).get? b = some o := fun b o e => Heap.get?_push_of_some _ (keep' b o e)
    have hfp3 : ∀ b ∈ fp, FpOk X pins H2 b ∧ b < s3.heap.objs.size := fun b hb => ⟨f2 b hb, by rw [eh3]; exact Nat.lt_of_lt_of_le (sz b hb) hsz⟩
    have hga : (h'.push gob).get? h'.objs.size = some gob := by rw [← hgo]; exact Heap.get?_push_size _ rfl
    have I5 := gblk_start (code := code) (G5 := s3.gens.push (.fresh (.compStart (gxE elt tg iter ifs scope gpos) 0 (.ref it) .none (gxEnv X scope s3.heap.objs.size code)))) (tk := s3.toks + 1 + 1 + 1) (h5 := h'.push gob) (a := h'.objs.size) (go := gob) I3 ok S.nc hN hr.hd hfp3 keep5 (hn'.push _) (I3.bare.push rfl) hga (by rw [hsz']; exact Nat.lt_succ_self _)
      (fun v z => by rw [← hgo] at z; cases z)
    refine hQ n pz F Pv _ _ kk ⟨gblk X s3 H2 (gxEnv X scope s3.heap.objs.size code) fp, fp, tn, s3.gens.size, gob, rfl, rfl, rfl, ?_, ?_, hga, (fun v z => by rw [← hgo] at z; cases z), ?_, fun b hb => ?_, fun i h h2 => T.keep i h h2, ⟨H2, I5, ?_, fun b hb => (f2 b hb).1, p0⟩, ⟨.fresh (.compStart (gxE elt tg iter ifs scope gpos) 0 (.ref it) .none (gxEnv X scope s3.heap.objs.size code)), ?_, fun s6 h6 => ⟨rfl, ?_⟩⟩, fun s' H' J' => ?_⟩
    · show s3.heap.objs.size < h'.objs.size
      rw [hsz']; exact Nat.lt_succ_self _
    · show (h'.push gob).objs.size = _
      rw [Heap.size_push]
    · exact ⟨gob, _, _, hga, by rw [← hgo], by rw [← hgo], by rw [← hgo]⟩
    · rw [hsz']
      exact Nat.lt_succ_of_lt (hfp3 b hb).2
    · exact T.keep _ _ _ st3 fun b _ o e => keep5 b o (by rw [eh3]; exact e)
    · exact Array.getElem?_push_size ..
    · refine seg_gx0 (Y := gblk X s3 H2 (gxEnv X scope s3.heap.objs.size code) fp) (A := X.A.in1.in1) rfl rfl rfl rfl S.co T (pg _ _ _ _ _) (pt _ _ _ _ _) (pe _ _ _ _ _) (fun b hb => hb) (fun b hb z => ?_) go stop step s6 h6
      have h1 := hL _ b z
      have h2 := (hfp3 b hb).2
      rw [hsz'] at h1
      exact absurd (Nat.lt_of_lt_of_le h2 (Nat.le_of_succ_le h1)) (Nat.lt_irrefl _)
    · exact I3.call' (ch := fp) J'.os J'.base J'.hok J'.bare fun b hb => ⟨(f2 b hb).2.2.2.1, (f2 b hb).2.1, (f2 b hb).2.2.2.2.1, (f2 b hb).2.2.2.2.2⟩
  refine ⟨I2.nolimit, ?_⟩
  cases hf : codeAmong gpos ps.toList with
  | none =>
    refine wpAny_genexprCodeX hcode (cd.code hPs ht) (cd.tab hPs) hf fun c' h' tk hx hge hlt hco' _ htab' _ => ?_
    obtain ⟨o1, vs, f1, tf, fl, tg', inF, tx, tt', op, _, _, _, _, _, _, _, _, _, htr, _⟩ := hco'
    exact cont _ h' tk hx (Nat.le_trans hge (Nat.le_of_lt hlt)) ⟨_, htab'.2, htr⟩
  | some cv =>
    refine wpAny_genexprCode_hit hcode (cd.code hPs ht) hf ?_
    exact cont cv s2.heap s2.toks (Heap.ExtBut.refl _ _) (Nat.le_refl _) ⟨ps, hPs, ht⟩
/-- all(e for .. in .. if ..) -/
def tAllG (P : Addr) (wi : TI) (g : TG) (tt : TT) (te : TE) (vs : List Nat) : TE := fun σ H Q => tGx P wi g tt te vs σ H fun n pz F Pv => ∃ f : Nat → Bool, (F = fun i => .bl (f i)) ∧ ∀ i H, i ≤ n → Pv i H → Q (.bl (((List.range n).filter pz).all f)) H
def tAnyG (P : Addr) (wi : TI) (g : TG) (tt : TT) (te : TE) (vs : List Nat) : TE := fun σ H Q => tGx P wi g tt te vs σ H fun n pz F Pv => ∃ f : Nat → Bool, (F = fun i => .bl (f i)) ∧ ∀ i H, i ≤ n → Pv i H → Q (.bl (((List.range n).filter pz).any f)) H
def tSumG (P : Addr) (wi : TI) (g : TG) (tt : TT) (te : TE) (vs : List Nat) : TE := fun σ H Q => tGx P wi g tt te vs σ H fun n pz F Pv => ∃ (f : Nat → Int) (B : Nat), (F = fun i => .int (f i)) ∧ n * B < 2 ^ 63 ∧ (∀ i, i < n → (f i).natAbs ≤ B) ∧ ∀ H, Pv n H → Q (.int ((((List.range n).filter pz).map f).sum)) H
/-- a generator just made, seen by all or any -/
theorem GMd.gs1 {pins : List (Addr × Obj)} {σ : L2.St} {Pv : Nat → Hp → Prop} {n : Nat} {pz : Nat → Bool} {F : Nat → V} {vs : List Nat} {a : Addr} {s : Shared} (G : GMd X pins σ Pv n pz F vs (fun a => [a]) a s) :
    s.heap.NoLimit ∧ (∃ g, s.heap.IsGen a g) ∧ ∃ (Y : Cx) (fp : List Addr) (tn : Nat → Heap → Prop) (g : Nat), Y.prog = X.prog ∧ Y.w = X.w ∧ GS Y [a] fp (wipe σ vs) tn Pv n pz F X.A.in1 a g 0 s ∧ ∀ s' H, Inv Y [] (wipe σ vs) H s' → Inv X pins σ H s' := by
  obtain ⟨Y, fp, tn, g, go, e1, e2, e3, e4, e5, e6, e7, e8, e9, e10, ⟨H, I, st, nf, pv⟩, ⟨gs, h1, h2⟩, back⟩ := G.ex
  refine ⟨I.nolimit, ⟨g, e8⟩, Y, fp, tn, g, e1, e2, ⟨e8, fun b hb => ?_, ⟨H, ?_, st, nf, pv⟩, gs, h1, h2⟩, back⟩
  · rw [List.mem_singleton.mp hb]
    exact ⟨go, e6⟩
  · have e : pinsAt [a] s.heap = [(a, go)] := by
      unfold pinsAt
      rw [List.filterMap_cons, e6]
      rfl
    rw [e]
    exact I
theorem all_made {pins : List (Addr × Obj)} {σ : L2.St} {Pv : Nat → Hp → Prop} {n : Nat} {pz : Nat → Bool} {F : Nat → V} {vs : List Nat} {a : Addr} {s : Shared} {k : Nat} {f : Nat → Bool} {Q : VK} (hr : Room k X.A) (G : GMd X pins σ Pv n pz F vs (fun a => [a]) a s)
    (hF : F = fun i => .bl (f i)) (hQ : ∀ i H, i ≤ n → Pv i H → Q (.bl (((List.range n).filter pz).all f)) H) : wpAny (model X.prog X.w) X.A (call (.builtin "all") [.ref a]) (EP X pins σ Q) X.xe s := by
  obtain ⟨lim, ⟨g0, isg⟩, Y, fp, tn, g, ep, ew, gs, back⟩ := G.gs1
  refine call_function_tree PySem.F.kind_all PySem.F.plain_all PySem.F.entry_all (PySem.F.args_all1 _) ?_
  unfold Builtin.«all»
  refine wpAny_bind (m := oneArg "all" _) (wpAny_pure ?_)
  refine wpAny_bind (wpAny_pyIter_gen isg ?_)
  have hd : X.A.in1.depth < recursionLimit := hr.depth
  have L := all_gx (A := X.A) (f := f) (R := fun r s' => match r with | .ok (.ret v) => EP X pins σ Q v s' | .ok _ => False | .error e => X.xe e s') hr.hd hd List.mem_cons_self hF (passing pz n 0).length 0 s rfl (Nat.zero_le _) gs
    (fun s' i H hi I pv => ⟨.bl _, H, back s' H I, rfl, hQ i H hi pv⟩)
  rw [ep, ew] at L
  exact wpAny_pure ⟨plainId_quiet PySem.F.plain_all_loop _, L⟩
theorem any_made {pins : List (Addr × Obj)} {σ : L2.St} {Pv : Nat → Hp → Prop} {n : Nat} {pz : Nat → Bool} {F : Nat → V} {vs : List Nat} {a : Addr} {s : Shared} {k : Nat} {f : Nat → Bool} {Q : VK} (hr : Room k X.A) (G : GMd X pins σ Pv n pz F vs (fun a => [a]) a s)
    (hF : F = fun i => .bl (f i)) (hQ : ∀ i H, i ≤ n → Pv i H → Q (.bl (((List.range n).filter pz).any f)) H) : wpAny (model X.prog X.w) X.A (call (.builtin "any") [.ref a]) (EP X pins σ Q) X.xe s := by
  obtain ⟨lim, ⟨g0, isg⟩, Y, fp, tn, g, ep, ew, gs, back⟩ := G.gs1
  refine call_function_tree PySem.F.kind_any PySem.F.plain_any PySem.F.entry_any (PySem.F.args_any1 _) ?_
  unfold Builtin.«any»
  refine wpAny_bind (m := oneArg "any" _) (wpAny_pure ?_)
  refine wpAny_bind (wpAny_pyIter_gen isg ?_)
  have hd : X.A.in1.depth < recursionLimit := hr.depth
  have L := any_gx (A := X.A) (f := f) (R := fun r s' => match r with | .ok (.ret v) => EP X pins σ Q v s' | .ok _ => False | .error e => X.xe e s') hr.hd hd List.mem_cons_self hF (passing pz n 0).length 0 s rfl (Nat.zero_le _) gs
    (fun s' i H hi I pv => ⟨.bl _, H, back s' H I, rfl, hQ i H hi pv⟩)
  rw [ep, ew] at L
  exact wpAny_pure ⟨plainId_quiet PySem.F.plain_any_loop _, L⟩
theorem sum_made {pins : List (Addr × Obj)} {σ : L2.St} {Pv : Nat → Hp → Prop} {n : Nat} {pz : Nat → Bool} {F : Nat → V} {vs : List Nat} {a : Addr} {s : Shared} {k : Nat} {f : Nat → Int} {B : Nat} {Q : VK} (hr : Room k X.A) (G : GMd X pins σ Pv n pz F vs (fun a => [a, a + 1]) a s)
    (hF : F = fun i => .int (f i)) (hB : n * B < 2 ^ 63) (hf : ∀ i, i < n → (f i).natAbs ≤ B) (hQ : ∀ H, Pv n H → Q (.int ((((List.range n).filter pz).map f).sum)) H) : wpAny (model X.prog X.w) X.A (call (.builtin "sum") [.ref a]) (EP X pins σ Q) X.xe s := by
  obtain ⟨Y, fp, tn, g, go, ep, ew, epn, es0, esz, ega, ego, isg, hfp, tkeep, ⟨H, I, st, nf, pv⟩, ⟨gs, h1, h2⟩, back⟩ := G.ex
  refine call_function_tree PySem.F.kind_sum PySem.F.plain_sum PySem.F.entry_sum (PySem.F.args_sum1 _) ?_
  unfold Builtin.«sum»
  simp only [List.length_cons, List.length_nil]
  rw [if_neg (by decide)]
  refine wpAny_bind (wpAny_of_eq (show Builtin.Builtins.bindParams "sum" ["start"] 0 { } = pure [none] from rfl) ?_)
  refine wpAny_bind (wpAny_pyIter_gen isg ?_)
  refine wpAny_bind (wpAny_mkInt ?_)
  refine wpAny_bind (wpAny_pure ?_)
  simp only [List.forIn_cons, List.forIn_nil]
  refine wpAny_bind (wpAny_bind (wpAny_bind (wpAny_isInstance (T := "int") (b := false) (typeIs_int _ _ _) PySem.sub_int_str ?_)))
  simp only [Bool.false_eq_true, if_false]
  refine wpAny_pure (wpAny_bind (wpAny_bind (wpAny_isInstance (T := "int") (b := false) (typeIs_int _ _ _) PySem.sub_int_bytes ?_)))
  simp only [Bool.false_eq_true, if_false]
  refine wpAny_pure (wpAny_bind (wpAny_bind (wpAny_isInstance (T := "int") (b := false) (typeIs_int _ _ _) PySem.sub_int_bytearray ?_)))
  simp only [Bool.false_eq_true, if_false]
  refine wpAny_pure (wpAny_pure ?_)
  refine wpAny_bind (wpAny_newObj_type ?_)
  have hd : X.A.in1.depth < recursionLimit := hr.depth
  have le : (passing pz n 0).length ≤ n := by
    unfold passing
    exact Nat.le_trans (List.length_filter_le _ _) (by simp)
  have inr : ∀ i ∈ passing pz n 0, i < n := fun i hi => by
    unfold passing at hi
    exact List.mem_range.mp (List.mem_filter.mp hi).1
  have bnd : ∀ l : List Nat, (∀ i ∈ l, i < n) → l.length ≤ n → InLong ((l.map f).sum) := fun l hl hn => by
    have b1 := sum_bound (f := f) (B := B) l fun i hi => hf i (hl i hi)
    have b2 : l.length * B ≤ n * B := Nat.mul_le_mul_right _ hn
    unfold InLong
    omega
  have hSz : s.heap.objs.size = a + 1 := esz
  have gs0 : GS Y [a, a + 1] fp (wipe σ vs) tn Pv n pz F X.A.in1 a g 0 { s with heap := s.heap.push { cls := .type "list", data := .seq #[.int 0 s.toks] }, toks := s.toks + 1 } := by
    have kp : ∀ b o, s.heap.get? b = some o → (s.heap.push { cls := .type "list", data := .seq #[.int 0 s.toks] }).get? b = some o := fun b o e => Heap.get?_push_of_some _ e
    have eS : (s.heap.push { cls := .type "list", data := .seq #[.int 0 s.toks] }).get? (a + 1) = some { cls := .type "list", data := .seq #[.int 0 s.toks] } := by rw [← hSz]; exact Heap.get?_push_size _ rfl
    have J : Inv Y [(a, go)] (wipe σ vs) H { s with heap := s.heap.push { cls := .type "list", data := .seq #[.int 0 s.toks] }, toks := s.toks + 1 } := I.kept kp
    have eP : pinsAt [a, a + 1] (s.heap.push { cls := .type "list", data := .seq #[.int 0 s.toks] }) = [(a, go), (a + 1, { cls := .type "list", data := .seq #[.int 0 s.toks] })] := by
      unfold pinsAt
      rw [List.filterMap_cons, kp a go ega]
      show (a, go) :: List.filterMap _ [a + 1] = _
      rw [List.filterMap_cons, eS]
      rfl
    refine ⟨?_, fun b hb => ?_, ⟨H, ?_, tkeep _ _ _ st fun b _ o e => kp b o e, nf, pv⟩, gs, h1, h2⟩
    · obtain ⟨o, nm, qn, ho, r⟩ := isg
      exact ⟨o, nm, qn, kp a o ho, r⟩
    · rcases List.mem_cons.mp hb with z | z
      · rw [z]
        exact ⟨go, kp a go ega⟩
      · rw [List.mem_singleton.mp z]
        exact ⟨_, eS⟩
    · show Inv Y (pinsAt [a, a + 1] (s.heap.push { cls := .type "list", data := .seq #[.int 0 s.toks] })) _ _ _
      rw [eP]
      refine J.pins_of fun p hp => ?_
      rcases List.mem_cons.mp hp with z | z
      · rw [z]
        exact J.pin (a, go) (List.mem_append_right _ List.mem_cons_self)
      · rw [List.mem_singleton.mp z]
        have fr : H (a + 1) = none := I.hok.fresh (Nat.le_of_eq hSz)
        refine ⟨eS, fr, fun z => ?_, I.nofs (Nat.le_of_eq hSz), fun v z => by cases z⟩
        have := I.lt
        rw [hSz] at this
        have z : a + 1 = Y.env.locals := z
        rw [← z] at this
        exact Nat.lt_irrefl _ this
  have L := sum_gx (A := X.A) (a := a) (S := a + 1) (f := f) (val := fun j => f ((passing pz n 0).getD j 0)) (R := fun r s' => match r with | .ok (.ret v) => EP X pins σ Q v s' | .ok _ => False | .error e => X.xe e s') epn (by simp) (Nat.ne_of_lt (Nat.lt_succ_self a)) (Nat.le_of_lt (Nat.lt_succ_of_lt es0))
    (fun b hb z => by
      have h3 := hfp b hb
      rcases List.mem_cons.mp z with z | z
      · rw [z] at h3; exact Nat.lt_irrefl _ h3
      · rw [List.mem_singleton.mp z] at h3; exact absurd (Nat.lt_trans h3 (Nat.lt_succ_self a)) (Nat.lt_irrefl _)) tkeep hr.hd hd (by simp) hF
    (fun j i hi => by
      show f ((passing pz n 0).getD j 0) = f i
      rw [List.getD_eq_getElem?_getD, hi]
      rfl)
    (fun j hj => ⟨by
      have e : (passing pz n 0)[j]? = some ((passing pz n 0)[j]'hj) := List.getElem?_eq_getElem _
      show InLong (f ((passing pz n 0).getD j 0))
      rw [List.getD_eq_getElem?_getD, e]
      have hm := inr _ (List.getElem_mem hj)
      have := bnd [(passing pz n 0)[j]'hj] (fun i hi => by rw [List.mem_singleton.mp hi]; exact hm) (by show 1 ≤ n; omega)
      simpa using this, by
      rw [preSum_take f _ _ hj]
      exact bnd _ (fun i hi => inr i (List.mem_of_mem_take hi)) (by rw [List.length_take]; omega)⟩)
    (passing pz n 0).length 0 _ s.toks 0 rfl (Nat.zero_le _) gs0 (by
      show (s.heap.push _).get? (a + 1) = _
      rw [← hSz]
      exact Heap.get?_push_size _ rfl)
    (fun s' t' H I pv => ⟨.int _, H, back s' H I, ⟨t', rfl⟩, by
      rw [preSum_take f _ _ (Nat.le_refl _), List.take_length]
      exact hQ H pv⟩)
  rw [ep, ew] at L
  rw [show s.heap.objs.size = a + 1 from hSz]
  exact wpAny_pure ⟨plainId_quiet PySem.F.plain_sum_loop _, L⟩
section
variable {c P : Addr} {elt tg iter : Expr} {ifs : List Expr} {scope : Scope} {own : List (Str × Nat)} {p pos gpos : Pos} {wi : TI} {g : TG} {tt : TT} {te : TE} {k : Nat}
theorem pe_allG (hr : Room k X.A) (hg : Gl X "all") (hm : X.mg "all" = none) (hN : X.N.Nodup) (TB : GxR.TabB X.base X.mg c P) (hcode : X.env.code = .ref c) (hi : PI X tg iter wi) (ok : BlkOk X.N X.env.scope scope own) (S : gxOk scope = true)
    (pg : ∀ (s : Shared) (H : Hp) (C : Addr) (code : Value) (fp : List Addr), PG (gblk X s H (gxEnv X scope C code) fp) tg g) (pt : ∀ (s : Shared) (H : Hp) (C : Addr) (code : Value) (fp : List Addr), PTs (gblk X s H (gxEnv X scope C code) fp) ifs tt)
    (pe : ∀ (s : Shared) (H : Hp) (C : Addr) (code : Value) (fp : List Addr), PE (gblk X s H (gxEnv X scope C code) fp) elt te)
    (hs : ∀ v, genFold iter X.env v = pure v := by intro _; rfl)
    (he : starEach [gxE elt tg iter ifs scope gpos] X.env = (false, eval (gxE elt tg iter ifs scope gpos) X.env) :: starEach [] X.env := by rfl) :
    PE X (.Call (.Name "all" p) [gxE elt tg iter ifs scope gpos] [] pos) (tAllG P wi g tt te (own.map (·.2))) := by
  refine ⟨fun pins s σ H Q I h => ?_⟩
  refine wpAny_Call_Name_kw (ld_blt I hg hm (show bootBuiltins "all" = some (.builtin "all") by decide +kernel) ?_)
  refine PyProof.Rows.callWith_builtin1 ?_ he (by rfl)
  rw [he]
  show wpAny _ _ (spliced ((false, eval (gxE elt tg iter ifs scope gpos) X.env) :: backTo pos (starEach [] X.env))) _ _ s
  refine Calls.spliced_cons (make_gx (fun a => [a]) (fun a b hb => by rw [List.mem_singleton.mp hb]; exact Nat.le_refl _) hr hN TB hcode hi ok (gx_ok S) pg pt pe hs I h fun n pz F Pv a s5 kk G => ?_)
  obtain ⟨f, hF, hQ⟩ := kk
  exact Calls.spliced_nil (all_made hr G hF hQ)
theorem pe_anyG (hr : Room k X.A) (hg : Gl X "any") (hm : X.mg "any" = none) (hN : X.N.Nodup) (TB : GxR.TabB X.base X.mg c P) (hcode : X.env.code = .ref c) (hi : PI X tg iter wi) (ok : BlkOk X.N X.env.scope scope own) (S : gxOk scope = true)
    (pg : ∀ (s : Shared) (H : Hp) (C : Addr) (code : Value) (fp : List Addr), PG (gblk X s H (gxEnv X scope C code) fp) tg g) (pt : ∀ (s : Shared) (H : Hp) (C : Addr) (code : Value) (fp : List Addr), PTs (gblk X s H (gxEnv X scope C code) fp) ifs tt)
    (pe : ∀ (s : Shared) (H : Hp) (C : Addr) (code : Value) (fp : List Addr), PE (gblk X s H (gxEnv X scope C code) fp) elt te)
    (hs : ∀ v, genFold iter X.env v = pure v := by intro _; rfl)
    (he : starEach [gxE elt tg iter ifs scope gpos] X.env = (false, eval (gxE elt tg iter ifs scope gpos) X.env) :: starEach [] X.env := by rfl) :
    PE X (.Call (.Name "any" p) [gxE elt tg iter ifs scope gpos] [] pos) (tAnyG P wi g tt te (own.map (·.2))) := by
  refine ⟨fun pins s σ H Q I h => ?_⟩
  refine wpAny_Call_Name_kw (ld_blt I hg hm (show bootBuiltins "any" = some (.builtin "any") by decide +kernel) ?_)
  refine PyProof.Rows.callWith_builtin1 ?_ he (by rfl)
  rw [he]
  show wpAny _ _ (spliced ((false, eval (gxE elt tg iter ifs scope gpos) X.env) :: backTo pos (starEach [] X.env))) _ _ s
  refine Calls.spliced_cons (make_gx (fun a => [a]) (fun a b hb => by rw [List.mem_singleton.mp hb]; exact Nat.le_refl _) hr hN TB hcode hi ok (gx_ok S) pg pt pe hs I h fun n pz F Pv a s5 kk G => ?_)
  obtain ⟨f, hF, hQ⟩ := kk
  exact Calls.spliced_nil (any_made hr G hF hQ)
theorem pe_sumG (hr : Room k X.A) (hg : Gl X "sum") (hm : X.mg "sum" = none) (hN : X.N.Nodup) (TB : GxR.TabB X.base X.mg c P) (hcode : X.env.code = .ref c) (hi : PI X tg iter wi) (ok : BlkOk X.N X.env.scope scope own) (S : gxOk scope = true)
    (pg : ∀ (s : Shared) (H : Hp) (C : Addr) (code : Value) (fp : List Addr), PG (gblk X s H (gxEnv X scope C code) fp) tg g) (pt : ∀ (s : Shared) (H : Hp) (C : Addr) (code : Value) (fp : List Addr), PTs (gblk X s H (gxEnv X scope C code) fp) ifs tt)
    (pe : ∀ (s : Shared) (H : Hp) (C : Addr) (code : Value) (fp : List Addr), PE (gblk X s H (gxEnv X scope C code) fp) elt te)
    (hs : ∀ v, genFold iter X.env v = pure v := by intro _; rfl)
    (he : starEach [gxE elt tg iter ifs scope gpos] X.env = (false, eval (gxE elt tg iter ifs scope gpos) X.env) :: starEach [] X.env := by rfl) :
    PE X (.Call (.Name "sum" p) [gxE elt tg iter ifs scope gpos] [] pos) (tSumG P wi g tt te (own.map (·.2))) := by
  refine ⟨fun pins s σ H Q I h => ?_⟩
  refine wpAny_Call_Name_kw (ld_blt I hg hm (show bootBuiltins "sum" = some (.builtin "sum") by decide +kernel) ?_)
  refine PyProof.Rows.callWith_builtin1 ?_ he (by rfl)
  rw [he]
  show wpAny _ _ (spliced ((false, eval (gxE elt tg iter ifs scope gpos) X.env) :: backTo pos (starEach [] X.env))) _ _ s
  refine Calls.spliced_cons (make_gx (fun a => [a, a + 1]) (fun a b hb => by
    rcases List.mem_cons.mp hb with z | z
    · rw [z]; exact Nat.le_refl _
    · rw [List.mem_singleton.mp z]; exact Nat.le_succ _) hr hN TB hcode hi ok (gx_ok S) pg pt pe hs I h fun n pz F Pv a s5 kk G => ?_)
  obtain ⟨f, B, hF, hB, hf, hQ⟩ := kk
  exact Calls.spliced_nil (sum_made hr G hF hB hf hQ)
end
end
/-- a def of the text whose code object is known -/
theorem okT {Pr : Program} {w : World} {K : PySem.W.Frag} {mg : Str → Option Value} {base : Heap} {x qual : Str} {st : Stmt} {f c : Addr} {fd : FuncData} {N ps : List Str} {k : Nat} {sp : Sp} (F : Fun K x qual st f fd) (hc : fd.code = .ref c) (S : FnScope N ps (defScope st)) (len : ∀ vs H Q E, sp vs H Q E → vs.length = ps.length)
    (hbody : ∀ (A : Around) (outer : List Env) (s : Shared) (H : Hp) (vs : List V) (Q : VK) (E : XK), Room k (A.deeper (envOfC qual (defScope st) s.heap.objs.size f (.ref c))) → sp vs H Q E →
      ∃ t, PSs (cxOf CX0 Pr w K mg base N qual (defScope st) f (.ref c) A outer s H E).nox (defBody st) t ∧ t { nx := fun _ H' => Q .non H', rt := Q } (start N vs) H) : FnOk Pr w K mg base CX0 (k + 1) f fd ps sp := by
  obtain ⟨oc, od, kV, doc, pm, an, cdv, ct, osl, rfl, lk, hcd⟩ := F.ex
  obtain rfl : cdv = .ref c := hc
  refine fn_of lk hcd S len fun A outer s H vs Q E hr hsp => ?_
  obtain ⟨t, h, q⟩ := hbody A outer s H vs Q E hr hsp
  exact ⟨t, h.nox, q⟩
/-- a generator's turns by a walk -/
theorem gx_it {J : It} {n : Nat} {G : Hp → Prop} {W : Nat → Hp → V → Hp → Prop} (w : Walk J n G W) {g : TG} {tt : TT} {te : TE} {σ : L2.St} {vs : List Nat} {pz : Nat → Bool} {F : Nat → V} {H1 : Hp} {R : Prop} (Pv : Nat → Hp → Prop) (p0 : Pv 0 H1) (hG : ∀ i H, i ≤ n → Pv i H → G H)
    (hs : ∀ i x H H', i < n → Pv i H → W i H x H' → g x (wipe σ vs) H' fun σ2 H2 => wipe σ2 vs = wipe σ vs ∧ tt σ2 H2 fun b H3 => b = pz i ∧ if b = true then te σ2 H3 (fun y H4 => y = F i ∧ Pv (i + 1) H4) else Pv (i + 1) H3) (r : R) :
    Pv 0 H1 ∧ (∀ i H, i < n → Pv i H → J.go i H) ∧ (∀ H, Pv n H → J.stop n H) ∧ GStep J g tt te σ vs Pv n pz F ∧ R :=
  ⟨p0, fun i H hi p => w.goes i H hi (hG i H (Nat.le_of_lt hi) p), fun H p => w.stops H (hG n H (Nat.le_refl _) p), fun i x H H' hi p y => hs i x H H' hi p (w.yields i H x H' hi (hG i H (Nat.le_of_lt hi) p) y), r⟩
/-! ### a law's end where defs have tables of code objects (generator expressions) -/
section
variable {P : Program} {w : World} {K : PySem.W.Frag} {mg mb : Str → Option Value} {k : Nat} {fa a : Addr} {fd : FuncData} {x : Str} {sp : Sp} {s1 : Shared} {vs : List Value} {ns : List Int} {cs : List (Addr × Addr)}
abbrev emptyT : Obj := { cls := .none, data := .fields #[] }
/-- what is tracked at a law's start: the script, if it is no thing of the text, and the tables -/
structure Only0 (K : PySem.W.Frag) (a : Addr) (ts : List Addr) (H : Hp) : Prop where
  tab : ∀ t ∈ ts, H t = some (TabO t)
  no : ∀ b, b ≠ a → b ∉ ts → H b = none
  own : H a = none ∨ (K.lookup a = none ∧ ∃ o xs, H a = some (.frz o (.lst xs)))
theorem told_fromT (H : Hp) (kin : K.In s1.heap) (glob : s1.heap.Ns mainGlobals mg) (blt : s1.heap.Ns builtinsNs mb) (same : ∀ y : Str, y ≠ "__name__" → mb y = bootBuiltins y) (lim : s1.heap.NoLimit) (bare : s1.gens = #[])
    (hT : ∀ p ∈ cs, s1.heap.get? p.2 = some emptyT) (nT : ∀ p ∈ cs, K.lookup p.2 = none) (C : ∀ p ∈ cs, PySem.W.CodeHd s1.heap p.1 p.2)
    (hbm : ∃ (bm : Addr) (ob : Obj), mg "__builtins__" = some (.ref bm) ∧ bm ≠ builtinsNs ∧ s1.heap.get? bm = some ob ∧ ob.cls = .type "module" ∧ ob.dict = some builtinsNs ∧ ob.data = .plain)
    (obj : s1.heap.get? a = some { cls := .type "list", data := .seq vs.toArray }) (room : Room k callerA)
    (F : ∀ base : Heap, K.In base → base.Ns mainGlobals mg → (∀ p ∈ cs, GxR.TabB base mg p.1 p.2) → FnG P w K mg base k fa fd [x] sp) (bind : ∀ (s : Shared) (u : Value), BindsTo s fd ⟨[u], []⟩ [(x, u)])
    (only : Only0 K a (cs.map (·.2)) H) (wish : sp [.ref a] H (fun v H' => v = .bl true ∧ ∀ p ∈ cs, H' p.2 = some (TabO p.2)) fun _ _ _ => False) (hok : HOk P w H s1.heap) :
    codeAny (model P w) callerA (.call (.ref fa) ⟨[.ref a], []⟩) (Told s1) s1 := by
  have isT : ∀ b : Addr, b ∈ cs.map (·.2) → s1.heap.get? b = some emptyT := fun b hb => by
    obtain ⟨p, hp, e⟩ := List.mem_map.mp hb
    rw [← e]
    exact hT p hp
  have aT : a ∉ cs.map (·.2) := fun z => by
    have q := isT a z
    rw [obj] at q
    have z' : Data.seq vs.toArray _ = Data.fields #[] := congrArg Obj.data (Option.some.inj q)
    cases z'
  have free : ∀ {b : Addr} {o : Obj}, s1.heap.get? b = some o → (∀ vs n, o.data ≠ .seq vs n) → o.data ≠ .fields #[] → H b = none := fun {b o} e h1 h2 => by
    refine only.no b (fun z => ?_) fun z => ?_
    · rw [z, obj] at e
      cases e
      exact h1 _ _ rfl
    · rw [isT b z] at e
      cases e
      exact h2 rfl
  have nsB : ∀ {b : Addr} {m : Str → Option Value}, s1.heap.Ns b m → (hidT s1.heap H).Ns b m := by
    rintro b m ⟨o, es, ep, e, d, r⟩
    refine ⟨o, es, ep, hidT_get e (free e (fun vs n z => ?_) fun z => ?_), d, r⟩
    · rw [d] at z
      cases z
    · rw [d] at z
      cases z
  have kinB : K.In (hidT s1.heap H) := fun b o e => by
    refine hidT_get (kin b o e) ?_
    by_cases z : b = a
    · subst z
      rcases only.own with h | ⟨h, _⟩
      · exact h
      · rw [h] at e
        cases e
    · refine only.no b z fun y => ?_
      obtain ⟨p, hp, ep⟩ := List.mem_map.mp y
      rw [← ep, nT p hp] at e
      cases e
  have limB : (hidT s1.heap H).NoLimit := by
    obtain ⟨mc, h1, h2⟩ := lim
    exact ⟨mc, nsB h1, h2⟩
  have TB : ∀ p ∈ cs, GxR.TabB (hidT s1.heap H) mg p.1 p.2 := fun p hp => by
    have hTp := hT p hp
    refine ⟨?_, ?_, fun z => ?_⟩
    · obtain ⟨o, us, file, tf, flags, tg, inF, text, tt, e1, r1, r2, r3, r4, r5, r6, r7, r8, hne⟩ := C p hp
      refine ⟨o, us, file, tf, flags, tg, inF, text, tt, hidT_get e1 (free e1 (fun vs n z => ?_) fun z => ?_), r1, r2, r3, r4, r5, r6, r7, r8, hne⟩
      · rw [r2] at z
        cases z
      · rw [r2] at z
        cases z
        simp at r3
    · obtain ⟨bm, ob, b1, b2, b3, b4, b5, b6⟩ := hbm
      have nG : bm ≠ mainGlobals := fun q => by
        obtain ⟨o, es, ep, e, hd, _⟩ := glob
        rw [q, e] at b3
        cases b3
        rw [hd] at b6
        cases b6
      have nP : bm ≠ p.2 := fun q => by
        rw [q, hTp] at b3
        cases b3
        cases b6
      refine ⟨bm, ob, b1, b2, nG, nP, hidT_get b3 (free b3 (fun vs n z => ?_) fun z => ?_), b4, b5, b6⟩
      · rw [b6] at z
        cases z
      · rw [b6] at z
        cases z
    · obtain ⟨o, es, ep, e, hd, _⟩ := glob
      rw [z, hTp] at e
      cases e
      cases hd
  have env : Env0 P w K mg (hidT s1.heap H) callerA [] s1 H :=
    { frames := rfl, mod := ⟨kinB, nsB glob, ⟨mb, nsB blt, same⟩, limB⟩, bs := fun _ _ e => of_hidT e, bsz := Nat.le_of_eq (hidT_size _ _), funs := trivial,
      frf := fun b z => (List.not_mem_nil (show b ∈ ([] : List Addr) from z)).elim, hok := hok, bare := .of_eq bare }
  refine codeAny_mono ((F _ kinB (nsB glob) TB).run callerA [] s1 H ⟨[.ref a], []⟩ [.ref a] [.ref a] _ _ room rfl env (bind s1 _) (.cons rfl .nil) wish) ?_
  rintro (e | fl) s2 h
  · exact (show False from h).elim
  · cases fl with
    | ret u =>
      obtain ⟨v, H2, os2, bare2, un, hok2, rel, q, qt⟩ := h
      have q : v = V.bl true := q
      subst q
      obtain rfl : u = Value.bool true := rel
      have key : ∀ b o, b ∉ cs.map (·.2) → s1.heap.get? b = some o → s2.heap.get? b = some o := fun b o nb e => by
        cases z : H b with
        | none => exact un.keep b o e z (fun y => List.not_mem_nil (show b ∈ ([] : List Addr) from y)) List.not_mem_nil
        | some u =>
          have eb : b = a := Classical.byContradiction fun n => by
            rw [only.no b n nb] at z
            cases z
          subst eb
          rcases only.own with y | ⟨_, ob, xs, y⟩
          · rw [z] at y
            cases y
          · obtain ⟨g1, _⟩ := hok b _ y
            obtain ⟨g2, _⟩ := hok2 b _ (un.frzs b ob _ y)
            rw [e] at g1
            cases g1
            exact g2
      have grown : ∀ p ∈ cs, ∃ more : Array Value, s2.heap.get? p.2 = some { cls := .none, data := .fields more } := fun p hp => by
        obtain ⟨⟨ps, h1, _⟩, _⟩ := (show ObjOk P w H2 s2.heap p.2 (TabO p.2) from hok2 p.2 _ (qt p hp))
        exact ⟨ps, h1⟩
      refine ⟨rfl, ⟨fun b o e => ?_, fun b o e => ?_⟩, os2, bare2⟩
      · by_cases hb : b ∈ cs.map (·.2)
        · obtain ⟨p, hp, ep⟩ := List.mem_map.mp hb
          obtain ⟨more, hm⟩ := grown p hp
          rw [← ep] at e ⊢
          rw [hT p hp] at e
          cases e
          exact .inr (.inl ⟨((C p hp).tab (hT p hp)).isCodeTable, rfl, #[], more, rfl, by rw [Array.empty_append]; exact hm⟩)
        · exact .inl (key b o hb e)
      · by_cases hb : b ∈ cs.map (·.2)
        · obtain ⟨p, hp, ep⟩ := List.mem_map.mp hb
          obtain ⟨more, hm⟩ := grown p hp
          rw [← ep]
          exact ⟨_, hm⟩
        · exact ⟨o, key b o hb e⟩
    | next => exact h.elim
    | brk => exact h.elim
    | cont => exact h.elim
theorem told_lawT (kin : K.In s1.heap) (glob : s1.heap.Ns mainGlobals mg) (blt : s1.heap.Ns builtinsNs mb) (same : ∀ y : Str, y ≠ "__name__" → mb y = bootBuiltins y) (lim : s1.heap.NoLimit) (bare : s1.gens = #[])
    (hT : ∀ p ∈ cs, s1.heap.get? p.2 = some emptyT) (nT : ∀ p ∈ cs, K.lookup p.2 = none) (C : ∀ p ∈ cs, PySem.W.CodeHd s1.heap p.1 p.2)
    (hbm : ∃ (bm : Addr) (ob : Obj), mg "__builtins__" = some (.ref bm) ∧ bm ≠ builtinsNs ∧ s1.heap.get? bm = some ob ∧ ob.cls = .type "module" ∧ ob.dict = some builtinsNs ∧ ob.data = .plain)
    (obj : s1.heap.get? a = some { cls := .type "list", data := .seq vs.toArray }) (are : IntsAre vs ns) (long : ns.length ≤ sizeLine) (room : Room k callerA)
    (F : ∀ base : Heap, K.In base → base.Ns mainGlobals mg → (∀ p ∈ cs, GxR.TabB base mg p.1 p.2) → FnG P w K mg base k fa fd [x] sp) (bind : ∀ (s : Shared) (u : Value), BindsTo s fd ⟨[u], []⟩ [(x, u)])
    (wish : ∀ H : Hp, SqL K H a (ns.map V.int) → (∀ p ∈ cs, H p.2 = some (TabO p.2)) → sp [.ref a] H (fun v H' => v = .bl true ∧ ∀ p ∈ cs, H' p.2 = some (TabO p.2)) fun _ _ _ => False) :
    codeAny (model P w) callerA (.call (.ref fa) ⟨[.ref a], []⟩) (Told s1) s1 := by
  have rv := vals_ints are
  have nl := are.length
  have isT : ∀ b : Addr, b ∈ cs.map (·.2) → s1.heap.get? b = some emptyT := fun b hb => by
    obtain ⟨p, hp, e⟩ := List.mem_map.mp hb
    rw [← e]
    exact hT p hp
  have aT : a ∉ cs.map (·.2) := fun z => by
    have q := isT a z
    rw [obj] at q
    have z' : Data.seq vs.toArray _ = Data.fields #[] := congrArg Obj.data (Option.some.inj q)
    cases z'
  have memT : ∀ p ∈ cs, p.2 ∈ cs.map (·.2) := fun p hp => List.mem_map.mpr ⟨p, hp, rfl⟩
  have tobj : ∀ {H : Hp} (b : Addr), b ∈ cs.map (·.2) → ObjOk P w H s1.heap b (TabO b) := fun b hb => tab_obj ⟨#[], isT b hb, trivial⟩
  cases hk : K.lookup a with
  | some o =>
    have e := kin a o hk
    rw [obj] at e
    cases e
    have tt : ∀ b ∈ cs.map (·.2), (fun b => if b ∈ cs.map (·.2) then some (TabO b) else none) b = some (TabO b) := fun b hb => if_pos hb
    have sq : SqL K (fun b => if b ∈ cs.map (·.2) then some (TabO b) else none) a (ns.map V.int) := Or.inr ⟨_, vs.toArray, _, hk, rfl, rfl, rfl, by rw [List.size_toArray, nl]; exact long, by simpa using rv⟩
    refine told_fromT _ kin glob blt same lim bare hT nT C hbm obj room F bind ⟨tt, fun b _ nb => if_neg nb, Or.inl (if_neg aT)⟩ (wish _ sq fun p hp => tt p.2 (memT p hp)) fun b u z => ?_
    by_cases hb : b ∈ cs.map (·.2)
    · have z' := (tt b hb).symm.trans z
      cases z'
      exact tobj b hb
    · have z' := (if_neg hb).symm.trans z
      cases z'
  | none =>
    let H : Hp := fun b => if b = a then some (.frz { cls := .type "list", data := .seq vs.toArray } (.lst (ns.map V.int))) else if b ∈ cs.map (·.2) then some (TabO b) else none
    have h1 : H a = some (.frz { cls := .type "list", data := .seq vs.toArray } (.lst (ns.map V.int))) := if_pos rfl
    have h2 : ∀ b ∈ cs.map (·.2), H b = some (TabO b) := fun b hb => (if_neg (show ¬ b = a from fun z => aT (by rw [← z]; exact hb))).trans (if_pos hb)
    have h3 : ∀ b, b ≠ a → b ∉ cs.map (·.2) → H b = none := fun b hb nb => (if_neg hb).trans (if_neg nb)
    refine told_fromT H kin glob blt same lim bare hT nT C hbm obj room F bind ⟨h2, h3, Or.inr ⟨hk, _, _, h1⟩⟩ (wish H (Or.inl (Or.inr ⟨_, h1⟩)) fun p hp => h2 p.2 (memT p hp)) fun b u z => ?_
    by_cases hb : b = a
    · rw [hb, h1] at z
      cases z
      rw [hb]
      exact ⟨obj, by rw [List.length_map]; exact long, vs, _, rv, obj⟩
    · by_cases hb2 : b ∈ cs.map (·.2)
      · rw [h2 b hb2] at z
        cases z
        exact tobj b hb2
      · rw [h3 b hb hb2] at z
        cases z
end
theorem walkGT {l : PySem.W.OpenLaw} {n k : Nat} {q : Program} {loose : List Str} {XP : (Str → Option Value) → Heap → Prop} {YP : World → Heap → Prop} {d : DefRec} {x : Str} {sp : PySem.W.Frag → List Addr → Sp}
    (hn : l.most = some n) (hn2 : n ≤ sizeLine) (hdf : d.params.defaults = []) (hr : Room k callerA)
    (F : ∀ (w : World) (mg : Str → Option Value) (fa : Addr) (h : Heap), YP w h → h.Ns mainGlobals mg → mg d.name = some (.ref fa) →
      ∃ (K : PySem.W.Frag) (fd : FuncData) (cs : List (Addr × Addr)), K.In h ∧ (∀ p ∈ cs, h.get? p.2 = some emptyT) ∧ (∀ p ∈ cs, K.lookup p.2 = none) ∧ (∀ p ∈ cs, PySem.W.CodeHd h p.1 p.2) ∧ (∀ (s : Shared) (u : Value), BindsTo s fd ⟨[u], []⟩ [(x, u)]) ∧
        ∀ base : Heap, K.In base → base.Ns mainGlobals mg → (∀ p ∈ cs, GxR.TabB base mg p.1 p.2) → FnG l.prog w K mg base k fa fd [x] (sp K (cs.map (·.2))))
    (hsp : ∀ (K : PySem.W.Frag) (ts : List Addr) (H : Hp) (a : Addr) (ns : List Int), ns.length ≤ n → SqL K H a (ns.map V.int) → (∀ t ∈ ts, H t = some (TabO t)) → sp K ts [.ref a] H (fun v H' => v = .bl true ∧ ∀ t ∈ ts, H' t = some (TabO t)) fun _ _ _ => False) :
    PySem.W.WalkO q loose XP YP l.row.toRowW d [] (fun f vs => PySem.call f vs) := by
  refine Att.attach_call hn hdf fun w s0 s1 mg mb fa o pm cd doc a vs ns G Y ho hd hcd hmg hobj hints hlen hg => ?_
  obtain ⟨K, fd, cs, kin, hT, nT, C, hb, hF⟩ := F w mg fa _ Y G.T.g hmg
  refine told_lawT kin G.T.g G.T.b G.T.builtins G.T.nolimit hg hT nT C G.T.bmain hobj hints (Nat.le_trans hlen hn2) hr hF hb fun H sq tt => ?_
  have w1 := hsp K (cs.map (·.2)) H a ns hlen sq fun t ht => by
    obtain ⟨p, hp, rfl⟩ := List.mem_map.mp ht
    exact tt p hp
  have e : (fun (v : V) (H' : Hp) => v = .bl true ∧ ∀ t ∈ cs.map (·.2), H' t = some (TabO t)) = fun v H' => v = .bl true ∧ ∀ p ∈ cs, H' p.2 = some (TabO p.2) := by
    funext v H'
    apply propext
    constructor
    · intro ⟨h1, h2⟩
      exact ⟨h1, fun p hp => h2 p.2 (List.mem_map.mpr ⟨p, hp, rfl⟩)⟩
    · intro ⟨h1, h2⟩
      refine ⟨h1, fun t ht => ?_⟩
      obtain ⟨p, hp, rfl⟩ := List.mem_map.mp ht
      exact h2 p hp
  rw [e] at w1
  exact w1
/-- what is known of a def's code object -/
theorem code_of {K : PySem.W.Frag} {x qual : Str} {pa : Arguments} {bd : List Stmt} {sc : Scope} {dv : List V} {kw : List (Str × V)} {p : He.Defn} {fd : FuncData} (F : FunD K x qual pa bd sc dv kw (He.fAd K p) fd) : fd.code = .ref (He.codeOf K p) := by
  obtain ⟨oc, od, dV, kV, doc, pm, an, cdv, ct, osl, e, lk, hcd, hd, hk⟩ := F.ex
  obtain ⟨c, rfl⟩ := He.codeIn_ref hcd
  have e2 : fd.code = .ref c := by rw [e]
  rw [e2, He.codeOf_eq lk e2]
/-- the law's promise, tables ts -/
def spLawT (K : PySem.W.Frag) (ts : List Addr) : Sp := fun vs H Q _ => ∃ (a : Addr) (ns : List Int), vs = [.ref a] ∧ SqL K H a (ns.map V.int) ∧ (∀ t ∈ ts, H t = some (TabO t)) ∧ ∀ H', (∀ t ∈ ts, H' t = some (TabO t)) → Q (.bl true) H'
/-! ### k03: how many notes, where one is, the k-th -/
def cnt (r : Rn) : Int := r.2.2 - r.2.1
def cntL (rs : List Rn) : Int := (rs.map cnt).sum
theorem cntL_cons (r : Rn) (rs : List Rn) : cntL (r :: rs) = cnt r + cntL rs := by
  unfold cntL
  rw [List.map_cons, List.sum_cons]
theorem cntL_app (a b : List Rn) : cntL (a ++ b) = cntL a + cntL b := by
  unfold cntL
  rw [List.map_append, List.sum_append]
theorem cntL_nn : ∀ {rs : List Rn}, Full rs → 0 ≤ cntL rs
  | [], _ => Int.le_refl _
  | r :: rs, h => by
    have h1 := h r List.mem_cons_self
    have h2 := cntL_nn (rs := rs) fun x hx => h x (List.mem_cons_of_mem _ hx)
    rw [cntL_cons]
    unfold cnt
    omega
theorem cntL_hi : ∀ {rs : List Rn}, (∀ r ∈ rs, RnOk r) → cntL rs ≤ 1000000000 * rs.length
  | [], _ => Int.le_refl _
  | r :: rs, h => by
    obtain ⟨h1, h3, h4⟩ := h r List.mem_cons_self
    have h2 := cntL_hi (rs := rs) fun x hx => h x (List.mem_cons_of_mem _ hx)
    rw [cntL_cons, List.length_cons]
    unfold cnt
    omega
def plL : List Rn → Str → Int → Int → Option Int
  | [], _, _, _ => none
  | r :: rs, s, n, a => if r.1 = s ∧ r.2.1 ≤ n ∧ n < r.2.2 then some (a + n - r.2.1) else plL rs s n (a + cnt r)
def plV : Option Int → V
  | none => .non
  | some k => .int k
def kL : List Rn → Int → Option (Str × Int)
  | [], _ => none
  | r :: rs, k => if k < cnt r then some (r.1, r.2.1 + k) else kL rs (k - cnt r)
def kAt (rs : List Rn) (k : Int) : Option (Str × Int) := if k < 0 then none else kL rs k
instance (a b : Str) : Decidable (sl a b) := inferInstanceAs (Decidable (a.cps.toList < b.cps.toList))
def ahR (r : Rn) (s : Str) (n : Int) : Int := (if sl r.1 s then cnt r else 0) + (if r.1 = s then mn (mx (n - r.2.1) 0) (cnt r) else 0)
def ahL (rs : List Rn) (s : Str) (n : Int) : Int := (rs.map fun r => ahR r s n).sum
theorem ahL_cons (r : Rn) (rs : List Rn) (s : Str) (n : Int) : ahL (r :: rs) s n = ahR r s n + ahL rs s n := by
  unfold ahL
  rw [List.map_cons, List.sum_cons]
theorem ahR_lt {r : Rn} {s : Str} {n : Int} (h : sl r.1 s) : ahR r s n = cnt r := by
  unfold ahR
  rw [if_pos h, if_neg (fun z => by rw [z] at h; exact sl_irr _ h)]
  omega
theorem ahR_gt {r : Rn} {s : Str} {n : Int} (h : sl s r.1) : ahR r s n = 0 := by
  unfold ahR
  rw [if_neg (fun z => sl_as h z), if_neg (fun z => by rw [z] at h; exact sl_irr _ h)]
  rfl
theorem ahR_eq {r : Rn} {s : Str} {n : Int} (h : r.1 = s) : ahR r s n = mn (mx (n - r.2.1) 0) (cnt r) := by
  unfold ahR
  rw [if_neg (fun z => by rw [h] at z; exact sl_irr _ z), if_pos h]
  omega
theorem ahL_zero : ∀ {rs : List Rn} {s : Str} {n : Int}, Full rs → (∀ r ∈ rs, sl s r.1 ∨ (r.1 = s ∧ n ≤ r.2.1)) → ahL rs s n = 0
  | [], _, _, _, _ => rfl
  | r :: rs, s, n, f, h => by
    rw [ahL_cons, ahL_zero (fun x hx => f x (List.mem_cons_of_mem _ hx)) fun x hx => h x (List.mem_cons_of_mem _ hx)]
    have hf := f r List.mem_cons_self
    rcases h r List.mem_cons_self with z | ⟨z1, z2⟩
    · rw [ahR_gt z]
      rfl
    · rw [ahR_eq z1]
      unfold mn mx cnt
      split <;> split <;> omega
theorem ahL_all : ∀ {rs : List Rn} {s : Str} {n : Int}, Full rs → (∀ r ∈ rs, sl r.1 s ∨ (r.1 = s ∧ r.2.2 ≤ n)) → ahL rs s n = cntL rs
  | [], _, _, _, _ => rfl
  | r :: rs, s, n, f, h => by
    rw [ahL_cons, cntL_cons, ahL_all (fun x hx => f x (List.mem_cons_of_mem _ hx)) fun x hx => h x (List.mem_cons_of_mem _ hx)]
    have hf := f r List.mem_cons_self
    rcases h r List.mem_cons_self with z | ⟨z1, z2⟩
    · rw [ahR_lt z]
    · rw [ahR_eq z1]
      unfold mn mx cnt
      split <;> split <;> omega
theorem ahL_app (a b : List Rn) (s : Str) (n : Int) : ahL (a ++ b) s n = ahL a s n + ahL b s n := by
  unfold ahL
  rw [List.map_append, List.sum_append]
theorem canon_app {a b : List Rn} (h : Canon (a ++ b)) : Canon a ∧ Canon b ∧ ∀ x ∈ a, ∀ y ∈ b, apart x y = true := by
  obtain ⟨h1, h2⟩ := h
  obtain ⟨p1, p2, p3⟩ := List.pairwise_append.mp h1
  exact ⟨⟨p1, fun r hr => h2 r (List.mem_append_left _ hr)⟩, ⟨p2, fun r hr => h2 r (List.mem_append_right _ hr)⟩, p3⟩
/-- what lies ahead of a note in, or right behind, the run r -/
theorem ahL_at {a b : List Rn} {r : Rn} {n : Int} (h : Canon (a ++ r :: b)) (h1 : r.2.1 ≤ n) (h2 : n ≤ r.2.2) : ahL (a ++ r :: b) r.1 n = cntL a + (n - r.2.1) := by
  obtain ⟨ca, cb, ab⟩ := canon_app h
  have hf := cb.2 r List.mem_cons_self
  rw [ahL_app, ahL_cons, ahL_all ca.2, ahL_zero cb.tail.2, ahR_eq rfl]
  · have e : mn (mx (n - r.2.1) 0) (cnt r) = n - r.2.1 := by
      unfold mn mx cnt
      split <;> split <;> omega
    omega
  · intro y hy
    have z := (List.pairwise_cons.mp cb.1).1 y hy
    rcases (apart_iff _ _).mp z with ⟨z1, z2⟩ | z1
    · exact Or.inr ⟨z1.symm, by omega⟩
    · exact Or.inl z1
  · intro x hx
    rcases (apart_iff _ _).mp (ab x hx r List.mem_cons_self) with ⟨z1, z2⟩ | z1
    · exact Or.inr ⟨z1, by omega⟩
    · exact Or.inl z1
theorem plL_eq : ∀ (rs : List Rn) (s : Str) (n a : Int), Canon rs → plL rs s n a = if hasB rs s n = true then some (a + ahL rs s n) else none
  | [], _, _, _, _ => rfl
  | r :: rs, s, n, a, h => by
    unfold plL
    by_cases c : r.1 = s ∧ r.2.1 ≤ n ∧ n < r.2.2
    · rw [if_pos c, if_pos ((hasB_iff _ _ _).mpr ((has_cons _ _ _ _).mpr (Or.inl c)))]
      obtain ⟨rfl, c1, c2⟩ := c
      have z := ahL_at (a := []) h c1 (by omega)
      rw [List.nil_append] at z
      rw [z]
      have e : cntL [] = 0 := rfl
      rw [e]
      congr 1
      omega
    · rw [if_neg c, plL_eq rs s n _ h.tail]
      by_cases k : has rs s n
      · rw [if_pos ((hasB_iff _ _ _).mpr k), if_pos ((hasB_iff _ _ _).mpr ((has_cons _ _ _ _).mpr (Or.inr k))), ahL_cons]
        have hf := h.2 r List.mem_cons_self
        have e : ahR r s n = cnt r := by
          rcases canon_first h k with ⟨z1, z2⟩ | z
          · rw [ahR_eq z1]
            unfold mn mx cnt
            split <;> split <;> omega
          · exact ahR_lt z
        rw [e]
        congr 1
        omega
      · rw [if_neg (fun z => k ((hasB_iff _ _ _).mp z)), if_neg (fun z => by
          rcases (has_cons _ _ _ _).mp ((hasB_iff _ _ _).mp z) with z | z
          · exact c z
          · exact k z)]
theorem plL_some (rs : List Rn) (s : Str) (n : Int) (h : Canon rs) : (plL rs s n 0).isSome = hasB rs s n := by
  rw [plL_eq rs s n 0 h]
  cases hasB rs s n <;> rfl
/-- the law's own way to the k-th -/
def goL : List Rn → Int → Int → Option (Str × Int)
  | [], _, _ => none
  | r :: rs, a, k => if a ≤ k ∧ k < a + cnt r then some (r.1, r.2.1 + k - a) else goL rs (a + cnt r) k
theorem goL_le : ∀ (rs : List Rn) (a k : Int), a ≤ k → goL rs a k = kL rs (k - a)
  | [], _, _, _ => rfl
  | r :: rs, a, k, h => by
    unfold goL kL
    by_cases c : k - a < cnt r
    · rw [if_pos ⟨h, by omega⟩, if_pos c]
      congr 2
      omega
    · rw [if_neg (fun z => c (by omega)), if_neg c, goL_le rs _ _ (by omega)]
      congr 1
      omega
theorem goL_lt : ∀ (rs : List Rn) (a k : Int), Full rs → k < a → goL rs a k = none
  | [], _, _, _, _ => rfl
  | r :: rs, a, k, f, h => by
    unfold goL
    have hf := f r List.mem_cons_self
    rw [if_neg (fun z => by omega), goL_lt rs _ _ (fun x hx => f x (List.mem_cons_of_mem _ hx)) (by unfold cnt; omega)]
theorem goL_all {rs : List Rn} (k : Int) (f : Full rs) : goL rs 0 k = kAt rs k := by
  unfold kAt
  by_cases c : k < 0
  · rw [if_pos c, goL_lt rs 0 k f c]
  · rw [if_neg c, goL_le rs 0 k (by omega), Int.sub_zero]
/-- what is heard: the k-th note, or the refusal -/
def hdD (o : Option (Str × Int)) (k : Int) : PyData := match o with
  | some (s, n) => .tuple [.str "told", .tuple [.str s, .int n]]
  | none => .tuple [.str "no", .int k]
theorem hd_nice (o : Option (Str × Int)) (k : Int) : Nice 3 (hdD o k) := by
  cases o with
  | none =>
    refine Or.inr ⟨_, Or.inr rfl, (show 2 ≤ 100000 by decide), fun e he => ?_⟩
    simp only [List.mem_cons, List.not_mem_nil, or_false] at he
    rcases he with rfl | rfl <;> exact Nice.flat rfl
  | some p =>
    obtain ⟨s, n⟩ := p
    refine Or.inr ⟨_, Or.inr rfl, (show 2 ≤ 100000 by decide), fun e he => ?_⟩
    simp only [List.mem_cons, List.not_mem_nil, or_false] at he
    rcases he with rfl | rfl
    · exact Nice.flat rfl
    · refine Or.inr ⟨_, Or.inr rfl, (show 2 ≤ 100000 by decide), fun e he => ?_⟩
      simp only [List.mem_cons, List.not_mem_nil, or_false] at he
      rcases he with rfl | rfl <;> exact Nice.flat rfl
abbrev Nt := Str × Int
def ntV (e : Nt) : List V := [.str e.1, .int e.2]
abbrev Nts (H : Hp) (ps : List Addr) (es : List Nt) : Prop := Paired (fun (p : Addr) (e : Nt) => H p = some (.tup (ntV e))) ps es
theorem Nts.len {H : Hp} {ps : List Addr} {es : List Nt} (h : Nts H ps es) : ps.length = es.length := Paired.length h
theorem Nts.keep {H H' : Hp} : ∀ {ps : List Addr} {es : List Nt}, (∀ p o, (∀ xs, o ≠ HO.lst xs) → H p = some o → H' p = some o) → Nts H ps es → Nts H' ps es
  | _, _, _, .nil => .nil
  | _, _, k, .cons a b => .cons (k _ _ (fun _ z => nomatch z) a) (Nts.keep k b)
theorem Nts.same {H H' : Hp} {ps : List Addr} {es : List Nt} (s : Same H H') (h : Nts H ps es) : Nts H' ps es := Nts.keep (fun p o _ e => s p o e) h
theorem Nts.app {H : Hp} : ∀ {ps qs : List Addr} {es ts : List Nt}, Nts H ps es → Nts H qs ts → Nts H (ps ++ qs) (es ++ ts)
  | _, _, _, _, .nil, b => b
  | _, _, _, _, .cons a r, b => .cons a (Nts.app r b)
theorem Nts.get {H : Hp} : ∀ {ps : List Addr} {es : List Nt} {i : Nat} {p : Addr}, Nts H ps es → ps[i]? = some p → ∃ e, es[i]? = some e ∧ H p = some (.tup (ntV e))
  | _, _, 0, _, .cons a _, h => by
    cases h
    exact ⟨_, rfl, a⟩
  | _, _, i + 1, p, .cons _ b, h => Nts.get (i := i) (p := p) b h
theorem Nts.but {H H' : Hp} {f c : Addr} {n : Int} {ps : List Addr} {es : List Nt} (hf : Fd H f c n) (b : But f H H') (h : Nts H ps es) : Nts H' ps es := by
  obtain ⟨zs, hz⟩ := hf.at
  exact Nts.keep (fun p o no e => b p o (ne_of e hz (no _)) e) h
/-! promises -/
def spDrawW : Sp := fun vs H Q _ => ∃ (f c : Addr) (m n : Int), vs = [.ref f, .int m] ∧ Fd H f c n ∧ n ≤ 1000000 ∧ 0 < m ∧ m ≤ 1000000000000000 ∧
  ∀ (d : Int) (H' : Hp), 0 ≤ d → d < m → Fd H' f c (n + 1) → But f H H' → (∀ a, H a = none → H' a = none) → Q (.int d) H'
theorem draw_wide {vs : List V} {H : Hp} {Q : VK} {E : XK} (h : spDraw vs H Q E) : spDrawW vs H Q E := by
  obtain ⟨f, c, m, n, h1, h2, h3, h4, h5, h6⟩ := h
  exact ⟨f, c, m, n, h1, h2, h3, h4, by omega, h6⟩
def spMany (K : PySem.W.Frag) (P : Addr) : Sp := fun vs H Q _ => ∃ (a : Addr) (rs : List Rn), vs = [.ref a] ∧ TpAt K H a rs ∧ rs.length ≤ 3000 ∧ (∀ r ∈ rs, RnOk r) ∧ H P = some (TabO P) ∧
  ∀ H', Same H H' → Q (.int (cntL rs)) H'
def spPl (K : PySem.W.Frag) : Sp := fun vs H Q _ => ∃ (a t : Addr) (rs : List Rn) (s : Str) (n : Int), vs = [.ref a, .ref t] ∧ TpAt K H a rs ∧ SqT K H t [.str s, .int n] ∧ ∀ H', Same H H' → Q (plV (plL rs s n 0)) H'
def spHolds (K : PySem.W.Frag) : Sp := fun vs H Q _ => ∃ (a t : Addr) (rs : List Rn) (s : Str) (n : Int), vs = [.ref a, .ref t] ∧ TpAt K H a rs ∧ SqT K H t [.str s, .int n] ∧ ∀ H', Same H H' → Q (.bl (plL rs s n 0).isSome) H'
def spKth (K : PySem.W.Frag) (C : Addr) : Sp := fun vs H Q E => ∃ (a : Addr) (rs : List Rn) (k : Int), vs = [.ref a, .int k] ∧ TpAt K H a rs ∧
  (∀ s n t H', kAt rs k = some (s, n) → Same H H' → H' t = some (.tup [.str s, .int n]) → Q (.ref t) H') ∧
  (kAt rs k = none → ∀ d H', H d = none → Same H H' → H' d = some (.xd [("number", .int k)]) → E (.ref C) (some d) H')
def spHeardK (K : PySem.W.Frag) : Sp := fun vs H Q _ => ∃ (a : Addr) (rs : List Rn) (k : Int), vs = [.ref a, .int k] ∧ TpAt K H a rs ∧
  ∀ t H', Same H H' → Dp K H' (.ref t) (hdD (kAt rs k) k) → Q (.ref t) H'
def spAhead (K : PySem.W.Frag) : Sp := fun vs H Q _ => ∃ (a t : Addr) (rs : List Rn) (s : Str) (n : Int), vs = [.ref a, .ref t] ∧ TpAt K H a rs ∧ SqT K H t [.str s, .int n] ∧ ∀ H', Same H H' → Q (.int (ahL rs s n)) H'
def spDueK (K : PySem.W.Frag) : Sp := fun vs H Q _ => ∃ (a : Addr) (rs : List Rn) (k : Int), vs = [.ref a, .int k] ∧ TpAt K H a rs ∧ Canon rs ∧
  ∀ t H', Same H H' → Dp K H' (.ref t) (hdD (kAt rs k) k) → Q (.ref t) H'
def spNotes (K : PySem.W.Frag) : Sp := fun vs H Q _ => ∃ (f c a l : Addr) (n : Int) (rs : List Rn) (xs : List Str), vs = [.ref f, .ref a, .ref l] ∧ Fd H f c n ∧ n ≤ 700000 ∧ TpAt K H a rs ∧ rs.length ≤ 60 ∧ H l = some (.lst (xs.map V.str)) ∧ l ≠ f ∧ xs.length = 4 ∧
  ∀ (t : Addr) (ps : List Addr) (es : List Nt) (H' : Hp), Fd H' f c (n + 100) → But f H H' → t ≠ f → t ≠ c → H' t = some (.lst (ps.map V.ref)) → Nts H' ps es → Q (.ref t) H'
def spPlaces (K : PySem.W.Frag) : Sp := fun vs H Q _ => ∃ (f c a : Addr) (n : Int) (rs : List Rn), vs = [.ref f, .ref a] ∧ Fd H f c n ∧ n ≤ 700000 ∧ TpAt K H a rs ∧ rs.length ≤ 60 ∧ (∀ r ∈ rs, RnOk r) ∧
  ∀ (t : Addr) (ks : List Int) (H' : Hp), Fd H' f c (n + 100) → But f H H' → t ≠ f → t ≠ c → H' t = some (.lst (ks.map V.int)) → ks.length ≤ 1000 → Q (.ref t) H'
def spRightK (K : PySem.W.Frag) (P : Addr) : Sp := fun vs H Q _ => ∃ (f c a l : Addr) (n : Int) (rs : List Rn) (xs : List Str), vs = [.ref f, .ref a, .ref l] ∧ Fd H f c n ∧ n ≤ 600000 ∧ Rg K H a rs 60 ∧ H l = some (.lst (xs.map V.str)) ∧ l ≠ f ∧ xs.length = 4 ∧ H P = some (TabO P) ∧
  ∀ H', Fd H' f c (n + 300) → But f H H' → Q (.bl true) H'
/-- a sum over all places of a list -/
theorem range_sum {α : Type} (f : α → Int) (xs : List α) : ((((List.range xs.length).filter fun _ => true).map fun i => (xs[i]?).elim 0 f)).sum = (xs.map f).sum := by
  have e : ((List.range xs.length).filter fun _ => true) = List.range xs.length := List.filter_eq_self.mpr fun _ _ => rfl
  rw [e]
  congr 1
  apply List.ext_getElem?
  intro i
  rw [List.getElem?_map, List.getElem?_map]
  by_cases h : i < xs.length
  · rw [List.getElem?_range h, List.getElem?_eq_getElem h]
    simp [h]
  · rw [List.getElem?_eq_none (by simpa using h), List.getElem?_eq_none (by omega)]
    rfl
theorem plL_cons (r : Rn) (rs : List Rn) (s : Str) (n a : Int) : plL (r :: rs) s n a = if r.1 = s ∧ r.2.1 ≤ n ∧ n < r.2.2 then some (a + n - r.2.1) else plL rs s n (a + cnt r) := by rw [plL]
theorem kL_cons (r : Rn) (rs : List Rn) (k : Int) : kL (r :: rs) k = if k < cnt r then some (r.1, r.2.1 + k) else kL rs (k - cnt r) := by rw [kL]
theorem goL_cons (r : Rn) (rs : List Rn) (a k : Int) : goL (r :: rs) a k = if a ≤ k ∧ k < a + cnt r then some (r.1, r.2.1 + k - a) else goL rs (a + cnt r) k := by rw [goL]
theorem split_at {α : Type} {l : List α} {i : Nat} {x : α} (h : l[i]? = some x) : l = l.take i ++ x :: l.drop (i + 1) := by
  rw [← drop_at h, List.take_append_drop]
theorem cntL_take {rs : List Rn} {i : Nat} {r : Rn} (h : rs[i]? = some r) : cntL (rs.take (i + 1)) = cntL (rs.take i) + cnt r := by
  obtain ⟨hi, e⟩ := List.getElem?_eq_some_iff.mp h
  rw [List.take_succ_eq_append_getElem hi, cntL_app, e]
  unfold cntL
  simp
theorem SqT.bt {K : PySem.W.Frag} {H H' : Hp} {f c a : Addr} {n : Int} {xs : List V} (hf : Fd H f c n) (b : But f H H') (h : SqT K H a xs) : SqT K H' a xs := by
  obtain ⟨zs, hz⟩ := hf.at
  rcases h with (h | ⟨o, h⟩) | h
  · exact .inl (.inl (b a _ (ne_of h hz (fun z => nomatch z)) h))
  · exact .inl (.inr ⟨o, b a _ (ne_of h hz (fun z => nomatch z)) h⟩)
  · exact .inr h
theorem TpAt.but {K : PySem.W.Frag} {H H' : Hp} {f c a : Addr} {n : Int} {rs : List Rn} (hf : Fd H f c n) (b : But f H H') (h : TpAt K H a rs) : TpAt K H' a rs := by
  obtain ⟨qs, h1, h2⟩ := h
  exact ⟨qs, SqT.bt hf b h1, h2.but hf b⟩
theorem tab_but {H H' : Hp} {f c P : Addr} {n : Int} (hf : Fd H f c n) (b : But f H H') (h : H P = some (TabO P)) : H' P = some (TabO P) := by
  obtain ⟨zs, hz⟩ := hf.at
  exact b P _ (ne_of h hz (fun z => by unfold TabO at z; exact nomatch z)) h
theorem SqT.put {K : PySem.W.Frag} {H : Hp} {l a : Addr} {xs ys : List V} {o : HO} (hl : H l = some (.lst ys)) (h : SqT K H a xs) : SqT K (upd H l o) a xs := by
  rcases h with (h | ⟨u, h⟩) | h
  · exact .inl (.inl ((upd_ne (ne_of h hl (fun z => nomatch z))).trans h))
  · exact .inl (.inr ⟨u, (upd_ne (ne_of h hl (fun z => nomatch z))).trans h⟩)
  · exact .inr h
theorem TpAt.put {K : PySem.W.Frag} {H : Hp} {l t : Addr} {ys : List V} {o : HO} {rs : List Rn} (hl : H l = some (.lst ys)) (h : TpAt K H t rs) : TpAt K (upd H l o) t rs := by
  obtain ⟨qs, h1, h2⟩ := h
  exact ⟨qs, SqT.put hl h1, Prd.put hl h2⟩
theorem Rg.put {K : PySem.W.Frag} {H : Hp} {l t : Addr} {ys : List V} {o : HO} {rs : List Rn} {n : Nat} (hl : H l = some (.lst ys)) (h : Rg K H t rs n) : Rg K (upd H l o) t rs n := ⟨h.tp.put hl, h.ca, h.len, h.ok⟩
theorem Rg.but {K : PySem.W.Frag} {H H' : Hp} {f c t : Addr} {k : Int} {rs : List Rn} {n : Nat} (hf : Fd H f c k) (b : But f H H') (h : Rg K H t rs n) : Rg K H' t rs n := ⟨TpAt.but hf b h.tp, h.ca, h.len, h.ok⟩
/-- a list of RUNS can be shown -/
def rgD (ls : List (List Rn)) : PyData := .list (ls.map rnsD)
theorem rg_fine : ∀ (ls : List (List Rn)), (∀ x ∈ ls, x.length ≤ 200 ∧ ∀ r ∈ x, RnOk r ∧ NmOk r.1) → fineAll (ls.map rnsD) = true ∧ costAll (ls.map rnsD) ≤ 1000500 * ls.length ∧ PyData.depthAll (ls.map rnsD) ≤ 3
  | [], _ => ⟨rfl, Nat.le_refl _, by simp [PyData.depthAll]⟩
  | x :: ls, h => by
    obtain ⟨z1, z2, z3⟩ := rg_fine ls fun y hy => h y (List.mem_cons_of_mem _ hy)
    obtain ⟨l1, l2⟩ := h x List.mem_cons_self
    obtain ⟨y1, y2⟩ := rns_fine x l2
    have y3 := rns_depth x
    refine ⟨?_, ?_, ?_⟩
    · rw [List.map_cons]
      unfold fineAll
      rw [z1]
      show (fineAll (x.map rnD) && true) = true
      rw [y1]
      rfl
    · rw [List.map_cons, List.length_cons]
      unfold costAll
      have e : cost (rnsD x) = costAll (x.map rnD) + 3 := rfl
      rw [e]
      omega
    · rw [List.map_cons]
      simp only [PyData.depthAll, rnsD, PyData.depth] at *
      omega
theorem rg_show {ls : List (List Rn)} (h : ∀ x ∈ ls, x.length ≤ 200 ∧ ∀ r ∈ x, RnOk r ∧ NmOk r.1) (hl : ls.length ≤ 8) : (rgD ls).showable = true ∧ (rgD ls).hasDict = false ∧ (rgD ls).depth ≤ 60 ∧ (rgD ls).shown.length ≤ sizeLine := by
  obtain ⟨z1, z2, z3⟩ := rg_fine ls h
  have f : fineD (rgD ls) = true := z1
  have c := shown_cost _ f
  have e : cost (rgD ls) = costAll (ls.map rnsD) + 3 := rfl
  obtain ⟨s1, s2⟩ := fine_show _ f
  refine ⟨s1, s2, ?_, Nat.le_trans c (Nat.le_trans (show _ ≤ 11000000 by omega) (by decide))⟩
  simp only [rgD, PyData.depth]
  omega
/-! ### sorted of a dict whose keys are ints, however many -/
def rSortDI : List V → Hp → VK → Prop := fun xs H Q => ∃ (a : Addr) (kvs : List (Key × V)) (ks : List Int), xs = [.ref a] ∧ Rd H a (.dK kvs) ∧ kvs.map (·.1) = ks.map Sum.inl ∧ ks.length ≤ 100000 ∧
  ∀ (ys : List Int) (p : Addr), ys.Perm ks → ys.Pairwise (· ≤ ·) → H p = none → Q (.ref p) (upd H p (.lst (ys.map V.int)))
theorem cr_sortDI {X : Cx} (calm : X.calm = true) : CallR X (.builtin "sorted") rSortDI := by
  intro pins s σ H xs us Q I r h
  obtain ⟨a, kvs, ks, rfl, hd, keys, long, q⟩ := h
  rw [Vals.ref1 r]
  obtain ⟨z, lo, vs, rel, dd⟩ := dk_rd I.hok hd
  obtain ⟨ep, at1⟩ := dd.dictAt
  have vkeys : vs.map (·.1) = ks.map Sum.inl := rel.keys.symm.trans keys
  have len1 : vs.length = ks.length := by simpa using congrArg List.length vkeys
  have line : ks.length ≤ sizeLine := Nat.le_trans long (by decide)
  refine (Calls.call_function_entry PyProof.Rows.kind_sorted PyProof.Rows.plain_sorted PyProof.Rows.entry_sorted (PyProof.Rows.args_sorted1 _) ?_); unfold Builtin.«sorted»
  refine (wpAny_bind (m := checkCount "sorted" 1 1 _) (wpAny_pure ?_))
  refine wpAny_bind (PySem.W.kdu_collect (A := X.A.in1) (PySem.W.kdl_dict (knd := mixKind X.prog X.w) (kvs := vs) (ep := ep) lo) (I.ok.hd calm) at1 (by rw [len1]; exact line) fun h1 tk acc keep got => ?_)
  have len2 : acc.toList.length = ks.length := by rw [Array.length_toList, got.1, len1]
  have ints1 : IntsAre acc.toList ks := ints_each len2 fun j v e => by
    obtain ⟨k, x, e1, e2⟩ := got.2 j v (by rw [← Array.getElem?_toList]; exact e)
    have e3 : (vs.map (·.1))[j]? = some k := by rw [List.getElem?_map, e1]; rfl
    rw [vkeys, List.getElem?_map] at e3
    obtain ⟨y, e4, e5⟩ : ∃ y, ks[j]? = some y ∧ Sum.inl y = k := by
      cases e4 : ks[j]? with
      | none => rw [e4] at e3; cases e3
      | some y => rw [e4] at e3; exact ⟨y, rfl, Option.some.inj e3⟩
    subst e5
    rcases keyIs_shape (show keyIs (Sum.inl y) v = true from e2) with ⟨i, t, ek, ev⟩ | ⟨z, t, ek, ev⟩
    · cases ek
      exact ⟨y, t, e4, ev⟩
    · cases ek
  have J : Inv X pins σ H { s with heap := h1, toks := tk } := I.kept keep
  refine wpAny_bind (wpAny_newList ?_ (by rw [len2]; exact line))
  have new : (h1.push (seqObj "list" acc.toList.toArray 0)).get? h1.objs.size = some (seqObj "list" acc.toList.toArray 0) := Heap.get?_push_size _ rfl
  show wpAny _ _ _ _ _ { s with toks := tk, heap := h1.push (seqObj "list" acc.toList.toArray 0) }
  refine wpAny_bind (wpAny_holding (wpAny_call_entry PyProof.Rows.slot_list_sort ⟨_, new, rfl⟩ PyProof.Rows.entry_list_sort (SrtO.list_sort_ord SrtO.swo_int new (by rw [len2]; exact line) (fun h2 => SrtO.ints_sortable ints1 h2) fun out o1 o2 => ⟨_, rfl, ?_⟩) (PyProof.Rows.args_list_sort _)))
  obtain ⟨g1, g2, g3⟩ := SrtO.ints_out ints1 o1 o2
  obtain ⟨en, at2⟩ := PyProof.Rows.sortedHeap_at (vs := acc.toList) (out := out.toArray) new
  have len3 : ((out.map SrtO.iv).map V.int).length ≤ sizeLine := by rw [List.length_map, g2.length_eq]; exact line
  refine wpAny_pure ⟨_, rfl, .ref h1.objs.size, upd H _ (.lst ((out.map SrtO.iv).map V.int)), J.laid (t' := tk) (fun b u e => ?_) (Nat.le_refl _) ⟨len3, out, en, vals_of_ints g1, at2⟩, rfl, q _ _ g2 g3 (J.hok.fresh (Nat.le_refl _))⟩
  have lt : b < h1.objs.size := Heap.lt_size e
  rw [PyProof.Rows.sortedHeap_old (Nat.ne_of_lt lt) (by rw [size_push']; exact Nat.lt_succ_of_lt lt)]
  exact (Heap.get?_push_of_some _ e)
/-! ### Numbers told twice; dicts of numbers; seats -/
/-- neighbours alike told once -/
def dd : List Int → List Int
  | [] => []
  | [x] => [x]
  | x :: y :: r => if x = y then dd (y :: r) else x :: dd (y :: r)
theorem dd_mem : ∀ (l : List Int) (n : Int), n ∈ dd l ↔ n ∈ l
  | [], _ => Iff.rfl
  | [x], _ => Iff.rfl
  | x :: y :: r, n => by
    have ih := dd_mem (y :: r) n
    unfold dd
    split
    · rename_i e
      subst e
      rw [ih]
      simp
    · rw [List.mem_cons, ih, ← List.mem_cons]
theorem dd_up : ∀ (l : List Int), l.Pairwise (· ≤ ·) → (dd l).Pairwise (· < ·)
  | [], _ => .nil
  | [x], _ => List.pairwise_singleton _ _
  | x :: y :: r, h => by
    have hc := List.pairwise_cons.mp h
    have ih := dd_up (y :: r) hc.2
    unfold dd
    split
    · exact ih
    · rename_i ne
      refine List.pairwise_cons.mpr ⟨fun z hz => ?_, ih⟩
      have hz := (dd_mem _ z).mp hz
      have h1 := hc.1 y List.mem_cons_self
      rcases List.mem_cons.mp hz with rfl | hz
      · omega
      · have := (List.pairwise_cons.mp hc.2).1 z hz
        omega
theorem push_again (s : Str) (acc : List Rn) (n : Int) : push (step s acc n) (single s n) = step s acc n := by
  obtain ⟨i, l, e, h1, h2⟩ := step_last s acc n
  rw [e, push_snoc]
  have a : apart l (single s n) = false := (if_pos h1).trans (decide_eq_false (show ¬ l.2.2 < n by omega))
  rw [a, if_neg Bool.false_ne_true]
  have m : (if (single s n).2.2 > l.2.2 then (single s n).2.2 else l.2.2) = l.2.2 := if_neg (show ¬ n + 1 > l.2.2 by omega)
  rw [m]
theorem fold_dd (s : Str) : ∀ (l : List Int) (acc : List Rn), l.Pairwise (· ≤ ·) → (∀ r, acc.getLast? = some r → r.1 = s ∧ ∀ n ∈ l, r.2.2 ≤ n) → (l.map (single s)).foldl push acc = ((dd l).map (single s)).foldl push acc
  | [], _, _, _ => rfl
  | [x], _, _, _ => rfl
  | x :: y :: r, acc, h, ha => by
    have hc := List.pairwise_cons.mp h
    unfold dd
    split
    · rename_i e
      subst e
      rw [List.map_cons, List.map_cons, List.foldl_cons, List.foldl_cons, push_step (fun l hl => ⟨(ha l hl).1, (ha l hl).2 x List.mem_cons_self⟩), push_again]
      have ih := fold_dd s (x :: r) acc hc.2 fun l hl => ⟨(ha l hl).1, fun n hn => (ha l hl).2 n (List.mem_cons_of_mem _ hn)⟩
      rw [List.map_cons, List.foldl_cons, push_step (fun l hl => ⟨(ha l hl).1, (ha l hl).2 x List.mem_cons_self⟩)] at ih
      exact ih
    · rename_i ne
      show ((y :: r).map (single s)).foldl push (push acc (single s x)) = ((dd (y :: r)).map (single s)).foldl push (push acc (single s x))
      rw [push_step (fun l hl => ⟨(ha l hl).1, (ha l hl).2 x List.mem_cons_self⟩)]
      refine fold_dd s (y :: r) _ hc.2 fun l hl => ?_
      obtain ⟨i, l', e, h1, h2⟩ := step_last s acc x
      rw [e, List.getLast?_concat] at hl
      cases hl
      refine ⟨h1, fun n hn => ?_⟩
      have h3 := hc.1 y List.mem_cons_self
      rcases List.mem_cons.mp hn with rfl | hn
      · omega
      · have := (List.pairwise_cons.mp hc.2).1 n hn
        omega
def leI (a b : Int) : Bool := decide (a ≤ b)
theorem sortI_up (ns : List Int) : (ns.mergeSort leI).Pairwise (· ≤ ·) := by
  have z := List.pairwise_mergeSort (le := leI) (fun a b c h1 h2 => by unfold leI at *; rw [decide_eq_true_eq] at *; omega) (fun a b => by unfold leI; rw [Bool.or_eq_true, decide_eq_true_eq, decide_eq_true_eq]; omega) ns
  exact z.imp fun h => of_decide_eq_true h
theorem up_same {a b : List Int} (ha : a.Pairwise (· < ·)) (hb : b.Pairwise (· < ·)) (h : ∀ n, n ∈ a ↔ n ∈ b) : a = b := by
  have na : a.Nodup := ha.imp fun h => by omega
  have nb : b.Nodup := hb.imp fun h => by omega
  have hp : a.Perm b := (List.perm_ext_iff_of_nodup na nb).mpr h
  exact List.Perm.eq_of_pairwise (le := fun x y => x ≤ y) (fun x y _ _ => Int.le_antisymm) (ha.imp fun h => by omega) (hb.imp fun h => by omega) hp
/-- the numbers joined, whatever their order and however often each is told -/
theorem runsOf_mem {s : Str} {ns ys : List Int} (up : ys.Pairwise (· < ·)) (h : ∀ n, n ∈ ys ↔ n ∈ ns) : ys.foldl (step s) [] = runsOf (ns.map (single s)) := by
  unfold runsOf merge
  have e1 : (ns.map (single s)).mergeSort rnLe = (ns.mergeSort leI).map (single s) := (PySem.W.sort_maps (single s) (fun a _ b _ => (single_le s a b).symm)).symm
  have e2 : ys = dd (ns.mergeSort leI) := up_same up (dd_up _ (sortI_up ns)) fun n => by rw [h, dd_mem, List.mem_mergeSort]
  rw [e1, fold_dd s _ [] (sortI_up ns) (fun l hl => nomatch hl), ← e2]
  exact (fold_step s ys [] up fun l hl => nomatch hl).symm
theorem runsOf_like {s : Str} {ns ms : List Int} (h : ∀ n, n ∈ ns ↔ n ∈ ms) : runsOf (ns.map (single s)) = runsOf (ms.map (single s)) := by
  exact (runsOf_mem (ns := ns) (dd_up _ (sortI_up ms)) (fun n => by rw [dd_mem, List.mem_mergeSort, h])).symm.trans (runsOf_mem (dd_up _ (sortI_up ms)) (fun n => by rw [dd_mem, List.mem_mergeSort]))
/-- a dict whose keys are just these numbers -/
def DN (H : Hp) (d : Addr) (ns : List Int) : Prop := ∃ (kvs : List (Key × V)) (ks : List Int), H d = some (.dK kvs) ∧ kvs.map (·.1) = ks.map Sum.inl ∧ ks.Nodup ∧ (∀ n, n ∈ ks ↔ n ∈ ns) ∧ ks.length ≤ ns.length
theorem DN.same {H H' : Hp} {d : Addr} {ns : List Int} (h : DN H d ns) (s : Same H H') : DN H' d ns := by
  obtain ⟨kvs, ks, h1, r⟩ := h
  exact ⟨kvs, ks, s _ _ h1, r⟩
theorem put_keys {kvs : List (Key × V)} {ks : List Int} {n : Int} {v : V} (e : kvs.map (·.1) = ks.map Sum.inl) : ∃ ks' : List Int, (putK kvs (Sum.inl n) v).map (·.1) = ks'.map Sum.inl ∧ (ks.Nodup → ks'.Nodup) ∧ (∀ m, m ∈ ks' ↔ m ∈ ks ∨ m = n) ∧ ks'.length ≤ ks.length + 1 := by
  unfold putK
  by_cases c : (kvs.any fun kv => decide (kv.1 = Sum.inl n)) = true
  · rw [if_pos c]
    refine ⟨ks, ?_, _root_.id, fun m => ⟨Or.inl, ?_⟩, Nat.le_succ _⟩
    · rw [← e, List.map_map]
      refine List.map_congr_left fun kv _ => ?_
      show (if kv.1 = Sum.inl n then (kv.1, v) else kv).1 = kv.1
      split <;> rfl
    · rintro (h | rfl)
      · exact h
      · obtain ⟨kv, h1, h2⟩ := List.any_eq_true.mp c
        have h3 : kv.1 ∈ kvs.map (·.1) := List.mem_map.mpr ⟨kv, h1, rfl⟩
        rw [e, of_decide_eq_true h2] at h3
        obtain ⟨k, h4, h5⟩ := List.mem_map.mp h3
        cases h5
        exact h4
  · rw [if_neg c]
    refine ⟨ks ++ [n], by rw [List.map_append, List.map_append, e]; rfl, fun nd => ?_, fun m => by simp, by simp⟩
    refine List.nodup_append.mpr ⟨nd, List.pairwise_singleton _ _, fun a ha b hb => ?_⟩
    rw [List.mem_singleton] at hb
    subst hb
    rintro rfl
    apply c
    have h3 : (Sum.inl a : Key) ∈ kvs.map (·.1) := by rw [e]; exact List.mem_map.mpr ⟨a, ha, rfl⟩
    obtain ⟨kv, h4, h5⟩ := List.mem_map.mp h3
    exact List.any_eq_true.mpr ⟨kv, h4, decide_eq_true h5⟩
theorem DN.put {H : Hp} {d : Addr} {ns : List Int} {n : Int} {v : V} (h : DN H d ns) (hl : ns.length < 100000) : ∃ H', DPut H d (.int n) v H' ∧ DN H' d (ns ++ [n]) ∧ ∃ o, H' = upd H d o := by
  obtain ⟨kvs, ks, h1, h2, h3, h4, h5⟩ := h
  obtain ⟨ks', g1, g2, g3, g4⟩ := put_keys (n := n) (v := v) h2
  have len : kvs.length = ks.length := by simpa using congrArg List.length h2
  refine ⟨_, DPut.k (k := Sum.inl n) h1 (Nat.lt_trans (show _ < 100000 by omega) (by decide)), ⟨_, ks', upd_same, g1, g2 h3, fun m => ?_, ?_⟩, _, rfl⟩
  · rw [g3, h4, List.mem_append, List.mem_singleton]
  · rw [List.length_append, List.length_singleton]
    omega
abbrev Se := Int × Int × Int
def seV (e : Se) : List V := [.int e.1, .int e.2.1, .int e.2.2]
/-- the seats es stand at the places ps -/
abbrev Ses (H : Hp) (ps : List Addr) (es : List Se) : Prop := Paired (fun (p : Addr) (e : Se) => H p = some (.tup (seV e))) ps es
theorem Ses.len {H : Hp} {ps : List Addr} {es : List Se} (h : Ses H ps es) : ps.length = es.length := Paired.length h
theorem Ses.keep {H H' : Hp} : ∀ {ps : List Addr} {es : List Se}, (∀ p o, (∀ z, o ≠ HO.lst z) → H p = some o → H' p = some o) → Ses H ps es → Ses H' ps es
  | _, _, _, .nil => .nil
  | _, _, k, .cons a b => .cons (k _ _ (fun z => nofun) a) (Ses.keep k b)
theorem Ses.same {H H' : Hp} {ps : List Addr} {es : List Se} (s : Same H H') (h : Ses H ps es) : Ses H' ps es := Ses.keep (fun p o _ e => s p o e) h
theorem Ses.get {H : Hp} : ∀ {ps : List Addr} {es : List Se} {i : Nat} {p : Addr}, Ses H ps es → ps[i]? = some p → ∃ e, es[i]? = some e ∧ H p = some (.tup (seV e))
  | _, _, 0, _, .cons a _, h => by
    cases h
    exact ⟨_, rfl, a⟩
  | _, _, i + 1, p, .cons _ b, h => Ses.get (i := i) (p := p) b h
theorem Ses.app {H : Hp} : ∀ {ps qs : List Addr} {es ts : List Se}, Ses H ps es → Ses H qs ts → Ses H (ps ++ qs) (es ++ ts)
  | _, _, _, _, .nil, b => b
  | _, _, _, _, .cons a r, b => .cons a (Ses.app r b)
theorem Ses.rev {H : Hp} : ∀ {ps : List Addr} {es : List Se}, Ses H ps es → Ses H ps.reverse es.reverse
  | _, _, .nil => .nil
  | _, _, .cons a b => by
    rw [List.reverse_cons, List.reverse_cons]
    exact Ses.app (Ses.rev b) (.cons a .nil)
theorem Ses.snoc {H : Hp} : ∀ {ps : List Addr} {rs : List Se} {p : Addr}, Ses H (ps ++ [p]) rs → ∃ ts r, rs = ts ++ [r] ∧ Ses H ps ts ∧ H p = some (.tup (seV r))
  | [], _, p, h => by
    cases h with
    | cons a b =>
      cases b
      exact ⟨[], _, rfl, .nil, a⟩
  | x :: ps, _, p, h => by
    cases h with
    | cons a b =>
      obtain ⟨ts, r, rfl, h1, h2⟩ := Ses.snoc b
      exact ⟨_ :: ts, r, rfl, .cons a h1, h2⟩
def Prt.at_ (p : Prt) (e : Se) : Int := p.num e.1 e.2.1 e.2.2
def allNums (p : Prt) (shs : List Int) (es : List Se) : List Int := es.map p.at_ ++ shs.flatMap (numsOn p)
theorem allNums_mem (p : Prt) (shs : List Int) (es : List Se) (n : Int) : n ∈ allNums p shs es ↔ n ∈ shs.flatMap (numsOn p) ++ es.map p.at_ := by
  unfold allNums
  rw [List.mem_append, List.mem_append, Or.comm]
theorem flat_len {p : Prt} (ok : PrOk p) : ∀ shs : List Int, (shs.flatMap (numsOn p)).length ≤ 144 * shs.length
  | [] => Nat.le_refl _
  | s :: shs => by
    have z := flat_len ok shs
    have y := numsOn_len ok s
    rw [List.flatMap_cons, List.length_append, List.length_cons]
    omega
def spSpoilt (K : PySem.W.Frag) : Sp := fun vs H Q _ => ∃ (a ls le : Addr) (p : Prt) (shs : List Int) (ps : List Addr) (es : List Se), vs = [.ref a, .ref ls, .ref le] ∧ PrAt H a p ∧ PrOk p ∧
  SqL K H ls (shs.map V.int) ∧ SqL K H le (ps.map V.ref) ∧ Ses H ps es ∧ shs.length ≤ 20 ∧ es.length ≤ 1000 ∧
  ∀ (t : Addr) (qs : List Addr) (H' : Hp), Same H H' → H t = none → H' t = some (.tup (qs.map V.ref)) → Prd H' qs (runsOf ((allNums p shs es).map (single p.series))) → Q (.ref t) H'
/-- seats within bounds -/
def SeOk (e : Se) : Prop := (0 ≤ e.1 ∧ e.1 ≤ 1000000) ∧ (0 ≤ e.2.1 ∧ e.2.1 ≤ 1000000) ∧ (0 ≤ e.2.2 ∧ e.2.2 ≤ 1000000)
def spSeats : Sp := fun vs H Q _ => ∃ (f c a ls : Addr) (n : Int) (p : Prt) (shs : List Int), vs = [.ref f, .ref a, .ref ls] ∧ Fd H f c n ∧ n ≤ 600000 ∧ PrAt H a p ∧ PrOk p ∧
  H ls = some (.lst (shs.map V.int)) ∧ ls ≠ f ∧ (∀ s ∈ shs, 0 ≤ s ∧ s ≤ 1000000) ∧ shs.length ≤ 20 ∧
  ∀ (l : Addr) (ps : List Addr) (es : List Se) (H' : Hp), Fd H' f c (n + 500) → But f H H' → l ≠ f → l ≠ c → H l = none → H' l = some (.lst (ps.map V.ref)) → Ses H' ps es → es.length ≤ 100 → (∀ e ∈ es, SeOk e) → Q (.ref l) H'
theorem Ses.but {H H' : Hp} {f c : Addr} {n : Int} {ps : List Addr} {es : List Se} (hf : Fd H f c n) (b : But f H H') (h : Ses H ps es) : Ses H' ps es := by
  obtain ⟨zs, hz⟩ := hf.at
  exact Ses.keep (fun p o no e => b p o (ne_of e hz (no zs)) e) h
theorem pick_int {shs : List Int} {d : Int} (d0 : 0 ≤ d) (d1 : d < (((shs.map V.int).length : Nat) : Int)) : ∃ s ∈ shs, atI (shs.map V.int) d = some (.int s) := by
  rw [List.length_map] at d1
  obtain ⟨k, rfl⟩ : ∃ k : Nat, d = (k : Int) := ⟨d.toNat, by omega⟩
  have hk : k < shs.length := by omega
  exact ⟨shs[k], List.getElem_mem hk, atI_nat (by rw [List.getElem?_map, List.getElem?_eq_getElem hk]; rfl)⟩
def seD (e : Se) : PyData := .tuple [.int e.1, .int e.2.1, .int e.2.2]
theorem ints_all {K : PySem.W.Frag} {H : Hp} : ∀ ns : List Int, DpAll K H (ns.map V.int) (ns.map .int)
  | [] => .nil
  | n :: ns => .cons (.int n) (ints_all ns)
theorem Ses.dp {K : PySem.W.Frag} {H : Hp} : ∀ {ps : List Addr} {es : List Se}, Ses H ps es → DpAll K H (ps.map V.ref) (es.map seD)
  | _, _, .nil => .nil
  | _, _, .cons a b => .cons (.tup (SqT.of a) (.cons (.int _) (.cons (.int _) (.cons (.int _) .nil)))) (Ses.dp b)
theorem ints_fine : ∀ ns : List Int, (∀ s ∈ ns, 0 ≤ s ∧ s ≤ 1000000) → fineAll (ns.map .int) = true ∧ costAll (ns.map .int) ≤ 2002 * ns.length
  | [], _ => ⟨rfl, Nat.le_refl _⟩
  | n :: ns, h => by
    obtain ⟨z1, z2⟩ := ints_fine ns fun s hs => h s (List.mem_cons_of_mem _ hs)
    have hn := h n List.mem_cons_self
    refine ⟨?_, ?_⟩
    · rw [List.map_cons]
      unfold fineAll
      rw [int_fine (by omega) (by omega), z1]
      rfl
    · rw [List.map_cons, List.length_cons]
      unfold costAll
      have e : cost (.int n) = 2000 := rfl
      omega
theorem seats_fine : ∀ es : List Se, (∀ e ∈ es, SeOk e) → fineAll (es.map seD) = true ∧ costAll (es.map seD) ≤ 7000 * es.length
  | [], _ => ⟨rfl, Nat.le_refl _⟩
  | e :: es, h => by
    obtain ⟨z1, z2⟩ := seats_fine es fun s hs => h s (List.mem_cons_of_mem _ hs)
    obtain ⟨⟨a1, a2⟩, ⟨a3, a4⟩, ⟨a5, a6⟩⟩ := h e List.mem_cons_self
    refine ⟨?_, ?_⟩
    · rw [List.map_cons]
      unfold fineAll
      rw [z1]
      show (((fineD (.int e.1)) && (fineD (.int e.2.1) && (fineD (.int e.2.2) && true))) && true) = true
      rw [int_fine (by omega) (by omega), int_fine (by omega) (by omega), int_fine (by omega) (by omega)]
      rfl
    · rw [List.map_cons, List.length_cons]
      unfold costAll
      have e1 : cost (seD e) = 6009 := rfl
      omega
def trD (p : Prt) (shs : List Int) (es : List Se) : PyData := .tuple [prD p, .list (shs.map .int), .list (es.map seD)]
theorem tr_fine {p : Prt} (ok : PrOk p) {shs : List Int} {es : List Se} (h1 : ∀ s ∈ shs, 0 ≤ s ∧ s ≤ 1000000) (h2 : ∀ e ∈ es, SeOk e) (l1 : shs.length ≤ 20) (l2 : es.length ≤ 100) :
    (trD p shs es).showable = true ∧ (trD p shs es).hasDict = false ∧ (trD p shs es).shown.length ≤ sizeLine := by
  obtain ⟨a1, a2⟩ := ints_fine shs h1
  obtain ⟨b1, b2⟩ := seats_fine es h2
  have f : fineD (trD p shs es) = true := by
    show (fineD (prD p) && (fineAll (shs.map .int) && (fineAll (es.map seD) && true))) = true
    rw [ok.fine, a1, b1]
    rfl
  have c := shown_cost _ f
  have e : cost (trD p shs es) = (cost (prD p) + 2 + ((costAll (shs.map .int) + 3) + 2 + ((costAll (es.map seD) + 3) + 2 + 0))) + 3 := rfl
  have k := ok.cost
  obtain ⟨s1, s2⟩ := fine_show _ f
  exact ⟨s1, s2, Nat.le_trans c (Nat.le_trans (show _ ≤ 1000000 by omega) (by decide))⟩
theorem tr_depth (p : Prt) (shs : List Int) (es : List Se) : (trD p shs es).depth ≤ 60 := by
  have d1 : PyData.depthAll (shs.map .int) ≤ 1 := by
    induction shs with
    | nil => simp [PyData.depthAll]
    | cons s l ih => rw [List.map_cons]; simp only [PyData.depthAll, PyData.depth] at *; omega
  have d2 : PyData.depthAll (es.map seD) ≤ 3 := by
    induction es with
    | nil => simp [PyData.depthAll]
    | cons s l ih => rw [List.map_cons]; simp only [PyData.depthAll, seD, PyData.depth] at *; omega
  simp only [trD, prD, PyData.depth, PyData.depthAll]
  omega
theorem tr_dp {K : PySem.W.Frag} {H : Hp} {t a ls l : Addr} {p : Prt} {shs : List Int} {ps : List Addr} {es : List Se} (ht : H t = some (.tup [.ref a, .ref ls, .ref l])) (hp : PrAt H a p) (h1 : H ls = some (.lst (shs.map V.int))) (h2 : H l = some (.lst (ps.map V.ref))) (h3 : Ses H ps es) :
    Dp K H (.ref t) (trD p shs es) := .tup (SqT.of ht) (.cons hp.dp (.cons (.lst (SqL.of h1) (ints_all shs)) (.cons (.lst (SqL.of h2) h3.dp) .nil)))
theorem all_len {p : Prt} (ok : PrOk p) {shs : List Int} {es : List Se} (l1 : shs.length ≤ 20) (l2 : es.length ≤ 1000) (s : Str) : (runsOf ((allNums p shs es).map (single s))).length ≤ 100000 := by
  have z := runsOf_len ((allNums p shs es).map (single s))
  have y := flat_len ok shs
  unfold allNums at *
  rw [List.length_map, List.length_append, List.length_map] at z
  omega
theorem pair_nice {a b : PyData} (ha : Nice 2 a) (hb : Nice 2 b) : Nice 3 (.list [a, b]) := by
  refine Or.inr ⟨_, Or.inl rfl, (show 2 ≤ 100000 by decide), fun e he => ?_⟩
  rcases List.mem_cons.mp he with rfl | he
  · exact ha
  rcases List.mem_cons.mp he with rfl | he
  · exact hb
  · exact nomatch he
theorem Nice.more : ∀ {n : Nat} {d : PyData}, Nice n d → Nice (n + 1) d
  | 0, d, h => Or.inl h
  | n + 1, d, h => by
    rcases h with h | ⟨ds, h1, h2, h3⟩
    · exact Or.inl h
    · exact Or.inr ⟨ds, h1, h2, fun e he => Nice.more (h3 e he)⟩
theorem all_rev (p : Prt) (shs : List Int) (es : List Se) (n : Int) : n ∈ allNums p shs.reverse es.reverse ↔ n ∈ allNums p shs es := by
  unfold allNums
  simp only [List.mem_append, List.mem_map, List.mem_flatMap, List.mem_reverse]
theorem two_dp {K : PySem.W.Frag} {H : Hp} {t x y : Addr} {d e : PyData} (h : H t = some (.lst [.ref x, .ref y])) (hx : Dp K H (.ref x) d) (hy : Dp K H (.ref y) e) : Dp K H (.ref t) (.list [d, e]) := .lst (SqL.of h) (.cons hx (.cons hy .nil))
/-! ### Seats -/
def SeatIn (p : Prt) (f : Wd → Int) : Prop := ∀ u, 0 ≤ f u ∧ f u < p.size u
def seatAt (p : Prt) (m : Int) : Wd → Int := fun u => if u = p.o3 then m % p.size p.o3 else if u = p.o2 then m / p.size p.o3 % p.size p.o2 else m / p.size p.o3 / p.size p.o2
theorem size_prod {p : Prt} (ok : PrOk p) : p.size p.o1 * p.size p.o2 * p.size p.o3 = p.cols * p.rows * p.sheets := by
  have h1 := ok.d12; have h2 := ok.d13; have h3 := ok.d23
  generalize p.o1 = a at *
  generalize p.o2 = b at *
  generalize p.o3 = c at *
  cases a <;> cases b <;> cases c <;> simp only [ne_eq, not_true_eq_false] at h1 h2 h3 <;> simp only [Prt.size] <;> ac_rfl
theorem three {p : Prt} (ok : PrOk p) (u : Wd) : u = p.o1 ∨ u = p.o2 ∨ u = p.o3 := by
  have h1 := ok.d12; have h2 := ok.d13; have h3 := ok.d23
  generalize p.o1 = a at *
  generalize p.o2 = b at *
  generalize p.o3 = c at *
  cases a <;> cases b <;> cases c <;> cases u <;> simp at h1 h2 h3 ⊢
theorem seatAt3 (p : Prt) (m : Int) : seatAt p m p.o3 = m % p.size p.o3 := if_pos rfl
theorem seatAt2 {p : Prt} (ok : PrOk p) (m : Int) : seatAt p m p.o2 = m / p.size p.o3 % p.size p.o2 := by
  unfold seatAt
  rw [if_neg ok.d23, if_pos rfl]
theorem seatAt1 {p : Prt} (ok : PrOk p) (m : Int) : seatAt p m p.o1 = m / p.size p.o3 / p.size p.o2 := by
  unfold seatAt
  rw [if_neg ok.d13, if_neg ok.d12]
theorem seatAt_in {p : Prt} (ok : PrOk p) {m : Int} (h0 : 0 ≤ m) (h1 : m < p.cols * p.rows * p.sheets) : SeatIn p (seatAt p m) := by
  have s2 := ok.size_lo p.o2
  have s3 := ok.size_lo p.o3
  intro u
  rcases three ok u with rfl | rfl | rfl
  · rw [seatAt1 ok]
    refine ⟨Int.ediv_nonneg (Int.ediv_nonneg h0 (by omega)) (by omega), Int.ediv_lt_of_lt_mul (by omega) (Int.ediv_lt_of_lt_mul (by omega) ?_)⟩
    rw [size_prod ok]
    exact h1
  · rw [seatAt2 ok]
    exact ⟨Int.emod_nonneg _ (by omega), Int.emod_lt_of_pos _ (by omega)⟩
  · rw [seatAt3]
    exact ⟨Int.emod_nonneg _ (by omega), Int.emod_lt_of_pos _ (by omega)⟩
theorem seatW_of (f : Wd → Int) (u : Wd) : seatW (f .sh) (f .ro) (f .co) u = f u := by cases u <;> rfl
def Prt.at (p : Prt) (f : Wd → Int) : Int := p.num (f .sh) (f .ro) (f .co)
theorem at_eq (p : Prt) (f : Wd → Int) : p.at f = p.first + ((f p.o1 * p.size p.o2 + f p.o2) * p.size p.o3 + f p.o3) := by
  unfold Prt.at Prt.num
  rw [seatW_of, seatW_of, seatW_of]
theorem seatAt_num {p : Prt} (ok : PrOk p) (m : Int) : p.at (seatAt p m) = p.first + m := by
  rw [at_eq, seatAt1 ok, seatAt2 ok, seatAt3, Int.ediv_mul_add_emod, Int.ediv_mul_add_emod]
theorem at_range {p : Prt} (ok : PrOk p) {f : Wd → Int} (h : SeatIn p f) : p.first ≤ p.at f ∧ p.at f < p.first + p.cols * p.rows * p.sheets := by
  rw [at_eq, ← size_prod ok]
  obtain ⟨a0, a1⟩ := h p.o1
  obtain ⟨b0, b1⟩ := h p.o2
  obtain ⟨c0, c1⟩ := h p.o3
  generalize p.size p.o1 = A at *
  generalize p.size p.o2 = B at *
  generalize p.size p.o3 = C at *
  generalize f p.o1 = x at *
  generalize f p.o2 = y at *
  generalize f p.o3 = z at *
  have h1 : 0 ≤ x * B := Int.mul_nonneg a0 (by omega)
  have h2 : 0 ≤ (x * B + y) * C := Int.mul_nonneg (by omega) (by omega)
  have h3 : x * B ≤ (A - 1) * B := Int.mul_le_mul_of_nonneg_right (by omega) (by omega)
  have h4 : (A - 1) * B = A * B - B := by rw [Int.sub_mul, Int.one_mul]
  have h5 : (x * B + y) * C ≤ (A * B - 1) * C := Int.mul_le_mul_of_nonneg_right (by omega) (by omega)
  have h6 : (A * B - 1) * C = A * B * C - C := by rw [Int.sub_mul, Int.one_mul]
  constructor <;> omega
theorem at_inj {p : Prt} (ok : PrOk p) {f g : Wd → Int} (hf : SeatIn p f) (hg : SeatIn p g) (e : p.at f = p.at g) : f = g := by
  rw [at_eq, at_eq] at e
  have e1 : (f p.o1 * p.size p.o2 + f p.o2) * p.size p.o3 + f p.o3 = (g p.o1 * p.size p.o2 + g p.o2) * p.size p.o3 + g p.o3 := by omega
  have dm : ∀ {q x y s : Int}, 0 ≤ y → y < s → q = x * s + y → q / s = x ∧ q % s = y := fun {q x y s} h0 h1 e => by
    subst e
    rw [Int.add_comm, Int.add_mul_ediv_right _ _ (by omega), Int.add_mul_emod_self_right, Int.ediv_eq_zero_of_lt h0 h1, Int.emod_eq_of_lt h0 h1, Int.zero_add]
    exact ⟨rfl, rfl⟩
  obtain ⟨f1, f2⟩ := dm (hf p.o3).1 (hf p.o3).2 rfl
  obtain ⟨g1, g2⟩ := dm (hg p.o3).1 (hg p.o3).2 e1
  obtain ⟨k1, k2⟩ := dm (hf p.o2).1 (hf p.o2).2 (f1.symm.trans g1).symm
  obtain ⟨m1, m2⟩ := dm (hg p.o2).1 (hg p.o2).2 rfl
  funext u
  rcases three ok u with rfl | rfl | rfl
  · exact k1.symm.trans m1
  · exact k2.symm.trans m2
  · exact f2.symm.trans g2
def seOf (f : Wd → Int) : Se := (f .sh, f .ro, f .co)
def wOf (e : Se) : Wd → Int := seatW e.1 e.2.1 e.2.2
def Prt.end (p : Prt) : Int := p.first + p.cols * p.rows * p.sheets
def spPrinted : Sp := fun vs H Q _ => ∃ (a : Addr) (p : Prt), vs = [.ref a] ∧ PrAt H a p ∧ PrOk p ∧
  ∀ (t : Addr) (H' : Hp), Same H H' → H t = none → H' t = some (.tup [.str p.series, .int p.first, .int p.end]) → Q (.ref t) H'
def spSeat (C : Addr) : Sp := fun vs H Q E => ∃ (a : Addr) (p : Prt) (n : Int), vs = [.ref a, .int n] ∧ PrAt H a p ∧ PrOk p ∧
  (∀ (f : Wd → Int) (t : Addr) (H' : Hp), SeatIn p f → p.at f = n → Same H H' → H' t = some (.tup (seV (seOf f))) → Q (.ref t) H') ∧
  ((n < p.first ∨ p.end ≤ n) → ∀ (d : Addr) (H' : Hp), H d = none → Same H H' → H' d = some (.xd [("number", .int n)]) → E (.ref C) (some d) H')
def toldD (f : Wd → Int) : PyData := .tuple [.str "told", seD (seOf f)]
def noD (n : Int) : PyData := .tuple [.str "no", .int n]
def spHeard (K : PySem.W.Frag) : Sp := fun vs H Q _ => ∃ (a : Addr) (p : Prt) (n : Int), vs = [.ref a, .int n] ∧ PrAt H a p ∧ PrOk p ∧
  (∀ (f : Wd → Int) (t : Addr) (H' : Hp), SeatIn p f → p.at f = n → Same H H' → Dp K H' (.ref t) (toldD f) → Q (.ref t) H') ∧
  ((n < p.first ∨ p.end ≤ n) → ∀ (t : Addr) (H' : Hp), Same H H' → Dp K H' (.ref t) (noD n) → Q (.ref t) H')
/-- seats in a dict, its words in the order fast, slow, middle -/
def ordD (p : Prt) (f : Wd → Int) : List (Key × V) := [(Sum.inr p.o3.s, .int (f p.o3)), (Sum.inr p.o1.s, .int (f p.o1)), (Sum.inr p.o2.s, .int (f p.o2))]
theorem wd_inj {a b : Wd} (h : a.s = b.s) : a = b := by
  cases a <;> cases b <;> first | rfl | exact absurd h (by decide)
theorem val_ord {p : Prt} (ok : PrOk p) (f : Wd → Int) (u : Wd) : valV (ordD p f) (Sum.inr u.s) = some (.int (f u)) := by
  have n : ∀ {a b : Wd}, a ≠ b → ¬ ((Sum.inr a.s : Key) = Sum.inr b.s) := fun h z => h (wd_inj (Sum.inr.inj z))
  unfold ordD
  rcases three ok u with rfl | rfl | rfl
  · rw [valV_neg (n (Ne.symm ok.d13)), valV_pos rfl]
  · rw [valV_neg (n (Ne.symm ok.d23)), valV_neg (n ok.d12), valV_pos rfl]
  · rw [valV_pos rfl]
theorem same_put {H H' : Hp} {e : Addr} {o : HO} (s : Same H H') (he : H e = none) : Same H (upd H' e o) := fun b u hb => by
  rw [upd_ne (ne_of_none hb he)]
  exact s b u hb
theorem put3 {p : Prt} (ok : PrOk p) (x y z : V) : putK (putK (putK [] (Sum.inr p.o3.s : Key) x) (Sum.inr p.o1.s) y) (Sum.inr p.o2.s) z = [(Sum.inr p.o3.s, x), (Sum.inr p.o1.s, y), (Sum.inr p.o2.s, z)] := by
  have n : ∀ {a b : Wd}, a ≠ b → ¬ ((Sum.inr a.s : Key) = Sum.inr b.s) := fun h z => h (wd_inj (Sum.inr.inj z))
  have n1 := n (Ne.symm ok.d13)
  have n2 := n (Ne.symm ok.d23)
  have n3 := n ok.d12
  have e1 : putK [] (Sum.inr p.o3.s : Key) x = [(Sum.inr p.o3.s, x)] := rfl
  rw [e1]
  have e2 : putK [((Sum.inr p.o3.s : Key), x)] (Sum.inr p.o1.s) y = [(Sum.inr p.o3.s, x), (Sum.inr p.o1.s, y)] := by
    unfold putK
    rw [if_neg (by simp only [List.any_cons, List.any_nil, Bool.or_false, decide_eq_true_eq]; exact n1)]
    rfl
  rw [e2]
  unfold putK
  rw [if_neg (by
    simp only [List.any_cons, List.any_nil, Bool.or_false, Bool.or_eq_true, decide_eq_true_eq]
    intro h
    rcases h with h | h
    · exact n2 h
    · exact n3 h)]
  rfl
theorem get_ord {p : Prt} (ok : PrOk p) {H : Hp} {d : Addr} {f : Wd → Int} (h : H d = some (.dK (ordD p f))) (u : Wd) : DGet H d (.str u.s) (some (.int (f u))) := by
  have q := DGet.k (k := Sum.inr u.s) h
  rw [val_ord ok] at q
  exact q
theorem put_len (kvs : List (Key × V)) (k : Key) (v : V) : (putK kvs k v).length ≤ kvs.length + 1 := by
  unfold putK
  split
  · rw [List.length_map]
    omega
  · rw [List.length_append, List.length_singleton]
    exact Nat.le_refl _
theorem put_small {kvs : List (Key × V)} {k : Key} {v : V} (n : Nat) (h : kvs.length ≤ n) (hn : n < 1000) : (putK kvs k v).length < sizeLine := by
  have z := put_len kvs k v
  rw [sizeLine_eq]
  omega
theorem told_nice (f : Wd → Int) : Nice 2 (toldD f) := by
  refine Or.inr ⟨_, Or.inr rfl, (show 2 ≤ 100000 by decide), fun d hd => ?_⟩
  simp only [List.mem_cons, List.not_mem_nil, or_false] at hd
  rcases hd with rfl | rfl
  · exact Nice.flat rfl
  · refine Or.inr ⟨_, Or.inr rfl, (show 3 ≤ 100000 by decide), fun d hd => ?_⟩
    simp only [List.mem_cons, List.not_mem_nil, or_false] at hd
    rcases hd with rfl | rfl | rfl <;> rfl
theorem no_nice (n : Int) : Nice 2 (noD n) := by
  refine Or.inr ⟨_, Or.inr rfl, (show 2 ≤ 100000 by decide), fun d hd => ?_⟩
  simp only [List.mem_cons, List.not_mem_nil, or_false] at hd
  rcases hd with rfl | rfl <;> exact Nice.flat rfl
def spRight (K : PySem.W.Frag) : Sp := fun vs H Q _ => ∃ (a z : Addr) (p : Prt) (e : Se) (n : Int), vs = [.ref a, .ref z, .int n] ∧ PrAt H a p ∧ PrOk p ∧ SqT K H z (seV e) ∧ SeatIn p (wOf e) ∧ p.at (wOf e) = n ∧
  ∀ H', Same H H' → Q (.bl true) H'
def spBeyond : Sp := fun vs H Q _ => ∃ (f c a : Addr) (p : Prt) (n : Int), vs = [.ref f, .ref a] ∧ Fd H f c n ∧ n ≤ 800000 ∧ PrAt H a p ∧ PrOk p ∧
  ∀ (l : Addr) (xs : List Int) (H' : Hp), Fd H' f c (n + 1) → But f H H' → l ≠ f → l ≠ c → H' l = some (.lst (xs.map V.int)) → (∀ x ∈ xs, x < p.first ∨ p.end ≤ x) → Q (.ref l) H'
def spSpots : Sp := fun vs H Q _ => ∃ (f c a : Addr) (p : Prt) (n : Int), vs = [.ref f, .ref a] ∧ Fd H f c n ∧ n ≤ 800000 ∧ PrAt H a p ∧ PrOk p ∧
  ∀ (l : Addr) (ps : List Addr) (es : List Se) (H' : Hp), Fd H' f c (n + 36) → But f H H' → l ≠ f → l ≠ c → H' l = some (.lst (ps.map V.ref)) → Ses H' ps es → (∀ e ∈ es, SeatIn p (wOf e)) → Q (.ref l) H'
def Prt.small (p : Prt) : Prop := p.cols ≤ 4 ∧ p.rows ≤ 4 ∧ p.sheets ≤ 6
def SeatsFrom (p : Prt) (es : List Se) : Prop := ∀ (k : Nat) (e : Se), es[k]? = some e → SeatIn p (wOf e) ∧ p.at (wOf e) = p.first + k
def spAll : Sp := fun vs H Q _ => ∃ (a : Addr) (p : Prt), vs = [.ref a] ∧ PrAt H a p ∧ PrOk p ∧ p.small ∧
  ∀ (l : Addr) (ps : List Addr) (es : List Se) (H' : Hp), Same H H' → H l = none → H' l = some (.lst (ps.map V.ref)) → Ses H' ps es → SeatsFrom p es → Q (.ref l) H'
theorem seatIn_of {p : Prt} {s r c : Int} (s0 : 0 ≤ s) (s1 : s < p.sheets) (r0 : 0 ≤ r) (r1 : r < p.rows) (c0 : 0 ≤ c) (c1 : c < p.cols) : SeatIn p (wOf (s, r, c)) := fun u => by
  cases u
  · exact ⟨s0, s1⟩
  · exact ⟨r0, r1⟩
  · exact ⟨c0, c1⟩
theorem put3g {a b c : Wd} (ab : a ≠ b) (ac : a ≠ c) (bc : b ≠ c) (x y z : V) : mergeK [] [((Sum.inr a.s : Key), x), (Sum.inr b.s, y), (Sum.inr c.s, z)] = [(Sum.inr a.s, x), (Sum.inr b.s, y), (Sum.inr c.s, z)] := by
  cases a <;> cases b <;> cases c <;> first | exact absurd rfl ab | exact absurd rfl ac | exact absurd rfl bc | rfl
/-- the seat at slow, middle, fast -/
def seat3 (p : Prt) (x y z : Int) : Wd → Int := fun u => if u = p.o1 then x else if u = p.o2 then y else z
def ordS (p : Prt) (f : Wd → Int) : List (Key × V) := [(Sum.inr p.o1.s, .int (f p.o1)), (Sum.inr p.o2.s, .int (f p.o2)), (Sum.inr p.o3.s, .int (f p.o3))]
theorem seat31 (p : Prt) (x y z : Int) : seat3 p x y z p.o1 = x := if_pos rfl
theorem seat32 {p : Prt} (ok : PrOk p) (x y z : Int) : seat3 p x y z p.o2 = y := by
  unfold seat3
  rw [if_neg (Ne.symm ok.d12), if_pos rfl]
theorem seat33 {p : Prt} (ok : PrOk p) (x y z : Int) : seat3 p x y z p.o3 = z := by
  unfold seat3
  rw [if_neg (Ne.symm ok.d13), if_neg (Ne.symm ok.d23)]
theorem get_ordS {p : Prt} (ok : PrOk p) {H : Hp} {d : Addr} {f : Wd → Int} (h : H d = some (.dK (ordS p f))) (u : Wd) : DGet H d (.str u.s) (some (.int (f u))) := by
  have q := DGet.k (k := Sum.inr u.s) h
  have n : ∀ {a b : Wd}, a ≠ b → ¬ ((Sum.inr a.s : Key) = Sum.inr b.s) := fun h z => h (wd_inj (Sum.inr.inj z))
  have e : valV (ordS p f) (Sum.inr u.s) = some (.int (f u)) := by
    unfold ordS
    rcases three ok u with rfl | rfl | rfl
    · rw [valV_pos rfl]
    · rw [valV_neg (n ok.d12), valV_pos rfl]
    · rw [valV_neg (n ok.d13), valV_neg (n ok.d23), valV_pos rfl]
  rw [e] at q
  exact q
theorem w_se (f : Wd → Int) : wOf (seOf f) = f := by
  funext u
  cases u <;> rfl
theorem seats_more {p : Prt} (ok : PrOk p) {es : List Se} {i j k : Nat} (h : SeatsFrom p es) (hi : i < (p.size p.o1).toNat) (hj : j < (p.size p.o2).toNat) (hk : k < (p.size p.o3).toNat)
    (len : es.length = i * ((p.size p.o2).toNat * (p.size p.o3).toNat) + j * (p.size p.o3).toNat + k) : SeatsFrom p (es ++ [seOf (seat3 p (0 + (i : Int)) (0 + (j : Int)) (0 + (k : Int)))]) := by
  intro m e he
  by_cases c : m < es.length
  · rw [List.getElem?_append_left c] at he
    exact h m e he
  · rw [List.getElem?_append_right (by omega)] at he
    have z : m - es.length = 0 := by
      cases q : m - es.length with
      | zero => rfl
      | succ v =>
        rw [q] at he
        cases he
    rw [z] at he
    cases he
    have hm : m = es.length := by omega
    rw [w_se]
    refine ⟨fun u => ?_, ?_⟩
    · rcases three ok u with rfl | rfl | rfl
      · rw [seat31]
        omega
      · rw [seat32 ok]
        omega
      · rw [seat33 ok]
        omega
    · have b0 := ok.size_lo p.o2; have c0 := ok.size_lo p.o3
      have eB : ((p.size p.o2).toNat : Int) = p.size p.o2 := by omega
      have eC : ((p.size p.o3).toNat : Int) = p.size p.o3 := by omega
      rw [at_eq, seat31, seat32 ok, seat33 ok, hm, len]
      rw [Int.natCast_add, Int.natCast_add, Int.natCast_mul, Int.natCast_mul, Int.natCast_mul, eB, eC, Int.zero_add, Int.zero_add, Int.zero_add, Int.add_mul, Int.mul_assoc]
theorem size4 {p : Prt} (ok : PrOk p) (sm : p.small) (u : Wd) : p.size u ≤ 6 := by
  obtain ⟨h1, h2, h3⟩ := sm
  cases u <;> simp only [Prt.size] <;> omega
theorem prod_small {i j k B C : Nat} (hi : i ≤ 6) (hj : j ≤ B) (hk : k ≤ C) (hB : B ≤ 6) (hC : C ≤ 6) : i * (B * C) + j * C + k ≤ 1000 := by
  have h1 : B * C ≤ 6 * 6 := Nat.mul_le_mul hB hC
  have h2 : i * (B * C) ≤ 6 * 36 := Nat.mul_le_mul hi h1
  have h3 : j * C ≤ 6 * 6 := Nat.mul_le_mul (by omega) hC
  omega
theorem pick3 {x y z m : Int} (hx : 0 ≤ x ∧ x < m) (hy : 0 ≤ y ∧ y < m) (hz : 0 ≤ z ∧ z < m) {i : Int} (h0 : 0 ≤ i) (h1 : i < 3) : ∃ v : Int, atI [V.int x, .int y, .int z] i = some (.int v) ∧ 0 ≤ v ∧ v < m := by
  rcases (show i = 0 ∨ i = 1 ∨ i = 2 by omega) with rfl | rfl | rfl
  · exact ⟨x, rfl, hx⟩
  · exact ⟨y, rfl, hy⟩
  · exact ⟨z, rfl, hz⟩
def twoP (p q : Prt) : PyData := .tuple [prD p, prD q]
theorem twoP_ok {p q : Prt} (ok : PrOk p) (ok' : PrOk q) : (twoP p q).showable = true ∧ (twoP p q).hasDict = false ∧ (twoP p q).depth ≤ 60 ∧ (twoP p q).shown.length ≤ sizeLine := by
  have f : fineD (twoP p q) = true := by
    show (fineD (prD p) && (fineD (prD q) && true)) = true
    rw [ok.fine, ok'.fine]
    rfl
  obtain ⟨h1, h2⟩ := fine_show _ f
  refine ⟨h1, h2, ?_, ?_⟩
  · simp only [twoP, prD, PyData.depth, PyData.depthAll]
    decide +revert
  · have z := shown_cost _ f
    have c1 := ok.cost
    have c2 := ok'.cost
    have e : cost (twoP p q) = cost (prD p) + 2 + (cost (prD q) + 2 + 0) + 3 := rfl
    rw [sizeLine_eq]
    omega
theorem twoP_dp {K : PySem.W.Frag} {H : Hp} {r a b : Addr} {p q : Prt} (h : H r = some (.tup [V.ref a, .ref b])) (hp : PrAt H a p) (hq : PrAt H b q) : Dp K H (.ref r) (twoP p q) := .tup (SqT.of h) (.cons hp.dp (.cons hq.dp .nil))
def edD (p : Prt) : PyData := .tuple [.str p.series, .int p.first, .int p.end]
theorem ed_nice (p : Prt) : Nice 2 (edD p) := by
  refine Or.inr ⟨_, Or.inr rfl, (show 3 ≤ 100000 by decide), fun d hd => ?_⟩
  simp only [List.mem_cons, List.not_mem_nil, or_false] at hd
  rcases hd with rfl | rfl | rfl <;> exact Nice.flat rfl
theorem at0 (p : Prt) : p.at (wOf (0, 0, 0)) = p.first := by
  have z : ∀ u, wOf (0, 0, 0) u = 0 := fun u => by cases u <;> rfl
  rw [at_eq, z, z, z]
  simp
theorem of_map {α : Type} {g : α → V} {l : List α} {j : Nat} {x : V} (h : (l.map g)[j]? = some x) : ∃ w, l[j]? = some w ∧ x = g w := by
  rw [List.getElem?_map] at h
  cases e : l[j]? with
  | none =>
    rw [e] at h
    cases h
  | some w =>
    rw [e] at h
    exact ⟨w, rfl, (Option.some.inj h).symm⟩
/-! ### Stacks -/
inductive Way where | rows | cols
  deriving DecidableEq
def Way.s : Way → Str
  | .rows => "rows"
  | .cols => "columns"
def pileR (p : Prt) : Way → Int → Int
  | .rows, k => k / p.cols
  | .cols, k => k % p.rows
def pileC (p : Prt) : Way → Int → Int
  | .rows, k => k % p.cols
  | .cols, k => k / p.rows
def pileK (p : Prt) : Way → Int → Int → Int
  | .rows, r, c => r * p.cols + c
  | .cols, r, c => c * p.rows + r
def Prt.many (p : Prt) : Int := p.cols * p.rows * p.sheets
def stackN (p : Prt) (w : Way) (k : Int) : Int := p.num (k % p.sheets) (pileR p w (k / p.sheets)) (pileC p w (k / p.sheets))
def spPileSeat : Sp := fun vs H Q _ => ∃ (a : Addr) (p : Prt) (w : Way) (k : Int), vs = [.ref a, .str w.s, .int k] ∧ PrAt H a p ∧ PrOk p ∧
  ∀ (t : Addr) (H' : Hp), Same H H' → H' t = some (.tup [.int (pileR p w k), .int (pileC p w k)]) → Q (.ref t) H'
def spPilePlace : Sp := fun vs H Q _ => ∃ (a : Addr) (p : Prt) (w : Way) (r c : Int), vs = [.ref a, .str w.s, .int r, .int c] ∧ PrAt H a p ∧ PrOk p ∧
  ∀ (H' : Hp), Same H H' → Q (.int (pileK p w r c)) H'
def spStackAt (C : Addr) : Sp := fun vs H Q E => ∃ (a : Addr) (p : Prt) (w : Way) (k : Int), vs = [.ref a, .str w.s, .int k] ∧ PrAt H a p ∧ PrOk p ∧
  (0 ≤ k → k < p.many → ∀ H', Same H H' → Q (.int (stackN p w k)) H') ∧
  ((k < 0 ∨ p.many ≤ k) → ∀ (d : Addr) (H' : Hp), H d = none → Same H H' → H' d = some (.xd [("number", .int k)]) → E (.ref C) (some d) H')
def placeN (p : Prt) (w : Way) (f : Wd → Int) : Int := pileK p w (f .ro) (f .co) * p.sheets + f .sh
def spStackPlace (C : Addr) : Sp := fun vs H Q E => ∃ (a : Addr) (p : Prt) (w : Way) (n : Int), vs = [.ref a, .str w.s, .int n] ∧ PrAt H a p ∧ PrOk p ∧
  (∀ (f : Wd → Int) (H' : Hp), SeatIn p f → p.at f = n → Same H H' → Q (.int (placeN p w f)) H') ∧
  ((n < p.first ∨ p.end ≤ n) → ∀ (d : Addr) (H' : Hp), H d = none → Same H H' → H' d = some (.xd [("number", .int n)]) → E (.ref C) (some d) H')
def toldI (n : Int) : PyData := .tuple [.str "told", .int n]
def spHeardAt (K : PySem.W.Frag) : Sp := fun vs H Q _ => ∃ (a : Addr) (p : Prt) (w : Way) (k : Int), vs = [.ref a, .str w.s, .int k] ∧ PrAt H a p ∧ PrOk p ∧
  (0 ≤ k → k < p.many → ∀ (t : Addr) (H' : Hp), Same H H' → Dp K H' (.ref t) (toldI (stackN p w k)) → Q (.ref t) H') ∧
  ((k < 0 ∨ p.many ≤ k) → ∀ (t : Addr) (H' : Hp), Same H H' → Dp K H' (.ref t) (noD k) → Q (.ref t) H')
def spHeardPlace (K : PySem.W.Frag) : Sp := fun vs H Q _ => ∃ (a : Addr) (p : Prt) (w : Way) (n : Int), vs = [.ref a, .str w.s, .int n] ∧ PrAt H a p ∧ PrOk p ∧
  (∀ (f : Wd → Int) (t : Addr) (H' : Hp), SeatIn p f → p.at f = n → Same H H' → Dp K H' (.ref t) (toldI (placeN p w f)) → Q (.ref t) H') ∧
  ((n < p.first ∨ p.end ≤ n) → ∀ (t : Addr) (H' : Hp), Same H H' → Dp K H' (.ref t) (noD n) → Q (.ref t) H')
theorem way_rows (w : Way) : decide (V.str w.s = V.str "rows") = decide (w = .rows) := by cases w <;> decide +kernel
theorem pile_in {p : Prt} (ok : PrOk p) (w : Way) {k : Int} (h0 : 0 ≤ k) (h1 : k < p.cols * p.rows) : (0 ≤ pileR p w k ∧ pileR p w k < p.rows) ∧ (0 ≤ pileC p w k ∧ pileC p w k < p.cols) := by
  have c1 := ok.c1; have r1 := ok.r1
  cases w
  · exact ⟨⟨Int.ediv_nonneg h0 (by omega), Int.ediv_lt_of_lt_mul (by omega) (by rw [Int.mul_comm]; exact h1)⟩, Int.emod_nonneg _ (by omega), Int.emod_lt_of_pos _ (by omega)⟩
  · exact ⟨⟨Int.emod_nonneg _ (by omega), Int.emod_lt_of_pos _ (by omega)⟩, Int.ediv_nonneg h0 (by omega), Int.ediv_lt_of_lt_mul (by omega) h1⟩
theorem pile_back (p : Prt) (w : Way) (k : Int) : pileK p w (pileR p w k) (pileC p w k) = k := by
  cases w <;> simp only [pileK, pileR, pileC] <;> exact Int.ediv_mul_add_emod ..
def stackS (p : Prt) (w : Way) (k : Int) : Wd → Int := seatW (k % p.sheets) (pileR p w (k / p.sheets)) (pileC p w (k / p.sheets))
theorem stackN_at (p : Prt) (w : Way) (k : Int) : stackN p w k = p.at (stackS p w k) := rfl
theorem stackS_in {p : Prt} (ok : PrOk p) (w : Way) {k : Int} (h0 : 0 ≤ k) (h1 : k < p.many) : SeatIn p (stackS p w k) := by
  have s1 := ok.s1
  have e : k / p.sheets < p.cols * p.rows := Int.ediv_lt_of_lt_mul (by omega) h1
  obtain ⟨hr, hc⟩ := pile_in ok w (Int.ediv_nonneg h0 (by omega)) e
  intro u
  cases u
  · exact ⟨Int.emod_nonneg _ (by omega), Int.emod_lt_of_pos _ (by omega)⟩
  · exact hr
  · exact hc
theorem place_back (p : Prt) (w : Way) (k : Int) : placeN p w (stackS p w k) = k := by
  show pileK p w (pileR p w (k / p.sheets)) (pileC p w (k / p.sheets)) * p.sheets + k % p.sheets = k
  rw [pile_back]
  exact Int.ediv_mul_add_emod ..
/-- how far apart the numbers of a pile lie -/
def Prt.gap (p : Prt) : Int := if p.o1 = .sh then p.size p.o2 * p.size p.o3 else if p.o2 = .sh then p.size p.o3 else 1
theorem num_gap {p : Prt} (ok : PrOk p) (s r c : Int) : p.num s r c = p.num 0 r c + s * p.gap := by
  have h1 := ok.d12; have h2 := ok.d13; have h3 := ok.d23
  unfold Prt.num Prt.gap
  generalize p.o1 = x at *
  generalize p.o2 = y at *
  generalize p.o3 = z at *
  cases x <;> cases y <;> cases z <;> simp only [ne_eq, not_true_eq_false] at h1 h2 h3 <;> simp only [seatW, Prt.size, reduceCtorEq, if_true, if_false, Int.zero_mul, Int.zero_add, Int.add_zero, Int.mul_one, Int.add_mul, Int.mul_assoc] <;> omega
theorem gap_pos {p : Prt} (ok : PrOk p) : 0 < p.gap := by
  have h2 := ok.size_lo p.o2; have h3 := ok.size_lo p.o3
  unfold Prt.gap
  split
  · exact Int.mul_pos (by omega) (by omega)
  · split <;> omega
/-- the first and the last number of the k-th pile -/
def pileF (p : Prt) (w : Way) (k : Int) : Int := p.num 0 (pileR p w k) (pileC p w k)
def pileL (p : Prt) (w : Way) (k : Int) : Int := pileF p w k + p.gap * (p.sheets - 1)
/-- each pile's last lies below the next one's first, of the first m piles -/
def Up (p : Prt) (w : Way) (m : Nat) : Prop := ∀ k : Nat, k + 1 < m → pileL p w k < pileF p w (k + 1 : Nat)
theorem pile_step {p : Prt} (ok : PrOk p) (r c : Int) : p.num 1 r c - p.num 0 r c = p.gap := by
  rw [num_gap ok 1 r c, Int.one_mul]
  omega
theorem last_num {p : Prt} (ok : PrOk p) (w : Way) (k : Int) : p.num (p.sheets - 1) (pileR p w k) (pileC p w k) = pileL p w k := by
  rw [num_gap ok]
  unfold pileL pileF
  rw [Int.mul_comm]
theorem first_low {p : Prt} (ok : PrOk p) (w : Way) {k : Int} (h0 : 0 ≤ k) (h1 : k < p.cols * p.rows) : 0 ≤ pileF p w k := by
  have s1 := ok.s1
  obtain ⟨hr, hc⟩ := pile_in ok w h0 h1
  have z := (at_range ok (seatIn_of (p := p) (s := 0) (by omega) (by omega) hr.1 hr.2 hc.1 hc.2)).1
  have e : p.at (wOf (0, pileR p w k, pileC p w k)) = pileF p w k := rfl
  have f := ok.f0
  omega
def Prt.piles (p : Prt) : Nat := (p.cols * p.rows).toNat
theorem piles_eq {p : Prt} (ok : PrOk p) : (p.piles : Int) = p.cols * p.rows := by
  have h := Int.mul_nonneg (show 0 ≤ p.cols by have := ok.c1; omega) (show 0 ≤ p.rows by have := ok.r1; omega)
  unfold Prt.piles
  omega
theorem piles_le {p : Prt} (ok : PrOk p) : 0 ≤ p.cols * p.rows ∧ p.cols * p.rows ≤ 144 := by
  have c1 := ok.c1; have c2 := ok.c2; have r1 := ok.r1; have r2 := ok.r2
  exact mul_bound (by omega) c2 (by omega) r2
def spRising : Sp := fun vs H Q _ => ∃ (a : Addr) (p : Prt) (w : Way), vs = [.ref a, .str w.s] ∧ PrAt H a p ∧ PrOk p ∧
  ∀ (b : Bool) (H' : Hp), (b = true ↔ Up p w p.piles) → Same H H' → Q (.bl b) H'
def lastOf (p : Prt) (w : Way) : Nat → Int
  | 0 => -1
  | i + 1 => pileL p w i
theorem up_more {p : Prt} {w : Way} {i : Nat} (h : Up p w i) (c : ¬ pileF p w i ≤ lastOf p w i) : Up p w (i + 1) := by
  intro k hk
  by_cases z : k + 1 < i
  · exact h k z
  · have e : i = k + 1 := by omega
    subst e
    have c' : ¬ pileF p w (k + 1 : Nat) ≤ pileL p w k := c
    omega
theorem up_not {p : Prt} (ok : PrOk p) {w : Way} {i : Nat} (hi : i < p.piles) (c : pileF p w i ≤ lastOf p w i) : ¬ Up p w p.piles := by
  intro h
  cases i with
  | zero =>
    have e := piles_eq ok
    have z := first_low ok w (k := ((0 : Nat) : Int)) (by omega) (by omega)
    have c' : pileF p w ((0 : Nat) : Int) ≤ -1 := c
    omega
  | succ k =>
    have z := h k hi
    have c' : pileF p w (k + 1 : Nat) ≤ pileL p w k := c
    omega
/-- the piles stand at ps -/
def PlAt (H : Hp) (p : Prt) (w : Way) (ps : List Addr) : Prop := ∀ (k : Nat) (x : Addr), ps[k]? = some x → H x = some (.tup [.int (pileR p w k), .int (pileC p w k)])
theorem PlAt.same {H H' : Hp} {p : Prt} {w : Way} {ps : List Addr} (s : Same H H') (h : PlAt H p w ps) : PlAt H' p w ps := fun k x hx => s _ _ (h k x hx)
def spPiles : Sp := fun vs H Q _ => ∃ (a : Addr) (p : Prt) (w : Way), vs = [.ref a, .str w.s] ∧ PrAt H a p ∧ PrOk p ∧
  ∀ (l : Addr) (ps : List Addr) (H' : Hp), Same H H' → H l = none → H' l = some (.lst (ps.map V.ref)) → ps.length = p.piles → PlAt H' p w ps → Q (.ref l) H'
def numsW (p : Prt) (w : Way) (n : Nat) : List Int := (List.range n).map fun (k : Nat) => stackN p w k
def spNumbers : Sp := fun vs H Q _ => ∃ (a : Addr) (p : Prt) (w : Way), vs = [.ref a, .str w.s] ∧ PrAt H a p ∧ PrOk p ∧ p.small ∧
  ∀ (l : Addr) (H' : Hp), Same H H' → H l = none → H' l = some (.lst ((numsW p w (p.piles * p.sheets.toNat)).map V.int)) → Q (.ref l) H'
theorem pl_app {H H' : Hp} {p : Prt} {w : Way} {ps : List Addr} {u : Addr} (h : PlAt H p w ps) (k : ∀ x o, (∀ z, o ≠ HO.lst z) → H x = some o → H' x = some o) (hu : H' u = some (.tup [.int (pileR p w ps.length), .int (pileC p w ps.length)])) : PlAt H' p w (ps ++ [u]) := by
  intro i x hx
  by_cases c : i < ps.length
  · rw [List.getElem?_append_left c] at hx
    exact k _ _ (fun z => by intro e; cases e) (h i x hx)
  · rw [List.getElem?_append_right (by omega)] at hx
    have z : i - ps.length = 0 := by
      cases q : i - ps.length with
      | zero => rfl
      | succ v =>
        rw [q] at hx
        cases hx
    rw [z] at hx
    cases hx
    have e : i = ps.length := by omega
    rw [e]
    exact hu
theorem stack_nat {p : Prt} (ok : PrOk p) (w : Way) {S : Nat} (hS : (S : Int) = p.sheets) (j : Nat) : stackN p w j = pileF p w ((j / S : Nat) : Int) + ((j % S : Nat) : Int) * p.gap := by
  unfold stackN
  rw [num_gap ok, ← hS, ← Int.natCast_ediv, ← Int.natCast_emod]
  rfl
theorem stack_inj {p : Prt} (ok : PrOk p) (w : Way) {i j : Int} (i0 : 0 ≤ i) (i1 : i < p.many) (j0 : 0 ≤ j) (j1 : j < p.many) (e : stackN p w i = stackN p w j) : i = j := by
  rw [stackN_at, stackN_at] at e
  have z := at_inj ok (stackS_in ok w i0 i1) (stackS_in ok w j0 j1) e
  rw [← place_back p w i, z, place_back]
theorem many_nat {p : Prt} (ok : PrOk p) {S : Nat} (hS : (S : Int) = p.sheets) : ((p.piles * S : Nat) : Int) = p.many := by
  rw [Int.natCast_mul, piles_eq ok, hS]
  rfl
theorem nums_up {p : Prt} (ok : PrOk p) (w : Way) {S : Nat} (hS : (S : Int) = p.sheets) : (numsW p w (p.piles * S)).Pairwise (· ≤ ·) ↔ Up p w p.piles := by
  have s1 := ok.s1
  have S1 : 1 ≤ S := by omega
  have mn := many_nat ok hS
  have len : (numsW p w (p.piles * S)).length = p.piles * S := by
    unfold numsW
    rw [List.length_map, List.length_range]
  have get : ∀ (i : Nat) (h : i < (numsW p w (p.piles * S)).length), (numsW p w (p.piles * S))[i] = stackN p w i := fun i h => by
    simp [numsW]
  have first : ∀ k : Nat, stackN p w ((k * S : Nat) : Int) = pileF p w k := fun k => by
    rw [stack_nat ok w hS, Nat.mul_div_cancel _ (by omega), Nat.mul_mod_left, Int.natCast_zero, Int.zero_mul, Int.add_zero]
  have last : ∀ k : Nat, stackN p w ((k * S + (S - 1) : Nat) : Int) = pileL p w k := fun k => by
    have d : (k * S + (S - 1)) / S = k := by
      rw [Nat.mul_comm, Nat.mul_add_div (by omega), Nat.div_eq_of_lt (by omega), Nat.add_zero]
    have m : (k * S + (S - 1)) % S = S - 1 := by
      rw [Nat.mul_comm, Nat.mul_add_mod, Nat.mod_eq_of_lt (by omega)]
    rw [stack_nat ok w hS, d, m]
    unfold pileL
    rw [Int.mul_comm p.gap, show ((S - 1 : Nat) : Int) = p.sheets - 1 by omega]
  rw [List.pairwise_iff_getElem]
  constructor
  · intro h k hk
    have b : (k + 1) * S < p.piles * S := (Nat.mul_lt_mul_right (by omega)).mpr hk
    have e : (k + 1) * S = k * S + S := Nat.succ_mul k S
    have z := h (k * S + (S - 1)) ((k + 1) * S) (by rw [len]; omega) (by rw [len]; exact b) (by omega)
    rw [get, get, last, first] at z
    have ne : pileL p w k ≠ pileF p w (k + 1 : Nat) := fun q => by
      rw [← last, ← first] at q
      have y := stack_inj ok w (by omega) (by omega) (by omega) (by omega) q
      omega
    omega
  · intro h
    have step : ∀ j : Nat, j + 1 < p.piles * S → stackN p w j ≤ stackN p w (j + 1 : Nat) := fun j hj => by
      have dm := Nat.div_add_mod j S
      have ml := Nat.mod_lt j (show S > 0 by omega)
      rw [Nat.mul_comm] at dm
      by_cases c : j % S + 1 < S
      · have d : (j + 1) / S = j / S := by
          have e : j + 1 = S * (j / S) + (j % S + 1) := by rw [Nat.mul_comm]; omega
          rw [e, Nat.mul_add_div (by omega), Nat.div_eq_of_lt c, Nat.add_zero]
        have m : (j + 1) % S = j % S + 1 := by
          have e : j + 1 = S * (j / S) + (j % S + 1) := by rw [Nat.mul_comm]; omega
          rw [e, Nat.mul_add_mod, Nat.mod_eq_of_lt c]
        have g := gap_pos ok
        rw [stack_nat ok w hS j, stack_nat ok w hS (j + 1), d, m, Int.natCast_add, Int.add_mul]
        omega
      · have e1 : j = j / S * S + (S - 1) := by omega
        have e2 : j + 1 = (j / S + 1) * S := by rw [Nat.succ_mul]; omega
        have k1 : j / S + 1 < p.piles := by
          rw [e2] at hj
          exact Nat.lt_of_mul_lt_mul_right hj
        have z := h (j / S) k1
        have f := first (j / S + 1)
        have l := last (j / S)
        rw [← e2] at f
        rw [← e1] at l
        omega
    have chain : ∀ d i : Nat, i + d < p.piles * S → stackN p w i ≤ stackN p w (i + d : Nat) := fun d i => by
      induction d with
      | zero => intro _; exact Int.le_refl _
      | succ d ih =>
        intro hd
        exact Int.le_trans (ih (by omega)) (step (i + d) (by omega))
    intro i j hi hj hij
    rw [get, get]
    have z := chain (j - i) i (by rw [len] at hj; omega)
    rw [show i + (j - i) = j by omega] at z
    exact z
theorem toldI_nice (n : Int) : Nice 2 (toldI n) := by
  refine Or.inr ⟨_, Or.inr rfl, (show 2 ≤ 100000 by decide), fun d hd => ?_⟩
  simp only [List.mem_cons, List.not_mem_nil, or_false] at hd
  rcases hd with rfl | rfl <;> exact Nice.flat rfl
def spBey : Sp := fun vs H Q _ => ∃ (a : Addr) (p : Prt) (w : Way), vs = [.ref a, .str w.s] ∧ PrAt H a p ∧ PrOk p ∧ ∀ H', Same H H' → Q (.bl true) H'
def spWhole : Sp := fun vs H Q _ => ∃ (a : Addr) (p : Prt) (w : Way), vs = [.ref a, .str w.s] ∧ PrAt H a p ∧ PrOk p ∧ p.small ∧ ∀ H', Same H H' → Q (.bl true) H'
def spGreat : Sp := fun vs H Q _ => ∃ (f c a : Addr) (p : Prt) (w : Way) (n : Int), vs = [.ref f, .ref a, .str w.s] ∧ Fd H f c n ∧ n ≤ 700000 ∧ PrAt H a p ∧ PrOk p ∧ ∀ H', Fd H' f c (n + 24) → But f H H' → Q (.bl true) H'
theorem numsW_row {p : Prt} (ok : PrOk p) (w : Way) {S : Nat} (hS : (S : Int) = p.sheets) (i : Nat) : numsW p w (i * S) ++ ((List.range S).map fun (s : Nat) => p.num s (pileR p w i) (pileC p w i)) = numsW p w ((i + 1) * S) := by
  have s1 := ok.s1
  have S1 : 1 ≤ S := by omega
  unfold numsW
  rw [Nat.succ_mul, List.range_add, List.map_append, List.map_map]
  congr 1
  refine List.map_congr_left fun s hs => ?_
  have hs := List.mem_range.mp hs
  show p.num s (pileR p w i) (pileC p w i) = stackN p w ((i * S + s : Nat) : Int)
  have d : (i * S + s) / S = i := by rw [Nat.mul_comm, Nat.mul_add_div (by omega), Nat.div_eq_of_lt hs, Nat.add_zero]
  have m : (i * S + s) % S = s := by rw [Nat.mul_comm, Nat.mul_add_mod, Nat.mod_eq_of_lt hs]
  rw [stack_nat ok w hS, d, m, num_gap ok]
  rfl
theorem numsW_len (p : Prt) (w : Way) (n : Nat) : (numsW p w n).length = n := by
  unfold numsW
  rw [List.length_map, List.length_range]
theorem small_many {p : Prt} (ok : PrOk p) (sm : p.small) : p.piles * p.sheets.toNat ≤ 96 := by
  obtain ⟨h1, h2, h3⟩ := sm
  have c1 := ok.c1; have r1 := ok.r1
  have z := (mul_bound (show 0 ≤ p.cols by omega) h1 (show 0 ≤ p.rows by omega) h2).2
  have e := piles_eq ok
  exact Nat.mul_le_mul (show p.piles ≤ 16 by omega) (show p.sheets.toNat ≤ 6 by omega)
theorem eqv_ints : ∀ ns ms : List Int, PyData.eqvAll (ns.map .int) (ms.map .int) = decide (ns = ms)
  | [], [] => rfl
  | [], _ :: _ => rfl
  | _ :: _, [] => rfl
  | n :: ns, m :: ms => by
    have ih := eqv_ints ns ms
    have e : PyData.eqvAll ((n :: ns).map .int) ((m :: ms).map .int) = ((n == m) && PyData.eqvAll (ns.map .int) (ms.map .int)) := rfl
    rw [e, ih]
    by_cases h1 : n = m
    · by_cases h2 : ns = ms
      · simp [h1, h2]
      · simp [h1, h2]
    · simp [h1]
theorem shaped_ints (ns : List Int) : SeqAt.shaped (.list (ns.map .int)) = true := by
  have h1 : ∀ ns : List Int, PyData.canLayAll0 (ns.map .int) = true := fun ns => by
    induction ns with
    | nil => rfl
    | cons n ns ih =>
      show (true && PyData.canLayAll0 (ns.map .int)) = true
      rw [ih]
      rfl
  have h2 : ∀ ns : List Int, PyData.depthAll (ns.map .int) = 0 := fun ns => by
    induction ns with
    | nil => rfl
    | cons n ns ih =>
      show max 0 (PyData.depthAll (ns.map .int)) = 0
      rw [ih]
      rfl
  have d : (PyData.list (ns.map .int)).depth ≤ 64 := by
    show PyData.depthAll (ns.map .int) + 1 ≤ 64
    rw [h2]
    decide
  show (PyData.canLayAll0 (ns.map .int) && decide ((PyData.list (ns.map .int)).depth ≤ 64)) = true
  rw [h1, decide_eq_true d]
  rfl
theorem told_pair (a b : Int) : Nice 2 (.list [toldI a, toldI b]) := by
  have one : ∀ n : Int, Nice 1 (toldI n) := fun n => by
    refine Or.inr ⟨_, Or.inr rfl, (show 2 ≤ 100000 by decide), fun d hd => ?_⟩
    simp only [List.mem_cons, List.not_mem_nil, or_false] at hd
    rcases hd with rfl | rfl <;> rfl
  refine Or.inr ⟨_, Or.inl rfl, (show 2 ≤ 100000 by decide), fun d hd => ?_⟩
  simp only [List.mem_cons, List.not_mem_nil, or_false] at hd
  rcases hd with rfl | rfl <;> exact one _
theorem up_step {p : Prt} {w : Way} {i : Nat} : Up p w (i + 2) ↔ Up p w (i + 1) ∧ pileL p w i < pileF p w (i + 1 : Nat) := by
  constructor
  · exact fun h => ⟨fun k hk => h k (by omega), h i (by omega)⟩
  · rintro ⟨h1, h2⟩ k hk
    by_cases c : k + 1 < i + 1
    · exact h1 k c
    · have e : k = i := by omega
      subst e
      exact h2
theorem pick4 {x y z u m : Int} (hx : 0 ≤ x ∧ x < m) (hy : 0 ≤ y ∧ y < m) (hz : 0 ≤ z ∧ z < m) (hu : 0 ≤ u ∧ u < m) {i : Int} (h0 : 0 ≤ i) (h1 : i < 4) : ∃ v : Int, atI [V.int x, .int y, .int z, .int u] i = some (.int v) ∧ 0 ≤ v ∧ v < m := by
  rcases (show i = 0 ∨ i = 1 ∨ i = 2 ∨ i = 3 by omega) with rfl | rfl | rfl | rfl
  · exact ⟨x, rfl, hx⟩
  · exact ⟨y, rfl, hy⟩
  · exact ⟨z, rfl, hz⟩
  · exact ⟨u, rfl, hu⟩
theorem PlAt.but {H H' : Hp} {f c : Addr} {p : Prt} {w : Way} {n : Int} {ps : List Addr} (h : PlAt H p w ps) (hf : Fd H f c n) (s : But f H H') : PlAt H' p w ps := fun k x hx => by
  obtain ⟨xs, hxs⟩ := hf.at
  exact s _ _ (ne_of (h k x hx) hxs (fun z => nomatch z)) (h k x hx)
theorem stack_of {p : Prt} (ok : PrOk p) (w : Way) {x s : Int} (x0 : 0 ≤ x) (x1 : x < p.cols * p.rows) (s0 : 0 ≤ s) (s1 : s < p.sheets) :
    0 ≤ x * p.sheets + s ∧ x * p.sheets + s < p.many ∧ stackN p w (x * p.sheets + s) = p.num s (pileR p w x) (pileC p w x) := by
  have h1 : 0 ≤ x * p.sheets := Int.mul_nonneg x0 (by omega)
  have h2 : x * p.sheets ≤ (p.cols * p.rows - 1) * p.sheets := Int.mul_le_mul_of_nonneg_right (by omega) (by omega)
  have h3 : (p.cols * p.rows - 1) * p.sheets = p.many - p.sheets := by
    rw [Int.sub_mul, Int.one_mul]
    rfl
  refine ⟨by omega, by omega, ?_⟩
  unfold stackN
  have d : (x * p.sheets + s) / p.sheets = x := by
    rw [Int.add_comm, Int.add_mul_ediv_right _ _ (by omega), Int.ediv_eq_zero_of_lt s0 s1, Int.zero_add]
  have m : (x * p.sheets + s) % p.sheets = s := by
    rw [Int.add_comm, Int.add_mul_emod_self_right, Int.emod_eq_of_lt s0 s1]
  rw [d, m]
theorem sq_keep {K : PySem.W.Frag} {H : Hp} {t l : Addr} {xs zs : List V} {o : HO} (h : SqT K H t xs) (hl : H l = some (.lst zs)) : SqT K (upd H l o) t xs := by
  rcases h with (e | ⟨o', e⟩) | z
  · exact Or.inl (Or.inl ((upd_ne (ne_of e hl (fun z => nomatch z))).trans e))
  · exact Or.inl (Or.inr ⟨o', (upd_ne (ne_of e hl (fun z => nomatch z))).trans e⟩)
  · exact Or.inr z
theorem told_keep {K : PySem.W.Frag} {H : Hp} {t l : Addr} {n : Int} {zs : List V} {o : HO} (h : Dp K H (.ref t) (toldI n)) (hl : H l = some (.lst zs)) : Dp K (upd H l o) (.ref t) (toldI n) := by
  cases h with
  | tup s a =>
    cases a with
    | cons a1 r =>
      cases r with
      | cons a2 r2 =>
        cases r2
        cases a1
        cases a2
        exact .tup (sq_keep s hl) (.cons (.str _) (.cons (.int _) .nil))
section
variable {K : PySem.W.Frag} {H : Hp} {a : Addr} {σ : L2.St} {Q : VK} {xs l r : List V} {i j : Int}
theorem cut_read (hσ : σ[2]? = some (some (.ref a))) (hx : SqT K H a xs) (hl : ¬ (HT.sIx xs.length 0 none = 0 ∧ HT.sIx xs.length xs.length (some i) = xs.length)) (hr : ¬ (HT.sIx xs.length 0 (some j) = 0 ∧ HT.sIx xs.length xs.length none = xs.length))
    (el : cutV xs none (some i) = l) (er : cutV xs (some j) none = r) (nl : l ≠ []) (nr : r ≠ []) (hn : l.length + r.length ≤ 100) (h : ∀ c H', Same H H' → H' c = some (.tup (l ++ [V.int 1] ++ r)) → Q (.ref c) H') :
    tOp (rCatA K) (tOp (rCatA K) (tSl (rSlA K) (tVar 2) tNoPart (tPart (tC (V.int i)))) (tTup (tCons (tC (V.int 1)) tNil))) (tSl (rSlA K) (tVar 2) (tPart (tC (V.int j))) tNoPart) σ H Q := by
  subst el er
  refine ⟨_, hσ, i, rfl, a, xs, rfl, hx, fun z => absurd z hl, fun _ c1 n1 => ⟨(show 1 ≤ sizeLine by decide), fun c2 n2 => ?_⟩⟩
  have N1 := same_new n1 (.tup (cutV xs none (some i)))
  have N2 := same_new n2 (.tup [V.int 1])
  have z1 : ∀ n : Nat, n ≤ 200 → n ≤ sizeLine := fun n hn => Nat.le_trans hn (by decide)
  refine ⟨c1, c2, _, _, rfl, rfl, SqT.of (N2 _ _ upd_same), SqT.of upd_same, z1 _ (by rw [List.length_singleton]; omega), fun z => absurd z nl, fun _ z => absurd z (by simp), fun _ _ c3 n3 => ?_⟩
  have N3 := same_new n3 (.tup (cutV xs none (some i) ++ [V.int 1]))
  have T3 := N1.trans (N2.trans N3)
  refine ⟨_, hσ, j, rfl, a, xs, rfl, SqT.sm T3 hx, fun z => absurd z hr, fun _ c4 n4 => ?_⟩
  have N4 := same_new n4 (.tup (cutV xs (some j) none))
  refine ⟨c3, c4, _, _, rfl, rfl, SqT.of (N4 _ _ upd_same), SqT.of upd_same, z1 _ (by rw [List.length_append, List.length_singleton]; omega), fun z => absurd z (by simp), fun _ z => absurd z nr, fun _ _ c5 n5 => ?_⟩
  exact h c5 _ (T3.trans (N4.trans (same_new n5 _))) upd_same
end
theorem prod_mono {a b c x y z : Int} (x0 : 0 ≤ x) (xa : x ≤ a) (y0 : 0 ≤ y) (yb : y ≤ b) (z0 : 0 ≤ z) (zc : z ≤ c) : x * y * z ≤ a * b * c :=
  Int.mul_le_mul (Int.mul_le_mul xa yb y0 (by omega)) zc z0 (Int.mul_nonneg (by omega) (by omega))
def Prt.oneC (p : Prt) : Prt := { p with cols := 1 }
def Prt.oneR (p : Prt) : Prt := { p with rows := 1 }
def Prt.oneS (p : Prt) : Prt := { p with sheets := 1 }
theorem oneC_ok {p : Prt} (ok : PrOk p) : PrOk p.oneC := by
  have c1 := ok.c1; have r1 := ok.r1; have s1 := ok.s1; have m := ok.most
  have z := prod_mono (a := p.cols) (b := p.rows) (c := p.sheets) (x := 1) (y := p.rows) (z := p.sheets) (by omega) c1 (by omega) (by omega) (by omega) (by omega)
  exact ⟨ok.len, ok.f0, Int.le_refl _, (show (1 : Int) ≤ 12 by decide), ok.r1, ok.r2, ok.s1, ok.s2, (show p.first + 1 * p.rows * p.sheets ≤ 1000000000 by omega), ok.d12, ok.d13, ok.d23, ok.chr⟩
theorem oneR_ok {p : Prt} (ok : PrOk p) : PrOk p.oneR := by
  have c1 := ok.c1; have r1 := ok.r1; have s1 := ok.s1; have m := ok.most
  have z := prod_mono (a := p.cols) (b := p.rows) (c := p.sheets) (x := p.cols) (y := 1) (z := p.sheets) (by omega) (by omega) (by omega) r1 (by omega) (by omega)
  exact ⟨ok.len, ok.f0, ok.c1, ok.c2, Int.le_refl _, (show (1 : Int) ≤ 12 by decide), ok.s1, ok.s2, (show p.first + p.cols * 1 * p.sheets ≤ 1000000000 by omega), ok.d12, ok.d13, ok.d23, ok.chr⟩
theorem oneS_ok {p : Prt} (ok : PrOk p) : PrOk p.oneS := by
  have c1 := ok.c1; have r1 := ok.r1; have s1 := ok.s1; have m := ok.most
  have z := prod_mono (a := p.cols) (b := p.rows) (c := p.sheets) (x := p.cols) (y := p.rows) (z := 1) (by omega) (by omega) (by omega) (by omega) (by omega) s1
  exact ⟨ok.len, ok.f0, ok.c1, ok.c2, ok.r1, ok.r2, Int.le_refl _, (show (1 : Int) ≤ 1000000 by decide), (show p.first + p.cols * p.rows * 1 ≤ 1000000000 by omega), ok.d12, ok.d13, ok.d23, ok.chr⟩
def fourD (p p' : Prt) : PyData := .tuple [.list [prD p, prD p.oneS, prD p.oneC, prD p.oneR], prD p']
theorem fourD_ok {p q : Prt} (ok : PrOk p) (ok' : PrOk q) : (fourD p q).showable = true ∧ (fourD p q).hasDict = false ∧ (fourD p q).depth ≤ 60 ∧ (fourD p q).shown.length ≤ sizeLine := by
  have f : fineD (fourD p q) = true := by
    show ((fineD (prD p) && (fineD (prD p.oneS) && (fineD (prD p.oneC) && (fineD (prD p.oneR) && true)))) && (fineD (prD q) && true)) = true
    rw [ok.fine, (oneS_ok ok).fine, (oneC_ok ok).fine, (oneR_ok ok).fine, ok'.fine]
    rfl
  obtain ⟨h1, h2⟩ := fine_show _ f
  refine ⟨h1, h2, ?_, ?_⟩
  · simp only [fourD, prD, PyData.depth, PyData.depthAll]
    decide +revert
  · have z := shown_cost _ f
    have c1 := ok.cost; have c2 := (oneS_ok ok).cost; have c3 := (oneC_ok ok).cost; have c4 := (oneR_ok ok).cost; have c5 := ok'.cost
    have e : cost (fourD p q) = (cost (prD p) + 2 + (cost (prD p.oneS) + 2 + (cost (prD p.oneC) + 2 + (cost (prD p.oneR) + 2 + 0))) + 3) + 2 + (cost (prD q) + 2 + 0) + 3 := rfl
    rw [sizeLine_eq]
    omega
theorem fourD_dp {K : PySem.W.Frag} {H : Hp} {r l a b c d e : Addr} {p q : Prt} (h : H r = some (.tup [V.ref l, .ref e])) (hl : H l = some (.lst [V.ref a, .ref b, .ref c, .ref d])) (ha : PrAt H a p) (hb : PrAt H b p.oneS) (hc : PrAt H c p.oneC) (hd : PrAt H d p.oneR) (he : PrAt H e q) : Dp K H (.ref r) (fourD p q) :=
  .tup (SqT.of h) (.cons (.lst (SqL.of hl) (.cons ha.dp (.cons hb.dp (.cons hc.dp (.cons hd.dp .nil))))) (.cons he.dp .nil))
/-! ### k05: good RUNS as sets; counting -/
/-- a word: 1 to 8 signs from a to z -/
def WdOk (x : Str) : Prop := 1 ≤ x.cps.size ∧ x.cps.size ≤ 8 ∧ ∀ c ∈ x.cps.toList, 97 ≤ c ∧ c ≤ 122
abbrev Pt := Str × Int
theorem sub_lenW {α : Type} [DecidableEq α] : ∀ {l m : List α}, l.Nodup → (∀ x ∈ l, x ∈ m) → l.length ≤ m.length
  | [], _, _, _ => Nat.zero_le _
  | x :: l, m, h, s => by
    obtain ⟨h1, h2⟩ := List.nodup_cons.mp h
    have hx := s x List.mem_cons_self
    have z := sub_lenW (l := l) (m := m.erase x) h2 fun y hy => (List.mem_erase_of_ne (fun e => h1 (by rw [← e]; exact hy))).mpr (s y (List.mem_cons_of_mem _ hy))
    rw [List.length_erase_of_mem hx] at z
    have : 0 < m.length := List.length_pos_of_mem hx
    rw [List.length_cons]
    omega
structure Gs (T : List Pt) (rs : List Rn) : Prop where
  ca : Canon rs
  ok : ∀ r ∈ rs, RnOk r ∧ WdOk r.1
  ed : ∀ r ∈ rs, (r.1, r.2.1) ∈ T ∧ (r.1, r.2.2) ∈ T
theorem canon_mem {rs : List Rn} (h : Canon rs) {r : Rn} (hr : r ∈ rs) : ¬ has rs r.1 (r.2.1 - 1) ∧ ¬ has rs r.1 r.2.2 := by
  obtain ⟨a, b, rfl⟩ := List.append_of_mem hr
  have f := h.2 r hr
  obtain ⟨pa, pb, pc⟩ := List.pairwise_append.mp h.1
  have pb := (List.pairwise_cons.mp pb).1
  have key : ∀ n, n < r.2.1 → r.2.1 - 1 ≤ n ∨ False → True := fun _ _ _ => trivial
  have far : ∀ x ∈ a ++ r :: b, x.1 = r.1 → (x = r ∨ x.2.2 < r.2.1 ∨ r.2.2 < x.2.1) := fun x hx e => by
    rcases List.mem_append.mp hx with hx | hx
    · rcases (apart_iff _ _).mp (pc x hx r List.mem_cons_self) with ⟨_, z⟩ | z
      · exact .inr (.inl z)
      · rw [e] at z
        exact (sl_irr _ z).elim
    · rcases List.mem_cons.mp hx with hx | hx
      · exact .inl hx
      · rcases (apart_iff _ _).mp (pb x hx) with ⟨_, z⟩ | z
        · exact .inr (.inr z)
        · rw [e] at z
          exact (sl_irr _ z).elim
  constructor
  · rintro ⟨x, hx, e, h1, h2⟩
    rcases far x hx e with rfl | z | z
    · omega
    · omega
    · omega
  · rintro ⟨x, hx, e, h1, h2⟩
    have fx := h.2 x hx
    rcases far x hx e with rfl | z | z
    · omega
    · omega
    · omega
/-- where a set changes there is an end -/
theorem edge {T : List Pt} {rs : List Rn} (h : ∀ r ∈ rs, (r.1, r.2.1) ∈ T ∧ (r.1, r.2.2) ∈ T) {s : Str} {n : Int} (hn : (s, n) ∉ T) : has rs s (n - 1) = has rs s n := propext (by
  constructor
  · rintro ⟨r, hr, e, h1, h2⟩
    refine ⟨r, hr, e, by omega, ?_⟩
    by_cases c : r.2.2 = n
    · exact absurd (by rw [← e, ← c]; exact (h r hr).2) hn
    · omega
  · rintro ⟨r, hr, e, h1, h2⟩
    refine ⟨r, hr, e, ?_, by omega⟩
    by_cases c : r.2.1 = n
    · exact absurd (by rw [← e, ← c]; exact (h r hr).1) hn
    · omega)
theorem gs_op {T : List Pt} {a b c : List Rn} (ha : Gs T a) (hb : Gs T b) (hc : Canon c) (F : Prop → Prop → Prop) (e : ∀ s n, has c s n ↔ F (has a s n) (has b s n)) (no : ¬ F False False) : Gs T c := by
  have e : ∀ s n, has c s n = F (has a s n) (has b s n) := fun s n => propext (e s n)
  have sub : ∀ s n, has c s n → has a s n ∨ has b s n := fun s n h => by
    by_cases h1 : has a s n
    · exact .inl h1
    · by_cases h2 : has b s n
      · exact .inr h2
      · rw [e, eq_false h1, eq_false h2] at h
        exact (no h).elim
  have pos : ∀ {s n}, has c s n → 0 ≤ n ∧ n < 1000000000 ∧ WdOk s := fun {s n} h => by
    rcases sub s n h with ⟨r, hr, rfl, h1, h2⟩ | ⟨r, hr, rfl, h1, h2⟩
    · obtain ⟨⟨o1, o2, o3⟩, o4⟩ := ha.ok r hr
      exact ⟨by omega, by omega, o4⟩
    · obtain ⟨⟨o1, o2, o3⟩, o4⟩ := hb.ok r hr
      exact ⟨by omega, by omega, o4⟩
  refine ⟨hc, fun r hr => ?_, fun r hr => ?_⟩
  · have f := hc.2 r hr
    have h1 : has c r.1 r.2.1 := ⟨r, hr, rfl, Int.le_refl _, f⟩
    have h2 : has c r.1 (r.2.2 - 1) := ⟨r, hr, rfl, by omega, by omega⟩
    obtain ⟨p1, p2, p3⟩ := pos h1
    obtain ⟨q1, q2, q3⟩ := pos h2
    exact ⟨⟨p1, f, by omega⟩, p3⟩
  · have f := hc.2 r hr
    obtain ⟨n1, n2⟩ := canon_mem hc hr
    have chg : ∀ n, (r.1, n) ∉ T → has c r.1 (n - 1) = has c r.1 n := fun n hn => by rw [e, e, edge ha.ed hn, edge hb.ed hn]
    constructor
    · refine Classical.byContradiction fun z => n1 ?_
      rw [chg _ z]
      exact ⟨r, hr, rfl, Int.le_refl _, f⟩
    · refine Classical.byContradiction fun z => n2 ?_
      rw [← chg _ z]
      exact ⟨r, hr, rfl, by omega, by omega⟩
theorem Gs.len {T : List Pt} {rs : List Rn} (h : Gs T rs) : rs.length ≤ T.length := by
  have nd : (rs.map fun r => ((r.1, r.2.1) : Pt)).Nodup := by
    unfold List.Nodup
    rw [List.pairwise_map]
    refine List.Pairwise.imp_of_mem (fun {a b} ha hb hab => ?_) h.ca.1
    intro e
    have e1 : a.1 = b.1 := (Prod.mk.inj e).1
    have e2 : a.2.1 = b.2.1 := (Prod.mk.inj e).2
    have f := h.ca.2 a ha
    rcases (apart_iff _ _).mp hab with ⟨_, z⟩ | z
    · omega
    · rw [e1] at z
      exact sl_irr _ z
  have z := sub_lenW (m := T) nd fun p hp => by
    obtain ⟨r, hr, rfl⟩ := List.mem_map.mp hp
    exact (h.ed r hr).1
  rw [List.length_map] at z
  exact z
theorem Gs.full {T : List Pt} {rs : List Rn} (h : Gs T rs) : Full rs := h.ca.2
structure Gx (T : List Pt) where
  rs : List Rn
  gs : Gs T rs
theorem Gx.ext' {T : List Pt} {a b : Gx T} (h : ∀ s n, has a.rs s n ↔ has b.rs s n) : a = b := by
  obtain ⟨a, ga⟩ := a
  obtain ⟨b, gb⟩ := b
  cases canon_uniq ga.ca gb.ca h
  rfl
theorem full_app {a b : List Rn} (ha : Full a) (hb : Full b) : Full (a ++ b) := fun r hr => (List.mem_append.mp hr).elim (ha r) (hb r)
theorem tog_has {T : List Pt} (a b : Gx T) (s : Str) (n : Int) : has (togL a.rs b.rs) s n ↔ has a.rs s n ∨ has b.rs s n := ((runsOf_ok (full_app a.gs.full b.gs.full)).2 s n).trans (has_app _ _ _ _)
def Gx.tog {T : List Pt} (a b : Gx T) : Gx T := ⟨togL a.rs b.rs, gs_op a.gs b.gs (runsOf_ok (full_app a.gs.full b.gs.full)).1 Or (tog_has a b) (by simp)⟩
def Gx.both {T : List Pt} (a b : Gx T) : Gx T := ⟨bothL a.rs b.rs, gs_op a.gs b.gs (both_ok _ _ a.gs.ca b.gs.ca).1 And (both_ok _ _ a.gs.ca b.gs.ca).2 (by simp)⟩
def Gx.less {T : List Pt} (a b : Gx T) : Gx T := ⟨lessL a.rs b.rs, gs_op a.gs b.gs (less_ok _ _ a.gs.ca b.gs.ca).1 (fun p q => p ∧ ¬ q) (less_ok _ _ a.gs.ca b.gs.ca).2.2 (by simp)⟩
def Gx.nil {T : List Pt} : Gx T := ⟨[], canon_nil, fun _ h => (nomatch h), fun _ h => (nomatch h)⟩
theorem Gx.has_tog {T : List Pt} (a b : Gx T) (s : Str) (n : Int) : has (a.tog b).rs s n ↔ has a.rs s n ∨ has b.rs s n := tog_has a b s n
theorem Gx.has_both {T : List Pt} (a b : Gx T) (s : Str) (n : Int) : has (a.both b).rs s n ↔ has a.rs s n ∧ has b.rs s n := (both_ok _ _ a.gs.ca b.gs.ca).2 s n
theorem Gx.has_less {T : List Pt} (a b : Gx T) (s : Str) (n : Int) : has (a.less b).rs s n ↔ has a.rs s n ∧ ¬ has b.rs s n := (less_ok _ _ a.gs.ca b.gs.ca).2.2 s n
theorem Gx.has_nil {T : List Pt} (s : Str) (n : Int) : has (Gx.nil (T := T)).rs s n ↔ False := ⟨Pn.has_nil s n, False.elim⟩
/-! counting -/
def card (M : Nat) (S : List Str) (P : Str → Nat → Bool) : Nat := (S.map fun s => (List.range M).countP (P s)).sum
theorem card_eq {M : Nat} {S : List Str} {P Q : Str → Nat → Bool} (h : ∀ s n, P s n = Q s n) : card M S P = card M S Q := by
  have e : P = Q := funext fun s => funext fun n => h s n
  rw [e]
theorem countP_or (l : List Nat) (P Q : Nat → Bool) : l.countP (fun n => P n || Q n) + l.countP (fun n => P n && Q n) = l.countP P + l.countP Q := by
  induction l with
  | nil => rfl
  | cons x l ih =>
    simp only [List.countP_cons]
    cases P x <;> cases Q x <;> simp <;> omega
theorem card_or (M : Nat) (S : List Str) (P Q : Str → Nat → Bool) : card M S (fun s n => P s n || Q s n) + card M S (fun s n => P s n && Q s n) = card M S P + card M S Q := by
  unfold card
  induction S with
  | nil => rfl
  | cons s S ih =>
    rw [List.map_cons, List.sum_cons, List.map_cons, List.sum_cons, List.map_cons, List.sum_cons, List.map_cons, List.sum_cons]
    have := countP_or (List.range M) (P s) (Q s)
    dsimp only at ih this ⊢
    omega
theorem countP_none (l : List Nat) : l.countP (fun _ => false) = 0 := by
  induction l with
  | nil => rfl
  | cons x l ih => simp [List.countP_cons, ih]
theorem card_none (M : Nat) (S : List Str) : card M S (fun _ _ => false) = 0 := by
  unfold card
  induction S with
  | nil => rfl
  | cons s S ih =>
    rw [List.map_cons, List.sum_cons]
    have := countP_none (List.range M)
    dsimp only at ih this ⊢
    omega
theorem range_countP : ∀ (M lo hi : Nat), lo ≤ hi → hi ≤ M → (List.range M).countP (fun n => decide (lo ≤ n) && decide (n < hi)) = hi - lo
  | 0, lo, hi, h1, h2 => by
    have : hi = 0 := by omega
    subst this
    simp
  | M + 1, lo, hi, h1, h2 => by
    rw [List.range_succ, List.countP_append, List.countP_singleton]
    by_cases c : hi ≤ M
    · rw [range_countP M lo hi h1 c]
      have : (decide (lo ≤ M) && decide (M < hi)) = false := by simp; omega
      rw [this]
      rfl
    · have e : hi = M + 1 := by omega
      subst e
      by_cases d : lo ≤ M
      · have ih := range_countP M lo M d (Nat.le_refl _)
        have e2 : (List.range M).countP (fun n => decide (lo ≤ n) && decide (n < M + 1)) = (List.range M).countP (fun n => decide (lo ≤ n) && decide (n < M)) := by
          refine List.countP_congr fun n hn => ?_
          have := List.mem_range.mp hn
          simp
          omega
        rw [e2, ih]
        have : (decide (lo ≤ M) && decide (M < M + 1)) = true := by simp [d]
        rw [this]
        show M - lo + 1 = M + 1 - lo
        omega
      · have e3 : lo = M + 1 := by omega
        subst e3
        have e2 : (List.range M).countP (fun n => decide (M + 1 ≤ n) && decide (n < M + 1)) = 0 := by
          rw [List.countP_eq_zero]
          intro n hn
          have := List.mem_range.mp hn
          simp
          try omega
        rw [e2]
        have : (decide (M + 1 ≤ M) && decide (M < M + 1)) = false := by simp
        rw [this]
        simp
def hasN (rs : List Rn) (s : Str) (n : Nat) : Bool := hasB rs s n
theorem card_run {M : Nat} (hM : 1000000000 ≤ M) {S : List Str} (nd : S.Nodup) {r : Rn} (hs : r.1 ∈ S) (ok : RnOk r) : (card M S (hasN [r]) : Int) = cnt r := by
  obtain ⟨o1, o2, o3⟩ := ok
  have e : ∀ s, (List.range M).countP (hasN [r] s) = if r.1 = s then (r.2.2.toNat - r.2.1.toNat) else 0 := fun s => by
    by_cases c : r.1 = s
    · rw [if_pos c, ← range_countP M r.2.1.toNat r.2.2.toNat (by omega) (by omega)]
      refine List.countP_congr fun n _ => ?_
      unfold hasN hasB
      simp [c]
      try omega
    · rw [if_neg c, List.countP_eq_zero]
      intro n _
      unfold hasN hasB
      simp [c]
  have f : card M S (hasN [r]) = r.2.2.toNat - r.2.1.toNat := by
    unfold card
    induction S with
    | nil => exact nomatch hs
    | cons s S ih =>
      rw [List.nodup_cons] at nd
      rw [List.map_cons, List.sum_cons, e]
      by_cases c : r.1 = s
      · rw [if_pos c]
        have z : (S.map fun s => (List.range M).countP (hasN [r] s)).sum = 0 := by
          have : ∀ x ∈ S, (List.range M).countP (hasN [r] x) = 0 := fun x hx => by
            rw [e, if_neg]
            intro z
            exact nd.1 (by rw [← c, z]; exact hx)
          clear ih hs
          induction S with
          | nil => rfl
          | cons y S ih2 =>
            rw [List.map_cons, List.sum_cons, this y List.mem_cons_self, Nat.zero_add]
            exact ih2 ⟨fun z => nd.1 (List.mem_cons_of_mem _ z), (List.nodup_cons.mp nd.2).2⟩ fun x hx => this x (List.mem_cons_of_mem _ hx)
        rw [z]
        rfl
      · rw [if_neg c, Nat.zero_add]
        rcases List.mem_cons.mp hs with h | h
        · exact (c h).elim
        · exact ih nd.2 h
  rw [f]
  unfold cnt
  omega
theorem card_cnt {M : Nat} (hM : 1000000000 ≤ M) {S : List Str} (nd : S.Nodup) : ∀ {rs : List Rn}, Canon rs → (∀ r ∈ rs, RnOk r ∧ r.1 ∈ S) → (card M S (hasN rs) : Int) = cntL rs
  | [], _, _ => by
    have e : card M S (hasN []) = card M S (fun _ _ => false) := rfl
    rw [e, card_none]
    rfl
  | r :: rs, h, ok => by
    have ih := card_cnt hM nd h.tail fun x hx => ok x (List.mem_cons_of_mem _ hx)
    have one := card_run hM nd (ok r List.mem_cons_self).2 (ok r List.mem_cons_self).1
    have z := card_or M S (hasN [r]) (hasN rs)
    have e1 : card M S (fun s n => hasN [r] s n || hasN rs s n) = card M S (hasN (r :: rs)) := card_eq fun s n => by
      unfold hasN hasB
      simp
    have e2 : card M S (fun s n => hasN [r] s n && hasN rs s n) = card M S (fun _ _ => false) := card_eq fun s n => by
      rw [Bool.and_eq_false_iff]
      by_cases c : hasN rs s n = true
      · left
        have k := (hasB_iff rs s n).mp c
        have q := canon_first h k
        unfold hasN hasB
        simp only [List.any_cons, List.any_nil, Bool.or_false, Bool.and_eq_false_iff, decide_eq_false_iff_not]
        rcases q with ⟨q1, q2⟩ | q
        · right
          right
          omega
        · left
          intro z
          rw [z] at q
          exact sl_irr _ q
      · right
        simpa using c
    rw [e1, e2, card_none] at z
    rw [cntL_cons]
    omega
/-- all series of two sets, each once -/
theorem each_once : ∀ l : List Str, ∃ S : List Str, S.Nodup ∧ ∀ x ∈ l, x ∈ S
  | [] => ⟨[], List.nodup_nil, fun _ h => nomatch h⟩
  | x :: l => by
    obtain ⟨S, h1, h2⟩ := each_once l
    by_cases c : x ∈ S
    · exact ⟨S, h1, fun y hy => (List.mem_cons.mp hy).elim (fun e => e ▸ c) (h2 y)⟩
    · exact ⟨x :: S, List.nodup_cons.mpr ⟨c, h1⟩, fun y hy => (List.mem_cons.mp hy).elim (fun e => by rw [e]; exact List.mem_cons_self) fun h => List.mem_cons_of_mem _ (h2 y h)⟩
theorem Gx.count {T : List Pt} (a b : Gx T) : cntL (a.tog b).rs + cntL (a.both b).rs = cntL a.rs + cntL b.rs ∧ cntL (a.less b).rs + cntL (a.both b).rs = cntL a.rs := by
  obtain ⟨S, nd, hS⟩ : ∃ S : List Str, S.Nodup ∧ ∀ p ∈ T, p.1 ∈ S := by
    obtain ⟨S, s1, s2⟩ := each_once (T.map Prod.fst)
    exact ⟨S, s1, fun p hp => s2 _ (List.mem_map.mpr ⟨p, hp, rfl⟩)⟩
  obtain ⟨M, hM⟩ : ∃ M : Nat, 1000000000 ≤ M := ⟨_, Nat.le_refl _⟩
  have c : ∀ x : Gx T, (card M S (hasN x.rs) : Int) = cntL x.rs := fun x => card_cnt hM nd x.gs.ca fun r hr => ⟨(x.gs.ok r hr).1, hS _ (x.gs.ed r hr).1⟩
  have hb : ∀ (x : Gx T) s (n : Nat), hasN x.rs s n = true ↔ has x.rs s n := fun x s n => hasB_iff _ _ _
  have z1 := card_or M S (hasN a.rs) (hasN b.rs)
  have e1 : card M S (fun s n => hasN a.rs s n || hasN b.rs s n) = card M S (hasN (a.tog b).rs) := card_eq fun s n => by
    rw [Bool.eq_iff_iff, Bool.or_eq_true, hb, hb, hb, Gx.has_tog]
  have e2 : card M S (fun s n => hasN a.rs s n && hasN b.rs s n) = card M S (hasN (a.both b).rs) := card_eq fun s n => by
    rw [Bool.eq_iff_iff, Bool.and_eq_true, hb, hb, hb, Gx.has_both]
  have z2 := card_or M S (hasN (a.less b).rs) (hasN (a.both b).rs)
  have e3 : card M S (fun s n => hasN (a.less b).rs s n || hasN (a.both b).rs s n) = card M S (hasN a.rs) := card_eq fun s n => by
    rw [Bool.eq_iff_iff, Bool.or_eq_true, hb, hb, hb, Gx.has_less, Gx.has_both]
    by_cases h1 : has a.rs s n <;> by_cases h2 : has b.rs s n <;> simp [h1, h2]
  have e4 : card M S (fun s n => hasN (a.less b).rs s n && hasN (a.both b).rs s n) = card M S (fun _ _ => false) := card_eq fun s n => by
    rw [Bool.and_eq_false_iff]
    by_cases h2 : has b.rs s n
    · left
      rw [Bool.eq_false_iff]
      intro z
      exact ((Gx.has_less _ _ _ _).mp ((hb _ _ _).mp z)).2 h2
    · right
      rw [Bool.eq_false_iff]
      intro z
      exact h2 ((Gx.has_both _ _ _ _).mp ((hb _ _ _).mp z)).2
  rw [e1, e2] at z1
  rw [e3, e4, card_none] at z2
  have c1 := c a
  have c2 := c b
  have c3 := c (a.tog b)
  have c4 := c (a.both b)
  have c5 := c (a.less b)
  constructor <;> omega
theorem pe_gint {X : Cx} {x : Str} {i : Int} {pos : Pos} (hg : Gl X x) (hm : ∃ t, X.mg x = some (.int i t)) (hd : (x == ("__debug__" : Str)) = false := by decide) : PE X (.Name x pos) (tC (.int i)) := by
  obtain ⟨t, hm⟩ := hm
  exact pe_glob hg hm ⟨t, rfl⟩ hd
/-! where a note is, and which is there -/
theorem pl_kth {s : Str} {n : Int} : ∀ {rs : List Rn} {a k : Int}, Full rs → plL rs s n a = some k → a ≤ k ∧ kL rs (k - a) = some (s, n)
  | [], _, _, _, h => nomatch h
  | r :: rs, a, k, f, h => by
    rw [plL_cons] at h
    have fr := f r List.mem_cons_self
    by_cases c : r.1 = s ∧ r.2.1 ≤ n ∧ n < r.2.2
    · rw [if_pos c] at h
      cases Option.some.inj h
      obtain ⟨c1, c2, c3⟩ := c
      refine ⟨by omega, ?_⟩
      rw [kL_cons, if_pos (by unfold cnt; omega), c1]
      congr 2
      omega
    · rw [if_neg c] at h
      obtain ⟨z1, z2⟩ := pl_kth (rs := rs) (fun x hx => f x (List.mem_cons_of_mem _ hx)) h
      have cn : 0 < cnt r := by unfold cnt; omega
      refine ⟨by omega, ?_⟩
      rw [kL_cons, if_neg (by omega), ← z2]
      congr 1
      omega
theorem pl_kAt {rs : List Rn} {s : Str} {n k : Int} (f : Full rs) (h : plL rs s n 0 = some k) : kAt rs k = some (s, n) := by
  obtain ⟨z1, z2⟩ := pl_kth f h
  unfold kAt
  rw [if_neg (by omega), ← z2, Int.sub_zero]
def plsL : List Rn → Int → List Int
  | [], _ => []
  | r :: rs, a => a :: (a + cnt r - 1) :: plsL rs (a + cnt r)
theorem pls_app (a b : List Rn) (k : Int) : plsL (a ++ b) k = plsL a k ++ plsL b (k + cntL a) := by
  induction a generalizing k with
  | nil =>
    have e : cntL [] = 0 := rfl
    rw [e, Int.add_zero]
    rfl
  | cons r a ih =>
    have e1 : plsL (r :: a ++ b) k = k :: (k + cnt r - 1) :: plsL (a ++ b) (k + cnt r) := rfl
    have e2 : plsL (r :: a) k = k :: (k + cnt r - 1) :: plsL a (k + cnt r) := rfl
    rw [e1, e2, ih, cntL_cons, List.cons_append, List.cons_append, Int.add_assoc]
theorem pls_take {rs : List Rn} {i : Nat} {r : Rn} (h : rs[i]? = some r) : plsL (rs.take (i + 1)) 0 = plsL (rs.take i) 0 ++ [cntL (rs.take i), cntL (rs.take i) + cnt r - 1] := by
  obtain ⟨hi, e⟩ := List.getElem?_eq_some_iff.mp h
  rw [List.take_succ_eq_append_getElem hi, e, pls_app, Int.zero_add]
  rfl
theorem pls_len (rs : List Rn) (a : Int) : (plsL rs a).length = 2 * rs.length := by
  induction rs generalizing a with
  | nil => rfl
  | cons r rs ih =>
    unfold plsL
    rw [List.length_cons, List.length_cons, List.length_cons, ih]
    omega
theorem pls_ge {rs : List Rn} {a : Int} (f : Full rs) : ∀ x ∈ plsL rs a, a ≤ x := by
  induction rs generalizing a with
  | nil => exact fun _ h => nomatch h
  | cons r rs ih =>
    intro x hx
    have fr := f r List.mem_cons_self
    unfold plsL at hx
    rcases List.mem_cons.mp hx with rfl | hx
    · exact Int.le_refl _
    · rcases List.mem_cons.mp hx with rfl | hx
      · unfold cnt
        omega
      · have := ih (fun y hy => f y (List.mem_cons_of_mem _ hy)) x hx
        unfold cnt at this
        omega
theorem pls_up {rs : List Rn} {a : Int} (f : Full rs) : (plsL rs a).Pairwise (· ≤ ·) := by
  induction rs generalizing a with
  | nil => exact List.Pairwise.nil
  | cons r rs ih =>
    have fr := f r List.mem_cons_self
    have f2 : Full rs := fun y hy => f y (List.mem_cons_of_mem _ hy)
    unfold plsL
    refine List.pairwise_cons.mpr ⟨fun x hx => ?_, List.pairwise_cons.mpr ⟨fun x hx => ?_, ih f2⟩⟩
    · rcases List.mem_cons.mp hx with rfl | hx
      · unfold cnt
        omega
      · have := pls_ge f2 x hx
        unfold cnt at this
        omega
    · have := pls_ge f2 x hx
      omega
/-! promises -/
section
variable (K : PySem.W.Frag)
def spNumW : Sp := fun vs H Q _ => ∃ n : Int, vs = [.int n] ∧ Q (.bl true) H
def spFromTo : Sp := fun vs H Q _ => ∃ n lo hi : Int, vs = [.int n, .int lo, .int hi] ∧ lo ≤ n ∧ n ≤ hi ∧ Q (.bl true) H
def spTupW : Sp := fun vs H Q _ => ∃ (p : Addr) (xs : List V) (m : Int), vs = [.ref p, .int m] ∧ Rd H p (.tup xs) ∧ (xs.length : Int) = m ∧ Q (.bl true) H
def spWord (P : Addr) : Sp := fun vs H Q _ => ∃ s : Str, vs = [.str s] ∧ WdOk s ∧ H P = some (TabO P) ∧ ∀ H', Same H H' → Q (.bl true) H'
def spIsRun (P : Addr) : Sp := fun vs H Q _ => ∃ (p : Addr) (r : Rn), vs = [.ref p] ∧ H p = some (.tup (rnV r)) ∧ RnOk r ∧ WdOk r.1 ∧ H P = some (TabO P) ∧ ∀ H', Same H H' → Q (.bl true) H'
def spIsRuns (P1 P2 : Addr) : Sp := fun vs H Q _ => ∃ (a : Addr) (qs : List Addr) (T : List Pt) (x : Gx T), vs = [.ref a] ∧ H a = some (.tup (qs.map V.ref)) ∧ Prd H qs x.rs ∧ x.rs.length ≤ 3000 ∧ H P1 = some (TabO P1) ∧ H P2 = some (TabO P2) ∧ ∀ H', Same H H' → Q (.bl true) H'
def spX2 (F : ∀ {T : List Pt}, Gx T → Gx T → Gx T) : Sp := fun vs H Q _ => ∃ (a b : Addr) (T : List Pt) (x y : Gx T), vs = [.ref a, .ref b] ∧ T.length ≤ 3000 ∧ TpAt K H a x.rs ∧ TpAt K H b y.rs ∧
  ∀ (t : Addr) (qs : List Addr) (H' : Hp), Same H H' → H t = none → H' t = some (.tup (qs.map V.ref)) → Prd H' qs (F x y).rs → Q (.ref t) H'
theorem x2_tog {vs : List V} {H : Hp} {Q : VK} {E : XK} (h : spX2 K Gx.tog vs H Q E) : spTwo K togL vs H Q E := by
  obtain ⟨a, b, T, x, y, rfl, hT, ha, hb, q⟩ := h
  exact ⟨a, b, x.rs, y.rs, rfl, ha, hb, Nat.le_trans x.gs.len hT, Nat.le_trans y.gs.len hT, q⟩
theorem x2_both {vs : List V} {H : Hp} {Q : VK} {E : XK} (h : spX2 K Gx.both vs H Q E) : spTwo K bothL vs H Q E := by
  obtain ⟨a, b, T, x, y, rfl, hT, ha, hb, q⟩ := h
  exact ⟨a, b, x.rs, y.rs, rfl, ha, hb, Nat.le_trans x.gs.len hT, Nat.le_trans y.gs.len hT, q⟩
theorem x2_less {vs : List V} {H : Hp} {Q : VK} {E : XK} (h : spX2 K Gx.less vs H Q E) : spTwo K lessL vs H Q E := by
  obtain ⟨a, b, T, x, y, rfl, hT, ha, hb, q⟩ := h
  exact ⟨a, b, x.rs, y.rs, rfl, ha, hb, Nat.le_trans x.gs.len hT, Nat.le_trans y.gs.len hT, q⟩
def spXin : Sp := fun vs H Q _ => ∃ (a b : Addr) (T : List Pt) (x y : Gx T), vs = [.ref a, .ref b] ∧ T.length ≤ 3000 ∧ TpAt K H a x.rs ∧ TpAt K H b y.rs ∧ ∀ H', Same H H' → Q (.bl (decide ((x.less y).rs = []))) H'
theorem x_in {vs : List V} {H : Hp} {Q : VK} {E : XK} (h : spXin K vs H Q E) : spWithin K vs H Q E := by
  obtain ⟨a, b, T, x, y, rfl, hT, ha, hb, q⟩ := h
  exact ⟨a, b, x.rs, y.rs, rfl, ha, hb, Nat.le_trans x.gs.len hT, Nat.le_trans y.gs.len hT, q⟩
def spXmany (P : Addr) : Sp := fun vs H Q _ => ∃ (a : Addr) (T : List Pt) (x : Gx T), vs = [.ref a] ∧ T.length ≤ 3000 ∧ TpAt K H a x.rs ∧ H P = some (TabO P) ∧ ∀ H', Same H H' → Q (.int (cntL x.rs)) H'
theorem x_many {P : Addr} {vs : List V} {H : Hp} {Q : VK} {E : XK} (h : spXmany K P vs H Q E) : spMany K P vs H Q E := by
  obtain ⟨a, T, x, rfl, hT, ha, hP, q⟩ := h
  exact ⟨a, x.rs, rfl, ha, Nat.le_trans x.gs.len hT, fun r hr => (x.gs.ok r hr).1, hP, q⟩
def spKthN : Sp := fun vs H Q _ => ∃ (a : Addr) (rs : List Rn) (k : Int) (s : Str) (n : Int), vs = [.ref a, .int k] ∧ TpAt K H a rs ∧ kAt rs k = some (s, n) ∧ ∀ t H', Same H H' → H' t = some (.tup [.str s, .int n]) → Q (.ref t) H'
/-- pairs of equal RUNS -/
def PrsEq (H : Hp) (ps : List Addr) : Prop := ∀ p ∈ ps, ∃ (t u : Addr) (rs : List Rn), H p = some (.tup [.ref t, .ref u]) ∧ TpAt K H t rs ∧ TpAt K H u rs
theorem PrsEq.same {H H' : Hp} {ps : List Addr} (s : Same H H') (h : PrsEq K H ps) : PrsEq K H' ps := fun p hp => by
  obtain ⟨t, u, rs, h1, h2, h3⟩ := h p hp
  exact ⟨t, u, rs, s _ _ h1, h2.same s, h3.same s⟩
def spSums : Sp := fun vs H Q _ => ∃ (a b c : Addr) (T : List Pt) (x y z : Gx T), vs = [.ref a, .ref b, .ref c] ∧ T.length ≤ 3000 ∧ TpAt K H a x.rs ∧ TpAt K H b y.rs ∧ TpAt K H c z.rs ∧
  ∀ (l : Addr) (ps : List Addr) (H' : Hp), Same H H' → H' l = some (.lst (ps.map V.ref)) → ps.length ≤ 40 → PrsEq K H' ps → Q (.ref l) H'
def spCounts (P1 P2 P3 : Addr) : Sp := fun vs H Q _ => ∃ (a b : Addr) (T : List Pt) (x y : Gx T), vs = [.ref a, .ref b] ∧ T.length ≤ 3000 ∧ TpAt K H a x.rs ∧ TpAt K H b y.rs ∧ H P1 = some (TabO P1) ∧ H P2 = some (TabO P2) ∧ H P3 = some (TabO P3) ∧ ∀ H', Same H H' → Q (.bl true) H'
def spNotesW : Sp := fun vs H Q _ => ∃ (a : Addr) (T : List Pt) (x : Gx T), vs = [.ref a] ∧ T.length ≤ 3000 ∧ TpAt K H a x.rs ∧
  ∀ (t : Addr) (ps : List Addr) (es : List Nt) (H' : Hp), Same H H' → H' t = some (.lst (ps.map V.ref)) → Nts H' ps es → es.length ≤ 12000 → Q (.ref t) H'
def spHeld : Sp := fun vs H Q _ => ∃ (a b : Addr) (T : List Pt) (x y : Gx T), vs = [.ref a, .ref b] ∧ T.length ≤ 3000 ∧ TpAt K H a x.rs ∧ TpAt K H b y.rs ∧ ∀ H', Same H H' → Q (.bl true) H'
def spRisingW (P : Addr) : Sp := fun vs H Q _ => ∃ (a : Addr) (T : List Pt) (x : Gx T), vs = [.ref a] ∧ T.length ≤ 3000 ∧ TpAt K H a x.rs ∧ H P = some (TabO P) ∧ ∀ H', Same H H' → Q (.bl true) H'
end
def intsW (ns : List Int) : PyData := .list (ns.map .int)
theorem ints_dpW {K : PySem.W.Frag} {H : Hp} {t : Addr} {ns : List Int} (h : SqL K H t (ns.map V.int)) : Dp K H (.ref t) (intsW ns) := by
  refine .lst h ?_
  clear h
  induction ns with
  | nil => exact .nil
  | cons x l ih => exact .cons (.int x) ih
theorem ints_plainW (ns : List Int) : (intsW ns).plain = true := by
  show PyData.plainAll (ns.map .int) = true
  induction ns with
  | nil => rfl
  | cons x l ih =>
    rw [List.map_cons]
    simp only [PyData.plainAll, ih, PyData.plain, Bool.and_self]
theorem ints_depW (ns : List Int) : (intsW ns).depth ≤ 60 := by
  have z : PyData.depthAll (ns.map .int) ≤ 3 := by
    induction ns with
    | nil => simp [PyData.depthAll]
    | cons s l ih => rw [List.map_cons]; simp only [PyData.depthAll, PyData.depth] at *; omega
  simp only [intsW, PyData.depth]
  omega
theorem ints_eqvW (a b : List Int) : PyData.eqv (intsW a) (intsW b) = decide (a = b) := by
  show PyData.eqvAll (a.map .int) (b.map .int) = _
  induction a generalizing b with
  | nil => cases b <;> rfl
  | cons x a ih =>
    cases b with
    | nil => rfl
    | cons y b =>
      have e : PyData.eqvAll ((x :: a).map .int) ((y :: b).map .int) = ((x == y) && PyData.eqvAll (a.map .int) (b.map .int)) := rfl
      rw [e, ih, Bool.eq_iff_iff]
      simp
theorem pls_last {rs : List Rn} (h : rs ≠ []) : ∃ ys, plsL rs 0 = ys ++ [cntL rs - 1] := by
  obtain ⟨i, r, rfl⟩ : ∃ i r, rs = i ++ [r] := (nil_or_snoc rs).resolve_left h
  refine ⟨plsL i 0 ++ [cntL i], ?_⟩
  rw [pls_app, Int.zero_add, cntL_app]
  have e : cntL [r] = cnt r := by
    rw [cntL_cons]
    exact Int.add_zero _
  rw [e, List.append_assoc]
  rfl
theorem pls_first {rs : List Rn} (h : rs ≠ []) : (plsL rs 0)[0]? = some 0 := by
  cases rs with
  | nil => exact (h rfl).elim
  | cons r rs => rfl
theorem abc_atW (i : Int) (h0 : 0 ≤ i) (h1 : i < 26) : ∃ ch, atI abc.cps.toList i = some ch ∧ ch < 16 ^ 8 ∧ 97 ≤ ch ∧ ch ≤ 122 := by
  obtain ⟨k, rfl⟩ : ∃ k : Nat, i = (k : Int) := ⟨i.toNat, by omega⟩
  have hk : k < abc.cps.toList.length := by
    have e : abc.cps.toList.length = 26 := by decide +kernel
    omega
  have all : ∀ c ∈ abc.cps.toList, c < 16 ^ 8 ∧ 97 ≤ c ∧ c ≤ 122 := by decide +kernel
  exact ⟨abc.cps.toList[k], atI_nat (List.getElem?_eq_getElem hk), all _ (List.getElem_mem hk)⟩
theorem wd_list {x : Str} {l : List Nat} (e : x.cps.toList = l) (h1 : 1 ≤ l.length) (h2 : l.length ≤ 8) (h : ∀ c ∈ l, 97 ≤ c ∧ c ≤ 122) : WdOk x := by
  have z : x.cps.size = l.length := by rw [← e, Array.length_toList]
  exact ⟨by omega, by omega, by rw [e]; exact h⟩
theorem mulk_wd {ch : Nat} (k : Int) (h : 97 ≤ ch ∧ ch ≤ 122) (h1 : 1 ≤ k) (h2 : k ≤ 8) : WdOk (Txt.mul ⟨#[ch]⟩ k) := by
  refine wd_list (mul_one_list ch k) ?_ ?_ fun c hc => ?_
  · rw [List.length_replicate]
    omega
  · rw [List.length_replicate]
    omega
  · rw [List.eq_of_mem_replicate hc]
    exact h
theorem mulapp_wd {ch cc : Nat} (k : Int) (h : 97 ≤ ch ∧ ch ≤ 122) (h' : 97 ≤ cc ∧ cc ≤ 122) (h1 : 0 ≤ k) (h2 : k ≤ 7) : WdOk (Txt.mul ⟨#[ch]⟩ k ++ ⟨#[cc]⟩) := by
  have e : (Txt.mul ⟨#[ch]⟩ k ++ ⟨#[cc]⟩ : Str).cps.toList = (Txt.mul ⟨#[ch]⟩ k).cps.toList ++ [cc] := Array.toList_append
  rw [mul_one_list] at e
  refine wd_list e ?_ ?_ fun c hc => ?_
  · rw [List.length_append, List.length_replicate, List.length_singleton]
    omega
  · rw [List.length_append, List.length_replicate, List.length_singleton]
    omega
  · rcases List.mem_append.mp hc with hc | hc
    · rw [List.eq_of_mem_replicate hc]
      exact h
    · rw [List.mem_singleton.mp hc]
      exact h'
theorem signa_wd {ch : Nat} (h : 97 ≤ ch ∧ ch ≤ 122) : WdOk (⟨#[ch]⟩ ++ (("a" : String) : Str)) := by
  have e : (⟨#[ch]⟩ ++ (("a" : String) : Str) : Str).cps.toList = [ch] ++ (("a" : String) : Str).cps.toList := Array.toList_append
  have e2 : (("a" : String) : Str).cps.toList = [97] := by decide +kernel
  rw [e2] at e
  refine wd_list e (show 1 ≤ 2 by decide) (show 2 ≤ 8 by decide) fun c hc => ?_
  simp only [List.cons_append, List.nil_append, List.mem_cons, List.not_mem_nil, or_false] at hc
  omega
def spNamesW : Sp := fun vs H Q _ => ∃ (f c : Addr) (n : Int), vs = [.ref f] ∧ Fd H f c n ∧ n ≤ 900000 ∧
  ∀ (l : Addr) (xs : List Str) (H' : Hp), Fd H' f c (n + 8) → But f H H' → l ≠ f → l ≠ c → H l = none → H' l = some (.lst (xs.map V.str)) → xs.length = 4 → (∀ x ∈ xs, WdOk x) → Q (.ref l) H'
/-! the three sets drawn -/
def pts (rs : List Rn) : List Pt := rs.flatMap fun r => [(r.1, r.2.1), (r.1, r.2.2)]
theorem pts_len (rs : List Rn) : (pts rs).length = 2 * rs.length := by
  induction rs with
  | nil => rfl
  | cons r rs ih =>
    show ([(r.1, r.2.1), (r.1, r.2.2)] ++ pts rs).length = _
    rw [List.length_append, ih, List.length_cons]
    simp only [List.length_cons, List.length_nil]
    omega
theorem pts_in {rs : List Rn} {r : Rn} (h : r ∈ rs) : (r.1, r.2.1) ∈ pts rs ∧ (r.1, r.2.2) ∈ pts rs :=
  ⟨List.mem_flatMap.mpr ⟨r, h, List.mem_cons_self⟩, List.mem_flatMap.mpr ⟨r, h, List.mem_cons_of_mem _ List.mem_cons_self⟩⟩
theorem push_all2 (D : Rn → Prop) (h : ∀ l r : Rn, D l → D r → D (l.1, l.2.1, if r.2.2 > l.2.2 then r.2.2 else l.2.2)) : ∀ (l acc : List Rn), (∀ x ∈ l, D x) → (∀ x ∈ acc, D x) → ∀ x ∈ l.foldl push acc, D x
  | [], acc, _, h2 => h2
  | r :: l, acc, h1, h2 => by
    refine push_all2 D h l _ (fun x hx => h1 x (List.mem_cons_of_mem _ hx)) ?_
    have hr := h1 r List.mem_cons_self
    rcases nil_or_snoc acc with rfl | ⟨i, z, rfl⟩
    · intro x hx
      rw [List.mem_singleton.mp (show x ∈ [r] from hx)]
      exact hr
    · rw [push_snoc]
      split
      · intro x hx
        rcases List.mem_append.mp hx with hx | hx
        · exact h2 x hx
        · rw [List.mem_singleton.mp hx]
          exact hr
      · intro x hx
        rcases List.mem_append.mp hx with hx | hx
        · exact h2 x (List.mem_append_left _ hx)
        · rw [List.mem_singleton.mp hx]
          exact h z r (h2 z (List.mem_append_right _ List.mem_cons_self)) hr
theorem runsOf_all2 {xs : List Str} {rs : List Rn} (h : ∀ r ∈ rs, RnOk r ∧ r.1 ∈ xs) : ∀ r ∈ runsOf rs, RnOk r ∧ r.1 ∈ xs := by
  refine push_all2 (fun r => RnOk r ∧ r.1 ∈ xs) (fun l r hl hr => ?_) _ [] (fun x hx => h x (List.mem_mergeSort.mp hx)) fun _ h => nomatch h
  obtain ⟨⟨a1, a2, a3⟩, a4⟩ := hl
  obtain ⟨⟨b1, b2, b3⟩, b4⟩ := hr
  refine ⟨⟨a1, ?_, ?_⟩, a4⟩
  · show l.2.1 < if r.2.2 > l.2.2 then r.2.2 else l.2.2
    split <;> omega
  · show (if r.2.2 > l.2.2 then r.2.2 else l.2.2) ≤ _
    split <;> omega
/-- a set as it comes from a lot -/
structure Lw (xs : List Str) (rs : List Rn) : Prop where
  ca : Canon rs
  ok : ∀ r ∈ rs, RnOk r ∧ r.1 ∈ xs
  len : rs.length ≤ 60
theorem lw_of {xs : List Str} {rs : List Rn} (h : ∀ r ∈ rs, RnOk r ∧ r.1 ∈ xs) (hl : rs.length ≤ 60) : Lw xs (runsOf rs) :=
  ⟨(runsOf_ok fun r hr => (h r hr).1.2.1).1, runsOf_all2 h, Nat.le_trans (runsOf_len rs) hl⟩
theorem Lw.gs {xs : List Str} {rs : List Rn} {T : List Pt} (h : Lw xs rs) (w : ∀ x ∈ xs, WdOk x) (i : ∀ p ∈ pts rs, p ∈ T) : Gs T rs :=
  ⟨h.ca, fun r hr => ⟨(h.ok r hr).1, w _ (h.ok r hr).2⟩, fun r hr => ⟨i _ (pts_in hr).1, i _ (pts_in hr).2⟩⟩
theorem ofs_gs {T : List Pt} (x : Gx T) (s : Str) : Gs T (ofL s x.rs) :=
  ⟨⟨List.Pairwise.filter _ x.gs.ca.1, fun r hr => x.gs.ca.2 r (List.mem_filter.mp hr).1⟩, fun r hr => x.gs.ok r (List.mem_filter.mp hr).1, fun r hr => x.gs.ed r (List.mem_filter.mp hr).1⟩
def Gx.ofs {T : List Pt} (x : Gx T) (s : Str) : Gx T := ⟨ofL s x.rs, ofs_gs x s⟩
theorem Gx.has_ofs {T : List Pt} (x : Gx T) (s t : Str) (n : Int) : has (x.ofs s).rs t n ↔ has x.rs t n ∧ t = s := by
  constructor
  · rintro ⟨r, hr, e, h⟩
    obtain ⟨h1, h2⟩ := List.mem_filter.mp hr
    exact ⟨⟨r, h1, e, h⟩, e.symm.trans (of_decide_eq_true h2)⟩
  · rintro ⟨⟨r, hr, e, h⟩, z⟩
    exact ⟨r, List.mem_filter.mpr ⟨hr, decide_eq_true (e.trans z)⟩, e, h⟩
/-! a tuple of texts that the module holds -/
def strsB : List Value → List Str → Bool
  | [], [] => true
  | .str x _ :: r, w :: ws => decide (x = w) && strsB r ws
  | _, _ => false
theorem strsB_ok : ∀ {us : List Value} {ws : List Str}, strsB us ws = true → Vals (ws.map V.str) us
  | [], [], _ => .nil
  | .str x t :: r, w :: ws, h => by
    have h : (decide (x = w) && strsB r ws) = true := h
    rw [Bool.and_eq_true, decide_eq_true_eq] at h
    exact .cons ⟨t, by rw [h.1]⟩ (strsB_ok h.2)
def TupK (K : PySem.W.Frag) (x : Str) (ws : List Str) : Prop := ∃ (o : Obj) (its : Array Value) (n : Nat), K.lookup (He.ga K x) = some o ∧ o.cls = .type "tuple" ∧ o.data = .seq its n ∧ its.size ≤ sizeLine ∧ Vals (ws.map V.str) its.toList
def tupB (K : PySem.W.Frag) (x : Str) (ws : List Str) : Bool := match K.lookup (He.ga K x) with
  | some ⟨.type t, _, .seq its _, _⟩ => decide (t = "tuple") && (decide (its.size ≤ 100) && strsB its.toList ws)
  | _ => false
theorem tupB_ok {K : PySem.W.Frag} {x : Str} {ws : List Str} (h : tupB K x ws = true) : TupK K x ws := by
  unfold tupB at h
  split at h
  · rename_i t d its n sl e
    rw [Bool.and_eq_true, Bool.and_eq_true, decide_eq_true_eq, decide_eq_true_eq] at h
    exact ⟨_, its, n, e, by rw [h.1], rfl, Nat.le_trans h.2.1 (by decide), strsB_ok h.2.2⟩
  · cases h
theorem TupK.sq {K : PySem.W.Frag} {x : Str} {ws : List Str} (h : TupK K x ws) (H : Hp) : SqT K H (He.ga K x) (ws.map V.str) := .inr h
/-! ### k10: a whole printing, each number once -/
def spSeatN : Sp := fun vs H Q _ => ∃ (a : Addr) (p : Prt) (n : Int), vs = [.ref a, .int n] ∧ PrAt H a p ∧ PrOk p ∧ p.first ≤ n ∧ n < p.end ∧
  ∀ (f : Wd → Int) (t : Addr) (H' : Hp), SeatIn p f → p.at f = n → Same H H' → H' t = some (.tup (seV (seOf f))) → Q (.ref t) H'
def spStackN : Sp := fun vs H Q _ => ∃ (a : Addr) (p : Prt) (w : Way) (k : Int), vs = [.ref a, .str w.s, .int k] ∧ PrAt H a p ∧ PrOk p ∧ 0 ≤ k ∧ k < p.many ∧ ∀ H', Same H H' → Q (.int (stackN p w k)) H'
def spPlaceN : Sp := fun vs H Q _ => ∃ (a : Addr) (p : Prt) (w : Way) (n : Int), vs = [.ref a, .str w.s, .int n] ∧ PrAt H a p ∧ PrOk p ∧ p.first ≤ n ∧ n < p.end ∧
  ∀ (f : Wd → Int) (H' : Hp), SeatIn p f → p.at f = n → Same H H' → Q (.int (placeN p w f)) H'
def spPrintW : Sp := fun vs H Q _ => ∃ (f c : Addr) (n k : Int), vs = [.ref f, .int k] ∧ Fd H f c n ∧ n ≤ 800000 ∧ (k = 0 ∨ k = 1) ∧
  ∀ (a : Addr) (p : Prt) (H' : Hp), Fd H' f c (n + 20) → But f H H' → PrAt H' a p → PrOk p → (k = 1 → p.cols ≤ 4 ∧ p.rows ≤ 4 ∧ p.sheets ≤ 6) → WdOk p.series → Q (.ref a) H'
def spOrdW (P : Addr) : Sp := fun vs H Q _ => ∃ (t : Addr) (p : Prt), vs = [.ref t] ∧ Rd H t (.tup (ordV p)) ∧ PrOk p ∧ H P = some (TabO P) ∧ ∀ H', Same H H' → Q (.bl true) H'
def spIsPr (P1 P2 : Addr) : Sp := fun vs H Q _ => ∃ (a : Addr) (p : Prt), vs = [.ref a] ∧ PrAt H a p ∧ PrOk p ∧ WdOk p.series ∧ H P1 = some (TabO P1) ∧ H P2 = some (TabO P2) ∧ ∀ H', Same H H' → Q (.bl true) H'
theorem ord_has {p : Prt} (ok : PrOk p) (u : Wd) : inV (.str u.s) (ordV p) = true := by
  unfold inV ordV
  rcases three ok u with rfl | rfl | rfl
  · simp [eqV]
  · simp [eqV]
  · simp [eqV]
/-- the seats in the order of sheets, rows, columns -/
def rowS (p : Prt) (s r : Int) : List Se := (List.range p.cols.toNat).map fun (c : Nat) => ((s, r, (c : Int)) : Se)
def sheetS (p : Prt) (s : Int) (m : Nat) : List Se := (List.range m).flatMap fun (r : Nat) => rowS p s r
def allS (p : Prt) (k : Nat) : List Se := (List.range k).flatMap fun (s : Nat) => sheetS p s p.rows.toNat
theorem sheetS_more (p : Prt) (s : Int) (m : Nat) : sheetS p s (m + 1) = sheetS p s m ++ rowS p s m := by
  unfold sheetS
  rw [List.range_succ, List.flatMap_append, List.flatMap_singleton]
theorem allS_more (p : Prt) (k : Nat) : allS p (k + 1) = allS p k ++ sheetS p k p.rows.toNat := by
  unfold allS
  rw [List.range_succ, List.flatMap_append, List.flatMap_singleton]
theorem rowS_len (p : Prt) (s r : Int) : (rowS p s r).length = p.cols.toNat := by
  unfold rowS
  rw [List.length_map, List.length_range]
theorem sheetS_len (p : Prt) (s : Int) (m : Nat) : (sheetS p s m).length = m * p.cols.toNat := by
  induction m with
  | zero => simp [sheetS]
  | succ m ih => rw [sheetS_more, List.length_append, ih, rowS_len, Nat.succ_mul]
theorem allS_len (p : Prt) (k : Nat) : (allS p k).length = k * (p.rows.toNat * p.cols.toNat) := by
  induction k with
  | zero => simp [allS]
  | succ k ih => rw [allS_more, List.length_append, ih, sheetS_len, Nat.succ_mul]
theorem mem_row {p : Prt} {s r : Int} {e : Se} : e ∈ rowS p s r ↔ e.1 = s ∧ e.2.1 = r ∧ 0 ≤ e.2.2 ∧ e.2.2 < p.cols.toNat := by
  unfold rowS
  rw [List.mem_map]
  constructor
  · rintro ⟨c, hc, rfl⟩
    have := List.mem_range.mp hc
    exact ⟨rfl, rfl, by show 0 ≤ (c : Int); omega, by show (c : Int) < _; omega⟩
  · rintro ⟨h1, h2, h3, h4⟩
    obtain ⟨e1, e2, e3⟩ := e
    refine ⟨e3.toNat, List.mem_range.mpr (by dsimp only at *; omega), ?_⟩
    dsimp only at *
    rw [h1, h2]
    congr 2
    omega
theorem mem_sheet {p : Prt} {s : Int} {m : Nat} {e : Se} : e ∈ sheetS p s m ↔ e.1 = s ∧ 0 ≤ e.2.1 ∧ e.2.1 < m ∧ 0 ≤ e.2.2 ∧ e.2.2 < p.cols.toNat := by
  unfold sheetS
  rw [List.mem_flatMap]
  constructor
  · rintro ⟨r, hr, h⟩
    have := List.mem_range.mp hr
    obtain ⟨h1, h2, h3, h4⟩ := mem_row.mp h
    exact ⟨h1, by omega, by omega, h3, h4⟩
  · rintro ⟨h1, h2, h3, h4, h5⟩
    exact ⟨e.2.1.toNat, List.mem_range.mpr (by omega), mem_row.mpr ⟨h1, by omega, h4, h5⟩⟩
theorem mem_all {p : Prt} {k : Nat} {e : Se} : e ∈ allS p k ↔ 0 ≤ e.1 ∧ e.1 < k ∧ 0 ≤ e.2.1 ∧ e.2.1 < p.rows.toNat ∧ 0 ≤ e.2.2 ∧ e.2.2 < p.cols.toNat := by
  unfold allS
  rw [List.mem_flatMap]
  constructor
  · rintro ⟨s, hs, h⟩
    have := List.mem_range.mp hs
    obtain ⟨h1, h2, h3, h4, h5⟩ := mem_sheet.mp h
    exact ⟨by omega, by omega, h2, h3, h4, h5⟩
  · rintro ⟨h1, h2, h3, h4, h5, h6⟩
    exact ⟨e.1.toNat, List.mem_range.mpr (by omega), mem_sheet.mpr ⟨by omega, h3, h4, h5, h6⟩⟩
theorem row_nodup (p : Prt) (s r : Int) : (rowS p s r).Nodup := by
  unfold rowS List.Nodup
  rw [List.pairwise_map]
  refine List.Pairwise.imp (fun {a b} h e => ?_) (List.nodup_range (n := p.cols.toNat))
  exact h (Int.ofNat.inj (congrArg (fun z : Se => z.2.2) e))
theorem sheet_nodup (p : Prt) (s : Int) (m : Nat) : (sheetS p s m).Nodup := by
  unfold sheetS List.Nodup
  rw [List.pairwise_flatMap]
  refine ⟨fun r _ => row_nodup p s r, List.Pairwise.imp (fun {a b} h x hx y hy e => ?_) (List.nodup_range (n := m))⟩
  have h1 := (mem_row.mp hx).2.1
  have h2 := (mem_row.mp hy).2.1
  rw [e] at h1
  exact h (Int.ofNat.inj (h1.symm.trans h2))
theorem all_nodup (p : Prt) (k : Nat) : (allS p k).Nodup := by
  unfold allS List.Nodup
  rw [List.pairwise_flatMap]
  refine ⟨fun s _ => sheet_nodup p s _, List.Pairwise.imp (fun {a b} h x hx y hy e => ?_) (List.nodup_range (n := k))⟩
  have h1 := (mem_sheet.mp hx).1
  have h2 := (mem_sheet.mp hy).1
  rw [e] at h1
  exact h (Int.ofNat.inj (h1.symm.trans h2))
theorem all_in {p : Prt} {e : Se} (h : e ∈ allS p p.sheets.toNat) : SeatIn p (wOf e) := by
  obtain ⟨h1, h2, h3, h4, h5, h6⟩ := mem_all.mp h
  obtain ⟨s, r, c⟩ := e
  dsimp only at h1 h2 h3 h4 h5 h6
  exact seatIn_of h1 (by omega) h3 (by omega) h5 (by omega)
/-- n different ints of lo .. lo + n are all of them -/
theorem all_of {l : List Int} {lo : Int} {n : Nat} (nd : l.Nodup) (len : l.length = n) (h : ∀ x ∈ l, lo ≤ x ∧ x < lo + n) : l.Perm ((List.range n).map fun (k : Nat) => lo + k) := by
  have nd2 : ((List.range n).map fun (k : Nat) => lo + (k : Int)).Nodup := by
    unfold List.Nodup
    rw [List.pairwise_map]
    exact List.Pairwise.imp (fun {a b} h e => h (by omega)) (List.nodup_range (n := n))
  have sub : ∀ x ∈ l, x ∈ (List.range n).map fun (k : Nat) => lo + (k : Int) := fun x hx => by
    obtain ⟨h1, h2⟩ := h x hx
    exact List.mem_map.mpr ⟨(x - lo).toNat, List.mem_range.mpr (by omega), by omega⟩
  refine (List.perm_ext_iff_of_nodup nd nd2).mpr fun x => ⟨sub x, fun hx => ?_⟩
  refine Classical.byContradiction fun no => ?_
  have z := sub_lenW (l := x :: l) (m := (List.range n).map fun (k : Nat) => lo + (k : Int)) (List.nodup_cons.mpr ⟨no, nd⟩) fun y hy => by
    rcases List.mem_cons.mp hy with rfl | hy
    · exact hx
    · exact sub y hy
  rw [List.length_cons, len, List.length_map, List.length_range] at z
  omega
def spAllS : Sp := fun vs H Q _ => ∃ (a : Addr) (p : Prt), vs = [.ref a] ∧ PrAt H a p ∧ PrOk p ∧ p.small ∧
  ∀ (l : Addr) (ps : List Addr) (H' : Hp), Same H H' → H' l = some (.lst (ps.map V.ref)) → Ses H' ps (allS p p.sheets.toNat) → Q (.ref l) H'
def spPilesS : Sp := fun vs H Q _ => ∃ (a : Addr) (p : Prt), vs = [.ref a] ∧ PrAt H a p ∧ PrOk p ∧ p.small ∧ ∀ H', Same H H' → Q (.bl true) H'
def spStackW : Sp := fun vs H Q _ => ∃ (a : Addr) (p : Prt) (w : Way), vs = [.ref a, .str w.s] ∧ PrAt H a p ∧ PrOk p ∧ p.small ∧ ∀ H', Same H H' → Q (.bl true) H'
def pileN (p : Prt) (r c : Int) (n : Nat) : List Int := (List.range n).map fun (s : Nat) => p.num s r c
theorem pileN_more (p : Prt) (r c : Int) (n : Nat) : pileN p r c (n + 1) = pileN p r c n ++ [p.num n r c] := by
  unfold pileN
  rw [List.range_succ, List.map_append]
  rfl
def upN (n : Nat) : List Int := (List.range n).map fun (k : Nat) => (k : Int)
theorem upN_more (n : Nat) : upN (n + 1) = upN n ++ [(n : Int)] := by
  unfold upN
  rw [List.range_succ, List.map_append]
  rfl
theorem upN_len (n : Nat) : (upN n).length = n := by
  unfold upN
  rw [List.length_map, List.length_range]
theorem pileN_len (p : Prt) (r c : Int) (n : Nat) : (pileN p r c n).length = n := by
  unfold pileN
  rw [List.length_map, List.length_range]
def loN (lo : Int) (n : Nat) : List Int := (List.range n).map fun (k : Nat) => lo + (k : Int)
theorem rgV_is (a b : Int) : rgV a b = (loN a (b - a).toNat).map V.int := by
  unfold rgV loN
  rw [List.map_map]
  rfl
theorem loN_up (lo : Int) (n : Nat) : (loN lo n).Pairwise (· ≤ ·) := by
  unfold loN
  rw [List.pairwise_map]
  exact List.Pairwise.imp (fun {a b} h => by omega) (List.pairwise_lt_range (n := n))
theorem numsW_more (p : Prt) (w : Way) (n : Nat) : numsW p w (n + 1) = numsW p w n ++ [stackN p w n] := by
  unfold numsW
  rw [List.range_succ, List.map_append]
  rfl
theorem many_toNat {p : Prt} (ok : PrOk p) : p.many.toNat = p.piles * p.sheets.toNat ∧ (p.many.toNat : Int) = p.many := by
  have s1 := ok.s1
  have e := many_nat ok (S := p.sheets.toNat) (by omega)
  omega
theorem small_many2 {p : Prt} (ok : PrOk p) (sm : p.small) : p.many ≤ 96 := by
  have z := small_many ok sm
  have e := many_toNat ok
  omega
theorem numsW_perm {p : Prt} (ok : PrOk p) (w : Way) : (numsW p w p.many.toNat).Perm (loN p.first p.many.toNat) := by
  obtain ⟨_, e⟩ := many_toNat ok
  refine all_of ?_ (numsW_len _ _ _) fun x hx => ?_
  · unfold numsW List.Nodup
    rw [List.pairwise_map]
    refine List.Pairwise.imp_of_mem (fun {a b} ha hb h e2 => ?_) (List.nodup_range (n := p.many.toNat))
    have ha := List.mem_range.mp ha
    have hb := List.mem_range.mp hb
    have z := stack_inj ok w (by omega) (by omega) (by omega) (by omega) e2
    omega
  · unfold numsW at hx
    obtain ⟨k, hk, rfl⟩ := List.mem_map.mp hx
    have hk := List.mem_range.mp hk
    have z := at_range ok (stackS_in ok w (k := (k : Int)) (by omega) (by omega))
    rw [← stackN_at] at z
    have f : p.end = p.first + p.cols * p.rows * p.sheets := rfl
    have g : p.many = p.cols * p.rows * p.sheets := rfl
    constructor
    · omega
    · omega
def spFarW (P : Addr) : Sp := fun vs H Q _ => ∃ (f c a : Addr) (p : Prt) (n : Int), vs = [.ref f, .ref a] ∧ Fd H f c n ∧ n ≤ 700000 ∧ PrAt H a p ∧ PrOk p ∧ H P = some (TabO P) ∧ ∀ H', Fd H' f c (n + 24) → But f H H' → Q (.bl true) H'
def spSheetsW (P : Addr) : Sp := fun vs H Q _ => ∃ (a : Addr) (p : Prt), vs = [.ref a] ∧ PrAt H a p ∧ PrOk p ∧ p.small ∧ H P = some (TabO P) ∧ ∀ H', Same H H' → Q (.bl true) H'
theorem mem_on {p : Prt} {s n : Int} : n ∈ numsOn p s ↔ ∃ r c : Int, 0 ≤ r ∧ r < p.rows ∧ 0 ≤ c ∧ c < p.cols ∧ n = p.num s r c := by
  unfold numsOn rowNums
  rw [List.mem_flatMap]
  constructor
  · rintro ⟨r, hr, h⟩
    obtain ⟨c, hc, rfl⟩ := List.mem_map.mp h
    have := List.mem_range.mp hr
    have := List.mem_range.mp hc
    exact ⟨r, c, by omega, by omega, by omega, by omega, rfl⟩
  · rintro ⟨r, c, h1, h2, h3, h4, rfl⟩
    refine ⟨r.toNat, List.mem_range.mpr (by omega), List.mem_map.mpr ⟨c.toNat, List.mem_range.mpr (by omega), ?_⟩⟩
    rw [Int.toNat_of_nonneg h1, Int.toNat_of_nonneg h3]
theorem single_has {s : Str} {ns : List Int} {t : Str} {n : Int} : has (ns.map (single s)) t n ↔ t = s ∧ n ∈ ns := by
  constructor
  · rintro ⟨r, hr, e, h1, h2⟩
    obtain ⟨m, hm, rfl⟩ := List.mem_map.mp hr
    have h1 : m ≤ n := h1
    have h2 : n < m + 1 := h2
    have : n = m := by omega
    subst this
    exact ⟨e.symm, hm⟩
  · rintro ⟨rfl, h⟩
    exact ⟨single t n, List.mem_map.mpr ⟨n, h, rfl⟩, rfl, Int.le_refl _, by show n < n + 1; omega⟩
theorem single_full (s : Str) (ns : List Int) : Full (ns.map (single s)) := fun r hr => by
  obtain ⟨m, _, rfl⟩ := List.mem_map.mp hr
  show m < m + 1
  omega
theorem stack_ofE {p : Prt} (ok : PrOk p) (w : Way) {f : Wd → Int} (h : SeatIn p f) : ∃ k : Nat, (k : Int) < p.many ∧ placeN p w f = k ∧ stackN p w k = p.at f := by
  obtain ⟨_, mi⟩ := many_toNat ok
  obtain ⟨r1, r2⟩ := at_range ok h
  have me : p.cols * p.rows * p.sheets = p.many := rfl
  have z : p.at f ∈ numsW p w p.many.toNat := (numsW_perm ok w).mem_iff.mpr (List.mem_map.mpr ⟨(p.at f - p.first).toNat, List.mem_range.mpr (by omega), by omega⟩)
  obtain ⟨k, hk, e⟩ := List.mem_map.mp z
  have hk := List.mem_range.mp hk
  have sin := stackS_in ok w (k := (k : Int)) (by omega) (by omega)
  have ff : stackS p w k = f := at_inj ok sin h e
  exact ⟨k, by omega, by rw [← ff]; exact place_back p w k, e⟩
theorem seat_any {p : Prt} (ok : PrOk p) {n : Int} (h1 : p.first ≤ n) (h2 : n < p.end) : ∃ f, SeatIn p f ∧ p.at f = n := by
  obtain ⟨_, mi⟩ := many_toNat ok
  have me : p.end = p.first + p.many := rfl
  have z : n ∈ numsW p .rows p.many.toNat := (numsW_perm ok .rows).mem_iff.mpr (List.mem_map.mpr ⟨(n - p.first).toNat, List.mem_range.mpr (by omega), by omega⟩)
  obtain ⟨k, hk, e⟩ := List.mem_map.mp z
  have hk := List.mem_range.mp hk
  exact ⟨_, stackS_in ok .rows (k := (k : Int)) (by omega) (by omega), e⟩
theorem on_at {p : Prt} {f : Wd → Int} (h : SeatIn p f) : p.at f ∈ numsOn p (f .sh) := mem_on.mpr ⟨f .ro, f .co, (h .ro).1, (h .ro).2, (h .co).1, (h .co).2, rfl⟩
theorem on_sheet {p : Prt} (ok : PrOk p) {s t n : Int} (hs : 0 ≤ s ∧ s < p.sheets) (ht : 0 ≤ t ∧ t < p.sheets) (h1 : n ∈ numsOn p s) (h2 : n ∈ numsOn p t) : s = t := by
  obtain ⟨r, c, a1, a2, a3, a4, e1⟩ := mem_on.mp h1
  obtain ⟨r', c', b1, b2, b3, b4, e2⟩ := mem_on.mp h2
  have z := at_inj ok (seatIn_of (p := p) hs.1 hs.2 a1 a2 a3 a4) (seatIn_of (p := p) ht.1 ht.2 b1 b2 b3 b4) (e1.symm.trans e2)
  exact congrFun z .sh
theorem on_range {p : Prt} (ok : PrOk p) {s n : Int} (hs : 0 ≤ s ∧ s < p.sheets) (h1 : n ∈ numsOn p s) : p.first ≤ n ∧ n < p.end := by
  obtain ⟨r, c, a1, a2, a3, a4, e1⟩ := mem_on.mp h1
  have z := at_range ok (seatIn_of (p := p) hs.1 hs.2 a1 a2 a3 a4)
  rw [e1]
  exact z
theorem on_len {p : Prt} (ok : PrOk p) (s : Int) : ((numsOn p s).length : Int) = p.cols * p.rows := by
  have c1 := ok.c1; have r1 := ok.r1
  rw [← numsTo_all, numsTo_len, Nat.add_zero, Int.natCast_mul, Int.toNat_of_nonneg (by omega), Int.toNat_of_nonneg (by omega), Int.mul_comm]
/-- how many: different numbers, each a run of one -/
theorem cnt_singles {s : Str} {ns : List Int} (nd : ns.Nodup) (h : ∀ n ∈ ns, 0 ≤ n ∧ n < 1000000000) : cntL (runsOf (ns.map (single s))) = ns.length := by
  obtain ⟨ca, hs⟩ := runsOf_ok (single_full s ns)
  obtain ⟨M, hM⟩ : ∃ M : Nat, M = 1000000000 := ⟨_, rfl⟩
  have ok : ∀ r ∈ runsOf (ns.map (single s)), RnOk r ∧ r.1 ∈ [s] := runsOf_all2 (xs := [s]) fun r hr => by
    obtain ⟨n, hn, rfl⟩ := List.mem_map.mp hr
    have := h n hn
    exact ⟨⟨this.1, by show n < n + 1; omega, by show n + 1 ≤ _; omega⟩, List.mem_cons_self⟩
  rw [← card_cnt (M := M) (by omega) (S := [s]) (by simp) ca ok]
  have e : card M [s] (hasN (runsOf (ns.map (single s)))) = ((List.range M).filter fun (n : Nat) => decide ((n : Int) ∈ ns)).length := by
    unfold card
    rw [List.map_singleton, List.sum_singleton, List.countP_eq_length_filter]
    congr 1
    refine List.filter_congr fun n _ => ?_
    unfold hasN
    rw [Bool.eq_iff_iff, hasB_iff, hs, single_has, decide_eq_true_eq]
    exact ⟨fun z => z.2, fun z => ⟨rfl, z⟩⟩
  rw [e]
  have pm : (((List.range M).filter fun (n : Nat) => decide ((n : Int) ∈ ns)).map fun (n : Nat) => (n : Int)).Perm ns := by
    refine (List.perm_ext_iff_of_nodup ?_ nd).mpr fun x => ?_
    · unfold List.Nodup
      rw [List.pairwise_map]
      exact List.Pairwise.imp (fun {a b} h e => h (Int.ofNat.inj e)) (List.Pairwise.filter _ (List.nodup_range (n := M)))
    · rw [List.mem_map]
      constructor
      · rintro ⟨n, hn, rfl⟩
        exact of_decide_eq_true (List.mem_filter.mp hn).2
      · intro hx
        have := h x hx
        exact ⟨x.toNat, List.mem_filter.mpr ⟨List.mem_range.mpr (by omega), decide_eq_true (by rw [Int.toNat_of_nonneg this.1]; exact hx)⟩, Int.toNat_of_nonneg this.1⟩
  have z := pm.length_eq
  rw [List.length_map] at z
  rw [z]
def numE (p : Prt) (e : Se) : Int := p.num e.1 e.2.1 e.2.2
theorem allS_perm {p : Prt} (ok : PrOk p) : ((allS p p.sheets.toNat).map (numE p)).Perm (loN p.first p.many.toNat) := by
  have c1 := ok.c1; have r1 := ok.r1; have s1 := ok.s1
  obtain ⟨_, mi⟩ := many_toNat ok
  have me : p.many = p.cols * p.rows * p.sheets := rfl
  have pe : p.end = p.first + p.many := rfl
  refine all_of ?_ ?_ fun x hx => ?_
  · unfold List.Nodup
    rw [List.pairwise_map]
    refine List.Pairwise.imp_of_mem (fun {a b} ha hb h e => h ?_) (all_nodup p p.sheets.toNat)
    have z := at_inj ok (all_in ha) (all_in hb) e
    obtain ⟨a1, a2, a3⟩ := a
    obtain ⟨b1, b2, b3⟩ := b
    have z1 : a1 = b1 := congrFun z .sh
    have z2 : a2 = b2 := congrFun z .ro
    have z3 : a3 = b3 := congrFun z .co
    rw [z1, z2, z3]
  · rw [List.length_map, allS_len]
    have z : ((p.sheets.toNat * (p.rows.toNat * p.cols.toNat) : Nat) : Int) = p.many := by
      rw [Int.natCast_mul, Int.natCast_mul, Int.toNat_of_nonneg (by omega), Int.toNat_of_nonneg (by omega), Int.toNat_of_nonneg (by omega), me, Int.mul_comm p.rows p.cols, Int.mul_comm]
    omega
  · obtain ⟨e, he, rfl⟩ := List.mem_map.mp hx
    have z := at_range ok (all_in he)
    have z2 : p.first ≤ numE p e ∧ numE p e < p.first + p.cols * p.rows * p.sheets := z
    omega
theorem allS_ne {p : Prt} (ok : PrOk p) : allS p p.sheets.toNat ≠ [] := fun h => by
  have c1 := ok.c1; have r1 := ok.r1; have s1 := ok.s1
  have z : ((0, 0, 0) : Se) ∈ allS p p.sheets.toNat := mem_all.mpr ⟨by decide, by show (0 : Int) < _; omega, by decide, by show (0 : Int) < _; omega, by decide, by show (0 : Int) < _; omega⟩
  rw [h] at z
  exact nomatch z
def top (i : Nat) : Stmt := PySem.Challenge.pw_pressnotes_k10_whole_printing_each_once.main.body.getD i (.Pass ⟨0, 0, 0, 0⟩)
abbrev s_is_number : Stmt := top 4
abbrev s_is_from_to : Stmt := top 5
abbrev s_is_word : Stmt := top 6
abbrev s_is_tuple_of : Stmt := top 7
abbrev s_is_apart : Stmt := top 10
abbrev s_runs_of : Stmt := top 11
abbrev s_many_in : Stmt := top 12
abbrev s_is_order : Stmt := top 15
abbrev s_is_printing : Stmt := top 16
abbrev s_how_many : Stmt := top 17
abbrev s_printed : Stmt := top 18
abbrev s_number_at : Stmt := top 19
abbrev s_seat_of : Stmt := top 20
abbrev s_numbers_on : Stmt := top 21
abbrev s_runs_of_numbers : Stmt := top 22
abbrev s_sheet_runs : Stmt := top 23
abbrev s_pile : Stmt := top 24
abbrev s_together : Stmt := top 26
abbrev s_both : Stmt := top 27
abbrev s_pile_seat : Stmt := top 29
abbrev s_pile_place : Stmt := top 30
abbrev s_stack_at : Stmt := top 31
abbrev s_stack_place : Stmt := top 32
abbrev s_is_rising : Stmt := top 33
abbrev s_spoilt_by : Stmt := top 34
abbrev s_lfeed : Stmt := top 36
abbrev s_ldraw : Stmt := top 37
abbrev s_lorder : Stmt := top 38
abbrev s_lprinting : Stmt := top 39
abbrev s_lall_seats : Stmt := top 40
abbrev s_lsheets : Stmt := top 41
abbrev s_lstack : Stmt := top 42
abbrev s_lpiles : Stmt := top 43
abbrev s_lfar : Stmt := top 44
abbrev s_law : Stmt := top 45
theorem sc_is_number : FnScope ["thing"] ["thing"] (defScope s_is_number) := ⟨rfl, rfl, rfl, by decide +kernel, rfl, by decide +kernel, by decide +kernel⟩
theorem sc_is_from_to : FnScope ["thing", "least", "most"] ["thing", "least", "most"] (defScope s_is_from_to) := ⟨rfl, rfl, rfl, by decide +kernel, rfl, by decide +kernel, by decide +kernel⟩
theorem sc_is_word : FnScope ["thing", "sign"] ["thing"] (defScope s_is_word) := ⟨rfl, rfl, rfl, by decide +kernel, rfl, by decide +kernel, by decide +kernel⟩
theorem sc_is_tuple_of : FnScope ["thing", "many"] ["thing", "many"] (defScope s_is_tuple_of) := ⟨rfl, rfl, rfl, by decide +kernel, rfl, by decide +kernel, by decide +kernel⟩
theorem sc_is_apart : FnScope ["run", "later"] ["run", "later"] (defScope s_is_apart) := ⟨rfl, rfl, rfl, by decide +kernel, rfl, by decide +kernel, by decide +kernel⟩
theorem sc_runs_of : FnScope ["some", "found", "run", "series", "low", "high"] ["some"] (defScope s_runs_of) := ⟨rfl, rfl, rfl, by decide +kernel, rfl, by decide +kernel, by decide +kernel⟩
theorem sc_many_in : FnScope ["runs", "series", "low", "high"] ["runs"] (defScope s_many_in) := ⟨rfl, rfl, rfl, by decide +kernel, rfl, by decide +kernel, by decide +kernel⟩
theorem sc_is_order : FnScope ["thing", "word"] ["thing"] (defScope s_is_order) := ⟨rfl, rfl, rfl, by decide +kernel, rfl, by decide +kernel, by decide +kernel⟩
theorem sc_is_printing : FnScope ["thing", "series", "first", "columns", "rows", "sheets", "order"] ["thing"] (defScope s_is_printing) := ⟨rfl, rfl, rfl, by decide +kernel, rfl, by decide +kernel, by decide +kernel⟩
theorem sc_how_many : FnScope ["printing"] ["printing"] (defScope s_how_many) := ⟨rfl, rfl, rfl, by decide +kernel, rfl, by decide +kernel, by decide +kernel⟩
theorem sc_printed : FnScope ["printing", "series", "first", "columns", "rows", "sheets", "order"] ["printing"] (defScope s_printed) := ⟨rfl, rfl, rfl, by decide +kernel, rfl, by decide +kernel, by decide +kernel⟩
theorem sc_number_at : FnScope ["printing", "sheet", "row", "column", "many", "seat", "outer", "middle", "inner", "place"] ["printing", "sheet", "row", "column"] (defScope s_number_at) := ⟨rfl, rfl, rfl, by decide +kernel, rfl, by decide +kernel, by decide +kernel⟩
theorem sc_seat_of : FnScope ["printing", "number", "series", "low", "high", "many", "outer", "middle", "inner", "seat", "rest"] ["printing", "number"] (defScope s_seat_of) := ⟨rfl, rfl, rfl, by decide +kernel, rfl, by decide +kernel, by decide +kernel⟩
theorem sc_numbers_on : FnScope ["printing", "sheet", "columns", "rows", "row", "column"] ["printing", "sheet"] (defScope s_numbers_on) := ⟨rfl, rfl, rfl, by decide +kernel, rfl, by decide +kernel, by decide +kernel⟩
theorem sc_runs_of_numbers : FnScope ["printing", "numbers", "series", "number"] ["printing", "numbers"] (defScope s_runs_of_numbers) := ⟨rfl, rfl, rfl, by decide +kernel, rfl, by decide +kernel, by decide +kernel⟩
theorem sc_sheet_runs : FnScope ["printing", "sheet"] ["printing", "sheet"] (defScope s_sheet_runs) := ⟨rfl, rfl, rfl, by decide +kernel, rfl, by decide +kernel, by decide +kernel⟩
theorem sc_pile : FnScope ["printing", "row", "column", "first", "step"] ["printing", "row", "column"] (defScope s_pile) := ⟨rfl, rfl, rfl, by decide +kernel, rfl, by decide +kernel, by decide +kernel⟩
theorem sc_together : FnScope ["one", "other"] ["one", "other"] (defScope s_together) := ⟨rfl, rfl, rfl, by decide +kernel, rfl, by decide +kernel, by decide +kernel⟩
theorem sc_both : FnScope ["one", "other", "found", "at", "beside", "series", "low", "high", "name", "start", "end"] ["one", "other"] (defScope s_both) := ⟨rfl, rfl, rfl, by decide +kernel, rfl, by decide +kernel, by decide +kernel⟩
theorem sc_pile_seat : FnScope ["printing", "way", "at", "columns", "rows", "column", "row"] ["printing", "way", "at"] (defScope s_pile_seat) := ⟨rfl, rfl, rfl, by decide +kernel, rfl, by decide +kernel, by decide +kernel⟩
theorem sc_pile_place : FnScope ["printing", "way", "row", "column", "columns", "rows"] ["printing", "way", "row", "column"] (defScope s_pile_place) := ⟨rfl, rfl, rfl, by decide +kernel, rfl, by decide +kernel, by decide +kernel⟩
theorem sc_stack_at : FnScope ["printing", "way", "k", "sheets", "at", "sheet", "row", "column"] ["printing", "way", "k"] (defScope s_stack_at) := ⟨rfl, rfl, rfl, by decide +kernel, rfl, by decide +kernel, by decide +kernel⟩
theorem sc_stack_place : FnScope ["printing", "way", "number", "sheet", "row", "column"] ["printing", "way", "number"] (defScope s_stack_place) := ⟨rfl, rfl, rfl, by decide +kernel, rfl, by decide +kernel, by decide +kernel⟩
theorem sc_is_rising : FnScope ["printing", "way", "last", "at", "row", "column", "first", "step", "many"] ["printing", "way"] (defScope s_is_rising) := ⟨rfl, rfl, rfl, by decide +kernel, rfl, by decide +kernel, by decide +kernel⟩
theorem sc_spoilt_by : FnScope ["printing", "sheets", "seats", "numbers", "sheet", "row", "column"] ["printing", "sheets", "seats"] (defScope s_spoilt_by) := ⟨rfl, rfl, rfl, by decide +kernel, rfl, by decide +kernel, by decide +kernel⟩
theorem sc_lfeed : FnScope ["_law_script"] ["_law_script"] (defScope s_lfeed) := ⟨rfl, rfl, rfl, by decide +kernel, rfl, by decide +kernel, by decide +kernel⟩
theorem sc_ldraw : FnScope ["_law_feed_here", "_law_many", "_law_found", "_law_at", "_law_cell", "_law_first"] ["_law_feed_here", "_law_many"] (defScope s_ldraw) := ⟨rfl, rfl, rfl, by decide +kernel, rfl, by decide +kernel, by decide +kernel⟩
theorem sc_lorder : FnScope ["_law_feed_here", "_law_words", "_law_first", "_law_second"] ["_law_feed_here"] (defScope s_lorder) := ⟨rfl, rfl, rfl, by decide +kernel, rfl, by decide +kernel, by decide +kernel⟩
theorem sc_lprinting : FnScope ["_law_feed_here", "_law_small", "_law_columns", "_law_rows", "_law_sheets_here", "_law_way", "_law_first", "_law_series"] ["_law_feed_here", "_law_small"] (defScope s_lprinting) := ⟨rfl, rfl, rfl, by decide +kernel, rfl, by decide +kernel, by decide +kernel⟩
theorem sc_lall_seats : FnScope ["_law_printing_here", "_law_found", "_law_sheet", "_law_row", "_law_column"] ["_law_printing_here"] (defScope s_lall_seats) := ⟨rfl, rfl, rfl, by decide +kernel, rfl, by decide +kernel, by decide +kernel⟩
theorem sc_lsheets : FnScope ["_law_printing_here", "_law_whole", "_law_sheet", "_law_runs"] ["_law_printing_here"] (defScope s_lsheets) := ⟨rfl, rfl, rfl, by decide +kernel, rfl, by decide +kernel, by decide +kernel⟩
theorem sc_lstack : FnScope ["_law_printing_here", "_law_way", "_law_many", "_law_numbers", "_law_k", "_law_number", "_law_series", "_law_first", "_law_end", "_law_is_up"] ["_law_printing_here", "_law_way"] (defScope s_lstack) := ⟨rfl, rfl, rfl, by decide +kernel, rfl, by decide +kernel, by decide +kernel⟩
theorem sc_lpiles : FnScope ["_law_printing_here", "_law_row", "_law_column", "_law_first", "_law_step", "_law_many", "_law_numbers", "_law_sheet", "_law_k"] ["_law_printing_here"] (defScope s_lpiles) := ⟨rfl, rfl, rfl, by decide +kernel, rfl, by decide +kernel, by decide +kernel⟩
theorem sc_lfar : FnScope ["_law_feed_here", "_law_printing_here", "_law_series", "_law_first", "_law_end", "_law_k", "_law_number", "_law_sheet", "_law_row", "_law_column", "_law_begin", "_law_step", "_law_many", "_law_way", "_law_alone", "_law_seats"] ["_law_feed_here", "_law_printing_here"] (defScope s_lfar) := ⟨rfl, rfl, rfl, by decide +kernel, rfl, by decide +kernel, by decide +kernel⟩
theorem sc_law : FnScope ["_law_script", "_law_feed_here", "_law_small", "_law_great", "_law_series", "_law_first", "_law_end", "_law_numbers", "_law_seat", "_law_number"] ["_law_script"] (defScope s_law) := ⟨rfl, rfl, rfl, by decide +kernel, rfl, by decide +kernel, by decide +kernel⟩
structure Txt (K : PySem.W.Frag) (mg : Str → Option Value) (f_is_number f_is_from_to f_is_word f_is_tuple_of f_is_apart f_runs_of f_many_in f_is_order f_is_printing f_how_many f_printed f_number_at f_seat_of f_numbers_on f_runs_of_numbers f_sheet_runs f_pile f_together f_both f_pile_seat f_pile_place f_stack_at f_stack_place f_is_rising f_spoilt_by f_lfeed f_ldraw f_lorder f_lprinting f_lall_seats f_lsheets f_lstack f_lpiles f_lfar f_law : Addr) : Prop where
  m_is_number : mg "is_number" = some (.ref f_is_number)
  m_is_from_to : mg "is_from_to" = some (.ref f_is_from_to)
  m_is_word : mg "is_word" = some (.ref f_is_word)
  m_is_tuple_of : mg "is_tuple_of" = some (.ref f_is_tuple_of)
  m_is_apart : mg "is_apart" = some (.ref f_is_apart)
  m_runs_of : mg "runs_of" = some (.ref f_runs_of)
  m_many_in : mg "many_in" = some (.ref f_many_in)
  m_is_order : mg "is_order" = some (.ref f_is_order)
  m_is_printing : mg "is_printing" = some (.ref f_is_printing)
  m_how_many : mg "how_many" = some (.ref f_how_many)
  m_printed : mg "printed" = some (.ref f_printed)
  m_number_at : mg "number_at" = some (.ref f_number_at)
  m_seat_of : mg "seat_of" = some (.ref f_seat_of)
  m_numbers_on : mg "numbers_on" = some (.ref f_numbers_on)
  m_runs_of_numbers : mg "runs_of_numbers" = some (.ref f_runs_of_numbers)
  m_sheet_runs : mg "sheet_runs" = some (.ref f_sheet_runs)
  m_pile : mg "pile" = some (.ref f_pile)
  m_together : mg "together" = some (.ref f_together)
  m_both : mg "both" = some (.ref f_both)
  m_pile_seat : mg "pile_seat" = some (.ref f_pile_seat)
  m_pile_place : mg "pile_place" = some (.ref f_pile_place)
  m_stack_at : mg "stack_at" = some (.ref f_stack_at)
  m_stack_place : mg "stack_place" = some (.ref f_stack_place)
  m_is_rising : mg "is_rising" = some (.ref f_is_rising)
  m_spoilt_by : mg "spoilt_by" = some (.ref f_spoilt_by)
  m_lfeed : mg "_law_feed" = some (.ref f_lfeed)
  m_ldraw : mg "_law_draw" = some (.ref f_ldraw)
  m_lorder : mg "_law_order" = some (.ref f_lorder)
  m_lprinting : mg "_law_printing" = some (.ref f_lprinting)
  m_lall_seats : mg "_law_all_seats" = some (.ref f_lall_seats)
  m_lsheets : mg "_law_sheets" = some (.ref f_lsheets)
  m_lstack : mg "_law_stack" = some (.ref f_lstack)
  m_lpiles : mg "_law_piles" = some (.ref f_lpiles)
  m_lfar : mg "_law_far" = some (.ref f_lfar)
  m_law : mg "law" = some (.ref f_law)
  len : mg "len" = none
  range : mg "range" = none
  sorted : mg "sorted" = none
  tuple : mg "tuple" = none
  list : mg "list" = none
  isinstance : mg "isinstance" = none
  all : mg "all" = none
  max : mg "max" = none
  min : mg "min" = none
  int : mg "int" = none
  bool : mg "bool" = none
  str : mg "str" = none
  sum : mg "sum" = none
  divmod : mg "divmod" = none
  m_WORDS : mg "WORDS" = some (.ref (He.ga K "WORDS"))
  t_WORDS : TupK K "WORDS" ["sheet", "row", "column"]
  c_NUMBERS : ∃ t, mg "NUMBERS" = some (.int 1000000000 t)
section
variable {P : Program} {w : World} {K : PySem.W.Frag} {mg : Str → Option Value} {base : Heap} {f_is_number f_is_from_to f_is_word f_is_tuple_of f_is_apart f_runs_of f_many_in f_is_order f_is_printing f_how_many f_printed f_number_at f_seat_of f_numbers_on f_runs_of_numbers f_sheet_runs f_pile f_together f_both f_pile_seat f_pile_place f_stack_at f_stack_place f_is_rising f_spoilt_by f_lfeed f_ldraw f_lorder f_lprinting f_lall_seats f_lsheets f_lstack f_lpiles f_lfar f_law c_is_order P_is_order c_is_word P_is_word c_many_in P_many_in : Addr} {d_is_number d_is_from_to d_is_word d_is_tuple_of d_is_apart d_runs_of d_many_in d_is_order d_is_printing d_how_many d_printed d_number_at d_seat_of d_numbers_on d_runs_of_numbers d_sheet_runs d_pile d_together d_both d_pile_seat d_pile_place d_stack_at d_stack_place d_is_rising d_spoilt_by d_lfeed d_ldraw d_lorder d_lprinting d_lall_seats d_lsheets d_lstack d_lpiles d_lfar d_law : FuncData}
theorem ok_ldraw (F : Fun K "_law_draw" "_law_draw" s_ldraw f_ldraw d_ldraw) (T : Txt K mg f_is_number f_is_from_to f_is_word f_is_tuple_of f_is_apart f_runs_of f_many_in f_is_order f_is_printing f_how_many f_printed f_number_at f_seat_of f_numbers_on f_runs_of_numbers f_sheet_runs f_pile f_together f_both f_pile_seat f_pile_place f_stack_at f_stack_place f_is_rising f_spoilt_by f_lfeed f_ldraw f_lorder f_lprinting f_lall_seats f_lsheets f_lstack f_lpiles f_lfar f_law) :
    FnOk P w K mg base CX0 (1) f_ldraw d_ldraw ["_law_feed_here", "_law_many"] spDraw := by
  refine F.ok sc_ldraw (fun vs H Q E h => ?_) (fun cdv A outer s H vs Q E hr h => ?_)

  · obtain ⟨f, c, m, n, rfl, _⟩ := h
    rfl
  obtain ⟨f, c, m, n, rfl, ⟨cells, at_, g, hf, hc, h63, h0, hn⟩, hn2, hm0, hm1, q0⟩ := h
  refine ⟨_, (pss_cons (ps_if (pt_cmpR op_gt (pe_ix ix_list (pv 0) pe_int (fun _ _ => rfl)) pe_int (nomark _))
  (pss_cons (ps_set (i := 2) sc_ldraw.nd rfl (.inl rfl) (pe_op op_modN (pe_ix ix_list (pv 0) pe_int (fun _ _ => rfl)) (pv 1)))
  (pss_cons (ps_asg (pe_op op_fdivN (pe_ix ix_list (pv 0) pe_int (fun _ _ => rfl)) (pv 1)) (pg_sub (pv 0) pe_int set_list))
  (pss_one (ps_ret (pv 2)))))
  pss_nil)
  (pss_cons (ps_set (i := 3) sc_ldraw.nd rfl (.inl rfl) (pe_ix ix_list (pv 0) pe_int (fun _ _ => rfl)))
  (pss_cons (ps_asg (pe_op op_add (pv 3) pe_int) (pg_sub (pv 0) pe_int set_list))
  (pss_cons (ps_set (i := 4) sc_ldraw.nd rfl (.inl rfl) (pe_ifExp (pt_cmpR op_gt (pe_callB call_len_seq (by rfl) T.len (by decide +kernel) (pa_cons (pe_ix ix_list (pv 0) pe_int (fun _ _ => rfl)) pa_nil)) pe_int (nomark _)) (pe_ix ix_list (pe_ix ix_list (pv 0) pe_int (fun _ _ => rfl)) (pe_op op_modN (pv 3) (pe_callB call_len_seq (by rfl) T.len (by decide +kernel) (pa_cons (pe_ix ix_list (pv 0) pe_int (fun _ _ => rfl)) pa_nil))) (fun _ _ => rfl)) pe_int))
  (pss_cons (ps_if (PW.pt (pw_and (pt_cmpR op_ge (pv 4) (pe_op op_pow pe_int pe_int) (nomark _)) (pw_and1 (pt_cmpR op_lt (pv 3) (pe_callB call_len_seq (by rfl) T.len (by decide +kernel) (pa_cons (pe_ix ix_list (pv 0) pe_int (fun _ _ => rfl)) pa_nil)) (nomark _)))))
  (pss_cons (ps_asg (pe_op op_fdivN (pv 4) (pv 1)) (pg_sub (pv 0) pe_int set_list))
  (pss_one (ps_ret (pe_op op_modN (pv 4) (pv 1)))))
  pss_nil)
  (pss_cons (ps_set (i := 5) sc_ldraw.nd rfl (.inl rfl) (pe_op op_modN (pe_op op_mul (pe_op op_add (pe_op op_add (pe_op op_add (pe_op op_modN (pv 4) pe_int) (pe_op op_mul (pe_op op_mul pe_int (pv 3)) (pv 3))) (pe_op op_mul pe_int (pv 3))) pe_int) pe_int) pe_int))
  (pss_cons (ps_set (i := 5) sc_ldraw.nd rfl (.inl rfl) (pe_op op_modN (pe_op op_add (pe_op op_add (pe_op op_mul (pv 5) (pv 5)) (pe_op op_mul pe_int (pv 3))) pe_int) pe_int))
  (pss_one (ps_ret (pe_op op_modN (pe_op op_fdivN (pe_op op_modN (pe_op op_mul (pv 5) pe_int) pe_int) pe_int) (pv 1))))))))))), ?_⟩
  have hcf : c ≠ f := fd_ne hf hc
  have q : ∀ (d : Int) (o : HO), 0 ≤ d → d < m → Fd (upd H f o) f c (n + 1) → Q (.int d) (upd H f o) := fun d o h1 h2 h3 => q0 d _ h1 h2 h3 But.feed fun a ha => by
    rw [upd_ne (fun z => by rw [z, hf] at ha; cases ha)]
    exact ha
  have fdN : ∀ a' g', 0 ≤ a' → a' ≤ n + 1 → Fd (upd H f (.lst [.ref c, .int a', .int g'])) f c (n + 1) := fun a' g' h1 h2 => ⟨cells, a', g', upd_same, (upd_ne hcf).trans hc, h63, h1, h2⟩
  have hc1 : ∀ o, (upd H f o) c = some (.lst (cells.map V.int)) := fun o => (upd_ne hcf).trans hc
  refine ⟨_, rfl, f, _, _, _, rfl, rfl, SqL.of hf, rfl, _, _, rfl, rfl, _, rfl, ?_⟩
  refine ite2 (fun cg => ?_) (fun cg => ?_)
  · refine ⟨_, rfl, f, _, _, _, rfl, rfl, SqL.of hf, rfl, _, rfl, _, _, rfl, rfl, by omega, ?_⟩
    refine ⟨_, rfl, f, _, _, _, rfl, rfl, SqL.of hf, rfl, _, rfl, _, _, rfl, rfl, ⟨by omega, by omega⟩, ?_⟩
    refine ⟨_, rfl, f, _, _, 2, rfl, rfl, hf, rfl, ?_⟩
    refine ⟨_, rfl, ?_⟩
    exact q _ _ (mod_lo _ _ hm0) (mod_hi _ _ hm0) (fdN at_ _ h0 (by omega))
  refine ⟨_, rfl, f, _, _, _, rfl, rfl, SqL.of hf, rfl, ?_⟩
  refine ⟨_, rfl, _, _, rfl, rfl, ?_⟩
  refine ⟨_, rfl, f, _, _, 1, rfl, rfl, hf, rfl, ?_⟩
  refine ⟨_, rfl, f, _, _, _, rfl, rfl, SqL.of upd_same, rfl, c, _, rfl, .inl (SqL.of (hc1 _)), _, _, rfl, rfl, _, rfl, ?_⟩
  refine ite2 (fun c1 => ?_) (fun c1 => ?_)
  · have hl : 0 < cells.length := by
      have := of_decide_eq_true c1
      rw [List.length_map] at this
      omega
    obtain ⟨cell, hcell⟩ := at_mod at_ hl
    refine ⟨_, rfl, f, _, _, _, rfl, rfl, SqL.of upd_same, rfl, _, rfl, _, rfl, f, _, _, _, rfl, rfl, SqL.of upd_same, rfl, c, _, rfl, .inl (SqL.of (hc1 _)), _, _, rfl, rfl, ?_, c, _, _, _, rfl, rfl, SqL.of (hc1 _), hcell, ?_⟩
    · rw [List.length_map]
      omega
    refine ⟨_, rfl, _, _, rfl, rfl, ⟨by decide, by decide, by decide⟩, _, _, rfl, rfl, _, rfl, ?_⟩
    refine ite2 (fun c2 => ?_) (fun c2 => ?_)
    · refine ⟨_, rfl, _, rfl, f, _, _, _, rfl, rfl, SqL.of upd_same, rfl, c, _, rfl, .inl (SqL.of (hc1 _)), _, _, rfl, rfl, _, rfl, ?_⟩
      refine ite2 (fun c3 => ?_) (fun c3 => ?_)
      · refine ⟨_, rfl, _, rfl, _, _, rfl, rfl, ⟨by omega, by omega⟩, ?_⟩
        refine ⟨_, rfl, f, _, _, 2, rfl, rfl, upd_same, rfl, ?_⟩
        refine ⟨_, rfl, _, rfl, _, _, rfl, rfl, by omega, ?_⟩
        rw [upd_upd]
        exact q _ _ (mod_lo _ _ hm0) (mod_hi _ _ hm0) (fdN _ _ (by omega) (by omega))
      ·
        refine ⟨_, rfl, _, _, rfl, rfl, (by show (_ : Int) ≠ 0; decide), _, rfl, _, _, rfl, rfl, .inl ⟨by decide, by decide⟩, _, rfl, _, _, rfl, rfl, .inl ⟨by omega, by omega⟩, _, _, rfl, rfl, _, rfl, _, _, rfl, rfl, .inl ⟨by decide, by decide⟩, _, _, rfl, rfl, _, _, rfl, rfl, _, _, rfl, rfl, .inr ⟨by decide, by decide⟩, _, _, rfl, rfl, (by show (_ : Int) ≠ 0; decide), ?_⟩
        refine ⟨_, rfl, _, rfl, _, _, rfl, rfl, .inl ⟨Int.lt_of_lt_of_le (by decide) (mod_lo _ _ (by decide)), Int.lt_trans (mod_hi _ _ (by decide)) (by decide)⟩, _, rfl, _, _, rfl, rfl, .inl ⟨by decide, by decide⟩, _, _, rfl, rfl, _, _, rfl, rfl, _, _, rfl, rfl, (by show (_ : Int) ≠ 0; decide), ?_⟩
        refine ⟨_, rfl, _, _, rfl, rfl, .inr ⟨by decide, by decide⟩, _, _, rfl, rfl, (by show (_ : Int) ≠ 0; decide), _, _, rfl, rfl, ⟨by decide, by decide⟩, _, rfl, _, _, rfl, rfl, by omega, ?_⟩
        exact q _ _ (mod_lo _ _ hm0) (mod_hi _ _ hm0) (fdN _ _ (by omega) (by omega))
    ·
      refine ⟨_, rfl, _, _, rfl, rfl, (by show (_ : Int) ≠ 0; decide), _, rfl, _, _, rfl, rfl, .inl ⟨by decide, by decide⟩, _, rfl, _, _, rfl, rfl, .inl ⟨by omega, by omega⟩, _, _, rfl, rfl, _, rfl, _, _, rfl, rfl, .inl ⟨by decide, by decide⟩, _, _, rfl, rfl, _, _, rfl, rfl, _, _, rfl, rfl, .inr ⟨by decide, by decide⟩, _, _, rfl, rfl, (by show (_ : Int) ≠ 0; decide), ?_⟩
      refine ⟨_, rfl, _, rfl, _, _, rfl, rfl, .inl ⟨Int.lt_of_lt_of_le (by decide) (mod_lo _ _ (by decide)), Int.lt_trans (mod_hi _ _ (by decide)) (by decide)⟩, _, rfl, _, _, rfl, rfl, .inl ⟨by decide, by decide⟩, _, _, rfl, rfl, _, _, rfl, rfl, _, _, rfl, rfl, (by show (_ : Int) ≠ 0; decide), ?_⟩
      refine ⟨_, rfl, _, _, rfl, rfl, .inr ⟨by decide, by decide⟩, _, _, rfl, rfl, (by show (_ : Int) ≠ 0; decide), _, _, rfl, rfl, ⟨by decide, by decide⟩, _, rfl, _, _, rfl, rfl, by omega, ?_⟩
      exact q _ _ (mod_lo _ _ hm0) (mod_hi _ _ hm0) (fdN _ _ (by omega) (by omega))
  ·
    refine ⟨_, rfl, _, _, rfl, rfl, ⟨by decide, by decide, by decide⟩, _, _, rfl, rfl, _, rfl, ?_⟩
    refine ite2 (fun c2 => ?_) (fun c2 => ?_)
    · refine ⟨_, rfl, _, rfl, f, _, _, _, rfl, rfl, SqL.of upd_same, rfl, c, _, rfl, .inl (SqL.of (hc1 _)), _, _, rfl, rfl, _, rfl, ?_⟩
      refine ite2 (fun c3 => ?_) (fun c3 => ?_)
      · refine ⟨_, rfl, _, rfl, _, _, rfl, rfl, ⟨by omega, by omega⟩, ?_⟩
        refine ⟨_, rfl, f, _, _, 2, rfl, rfl, upd_same, rfl, ?_⟩
        refine ⟨_, rfl, _, rfl, _, _, rfl, rfl, by omega, ?_⟩
        rw [upd_upd]
        exact q _ _ (mod_lo _ _ hm0) (mod_hi _ _ hm0) (fdN _ _ (by omega) (by omega))
      ·
        refine ⟨_, rfl, _, _, rfl, rfl, (by show (_ : Int) ≠ 0; decide), _, rfl, _, _, rfl, rfl, .inl ⟨by decide, by decide⟩, _, rfl, _, _, rfl, rfl, .inl ⟨by omega, by omega⟩, _, _, rfl, rfl, _, rfl, _, _, rfl, rfl, .inl ⟨by decide, by decide⟩, _, _, rfl, rfl, _, _, rfl, rfl, _, _, rfl, rfl, .inr ⟨by decide, by decide⟩, _, _, rfl, rfl, (by show (_ : Int) ≠ 0; decide), ?_⟩
        refine ⟨_, rfl, _, rfl, _, _, rfl, rfl, .inl ⟨Int.lt_of_lt_of_le (by decide) (mod_lo _ _ (by decide)), Int.lt_trans (mod_hi _ _ (by decide)) (by decide)⟩, _, rfl, _, _, rfl, rfl, .inl ⟨by decide, by decide⟩, _, _, rfl, rfl, _, _, rfl, rfl, _, _, rfl, rfl, (by show (_ : Int) ≠ 0; decide), ?_⟩
        refine ⟨_, rfl, _, _, rfl, rfl, .inr ⟨by decide, by decide⟩, _, _, rfl, rfl, (by show (_ : Int) ≠ 0; decide), _, _, rfl, rfl, ⟨by decide, by decide⟩, _, rfl, _, _, rfl, rfl, by omega, ?_⟩
        exact q _ _ (mod_lo _ _ hm0) (mod_hi _ _ hm0) (fdN _ _ (by omega) (by omega))
    ·
      refine ⟨_, rfl, _, _, rfl, rfl, (by show (_ : Int) ≠ 0; decide), _, rfl, _, _, rfl, rfl, .inl ⟨by decide, by decide⟩, _, rfl, _, _, rfl, rfl, .inl ⟨by omega, by omega⟩, _, _, rfl, rfl, _, rfl, _, _, rfl, rfl, .inl ⟨by decide, by decide⟩, _, _, rfl, rfl, _, _, rfl, rfl, _, _, rfl, rfl, .inr ⟨by decide, by decide⟩, _, _, rfl, rfl, (by show (_ : Int) ≠ 0; decide), ?_⟩
      refine ⟨_, rfl, _, rfl, _, _, rfl, rfl, .inl ⟨Int.lt_of_lt_of_le (by decide) (mod_lo _ _ (by decide)), Int.lt_trans (mod_hi _ _ (by decide)) (by decide)⟩, _, rfl, _, _, rfl, rfl, .inl ⟨by decide, by decide⟩, _, _, rfl, rfl, _, _, rfl, rfl, _, _, rfl, rfl, (by show (_ : Int) ≠ 0; decide), ?_⟩
      refine ⟨_, rfl, _, _, rfl, rfl, .inr ⟨by decide, by decide⟩, _, _, rfl, rfl, (by show (_ : Int) ≠ 0; decide), _, _, rfl, rfl, ⟨by decide, by decide⟩, _, rfl, _, _, rfl, rfl, by omega, ?_⟩
      exact q _ _ (mod_lo _ _ hm0) (mod_hi _ _ hm0) (fdN _ _ (by omega) (by omega))

theorem ok_lfeed (F : Fun K "_law_feed" "_law_feed" s_lfeed f_lfeed d_lfeed) (T : Txt K mg f_is_number f_is_from_to f_is_word f_is_tuple_of f_is_apart f_runs_of f_many_in f_is_order f_is_printing f_how_many f_printed f_number_at f_seat_of f_numbers_on f_runs_of_numbers f_sheet_runs f_pile f_together f_both f_pile_seat f_pile_place f_stack_at f_stack_place f_is_rising f_spoilt_by f_lfeed f_ldraw f_lorder f_lprinting f_lall_seats f_lsheets f_lstack f_lpiles f_lfar f_law) :
    FnOk P w K mg base CX0 (1) f_lfeed d_lfeed ["_law_script"] (spFeed K) := by
  refine F.ok sc_lfeed (fun vs H Q E h => ?_) (fun cdv A outer s H vs Q E hr h => ?_)

  · obtain ⟨a, ns, rfl, _⟩ := h
    rfl
  obtain ⟨a, ns, rfl, hs, q⟩ := h
  refine ⟨_, (pss_one (ps_ret (pe_lst (pa_cons (pe_slice sl_list (pv 0) po_none (po_some pe_int)) (pa_cons pe_int (pa_cons pe_int pa_nil)))))), ?_⟩
  refine ⟨_, rfl, _, rfl, a, _, rfl, hs, fun c hc => ?_⟩
  have e : cutV (ns.map V.int) none (some 63) = (ns.take 63).map V.int := (cut_take _ 63).trans (List.map_take).symm
  refine ⟨(show 3 ≤ sizeLine by decide), fun f hf => ?_⟩
  have hcf : c ≠ f := ne_of_none upd_same hf
  refine q f c _ (free_of hf) ((same_new hc _).trans (same_new hf _)) ⟨ns.take 63, 0, 0, upd_same, (upd_ne hcf).trans (by rw [upd_same, e]), List.length_take_le .., Int.le_refl _, Int.le_refl _⟩

theorem ok_lorder (F : Fun K "_law_order" "_law_order" s_lorder f_lorder d_lorder) (T : Txt K mg f_is_number f_is_from_to f_is_word f_is_tuple_of f_is_apart f_runs_of f_many_in f_is_order f_is_printing f_how_many f_printed f_number_at f_seat_of f_numbers_on f_runs_of_numbers f_sheet_runs f_pile f_together f_both f_pile_seat f_pile_place f_stack_at f_stack_place f_is_rising f_spoilt_by f_lfeed f_ldraw f_lorder f_lprinting f_lall_seats f_lsheets f_lstack f_lpiles f_lfar f_law)
    (F_ldraw : Fun K "_law_draw" "_law_draw" s_ldraw f_ldraw d_ldraw) (b_ldraw : Binds K d_ldraw ["_law_feed_here", "_law_many"] []) (G_ldraw : FnOk P w K mg base CX0 (1) f_ldraw d_ldraw ["_law_feed_here", "_law_many"] spDraw) :
    FnOk P w K mg base CX0 (2) f_lorder d_lorder ["_law_feed_here"] spOrder := by
  refine F.ok sc_lorder (fun vs H Q E h => ?_) (fun cdv A outer s H vs Q E hr h => ?_)

  · obtain ⟨f, c, n, rfl, _⟩ := h
    rfl
  obtain ⟨f, c, n, rfl, hf, hn, q⟩ := h
  refine ⟨_, (pss_cons (ps_set (i := 1) sc_lorder.nd rfl (.inl rfl) (pe_lst (pa_cons pe_str (pa_cons pe_str (pa_cons pe_str pa_nil)))))
  (pss_cons (ps_set (i := 2) sc_lorder.nd rfl (.inl rfl) (pe_bm PySem.F.plainAttrs_list PySem.F.slot_list_pop PySem.F.type_list_pop mt_popAt (pv 1) (pa_cons (pe_call G_ldraw hr (by rfl) T.m_ldraw F_ldraw.kp b_ldraw .nil pass0 (pa_cons (pv 0) (pa_cons pe_int pa_nil))) pa_nil)))
  (pss_cons (ps_set (i := 3) sc_lorder.nd rfl (.inl rfl) (pe_bm PySem.F.plainAttrs_list PySem.F.slot_list_pop PySem.F.type_list_pop mt_popAt (pv 1) (pa_cons (pe_call G_ldraw hr (by rfl) T.m_ldraw F_ldraw.kp b_ldraw .nil pass0 (pa_cons (pv 0) (pa_cons pe_int pa_nil))) pa_nil)))
  (pss_one (ps_ret (pe_tupF (pa_cons (pv 2) (pa_cons (pv 3) (pa_cons (pe_ix ix_list (pv 1) pe_int (fun _ _ => rfl)) pa_nil))))))))), ?_⟩
  refine ⟨(show 3 ≤ sizeLine by decide), fun l hl => ?_⟩
  have ne := hf.ne hl
  refine ⟨_, rfl, .inl ⟨rfl, _, SqL.of upd_same⟩, _, rfl, f, c, 3, n, rfl, hf.new hl, by omega, by decide, by decide, fun d H1 d0 d1 hf1 b1 n1 => ?_⟩
  have e1 := b1 l _ ne.1 upd_same
  have k1 : But f H H1 := (But.new hl).trans b1
  have d3 : d = 0 ∨ d = 1 ∨ d = 2 := by omega
  rcases d3 with rfl | rfl | rfl
  all_goals
    refine ⟨l, _, _, _, _, rfl, rfl, e1, by decide, by decide, rfl, rfl, ?_⟩
    refine ⟨_, rfl, .inl ⟨rfl, _, SqL.of upd_same⟩, _, rfl, f, c, 2, n + 1, rfl, hf1.upd ne, by omega, by decide, by decide, fun e H2 g0 g1 hf2 b2 n2 => ?_⟩
    have e2 := b2 l _ ne.1 upd_same
    have d4 : e = 0 ∨ e = 1 := by omega
    rcases d4 with rfl | rfl
    all_goals
      refine ⟨l, _, _, _, _, rfl, rfl, e2, by decide, by decide, rfl, rfl, ?_⟩
      refine ⟨_, rfl, _, rfl, _, rfl, l, _, _, _, rfl, rfl, SqL.of upd_same, rfl, (show 3 ≤ sizeLine by decide), fun t o ht ho => ?_⟩
      have k2 : But f H H2 := (k1.mut hl).trans b2
      have ft : H t = none := k2.back hf2 (free_of ht)
      first
        | exact q t o .sh .ro .co _ ho (by decide) (by decide) (by decide) (((hf2.upd ne).new ht).mono (by omega)) ((k2.mut hl).trans (But.new ht)) ft upd_same
        | exact q t o .sh .co .ro _ ho (by decide) (by decide) (by decide) (((hf2.upd ne).new ht).mono (by omega)) ((k2.mut hl).trans (But.new ht)) ft upd_same
        | exact q t o .ro .sh .co _ ho (by decide) (by decide) (by decide) (((hf2.upd ne).new ht).mono (by omega)) ((k2.mut hl).trans (But.new ht)) ft upd_same
        | exact q t o .ro .co .sh _ ho (by decide) (by decide) (by decide) (((hf2.upd ne).new ht).mono (by omega)) ((k2.mut hl).trans (But.new ht)) ft upd_same
        | exact q t o .co .sh .ro _ ho (by decide) (by decide) (by decide) (((hf2.upd ne).new ht).mono (by omega)) ((k2.mut hl).trans (But.new ht)) ft upd_same
        | exact q t o .co .ro .sh _ ho (by decide) (by decide) (by decide) (((hf2.upd ne).new ht).mono (by omega)) ((k2.mut hl).trans (But.new ht)) ft upd_same

theorem ok_lprinting (F : Fun K "_law_printing" "_law_printing" s_lprinting f_lprinting d_lprinting) (T : Txt K mg f_is_number f_is_from_to f_is_word f_is_tuple_of f_is_apart f_runs_of f_many_in f_is_order f_is_printing f_how_many f_printed f_number_at f_seat_of f_numbers_on f_runs_of_numbers f_sheet_runs f_pile f_together f_both f_pile_seat f_pile_place f_stack_at f_stack_place f_is_rising f_spoilt_by f_lfeed f_ldraw f_lorder f_lprinting f_lall_seats f_lsheets f_lstack f_lpiles f_lfar f_law)
    (F_ldraw : Fun K "_law_draw" "_law_draw" s_ldraw f_ldraw d_ldraw) (b_ldraw : Binds K d_ldraw ["_law_feed_here", "_law_many"] []) (G_ldraw : FnOk P w K mg base CX0 (2) f_ldraw d_ldraw ["_law_feed_here", "_law_many"] spDraw)
    (F_lorder : Fun K "_law_order" "_law_order" s_lorder f_lorder d_lorder) (b_lorder : Binds K d_lorder ["_law_feed_here"] []) (G_lorder : FnOk P w K mg base CX0 (2) f_lorder d_lorder ["_law_feed_here"] spOrder) :
    FnOk P w K mg base CX0 (3) f_lprinting d_lprinting ["_law_feed_here", "_law_small"] spPrintW := by
  refine F.ok sc_lprinting (fun vs H Q E h => ?_) (fun cdv A outer s H vs Q E hr h => ?_)

  · obtain ⟨f, c, n, k, rfl, _⟩ := h
    rfl
  obtain ⟨f, c, n, k, rfl, hf, hn, hk, q⟩ := h
  refine ⟨_, (pss_cons (ps_par (by rfl) sc_lprinting.nd (i := 2) (j := 3) rfl rfl (by decide) rfl rfl (pa_cons (pe_op op_add pe_int (pe_call G_ldraw hr (by rfl) T.m_ldraw F_ldraw.kp b_ldraw .nil pass0 (pa_cons (pv 0) (pa_cons (pe_ix ix_list (pe_lst (pa_cons pe_int (pa_cons pe_int pa_nil))) (pv 1) (fun _ _ => rfl)) pa_nil)))) (pa_cons (pe_op op_add pe_int (pe_call G_ldraw hr (by rfl) T.m_ldraw F_ldraw.kp b_ldraw .nil pass0 (pa_cons (pv 0) (pa_cons (pe_ix ix_list (pe_lst (pa_cons pe_int (pa_cons pe_int pa_nil))) (pv 1) (fun _ _ => rfl)) pa_nil)))) pa_nil)) (by rfl))
  (pss_cons (ps_set (i := 4) sc_lprinting.nd rfl (.inl rfl) (pe_op op_add pe_int (pe_call G_ldraw hr (by rfl) T.m_ldraw F_ldraw.kp b_ldraw .nil pass0 (pa_cons (pv 0) (pa_cons (pe_ix ix_list (pe_lst (pa_cons (pe_op op_pow pe_int pe_int) (pa_cons pe_int pa_nil))) (pv 1) (fun _ _ => rfl)) pa_nil)))))
  (pss_cons (ps_set (i := 5) sc_lprinting.nd rfl (.inl rfl) (pe_call G_ldraw hr (by rfl) T.m_ldraw F_ldraw.kp b_ldraw .nil pass0 (pa_cons (pv 0) (pa_cons pe_int pa_nil))))
  (pss_cons (ps_set (i := 6) sc_lprinting.nd rfl (.inl rfl) (pe_ix ix_list (pe_lst (pa_cons pe_int (pa_cons (pe_call G_ldraw hr (by rfl) T.m_ldraw F_ldraw.kp b_ldraw .nil pass0 (pa_cons (pv 0) (pa_cons pe_int pa_nil))) (pa_cons (pe_call G_ldraw hr (by rfl) T.m_ldraw F_ldraw.kp b_ldraw .nil pass0 (pa_cons (pv 0) (pa_cons (pe_op op_pow pe_int pe_int) pa_nil))) (pa_cons (pe_op op_sub (pe_op op_pow pe_int pe_int) (pe_op op_mul (pe_op op_mul (pv 2) (pv 3)) (pv 4))) pa_nil))))) (pv 5) (fun _ _ => rfl)))
  (pss_cons (ps_set (i := 7) sc_lprinting.nd rfl (.inl rfl) (pe_op op_repS (pe_ix ix_str pe_str (pe_call G_ldraw hr (by rfl) T.m_ldraw F_ldraw.kp b_ldraw .nil pass0 (pa_cons (pv 0) (pa_cons pe_int pa_nil))) (fun _ _ => rfl)) (pe_op op_add pe_int (pe_call G_ldraw hr (by rfl) T.m_ldraw F_ldraw.kp b_ldraw .nil pass0 (pa_cons (pv 0) (pa_cons pe_int pa_nil))))))
  (pss_one (ps_ret (pe_tup (pa_cons (pv 7) (pa_cons (pv 6) (pa_cons (pv 2) (pa_cons (pv 3) (pa_cons (pv 4) (pa_cons (pe_call G_lorder hr (by rfl) T.m_lorder F_lorder.kp b_lorder .nil pass0 (pa_cons (pv 0) pa_nil)) pa_nil)))))))))))))), ?_⟩
  have two : 2 ≤ sizeLine := by decide
  have pick : ∃ mc ms : Int, 0 < mc ∧ mc ≤ 12 ∧ 0 < ms ∧ ms ≤ 1000000 ∧ (k = 1 → mc ≤ 4 ∧ ms ≤ 6) ∧ atI [V.int 12, .int 4] k = some (.int mc) ∧ atI [V.int (10 ^ 6), .int 6] k = some (.int ms) := by
    rcases hk with rfl | rfl
    · exact ⟨12, 1000000, by decide, by decide, by decide, by decide, by decide, rfl, rfl⟩
    · exact ⟨4, 6, by decide, by decide, by decide, by decide, by decide, rfl, rfl⟩
  obtain ⟨mc, ms, mc0, mc1, ms0, ms1, mk, ac, as⟩ := pick
  refine ⟨_, rfl, two, fun p1 hp1 => ⟨_, rfl, p1, _, _, _, rfl, rfl, SqL.of upd_same, ac, f, c, mc, n, rfl, hf.new hp1, by omega, mc0, by omega, fun d1 H1 d10 d11 hf1 b1 _ => ?_⟩⟩
  have B1 : But f H H1 := (But.new hp1).trans b1
  refine ⟨_, _, rfl, rfl, _, rfl, two, fun p2 hp2 => ⟨_, rfl, p2, _, _, _, rfl, rfl, SqL.of upd_same, ac, f, c, mc, n + 1, rfl, hf1.new hp2, by omega, mc0, by omega, fun d2 H2 d20 d21 hf2 b2 _ => ?_⟩⟩
  have B2 : But f H H2 := B1.trans ((But.new hp2).trans b2)
  refine ⟨_, _, rfl, rfl, _, _, rfl, ?_⟩
  refine ⟨_, rfl, _, _, rfl, rfl, ⟨by decide, by decide, by decide⟩, two, fun p3 hp3 => ⟨_, rfl, p3, _, _, _, rfl, rfl, SqL.of upd_same, as, f, c, ms, n + 1 + 1, rfl, hf2.new hp3, by omega, ms0, by omega, fun d3 H3 d30 d31 hf3 b3 _ => ?_⟩⟩
  have B3 : But f H H3 := B2.trans ((But.new hp3).trans b3)
  refine ⟨_, _, rfl, rfl, ?_⟩
  refine ⟨_, rfl, f, c, 4, n + 1 + 1 + 1, rfl, hf3, by omega, by decide, by decide, fun d4 H4 d40 d41 hf4 b4 _ => ?_⟩
  have B4 : But f H H4 := B3.trans b4
  refine ⟨_, rfl, f, c, 1000, n + 1 + 1 + 1 + 1, rfl, hf4, by omega, by decide, by decide, fun d5 H5 d50 d51 hf5 b5 _ => ?_⟩
  have B5 : But f H H5 := B4.trans b5
  refine ⟨_, rfl, _, _, rfl, rfl, ⟨by decide, by decide, by decide⟩, f, c, 10 ^ 8, n + 1 + 1 + 1 + 1 + 1, rfl, hf5, by omega, by decide, by decide, fun d6 H6 d60 d61 hf6 b6 _ => ?_⟩
  have B6 : But f H H6 := B5.trans b6
  obtain ⟨x0, x1⟩ := prod_bound (c := 1 + d1) (r := 1 + d2) (s := 1 + d3) (by omega) (by omega) (by omega) (by omega) (by omega) (by omega)
  refine ⟨_, _, rfl, rfl, ⟨by decide, by decide, by decide⟩, _, rfl, _, rfl, _, _, rfl, rfl, .inl ⟨by omega, by omega⟩, _, rfl, _, _, rfl, rfl, .inr ⟨by omega, by omega⟩, _, _, rfl, rfl, (show 4 ≤ sizeLine by decide), fun p4 hp4 => ?_⟩
  have way : ∃ fst : Int, 0 ≤ fst ∧ fst + (1 + d1) * (1 + d2) * (1 + d3) ≤ 1000000000 ∧ atI [V.int 0, .int d5, .int d6, .int (10 ^ 9 - (1 + d1) * (1 + d2) * (1 + d3))] d4 = some (.int fst) := by
    have w4 : d4 = 0 ∨ d4 = 1 ∨ d4 = 2 ∨ d4 = 3 := by omega
    rcases w4 with rfl | rfl | rfl | rfl
    · exact ⟨0, by omega, by omega, rfl⟩
    · exact ⟨d5, by omega, by omega, rfl⟩
    · exact ⟨d6, by omega, by omega, rfl⟩
    · exact ⟨10 ^ 9 - (1 + d1) * (1 + d2) * (1 + d3), by omega, by omega, rfl⟩
  obtain ⟨fst, f0, f1, af⟩ := way
  refine ⟨_, rfl, p4, _, _, _, rfl, rfl, SqL.of upd_same, af, ?_⟩
  refine ⟨_, rfl, f, c, 26, n + 1 + 1 + 1 + 1 + 1 + 1, rfl, hf6.new hp4, by omega, by decide, by decide, fun d7 H7 d70 d71 hf7 b7 _ => ?_⟩
  have B7 : But f H H7 := B6.trans ((But.new hp4).trans b7)
  obtain ⟨ch, hch, hch2, wch⟩ := abc_atW d7 d70 d71
  refine ⟨abc, _, ch, rfl, rfl, (by decide +kernel), hch, ?_⟩
  refine ⟨_, rfl, f, c, 8, n + 1 + 1 + 1 + 1 + 1 + 1 + 1, rfl, hf7, by omega, by decide, by decide, fun d8 H8 d80 d81 hf8 b8 _ => ?_⟩
  have B8 : But f H H8 := B7.trans b8
  refine ⟨_, _, rfl, rfl, _, _, rfl, rfl, mul1_ok ch d8 d80 (by omega), ?_⟩
  refine ⟨_, rfl, _, rfl, _, rfl, _, rfl, _, rfl, _, rfl, f, c, n + 1 + 1 + 1 + 1 + 1 + 1 + 1 + 1, rfl, hf8, by omega, fun t o u1 u2 u3 H9 ho e12 e13 e23 hf9 b9 ft ht => ?_⟩
  refine ⟨(show 6 ≤ sizeLine by decide), fun a ha => ?_⟩
  have B9 : But f H H9 := B8.trans b9
  refine q a ⟨Txt.mul ⟨#[ch]⟩ (1 + d8), fst, 1 + d1, 1 + d2, 1 + d3, u1, u2, u3⟩ _ ((hf9.new ha).mono (by omega)) (B9.trans (But.new ha)) ⟨t, upd_same, o, (upd_ne (ne_of_none ht ha)).trans ht, ho⟩ ?_ ?_ (mulk_wd (1 + d8) wch (by omega) (by omega))
  · exact ⟨mul1_len ch d8 8 (by omega), f0, by dsimp only; omega, by dsimp only; omega, by dsimp only; omega, by dsimp only; omega, by dsimp only; omega, by dsimp only; omega, f1, e12, e13, e23, mul_chr _ hch2⟩
  · intro k1
    have := mk k1
    dsimp only
    omega

theorem ok_is_number (F : Fun K "is_number" "is_number" s_is_number f_is_number d_is_number) (T : Txt K mg f_is_number f_is_from_to f_is_word f_is_tuple_of f_is_apart f_runs_of f_many_in f_is_order f_is_printing f_how_many f_printed f_number_at f_seat_of f_numbers_on f_runs_of_numbers f_sheet_runs f_pile f_together f_both f_pile_seat f_pile_place f_stack_at f_stack_place f_is_rising f_spoilt_by f_lfeed f_ldraw f_lorder f_lprinting f_lall_seats f_lsheets f_lstack f_lpiles f_lfar f_law) :
    FnOk P w K mg base CX0 (1) f_is_number d_is_number ["thing"] spNumW := by
  refine F.ok sc_is_number (fun vs H Q E h => ?_) (fun cdv A outer s H vs Q E hr h => ?_)

  · obtain ⟨n, rfl, _⟩ := h
    rfl
  obtain ⟨n, rfl, q⟩ := h
  refine ⟨_, (pss_one (ps_ret (pe_and (pe_callB call_isi (by rfl) T.isinstance (by decide +kernel) (pa_cons (pv 0) (pa_cons (pe_bltn (v := .ty "int") (by rfl) T.int (by decide +kernel) rfl) pa_nil))) (pe_one (pe_not (pe_callB call_isi (by rfl) T.isinstance (by decide +kernel) (pa_cons (pv 0) (pa_cons (pe_bltn (v := .ty "bool") (by rfl) T.bool (by decide +kernel) rfl) pa_nil)))))))), ?_⟩
  refine ⟨_, rfl, _, _, _, _, _, rfl, .ty _, .base (.int n), rfl, _, rfl, iteT ?_⟩
  exact ⟨_, rfl, _, _, _, _, false, rfl, .ty _, .base (.int n), rfl, _, rfl, q⟩

theorem ok_is_from_to (F : Fun K "is_from_to" "is_from_to" s_is_from_to f_is_from_to d_is_from_to) (T : Txt K mg f_is_number f_is_from_to f_is_word f_is_tuple_of f_is_apart f_runs_of f_many_in f_is_order f_is_printing f_how_many f_printed f_number_at f_seat_of f_numbers_on f_runs_of_numbers f_sheet_runs f_pile f_together f_both f_pile_seat f_pile_place f_stack_at f_stack_place f_is_rising f_spoilt_by f_lfeed f_ldraw f_lorder f_lprinting f_lall_seats f_lsheets f_lstack f_lpiles f_lfar f_law)
    (F_is_number : Fun K "is_number" "is_number" s_is_number f_is_number d_is_number) (b_is_number : Binds K d_is_number ["thing"] []) (G_is_number : FnOk P w K mg base CX0 (1) f_is_number d_is_number ["thing"] spNumW) :
    FnOk P w K mg base CX0 (2) f_is_from_to d_is_from_to ["thing", "least", "most"] spFromTo := by
  refine F.ok sc_is_from_to (fun vs H Q E h => ?_) (fun cdv A outer s H vs Q E hr h => ?_)

  · obtain ⟨n, lo, hi, rfl, _⟩ := h
    rfl
  obtain ⟨n, lo, hi, rfl, h1, h2, q⟩ := h
  refine ⟨_, (pss_one (ps_ret (pe_and (pe_call G_is_number hr (by rfl) T.m_is_number F_is_number.kp b_is_number .nil pass0 (pa_cons (pv 0) pa_nil)) (pe_one (pe_chain op_le op_le (pv 1) (pv 0) (pv 2)))))), ?_⟩
  refine ⟨_, rfl, n, rfl, _, rfl, iteT ?_⟩
  refine ⟨_, rfl, _, rfl, _, _, rfl, rfl, _, rfl, ?_⟩
  refine ite2 (fun _ => ?_) (fun z => absurd (decide_eq_true h1) z)
  refine ⟨_, rfl, _, _, rfl, rfl, ?_⟩
  show Q (V.bl (decide (n ≤ hi))) H
  rw [decide_eq_true h2]
  exact q

theorem ok_is_word (F : Fun K "is_word" "is_word" s_is_word f_is_word d_is_word) (T : Txt K mg f_is_number f_is_from_to f_is_word f_is_tuple_of f_is_apart f_runs_of f_many_in f_is_order f_is_printing f_how_many f_printed f_number_at f_seat_of f_numbers_on f_runs_of_numbers f_sheet_runs f_pile f_together f_both f_pile_seat f_pile_place f_stack_at f_stack_place f_is_rising f_spoilt_by f_lfeed f_ldraw f_lorder f_lprinting f_lall_seats f_lsheets f_lstack f_lpiles f_lfar f_law)
    (hc_is_word : d_is_word.code = .ref c_is_word) (TB_is_word : GxR.TabB base mg c_is_word P_is_word) :
    FnOk P w K mg base CX0 (2) f_is_word d_is_word ["thing"] (spWord P_is_word) := by
  refine okT F hc_is_word sc_is_word (fun vs H Q E h => ?_) (fun A outer s H vs Q E hr h => ?_)

  · obtain ⟨s, rfl, _⟩ := h
    rfl
  obtain ⟨s0, rfl, ⟨w1, w2, w3⟩, hP, q⟩ := h
  refine ⟨_, (pss_cons (ps_if (PW.pt (pw_or (pt_not (pt_val (pe_callB call_isi (by rfl) T.isinstance (by decide +kernel) (pa_cons (pv 0) (pa_cons (pe_bltn (v := .ty "str") (by rfl) T.str (by decide +kernel) rfl) pa_nil))))) (pw_or (pt_cmpR op_lt (pe_callB call_len_str (by rfl) T.len (by decide +kernel) (pa_cons (pv 0) pa_nil)) pe_int (nomark _)) (pw_or1 (pt_cmpR op_gt (pe_callB call_len_str (by rfl) T.len (by decide +kernel) (pa_cons (pv 0) pa_nil)) pe_int (nomark _))))))
  (pss_one (ps_ret pe_bl))
  pss_nil)
  (pss_one (ps_ret (pe_allG (own := [("sign", 1)]) (g := (gName 1)) hr (by rfl) T.all sc_is_word.nd TB_is_word rfl (pi_str (pv 0)) (blkOk_by (own := [("sign", 1)]) (N := ["thing", "sign"]) (sc := defScope s_is_word) (by decide +kernel)) (by decide +kernel) (fun _ _ _ _ _ => (pg_name (i := 1) sc_is_word.nd rfl (.inl rfl))) (fun _ _ _ _ _ => pts_nil) (fun _ _ _ _ _ => (pe_chain op_le_str op_le_str pe_str (pv 1) pe_str)))))), ?_⟩
  have ls : s0.length ≤ sizeLine := Nat.le_trans w2 (by decide)
  have l1 : (1 : Int) ≤ (s0.length : Int) := Int.ofNat_le.mpr w1
  have l2 : (s0.length : Int) ≤ 8 := Int.ofNat_le.mpr w2
  refine ⟨_, rfl, _, _, _, _, _, rfl, .ty _, .base (.str s0), rfl, _, rfl, iteF ?_⟩
  refine ⟨_, rfl, s0, rfl, ls, _, _, rfl, rfl, _, rfl, ?_⟩
  refine ite2 (fun z => absurd (of_decide_eq_true z) (by omega)) (fun _ => ?_)
  refine ⟨_, rfl, s0, rfl, ls, _, _, rfl, rfl, _, rfl, ?_⟩
  refine ite2 (fun z => absurd (of_decide_eq_true z) (by omega)) (fun _ => ?_)
  refine ⟨_, rfl, s0, rfl, hP, s0.cps.size, fun _ => true, (fun _ => .bl true), (fun _ H' => Same H H'), gx_it (walk_str (z := s0)) (fun _ H' => Same H H') (Same.refl _) (fun _ _ _ _ => trivial) ?_ ?_⟩
  · rintro i x H1 H2 hi s ⟨rfl, c, hc, rfl⟩
    have cc := w3 c (by
      rw [← Array.getElem?_toList] at hc
      exact List.mem_of_getElem? hc)
    have ea : decide ((⟨#[c]⟩ : Str).cps.toList < (Str.ofString "a").cps.toList) = false := by
      refine decide_eq_false ?_
      show ¬ [c] < [97]
      intro z
      rcases List.cons_lt_cons_iff.mp z with z | ⟨_, z⟩
      · omega
      · exact absurd z (List.not_lt_nil _)
    have ez : decide ((Str.ofString "z").cps.toList < (⟨#[c]⟩ : Str).cps.toList) = false := by
      refine decide_eq_false ?_
      show ¬ [122] < [c]
      intro z
      rcases List.cons_lt_cons_iff.mp z with z | ⟨_, z⟩
      · omega
      · exact absurd z (List.not_lt_nil _)
    refine ⟨rfl, rfl, ?_⟩
    refine ⟨_, rfl, _, _, rfl, rfl, _, rfl, ?_⟩
    rw [ea]
    refine iteT ?_
    refine ⟨_, _, rfl, rfl, ?_, s⟩
    rw [ez]
    rfl
  · refine ⟨fun _ => true, rfl, fun i H2 _ S2 => ?_⟩
    have e : ∀ n : Nat, (((List.range n).filter fun _ => true).all fun _ => true) = true := fun n => by simp
    rw [e]
    exact q _ S2

theorem ok_is_tuple_of (F : Fun K "is_tuple_of" "is_tuple_of" s_is_tuple_of f_is_tuple_of d_is_tuple_of) (T : Txt K mg f_is_number f_is_from_to f_is_word f_is_tuple_of f_is_apart f_runs_of f_many_in f_is_order f_is_printing f_how_many f_printed f_number_at f_seat_of f_numbers_on f_runs_of_numbers f_sheet_runs f_pile f_together f_both f_pile_seat f_pile_place f_stack_at f_stack_place f_is_rising f_spoilt_by f_lfeed f_ldraw f_lorder f_lprinting f_lall_seats f_lsheets f_lstack f_lpiles f_lfar f_law) :
    FnOk P w K mg base CX0 (1) f_is_tuple_of d_is_tuple_of ["thing", "many"] spTupW := by
  refine F.ok sc_is_tuple_of (fun vs H Q E h => ?_) (fun cdv A outer s H vs Q E hr h => ?_)

  · obtain ⟨p, xs, m, rfl, _⟩ := h
    rfl
  obtain ⟨p, xs, m, rfl, hp, hm, q⟩ := h
  refine ⟨_, (pss_one (ps_ret (pe_and (pe_callB call_isi (by rfl) T.isinstance (by decide +kernel) (pa_cons (pv 0) (pa_cons (pe_bltn (v := .ty "tuple") (by rfl) T.tuple (by decide +kernel) rfl) pa_nil))) (pe_one (pe_cmpR op_eq (pe_callB call_len_seq (by rfl) T.len (by decide +kernel) (pa_cons (pv 0) pa_nil)) (pv 1) (nomark _)))))), ?_⟩
  have ty : TyX K H (.ref p) (.type "tuple") := by
    rcases hp with hp | ⟨o, hp⟩
    · exact .base (.tup hp)
    · exact .fTuple hp
  refine ⟨_, rfl, _, _, _, _, _, rfl, .ty _, ty, k_tuple_tuple, _, rfl, iteT ?_⟩
  refine ⟨_, rfl, p, xs, rfl, .inr (.inl hp), _, rfl, rfl, ?_⟩
  subst hm
  have e : decide (V.int (xs.length : Int) = V.int (xs.length : Int)) = true := decide_eq_true rfl
  rw [e]
  exact q

theorem ok_is_order (F : Fun K "is_order" "is_order" s_is_order f_is_order d_is_order) (T : Txt K mg f_is_number f_is_from_to f_is_word f_is_tuple_of f_is_apart f_runs_of f_many_in f_is_order f_is_printing f_how_many f_printed f_number_at f_seat_of f_numbers_on f_runs_of_numbers f_sheet_runs f_pile f_together f_both f_pile_seat f_pile_place f_stack_at f_stack_place f_is_rising f_spoilt_by f_lfeed f_ldraw f_lorder f_lprinting f_lall_seats f_lsheets f_lstack f_lpiles f_lfar f_law)
    (F_is_tuple_of : Fun K "is_tuple_of" "is_tuple_of" s_is_tuple_of f_is_tuple_of d_is_tuple_of) (b_is_tuple_of : Binds K d_is_tuple_of ["thing", "many"] []) (G_is_tuple_of : FnOk P w K mg base CX0 (1) f_is_tuple_of d_is_tuple_of ["thing", "many"] spTupW)
    (hc_is_order : d_is_order.code = .ref c_is_order) (TB_is_order : GxR.TabB base mg c_is_order P_is_order) :
    FnOk P w K mg base CX0 (3) f_is_order d_is_order ["thing"] (spOrdW P_is_order) := by
  refine okT F hc_is_order sc_is_order (fun vs H Q E h => ?_) (fun A outer s H vs Q E hr h => ?_)

  · obtain ⟨t, p, rfl, _⟩ := h
    rfl
  obtain ⟨t, p, rfl, ht, ok, hP, q⟩ := h
  refine ⟨_, (pss_one (ps_ret (pe_and (pe_call G_is_tuple_of (hr.mono (by decide)) (by rfl) T.m_is_tuple_of F_is_tuple_of.kp b_is_tuple_of .nil pass0 (pa_cons (pv 0) (pa_cons pe_int pa_nil))) (pe_one (pe_allG (own := [("word", 1)]) (g := (gName 1)) hr (by rfl) T.all sc_is_order.nd TB_is_order rfl (pi_tup (pe_glob (v := .ref (He.ga K "WORDS")) (by rfl) T.m_WORDS (by exact rfl))) (blkOk_by (own := [("word", 1)]) (N := ["thing", "word"]) (sc := defScope s_is_order) (by decide +kernel)) (by decide +kernel) (fun _ _ _ _ _ => (pg_name (i := 1) sc_is_order.nd rfl (.inl rfl))) (fun _ _ _ _ _ => pts_nil) (fun _ _ _ _ _ => (pe_cmpR (show OpR _ (compareOp .In) (rIn K false) from op_in_seq) (pv 1) (pv 0) (by rfl)))))))), ?_⟩
  refine ⟨_, rfl, t, _, 3, rfl, ht, rfl, _, rfl, iteT ?_⟩
  refine ⟨He.ga K "WORDS", rfl, ⟨_, T.t_WORDS.sq _⟩, hP, 3, fun _ => true, (fun _ => .bl true), (fun _ H' => Same H H'), gx_it (walk_tup (K := K) (a := He.ga K "WORDS") (xs := [("sheet" : Str), ("row" : Str), ("column" : Str)].map V.str)) (fun _ H' => Same H H') (Same.refl _) (fun i H' _ s => T.t_WORDS.sq _) ?_ ?_⟩
  · rintro i x H1 H2 hi s ⟨rfl, hx⟩
    obtain ⟨u, rfl⟩ : ∃ u : Wd, x = .str u.s := by
      match i, hx with
      | 0, hx => exact ⟨.sh, (Option.some.inj hx).symm⟩
      | 1, hx => exact ⟨.ro, (Option.some.inj hx).symm⟩
      | 2, hx => exact ⟨.co, (Option.some.inj hx).symm⟩
    refine ⟨rfl, rfl, ?_⟩
    refine ⟨_, rfl, _, rfl, t, _, rfl, .inr (SqT.sm s (.inl ht)), rfl, rfl, ?_, s⟩
    rw [if_neg Bool.false_ne_true, ord_has ok]
  · refine ⟨fun _ => true, rfl, fun i H2 _ S2 => ?_⟩
    have e : ∀ n : Nat, (((List.range n).filter fun _ => true).all fun _ => true) = true := fun n => by simp
    rw [e]
    exact q _ S2

theorem ok_is_printing (F : Fun K "is_printing" "is_printing" s_is_printing f_is_printing d_is_printing) (T : Txt K mg f_is_number f_is_from_to f_is_word f_is_tuple_of f_is_apart f_runs_of f_many_in f_is_order f_is_printing f_how_many f_printed f_number_at f_seat_of f_numbers_on f_runs_of_numbers f_sheet_runs f_pile f_together f_both f_pile_seat f_pile_place f_stack_at f_stack_place f_is_rising f_spoilt_by f_lfeed f_ldraw f_lorder f_lprinting f_lall_seats f_lsheets f_lstack f_lpiles f_lfar f_law)
    (F_is_tuple_of : Fun K "is_tuple_of" "is_tuple_of" s_is_tuple_of f_is_tuple_of d_is_tuple_of) (b_is_tuple_of : Binds K d_is_tuple_of ["thing", "many"] []) (G_is_tuple_of : FnOk P w K mg base CX0 (3) f_is_tuple_of d_is_tuple_of ["thing", "many"] spTupW)
    (F_is_word : Fun K "is_word" "is_word" s_is_word f_is_word d_is_word) (b_is_word : Binds K d_is_word ["thing"] []) (G_is_word : FnOk P w K mg base CX0 (3) f_is_word d_is_word ["thing"] (spWord P_is_word))
    (F_is_number : Fun K "is_number" "is_number" s_is_number f_is_number d_is_number) (b_is_number : Binds K d_is_number ["thing"] []) (G_is_number : FnOk P w K mg base CX0 (3) f_is_number d_is_number ["thing"] spNumW)
    (F_is_order : Fun K "is_order" "is_order" s_is_order f_is_order d_is_order) (b_is_order : Binds K d_is_order ["thing"] []) (G_is_order : FnOk P w K mg base CX0 (3) f_is_order d_is_order ["thing"] (spOrdW P_is_order))
    (F_is_from_to : Fun K "is_from_to" "is_from_to" s_is_from_to f_is_from_to d_is_from_to) (b_is_from_to : Binds K d_is_from_to ["thing", "least", "most"] []) (G_is_from_to : FnOk P w K mg base CX0 (3) f_is_from_to d_is_from_to ["thing", "least", "most"] spFromTo) :
    FnOk P w K mg base CX0 (4) f_is_printing d_is_printing ["thing"] (spIsPr P_is_order P_is_word) := by
  refine F.ok sc_is_printing (fun vs H Q E h => ?_) (fun cdv A outer s H vs Q E hr h => ?_)

  · obtain ⟨a, p, rfl, _⟩ := h
    rfl
  obtain ⟨a, p, rfl, ⟨t, h1, o, h2, ho⟩, ok, wd, hP1, hP2, q⟩ := h
  refine ⟨_, (pss_cons (ps_if (pt_not (pt_val (pe_call G_is_tuple_of hr (by rfl) T.m_is_tuple_of F_is_tuple_of.kp b_is_tuple_of .nil pass0 (pa_cons (pv 0) (pa_cons pe_int pa_nil)))))
  (pss_one (ps_ret pe_bl))
  pss_nil)
  (pss_cons (ps_asg (pv 0) (pg_tup rfl (pgs_cons (pg_name (i := 1) sc_is_printing.nd rfl (.inl rfl)) (pgs_cons (pg_name (i := 2) sc_is_printing.nd rfl (.inl rfl)) (pgs_cons (pg_name (i := 3) sc_is_printing.nd rfl (.inl rfl)) (pgs_cons (pg_name (i := 4) sc_is_printing.nd rfl (.inl rfl)) (pgs_cons (pg_name (i := 5) sc_is_printing.nd rfl (.inl rfl)) (pgs_cons (pg_name (i := 6) sc_is_printing.nd rfl (.inl rfl)) pgs_nil))))))))
  (pss_cons (ps_if (pt_not (PW.pt (pw_and (pt_val (pe_call G_is_word hr (by rfl) T.m_is_word F_is_word.kp b_is_word .nil pass0 (pa_cons (pv 1) pa_nil))) (pw_and (pt_val (pe_call G_is_number hr (by rfl) T.m_is_number F_is_number.kp b_is_number .nil pass0 (pa_cons (pv 2) pa_nil))) (pw_and (pt_cmpR op_ge (pv 2) pe_int (nomark _)) (pw_and1 (pt_val (pe_call G_is_order hr (by rfl) T.m_is_order F_is_order.kp b_is_order .nil pass0 (pa_cons (pv 6) pa_nil)))))))))
  (pss_one (ps_ret pe_bl))
  pss_nil)
  (pss_cons (ps_if (pt_not (PW.pt (pw_and (pt_val (pe_call G_is_from_to hr (by rfl) T.m_is_from_to F_is_from_to.kp b_is_from_to .nil pass0 (pa_cons (pv 3) (pa_cons pe_int (pa_cons pe_int pa_nil))))) (pw_and (pt_val (pe_call G_is_from_to hr (by rfl) T.m_is_from_to F_is_from_to.kp b_is_from_to .nil pass0 (pa_cons (pv 4) (pa_cons pe_int (pa_cons pe_int pa_nil))))) (pw_and1 (pt_val (pe_call G_is_from_to hr (by rfl) T.m_is_from_to F_is_from_to.kp b_is_from_to .nil pass0 (pa_cons (pv 5) (pa_cons pe_int (pa_cons pe_int pa_nil))))))))))
  (pss_one (ps_ret pe_bl))
  pss_nil)
  (pss_one (ps_ret (pe_cmpR op_le (pe_op op_add (pv 2) (pe_op op_mul (pe_op op_mul (pv 3) (pv 4)) (pv 5))) (pe_gint (by rfl) T.c_NUMBERS) (nomark _)))))))), ?_⟩
  have o1 := ok.c1; have o2 := ok.c2; have o3 := ok.r1; have o4 := ok.r2; have o5 := ok.s1; have o6 := ok.s2
  refine ⟨_, rfl, a, _, 6, rfl, .inl h1, rfl, ?_⟩
  refine ⟨true, rfl, ?_⟩
  refine ⟨_, rfl, a, _, rfl, SqT.of h1, rfl, _, _, rfl, _, _, rfl, _, _, rfl, _, _, rfl, _, _, rfl, _, _, rfl, rfl, ?_⟩
  refine ⟨_, rfl, p.series, rfl, wd, hP2, fun H1 S1 => ?_⟩
  refine ⟨true, rfl, iteT ?_⟩
  refine ⟨_, rfl, p.first, rfl, true, rfl, iteT ?_⟩
  refine ⟨_, rfl, _, _, rfl, rfl, _, rfl, ?_⟩
  refine ite2 (fun _ => ?_) (fun z => absurd (decide_eq_true ok.f0) z)
  refine ⟨_, rfl, t, p, rfl, .inr ⟨o, S1 _ _ h2⟩, ok, S1 _ _ hP1, fun H2 S2 => ?_⟩
  refine ⟨true, rfl, ?_⟩
  refine ⟨_, rfl, p.cols, 1, 12, rfl, o1, o2, true, rfl, iteT ?_⟩
  refine ⟨_, rfl, p.rows, 1, 12, rfl, o3, o4, true, rfl, iteT ?_⟩
  refine ⟨_, rfl, p.sheets, 1, 1000000, rfl, o5, o6, true, rfl, ?_⟩
  refine ⟨_, rfl, _, rfl, _, rfl, _, _, rfl, rfl, .inr ⟨by omega, by omega⟩, _, rfl, _, _, rfl, rfl, .inr ⟨by omega, by omega⟩, _, _, rfl, rfl, _, _, rfl, rfl, ?_⟩
  show Q (V.bl (decide (p.first + p.cols * p.rows * p.sheets ≤ 1000000000))) H2
  rw [decide_eq_true ok.most]
  exact q _ (S1.trans S2)

theorem ok_is_apart (F : Fun K "is_apart" "is_apart" s_is_apart f_is_apart d_is_apart) (T : Txt K mg f_is_number f_is_from_to f_is_word f_is_tuple_of f_is_apart f_runs_of f_many_in f_is_order f_is_printing f_how_many f_printed f_number_at f_seat_of f_numbers_on f_runs_of_numbers f_sheet_runs f_pile f_together f_both f_pile_seat f_pile_place f_stack_at f_stack_place f_is_rising f_spoilt_by f_lfeed f_ldraw f_lorder f_lprinting f_lall_seats f_lsheets f_lstack f_lpiles f_lfar f_law) :
    FnOk P w K mg base CX0 (1) f_is_apart d_is_apart ["run", "later"] spApart := by
  refine F.ok sc_is_apart (fun vs H Q E h => ?_) (fun cdv A outer s H vs Q E hr h => ?_)

  · obtain ⟨p, q, a, b, rfl, _⟩ := h
    rfl
  obtain ⟨p, q, a, b, rfl, h1, h2, z⟩ := h
  refine ⟨_, (pss_cons (ps_if (pt_cmpR op_eq (pe_ix ix_tup (pv 0) pe_int (fun _ _ => rfl)) (pe_ix ix_tup (pv 1) pe_int (fun _ _ => rfl)) (nomark _))
  (pss_one (ps_ret (pe_cmpR op_lt (pe_ix ix_tup (pv 0) pe_int (fun _ _ => rfl)) (pe_ix ix_tup (pv 1) pe_int (fun _ _ => rfl)) (nomark _))))
  pss_nil)
  (pss_one (ps_ret (pe_cmpR op_lt_str (pe_ix ix_tup (pv 0) pe_int (fun _ _ => rfl)) (pe_ix ix_tup (pv 1) pe_int (fun _ _ => rfl)) (nomark _))))), ?_⟩
  refine ⟨_, rfl, p, _, _, _, rfl, rfl, SqT.of h1, rfl, _, rfl, q, _, _, _, rfl, rfl, SqT.of h2, rfl, rfl, _, rfl, ?_⟩
  refine ite2 (fun c => ?_) (fun c => ?_)
  · have e : a.1 = b.1 := V.str.inj (of_decide_eq_true c)
    have z2 : Q (.bl (decide (a.2.2 < b.2.1))) H := by
      unfold apart at z
      rw [if_pos e] at z
      exact z
    exact ⟨_, rfl, p, _, _, _, rfl, rfl, SqT.of h1, rfl, _, rfl, q, _, _, _, rfl, rfl, SqT.of h2, rfl, _, _, rfl, rfl, z2⟩
  · have e : ¬ a.1 = b.1 := fun k => c (decide_eq_true (congrArg V.str k))
    have z2 : Q (.bl (decide (a.1.cps.toList < b.1.cps.toList))) H := by
      unfold apart at z
      rw [if_neg e] at z
      exact z
    exact ⟨_, rfl, p, _, _, _, rfl, rfl, SqT.of h1, rfl, _, rfl, q, _, _, _, rfl, rfl, SqT.of h2, rfl, _, _, rfl, rfl, z2⟩

theorem ok_runs_of (F : Fun K "runs_of" "runs_of" s_runs_of f_runs_of d_runs_of) (T : Txt K mg f_is_number f_is_from_to f_is_word f_is_tuple_of f_is_apart f_runs_of f_many_in f_is_order f_is_printing f_how_many f_printed f_number_at f_seat_of f_numbers_on f_runs_of_numbers f_sheet_runs f_pile f_together f_both f_pile_seat f_pile_place f_stack_at f_stack_place f_is_rising f_spoilt_by f_lfeed f_ldraw f_lorder f_lprinting f_lall_seats f_lsheets f_lstack f_lpiles f_lfar f_law)
    (F_is_apart : Fun K "is_apart" "is_apart" s_is_apart f_is_apart d_is_apart) (b_is_apart : Binds K d_is_apart ["run", "later"] []) (G_is_apart : FnOk P w K mg base CX0 (1) f_is_apart d_is_apart ["run", "later"] spApart) :
    FnOk P w K mg base CX0 (2) f_runs_of d_runs_of ["some"] (spRunsOf K) := by
  refine F.ok sc_runs_of (fun vs H Q E h => ?_) (fun cdv A outer s H vs Q E hr h => ?_)

  · obtain ⟨a, ps, rs, rfl, _⟩ := h
    rfl
  obtain ⟨a, ps, rs, rfl, hs, hp, hz, q⟩ := h
  refine ⟨_, (pss_cons (ps_set (i := 1) sc_runs_of.nd rfl (.inl rfl) (pe_lst pa_nil))
  (pss_cons (ps_for PassesOwn.never rfl (pi_list (pe_callB (cr_sortedD hr) (by rfl) T.sorted (by decide +kernel) (pa_cons (pv 0) pa_nil))) (pg_name (i := 2) sc_runs_of.nd rfl (.inl rfl))
  (pss_one (ps_if (PW.pt (pw_and (pt_truth (pv 1) (by intro _; rfl)) (pw_and1 (pt_not (pt_val (pe_call G_is_apart hr (by rfl) T.m_is_apart F_is_apart.kp b_is_apart .nil pass0 (pa_cons (pe_ix ix_list (pv 1) (pe_un un_neg pe_int) (fun _ _ => rfl)) (pa_cons (pv 2) pa_nil))))))))
  (pss_cons (ps_asg (pe_ix ix_list (pv 1) (pe_un un_neg pe_int) (fun _ _ => rfl)) (pg_tup rfl (pgs_cons (pg_name (i := 3) sc_runs_of.nd rfl (.inl rfl)) (pgs_cons (pg_name (i := 4) sc_runs_of.nd rfl (.inl rfl)) (pgs_cons (pg_name (i := 5) sc_runs_of.nd rfl (.inl rfl)) pgs_nil)))))
  (pss_one (ps_asg (pe_tup (pa_cons (pv 3) (pa_cons (pv 4) (pa_cons (pe_callB (call_max2 rfl) (by rfl) T.max (by decide +kernel) (pa_cons (pv 5) (pa_cons (pe_ix ix_tup (pv 2) pe_int (fun _ _ => rfl)) pa_nil))) pa_nil)))) (pg_sub (pv 1) (pe_un un_neg pe_int) set_list))))
  (pss_one (ps_expr (pe_bm PySem.F.plainAttrs_list PySem.F.slot_list_append PySem.F.type_list_append mt_append (pv 1) (pa_cons (pv 2) pa_nil)))))))
  (pss_one (ps_ret (pe_callTy call_tuple_of (by rfl) T.tuple (by decide +kernel) (pa_cons (pv 1) pa_nil)))))), ?_⟩
  refine ⟨(show 0 ≤ sizeLine by decide), fun l hl => ?_⟩
  have S1 : Same H (upd H l (.lst [])) := same_new hl _
  have hp1 := Prd.same S1 hp
  obtain ⟨qs, e1, hq⟩ := sort_rn hp1
  refine ⟨_, rfl, a, _, _, rfl, SqL.sm S1 hs, Prd.dp hp1, rn_alike rs, rn_sortable rs, rn_depth rs, fun b hb => ?_⟩
  rw [e1]
  have lb : l ≠ b := ne_of_none upd_same hb
  have S2 := same_new hb (.lst (qs.map V.ref))
  have hql : qs.length = rs.length := by
    rw [hq.len, List.length_mergeSort]
  refine ⟨b, rfl, ⟨_, SqL.of upd_same⟩, for_list (K := K) (a := b) (xs := qs.map V.ref) (fun i σ H' => ∃ (fs : List Addr) (v6 v3 v4 v5 : Option V), σ = [some (.ref a), some (.ref l), v6, v3, v4, v5] ∧
    H' l = some (.lst (fs.map V.ref)) ∧ Prd H' fs (merge ((rs.mergeSort rnLe).take i)) ∧ H' b = some (.lst (qs.map V.ref)) ∧ Same H H' ∧ Prd H' qs (rs.mergeSort rnLe)) ?_ ?_ ?_ ?_⟩
  · exact ⟨[], none, none, none, none, rfl, (upd_ne lb).trans upd_same, .nil, upd_same, S1.trans S2, Prd.same S2 hq⟩
  · rintro i σ H' _ ⟨_, _, _, _, _, _, _, _, h4, _⟩
    exact SqL.of h4
  · rintro i x σ H' hx ⟨fs, v6, v3, v4, v5, rfl, h1, h2, h3, S3, h5⟩
    obtain ⟨p, hp, rfl⟩ : ∃ p, qs[i]? = some p ∧ x = V.ref p := by
      rw [List.getElem?_map] at hx
      cases e : qs[i]? with
      | none => rw [e] at hx; cases hx
      | some p => rw [e] at hx; exact ⟨p, rfl, (Option.some.inj hx).symm⟩
    obtain ⟨r, hr1, hr2⟩ := Prd.get h5 hp
    have mm := merge_more hr1
    have flen : fs.length ≤ 100000 := by
      have z := h2.len
      have z2 := merge_len ((rs.mergeSort rnLe).take i)
      rw [List.length_take, List.length_mergeSort] at z2
      omega
    have fin : ∀ (Hx : Hp) (v3' v4' v5' : Option V) (fs' : List Addr), Same H' Hx → Prd Hx fs' (push (merge ((rs.mergeSort rnLe).take i)) r) → ∃ (fs : List Addr) (v6 v3 v4 v5 : Option V), [some (V.ref a), some (.ref l), some (.ref p), v3', v4', v5'] = [some (.ref a), some (.ref l), v6, v3, v4, v5] ∧
        (upd Hx l (.lst (fs'.map V.ref))) l = some (.lst (fs.map V.ref)) ∧ Prd (upd Hx l (.lst (fs'.map V.ref))) fs (merge ((rs.mergeSort rnLe).take (i + 1))) ∧ (upd Hx l (.lst (fs'.map V.ref))) b = some (.lst (qs.map V.ref)) ∧ Same H (upd Hx l (.lst (fs'.map V.ref))) ∧ Prd (upd Hx l (.lst (fs'.map V.ref))) qs (rs.mergeSort rnLe) := fun Hx v3' v4' v5' fs' sx hh => by
      have keepP : ∀ (o : HO) {qs' : List Addr} {rs' : List Rn}, Prd Hx qs' rs' → Prd (upd Hx l o) qs' rs' := fun o qs' rs' hh => Prd.keep (fun p0 hp0 o0 ho0 => by
        obtain ⟨r0, _, e0⟩ := Prd.mem hh hp0
        rw [upd_ne (ne_of e0 (sx _ _ h1) (fun z => nomatch z))]
        exact ho0) hh
      refine ⟨fs', _, _, _, _, rfl, upd_same, by rw [mm]; exact keepP _ hh, (upd_ne (Ne.symm lb)).trans (sx _ _ h3), fun z u hz => ?_, keepP _ (Prd.same sx h5)⟩
      rw [upd_ne (ne_of_none hz hl)]
      exact sx _ _ (S3 _ _ hz)
    refine ⟨_, rfl, !(fs.map V.ref).isEmpty, .inl ⟨_, SqL.of h1, rfl⟩, ?_⟩
    rcases nil_or_snoc fs with rfl | ⟨fi, la, rfl⟩
    · refine iteF ?_
      refine ⟨_, rfl, .inl ⟨rfl, _, SqL.of h1⟩, _, rfl, l, _, _, rfl, rfl, h1, (show 0 < sizeLine by decide), ?_⟩
      have e0 : merge ((rs.mergeSort rnLe).take i) = [] := List.eq_nil_of_length_eq_zero (by rw [← h2.len]; rfl)
      exact fin H' _ _ _ [p] (Same.refl _) (by rw [e0]; exact Prd.one hr2)
    · obtain ⟨ts, lr, e2, hi2, hla⟩ := Prd.snoc h2
      rw [List.map_append, List.map_singleton] at h1
      have ne : (!((fi ++ [la]).map V.ref).isEmpty) = true := by simp
      rw [ne]
      refine iteT ?_
      refine ⟨_, rfl, 1, rfl, l, _, _, _, rfl, rfl, SqL.of h1, atI_last _ _, _, rfl, la, p, lr, r, rfl, hla, hr2, _, rfl, ?_⟩
      cases ap : apart lr r with
      | true =>
        refine iteF ?_
        refine ⟨_, rfl, .inl ⟨rfl, _, SqL.of h1⟩, _, rfl, l, _, _, rfl, rfl, h1, ?_, ?_⟩
        · rw [List.length_append, List.length_map, List.length_singleton]
          rw [List.length_append, List.length_singleton] at flen
          exact Nat.lt_of_le_of_lt flen (show 100000 < sizeLine by decide)
        · have z := fin H' v3 v4 v5 (fi ++ [la] ++ [p]) (Same.refl _) (by rw [e2, push_snoc, ap]; exact Prd.app (Prd.app hi2 (Prd.one hla)) (Prd.one hr2))
          rw [List.map_append, List.map_append] at z
          exact z
      | false =>
        refine iteT ?_
        refine ⟨_, rfl, 1, rfl, l, _, _, _, rfl, rfl, SqL.of h1, atI_last _ _, la, _, rfl, SqT.of hla, rfl, _, _, rfl, _, _, rfl, _, _, rfl, rfl, ?_⟩
        refine ⟨_, rfl, _, rfl, _, rfl, _, rfl, p, _, _, _, rfl, rfl, SqT.of hr2, rfl, _, _, rfl, (show 3 ≤ sizeLine by decide), fun t ht => ?_⟩
        have sx := same_new ht (.tup (rnV (lr.1, lr.2.1, if r.2.2 > lr.2.2 then r.2.2 else lr.2.2)))
        refine ⟨_, rfl, 1, rfl, l, _, _, fi.length, rfl, rfl, sx _ _ h1, ?_, ?_⟩
        · rw [List.length_append, List.length_map, List.length_singleton]
          exact ix_last _
        · have z := fin _ (some (.str lr.1)) (some (.int lr.2.1)) (some (.int lr.2.2)) (fi ++ [t]) sx (by rw [e2, push_snoc, ap]; exact Prd.app (Prd.same sx hi2) (Prd.one upd_same))
          have e3 : (fi.map V.ref ++ [V.ref la]).set fi.length (.ref t) = (fi ++ [t]).map V.ref := by
            rw [List.set_append_right _ _ (by rw [List.length_map]; exact Nat.le_refl _), List.length_map, Nat.sub_self, List.map_append]
            rfl
          rw [e3]
          exact z
  · rintro σ H' ⟨fs, v6, v3, v4, v5, rfl, h1, h2, h3, S3, h5⟩
    refine ⟨_, rfl, l, _, rfl, .inl ⟨SqL.of h1, fun t ht => ?_⟩⟩
    rw [List.length_map, List.take_of_length_le (by rw [List.length_mergeSort]; omega)] at h2
    exact q t fs _ (S3.trans (same_new ht _)) (S3.free ht) upd_same (Prd.same (same_new ht _) h2)

theorem ok_many_in (F : Fun K "many_in" "many_in" s_many_in f_many_in d_many_in) (T : Txt K mg f_is_number f_is_from_to f_is_word f_is_tuple_of f_is_apart f_runs_of f_many_in f_is_order f_is_printing f_how_many f_printed f_number_at f_seat_of f_numbers_on f_runs_of_numbers f_sheet_runs f_pile f_together f_both f_pile_seat f_pile_place f_stack_at f_stack_place f_is_rising f_spoilt_by f_lfeed f_ldraw f_lorder f_lprinting f_lall_seats f_lsheets f_lstack f_lpiles f_lfar f_law)
    (hc_many_in : d_many_in.code = .ref c_many_in) (TB_many_in : GxR.TabB base mg c_many_in P_many_in) :
    FnOk P w K mg base CX0 (2) f_many_in d_many_in ["runs"] (spMany K P_many_in) := by
  refine okT F hc_many_in sc_many_in (fun vs H Q E h => ?_) (fun A outer s H vs Q E hr h => ?_)

  · obtain ⟨a, rs, rfl, _⟩ := h
    rfl
  obtain ⟨a, rs, rfl, ⟨qs, ha, hp⟩, hl, ok, ht, q⟩ := h
  refine ⟨_, (pss_one (ps_ret (pe_sumG (own := [("series", 1), ("low", 2), ("high", 3)]) (g := (gTup K 3 (gCons (gName 1) (gCons (gName 2) (gCons (gName 3) gNil))))) hr (by rfl) T.sum sc_many_in.nd TB_many_in rfl (pi_tup (pv 0)) (blkOk_by (own := [("series", 1), ("low", 2), ("high", 3)]) (N := ["runs", "series", "low", "high"]) (sc := defScope s_many_in) (by decide +kernel)) (by decide +kernel) (fun _ _ _ _ _ => (pg_tup rfl (pgs_cons (pg_name (i := 1) sc_many_in.nd rfl (.inl rfl)) (pgs_cons (pg_name (i := 2) sc_many_in.nd rfl (.inl rfl)) (pgs_cons (pg_name (i := 3) sc_many_in.nd rfl (.inl rfl)) pgs_nil))))) (fun _ _ _ _ _ => pts_nil) (fun _ _ _ _ _ => (pe_op op_sub (pv 3) (pv 2)))))), ?_⟩
  have el : (qs.map V.ref).length = rs.length := by rw [List.length_map, hp.len]
  refine ⟨_, rfl, a, rfl, ⟨_, ha⟩, ht, (qs.map V.ref).length, fun _ => true, (fun i => .int ((rs[i]?).elim 0 cnt)), (fun _ H' => Same H H'), gx_it (walk_tup (K := K) (a := a) (xs := qs.map V.ref)) _ (Same.refl _) (fun i H' _ s => SqT.sm s ha) ?_ ⟨fun i => (rs[i]?).elim 0 cnt, 1000000000, rfl, ?_, fun i _ => ?_, fun H' s => ?_⟩⟩
  · rintro i x H1 H2 hi s ⟨rfl, hx⟩
    obtain ⟨u, hu, rfl⟩ : ∃ u, qs[i]? = some u ∧ x = V.ref u := by
      rw [List.getElem?_map] at hx
      cases e : qs[i]? with
      | none => rw [e] at hx; cases hx
      | some p => rw [e] at hx; exact ⟨p, rfl, (Option.some.inj hx).symm⟩
    obtain ⟨r, hr, hr2⟩ := Prd.get hp hu
    refine ⟨u, _, rfl, SqT.of (s _ _ hr2), rfl, _, _, rfl, _, _, rfl, _, _, rfl, rfl, rfl, rfl, ?_⟩
    refine ⟨_, rfl, _, rfl, _, _, rfl, rfl, ?_, s⟩
    rw [hr]
    rfl
  · rw [el]
    omega
  · show ((rs[i]?).elim 0 cnt).natAbs ≤ 1000000000
    cases e : rs[i]? with
    | none => exact Nat.zero_le _
    | some r =>
      obtain ⟨o1, o2, o3⟩ := ok r (List.mem_of_getElem? e)
      show (cnt r).natAbs ≤ 1000000000
      unfold cnt
      omega
  · have e : (((List.range (qs.map V.ref).length).filter fun _ => true).map fun i => (rs[i]?).elim 0 cnt).sum = cntL rs := by
      rw [el]
      exact range_sum cnt rs
    rw [e]
    exact q H' s

theorem ok_how_many (F : Fun K "how_many" "how_many" s_how_many f_how_many d_how_many) (T : Txt K mg f_is_number f_is_from_to f_is_word f_is_tuple_of f_is_apart f_runs_of f_many_in f_is_order f_is_printing f_how_many f_printed f_number_at f_seat_of f_numbers_on f_runs_of_numbers f_sheet_runs f_pile f_together f_both f_pile_seat f_pile_place f_stack_at f_stack_place f_is_rising f_spoilt_by f_lfeed f_ldraw f_lorder f_lprinting f_lall_seats f_lsheets f_lstack f_lpiles f_lfar f_law) :
    FnOk P w K mg base CX0 (1) f_how_many d_how_many ["printing"] (spHow dictW) := by
  refine F.ok sc_how_many (fun vs H Q E h => ?_) (fun cdv A outer s H vs Q E hr h => ?_)

  · obtain ⟨a, p, rfl, _⟩ := h
    rfl
  obtain ⟨a, p, rfl, ⟨t, h1, o, h2, ho⟩, q⟩ := h
  refine ⟨_, (pss_one (ps_ret (pe_disp (pps_cons pe_str (pe_ix ix_tup (pv 0) pe_int (fun _ _ => rfl)) (pps_cons pe_str (pe_ix ix_tup (pv 0) pe_int (fun _ _ => rfl)) (pps_cons pe_str (pe_ix ix_tup (pv 0) pe_int (fun _ _ => rfl)) pps_nil))) (by rfl) (by rfl) (fun z => by cases z) (by decide)))), ?_⟩
  intro d hd
  have s1 : Same H (upd H d (.dK [])) := same_new hd _
  have k1 := SqT.of (K := K) (s1 _ _ h1)
  refine ⟨_, rfl, a, _, _, _, rfl, rfl, k1, rfl, _, rfl, a, _, _, _, rfl, rfl, k1, rfl, _, rfl, a, _, _, _, rfl, rfl, k1, rfl, upd_same, dictW p.size, rfl, (show 3 ≤ 15 by decide), ?_⟩
  rw [upd_upd]
  refine q d _ (same_new hd _) ?_
  rw [upd_same]
  rfl

theorem ok_printed (F : Fun K "printed" "printed" s_printed f_printed d_printed) (T : Txt K mg f_is_number f_is_from_to f_is_word f_is_tuple_of f_is_apart f_runs_of f_many_in f_is_order f_is_printing f_how_many f_printed f_number_at f_seat_of f_numbers_on f_runs_of_numbers f_sheet_runs f_pile f_together f_both f_pile_seat f_pile_place f_stack_at f_stack_place f_is_rising f_spoilt_by f_lfeed f_ldraw f_lorder f_lprinting f_lall_seats f_lsheets f_lstack f_lpiles f_lfar f_law) :
    FnOk P w K mg base CX0 (1) f_printed d_printed ["printing"] spPrinted := by
  refine F.ok sc_printed (fun vs H Q E h => ?_) (fun cdv A outer s H vs Q E hr h => ?_)

  · obtain ⟨a, p, rfl, _⟩ := h
    rfl
  obtain ⟨a, p, rfl, ⟨t, h1, o, h2, ho⟩, ok, q⟩ := h
  refine ⟨_, (pss_cons (ps_asg (pv 0) (pg_tup rfl (pgs_cons (pg_name (i := 1) sc_printed.nd rfl (.inl rfl)) (pgs_cons (pg_name (i := 2) sc_printed.nd rfl (.inl rfl)) (pgs_cons (pg_name (i := 3) sc_printed.nd rfl (.inl rfl)) (pgs_cons (pg_name (i := 4) sc_printed.nd rfl (.inl rfl)) (pgs_cons (pg_name (i := 5) sc_printed.nd rfl (.inl rfl)) (pgs_cons (pg_name (i := 6) sc_printed.nd rfl (.inl rfl)) pgs_nil))))))))
  (pss_one (ps_ret (pe_tup (pa_cons (pv 1) (pa_cons (pv 2) (pa_cons (pe_op op_add (pv 2) (pe_op op_mul (pe_op op_mul (pv 3) (pv 4)) (pv 5))) pa_nil))))))), ?_⟩
  have o1 := ok.c1; have o2 := ok.c2; have o3 := ok.r1; have o4 := ok.r2; have o5 := ok.s1; have o6 := ok.s2
  refine ⟨_, rfl, a, _, rfl, SqT.of h1, rfl, _, _, rfl, _, _, rfl, _, _, rfl, _, _, rfl, _, _, rfl, _, _, rfl, rfl, ?_⟩
  refine ⟨_, rfl, _, rfl, _, rfl, _, rfl, _, rfl, _, _, rfl, rfl, .inr ⟨by omega, by omega⟩, _, rfl, _, _, rfl, rfl, .inr ⟨by omega, by omega⟩, _, _, rfl, rfl, (show 3 ≤ sizeLine by decide), fun t ht => q t _ (same_new ht _) ht upd_same⟩

theorem ok_number_at (F : Fun K "number_at" "number_at" s_number_at f_number_at d_number_at) (T : Txt K mg f_is_number f_is_from_to f_is_word f_is_tuple_of f_is_apart f_runs_of f_many_in f_is_order f_is_printing f_how_many f_printed f_number_at f_seat_of f_numbers_on f_runs_of_numbers f_sheet_runs f_pile f_together f_both f_pile_seat f_pile_place f_stack_at f_stack_place f_is_rising f_spoilt_by f_lfeed f_ldraw f_lorder f_lprinting f_lall_seats f_lsheets f_lstack f_lpiles f_lfar f_law)
    (F_how_many : Fun K "how_many" "how_many" s_how_many f_how_many d_how_many) (b_how_many : Binds K d_how_many ["printing"] []) (G_how_many : FnOk P w K mg base CX0 (1) f_how_many d_how_many ["printing"] (spHow dictW)) :
    FnOk P w K mg base CX0 (2) f_number_at d_number_at ["printing", "sheet", "row", "column"] spNum := by
  refine F.ok sc_number_at (fun vs H Q E h => ?_) (fun cdv A outer s H vs Q E hr h => ?_)

  · obtain ⟨a, p, s, r, c, rfl, _⟩ := h
    rfl
  obtain ⟨a, p, s, r, c, rfl, hp, ok, q⟩ := h
  refine ⟨_, (pss_cons (ps_set (i := 4) sc_number_at.nd rfl (.inl rfl) (pe_call G_how_many hr (by rfl) T.m_how_many F_how_many.kp b_how_many .nil pass0 (pa_cons (pv 0) pa_nil)))
  (pss_cons (ps_set (i := 5) sc_number_at.nd rfl (.inl rfl) (pe_disp (pps_cons pe_str (pv 1) (pps_cons pe_str (pv 2) (pps_cons pe_str (pv 3) pps_nil))) (by rfl) (by rfl) (fun z => by cases z) (by decide)))
  (pss_cons (ps_asg (pe_ix ix_tup (pv 0) pe_int (fun _ _ => rfl)) (pg_tup rfl (pgs_cons (pg_name (i := 6) sc_number_at.nd rfl (.inl rfl)) (pgs_cons (pg_name (i := 7) sc_number_at.nd rfl (.inl rfl)) (pgs_cons (pg_name (i := 8) sc_number_at.nd rfl (.inl rfl)) pgs_nil)))))
  (pss_cons (ps_set (i := 9) sc_number_at.nd rfl (.inl rfl) (pe_op op_add (pe_op op_mul (pe_op op_add (pe_op op_mul (pe_dget (hu_of hr) (pv 5) (pv 6) (fun _ _ => rfl)) (pe_dget (hu_of hr) (pv 4) (pv 7) (fun _ _ => rfl))) (pe_dget (hu_of hr) (pv 5) (pv 7) (fun _ _ => rfl))) (pe_dget (hu_of hr) (pv 4) (pv 8) (fun _ _ => rfl))) (pe_dget (hu_of hr) (pv 5) (pv 8) (fun _ _ => rfl))))
  (pss_one (ps_ret (pe_op op_add (pe_ix ix_tup (pv 0) pe_int (fun _ _ => rfl)) (pv 9)))))))), ?_⟩
  refine ⟨_, rfl, a, p, rfl, hp, fun d H1 s1 hd => ?_⟩
  intro e he
  have s2 : Same H1 (upd H1 e (.dK (dictW (seatW s r c)))) := same_new he _
  obtain ⟨t, h1, o, h2, ho⟩ := (hp.same s1).same s2
  have hd2 := get_dW (s2 _ _ hd)
  have he2 := get_dW (H := upd H1 e (.dK (dictW (seatW s r c)))) upd_same
  have big : ∀ u : Wd, -(2 ^ 64) < p.size u ∧ p.size u < 2 ^ 64 := fun u => by
    have := ok.size_lo u
    have := ok.size_hi u
    constructor <;> omega
  refine ⟨_, rfl, _, rfl, _, rfl, upd_same, dictW (seatW s r c), rfl, (show 3 ≤ 15 by decide), ?_⟩
  rw [upd_upd]
  refine ⟨_, rfl, a, _, _, _, rfl, rfl, SqT.of h1, rfl, t, _, rfl, sqF h2, rfl, _, _, rfl, _, _, rfl, _, _, rfl, rfl, ?_⟩
  refine ⟨_, rfl, _, rfl, e, _, rfl, he2 p.o1, _, rfl, _, rfl, d, _, rfl, hd2 p.o2, _, _, rfl, rfl, .inr (ok.big p.o2), _, rfl, _, rfl, e, _, rfl, he2 p.o2, _, _, rfl, rfl, _, rfl, _, rfl, d, _, rfl, hd2 p.o3, _, _, rfl, rfl, .inr (ok.big p.o3), _, rfl, _, rfl, e, _, rfl, he2 p.o3, _, _, rfl, rfl, ?_⟩
  refine ⟨_, rfl, a, _, _, _, rfl, rfl, SqT.of h1, rfl, _, rfl, _, _, rfl, rfl, ?_⟩
  exact q _ (s1.trans s2)

theorem ok_seat_of (F : Fun K "seat_of" "seat_of" s_seat_of f_seat_of d_seat_of) (T : Txt K mg f_is_number f_is_from_to f_is_word f_is_tuple_of f_is_apart f_runs_of f_many_in f_is_order f_is_printing f_how_many f_printed f_number_at f_seat_of f_numbers_on f_runs_of_numbers f_sheet_runs f_pile f_together f_both f_pile_seat f_pile_place f_stack_at f_stack_place f_is_rising f_spoilt_by f_lfeed f_ldraw f_lorder f_lprinting f_lall_seats f_lsheets f_lstack f_lpiles f_lfar f_law)
    (F_printed : Fun K "printed" "printed" s_printed f_printed d_printed) (b_printed : Binds K d_printed ["printing"] []) (G_printed : FnOk P w K mg base CX0 (2) f_printed d_printed ["printing"] spPrinted)
    (F_how_many : Fun K "how_many" "how_many" s_how_many f_how_many d_how_many) (b_how_many : Binds K d_how_many ["printing"] []) (G_how_many : FnOk P w K mg base CX0 (2) f_how_many d_how_many ["printing"] (spHow dictW)) :
    FnOk P w K mg base CX0 (3) f_seat_of d_seat_of ["printing", "number"] spSeatN := by
  refine F.ok sc_seat_of (fun vs H Q E h => ?_) (fun cdv A outer s H vs Q E hr h => ?_)

  · obtain ⟨a, p, n, rfl, _⟩ := h
    rfl
  obtain ⟨a, p, n, rfl, hp, ok, lo, hi, q⟩ := h
  refine ⟨_, (pss_cons (ps_asg (pe_call G_printed hr (by rfl) T.m_printed F_printed.kp b_printed .nil pass0 (pa_cons (pv 0) pa_nil)) (pg_tup rfl (pgs_cons (pg_name (i := 2) sc_seat_of.nd rfl (.inl rfl)) (pgs_cons (pg_name (i := 3) sc_seat_of.nd rfl (.inl rfl)) (pgs_cons (pg_name (i := 4) sc_seat_of.nd rfl (.inl rfl)) pgs_nil)))))
  (pss_cons (ps_if (PW.pt (pw_or (pt_cmpR op_lt (pv 1) (pv 3) (nomark _)) (pw_or1 (pt_cmpR op_ge (pv 1) (pv 4) (nomark _)))))
  (pss_one (ps_never))
  pss_nil)
  (pss_cons (ps_set (i := 5) sc_seat_of.nd rfl (.inl rfl) (pe_call G_how_many hr (by rfl) T.m_how_many F_how_many.kp b_how_many .nil pass0 (pa_cons (pv 0) pa_nil)))
  (pss_cons (ps_asg (pe_ix ix_tup (pv 0) pe_int (fun _ _ => rfl)) (pg_tup rfl (pgs_cons (pg_name (i := 6) sc_seat_of.nd rfl (.inl rfl)) (pgs_cons (pg_name (i := 7) sc_seat_of.nd rfl (.inl rfl)) (pgs_cons (pg_name (i := 8) sc_seat_of.nd rfl (.inl rfl)) pgs_nil)))))
  (pss_cons (ps_set (i := 9) sc_seat_of.nd rfl (.inl rfl) pe_dnewK)
  (pss_cons (ps_asg (pe_callB call_divmod (by rfl) T.divmod (by decide +kernel) (pa_cons (pe_op op_sub (pv 1) (pv 3)) (pa_cons (pe_dget (hu_of hr) (pv 5) (pv 8) (fun _ _ => rfl)) pa_nil))) (pg_tup rfl (pgs_cons (pg_name (i := 10) sc_seat_of.nd rfl (.inl rfl)) (pgs_cons (pg_sub (pv 9) (pv 8) (set_dict (hu_of hr))) pgs_nil))))
  (pss_cons (ps_asg (pe_callB call_divmod (by rfl) T.divmod (by decide +kernel) (pa_cons (pv 10) (pa_cons (pe_dget (hu_of hr) (pv 5) (pv 7) (fun _ _ => rfl)) pa_nil))) (pg_tup rfl (pgs_cons (pg_sub (pv 9) (pv 6) (set_dict (hu_of hr))) (pgs_cons (pg_sub (pv 9) (pv 7) (set_dict (hu_of hr))) pgs_nil))))
  (pss_one (ps_ret (pe_tup (pa_cons (pe_dget (hu_of hr) (pv 9) pe_str (fun _ _ => rfl)) (pa_cons (pe_dget (hu_of hr) (pv 9) pe_str (fun _ _ => rfl)) (pa_cons (pe_dget (hu_of hr) (pv 9) pe_str (fun _ _ => rfl)) pa_nil))))))))))))), ?_⟩
  refine ⟨_, rfl, a, p, rfl, hp, ok, fun t0 H1 S1 n0 h0 => ?_⟩
  refine ⟨t0, _, rfl, SqT.of h0, rfl, _, _, rfl, _, _, rfl, _, _, rfl, rfl, ?_⟩
  refine ⟨_, rfl, _, rfl, _, _, rfl, rfl, _, rfl, ite2 (fun c1 => absurd (of_decide_eq_true c1) (by omega)) fun c1 => ⟨_, rfl, _, rfl, _, _, rfl, rfl, _, rfl, ite2 (fun c2 => absurd (of_decide_eq_true c2) (by omega)) fun c2 => ?_⟩⟩
  clear c1 c2
  refine ⟨_, rfl, a, p, rfl, hp.same S1, fun d H2 S2 hd => ?_⟩
  obtain ⟨t, h1, o, h2, ho⟩ := (hp.same S1).same S2
  refine ⟨_, rfl, a, _, _, _, rfl, rfl, SqT.of h1, rfl, t, _, rfl, sqF h2, rfl, _, _, rfl, _, _, rfl, _, _, rfl, rfl, ?_⟩
  intro x hx
  have S3 := same_new hx (.dK [])
  have s2' := ok.size_lo p.o2; have s3' := ok.size_lo p.o3; have s2h := ok.size_hi p.o2; have s3h := ok.size_hi p.o3
  refine ⟨_, rfl, _, rfl, _, _, rfl, rfl, _, rfl, _, rfl, d, _, rfl, get_dW (S3 _ _ hd) p.o3, _, _, rfl, ⟨by omega, by omega⟩, fun q1 hq1 => ?_⟩
  have nq1 : H2 q1 = none := S3.free hq1
  have S4 := same_put (o := .tup [V.int ((n - p.first) / p.size p.o3), V.int ((n - p.first) % p.size p.o3)]) S3 nq1
  have xq1 : x ≠ q1 := ne_of_none upd_same hq1
  refine ⟨q1, _, rfl, SqT.of upd_same, rfl, _, _, rfl, _, _, rfl, _, rfl, _, rfl, x, _, rfl, DPut.k (k := Sum.inr p.o3.s) ((upd_ne xq1).trans upd_same) (by decide), rfl, ?_⟩
  have S5 := same_put (o := .dK (putK [] (Sum.inr p.o3.s) (V.int ((n - p.first) % p.size p.o3)))) S4 hx
  refine ⟨_, rfl, _, rfl, _, rfl, d, _, rfl, get_dW (S5 _ _ hd) p.o2, _, _, rfl, ⟨by omega, by omega⟩, fun q2 hq2 => ?_⟩
  have nq2 : H2 q2 = none := S5.free hq2
  have S6 := same_put (o := .tup [V.int ((n - p.first) / p.size p.o3 / p.size p.o2), V.int ((n - p.first) / p.size p.o3 % p.size p.o2)]) S5 nq2
  have xq2 : x ≠ q2 := ne_of_none upd_same hq2
  refine ⟨q2, _, rfl, SqT.of upd_same, rfl, _, _, rfl, _, rfl, _, rfl, x, _, rfl, DPut.k (k := Sum.inr p.o1.s) ((upd_ne xq2).trans upd_same) (put_small 0 (Nat.le_refl _) (by decide)), _, _, rfl, _, rfl, _, rfl, x, _, rfl, DPut.k (k := Sum.inr p.o2.s) upd_same (put_small 1 (put_len [] _ _) (by decide)), rfl, ?_⟩
  rw [put3 ok, upd_upd]
  obtain ⟨f, hf⟩ : ∃ f, f = seatAt p (n - p.first) := ⟨_, rfl⟩
  have ed : [((Sum.inr p.o3.s : Key), V.int ((n - p.first) % p.size p.o3)), (Sum.inr p.o1.s, V.int ((n - p.first) / p.size p.o3 / p.size p.o2)), (Sum.inr p.o2.s, V.int ((n - p.first) / p.size p.o3 % p.size p.o2))] = ordD p f := by
    unfold ordD
    rw [hf, seatAt1 ok, seatAt2 ok, seatAt3]
  rw [ed]
  have S7 := same_put (o := .dK (ordD p f)) S6 hx
  refine ⟨_, rfl, x, _, rfl, get_ord ok upd_same .sh, _, rfl, x, _, rfl, get_ord ok upd_same .ro, _, rfl, x, _, rfl, get_ord ok upd_same .co, (show 3 ≤ sizeLine by decide), fun t3 h3 => ?_⟩
  have hin : SeatIn p f := by
    rw [hf]
    have z : p.end = p.first + p.cols * p.rows * p.sheets := rfl
    exact seatAt_in ok (by omega) (by omega)
  have hat : p.at f = n := by
    rw [hf, seatAt_num ok]
    omega
  exact q f t3 _ hin hat ((S1.trans S2).trans (S7.trans (same_new h3 _))) upd_same

theorem ok_numbers_on (F : Fun K "numbers_on" "numbers_on" s_numbers_on f_numbers_on d_numbers_on) (T : Txt K mg f_is_number f_is_from_to f_is_word f_is_tuple_of f_is_apart f_runs_of f_many_in f_is_order f_is_printing f_how_many f_printed f_number_at f_seat_of f_numbers_on f_runs_of_numbers f_sheet_runs f_pile f_together f_both f_pile_seat f_pile_place f_stack_at f_stack_place f_is_rising f_spoilt_by f_lfeed f_ldraw f_lorder f_lprinting f_lall_seats f_lsheets f_lstack f_lpiles f_lfar f_law)
    (F_number_at : Fun K "number_at" "number_at" s_number_at f_number_at d_number_at) (b_number_at : Binds K d_number_at ["printing", "sheet", "row", "column"] []) (G_number_at : FnOk P w K mg base CX0 (2) f_number_at d_number_at ["printing", "sheet", "row", "column"] spNum) :
    FnOk P w K mg base CX0 (3) f_numbers_on d_numbers_on ["printing", "sheet"] spNumsOn := by
  refine F.ok sc_numbers_on (fun vs H Q E h => ?_) (fun cdv A outer s H vs Q E hr h => ?_)

  · obtain ⟨a, p, s, rfl, _⟩ := h
    rfl
  obtain ⟨a, p, s, rfl, hp, ok, q⟩ := h
  refine ⟨_, (pss_cons (ps_set (i := 2) sc_numbers_on.nd rfl (.inr rfl) (pe_ix ix_tup (pv 0) pe_int (fun _ _ => rfl)))
  (pss_cons (ps_set (i := 3) sc_numbers_on.nd rfl (.inl rfl) (pe_ix ix_tup (pv 0) pe_int (fun _ _ => rfl)))
  (pss_one (ps_ret (pe_lc2 (own := [("row", 4), ("column", 5)]) (g := (gName 4)) (g1 := (gName 5)) (vs1 := [5]) (by rfl) sc_numbers_on.nd (pi_range1 (by rfl) T.range (pa_cons (pv 3) pa_nil)) (blkOk_by (own := [("row", 4), ("column", 5)]) (N := ["printing", "sheet", "columns", "rows", "row", "column"]) (sc := defScope s_numbers_on) (by decide +kernel)) (by decide) (fun _ _ _ _ _ => (pg_name (i := 4) sc_numbers_on.nd rfl (.inl rfl))) (fun _ _ _ _ _ => pts_nil) (fun _ _ _ _ _ => (pi_range1 (by rfl) T.range (pa_cons (pv 2) pa_nil))) (fun _ _ _ _ _ => (pg_name (i := 5) sc_numbers_on.nd rfl (.inl rfl))) (fun _ _ _ _ _ => pts_nil) (fun _ _ _ _ _ => (pe_call G_number_at hr (by rfl) T.m_number_at F_number_at.kp b_number_at .nil pass0 (pa_cons (pv 0) (pa_cons (pv 1) (pa_cons (pv 4) (pa_cons (pv 5) pa_nil))))))))))), ?_⟩
  have b1 := ok.c1; have b2 := ok.c2; have b3 := ok.r1; have b4 := ok.r2
  obtain ⟨t, h1, o, h2, ho⟩ := hp
  have lim : ∀ r c : Nat, r < p.rows.toNat → c < p.cols.toNat → (numsTo p s r c).length < sizeLine := fun r c hr hc => by
    rw [numsTo_len]
    have : r * p.cols.toNat ≤ 12 * 12 := Nat.mul_le_mul (by omega) (by omega)
    exact Nat.lt_trans (show _ < 200 by omega) (by decide)
  refine ⟨_, rfl, a, _, _, _, rfl, rfl, SqT.of h1, rfl, ?_⟩
  refine ⟨_, rfl, a, _, _, _, rfl, rfl, SqT.of h1, rfl, ?_⟩
  refine ⟨_, rfl, p.rows, rfl, by omega, by omega, fun D hD => ?_⟩
  refine rng_w (lo := 0) (n := p.rows.toNat) (fun i H' => Same H H' ∧ H' D = some (.lst ((numsTo p s i 0).map V.int))) ⟨same_new hD _, upd_same⟩ ?_ ?_
  · rintro i H1 hi ⟨S1, hD1⟩
    refine ⟨rfl, _, rfl, p.cols, rfl, by omega, by omega, ?_⟩
    refine rng_w (lo := 0) (n := p.cols.toNat) (fun j H' => Same H H' ∧ H' D = some (.lst ((numsTo p s i j).map V.int))) ⟨S1, hD1⟩ ?_ ?_
    · rintro j H2 hj ⟨S2, hD2⟩
      refine ⟨rfl, _, rfl, _, rfl, _, rfl, _, rfl, a, p, s, _, _, rfl, ⟨t, S2 _ _ h1, o, S2 _ _ h2, ho⟩, ok, fun H3 S3 => ?_⟩
      have hD3 := S3 _ _ hD2
      refine ⟨_, hD3, by rw [List.length_map]; exact lim i j hi hj, same_mut (S2.trans S3) hD, ?_⟩
      rw [upd_same, numsTo_col, List.map_append, Int.zero_add, Int.zero_add]
      rfl
    · rintro H2 ⟨S2, hD2⟩
      rw [numsTo_row] at hD2
      exact ⟨S2, hD2⟩
  · rintro H1 ⟨S1, hD1⟩
    rw [numsTo_all] at hD1
    exact q D H1 S1 hD hD1

theorem ok_runs_of_numbers (F : Fun K "runs_of_numbers" "runs_of_numbers" s_runs_of_numbers f_runs_of_numbers d_runs_of_numbers) (T : Txt K mg f_is_number f_is_from_to f_is_word f_is_tuple_of f_is_apart f_runs_of f_many_in f_is_order f_is_printing f_how_many f_printed f_number_at f_seat_of f_numbers_on f_runs_of_numbers f_sheet_runs f_pile f_together f_both f_pile_seat f_pile_place f_stack_at f_stack_place f_is_rising f_spoilt_by f_lfeed f_ldraw f_lorder f_lprinting f_lall_seats f_lsheets f_lstack f_lpiles f_lfar f_law)
    (F_runs_of : Fun K "runs_of" "runs_of" s_runs_of f_runs_of d_runs_of) (b_runs_of : Binds K d_runs_of ["some"] []) (G_runs_of : FnOk P w K mg base CX0 (2) f_runs_of d_runs_of ["some"] (spRunsOf K)) :
    FnOk P w K mg base CX0 (3) f_runs_of_numbers d_runs_of_numbers ["printing", "numbers"] spRunsNums := by
  refine F.ok sc_runs_of_numbers (fun vs H Q E h => ?_) (fun cdv A outer s H vs Q E hr h => ?_)

  · obtain ⟨a, l, p, ns, rfl, _⟩ := h
    rfl
  obtain ⟨a, l, p, ns, rfl, ⟨t, h1, _, h2, _⟩, hl, hz, q⟩ := h
  refine ⟨_, (pss_cons (ps_set (i := 2) sc_runs_of_numbers.nd rfl (.inr rfl) (pe_ix ix_tup (pv 0) pe_int (fun _ _ => rfl)))
  (pss_one (ps_ret (pe_call G_runs_of hr (by rfl) T.m_runs_of F_runs_of.kp b_runs_of .nil pass0 (pa_cons (pe_lc (own := [("number", 3)]) (g := (gName 3)) (by rfl) sc_runs_of_numbers.nd (pi_list (pv 1)) (blkOk_by (own := [("number", 3)]) (N := ["printing", "numbers", "series", "number"]) (sc := defScope s_runs_of_numbers) (by decide +kernel)) (fun _ _ _ _ _ => (pg_name (i := 3) sc_runs_of_numbers.nd rfl (.inl rfl))) (fun _ _ _ _ _ => pts_nil) (fun _ _ _ _ _ => (pe_tup (pa_cons (pv 2) (pa_cons (pv 3) (pa_cons (pe_op op_add (pv 3) pe_int) pa_nil)))))) pa_nil))))), ?_⟩
  refine ⟨_, rfl, a, _, _, _, rfl, rfl, SqT.of h1, rfl, ?_⟩
  refine ⟨_, rfl, l, rfl, ⟨_, SqL.of hl⟩, fun D hD => ?_⟩
  refine lc_list (K := K) (a := l) (xs := ns.map V.int) (fun i H' => ∃ ps : List Addr, Same H H' ∧ H' D = some (.lst (ps.map V.ref)) ∧ Prd H' ps ((ns.take i).map (single p.series))) ⟨[], same_new hD _, upd_same, .nil⟩ (fun i H' _ h => ?_) ?_ ?_
  · obtain ⟨ps, S1, _⟩ := h
    exact SqL.of (S1 _ _ hl)
  · rintro i x H1 hx ⟨ps, S1, hD1, hp⟩
    obtain ⟨n, hn, rfl⟩ : ∃ n, ns[i]? = some n ∧ x = V.int n := by
      rw [List.getElem?_map] at hx
      cases e : ns[i]? with
      | none => rw [e] at hx; cases hx
      | some p => rw [e] at hx; exact ⟨p, rfl, (Option.some.inj hx).symm⟩
    obtain ⟨hi, en⟩ := List.getElem?_eq_some_iff.mp hn
    refine ⟨rfl, _, rfl, _, rfl, _, rfl, _, _, rfl, rfl, (show 3 ≤ sizeLine by decide), fun u hu => ?_⟩
    have S2 := same_new hu (.tup (rnV (single p.series n)))
    have uD : D ≠ u := ne_of_none hD1 hu
    refine ⟨_, S2 _ _ hD1, ?_, ps ++ [u], same_mut (S1.trans S2) hD, ?_, ?_⟩
    · have e := hp.len
      rw [List.length_map, List.length_take] at e
      rw [List.length_map]
      exact Nat.lt_of_le_of_lt (show _ ≤ 100000 by omega) (by decide)
    · rw [upd_same, List.map_append]
      rfl
    · rw [List.take_succ_eq_append_getElem hi, List.map_append, en]
      refine Prd.app ?_ (Prd.one ?_)
      · refine Prd.keep (fun p0 hp0 o0 ho0 => ?_) (Prd.same S2 hp)
        obtain ⟨r0, _, e0⟩ := Prd.mem (Prd.same S2 hp) hp0
        rw [upd_ne (ne_of e0 (S2 _ _ hD1) (fun z => nomatch z))]
        exact ho0
      · rw [upd_ne (Ne.symm uD)]
        exact upd_same
  · rintro H1 ⟨ps, S1, hD1, hp⟩
    rw [List.length_map, List.take_length] at hp
    refine ⟨D, ps, _, rfl, SqL.of hD1, hp, by rw [List.length_map]; omega, fun t2 qs H2 S2 n2 ht2 hq => ?_⟩
    exact q t2 qs H2 (S1.trans S2) (S1.free n2) ht2 hq

theorem ok_sheet_runs (F : Fun K "sheet_runs" "sheet_runs" s_sheet_runs f_sheet_runs d_sheet_runs) (T : Txt K mg f_is_number f_is_from_to f_is_word f_is_tuple_of f_is_apart f_runs_of f_many_in f_is_order f_is_printing f_how_many f_printed f_number_at f_seat_of f_numbers_on f_runs_of_numbers f_sheet_runs f_pile f_together f_both f_pile_seat f_pile_place f_stack_at f_stack_place f_is_rising f_spoilt_by f_lfeed f_ldraw f_lorder f_lprinting f_lall_seats f_lsheets f_lstack f_lpiles f_lfar f_law)
    (F_numbers_on : Fun K "numbers_on" "numbers_on" s_numbers_on f_numbers_on d_numbers_on) (b_numbers_on : Binds K d_numbers_on ["printing", "sheet"] []) (G_numbers_on : FnOk P w K mg base CX0 (3) f_numbers_on d_numbers_on ["printing", "sheet"] spNumsOn)
    (F_runs_of_numbers : Fun K "runs_of_numbers" "runs_of_numbers" s_runs_of_numbers f_runs_of_numbers d_runs_of_numbers) (b_runs_of_numbers : Binds K d_runs_of_numbers ["printing", "numbers"] []) (G_runs_of_numbers : FnOk P w K mg base CX0 (3) f_runs_of_numbers d_runs_of_numbers ["printing", "numbers"] spRunsNums) :
    FnOk P w K mg base CX0 (4) f_sheet_runs d_sheet_runs ["printing", "sheet"] spSheetRuns := by
  refine F.ok sc_sheet_runs (fun vs H Q E h => ?_) (fun cdv A outer s H vs Q E hr h => ?_)

  · obtain ⟨a, p, s, rfl, _⟩ := h
    rfl
  obtain ⟨a, p, s, rfl, hp, ok, q⟩ := h
  refine ⟨_, (pss_one (ps_ret (pe_call G_runs_of_numbers hr (by rfl) T.m_runs_of_numbers F_runs_of_numbers.kp b_runs_of_numbers .nil pass0 (pa_cons (pv 0) (pa_cons (pe_call G_numbers_on hr (by rfl) T.m_numbers_on F_numbers_on.kp b_numbers_on .nil pass0 (pa_cons (pv 0) (pa_cons (pv 1) pa_nil))) pa_nil))))), ?_⟩
  refine ⟨_, rfl, _, rfl, _, rfl, a, p, s, rfl, hp, ok, fun l H1 S1 n1 hl => ?_⟩
  refine ⟨a, l, p, numsOn p s, rfl, hp.same S1, hl, Nat.le_trans (numsOn_len ok s) (by decide), fun t qs H2 S2 n2 ht hq => ?_⟩
  exact q t qs H2 (S1.trans S2) (S1.free n2) ht hq

theorem ok_pile (F : Fun K "pile" "pile" s_pile f_pile d_pile) (T : Txt K mg f_is_number f_is_from_to f_is_word f_is_tuple_of f_is_apart f_runs_of f_many_in f_is_order f_is_printing f_how_many f_printed f_number_at f_seat_of f_numbers_on f_runs_of_numbers f_sheet_runs f_pile f_together f_both f_pile_seat f_pile_place f_stack_at f_stack_place f_is_rising f_spoilt_by f_lfeed f_ldraw f_lorder f_lprinting f_lall_seats f_lsheets f_lstack f_lpiles f_lfar f_law)
    (F_number_at : Fun K "number_at" "number_at" s_number_at f_number_at d_number_at) (b_number_at : Binds K d_number_at ["printing", "sheet", "row", "column"] []) (G_number_at : FnOk P w K mg base CX0 (2) f_number_at d_number_at ["printing", "sheet", "row", "column"] spNum) :
    FnOk P w K mg base CX0 (3) f_pile d_pile ["printing", "row", "column"] (spPile fun p r c => p.num 1 r c - p.num 0 r c) := by
  refine F.ok sc_pile (fun vs H Q E h => ?_) (fun cdv A outer s H vs Q E hr h => ?_)

  · obtain ⟨a, p, r, c, rfl, _⟩ := h
    rfl
  obtain ⟨a, p, r, c, rfl, hp, ok, q⟩ := h
  refine ⟨_, (pss_cons (ps_set (i := 3) sc_pile.nd rfl (.inl rfl) (pe_call G_number_at hr (by rfl) T.m_number_at F_number_at.kp b_number_at .nil pass0 (pa_cons (pv 0) (pa_cons pe_int (pa_cons (pv 1) (pa_cons (pv 2) pa_nil))))))
  (pss_cons (ps_set (i := 4) sc_pile.nd rfl (.inl rfl) (pe_op op_sub (pe_call G_number_at hr (by rfl) T.m_number_at F_number_at.kp b_number_at .nil pass0 (pa_cons (pv 0) (pa_cons pe_int (pa_cons (pv 1) (pa_cons (pv 2) pa_nil))))) (pv 3)))
  (pss_one (ps_ret (pe_tup (pa_cons (pv 3) (pa_cons (pv 4) (pa_cons (pe_ix ix_tup (pv 0) pe_int (fun _ _ => rfl)) pa_nil)))))))), ?_⟩
  refine ⟨_, rfl, _, rfl, _, rfl, a, p, _, _, _, rfl, hp, ok, fun H1 S1 => ?_⟩
  refine ⟨_, rfl, _, rfl, _, rfl, a, p, _, _, _, rfl, hp.same S1, ok, fun H2 S2 => ?_⟩
  obtain ⟨t, h1, o, h2, ho⟩ := (hp.same S1).same S2
  refine ⟨_, rfl, _, _, rfl, rfl, ?_⟩
  refine ⟨_, rfl, _, rfl, _, rfl, a, _, _, _, rfl, rfl, SqT.of h1, rfl, (show 3 ≤ sizeLine by decide), fun u hu => ?_⟩
  exact q u _ (S1.trans (S2.trans (same_new hu _))) ((S1.trans S2).free hu) upd_same

theorem ok_together (F : Fun K "together" "together" s_together f_together d_together) (T : Txt K mg f_is_number f_is_from_to f_is_word f_is_tuple_of f_is_apart f_runs_of f_many_in f_is_order f_is_printing f_how_many f_printed f_number_at f_seat_of f_numbers_on f_runs_of_numbers f_sheet_runs f_pile f_together f_both f_pile_seat f_pile_place f_stack_at f_stack_place f_is_rising f_spoilt_by f_lfeed f_ldraw f_lorder f_lprinting f_lall_seats f_lsheets f_lstack f_lpiles f_lfar f_law)
    (F_runs_of : Fun K "runs_of" "runs_of" s_runs_of f_runs_of d_runs_of) (b_runs_of : Binds K d_runs_of ["some"] []) (G_runs_of : FnOk P w K mg base CX0 (2) f_runs_of d_runs_of ["some"] (spRunsOf K)) :
    FnOk P w K mg base CX0 (3) f_together d_together ["one", "other"] (spTwo K togL) := by
  refine F.ok sc_together (fun vs H Q E h => ?_) (fun cdv A outer s H vs Q E hr h => ?_)

  · obtain ⟨a, b, rs, ts, rfl, _⟩ := h
    rfl
  obtain ⟨a, b, rs, ts, rfl, ⟨qs, h1, h2⟩, ⟨ps, k1, k2⟩, l1, l2, q⟩ := h
  refine ⟨_, (pss_one (ps_ret (pe_call G_runs_of hr (by rfl) T.m_runs_of F_runs_of.kp b_runs_of .nil pass0 (pa_cons (pe_op op_cat (pe_callTy call_list_of (by rfl) T.list (by decide +kernel) (pa_cons (pv 0) pa_nil)) (pe_callTy call_list_of (by rfl) T.list (by decide +kernel) (pa_cons (pv 1) pa_nil))) pa_nil)))), ?_⟩
  refine ⟨_, rfl, a, _, rfl, .inr h1, fun x1 n1 => ?_⟩
  have N1 := same_new n1 (.lst (qs.map V.ref))
  refine ⟨_, rfl, b, _, rfl, .inr (SqT.sm N1 k1), fun x2 n2 => ?_⟩
  have N2 := same_new n2 (.lst (ps.map V.ref))
  have e1 := h2.len
  have e2 := k2.len
  refine ⟨x1, x2, _, _, rfl, rfl, N2 _ _ upd_same, upd_same, ?_, fun x3 n3 => ?_⟩
  · rw [List.length_map, List.length_map]
    exact Nat.le_trans (show _ ≤ 10000 by omega) (by decide)
  have N3 := same_new n3 (.lst (qs.map V.ref ++ ps.map V.ref))
  have N := N1.trans (N2.trans N3)
  refine ⟨x3, qs ++ ps, rs ++ ts, rfl, by rw [List.map_append]; exact SqL.of upd_same, Prd.app (Prd.same N h2) (Prd.same N k2), by rw [List.length_append]; omega, fun t us H4 S4 n4 h4 g4 => ?_⟩
  exact q t us H4 (N.trans S4) (N.free n4) h4 g4

theorem ok_both (F : Fun K "both" "both" s_both f_both d_both) (T : Txt K mg f_is_number f_is_from_to f_is_word f_is_tuple_of f_is_apart f_runs_of f_many_in f_is_order f_is_printing f_how_many f_printed f_number_at f_seat_of f_numbers_on f_runs_of_numbers f_sheet_runs f_pile f_together f_both f_pile_seat f_pile_place f_stack_at f_stack_place f_is_rising f_spoilt_by f_lfeed f_ldraw f_lorder f_lprinting f_lall_seats f_lsheets f_lstack f_lpiles f_lfar f_law) :
    FnOk P w K mg base CX0 (1) f_both d_both ["one", "other"] (spTwo K bothL) := by
  refine F.ok sc_both (fun vs H Q E h => ?_) (fun cdv A outer s H vs Q E hr h => ?_)

  · obtain ⟨a, b, rs, ts, rfl, _⟩ := h
    rfl
  obtain ⟨a, b, rs, ts, rfl, ⟨qs, h1, h2⟩, ⟨ps, k1, k2⟩, l1, l2, q⟩ := h
  refine ⟨_, (pss_cons (ps_set (i := 2) sc_both.nd rfl (.inl rfl) (pe_lst pa_nil))
  (pss_cons (ps_set (i := 3) sc_both.nd rfl (.inl rfl) pe_int)
  (pss_cons (ps_set (i := 4) sc_both.nd rfl (.inl rfl) pe_int)
  (pss_cons (ps_while PassesOwn.never (PW.pt (pw_and (pt_cmpR op_lt (pv 3) (pe_callB call_len_seq (by rfl) T.len (by decide +kernel) (pa_cons (pv 0) pa_nil)) (nomark _)) (pw_and1 (pt_cmpR op_lt (pv 4) (pe_callB call_len_seq (by rfl) T.len (by decide +kernel) (pa_cons (pv 1) pa_nil)) (nomark _)))))
  (pss_cons (ps_asg (pe_ix ix_tup (pv 0) (pv 3) (fun _ _ => rfl)) (pg_tup rfl (pgs_cons (pg_name (i := 5) sc_both.nd rfl (.inl rfl)) (pgs_cons (pg_name (i := 6) sc_both.nd rfl (.inl rfl)) (pgs_cons (pg_name (i := 7) sc_both.nd rfl (.inl rfl)) pgs_nil)))))
  (pss_cons (ps_asg (pe_ix ix_tup (pv 1) (pv 4) (fun _ _ => rfl)) (pg_tup rfl (pgs_cons (pg_name (i := 8) sc_both.nd rfl (.inl rfl)) (pgs_cons (pg_name (i := 9) sc_both.nd rfl (.inl rfl)) (pgs_cons (pg_name (i := 10) sc_both.nd rfl (.inl rfl)) pgs_nil)))))
  (C8.pss_cut (ps_if (PW.pt (pw_and (pt_cmpR op_eq (pv 5) (pv 8) (nomark _)) (pw_and1 (pt_cmpR op_lt (pe_callB (call_max2 rfl) (by rfl) T.max (by decide +kernel) (pa_cons (pv 6) (pa_cons (pv 9) pa_nil))) (pe_callB (call_min2 rfl) (by rfl) T.min (by decide +kernel) (pa_cons (pv 7) (pa_cons (pv 10) pa_nil))) (nomark _)))))
  (pss_one (ps_expr (pe_bm PySem.F.plainAttrs_list PySem.F.slot_list_append PySem.F.type_list_append mt_append (pv 2) (pa_cons (pe_tup (pa_cons (pv 5) (pa_cons (pe_callB (call_max2 rfl) (by rfl) T.max (by decide +kernel) (pa_cons (pv 6) (pa_cons (pv 9) pa_nil))) (pa_cons (pe_callB (call_min2 rfl) (by rfl) T.min (by decide +kernel) (pa_cons (pv 7) (pa_cons (pv 10) pa_nil))) pa_nil)))) pa_nil))))
  pss_nil)
  (pss_one (ps_if (pt_cmpR (op_leP hr) (pe_tup (pa_cons (pv 5) (pa_cons (pv 7) pa_nil))) (pe_tup (pa_cons (pv 8) (pa_cons (pv 10) pa_nil))) (nomark _))
  (pss_one (ps_aug (i := 3) sc_both.nd rfl (.inl rfl) pe_int ip_add))
  (pss_one (ps_aug (i := 4) sc_both.nd rfl (.inl rfl) pe_int ip_add))))))))
  (pss_one (ps_ret (pe_callTy call_tuple_of (by rfl) T.tuple (by decide +kernel) (pa_cons (pv 2) pa_nil)))))))), ?_⟩
  have e1 := h2.len
  have e2 := k2.len
  have bl := both_len rs ts
  refine ⟨(show 0 ≤ sizeLine by decide), fun F hF => ?_⟩
  refine ⟨fun m σ H' => ∃ (i j : Nat) (fs : List Addr) (M : List Rn) (v5 v6 v7 v8 v9 v10 : Option V), σ = [some (.ref a), some (.ref b), some (.ref F), some (.int i), some (.int j), v5, v6, v7, v8, v9, v10] ∧ m = (rs.length - i) + (ts.length - j) ∧ Same H H' ∧ H' F = some (.lst (fs.map V.ref)) ∧ Prd H' fs M ∧ M ++ bothL (rs.drop i) (ts.drop j) = bothL rs ts,
    ⟨_, 0, 0, [], [], _, _, _, _, _, _, rfl, rfl, same_new hF _, upd_same, .nil, rfl⟩, ?_⟩
  rintro m σ H1 ⟨i, j, fs, M, v5, v6, v7, v8, v9, v10, rfl, rfl, S1, hF1, hp1, eM⟩
  have fin : ∀ L : List Rn, bothL (rs.drop i) (ts.drop j) = [] → ∀ t, H1 t = none → Q (.ref t) (upd H1 t (.tup (fs.map V.ref))) := fun _ e t ht => by
    rw [e, List.append_nil] at eM
    exact q t fs _ (S1.trans (same_new ht _)) (S1.free ht) upd_same (by rw [← eM]; exact Prd.same (same_new ht _) hp1)
  have q1 := SqT.sm S1 h1
  have q2 := SqT.sm S1 k1
  refine ⟨_, rfl, _, rfl, a, _, rfl, .inr q1, _, _, rfl, rfl, _, rfl, ?_⟩
  refine ite2 (fun c1 => ?_) (fun c1 => ?_)
  · have c1 := of_decide_eq_true c1
    rw [List.length_map, e1] at c1
    refine ⟨_, rfl, _, rfl, b, _, rfl, .inr q2, _, _, rfl, rfl, _, rfl, ?_⟩
    refine ite2 (fun c2 => ?_) (fun c2 => ?_)
    · have c2 := of_decide_eq_true c2
      rw [List.length_map, e2] at c2
      obtain ⟨p, x, at1, ex, hx⟩ := tp_at h2 (k := i) (by omega)
      obtain ⟨p', y, at2, ey, hy⟩ := tp_at k2 (k := j) (by omega)
      have d1 := drop_at ex
      have d2 := drop_at ey
      rw [d1, d2, both_cons] at eM
      refine ⟨fun σ' H' => ∃ m', m' < (rs.length - i) + (ts.length - j) ∧ ∃ (i j : Nat) (fs : List Addr) (M : List Rn) (v5 v6 v7 v8 v9 v10 : Option V), σ' = [some (.ref a), some (.ref b), some (.ref F), some (.int i), some (.int j), v5, v6, v7, v8, v9, v10] ∧ m' = (rs.length - i) + (ts.length - j) ∧ Same H H' ∧ H' F = some (.lst (fs.map V.ref)) ∧ Prd H' fs M ∧ M ++ bothL (rs.drop i) (ts.drop j) = bothL rs ts, fun σ' H' h => h, ?_⟩
      refine ⟨_, rfl, _, rfl, a, _, _, _, rfl, rfl, q1, at1, p, _, rfl, SqT.of (S1 _ _ hx), rfl, _, _, rfl, _, _, rfl, _, _, rfl, rfl, ?_⟩
      refine ⟨_, rfl, _, rfl, b, _, _, _, rfl, rfl, q2, at2, p', _, rfl, SqT.of (S1 _ _ hy), rfl, _, _, rfl, _, _, rfl, _, _, rfl, rfl, ?_⟩
      refine ⟨fun σ' H' => ∃ fs : List Addr, σ' = [some (.ref a), some (.ref b), some (.ref F), some (.int i), some (.int j), some (.str x.1), some (.int x.2.1), some (.int x.2.2), some (.str y.1), some (.int y.2.1), some (.int y.2.2)] ∧ Same H H' ∧ H' F = some (.lst (fs.map V.ref)) ∧ Prd H' fs (M ++ meet x y), ?_, ?_⟩
      · have none_ : ¬ (x.1 = y.1 ∧ mx x.2.1 y.2.1 < mn x.2.2 y.2.2) → Prd H1 fs (M ++ meet x y) := fun c => by
          have e : meet x y = [] := if_neg c
          rw [e, List.append_nil]
          exact hp1
        refine ⟨_, rfl, _, rfl, rfl, _, rfl, ?_⟩
        refine ite2 (fun c3 => ?_) (fun c3 => ?_)
        · refine ⟨_, rfl, _, rfl, _, _, rfl, _, rfl, _, rfl, _, _, rfl, _, _, rfl, rfl, _, rfl, ?_⟩
          refine ite2 (fun c4 => ?_) (fun c4 => ?_)
          · have c5 : x.1 = y.1 ∧ mx x.2.1 y.2.1 < mn x.2.2 y.2.2 := ⟨V.str.inj (of_decide_eq_true c3), of_decide_eq_true c4⟩
            have e : meet x y = [(x.1, mx x.2.1 y.2.1, mn x.2.2 y.2.2)] := if_pos c5
            refine ⟨_, rfl, .inl ⟨rfl, _, SqL.of hF1⟩, _, rfl, _, rfl, _, rfl, _, _, rfl, _, rfl, _, rfl, _, _, rfl, (show 3 ≤ sizeLine by decide), fun t ht => ?_⟩
            have nx := same_new ht (.tup (rnV (x.1, mx x.2.1 y.2.1, mn x.2.2 y.2.2)))
            refine ⟨F, _, _, rfl, rfl, nx _ _ hF1, ?_, fs ++ [t], rfl, same_mut (S1.trans nx) hF, ?_, ?_⟩
            · rw [List.length_map, hp1.len]
              have z := congrArg List.length eM
              rw [List.length_append] at z
              exact Nat.lt_of_le_of_lt (show _ ≤ 10000 by omega) (by decide)
            · rw [upd_same, List.map_append]
              rfl
            · rw [e]
              exact Prd.put (nx _ _ hF1) (Prd.app (Prd.same nx hp1) (Prd.one upd_same))
          · exact ⟨fs, rfl, S1, hF1, none_ fun z => c4 (decide_eq_true z.2)⟩
        · exact ⟨fs, rfl, S1, hF1, none_ fun z => c3 (decide_eq_true (congrArg V.str z.1))⟩
      · rintro σ' H2 ⟨gs, rfl, S2, hF2, hp2⟩
        refine ⟨_, rfl, _, rfl, (show 2 ≤ sizeLine by decide), fun t1 n1 => ⟨_, rfl, _, rfl, (show 2 ≤ sizeLine by decide), fun t2 n2 => ?_⟩⟩
        have N1 := same_new n1 (.tup [.str x.1, .int x.2.2])
        have N2 := same_new n2 (.tup [.str y.1, .int y.2.2])
        have N := N1.trans N2
        refine ⟨t1, t2, _, _, _, _, rfl, rfl, SqT.of (N2 _ _ upd_same), SqT.of upd_same, _, rfl, ?_⟩
        refine ite2 (fun c3 => ?_) (fun c3 => ?_)
        · rw [if_pos c3] at eM
          refine ⟨_, rfl, _, _, rfl, rfl, _, ?_, i + 1, j, gs, M ++ meet x y, _, _, _, _, _, _, rfl, rfl, S2.trans N, N _ _ hF2, Prd.same N hp2, ?_⟩
          · omega
          · rw [d2, List.append_assoc]
            exact eM
        · rw [if_neg c3] at eM
          refine ⟨_, rfl, _, _, rfl, rfl, _, ?_, i, j + 1, gs, M ++ meet x y, _, _, _, _, _, _, rfl, rfl, S2.trans N, N _ _ hF2, Prd.same N hp2, ?_⟩
          · omega
          · rw [d1, List.append_assoc]
            exact eM
    · have c3 : ts.length ≤ j := by
        rw [decide_eq_true_eq, List.length_map, e2] at c2
        omega
      refine ⟨_, rfl, F, _, rfl, .inl ⟨SqL.of hF1, fin [] (by rw [drop_end c3, both_nil2])⟩⟩
  · have c3 : rs.length ≤ i := by
      rw [decide_eq_true_eq, List.length_map, e1] at c1
      omega
    refine ⟨_, rfl, F, _, rfl, .inl ⟨SqL.of hF1, fin [] (by rw [drop_end c3, both_nil])⟩⟩

theorem ok_pile_seat (F : Fun K "pile_seat" "pile_seat" s_pile_seat f_pile_seat d_pile_seat) (T : Txt K mg f_is_number f_is_from_to f_is_word f_is_tuple_of f_is_apart f_runs_of f_many_in f_is_order f_is_printing f_how_many f_printed f_number_at f_seat_of f_numbers_on f_runs_of_numbers f_sheet_runs f_pile f_together f_both f_pile_seat f_pile_place f_stack_at f_stack_place f_is_rising f_spoilt_by f_lfeed f_ldraw f_lorder f_lprinting f_lall_seats f_lsheets f_lstack f_lpiles f_lfar f_law) :
    FnOk P w K mg base CX0 (1) f_pile_seat d_pile_seat ["printing", "way", "at"] spPileSeat := by
  refine F.ok sc_pile_seat (fun vs H Q E h => ?_) (fun cdv A outer s H vs Q E hr h => ?_)

  · obtain ⟨a, p, v, k, rfl, _⟩ := h
    rfl
  obtain ⟨a, p, v, k, rfl, hp, ok, q⟩ := h
  refine ⟨_, (pss_cons (ps_set (i := 3) sc_pile_seat.nd rfl (.inl rfl) (pe_ix ix_tup (pv 0) pe_int (fun _ _ => rfl)))
  (pss_cons (ps_set (i := 4) sc_pile_seat.nd rfl (.inl rfl) (pe_ix ix_tup (pv 0) pe_int (fun _ _ => rfl)))
  (pss_cons (ps_if (pt_cmpR op_eq (pv 1) pe_str (nomark _))
  (pss_one (ps_ret (pe_callB call_divmod (by rfl) T.divmod (by decide +kernel) (pa_cons (pv 2) (pa_cons (pv 3) pa_nil)))))
  pss_nil)
  (pss_cons (ps_asg (pe_callB call_divmod (by rfl) T.divmod (by decide +kernel) (pa_cons (pv 2) (pa_cons (pv 4) pa_nil))) (pg_tup rfl (pgs_cons (pg_name (i := 5) sc_pile_seat.nd rfl (.inl rfl)) (pgs_cons (pg_name (i := 6) sc_pile_seat.nd rfl (.inl rfl)) pgs_nil))))
  (pss_one (ps_ret (pe_tup (pa_cons (pv 6) (pa_cons (pv 5) pa_nil))))))))), ?_⟩
  obtain ⟨t, h1, _⟩ := id hp
  have k1 := SqT.of (K := K) h1
  have o1 := ok.c1; have o2 := ok.c2; have o3 := ok.r1; have o4 := ok.r2
  refine ⟨_, rfl, a, _, _, _, rfl, rfl, k1, rfl, _, rfl, a, _, _, _, rfl, rfl, k1, rfl, ?_⟩
  cases v
  · refine ⟨_, rfl, rfl, _, rfl, ite2 (fun _ => ?_) (fun z => absurd (decide_eq_true rfl) z)⟩
    exact ⟨_, rfl, _, rfl, _, _, rfl, ⟨by omega, by omega⟩, fun x hx => q x _ (same_new hx _) upd_same⟩
  · refine ⟨_, rfl, rfl, _, rfl, ite2 (fun z => absurd (of_decide_eq_true z) (by decide +kernel)) (fun _ => ?_)⟩
    refine ⟨_, rfl, _, rfl, _, _, rfl, ⟨by omega, by omega⟩, fun x hx => ?_⟩
    refine ⟨x, _, rfl, SqT.of upd_same, rfl, _, _, rfl, _, _, rfl, rfl, ?_⟩
    exact ⟨_, rfl, _, rfl, (show 2 ≤ sizeLine by decide), fun y hy => q y _ ((same_new hx _).trans (same_new hy _)) upd_same⟩

theorem ok_pile_place (F : Fun K "pile_place" "pile_place" s_pile_place f_pile_place d_pile_place) (T : Txt K mg f_is_number f_is_from_to f_is_word f_is_tuple_of f_is_apart f_runs_of f_many_in f_is_order f_is_printing f_how_many f_printed f_number_at f_seat_of f_numbers_on f_runs_of_numbers f_sheet_runs f_pile f_together f_both f_pile_seat f_pile_place f_stack_at f_stack_place f_is_rising f_spoilt_by f_lfeed f_ldraw f_lorder f_lprinting f_lall_seats f_lsheets f_lstack f_lpiles f_lfar f_law) :
    FnOk P w K mg base CX0 (1) f_pile_place d_pile_place ["printing", "way", "row", "column"] spPilePlace := by
  refine F.ok sc_pile_place (fun vs H Q E h => ?_) (fun cdv A outer s H vs Q E hr h => ?_)

  · obtain ⟨a, p, v, r, c, rfl, _⟩ := h
    rfl
  obtain ⟨a, p, v, r, c, rfl, hp, ok, q⟩ := h
  refine ⟨_, (pss_cons (ps_set (i := 4) sc_pile_place.nd rfl (.inl rfl) (pe_ix ix_tup (pv 0) pe_int (fun _ _ => rfl)))
  (pss_cons (ps_set (i := 5) sc_pile_place.nd rfl (.inl rfl) (pe_ix ix_tup (pv 0) pe_int (fun _ _ => rfl)))
  (pss_cons (ps_if (pt_cmpR op_eq (pv 1) pe_str (nomark _))
  (pss_one (ps_ret (pe_op op_add (pe_op op_mul (pv 2) (pv 4)) (pv 3))))
  pss_nil)
  (pss_one (ps_ret (pe_op op_add (pe_op op_mul (pv 3) (pv 5)) (pv 2))))))), ?_⟩
  obtain ⟨t, h1, _⟩ := id hp
  have k1 := SqT.of (K := K) h1
  have o1 := ok.c1; have o2 := ok.c2; have o3 := ok.r1; have o4 := ok.r2
  refine ⟨_, rfl, a, _, _, _, rfl, rfl, k1, rfl, _, rfl, a, _, _, _, rfl, rfl, k1, rfl, ?_⟩
  cases v
  · refine ⟨_, rfl, rfl, _, rfl, ite2 (fun _ => ?_) (fun z => absurd (decide_eq_true rfl) z)⟩
    exact ⟨_, rfl, _, rfl, _, _, rfl, rfl, .inr ⟨by omega, by omega⟩, _, rfl, _, _, rfl, rfl, q _ (Same.refl _)⟩
  · refine ⟨_, rfl, rfl, _, rfl, ite2 (fun z => absurd (of_decide_eq_true z) (by decide +kernel)) (fun _ => ?_)⟩
    exact ⟨_, rfl, _, rfl, _, _, rfl, rfl, .inr ⟨by omega, by omega⟩, _, rfl, _, _, rfl, rfl, q _ (Same.refl _)⟩

theorem ok_stack_at (F : Fun K "stack_at" "stack_at" s_stack_at f_stack_at d_stack_at) (T : Txt K mg f_is_number f_is_from_to f_is_word f_is_tuple_of f_is_apart f_runs_of f_many_in f_is_order f_is_printing f_how_many f_printed f_number_at f_seat_of f_numbers_on f_runs_of_numbers f_sheet_runs f_pile f_together f_both f_pile_seat f_pile_place f_stack_at f_stack_place f_is_rising f_spoilt_by f_lfeed f_ldraw f_lorder f_lprinting f_lall_seats f_lsheets f_lstack f_lpiles f_lfar f_law)
    (F_pile_seat : Fun K "pile_seat" "pile_seat" s_pile_seat f_pile_seat d_pile_seat) (b_pile_seat : Binds K d_pile_seat ["printing", "way", "at"] []) (G_pile_seat : FnOk P w K mg base CX0 (2) f_pile_seat d_pile_seat ["printing", "way", "at"] spPileSeat)
    (F_number_at : Fun K "number_at" "number_at" s_number_at f_number_at d_number_at) (b_number_at : Binds K d_number_at ["printing", "sheet", "row", "column"] []) (G_number_at : FnOk P w K mg base CX0 (2) f_number_at d_number_at ["printing", "sheet", "row", "column"] spNum) :
    FnOk P w K mg base CX0 (3) f_stack_at d_stack_at ["printing", "way", "k"] spStackN := by
  refine F.ok sc_stack_at (fun vs H Q E h => ?_) (fun cdv A outer s H vs Q E hr h => ?_)

  · obtain ⟨a, p, v, k, rfl, _⟩ := h
    rfl
  obtain ⟨a, p, v, k, rfl, hp, ok, lo, hi, q⟩ := h
  refine ⟨_, (pss_cons (ps_set (i := 3) sc_stack_at.nd rfl (.inl rfl) (pe_ix ix_tup (pv 0) pe_int (fun _ _ => rfl)))
  (pss_cons (ps_if (PW.pt (pw_or (pt_cmpR op_lt (pv 2) pe_int (nomark _)) (pw_or1 (pt_cmpR op_ge (pv 2) (pe_op op_mul (pe_op op_mul (pe_ix ix_tup (pv 0) pe_int (fun _ _ => rfl)) (pe_ix ix_tup (pv 0) pe_int (fun _ _ => rfl))) (pv 3)) (nomark _)))))
  (pss_one (ps_never))
  pss_nil)
  (pss_cons (ps_asg (pe_callB call_divmod (by rfl) T.divmod (by decide +kernel) (pa_cons (pv 2) (pa_cons (pv 3) pa_nil))) (pg_tup rfl (pgs_cons (pg_name (i := 4) sc_stack_at.nd rfl (.inl rfl)) (pgs_cons (pg_name (i := 5) sc_stack_at.nd rfl (.inl rfl)) pgs_nil))))
  (pss_cons (ps_asg (pe_call G_pile_seat hr (by rfl) T.m_pile_seat F_pile_seat.kp b_pile_seat .nil pass0 (pa_cons (pv 0) (pa_cons (pv 1) (pa_cons (pv 4) pa_nil)))) (pg_tup rfl (pgs_cons (pg_name (i := 6) sc_stack_at.nd rfl (.inl rfl)) (pgs_cons (pg_name (i := 7) sc_stack_at.nd rfl (.inl rfl)) pgs_nil))))
  (pss_one (ps_ret (pe_call G_number_at hr (by rfl) T.m_number_at F_number_at.kp b_number_at .nil pass0 (pa_cons (pv 0) (pa_cons (pv 5) (pa_cons (pv 6) (pa_cons (pv 7) pa_nil))))))))))), ?_⟩
  obtain ⟨t, h1, _⟩ := id hp
  have k1 := SqT.of (K := K) h1
  have o1 := ok.c1; have o2 := ok.c2; have o3 := ok.r1; have o4 := ok.r2; have o5 := ok.s1; have o6 := ok.s2
  refine ⟨_, rfl, a, _, _, _, rfl, rfl, k1, rfl, ?_⟩
  have hi' : ¬ p.cols * p.rows * p.sheets ≤ k := Int.not_le.mpr hi
  refine ⟨_, rfl, _, _, rfl, rfl, _, rfl, ite2 (fun c1 => absurd (of_decide_eq_true c1) (by omega)) fun c1 => ?_⟩
  refine ⟨_, rfl, _, rfl, a, _, _, _, rfl, rfl, k1, rfl, _, rfl, a, _, _, _, rfl, rfl, k1, rfl, _, _, rfl, rfl, .inr ⟨by omega, by omega⟩, _, rfl, _, _, rfl, rfl, .inr ⟨by omega, by omega⟩, _, _, rfl, rfl, _, rfl, ite2 (fun c2 => absurd (of_decide_eq_true c2) hi') fun c2 => ?_⟩
  clear c1 c2
  refine ⟨_, rfl, _, rfl, _, _, rfl, ⟨by omega, by omega⟩, fun x hx => ?_⟩
  have S1 := same_new hx (.tup [V.int (k / p.sheets), .int (k % p.sheets)])
  refine ⟨x, _, rfl, SqT.of upd_same, rfl, _, _, rfl, _, _, rfl, rfl, ?_⟩
  refine ⟨_, rfl, _, rfl, _, rfl, a, p, v, _, rfl, hp.same S1, ok, fun y H2 S2 hy => ?_⟩
  refine ⟨y, _, rfl, SqT.of hy, rfl, _, _, rfl, _, _, rfl, rfl, ?_⟩
  exact ⟨_, rfl, _, rfl, _, rfl, _, rfl, a, p, _, _, _, rfl, hp.same (S1.trans S2), ok, fun H3 S3 => q H3 (S1.trans (S2.trans S3))⟩

theorem ok_stack_place (F : Fun K "stack_place" "stack_place" s_stack_place f_stack_place d_stack_place) (T : Txt K mg f_is_number f_is_from_to f_is_word f_is_tuple_of f_is_apart f_runs_of f_many_in f_is_order f_is_printing f_how_many f_printed f_number_at f_seat_of f_numbers_on f_runs_of_numbers f_sheet_runs f_pile f_together f_both f_pile_seat f_pile_place f_stack_at f_stack_place f_is_rising f_spoilt_by f_lfeed f_ldraw f_lorder f_lprinting f_lall_seats f_lsheets f_lstack f_lpiles f_lfar f_law)
    (F_seat_of : Fun K "seat_of" "seat_of" s_seat_of f_seat_of d_seat_of) (b_seat_of : Binds K d_seat_of ["printing", "number"] []) (G_seat_of : FnOk P w K mg base CX0 (3) f_seat_of d_seat_of ["printing", "number"] spSeatN)
    (F_pile_place : Fun K "pile_place" "pile_place" s_pile_place f_pile_place d_pile_place) (b_pile_place : Binds K d_pile_place ["printing", "way", "row", "column"] []) (G_pile_place : FnOk P w K mg base CX0 (3) f_pile_place d_pile_place ["printing", "way", "row", "column"] spPilePlace) :
    FnOk P w K mg base CX0 (4) f_stack_place d_stack_place ["printing", "way", "number"] spPlaceN := by
  refine F.ok sc_stack_place (fun vs H Q E h => ?_) (fun cdv A outer s H vs Q E hr h => ?_)

  · obtain ⟨a, p, v, n, rfl, _⟩ := h
    rfl
  obtain ⟨a, p, v, n, rfl, hp, ok, lo, hi, q⟩ := h
  refine ⟨_, (pss_cons (ps_asg (pe_call G_seat_of hr (by rfl) T.m_seat_of F_seat_of.kp b_seat_of .nil pass0 (pa_cons (pv 0) (pa_cons (pv 2) pa_nil))) (pg_tup rfl (pgs_cons (pg_name (i := 3) sc_stack_place.nd rfl (.inl rfl)) (pgs_cons (pg_name (i := 4) sc_stack_place.nd rfl (.inl rfl)) (pgs_cons (pg_name (i := 5) sc_stack_place.nd rfl (.inl rfl)) pgs_nil)))))
  (pss_one (ps_ret (pe_op op_add (pe_op op_mul (pe_call G_pile_place hr (by rfl) T.m_pile_place F_pile_place.kp b_pile_place .nil pass0 (pa_cons (pv 0) (pa_cons (pv 1) (pa_cons (pv 4) (pa_cons (pv 5) pa_nil))))) (pe_ix ix_tup (pv 0) pe_int (fun _ _ => rfl))) (pv 3))))), ?_⟩
  have o5 := ok.s1; have o6 := ok.s2
  refine ⟨_, rfl, _, rfl, a, p, n, rfl, hp, ok, lo, hi, fun f t H1 hf ef S1 ht => ?_⟩
  obtain ⟨t1, h1, _⟩ := hp.same S1
  refine ⟨t, _, rfl, SqT.of ht, rfl, _, _, rfl, _, _, rfl, _, _, rfl, rfl, ?_⟩
  refine ⟨_, rfl, _, rfl, _, rfl, _, rfl, a, p, v, _, _, rfl, hp.same S1, ok, fun H2 S2 => ?_⟩
  exact ⟨_, rfl, a, _, _, _, rfl, rfl, SqT.of (S2 _ _ h1), rfl, _, _, rfl, rfl, .inr ⟨by omega, by omega⟩, _, rfl, _, _, rfl, rfl, q f H2 hf ef (S1.trans S2)⟩

theorem ok_is_rising (F : Fun K "is_rising" "is_rising" s_is_rising f_is_rising d_is_rising) (T : Txt K mg f_is_number f_is_from_to f_is_word f_is_tuple_of f_is_apart f_runs_of f_many_in f_is_order f_is_printing f_how_many f_printed f_number_at f_seat_of f_numbers_on f_runs_of_numbers f_sheet_runs f_pile f_together f_both f_pile_seat f_pile_place f_stack_at f_stack_place f_is_rising f_spoilt_by f_lfeed f_ldraw f_lorder f_lprinting f_lall_seats f_lsheets f_lstack f_lpiles f_lfar f_law)
    (F_pile_seat : Fun K "pile_seat" "pile_seat" s_pile_seat f_pile_seat d_pile_seat) (b_pile_seat : Binds K d_pile_seat ["printing", "way", "at"] []) (G_pile_seat : FnOk P w K mg base CX0 (3) f_pile_seat d_pile_seat ["printing", "way", "at"] spPileSeat)
    (F_pile : Fun K "pile" "pile" s_pile f_pile d_pile) (b_pile : Binds K d_pile ["printing", "row", "column"] []) (G_pile : FnOk P w K mg base CX0 (3) f_pile d_pile ["printing", "row", "column"] (spPile fun p r c => p.num 1 r c - p.num 0 r c)) :
    FnOk P w K mg base CX0 (4) f_is_rising d_is_rising ["printing", "way"] spRising := by
  refine F.ok sc_is_rising (fun vs H Q E h => ?_) (fun cdv A outer s H vs Q E hr h => ?_)

  · obtain ⟨a, p, v, rfl, _⟩ := h
    rfl
  obtain ⟨a, p, v, rfl, hp, ok, q⟩ := h
  refine ⟨_, (pss_cons (ps_set (i := 2) sc_is_rising.nd rfl (.inl rfl) (pe_un un_neg pe_int))
  (pss_cons (ps_for PassesOwn.never rfl (pi_range1 (by rfl) T.range (pa_cons (pe_op op_mul (pe_ix ix_tup (pv 0) pe_int (fun _ _ => rfl)) (pe_ix ix_tup (pv 0) pe_int (fun _ _ => rfl))) pa_nil)) (pg_name (i := 3) sc_is_rising.nd rfl (.inl rfl))
  (pss_cons (ps_asg (pe_call G_pile_seat hr (by rfl) T.m_pile_seat F_pile_seat.kp b_pile_seat .nil pass0 (pa_cons (pv 0) (pa_cons (pv 1) (pa_cons (pv 3) pa_nil)))) (pg_tup rfl (pgs_cons (pg_name (i := 4) sc_is_rising.nd rfl (.inl rfl)) (pgs_cons (pg_name (i := 5) sc_is_rising.nd rfl (.inl rfl)) pgs_nil))))
  (pss_cons (ps_asg (pe_call G_pile hr (by rfl) T.m_pile F_pile.kp b_pile .nil pass0 (pa_cons (pv 0) (pa_cons (pv 4) (pa_cons (pv 5) pa_nil)))) (pg_tup rfl (pgs_cons (pg_name (i := 6) sc_is_rising.nd rfl (.inl rfl)) (pgs_cons (pg_name (i := 7) sc_is_rising.nd rfl (.inl rfl)) (pgs_cons (pg_name (i := 8) sc_is_rising.nd rfl (.inl rfl)) pgs_nil)))))
  (pss_cons (ps_if (pt_cmpR op_le (pv 6) (pv 2) (nomark _))
  (pss_one (ps_ret pe_bl))
  pss_nil)
  (pss_one (ps_set (i := 2) sc_is_rising.nd rfl (.inl rfl) (pe_op op_add (pv 6) (pe_op op_mul (pv 7) (pe_op op_sub (pv 8) pe_int)))))))))
  (pss_one (ps_ret pe_bl)))), ?_⟩
  obtain ⟨t, h1, _⟩ := id hp
  have k1 := SqT.of (K := K) h1
  have o1 := ok.c1; have o2 := ok.c2; have o3 := ok.r1; have o4 := ok.r2; have o5 := ok.s1; have o6 := ok.s2
  have pl := piles_le ok
  refine ⟨_, rfl, ?_⟩
  refine ⟨_, rfl, a, _, _, _, rfl, rfl, k1, rfl, _, rfl, a, _, _, _, rfl, rfl, k1, rfl, _, _, rfl, rfl, .inr ⟨by omega, by omega⟩, _, rfl, by omega, by omega, ?_⟩
  refine for_range (lo := 0) (n := p.piles) (fun i σ H' => ∃ (x : Int) (v3 v4 v5 v6 v7 v8 : Option V), σ = [some (.ref a), some (.str v.s), some (.int x), v3, v4, v5, v6, v7, v8] ∧ x = lastOf p v i ∧ Same H H' ∧ Up p v i) ?_ ?_ ?_
  · exact ⟨_, none, none, none, none, none, none, rfl, rfl, Same.refl _, fun k hk => absurd hk (by omega)⟩
  · rintro i σ H2 hi ⟨_, v3, v4, v5, v6, v7, v8, rfl, rfl, S2, up⟩
    refine ⟨_, rfl, _, rfl, _, rfl, a, p, v, _, rfl, hp.same S2, ok, fun t3 H3 S3 h3 => ?_⟩
    refine ⟨t3, _, rfl, SqT.of h3, rfl, _, _, rfl, _, _, rfl, rfl, ?_⟩
    refine ⟨_, rfl, _, rfl, _, rfl, a, p, _, _, rfl, hp.same (S2.trans S3), ok, fun t4 H4 S4 n4 h4 => ?_⟩
    refine ⟨t4, _, rfl, SqT.of h4, rfl, _, _, rfl, _, _, rfl, _, _, rfl, rfl, ?_⟩
    have e0 : (0 : Int) + (i : Int) = (i : Int) := Int.zero_add _
    refine ⟨_, rfl, _, rfl, _, _, rfl, rfl, _, rfl, ite2 (fun c => ?_) fun c => ?_⟩
    · have c := of_decide_eq_true c
      rw [e0] at c
      exact q false _ ⟨fun z => Bool.noConfusion z, fun z => absurd z (up_not ok hi c)⟩ (S2.trans (S3.trans S4))
    · have c : ¬ pileF p v i ≤ lastOf p v i := fun z => c (decide_eq_true (by rw [e0]; exact z))
      refine ⟨_, rfl, _, rfl, _, rfl, _, _, rfl, rfl, _, _, rfl, rfl, .inr ⟨by omega, by omega⟩, _, _, rfl, rfl, ?_⟩
      refine ⟨_, _, _, _, _, _, _, rfl, ?_, S2.trans (S3.trans S4), up_more up c⟩
      show p.num 0 (pileR p v (0 + (i : Int))) (pileC p v (0 + (i : Int))) + (p.num 1 (pileR p v (0 + (i : Int))) (pileC p v (0 + (i : Int))) - p.num 0 (pileR p v (0 + (i : Int))) (pileC p v (0 + (i : Int)))) * (p.sheets - 1) = pileL p v i
      rw [e0, pile_step ok]
      rfl
  · rintro σ H2 ⟨_, v3, v4, v5, v6, v7, v8, rfl, _, S2, up⟩
    exact q true _ ⟨fun _ => up, fun _ => rfl⟩ S2

theorem ok_spoilt_by (F : Fun K "spoilt_by" "spoilt_by" s_spoilt_by f_spoilt_by d_spoilt_by) (T : Txt K mg f_is_number f_is_from_to f_is_word f_is_tuple_of f_is_apart f_runs_of f_many_in f_is_order f_is_printing f_how_many f_printed f_number_at f_seat_of f_numbers_on f_runs_of_numbers f_sheet_runs f_pile f_together f_both f_pile_seat f_pile_place f_stack_at f_stack_place f_is_rising f_spoilt_by f_lfeed f_ldraw f_lorder f_lprinting f_lall_seats f_lsheets f_lstack f_lpiles f_lfar f_law)
    (F_number_at : Fun K "number_at" "number_at" s_number_at f_number_at d_number_at) (b_number_at : Binds K d_number_at ["printing", "sheet", "row", "column"] []) (G_number_at : FnOk P w K mg base CX0 (3) f_number_at d_number_at ["printing", "sheet", "row", "column"] spNum)
    (F_numbers_on : Fun K "numbers_on" "numbers_on" s_numbers_on f_numbers_on d_numbers_on) (b_numbers_on : Binds K d_numbers_on ["printing", "sheet"] []) (G_numbers_on : FnOk P w K mg base CX0 (3) f_numbers_on d_numbers_on ["printing", "sheet"] spNumsOn)
    (F_runs_of_numbers : Fun K "runs_of_numbers" "runs_of_numbers" s_runs_of_numbers f_runs_of_numbers d_runs_of_numbers) (b_runs_of_numbers : Binds K d_runs_of_numbers ["printing", "numbers"] []) (G_runs_of_numbers : FnOk P w K mg base CX0 (3) f_runs_of_numbers d_runs_of_numbers ["printing", "numbers"] spRunsNums) :
    FnOk P w K mg base CX0 (4) f_spoilt_by d_spoilt_by ["printing", "sheets", "seats"] (spSpoilt K) := by
  refine F.ok sc_spoilt_by (fun vs H Q E h => ?_) (fun cdv A outer s H vs Q E hr h => ?_)

  · obtain ⟨a, ls, le, p, shs, ps, es, rfl, _⟩ := h
    rfl
  obtain ⟨a, ls, le, p, shs, ps, es, rfl, hp, ok, hs, he, hes, z1, z2, q⟩ := h
  refine ⟨_, (pss_cons (ps_setLc (i := 3) (own := [("sheet", 4), ("row", 5), ("column", 6)]) (g := (gTup K 3 (gCons (gName 4) (gCons (gName 5) (gCons (gName 6) gNil))))) (by rfl) sc_spoilt_by.nd rfl rfl (sw_true rfl rfl rfl (by decide +kernel)) (pi_list (pv 2)) (blkOk_by (own := [("sheet", 4), ("row", 5), ("column", 6)]) (N := ["printing", "sheets", "seats", "numbers", "sheet", "row", "column"]) (sc := defScope s_spoilt_by) (by decide +kernel)) (fun _ _ _ _ _ => (pg_tup rfl (pgs_cons (pg_name (i := 4) sc_spoilt_by.nd rfl (.inl rfl)) (pgs_cons (pg_name (i := 5) sc_spoilt_by.nd rfl (.inl rfl)) (pgs_cons (pg_name (i := 6) sc_spoilt_by.nd rfl (.inl rfl)) pgs_nil))))) (fun _ _ _ _ _ => pts_nil) (fun _ _ _ _ _ => (pe_call G_number_at hr (by rfl) T.m_number_at F_number_at.kp b_number_at .nil pass0 (pa_cons (pv 0) (pa_cons (pv 4) (pa_cons (pv 5) (pa_cons (pv 6) pa_nil)))))))
  (pss_cons (ps_for PassesOwn.never rfl (pi_list (pv 1)) (pg_name (i := 4) sc_spoilt_by.nd rfl (.inl rfl))
  (pss_one (ps_expr (pe_bm PySem.F.plainAttrs_list PySem.F.slot_list_extend PySem.F.type_list_extend mt_extend (pv 3) (pa_cons (pe_call G_numbers_on hr (by rfl) T.m_numbers_on F_numbers_on.kp b_numbers_on .nil pass0 (pa_cons (pv 0) (pa_cons (pv 4) pa_nil))) pa_nil)))))
  (pss_one (ps_ret (pe_call G_runs_of_numbers hr (by rfl) T.m_runs_of_numbers F_runs_of_numbers.kp b_runs_of_numbers .nil pass0 (pa_cons (pv 0) (pa_cons (pv 3) pa_nil))))))), ?_⟩
  have len0 := hes.len
  refine ⟨_, rfl, le, rfl, ⟨_, he⟩, fun D hD => ?_⟩
  refine lc_list (K := K) (a := le) (xs := ps.map V.ref) (fun i H' => Same H H' ∧ H' D = some (.lst (((es.take i).map p.at_).map V.int))) ⟨same_new hD _, upd_same⟩ (fun i H' _ h => SqL.sm h.1 he) ?_ ?_
  · rintro i x H1 hx ⟨S1, hD1⟩
    obtain ⟨u, hu, rfl⟩ : ∃ u, ps[i]? = some u ∧ x = V.ref u := by
      rw [List.getElem?_map] at hx
      cases e : ps[i]? with
      | none => rw [e] at hx; cases hx
      | some p => rw [e] at hx; exact ⟨p, rfl, (Option.some.inj hx).symm⟩
    obtain ⟨e, he1, he2⟩ := Ses.get hes hu
    obtain ⟨hi, ee⟩ := List.getElem?_eq_some_iff.mp he1
    refine ⟨u, _, rfl, SqT.of (S1 _ _ he2), rfl, _, _, rfl, _, _, rfl, _, _, rfl, rfl, rfl, ?_⟩
    refine ⟨_, rfl, _, rfl, _, rfl, _, rfl, a, p, _, _, _, rfl, hp.same S1, ok, fun H2 S2 => ?_⟩
    refine ⟨_, S2 _ _ hD1, ?_, same_mut (S1.trans S2) hD, ?_⟩
    · rw [List.length_map, List.length_map, List.length_take]
      exact Nat.lt_of_le_of_lt (show _ ≤ 1000 by omega) (by decide)
    · rw [upd_same, List.take_succ_eq_append_getElem hi, List.map_append, List.map_append, ee]
      rfl
  · rintro H1 ⟨S1, hD1⟩
    rw [List.length_map, len0, List.take_length] at hD1
    refine ⟨_, rfl, ls, rfl, ⟨_, SqL.sm S1 hs⟩, for_list (K := K) (a := ls) (xs := shs.map V.int) (fun i σ H' => ∃ v4 v5 v6 : Option V, σ = [some (.ref a), some (.ref ls), some (.ref le), some (.ref D), v4, v5, v6] ∧ Same H H' ∧ H' D = some (.lst ((es.map p.at_ ++ (shs.take i).flatMap (numsOn p)).map V.int))) ?_ ?_ ?_ ?_⟩
    · refine ⟨none, none, none, rfl, S1, ?_⟩
      rw [hD1, List.take_zero, List.flatMap_nil, List.append_nil]
    · rintro i σ H' _ ⟨_, _, _, _, S, _⟩
      exact SqL.sm S hs
    · rintro i x σ H2 hx ⟨v4, v5, v6, rfl, S2, hD2⟩
      obtain ⟨n, hn, rfl⟩ : ∃ n, shs[i]? = some n ∧ x = V.int n := by
        rw [List.getElem?_map] at hx
        cases e : shs[i]? with
        | none => rw [e] at hx; cases hx
        | some p => rw [e] at hx; exact ⟨p, rfl, (Option.some.inj hx).symm⟩
      obtain ⟨hi, ee⟩ := List.getElem?_eq_some_iff.mp hn
      refine ⟨_, rfl, .inl ⟨rfl, _, SqL.of hD2⟩, _, rfl, _, rfl, a, p, n, rfl, hp.same S2, ok, fun l H3 S3 n3 hl => ?_⟩
      refine ⟨D, l, _, _, rfl, rfl, S3 _ _ hD2, hl, ?_, ?_⟩
      · have y1 := flat_len ok (shs.take i)
        have y2 := numsOn_len ok n
        rw [List.length_map, List.length_map, List.length_append, List.length_map]
        rw [List.length_take] at y1
        exact Nat.le_trans (show _ ≤ 10000 by omega) (by decide)
      · refine ⟨_, _, _, rfl, same_mut (S2.trans S3) hD, ?_⟩
        rw [upd_same, List.take_succ_eq_append_getElem hi, List.flatMap_append, ee, List.flatMap_singleton, ← List.append_assoc, List.map_append (l₁ := es.map p.at_ ++ (shs.take i).flatMap (numsOn p))]
    · rintro σ H2 ⟨v4, v5, v6, rfl, S2, hD2⟩
      rw [List.length_map, List.take_length] at hD2
      refine ⟨_, rfl, _, rfl, a, D, p, allNums p shs es, rfl, hp.same S2, hD2, ?_, fun t qs H3 S3 n3 ht hq => ?_⟩
      · have y1 := flat_len ok shs
        unfold allNums
        rw [List.length_append, List.length_map]
        omega
      · exact q t qs H3 (S2.trans S3) (S2.free n3) ht hq

theorem ok_lall_seats (F : Fun K "_law_all_seats" "_law_all_seats" s_lall_seats f_lall_seats d_lall_seats) (T : Txt K mg f_is_number f_is_from_to f_is_word f_is_tuple_of f_is_apart f_runs_of f_many_in f_is_order f_is_printing f_how_many f_printed f_number_at f_seat_of f_numbers_on f_runs_of_numbers f_sheet_runs f_pile f_together f_both f_pile_seat f_pile_place f_stack_at f_stack_place f_is_rising f_spoilt_by f_lfeed f_ldraw f_lorder f_lprinting f_lall_seats f_lsheets f_lstack f_lpiles f_lfar f_law) :
    FnOk P w K mg base CX0 (1) f_lall_seats d_lall_seats ["_law_printing_here"] spAllS := by
  refine F.ok sc_lall_seats (fun vs H Q E h => ?_) (fun cdv A outer s H vs Q E hr h => ?_)

  · obtain ⟨a, p, rfl, _⟩ := h
    rfl
  obtain ⟨a, p, rfl, hp, ok, ⟨sm1, sm2, sm3⟩, q⟩ := h
  refine ⟨_, (pss_cons (ps_set (i := 1) sc_lall_seats.nd rfl (.inl rfl) (pe_lst pa_nil))
  (pss_cons (ps_for PassesOwn.never rfl (pi_range1 (by rfl) T.range (pa_cons (pe_ix ix_tup (pv 0) pe_int (fun _ _ => rfl)) pa_nil)) (pg_name (i := 2) sc_lall_seats.nd rfl (.inr rfl))
  (pss_one (ps_for PassesOwn.never rfl (pi_range1 (by rfl) T.range (pa_cons (pe_ix ix_tup (pv 0) pe_int (fun _ _ => rfl)) pa_nil)) (pg_name (i := 3) sc_lall_seats.nd rfl (.inr rfl))
  (pss_one (ps_expr (pe_bm PySem.F.plainAttrs_list PySem.F.slot_list_extend PySem.F.type_list_extend mt_extend (pv 1) (pa_cons (pe_lc (own := [("_law_column", 4)]) (g := (gName 4)) (by rfl) sc_lall_seats.nd (pi_range1 (by rfl) T.range (pa_cons (pe_ix ix_tup (pv 0) pe_int (fun _ _ => rfl)) pa_nil)) (blkOk_by (own := [("_law_column", 4)]) (N := ["_law_printing_here", "_law_found", "_law_sheet", "_law_row", "_law_column"]) (sc := defScope s_lall_seats) (by decide +kernel)) (fun _ _ _ _ _ => (pg_name (i := 4) sc_lall_seats.nd rfl (.inl rfl))) (fun _ _ _ _ _ => pts_nil) (fun _ _ _ _ _ => (pe_tup (pa_cons (pv 2) (pa_cons (pv 3) (pa_cons (pv 4) pa_nil)))))) pa_nil)))))))
  (pss_one (ps_ret (pv 1))))), ?_⟩
  obtain ⟨t, h1, _⟩ := id hp
  have o1 := ok.c1; have o3 := ok.r1; have o5 := ok.s1
  refine ⟨(show 0 ≤ sizeLine by decide), fun F hF => ?_⟩
  have N0 := same_new hF (.lst [])
  refine ⟨_, rfl, a, _, _, _, rfl, rfl, SqT.of (N0 _ _ h1), rfl, _, rfl, by omega, by omega, ?_⟩
  refine for_range (lo := 0) (n := p.sheets.toNat) (fun i σ H' => ∃ (ps : List Addr) (v2 v3 v4 : Option V), σ = [some (.ref a), some (.ref F), v2, v3, v4] ∧ Same H H' ∧ H' F = some (.lst (ps.map V.ref)) ∧ Ses H' ps (allS p i)) ⟨[], none, none, none, rfl, N0, upd_same, .nil⟩ ?_ ?_
  · rintro i σ H1 hi ⟨ps, v2, v3, v4, rfl, S1, hF1, se1⟩
    have e0 : (0 : Int) + (i : Int) = (i : Int) := Int.zero_add _
    refine ⟨_, rfl, a, _, _, _, rfl, rfl, SqT.of (S1 _ _ h1), rfl, _, rfl, by omega, by omega, ?_⟩
    refine for_range (lo := 0) (n := p.rows.toNat) (fun j σ H' => ∃ (ps : List Addr) (v3 v4 : Option V), σ = [some (.ref a), some (.ref F), some (.int (0 + (i : Int))), v3, v4] ∧ Same H H' ∧ H' F = some (.lst (ps.map V.ref)) ∧ Ses H' ps (allS p i ++ sheetS p i j)) ⟨ps, _, _, rfl, S1, hF1, by simpa [sheetS] using se1⟩ ?_ ?_
    · rintro j σ H2 hj ⟨ps, v3, v4, rfl, S2, hF2, se2⟩
      have f0 : (0 : Int) + (j : Int) = (j : Int) := Int.zero_add _
      have lps : ps.length ≤ 1000 := by
        rw [se2.len, List.length_append, allS_len, sheetS_len]
        have m1 : i * (p.rows.toNat * p.cols.toNat) ≤ 6 * (4 * 4) := Nat.mul_le_mul (by omega) (Nat.mul_le_mul (by omega) (by omega))
        have m2 : j * p.cols.toNat ≤ 4 * 4 := Nat.mul_le_mul (by omega) (by omega)
        omega
      refine ⟨_, rfl, .inl ⟨rfl, _, SqL.of hF2⟩, _, rfl, a, _, _, _, rfl, rfl, SqT.of (S2 _ _ h1), rfl, _, rfl, by omega, by omega, fun D hD => ?_⟩
      refine lc_range (lo := 0) (n := p.cols.toNat) (fun k H' => ∃ qs : List Addr, Same H2 H' ∧ H' D = some (.lst (qs.map V.ref)) ∧ Ses H' qs ((rowS p i j).take k)) ⟨[], same_new hD _, upd_same, by simpa using Paired.nil⟩ ?_ ?_
      · rintro k H3 hk ⟨qs, S3, hD3, se3⟩
        have lq : qs.length ≤ 4 := by
          rw [se3.len, List.length_take]
          omega
        refine ⟨rfl, _, rfl, _, rfl, _, rfl, (show 3 ≤ sizeLine by decide), fun u hu => ?_⟩
        have Nu := same_new hu (.tup [.int (0 + (i : Int)), .int (0 + (j : Int)), .int (0 + (k : Int))])
        have hD4 := Nu _ _ hD3
        refine ⟨_, hD4, ?_, qs ++ [u], same_mut (S3.trans Nu) hD, ?_, ?_⟩
        · rw [List.length_map]
          exact Nat.lt_of_le_of_lt lq (by decide)
        · rw [upd_same, List.map_append]
          rfl
        · have rk : (rowS p i j)[k]? = some ((i : Int), (j : Int), (k : Int)) := by
            unfold rowS
            rw [List.getElem?_map, List.getElem?_range hk]
            rfl
          obtain ⟨l1, l2⟩ := List.getElem?_eq_some_iff.mp rk
          have kp : ∀ (x : Addr) (o : HO), (∀ z, o ≠ HO.lst z) → upd H3 u (.tup [.int (0 + (i : Int)), .int (0 + (j : Int)), .int (0 + (k : Int))]) x = some o → upd (upd H3 u (.tup [.int (0 + (i : Int)), .int (0 + (j : Int)), .int (0 + (k : Int))])) D (.lst (qs.map V.ref ++ [.ref u])) x = some o := fun x o no ex => by
            rw [upd_ne (ne_of ex hD4 (no _))]
            exact ex
          rw [List.take_succ_eq_append_getElem l1, l2]
          refine Ses.app (Ses.keep kp (se3.same Nu)) (.cons (kp _ _ (fun _ => nofun) ?_) .nil)
          rw [upd_same, e0, f0, Int.zero_add]
          rfl
      · rintro H3 ⟨qs, S3, hD3, se3⟩
        have eT : (rowS p i j).take p.cols.toNat = rowS p i j := List.take_of_length_le (by rw [rowS_len]; exact Nat.le_refl _)
        rw [eT] at se3
        have hF3 := S3 _ _ hF2
        refine ⟨F, D, _, _, rfl, rfl, hF3, hD3, ?_, ps ++ qs, _, _, rfl, same_mut (S2.trans S3) hF, ?_, ?_⟩
        · rw [List.length_map, List.length_map, se3.len, rowS_len]
          exact Nat.le_trans (show _ ≤ 10000 by omega) (by decide)
        · rw [upd_same, List.map_append]
        · have kp : ∀ (x : Addr) (o : HO), (∀ z, o ≠ HO.lst z) → H3 x = some o → upd H3 F (.lst (ps.map V.ref ++ qs.map V.ref)) x = some o := fun x o no ex => by
            rw [upd_ne (ne_of ex hF3 (no _))]
            exact ex
          rw [sheetS_more, ← List.append_assoc]
          exact Ses.app (Ses.keep kp (se2.same S3)) (Ses.keep kp se3)
    · rintro σ H2 ⟨ps, v3, v4, rfl, S2, hF2, se2⟩
      exact ⟨ps, _, _, _, rfl, S2, hF2, by rw [allS_more]; exact se2⟩
  · rintro σ H1 ⟨ps, v2, v3, v4, rfl, S1, hF1, se1⟩
    exact ⟨_, rfl, q F ps H1 S1 hF1 se1⟩

theorem ok_lsheets (F : Fun K "_law_sheets" "_law_sheets" s_lsheets f_lsheets d_lsheets) (T : Txt K mg f_is_number f_is_from_to f_is_word f_is_tuple_of f_is_apart f_runs_of f_many_in f_is_order f_is_printing f_how_many f_printed f_number_at f_seat_of f_numbers_on f_runs_of_numbers f_sheet_runs f_pile f_together f_both f_pile_seat f_pile_place f_stack_at f_stack_place f_is_rising f_spoilt_by f_lfeed f_ldraw f_lorder f_lprinting f_lall_seats f_lsheets f_lstack f_lpiles f_lfar f_law)
    (F_sheet_runs : Fun K "sheet_runs" "sheet_runs" s_sheet_runs f_sheet_runs d_sheet_runs) (b_sheet_runs : Binds K d_sheet_runs ["printing", "sheet"] []) (G_sheet_runs : FnOk P w K mg base CX0 (4) f_sheet_runs d_sheet_runs ["printing", "sheet"] spSheetRuns)
    (F_both : Fun K "both" "both" s_both f_both d_both) (b_both : Binds K d_both ["one", "other"] []) (G_both : FnOk P w K mg base CX0 (4) f_both d_both ["one", "other"] (spTwo K bothL))
    (F_many_in : Fun K "many_in" "many_in" s_many_in f_many_in d_many_in) (b_many_in : Binds K d_many_in ["runs"] []) (G_many_in : FnOk P w K mg base CX0 (4) f_many_in d_many_in ["runs"] (spMany K P_many_in))
    (F_spoilt_by : Fun K "spoilt_by" "spoilt_by" s_spoilt_by f_spoilt_by d_spoilt_by) (b_spoilt_by : Binds K d_spoilt_by ["printing", "sheets", "seats"] []) (G_spoilt_by : FnOk P w K mg base CX0 (4) f_spoilt_by d_spoilt_by ["printing", "sheets", "seats"] (spSpoilt K))
    (F_together : Fun K "together" "together" s_together f_together d_together) (b_together : Binds K d_together ["one", "other"] []) (G_together : FnOk P w K mg base CX0 (4) f_together d_together ["one", "other"] (spTwo K togL))
    (F_printed : Fun K "printed" "printed" s_printed f_printed d_printed) (b_printed : Binds K d_printed ["printing"] []) (G_printed : FnOk P w K mg base CX0 (4) f_printed d_printed ["printing"] spPrinted) :
    FnOk P w K mg base CX0 (5) f_lsheets d_lsheets ["_law_printing_here"] (spSheetsW P_many_in) := by
  refine F.ok sc_lsheets (fun vs H Q E h => ?_) (fun cdv A outer s H vs Q E hr h => ?_)

  · obtain ⟨a, p, rfl, _⟩ := h
    rfl
  obtain ⟨a, p, rfl, hp, ok, ⟨sm1, sm2, sm3⟩, hM, q⟩ := h
  refine ⟨_, (pss_cons (ps_set (i := 1) sc_lsheets.nd rfl (.inl rfl) (pe_tup pa_nil))
  (pss_cons (ps_for PassesOwn.never rfl (pi_range1 (by rfl) T.range (pa_cons (pe_ix ix_tup (pv 0) pe_int (fun _ _ => rfl)) pa_nil)) (pg_name (i := 2) sc_lsheets.nd rfl (.inl rfl))
  (pss_cons (ps_set (i := 3) sc_lsheets.nd rfl (.inl rfl) (pe_call G_sheet_runs hr (by rfl) T.m_sheet_runs F_sheet_runs.kp b_sheet_runs .nil pass0 (pa_cons (pv 0) (pa_cons (pv 2) pa_nil))))
  (pss_cons (ps_if (PW.pt (pw_or (pt_cmpR (op_neP hr) (pe_call G_both hr (by rfl) T.m_both F_both.kp b_both .nil pass0 (pa_cons (pv 1) (pa_cons (pv 3) pa_nil))) (pe_tup pa_nil) (nomark _)) (pw_or1 (pt_cmpR op_ne (pe_call G_many_in hr (by rfl) T.m_many_in F_many_in.kp b_many_in .nil pass0 (pa_cons (pv 3) pa_nil)) (pe_op op_mul (pe_ix ix_tup (pv 0) pe_int (fun _ _ => rfl)) (pe_ix ix_tup (pv 0) pe_int (fun _ _ => rfl))) (nomark _)))))
  (pss_one (ps_ret pe_bl))
  pss_nil)
  (pss_cons (ps_if (pt_cmpR (op_neP hr) (pe_call G_spoilt_by hr (by rfl) T.m_spoilt_by F_spoilt_by.kp b_spoilt_by .nil pass0 (pa_cons (pv 0) (pa_cons (pe_lst (pa_cons (pv 2) pa_nil)) (pa_cons (pe_lst pa_nil) pa_nil)))) (pv 3) (nomark _))
  (pss_one (ps_ret pe_bl))
  pss_nil)
  (pss_one (ps_set (i := 1) sc_lsheets.nd rfl (.inl rfl) (pe_call G_together hr (by rfl) T.m_together F_together.kp b_together .nil pass0 (pa_cons (pv 1) (pa_cons (pv 3) pa_nil)))))))))
  (pss_one (ps_ret (pe_cmpR (op_eqP hr) (pv 1) (pe_tup (pa_cons (pe_call G_printed hr (by rfl) T.m_printed F_printed.kp b_printed .nil pass0 (pa_cons (pv 0) pa_nil)) pa_nil)) (nomark _)))))), ?_⟩
  have o1 := ok.c1; have o2 := ok.c2; have o3 := ok.r1; have o4 := ok.r2; have o5 := ok.s1; have o6 := ok.s2; have f0 := ok.f0; have mo := ok.most
  have pe : p.end = p.first + p.cols * p.rows * p.sheets := rfl
  have mp : 0 < p.cols * p.rows * p.sheets := Int.mul_pos (Int.mul_pos (by omega) (by omega)) (by omega)
  obtain ⟨t, h1, _⟩ := id hp
  refine ⟨(show 0 ≤ sizeLine by decide), fun F hF => ?_⟩
  have N0 := same_new hF (.tup [])
  refine ⟨_, rfl, a, _, _, _, rfl, rfl, SqT.of (N0 _ _ h1), rfl, _, rfl, by omega, by omega, ?_⟩
  refine for_range (lo := 0) (n := p.sheets.toNat) (fun i σ H' => ∃ (w : Addr) (ws : List Rn) (v2 v3 : Option V), σ = [some (.ref a), some (.ref w), v2, v3] ∧ Same H H' ∧ TpAt K H' w ws ∧ Canon ws ∧ ws.length ≤ 200 * i ∧ ∀ s n, has ws s n ↔ s = p.series ∧ ∃ j : Nat, j < i ∧ n ∈ numsOn p j) ⟨F, [], none, none, rfl, N0, ⟨[], SqT.of upd_same, .nil⟩, canon_nil, Nat.le_refl _, fun s n => ⟨fun z => (Pn.has_nil _ _ z).elim, fun ⟨_, j, hj, _⟩ => absurd hj (Nat.not_lt_zero _)⟩⟩ ?_ ?_
  · rintro i σ H1 hi ⟨w1, ws, v2, v3, rfl, S1, tw, cw, lw, hw⟩
    have hs0 : 0 ≤ (i : Int) ∧ (i : Int) < p.sheets := by omega
    have e0 : (0 : Int) + (i : Int) = (i : Int) := Int.zero_add _
    obtain ⟨ca, hs⟩ := runsOf_ok (single_full p.series (numsOn p (0 + (i : Int))))
    have rng : ∀ m ∈ numsOn p (0 + (i : Int)), p.first ≤ m ∧ m < p.end := fun m hm => by
      rw [e0] at hm
      exact on_range ok hs0 hm
    refine ⟨_, rfl, _, rfl, a, p, _, rfl, hp.same S1, ok, fun t2 q2 H2 S2 n2 h2 p2 => ?_⟩
    have len2 : (runsOf ((numsOn p (0 + (i : Int))).map (single p.series))).length ≤ 144 := Nat.le_trans (runsOf_len _) (by rw [List.length_map]; exact numsOn_len ok _)
    have ok2 : ∀ r ∈ runsOf ((numsOn p (0 + (i : Int))).map (single p.series)), RnOk r := fun r hr => (runsOf_all2 (xs := [p.series]) (fun r hr => by
      obtain ⟨m, hm, rfl⟩ := List.mem_map.mp hr
      have := rng m hm
      exact ⟨⟨by show 0 ≤ m; omega, by show m < m + 1; omega, by show m + 1 ≤ _; omega⟩, List.mem_cons_self⟩) r hr).1
    have t2a : TpAt K H2 t2 (runsOf ((numsOn p (0 + (i : Int))).map (single p.series))) := ⟨q2, SqT.of h2, p2⟩
    have lw2 : ws.length ≤ 1200 := by omega
    obtain ⟨cb, hb⟩ := both_ok _ _ cw ca
    have none' : bothL ws (runsOf ((numsOn p (0 + (i : Int))).map (single p.series))) = [] := by
      refine canon_uniq cb canon_nil fun s n => ⟨fun z => ?_, fun z => (Pn.has_nil _ _ z).elim⟩
      obtain ⟨z1, z2⟩ := (hb s n).mp z
      obtain ⟨_, j, hj, hj2⟩ := (hw s n).mp z1
      obtain ⟨_, z3⟩ := single_has.mp ((hs s n).mp z2)
      rw [e0] at z3
      have := on_sheet ok (by omega) hs0 hj2 z3
      exfalso
      omega
    refine ⟨_, rfl, _, rfl, w1, t2, ws, _, rfl, tw.same S2, t2a, by omega, by omega, fun t3 q3 H3 S3 n3 h3 p3 => ?_⟩
    refine ⟨(show 0 ≤ sizeLine by decide), fun e3 ne3 => ?_⟩
    have N3 := same_new ne3 (.tup [])
    refine ⟨rnsD _, rnsD [], prd_dp (N3 _ _ h3) (Prd.same N3 p3), .tup (SqT.of upd_same) .nil, rns_plain _, rns_plain _, rnsD_depth _, _, rfl, ?_⟩
    rw [none', rns_eqv, decide_eq_true rfl]
    refine iteF ?_
    have S13 := S1.trans (S2.trans (S3.trans N3))
    have S23 := S3.trans N3
    generalize upd H3 e3 (.tup []) = H3' at *
    refine ⟨_, rfl, t2, _, rfl, t2a.same S23, by omega, ok2, S13 _ _ hM, fun H4 S4 => ?_⟩
    have S14 := S13.trans S4
    have k1 := SqT.of (K := K) (S14 _ _ h1)
    refine ⟨_, rfl, a, _, _, _, rfl, rfl, k1, rfl, _, rfl, a, _, _, _, rfl, rfl, k1, rfl, _, _, rfl, rfl, .inr ⟨by omega, by omega⟩, ?_⟩
    have cn : cntL (runsOf ((numsOn p (0 + (i : Int))).map (single p.series))) = p.cols * p.rows := by
      rw [cnt_singles (nums_nodup ok _) (fun m hm => by have := rng m hm; omega), on_len ok]
    refine ⟨rfl, _, rfl, iteNS (congrArg V.int cn) ?_⟩
    refine ⟨_, rfl, _, rfl, (show 1 ≤ sizeLine by decide), fun l1 nl1 => ?_⟩
    have M1 := same_new nl1 (.lst [.int (0 + (i : Int))])
    refine ⟨(show 0 ≤ sizeLine by decide), fun l2 nl2 => ?_⟩
    have M2 := same_new nl2 (.lst [])
    have g1 : upd (upd H4 l1 (.lst [.int (0 + (i : Int))])) l2 (.lst []) l1 = some (.lst ([0 + (i : Int)].map V.int)) := M2 _ _ upd_same
    have g2 : upd (upd H4 l1 (.lst [.int (0 + (i : Int))])) l2 (.lst []) l2 = some (.lst (([] : List Addr).map V.ref)) := upd_same
    have S15 := S14.trans (M1.trans M2)
    have S25 := S23.trans (S4.trans (M1.trans M2))
    generalize upd (upd H4 l1 (.lst [.int (0 + (i : Int))])) l2 (.lst []) = H5 at *
    refine ⟨a, l1, l2, p, [0 + (i : Int)], [], [], rfl, hp.same S15, ok, SqL.of g1, SqL.of g2, .nil, (show 1 ≤ 20 by decide), (show 0 ≤ 1000 by decide), fun t6 q6 H6 S6 n6 h6 p6 => ?_⟩
    refine ⟨_, rfl, rnsD _, rnsD _, prd_dp h6 p6, (t2a.same (S25.trans S6)).dp, rns_plain _, rns_plain _, rnsD_depth _, _, rfl, ?_⟩
    have eqs : runsOf ((allNums p [0 + (i : Int)] []).map (single p.series)) = runsOf ((numsOn p (0 + (i : Int))).map (single p.series)) := by
      refine runsOf_mems (single_full _ _) fun r => ?_
      rw [List.mem_map, List.mem_map]
      have mm : ∀ n, n ∈ allNums p [0 + (i : Int)] [] ↔ n ∈ numsOn p (0 + (i : Int)) := fun n => by
        rw [allNums_mem]
        simp
      exact ⟨fun ⟨n, h1, h2⟩ => ⟨n, (mm n).mp h1, h2⟩, fun ⟨n, h1, h2⟩ => ⟨n, (mm n).mpr h1, h2⟩⟩
    rw [eqs, rns_eqv, decide_eq_true rfl]
    refine iteF ?_
    have S26 := S25.trans S6
    have S16 := S15.trans S6
    refine ⟨_, rfl, _, rfl, w1, t2, ws, _, rfl, tw.same (S2.trans S26), t2a.same S26, by omega, by omega, fun t7 q7 H7 S7 n7 h7 p7 => ?_⟩
    obtain ⟨ct, ht⟩ := runsOf_ok (full_app cw.2 ca.2)
    refine ⟨t7, togL ws (runsOf ((numsOn p (0 + (i : Int))).map (single p.series))), _, _, rfl, S16.trans S7, ⟨q7, SqT.of h7, p7⟩, ct, ?_, fun s n => ?_⟩
    · refine Nat.le_trans (runsOf_len _) ?_
      rw [List.length_append]
      omega
    · show has (runsOf _) s n ↔ _
      rw [ht, has_app, hw, hs, single_has, e0]
      constructor
      · rintro (⟨h1, j, h2, h3⟩ | ⟨h1, h2⟩)
        · exact ⟨h1, j, by omega, h3⟩
        · exact ⟨h1, i, by omega, h2⟩
      · rintro ⟨h1, j, h2, h3⟩
        by_cases c : j = i
        · subst c
          exact .inr ⟨h1, h3⟩
        · exact .inl ⟨h1, j, by omega, h3⟩
  · rintro σ H1 ⟨w1, ws, v2, v3, rfl, S1, tw, cw, lw, hw⟩
    refine ⟨_, rfl, _, rfl, a, p, rfl, hp.same S1, ok, fun t2 H2 S2 n2 h2 => ?_⟩
    refine ⟨(show 1 ≤ sizeLine by decide), fun u nu => ?_⟩
    have Nu := same_new nu (.tup [.ref t2])
    have e : ws = [(p.series, p.first, p.end)] := by
      refine canon_uniq cw ⟨List.pairwise_singleton _ _, fun r hr => by
        cases List.mem_singleton.mp hr
        show p.first < p.end
        omega⟩ fun s n => ?_
      rw [hw]
      constructor
      · rintro ⟨rfl, j, hj, hj2⟩
        have := on_range ok (s := (j : Int)) (by omega) hj2
        exact ⟨_, List.mem_cons_self, rfl, this.1, this.2⟩
      · rintro ⟨r, hr, e, h1, h2⟩
        cases List.mem_singleton.mp hr
        obtain ⟨f, hf, hat⟩ := seat_any ok h1 h2
        have sh : 0 ≤ f .sh ∧ f .sh < p.sheets := hf .sh
        refine ⟨e.symm, (f .sh).toNat, by omega, ?_⟩
        rw [Int.toNat_of_nonneg sh.1, ← hat]
        exact on_at hf
    refine ⟨rnsD ws, rnsD [(p.series, p.first, p.end)], (tw.same (S2.trans Nu)).dp, TpAt.dp ⟨[t2], SqT.of upd_same, .cons (Nu _ _ h2) .nil⟩, rns_plain _, rns_plain _, rnsD_depth _, ?_⟩
    rw [rns_eqv, decide_eq_true e]
    exact q _ (S1.trans (S2.trans Nu))

theorem ok_lstack (F : Fun K "_law_stack" "_law_stack" s_lstack f_lstack d_lstack) (T : Txt K mg f_is_number f_is_from_to f_is_word f_is_tuple_of f_is_apart f_runs_of f_many_in f_is_order f_is_printing f_how_many f_printed f_number_at f_seat_of f_numbers_on f_runs_of_numbers f_sheet_runs f_pile f_together f_both f_pile_seat f_pile_place f_stack_at f_stack_place f_is_rising f_spoilt_by f_lfeed f_ldraw f_lorder f_lprinting f_lall_seats f_lsheets f_lstack f_lpiles f_lfar f_law)
    (F_stack_at : Fun K "stack_at" "stack_at" s_stack_at f_stack_at d_stack_at) (b_stack_at : Binds K d_stack_at ["printing", "way", "k"] []) (G_stack_at : FnOk P w K mg base CX0 (4) f_stack_at d_stack_at ["printing", "way", "k"] spStackN)
    (F_stack_place : Fun K "stack_place" "stack_place" s_stack_place f_stack_place d_stack_place) (b_stack_place : Binds K d_stack_place ["printing", "way", "number"] []) (G_stack_place : FnOk P w K mg base CX0 (4) f_stack_place d_stack_place ["printing", "way", "number"] spPlaceN)
    (F_printed : Fun K "printed" "printed" s_printed f_printed d_printed) (b_printed : Binds K d_printed ["printing"] []) (G_printed : FnOk P w K mg base CX0 (4) f_printed d_printed ["printing"] spPrinted)
    (F_is_rising : Fun K "is_rising" "is_rising" s_is_rising f_is_rising d_is_rising) (b_is_rising : Binds K d_is_rising ["printing", "way"] []) (G_is_rising : FnOk P w K mg base CX0 (4) f_is_rising d_is_rising ["printing", "way"] spRising) :
    FnOk P w K mg base CX0 (5) f_lstack d_lstack ["_law_printing_here", "_law_way"] spStackW := by
  refine F.ok sc_lstack (fun vs H Q E h => ?_) (fun cdv A outer s H vs Q E hr h => ?_)

  · obtain ⟨a, p, w, rfl, _⟩ := h
    rfl
  obtain ⟨a, p, v, rfl, hp, ok, sm, q⟩ := h
  refine ⟨_, (pss_cons (ps_set (i := 2) sc_lstack.nd rfl (.inl rfl) (pe_op op_mul (pe_op op_mul (pe_ix ix_tup (pv 0) pe_int (fun _ _ => rfl)) (pe_ix ix_tup (pv 0) pe_int (fun _ _ => rfl))) (pe_ix ix_tup (pv 0) pe_int (fun _ _ => rfl))))
  (pss_cons (ps_setLc (i := 3) (own := [("_law_k", 4)]) (g := (gName 4)) (by rfl) sc_lstack.nd rfl rfl (sw_true rfl rfl rfl (by decide +kernel)) (pi_range1 (by rfl) T.range (pa_cons (pv 2) pa_nil)) (blkOk_by (own := [("_law_k", 4)]) (N := ["_law_printing_here", "_law_way", "_law_many", "_law_numbers", "_law_k", "_law_number", "_law_series", "_law_first", "_law_end", "_law_is_up"]) (sc := defScope s_lstack) (by decide +kernel)) (fun _ _ _ _ _ => (pg_name (i := 4) sc_lstack.nd rfl (.inl rfl))) (fun _ _ _ _ _ => pts_nil) (fun _ _ _ _ _ => (pe_call G_stack_at hr (by rfl) T.m_stack_at F_stack_at.kp b_stack_at .nil pass0 (pa_cons (pv 0) (pa_cons (pv 1) (pa_cons (pv 4) pa_nil))))))
  (pss_cons (ps_if (pt_cmpR (op_neP hr) (pe_lc (own := [("_law_number", 5)]) (g := (gName 5)) (by rfl) sc_lstack.nd (pi_list (pv 3)) (blkOk_by (own := [("_law_number", 5)]) (N := ["_law_printing_here", "_law_way", "_law_many", "_law_numbers", "_law_k", "_law_number", "_law_series", "_law_first", "_law_end", "_law_is_up"]) (sc := defScope s_lstack) (by decide +kernel)) (fun _ _ _ _ _ => (pg_name (i := 5) sc_lstack.nd rfl (.inl rfl))) (fun _ _ _ _ _ => pts_nil) (fun _ _ _ _ _ => (pe_call G_stack_place hr (by rfl) T.m_stack_place F_stack_place.kp b_stack_place .nil pass0 (pa_cons (pv 0) (pa_cons (pv 1) (pa_cons (pv 5) pa_nil)))))) (pe_listRg (by rfl) (by rfl) T.list (prg_1 (by rfl) T.range (pv 2))) (nomark _))
  (pss_one (ps_ret pe_bl))
  pss_nil)
  (pss_cons (ps_asg (pe_call G_printed hr (by rfl) T.m_printed F_printed.kp b_printed .nil pass0 (pa_cons (pv 0) pa_nil)) (pg_tup rfl (pgs_cons (pg_name (i := 6) sc_lstack.nd rfl (.inl rfl)) (pgs_cons (pg_name (i := 7) sc_lstack.nd rfl (.inl rfl)) (pgs_cons (pg_name (i := 8) sc_lstack.nd rfl (.inl rfl)) pgs_nil)))))
  (pss_cons (ps_set (i := 9) sc_lstack.nd rfl (.inl rfl) (pe_cmpR (op_eqP hr) (pv 3) (pe_callB cr_sortedI (by rfl) T.sorted (by decide +kernel) (pa_cons (pv 3) pa_nil)) (nomark _)))
  (pss_one (ps_ret (pe_and (pe_cmpR (op_eqP hr) (pe_callB cr_sortedI (by rfl) T.sorted (by decide +kernel) (pa_cons (pv 3) pa_nil)) (pe_listRg (by rfl) (by rfl) T.list (prg_2 (by rfl) T.range (pv 7) (pv 8))) (nomark _)) (pe_one (pe_cmpR op_eq (pe_call G_is_rising hr (by rfl) T.m_is_rising F_is_rising.kp b_is_rising .nil pass0 (pa_cons (pv 0) (pa_cons (pv 1) pa_nil))) (pv 9) (nomark _))))))))))), ?_⟩
  obtain ⟨t, h1, _⟩ := id hp
  have o1 := ok.c1; have o2 := ok.c2; have o3 := ok.r1; have o4 := ok.r2; have o5 := ok.s1; have o6 := ok.s2
  have k1 := SqT.of (K := K) h1
  have m96 := small_many2 ok sm
  obtain ⟨mp, mi⟩ := many_toNat ok
  have me : p.cols * p.rows * p.sheets = p.many := rfl
  refine ⟨_, rfl, a, _, _, _, rfl, rfl, k1, rfl, _, rfl, a, _, _, _, rfl, rfl, k1, rfl, _, _, rfl, rfl, .inr ⟨by omega, by omega⟩, _, rfl, a, _, _, _, rfl, rfl, k1, rfl, _, _, rfl, rfl, .inr ⟨by omega, by omega⟩, ?_⟩
  refine ⟨_, rfl, p.many, rfl, by omega, by omega, fun D hD => ?_⟩
  refine lc_range (lo := 0) (n := p.many.toNat) (fun k H' => Same H H' ∧ H' D = some (.lst ((numsW p v k).map V.int))) ⟨same_new hD _, upd_same⟩ ?_ ?_
  · rintro k H1 hk ⟨S1, hD1⟩
    refine ⟨rfl, _, rfl, _, rfl, _, rfl, a, p, v, 0 + (k : Int), rfl, hp.same S1, ok, by omega, by omega, fun H2 S2 => ?_⟩
    refine ⟨_, S2 _ _ hD1, ?_, same_mut (S1.trans S2) hD, ?_⟩
    · rw [List.length_map, numsW_len]
      exact Nat.lt_of_le_of_lt (show _ ≤ 1000 by omega) (by decide)
    · rw [upd_same, numsW_more, List.map_append, Int.zero_add]
      rfl
  rintro H1 ⟨S1, hD1⟩
  refine ⟨_, rfl, D, rfl, ⟨_, SqL.of hD1⟩, fun D2 hD2 => ?_⟩
  refine lc_list (K := K) (a := D) (xs := (numsW p v p.many.toNat).map V.int) (fun k H' => Same H1 H' ∧ H' D2 = some (.lst ((upN k).map V.int))) ⟨same_new hD2 _, upd_same⟩ (fun j H' _ h => SqL.of (h.1 _ _ hD1)) ?_ ?_
  · rintro k x H2 hx ⟨S2, hD2'⟩
    have hk : k < p.many.toNat := by
      have z := (List.getElem?_eq_some_iff.mp hx).1
      rw [List.length_map, numsW_len] at z
      exact z
    obtain rfl : x = .int (stackN p v k) := by
      unfold numsW at hx
      rw [List.map_map, List.getElem?_map, List.getElem?_range hk] at hx
      exact (Option.some.inj hx).symm
    have sin := stackS_in ok v (k := (k : Int)) (by omega) (by omega)
    have rng := at_range ok sin
    rw [← stackN_at] at rng
    have pe : p.end = p.first + p.cols * p.rows * p.sheets := rfl
    refine ⟨rfl, _, rfl, _, rfl, _, rfl, a, p, v, stackN p v k, rfl, hp.same (S1.trans S2), ok, by omega, by omega, fun f H3 hf ef S3 => ?_⟩
    have ff : f = stackS p v k := at_inj ok hf sin (ef.trans (stackN_at p v k))
    have pb : placeN p v f = (k : Int) := by
      rw [ff]
      exact place_back p v k
    rw [pb]
    refine ⟨_, S3 _ _ hD2', ?_, same_mut (S2.trans S3) hD2, ?_⟩
    · rw [List.length_map, upN_len]
      exact Nat.lt_of_le_of_lt (show _ ≤ 1000 by omega) (by decide)
    · rw [upd_same, upN_more, List.map_append]
      rfl
  rintro H2 ⟨S2, hD2'⟩
  rw [List.length_map, numsW_len] at hD2'
  refine ⟨_, rfl, p.many, rfl, RgOk.of_le (by omega) (by omega) (by omega) (by omega), fun q1 nq1 => ?_⟩
  have N1 := same_new nq1 (.lst (rgV 0 p.many))
  have eU : rgV 0 p.many = (upN p.many.toNat).map V.int := by
    rw [rgV_is, Int.sub_zero]
    unfold loN upN
    congr 1
    exact List.map_congr_left fun k _ => Int.zero_add _
  refine ⟨intsW _, intsW (upN p.many.toNat), ints_dpW (SqL.of (N1 _ _ hD2')), ints_dpW (SqL.of (by rw [upd_same, eU])), ints_plainW _, ints_plainW _, ints_depW _, _, rfl, ?_⟩
  rw [ints_eqvW, decide_eq_true rfl]
  refine iteF ?_
  have S3 := S1.trans (S2.trans N1)
  have hD3 := (S2.trans N1) _ _ hD1
  generalize upd H2 q1 (.lst (rgV 0 p.many)) = H3 at *
  refine ⟨_, rfl, a, p, rfl, hp.same S3, ok, fun t4 H4 S4 n4 h4 => ?_⟩
  refine ⟨t4, _, rfl, SqT.of h4, rfl, _, _, rfl, _, _, rfl, _, _, rfl, rfl, ?_⟩
  have hD4 := S4 _ _ hD3
  have S04 := S3.trans S4
  have perm0 := numsW_perm ok v
  have uni : ∀ {ms : List Int}, ms.Perm (numsW p v p.many.toNat) → ms.Pairwise (· ≤ ·) → ms = loN p.first p.many.toNat := fun {ms} pm sr => List.Perm.eq_of_pairwise (le := fun x y => x ≤ y) (fun x y _ _ => Int.le_antisymm) sr (loN_up _ _) (pm.trans perm0)
  refine ⟨_, rfl, _, rfl, D, _, rfl, SqL.of hD4, fun ms m pm sr nm => ?_⟩
  cases uni pm sr
  have N5 := same_new nm (.lst ((loN p.first p.many.toNat).map V.int))
  have hD5 := N5 _ _ hD4
  refine ⟨intsW _, intsW _, ints_dpW (SqL.of hD5), ints_dpW (SqL.of upd_same), ints_plainW _, ints_plainW _, ints_depW _, ?_⟩
  rw [ints_eqvW, Bool.false_xor]
  have S05 := S04.trans N5
  generalize upd H4 m (.lst ((loN p.first p.many.toNat).map V.int)) = H5 at *
  refine ⟨_, rfl, D, _, rfl, SqL.of hD5, fun ms2 m2 pm2 sr2 nm2 => ?_⟩
  cases uni pm2 sr2
  have N6 := same_new nm2 (.lst ((loN p.first p.many.toNat).map V.int))
  have h6 : upd H5 m2 (.lst ((loN p.first p.many.toNat).map V.int)) m2 = some (.lst ((loN p.first p.many.toNat).map V.int)) := upd_same
  have S06 := S05.trans N6
  generalize upd H5 m2 (.lst ((loN p.first p.many.toNat).map V.int)) = H6 at *
  have pe : p.end = p.first + p.many := rfl
  have f0 := ok.f0
  have mo := ok.most
  refine ⟨_, rfl, _, rfl, _, _, rfl, rfl, ⟨by omega, by omega, by omega, by omega, by omega⟩, fun q2 nq2 => ?_⟩
  have N7 := same_new nq2 (.lst (rgV p.first p.end))
  have eR : rgV p.first p.end = (loN p.first p.many.toNat).map V.int := by
    rw [rgV_is, show p.end - p.first = p.many by omega]
  refine ⟨intsW _, intsW (loN p.first p.many.toNat), ints_dpW (SqL.of (N7 _ _ h6)), ints_dpW (SqL.of (by rw [upd_same, eR])), ints_plainW _, ints_plainW _, ints_depW _, ?_⟩
  rw [ints_eqvW, decide_eq_true rfl, Bool.false_xor]
  refine ⟨_, rfl, iteT ?_⟩
  have S07 := S06.trans N7
  refine ⟨_, rfl, _, rfl, a, p, v, rfl, hp.same S07, ok, fun bb H8 hb S8 => ?_⟩
  refine ⟨_, rfl, rfl, ?_⟩
  have eb : bb = decide (numsW p v p.many.toNat = loN p.first p.many.toNat) := by
    rw [Bool.eq_iff_iff, hb, decide_eq_true_eq, ← nums_up ok v (S := p.sheets.toNat) (by omega), ← mp]
    constructor
    · intro z
      exact uni (List.Perm.refl _) z
    · intro z
      rw [z]
      exact loN_up _ _
  rw [← eb]
  have e2 : decide (V.bl bb = V.bl bb) = true := decide_eq_true rfl
  rw [e2]
  exact q _ (S07.trans S8)

theorem ok_lpiles (F : Fun K "_law_piles" "_law_piles" s_lpiles f_lpiles d_lpiles) (T : Txt K mg f_is_number f_is_from_to f_is_word f_is_tuple_of f_is_apart f_runs_of f_many_in f_is_order f_is_printing f_how_many f_printed f_number_at f_seat_of f_numbers_on f_runs_of_numbers f_sheet_runs f_pile f_together f_both f_pile_seat f_pile_place f_stack_at f_stack_place f_is_rising f_spoilt_by f_lfeed f_ldraw f_lorder f_lprinting f_lall_seats f_lsheets f_lstack f_lpiles f_lfar f_law)
    (F_pile : Fun K "pile" "pile" s_pile f_pile d_pile) (b_pile : Binds K d_pile ["printing", "row", "column"] []) (G_pile : FnOk P w K mg base CX0 (3) f_pile d_pile ["printing", "row", "column"] (spPile fun p r c => p.num 1 r c - p.num 0 r c))
    (F_number_at : Fun K "number_at" "number_at" s_number_at f_number_at d_number_at) (b_number_at : Binds K d_number_at ["printing", "sheet", "row", "column"] []) (G_number_at : FnOk P w K mg base CX0 (3) f_number_at d_number_at ["printing", "sheet", "row", "column"] spNum) :
    FnOk P w K mg base CX0 (4) f_lpiles d_lpiles ["_law_printing_here"] spPilesS := by
  refine F.ok sc_lpiles (fun vs H Q E h => ?_) (fun cdv A outer s H vs Q E hr h => ?_)

  · obtain ⟨a, p, rfl, _⟩ := h
    rfl
  obtain ⟨a, p, rfl, hp, ok, ⟨sm1, sm2, sm3⟩, q⟩ := h
  refine ⟨_, (pss_cons (ps_for PassesOwn.never rfl (pi_range1 (by rfl) T.range (pa_cons (pe_ix ix_tup (pv 0) pe_int (fun _ _ => rfl)) pa_nil)) (pg_name (i := 1) sc_lpiles.nd rfl (.inr rfl))
  (pss_one (ps_for PassesOwn.never rfl (pi_range1 (by rfl) T.range (pa_cons (pe_ix ix_tup (pv 0) pe_int (fun _ _ => rfl)) pa_nil)) (pg_name (i := 2) sc_lpiles.nd rfl (.inr rfl))
  (pss_cons (ps_asg (pe_call G_pile hr (by rfl) T.m_pile F_pile.kp b_pile .nil pass0 (pa_cons (pv 0) (pa_cons (pv 1) (pa_cons (pv 2) pa_nil)))) (pg_tup rfl (pgs_cons (pg_name (i := 3) sc_lpiles.nd rfl (.inr rfl)) (pgs_cons (pg_name (i := 4) sc_lpiles.nd rfl (.inr rfl)) (pgs_cons (pg_name (i := 5) sc_lpiles.nd rfl (.inl rfl)) pgs_nil)))))
  (pss_cons (ps_setLc (i := 6) (own := [("_law_sheet", 7)]) (g := (gName 7)) (by rfl) sc_lpiles.nd rfl rfl (sw_true rfl rfl rfl (by decide +kernel)) (pi_range1 (by rfl) T.range (pa_cons (pe_ix ix_tup (pv 0) pe_int (fun _ _ => rfl)) pa_nil)) (blkOk_by (own := [("_law_sheet", 7)]) (N := ["_law_printing_here", "_law_row", "_law_column", "_law_first", "_law_step", "_law_many", "_law_numbers", "_law_sheet", "_law_k"]) (sc := defScope s_lpiles) (by decide +kernel)) (fun _ _ _ _ _ => (pg_name (i := 7) sc_lpiles.nd rfl (.inl rfl))) (fun _ _ _ _ _ => pts_nil) (fun _ _ _ _ _ => (pe_call G_number_at hr (by rfl) T.m_number_at F_number_at.kp b_number_at .nil pass0 (pa_cons (pv 0) (pa_cons (pv 7) (pa_cons (pv 1) (pa_cons (pv 2) pa_nil)))))))
  (pss_one (ps_if (pt_cmpR (op_neP hr) (pv 6) (pe_lc (own := [("_law_k", 8)]) (g := (gName 8)) (by rfl) sc_lpiles.nd (pi_range1 (by rfl) T.range (pa_cons (pv 5) pa_nil)) (blkOk_by (own := [("_law_k", 8)]) (N := ["_law_printing_here", "_law_row", "_law_column", "_law_first", "_law_step", "_law_many", "_law_numbers", "_law_sheet", "_law_k"]) (sc := defScope s_lpiles) (by decide +kernel)) (fun _ _ _ _ _ => (pg_name (i := 8) sc_lpiles.nd rfl (.inl rfl))) (fun _ _ _ _ _ => pts_nil) (fun _ _ _ _ _ => (pe_op op_add (pv 3) (pe_op op_mul (pv 4) (pv 8))))) (nomark _))
  (pss_one (ps_ret pe_bl))
  pss_nil)))))))
  (pss_one (ps_ret pe_bl))), ?_⟩
  obtain ⟨t, h1, _⟩ := id hp
  have o1 := ok.c1; have o3 := ok.r1; have o5 := ok.s1
  refine ⟨_, rfl, a, _, _, _, rfl, rfl, SqT.of h1, rfl, _, rfl, by omega, by omega, ?_⟩
  refine for_range (lo := 0) (n := p.rows.toNat) (fun i σ H' => ∃ (v1 v2 v3 v4 v5 v6 v7 v8 : Option V), σ = [some (.ref a), v1, v2, v3, v4, v5, v6, v7, v8] ∧ Same H H') ⟨none, none, none, none, none, none, none, none, rfl, Same.refl _⟩ ?_ ?_
  · rintro i σ H1 hi ⟨v1, v2, v3, v4, v5, v6, v7, v8, rfl, S1⟩
    refine ⟨_, rfl, a, _, _, _, rfl, rfl, SqT.of (S1 _ _ h1), rfl, _, rfl, by omega, by omega, ?_⟩
    refine for_range (lo := 0) (n := p.cols.toNat) (fun j σ H' => ∃ (v2 v3 v4 v5 v6 v7 v8 : Option V), σ = [some (.ref a), some (.int (0 + (i : Int))), v2, v3, v4, v5, v6, v7, v8] ∧ Same H H') ⟨_, _, _, _, _, _, _, rfl, S1⟩ ?_ ?_
    · rintro j σ H2 hj ⟨v2, v3, v4, v5, v6, v7, v8, rfl, S2⟩
      refine ⟨_, rfl, _, rfl, _, rfl, a, p, _, _, rfl, hp.same S2, ok, fun t3 H3 S3 n3 h3 => ?_⟩
      refine ⟨t3, _, rfl, SqT.of h3, rfl, _, _, rfl, _, _, rfl, _, _, rfl, rfl, ?_⟩
      have S23 := S2.trans S3
      refine ⟨_, rfl, a, _, _, _, rfl, rfl, SqT.of (S23 _ _ h1), rfl, _, rfl, by omega, by omega, fun D hD => ?_⟩
      refine lc_range (lo := 0) (n := p.sheets.toNat) (fun k H' => Same H3 H' ∧ H' D = some (.lst ((pileN p (0 + (i : Int)) (0 + (j : Int)) k).map V.int))) ⟨same_new hD _, upd_same⟩ ?_ ?_
      · rintro k H4 hk ⟨S4, hD4⟩
        refine ⟨rfl, _, rfl, _, rfl, _, rfl, _, rfl, a, p, _, _, _, rfl, hp.same (S23.trans S4), ok, fun H5 S5 => ?_⟩
        refine ⟨_, S5 _ _ hD4, ?_, same_mut (S4.trans S5) hD, ?_⟩
        · rw [List.length_map, pileN_len]
          exact Nat.lt_of_le_of_lt (show _ ≤ 1000 by omega) (by decide)
        · rw [upd_same, pileN_more, List.map_append, Int.zero_add (k : Int)]
          rfl
      rintro H4 ⟨S4, hD4⟩
      refine ⟨_, rfl, _, rfl, _, rfl, by omega, by omega, fun D2 hD2 => ?_⟩
      refine lc_range (lo := 0) (n := p.sheets.toNat) (fun k H' => Same H4 H' ∧ H' D2 = some (.lst ((pileN p (0 + (i : Int)) (0 + (j : Int)) k).map V.int))) ⟨same_new hD2 _, upd_same⟩ ?_ ?_
      · rintro k H5 hk ⟨S5, hD5⟩
        refine ⟨rfl, _, rfl, _, rfl, _, rfl, _, _, rfl, rfl, .inr ⟨by omega, by omega⟩, _, _, rfl, rfl, _, hD5, ?_, same_mut S5 hD2, ?_⟩
        · rw [List.length_map, pileN_len]
          exact Nat.lt_of_le_of_lt (show _ ≤ 1000 by omega) (by decide)
        · rw [upd_same, pileN_more, List.map_append]
          have e : p.num 0 (0 + (i : Int)) (0 + (j : Int)) + (p.num 1 (0 + (i : Int)) (0 + (j : Int)) - p.num 0 (0 + (i : Int)) (0 + (j : Int))) * (0 + (k : Int)) = p.num k (0 + (i : Int)) (0 + (j : Int)) := by
            rw [pile_step ok, Int.zero_add (k : Int), num_gap ok k, Int.mul_comm]
          rw [← e]
          rfl
      rintro H5 ⟨S5, hD5⟩
      refine ⟨intsW _, intsW _, ints_dpW (SqL.of (S5 _ _ hD4)), ints_dpW (SqL.of hD5), ints_plainW _, ints_plainW _, ints_depW _, _, rfl, ?_⟩
      rw [ints_eqvW, decide_eq_true rfl]
      exact iteF ⟨_, _, _, _, _, _, _, rfl, S23.trans (S4.trans S5)⟩
    · rintro σ H2 ⟨v2, v3, v4, v5, v6, v7, v8, rfl, S2⟩
      exact ⟨_, _, _, _, _, _, _, _, rfl, S2⟩
  · rintro σ H1 ⟨v1, v2, v3, v4, v5, v6, v7, v8, rfl, S1⟩
    exact q _ S1

theorem ok_lfar (F : Fun K "_law_far" "_law_far" s_lfar f_lfar d_lfar) (T : Txt K mg f_is_number f_is_from_to f_is_word f_is_tuple_of f_is_apart f_runs_of f_many_in f_is_order f_is_printing f_how_many f_printed f_number_at f_seat_of f_numbers_on f_runs_of_numbers f_sheet_runs f_pile f_together f_both f_pile_seat f_pile_place f_stack_at f_stack_place f_is_rising f_spoilt_by f_lfeed f_ldraw f_lorder f_lprinting f_lall_seats f_lsheets f_lstack f_lpiles f_lfar f_law)
    (F_printed : Fun K "printed" "printed" s_printed f_printed d_printed) (b_printed : Binds K d_printed ["printing"] []) (G_printed : FnOk P w K mg base CX0 (5) f_printed d_printed ["printing"] spPrinted)
    (F_ldraw : Fun K "_law_draw" "_law_draw" s_ldraw f_ldraw d_ldraw) (b_ldraw : Binds K d_ldraw ["_law_feed_here", "_law_many"] []) (G_ldraw : FnOk P w K mg base CX0 (5) f_ldraw d_ldraw ["_law_feed_here", "_law_many"] spDraw)
    (F_seat_of : Fun K "seat_of" "seat_of" s_seat_of f_seat_of d_seat_of) (b_seat_of : Binds K d_seat_of ["printing", "number"] []) (G_seat_of : FnOk P w K mg base CX0 (5) f_seat_of d_seat_of ["printing", "number"] spSeatN)
    (F_pile : Fun K "pile" "pile" s_pile f_pile d_pile) (b_pile : Binds K d_pile ["printing", "row", "column"] []) (G_pile : FnOk P w K mg base CX0 (5) f_pile d_pile ["printing", "row", "column"] (spPile fun p r c => p.num 1 r c - p.num 0 r c))
    (F_number_at : Fun K "number_at" "number_at" s_number_at f_number_at d_number_at) (b_number_at : Binds K d_number_at ["printing", "sheet", "row", "column"] []) (G_number_at : FnOk P w K mg base CX0 (5) f_number_at d_number_at ["printing", "sheet", "row", "column"] spNum)
    (F_stack_at : Fun K "stack_at" "stack_at" s_stack_at f_stack_at d_stack_at) (b_stack_at : Binds K d_stack_at ["printing", "way", "k"] []) (G_stack_at : FnOk P w K mg base CX0 (5) f_stack_at d_stack_at ["printing", "way", "k"] spStackN)
    (F_stack_place : Fun K "stack_place" "stack_place" s_stack_place f_stack_place d_stack_place) (b_stack_place : Binds K d_stack_place ["printing", "way", "number"] []) (G_stack_place : FnOk P w K mg base CX0 (5) f_stack_place d_stack_place ["printing", "way", "number"] spPlaceN)
    (F_both : Fun K "both" "both" s_both f_both d_both) (b_both : Binds K d_both ["one", "other"] []) (G_both : FnOk P w K mg base CX0 (5) f_both d_both ["one", "other"] (spTwo K bothL))
    (F_sheet_runs : Fun K "sheet_runs" "sheet_runs" s_sheet_runs f_sheet_runs d_sheet_runs) (b_sheet_runs : Binds K d_sheet_runs ["printing", "sheet"] []) (G_sheet_runs : FnOk P w K mg base CX0 (5) f_sheet_runs d_sheet_runs ["printing", "sheet"] spSheetRuns)
    (F_many_in : Fun K "many_in" "many_in" s_many_in f_many_in d_many_in) (b_many_in : Binds K d_many_in ["runs"] []) (G_many_in : FnOk P w K mg base CX0 (5) f_many_in d_many_in ["runs"] (spMany K P_many_in)) :
    FnOk P w K mg base CX0 (6) f_lfar d_lfar ["_law_feed_here", "_law_printing_here"] (spFarW P_many_in) := by
  refine F.ok sc_lfar (fun vs H Q E h => ?_) (fun cdv A outer s H vs Q E hr h => ?_)

  · obtain ⟨f, c, a, p, n, rfl, _⟩ := h
    rfl
  obtain ⟨f, c, a, p, n, rfl, hf, hn, hp, ok, hM, q⟩ := h
  refine ⟨_, (pss_cons (ps_asg (pe_call G_printed hr (by rfl) T.m_printed F_printed.kp b_printed .nil pass0 (pa_cons (pv 1) pa_nil)) (pg_tup rfl (pgs_cons (pg_name (i := 2) sc_lfar.nd rfl (.inl rfl)) (pgs_cons (pg_name (i := 3) sc_lfar.nd rfl (.inl rfl)) (pgs_cons (pg_name (i := 4) sc_lfar.nd rfl (.inl rfl)) pgs_nil)))))
  (pss_cons (ps_for PassesOwn.never rfl (pi_range1 (by rfl) T.range (pa_cons pe_int pa_nil)) (pg_name (i := 5) sc_lfar.nd rfl (.inl rfl))
  (pss_cons (ps_set (i := 6) sc_lfar.nd rfl (.inl rfl) (pe_op op_add (pv 3) (pe_call G_ldraw hr (by rfl) T.m_ldraw F_ldraw.kp b_ldraw .nil pass0 (pa_cons (pv 0) (pa_cons (pe_op op_sub (pv 4) (pv 3)) pa_nil)))))
  (pss_cons (ps_asg (pe_call G_seat_of hr (by rfl) T.m_seat_of F_seat_of.kp b_seat_of .nil pass0 (pa_cons (pv 1) (pa_cons (pv 6) pa_nil))) (pg_tup rfl (pgs_cons (pg_name (i := 7) sc_lfar.nd rfl (.inl rfl)) (pgs_cons (pg_name (i := 8) sc_lfar.nd rfl (.inl rfl)) (pgs_cons (pg_name (i := 9) sc_lfar.nd rfl (.inl rfl)) pgs_nil)))))
  (pss_cons (ps_asg (pe_call G_pile hr (by rfl) T.m_pile F_pile.kp b_pile .nil pass0 (pa_cons (pv 1) (pa_cons (pv 8) (pa_cons (pv 9) pa_nil)))) (pg_tup rfl (pgs_cons (pg_name (i := 10) sc_lfar.nd rfl (.inl rfl)) (pgs_cons (pg_name (i := 11) sc_lfar.nd rfl (.inl rfl)) (pgs_cons (pg_name (i := 12) sc_lfar.nd rfl (.inl rfl)) pgs_nil)))))
  (pss_cons (ps_if (PW.pt (pw_or (pt_cmpR op_ne (pe_call G_number_at hr (by rfl) T.m_number_at F_number_at.kp b_number_at .nil pass0 (pa_cons (pv 1) (pa_cons (pv 7) (pa_cons (pv 8) (pa_cons (pv 9) pa_nil))))) (pv 6) (nomark _)) (pw_or1 (pt_cmpR op_ge (pv 7) (pv 12) (nomark _)))))
  (pss_one (ps_ret pe_bl))
  pss_nil)
  (pss_cons (ps_if (pt_cmpR op_ne (pe_op op_add (pv 10) (pe_op op_mul (pv 11) (pv 7))) (pv 6) (nomark _))
  (pss_one (ps_ret pe_bl))
  pss_nil)
  (pss_cons (ps_for PassesOwn.never rfl (pi_tup (pe_tup (pa_cons pe_str (pa_cons pe_str pa_nil)))) (pg_name (i := 13) sc_lfar.nd rfl (.inl rfl))
  (pss_one (ps_if (pt_cmpR op_ne (pe_call G_stack_at hr (by rfl) T.m_stack_at F_stack_at.kp b_stack_at .nil pass0 (pa_cons (pv 1) (pa_cons (pv 13) (pa_cons (pe_call G_stack_place hr (by rfl) T.m_stack_place F_stack_place.kp b_stack_place .nil pass0 (pa_cons (pv 1) (pa_cons (pv 13) (pa_cons (pv 6) pa_nil)))) pa_nil)))) (pv 6) (nomark _))
  (pss_one (ps_ret pe_bl))
  pss_nil)))
  (pss_cons (ps_set (i := 14) sc_lfar.nd rfl (.inl rfl) (pe_tup (pa_cons (pe_tup (pa_cons (pv 2) (pa_cons (pv 6) (pa_cons (pe_op op_add (pv 6) pe_int) pa_nil)))) pa_nil)))
  (pss_one (ps_if (pt_cmpR (op_neP hr) (pe_call G_both hr (by rfl) T.m_both F_both.kp b_both .nil pass0 (pa_cons (pe_call G_sheet_runs hr (by rfl) T.m_sheet_runs F_sheet_runs.kp b_sheet_runs .nil pass0 (pa_cons (pv 1) (pa_cons (pv 7) pa_nil))) (pa_cons (pv 14) pa_nil))) (pv 14) (nomark _))
  (pss_one (ps_ret pe_bl))
  pss_nil))))))))))
  (pss_cons (ps_set (i := 15) sc_lfar.nd rfl (.inl rfl) (pe_op op_mul (pe_op op_mul (pe_ix ix_tup (pv 1) pe_int (fun _ _ => rfl)) (pe_ix ix_tup (pv 1) pe_int (fun _ _ => rfl))) (pe_ix ix_tup (pv 1) pe_int (fun _ _ => rfl))))
  (pss_one (ps_ret (pe_cmpR op_eq (pe_call G_many_in hr (by rfl) T.m_many_in F_many_in.kp b_many_in .nil pass0 (pa_cons (pe_tup (pa_cons (pe_call G_printed hr (by rfl) T.m_printed F_printed.kp b_printed .nil pass0 (pa_cons (pv 1) pa_nil)) pa_nil)) pa_nil)) (pv 15) (nomark _))))))), ?_⟩
  have o1 := ok.c1; have o2 := ok.c2; have o3 := ok.r1; have o4 := ok.r2; have o5 := ok.s1; have o6 := ok.s2; have f0 := ok.f0; have mo := ok.most
  obtain ⟨pb0, pb1⟩ := prod_bound (c := p.cols) (r := p.rows) (s := p.sheets) (by omega) (by omega) (by omega) (by omega) (by omega) (by omega)
  have pe : p.end = p.first + p.cols * p.rows * p.sheets := rfl
  have mp : 0 < p.cols * p.rows * p.sheets := Int.mul_pos (Int.mul_pos (by omega) (by omega)) (by omega)
  refine ⟨_, rfl, a, p, rfl, hp, ok, fun t0 H0 S0 n0 h0 => ?_⟩
  refine ⟨t0, _, rfl, SqT.of h0, rfl, _, _, rfl, _, _, rfl, _, _, rfl, rfl, ?_⟩
  refine ⟨10, rfl, by decide, by decide, ?_⟩
  refine for_range (lo := 0) (n := 10) (fun i σ H' => ∃ (v5 v6 v7 v8 v9 v10 v11 v12 v13 v14 v15 : Option V), σ = [some (.ref f), some (.ref a), some (.str p.series), some (.int p.first), some (.int p.end), v5, v6, v7, v8, v9, v10, v11, v12, v13, v14, v15] ∧ Fd H' f c (n + i) ∧ But f H H') ⟨none, none, none, none, none, none, none, none, none, none, none, rfl, (hf.same S0).mono (by omega), But.of_same S0⟩ ?_ ?_
  · rintro i σ H1 hi ⟨v5, v6, v7, v8, v9, v10, v11, v12, v13, v14, v15, rfl, hf1, b1⟩
    have hp1 := hp.but hf b1
    refine ⟨_, rfl, _, rfl, _, rfl, _, rfl, _, _, rfl, rfl, f, c, p.end - p.first, n + i, rfl, hf1, by omega, by omega, by omega, fun d H2 d0 d1 hf2 b2 _ => ?_⟩
    refine ⟨_, _, rfl, rfl, ?_⟩
    have hp2 := hp1.but hf1 b2
    refine ⟨_, rfl, _, rfl, a, p, p.first + d, rfl, hp2, ok, by omega, by omega, fun ff t3 H3 hin hat S3 h3 => ?_⟩
    refine ⟨t3, _, rfl, SqT.of h3, rfl, _, _, rfl, _, _, rfl, _, _, rfl, rfl, ?_⟩
    refine ⟨_, rfl, _, rfl, _, rfl, a, p, _, _, rfl, hp2.same S3, ok, fun t4 H4 S4 n4 h4 => ?_⟩
    refine ⟨t4, _, rfl, SqT.of h4, rfl, _, _, rfl, _, _, rfl, _, _, rfl, rfl, ?_⟩
    have S24 := S3.trans S4
    refine ⟨_, rfl, _, rfl, _, rfl, _, rfl, a, p, _, _, _, rfl, hp2.same S24, ok, fun H5 S5 => ?_⟩
    refine ⟨_, rfl, rfl, _, rfl, iteNS (congrArg V.int hat) ?_⟩
    have S25 := S24.trans S5
    have sh := hin .sh
    have sh2 : ff .sh < p.sheets := sh.2
    refine ⟨_, rfl, _, rfl, _, _, rfl, rfl, _, rfl, ?_⟩
    refine ite2 (fun z => absurd (of_decide_eq_true z) (by show ¬ p.sheets ≤ ff .sh; omega)) (fun _ => ?_)
    have es : p.num 0 (ff .ro) (ff .co) + (p.num 1 (ff .ro) (ff .co) - p.num 0 (ff .ro) (ff .co)) * ff .sh = p.first + d := by
      rw [pile_step ok, Int.mul_comm, ← num_gap ok (ff .sh)]
      exact hat
    refine ⟨_, rfl, _, rfl, _, rfl, _, _, rfl, rfl, .inr ⟨by show -(2 ^ 64) < ff .sh; omega, by show ff .sh < 2 ^ 64; omega⟩, _, _, rfl, rfl, _, rfl, rfl, _, rfl, iteNS (congrArg V.int es) ?_⟩
    refine ⟨(show 2 ≤ sizeLine by decide), fun tw ntw => ?_⟩
    have Nw := same_new ntw (.tup [.str "rows", .str "columns"])
    have htw : upd H5 tw (.tup [.str "rows", .str "columns"]) tw = some (.tup ([Way.rows, Way.cols].map fun w => V.str w.s)) := upd_same
    have S26 := S25.trans Nw
    generalize upd H5 tw (.tup [.str "rows", .str "columns"]) = H6 at *
    refine ⟨tw, rfl, ⟨_, SqT.of htw⟩, ?_⟩
    refine for_tup (K := K) (a := tw) (xs := [Way.rows, Way.cols].map fun w => V.str w.s) (fun j σ H' => ∃ v13 : Option V, σ = [some (.ref f), some (.ref a), some (.str p.series), some (.int p.first), some (.int p.end), some (.int (0 + (i : Int))), some (.int (p.first + d)), some (.int (ff .sh)), some (.int (ff .ro)), some (.int (ff .co)), some (.int (p.num 0 (ff .ro) (ff .co))), some (.int (p.num 1 (ff .ro) (ff .co) - p.num 0 (ff .ro) (ff .co))), some (.int p.sheets), v13, v14, v15] ∧ Same H6 H') ⟨_, rfl, Same.refl _⟩ (fun j σ H' _ h => by obtain ⟨_, _, S⟩ := h; exact SqT.of (S _ _ htw)) ?_ ?_
    · rintro j x σ H7 hx ⟨v13, rfl, S7⟩
      obtain ⟨wy, rfl⟩ : ∃ wy : Way, x = .str wy.s := by
        match j, hx with
        | 0, hx => exact ⟨.rows, (Option.some.inj hx).symm⟩
        | 1, hx => exact ⟨.cols, (Option.some.inj hx).symm⟩
      have S27 := S26.trans S7
      refine ⟨_, rfl, _, rfl, _, rfl, _, rfl, _, rfl, a, p, wy, p.first + d, rfl, hp2.same S27, ok, by omega, by omega, fun f2 H8 hin2 hat2 S8 => ?_⟩
      obtain ⟨k, k1, k2, k3⟩ := stack_ofE ok wy hin2
      refine ⟨a, p, wy, placeN p wy f2, rfl, hp2.same (S27.trans S8), ok, by omega, by omega, fun H9 S9 => ?_⟩
      refine ⟨_, rfl, rfl, _, rfl, iteNS (congrArg V.int (by rw [k2, k3, hat2])) ?_⟩
      exact ⟨_, rfl, S7.trans (S8.trans S9)⟩
    · rintro σ H7 ⟨v13, rfl, S7⟩
      have S27 := S26.trans S7
      refine ⟨_, rfl, _, rfl, _, rfl, _, _, rfl, rfl, (show 3 ≤ sizeLine by decide), fun u1 nu1 => ?_⟩
      have N1 := same_new nu1 (.tup [.str p.series, .int (p.first + d), .int (p.first + d + 1)])
      refine ⟨(show 1 ≤ sizeLine by decide), fun u2 nu2 => ?_⟩
      have N2 := same_new nu2 (.tup [.ref u1])
      have al : TpAt K (upd (upd H7 u1 (.tup [.str p.series, .int (p.first + d), .int (p.first + d + 1)])) u2 (.tup [.ref u1])) u2 [single p.series (p.first + d)] := ⟨[u1], SqT.of upd_same, .cons (N2 _ _ upd_same) .nil⟩
      have S28 := S27.trans (N1.trans N2)
      generalize upd (upd H7 u1 (.tup [.str p.series, .int (p.first + d), .int (p.first + d + 1)])) u2 (.tup [.ref u1]) = H8 at *
      refine ⟨_, rfl, _, rfl, a, p, _, rfl, hp2.same S28, ok, fun t9 q9 H9 S9 n9 h9 p9 => ?_⟩
      have len9 : (runsOf ((numsOn p (ff .sh)).map (single p.series))).length ≤ 3000 := Nat.le_trans (runsOf_len _) (by rw [List.length_map]; exact Nat.le_trans (numsOn_len ok _) (by decide))
      refine ⟨_, rfl, t9, u2, _, [single p.series (p.first + d)], rfl, ⟨q9, SqT.of h9, p9⟩, al.same S9, len9, (show 1 ≤ 3000 by decide), fun t10 q10 H10 S10 n10 h10 p10 => ?_⟩
      refine ⟨_, rfl, rnsD _, rnsD [single p.series (p.first + d)], prd_dp h10 p10, (al.same (S9.trans S10)).dp, rns_plain _, rns_plain _, rnsD_depth _, _, rfl, ?_⟩
      have eq : bothL (runsOf ((numsOn p (ff .sh)).map (single p.series))) [single p.series (p.first + d)] = [single p.series (p.first + d)] := by
        obtain ⟨ca, hs⟩ := runsOf_ok (single_full p.series (numsOn p (ff .sh)))
        have ca1 : Canon [single p.series (p.first + d)] := ⟨List.pairwise_singleton _ _, single_full p.series [p.first + d]⟩
        obtain ⟨cb, hb⟩ := both_ok _ _ ca ca1
        refine canon_uniq cb ca1 fun s m => ?_
        rw [hb, hs, single_has]
        have z := single_has (s := p.series) (ns := [p.first + d]) (t := s) (n := m)
        refine ⟨fun k => k.2, fun k => ⟨?_, k⟩⟩
        obtain ⟨z1, z2⟩ := z.mp k
        refine ⟨z1, ?_⟩
        rw [List.mem_singleton.mp z2, ← hat]
        exact on_at hin
      rw [eq, rns_eqv, decide_eq_true rfl]
      refine iteF ?_
      have S210 := S28.trans (S9.trans S10)
      exact ⟨_, _, _, _, _, _, _, _, _, _, _, rfl, (hf2.same S210).mono (by omega), b1.trans (b2.trans (But.of_same S210))⟩
  · rintro σ H1 ⟨v5, v6, v7, v8, v9, v10, v11, v12, v13, v14, v15, rfl, hf1, b1⟩
    have hp1 := hp.but hf b1
    obtain ⟨t1, h1, _⟩ := id hp1
    have k1 := SqT.of (K := K) h1
    refine ⟨_, rfl, a, _, _, _, rfl, rfl, k1, rfl, _, rfl, a, _, _, _, rfl, rfl, k1, rfl, _, _, rfl, rfl, .inr ⟨by omega, by omega⟩, _, rfl, a, _, _, _, rfl, rfl, k1, rfl, _, _, rfl, rfl, .inr ⟨by omega, by omega⟩, ?_⟩
    refine ⟨_, rfl, a, p, rfl, hp1, ok, fun t2 H2 S2 n2 h2 => ?_⟩
    refine ⟨(show 1 ≤ sizeLine by decide), fun u nu => ?_⟩
    have Nu := same_new nu (.tup [.ref t2])
    refine ⟨u, [(p.series, p.first, p.end)], rfl, ⟨[t2], SqT.of upd_same, .cons (Nu _ _ h2) .nil⟩, (show 1 ≤ 3000 by decide), fun r hr => ?_, (S2.trans Nu) _ _ (tab_but hf b1 hM), fun H3 S3 => ?_⟩
    · cases List.mem_singleton.mp hr
      exact ⟨f0, by show p.first < p.end; omega, by show p.end ≤ _; omega⟩
    · refine ⟨_, rfl, rfl, ?_⟩
      have e : cntL [(p.series, p.first, p.end)] = p.cols * p.rows * p.sheets := by
        rw [cntL_cons]
        show p.end - p.first + 0 = _
        omega
      rw [e]
      have e2 : decide (V.int (p.cols * p.rows * p.sheets) = V.int (p.cols * p.rows * p.sheets)) = true := decide_eq_true rfl
      rw [e2]
      have Sx := S2.trans (Nu.trans S3)
      exact q _ ((hf1.same Sx).mono (by omega)) (b1.trans (But.of_same Sx))

theorem ok_law (F : Fun K "law" "law" s_law f_law d_law) (T : Txt K mg f_is_number f_is_from_to f_is_word f_is_tuple_of f_is_apart f_runs_of f_many_in f_is_order f_is_printing f_how_many f_printed f_number_at f_seat_of f_numbers_on f_runs_of_numbers f_sheet_runs f_pile f_together f_both f_pile_seat f_pile_place f_stack_at f_stack_place f_is_rising f_spoilt_by f_lfeed f_ldraw f_lorder f_lprinting f_lall_seats f_lsheets f_lstack f_lpiles f_lfar f_law)
    (F_lfeed : Fun K "_law_feed" "_law_feed" s_lfeed f_lfeed d_lfeed) (b_lfeed : Binds K d_lfeed ["_law_script"] []) (G_lfeed : FnOk P w K mg base CX0 (7) f_lfeed d_lfeed ["_law_script"] (spFeed K))
    (F_lprinting : Fun K "_law_printing" "_law_printing" s_lprinting f_lprinting d_lprinting) (b_lprinting : Binds K d_lprinting ["_law_feed_here", "_law_small"] []) (G_lprinting : FnOk P w K mg base CX0 (7) f_lprinting d_lprinting ["_law_feed_here", "_law_small"] spPrintW)
    (F_is_printing : Fun K "is_printing" "is_printing" s_is_printing f_is_printing d_is_printing) (b_is_printing : Binds K d_is_printing ["thing"] []) (G_is_printing : FnOk P w K mg base CX0 (7) f_is_printing d_is_printing ["thing"] (spIsPr P_is_order P_is_word))
    (F_printed : Fun K "printed" "printed" s_printed f_printed d_printed) (b_printed : Binds K d_printed ["printing"] []) (G_printed : FnOk P w K mg base CX0 (7) f_printed d_printed ["printing"] spPrinted)
    (F_lall_seats : Fun K "_law_all_seats" "_law_all_seats" s_lall_seats f_lall_seats d_lall_seats) (b_lall_seats : Binds K d_lall_seats ["_law_printing_here"] []) (G_lall_seats : FnOk P w K mg base CX0 (7) f_lall_seats d_lall_seats ["_law_printing_here"] spAllS)
    (F_number_at : Fun K "number_at" "number_at" s_number_at f_number_at d_number_at) (b_number_at : Binds K d_number_at ["printing", "sheet", "row", "column"] []) (G_number_at : FnOk P w K mg base CX0 (7) f_number_at d_number_at ["printing", "sheet", "row", "column"] spNum)
    (F_seat_of : Fun K "seat_of" "seat_of" s_seat_of f_seat_of d_seat_of) (b_seat_of : Binds K d_seat_of ["printing", "number"] []) (G_seat_of : FnOk P w K mg base CX0 (7) f_seat_of d_seat_of ["printing", "number"] spSeatN)
    (F_lsheets : Fun K "_law_sheets" "_law_sheets" s_lsheets f_lsheets d_lsheets) (b_lsheets : Binds K d_lsheets ["_law_printing_here"] []) (G_lsheets : FnOk P w K mg base CX0 (7) f_lsheets d_lsheets ["_law_printing_here"] (spSheetsW P_many_in))
    (F_lpiles : Fun K "_law_piles" "_law_piles" s_lpiles f_lpiles d_lpiles) (b_lpiles : Binds K d_lpiles ["_law_printing_here"] []) (G_lpiles : FnOk P w K mg base CX0 (7) f_lpiles d_lpiles ["_law_printing_here"] spPilesS)
    (F_lfar : Fun K "_law_far" "_law_far" s_lfar f_lfar d_lfar) (b_lfar : Binds K d_lfar ["_law_feed_here", "_law_printing_here"] []) (G_lfar : FnOk P w K mg base CX0 (7) f_lfar d_lfar ["_law_feed_here", "_law_printing_here"] (spFarW P_many_in))
    (F_lstack : Fun K "_law_stack" "_law_stack" s_lstack f_lstack d_lstack) (b_lstack : Binds K d_lstack ["_law_printing_here", "_law_way"] []) (G_lstack : FnOk P w K mg base CX0 (7) f_lstack d_lstack ["_law_printing_here", "_law_way"] spStackW) :
    FnG P w K mg base 8 f_law d_law ["_law_script"] (spLawT K [P_is_order, P_is_word, P_many_in]) := by
  refine okG F sc_law (fun vs H Q E h => ?_) (fun cdv A outer s H vs Q E hr hg h => ?_)

  · obtain ⟨a, ns, rfl, _⟩ := h
    rfl
  obtain ⟨a0, ns, rfl, hs, ht, q⟩ := h
  refine ⟨_, (pss_cons (ps_set (i := 1) sc_law.nd rfl (.inl rfl) (pe_call G_lfeed hr (by rfl) T.m_lfeed F_lfeed.kp b_lfeed .nil pass0 (pa_cons (pv 0) pa_nil)))
  (pss_cons (ps_set (i := 2) sc_law.nd rfl (.inl rfl) (pe_call G_lprinting hr (by rfl) T.m_lprinting F_lprinting.kp b_lprinting .nil pass0 (pa_cons (pv 1) (pa_cons pe_int pa_nil))))
  (pss_cons (ps_set (i := 3) sc_law.nd rfl (.inl rfl) (pe_call G_lprinting hr (by rfl) T.m_lprinting F_lprinting.kp b_lprinting .nil pass0 (pa_cons (pv 1) (pa_cons pe_int pa_nil))))
  (pss_cons (ps_if (PW.pt (pw_or (pt_not (pt_val (pe_call G_is_printing hr (by rfl) T.m_is_printing F_is_printing.kp b_is_printing .nil pass0 (pa_cons (pv 2) pa_nil)))) (pw_or1 (pt_not (pt_val (pe_call G_is_printing hr (by rfl) T.m_is_printing F_is_printing.kp b_is_printing .nil pass0 (pa_cons (pv 3) pa_nil)))))))
  (pss_one (ps_ret pe_bl))
  pss_nil)
  (pss_cons (ps_asg (pe_call G_printed hr (by rfl) T.m_printed F_printed.kp b_printed .nil pass0 (pa_cons (pv 2) pa_nil)) (pg_tup rfl (pgs_cons (pg_name (i := 4) sc_law.nd rfl (.inl rfl)) (pgs_cons (pg_name (i := 5) sc_law.nd rfl (.inl rfl)) (pgs_cons (pg_name (i := 6) sc_law.nd rfl (.inl rfl)) pgs_nil)))))
  (pss_cons (ps_set (i := 7) sc_law.nd rfl (.inl rfl) (pe_lst pa_nil))
  (pss_cons (ps_for PassesOwn.never rfl (pi_list (pe_call G_lall_seats hr (by rfl) T.m_lall_seats F_lall_seats.kp b_lall_seats .nil pass0 (pa_cons (pv 2) pa_nil))) (pg_name (i := 8) sc_law.nd rfl (.inl rfl))
  (pss_cons (ps_set (i := 9) sc_law.nd rfl (.inl rfl) (pe_call G_number_at hr (by rfl) T.m_number_at F_number_at.kp b_number_at .nil pass0 (pa_cons (pv 2) (pa_cons (pe_ix ix_tup (pv 8) pe_int (fun _ _ => rfl)) (pa_cons (pe_ix ix_tup (pv 8) pe_int (fun _ _ => rfl)) (pa_cons (pe_ix ix_tup (pv 8) pe_int (fun _ _ => rfl)) pa_nil))))))
  (pss_cons (ps_if (pt_cmpR (op_neP hr) (pe_call G_seat_of hr (by rfl) T.m_seat_of F_seat_of.kp b_seat_of .nil pass0 (pa_cons (pv 2) (pa_cons (pv 9) pa_nil))) (pv 8) (nomark _))
  (pss_one (ps_ret pe_bl))
  pss_nil)
  (pss_one (ps_expr (pe_bm PySem.F.plainAttrs_list PySem.F.slot_list_append PySem.F.type_list_append mt_append (pv 7) (pa_cons (pv 9) pa_nil)))))))
  (pss_cons (ps_if (PW.pt (pw_or (pt_cmpR (op_neP hr) (pe_callB cr_sortedI (by rfl) T.sorted (by decide +kernel) (pa_cons (pv 7) pa_nil)) (pe_listRg (by rfl) (by rfl) T.list (prg_2 (by rfl) T.range (pv 5) (pv 6))) (nomark _)) (pw_or1 (pt_not (pt_val (pe_call G_lsheets hr (by rfl) T.m_lsheets F_lsheets.kp b_lsheets .nil pass0 (pa_cons (pv 2) pa_nil)))))))
  (pss_one (ps_ret pe_bl))
  pss_nil)
  (pss_cons (ps_if (PW.pt (pw_or (pt_not (pt_val (pe_call G_lpiles hr (by rfl) T.m_lpiles F_lpiles.kp b_lpiles .nil pass0 (pa_cons (pv 2) pa_nil)))) (pw_or1 (pt_not (pt_val (pe_call G_lfar hr (by rfl) T.m_lfar F_lfar.kp b_lfar .nil pass0 (pa_cons (pv 1) (pa_cons (pv 3) pa_nil))))))))
  (pss_one (ps_ret pe_bl))
  pss_nil)
  (pss_one (ps_ret (pe_and (pe_call G_lstack hr (by rfl) T.m_lstack F_lstack.kp b_lstack .nil pass0 (pa_cons (pv 2) (pa_cons pe_str pa_nil))) (pe_one (pe_call G_lstack hr (by rfl) T.m_lstack F_lstack.kp b_lstack .nil pass0 (pa_cons (pv 2) (pa_cons pe_str pa_nil)))))))))))))))), ?_⟩
  have hO : H P_is_order = some (TabO P_is_order) := ht _ List.mem_cons_self
  have hW : H P_is_word = some (TabO P_is_word) := ht _ (List.mem_cons_of_mem _ List.mem_cons_self)
  have hM : H P_many_in = some (TabO P_many_in) := ht _ (List.mem_cons_of_mem _ (List.mem_cons_of_mem _ List.mem_cons_self))
  refine ⟨_, rfl, a0, ns, rfl, hs, fun f c H1 nf S1 hf => ?_⟩
  refine ⟨_, rfl, f, c, 0, 1, rfl, hf, by decide, .inr rfl, fun a p H2 hf2 b2 hp ok sm wd => ?_⟩
  have sm : p.small := sm rfl
  refine ⟨_, rfl, f, c, _, 0, rfl, hf2, by decide, .inl rfl, fun b p' H3 hf3 b3 hp' ok' _ wd' => ?_⟩
  have hp3 := hp.but hf2 b3
  have tb : ∀ {P0 : Addr}, H P0 = some (TabO P0) → H3 P0 = some (TabO P0) := fun {P0} h => tab_but hf2 b3 (tab_but hf b2 (S1 _ _ h))
  replace hO := tb hO
  replace hW := tb hW
  replace hM := tb hM
  refine ⟨_, rfl, a, p, rfl, hp3, ok, wd, hO, hW, fun H4 S4 => ?_⟩
  refine ⟨true, rfl, iteF ?_⟩
  refine ⟨_, rfl, b, p', rfl, hp'.same S4, ok', wd', S4 _ _ hO, S4 _ _ hW, fun H5 S5 => ?_⟩
  refine ⟨true, rfl, ?_⟩
  have S35 := S4.trans S5
  refine ⟨_, rfl, a, p, rfl, hp3.same S35, ok, fun t6 H6 S6 n6 h6 => ?_⟩
  refine ⟨t6, _, rfl, SqT.of h6, rfl, _, _, rfl, _, _, rfl, _, _, rfl, rfl, ?_⟩
  have S36 := S35.trans S6
  refine ⟨(show 0 ≤ sizeLine by decide), fun F hF => ?_⟩
  have NF := same_new hF (.lst [])
  have S3F := S36.trans NF
  have hF0 := S36.free hF
  refine ⟨_, rfl, a, p, rfl, hp3.same S3F, ok, sm, fun l ps H7 S7 hl se => ?_⟩
  have S37 := S3F.trans S7
  have hF7 := S7 _ _ (show upd H6 F (.lst []) F = some (.lst []) from upd_same)
  have lF : l ≠ F := fun z => by
    subst z
    have e : (.lst (ps.map V.ref) : HO) = .lst [] := Option.some.inj (hl.symm.trans hF7)
    have e2 : ps.length = 0 := by
      have z := congrArg List.length (HO.lst.inj e)
      rw [List.length_map] at z
      exact z
    have z := se.len
    rw [e2] at z
    exact allS_ne ok (List.length_eq_zero_iff.mp z.symm)
  have few : (allS p p.sheets.toNat).length ≤ 96 := by
    rw [allS_len]
    obtain ⟨s1, s2, s3⟩ := sm
    have c1 := ok.c1; have r1 := ok.r1; have s1' := ok.s1
    exact Nat.mul_le_mul (show p.sheets.toNat ≤ 6 by omega) (Nat.mul_le_mul (show p.rows.toNat ≤ 4 by omega) (show p.cols.toNat ≤ 4 by omega))
  have pe : p.end = p.first + p.cols * p.rows * p.sheets := rfl
  refine ⟨l, rfl, ⟨_, SqL.of hl⟩, ?_⟩
  refine for_list (K := K) (a := l) (xs := ps.map V.ref) (fun i σ H' => ∃ (v8 v9 : Option V), σ = [some (.ref a0), some (.ref f), some (.ref a), some (.ref b), some (.str p.series), some (.int p.first), some (.int p.end), some (.ref F), v8, v9] ∧ Same H3 H' ∧ H' l = some (.lst (ps.map V.ref)) ∧ Ses H' ps (allS p p.sheets.toNat) ∧ H' F = some (.lst ((((allS p p.sheets.toNat).take i).map (numE p)).map V.int))) ⟨none, none, rfl, S37, hl, se, hF7⟩ (fun i σ H' _ h => by obtain ⟨_, _, _, _, h, _⟩ := h; exact SqL.of h) ?_ ?_
  · rintro i x σ H8 hx ⟨v8, v9, rfl, S8, hl8, se8, hF8⟩
    obtain ⟨u, hu, rfl⟩ : ∃ u, ps[i]? = some u ∧ x = V.ref u := by
      rw [List.getElem?_map] at hx
      cases e' : ps[i]? with
      | none => rw [e'] at hx; cases hx
      | some p => rw [e'] at hx; exact ⟨p, rfl, (Option.some.inj hx).symm⟩
    obtain ⟨e, he, he2⟩ := Ses.get se8 hu
    obtain ⟨hi, ei⟩ := List.getElem?_eq_some_iff.mp he
    have sin := all_in (List.mem_of_getElem? he)
    have rng := at_range ok sin
    have ea : p.at (wOf e) = numE p e := rfl
    rw [ea] at rng
    have ku := SqT.of (K := K) he2
    refine ⟨_, rfl, _, rfl, u, _, _, _, rfl, rfl, ku, rfl, _, rfl, u, _, _, _, rfl, rfl, ku, rfl, _, rfl, u, _, _, _, rfl, rfl, ku, rfl, a, p, e.1, e.2.1, e.2.2, rfl, hp3.same S8, ok, fun H9 S9 => ?_⟩
    have S39 := S8.trans S9
    refine ⟨_, rfl, _, rfl, a, p, numE p e, rfl, hp3.same S39, ok, by omega, by omega, fun ff t10 H10 hin hat S10 h10 => ?_⟩
    have fe : ff = wOf e := at_inj ok hin sin hat
    have see : seOf ff = e := by
      rw [fe]
      rfl
    rw [see] at h10
    have S910 := S9.trans S10
    refine ⟨_, rfl, .tuple [.int e.1, .int e.2.1, .int e.2.2], .tuple [.int e.1, .int e.2.1, .int e.2.2], .tup (SqT.of h10) (.cons (.int _) (.cons (.int _) (.cons (.int _) .nil))), .tup (SqT.of (S910 _ _ he2)) (.cons (.int _) (.cons (.int _) (.cons (.int _) .nil))), rfl, rfl, by simp [PyData.depth, PyData.depthAll], _, rfl, ?_⟩
    have eq : PyData.eqv (.tuple [.int e.1, .int e.2.1, .int e.2.2]) (.tuple [.int e.1, .int e.2.1, .int e.2.2]) = true := by simp [PyData.eqv, PyData.eqvAll]
    rw [eq]
    refine iteF ?_
    have hF10 := S910 _ _ hF8
    refine ⟨_, rfl, .inl ⟨rfl, _, SqL.of hF10⟩, _, rfl, F, _, _, rfl, rfl, hF10, ?_, _, _, rfl, same_mut (S8.trans S910) hF0, ?_, ?_, ?_⟩
    · rw [List.length_map, List.length_map]
      exact Nat.lt_of_le_of_lt (Nat.le_trans (List.length_take_le' _ _) few) (by decide)
    · rw [upd_ne lF]
      exact S910 _ _ hl8
    · refine Ses.keep (fun x o no ex => ?_) (se8.same S910)
      rw [upd_ne (ne_of ex hF10 (no _))]
      exact ex
    · rw [upd_same, List.take_succ_eq_append_getElem hi, ei, List.map_append, List.map_append]
      rfl
  rintro σ H8 ⟨v8, v9, rfl, S8, hl8, se8, hF8⟩
  rw [List.length_map, se8.len, List.take_length] at hF8
  obtain ⟨_, mi⟩ := many_toNat ok
  have m96 := small_many2 ok sm
  have f0 := ok.f0
  have mo := ok.most
  have me : p.cols * p.rows * p.sheets = p.many := rfl
  refine ⟨_, rfl, F, _, rfl, SqL.of hF8, fun ms m pm sr nm => ?_⟩
  have ems : ms = loN p.first p.many.toNat := List.Perm.eq_of_pairwise (le := fun x y => x ≤ y) (fun x y _ _ => Int.le_antisymm) sr (loN_up _ _) (pm.trans (allS_perm ok))
  subst ems
  have N9 := same_new nm (.lst ((loN p.first p.many.toNat).map V.int))
  have h9 : upd H8 m (.lst ((loN p.first p.many.toNat).map V.int)) m = some (.lst ((loN p.first p.many.toNat).map V.int)) := upd_same
  have S9 := S8.trans N9
  generalize upd H8 m (.lst ((loN p.first p.many.toNat).map V.int)) = H9 at *
  refine ⟨_, rfl, _, rfl, _, _, rfl, rfl, ⟨by omega, by omega, by omega, by omega, by omega⟩, fun q2 nq2 => ?_⟩
  have N7 := same_new nq2 (.lst (rgV p.first p.end))
  have eR : rgV p.first p.end = (loN p.first p.many.toNat).map V.int := by
    rw [rgV_is, show p.end - p.first = p.many by omega]
  refine ⟨intsW _, intsW (loN p.first p.many.toNat), ints_dpW (SqL.of (N7 _ _ h9)), ints_dpW (SqL.of (by rw [upd_same, eR])), ints_plainW _, ints_plainW _, ints_depW _, _, rfl, ?_⟩
  rw [ints_eqvW, decide_eq_true rfl]
  refine iteF ?_
  have S10 := S9.trans N7
  generalize upd H9 q2 (.lst (rgV p.first p.end)) = H10 at *
  refine ⟨_, rfl, a, p, rfl, hp3.same S10, ok, sm, S10 _ _ hM, fun H11 S11 => ?_⟩
  refine ⟨true, rfl, ?_⟩
  have S311 := S10.trans S11
  refine ⟨_, rfl, a, p, rfl, hp3.same S311, ok, sm, fun H12 S12 => ?_⟩
  refine ⟨true, rfl, iteF ?_⟩
  have S312 := S311.trans S12
  refine ⟨_, rfl, _, rfl, f, c, b, p', _, rfl, hf3.same S312, by decide, hp'.same S312, ok', S312 _ _ hM, fun H13 hf13 b13 => ?_⟩
  refine ⟨true, rfl, ?_⟩
  have hp13 := (hp3.same S312).but (hf3.same S312) b13
  refine ⟨_, rfl, a, p, .rows, rfl, hp13, ok, sm, fun H14 S14 => ?_⟩
  refine ⟨_, rfl, iteT ?_⟩
  refine ⟨_, rfl, a, p, .cols, rfl, hp13.same S14, ok, sm, fun H15 S15 => ?_⟩
  refine q _ fun t ht => ?_
  have go : ∀ {P0 : Addr}, H3 P0 = some (TabO P0) → H15 P0 = some (TabO P0) := fun {P0} h => (S14.trans S15) _ _ (tab_but (hf3.same S312) b13 (S312 _ _ h))
  simp only [List.mem_cons, List.not_mem_nil, or_false] at ht
  rcases ht with rfl | rfl | rfl
  · exact go hO
  · exact go hW
  · exact go hM

end
def e_is_number : He.DefD := ⟨("is_number", none), "is_number", "is_number", defArgs s_is_number, defBody s_is_number, defScope s_is_number, [], []⟩
def e_is_from_to : He.DefD := ⟨("is_from_to", none), "is_from_to", "is_from_to", defArgs s_is_from_to, defBody s_is_from_to, defScope s_is_from_to, [], []⟩
def e_is_word : He.DefD := ⟨("is_word", none), "is_word", "is_word", defArgs s_is_word, defBody s_is_word, defScope s_is_word, [], []⟩
def e_is_tuple_of : He.DefD := ⟨("is_tuple_of", none), "is_tuple_of", "is_tuple_of", defArgs s_is_tuple_of, defBody s_is_tuple_of, defScope s_is_tuple_of, [], []⟩
def e_is_apart : He.DefD := ⟨("is_apart", none), "is_apart", "is_apart", defArgs s_is_apart, defBody s_is_apart, defScope s_is_apart, [], []⟩
def e_runs_of : He.DefD := ⟨("runs_of", none), "runs_of", "runs_of", defArgs s_runs_of, defBody s_runs_of, defScope s_runs_of, [], []⟩
def e_many_in : He.DefD := ⟨("many_in", none), "many_in", "many_in", defArgs s_many_in, defBody s_many_in, defScope s_many_in, [], []⟩
def e_is_order : He.DefD := ⟨("is_order", none), "is_order", "is_order", defArgs s_is_order, defBody s_is_order, defScope s_is_order, [], []⟩
def e_is_printing : He.DefD := ⟨("is_printing", none), "is_printing", "is_printing", defArgs s_is_printing, defBody s_is_printing, defScope s_is_printing, [], []⟩
def e_how_many : He.DefD := ⟨("how_many", none), "how_many", "how_many", defArgs s_how_many, defBody s_how_many, defScope s_how_many, [], []⟩
def e_printed : He.DefD := ⟨("printed", none), "printed", "printed", defArgs s_printed, defBody s_printed, defScope s_printed, [], []⟩
def e_number_at : He.DefD := ⟨("number_at", none), "number_at", "number_at", defArgs s_number_at, defBody s_number_at, defScope s_number_at, [], []⟩
def e_seat_of : He.DefD := ⟨("seat_of", none), "seat_of", "seat_of", defArgs s_seat_of, defBody s_seat_of, defScope s_seat_of, [], []⟩
def e_numbers_on : He.DefD := ⟨("numbers_on", none), "numbers_on", "numbers_on", defArgs s_numbers_on, defBody s_numbers_on, defScope s_numbers_on, [], []⟩
def e_runs_of_numbers : He.DefD := ⟨("runs_of_numbers", none), "runs_of_numbers", "runs_of_numbers", defArgs s_runs_of_numbers, defBody s_runs_of_numbers, defScope s_runs_of_numbers, [], []⟩
def e_sheet_runs : He.DefD := ⟨("sheet_runs", none), "sheet_runs", "sheet_runs", defArgs s_sheet_runs, defBody s_sheet_runs, defScope s_sheet_runs, [], []⟩
def e_pile : He.DefD := ⟨("pile", none), "pile", "pile", defArgs s_pile, defBody s_pile, defScope s_pile, [], []⟩
def e_together : He.DefD := ⟨("together", none), "together", "together", defArgs s_together, defBody s_together, defScope s_together, [], []⟩
def e_both : He.DefD := ⟨("both", none), "both", "both", defArgs s_both, defBody s_both, defScope s_both, [], []⟩
def e_pile_seat : He.DefD := ⟨("pile_seat", none), "pile_seat", "pile_seat", defArgs s_pile_seat, defBody s_pile_seat, defScope s_pile_seat, [], []⟩
def e_pile_place : He.DefD := ⟨("pile_place", none), "pile_place", "pile_place", defArgs s_pile_place, defBody s_pile_place, defScope s_pile_place, [], []⟩
def e_stack_at : He.DefD := ⟨("stack_at", none), "stack_at", "stack_at", defArgs s_stack_at, defBody s_stack_at, defScope s_stack_at, [], []⟩
def e_stack_place : He.DefD := ⟨("stack_place", none), "stack_place", "stack_place", defArgs s_stack_place, defBody s_stack_place, defScope s_stack_place, [], []⟩
def e_is_rising : He.DefD := ⟨("is_rising", none), "is_rising", "is_rising", defArgs s_is_rising, defBody s_is_rising, defScope s_is_rising, [], []⟩
def e_spoilt_by : He.DefD := ⟨("spoilt_by", none), "spoilt_by", "spoilt_by", defArgs s_spoilt_by, defBody s_spoilt_by, defScope s_spoilt_by, [], []⟩
def e_lfeed : He.DefD := ⟨("_law_feed", none), "_law_feed", "_law_feed", defArgs s_lfeed, defBody s_lfeed, defScope s_lfeed, [], []⟩
def e_ldraw : He.DefD := ⟨("_law_draw", none), "_law_draw", "_law_draw", defArgs s_ldraw, defBody s_ldraw, defScope s_ldraw, [], []⟩
def e_lorder : He.DefD := ⟨("_law_order", none), "_law_order", "_law_order", defArgs s_lorder, defBody s_lorder, defScope s_lorder, [], []⟩
def e_lprinting : He.DefD := ⟨("_law_printing", none), "_law_printing", "_law_printing", defArgs s_lprinting, defBody s_lprinting, defScope s_lprinting, [], []⟩
def e_lall_seats : He.DefD := ⟨("_law_all_seats", none), "_law_all_seats", "_law_all_seats", defArgs s_lall_seats, defBody s_lall_seats, defScope s_lall_seats, [], []⟩
def e_lsheets : He.DefD := ⟨("_law_sheets", none), "_law_sheets", "_law_sheets", defArgs s_lsheets, defBody s_lsheets, defScope s_lsheets, [], []⟩
def e_lstack : He.DefD := ⟨("_law_stack", none), "_law_stack", "_law_stack", defArgs s_lstack, defBody s_lstack, defScope s_lstack, [], []⟩
def e_lpiles : He.DefD := ⟨("_law_piles", none), "_law_piles", "_law_piles", defArgs s_lpiles, defBody s_lpiles, defScope s_lpiles, [], []⟩
def e_lfar : He.DefD := ⟨("_law_far", none), "_law_far", "_law_far", defArgs s_lfar, defBody s_lfar, defScope s_lfar, [], []⟩
def e_law : He.DefD := ⟨("law", none), "law", "law", defArgs s_law, defBody s_law, defScope s_law, [], []⟩
def fn : List He.DefD := [e_is_number, e_is_from_to, e_is_word, e_is_tuple_of, e_is_apart, e_runs_of, e_many_in, e_is_order, e_is_printing, e_how_many, e_printed, e_number_at, e_seat_of, e_numbers_on, e_runs_of_numbers, e_sheet_runs, e_pile, e_together, e_both, e_pile_seat, e_pile_place, e_stack_at, e_stack_place, e_is_rising, e_spoilt_by, e_lfeed, e_ldraw, e_lorder, e_lprinting, e_lall_seats, e_lsheets, e_lstack, e_lpiles, e_lfar, e_law]
def fa : List He.Fa := [.glo "is_number", .glo "is_from_to", .glo "is_word", .glo "is_tuple_of", .glo "is_apart", .glo "runs_of", .glo "many_in", .glo "is_order", .glo "is_printing", .glo "how_many", .glo "printed", .glo "number_at", .glo "seat_of", .glo "numbers_on", .glo "runs_of_numbers", .glo "sheet_runs", .glo "pile", .glo "together", .glo "both", .glo "pile_seat", .glo "pile_place", .glo "stack_at", .glo "stack_place", .glo "is_rising", .glo "spoilt_by", .glo "_law_feed", .glo "_law_draw", .glo "_law_order", .glo "_law_printing", .glo "_law_all_seats", .glo "_law_sheets", .glo "_law_stack", .glo "_law_piles", .glo "_law_far", .glo "law", .free "len", .free "range", .free "sorted", .free "tuple", .free "list", .free "isinstance", .free "all", .free "max", .free "min", .free "int", .free "bool", .free "str", .free "sum", .free "divmod", .int "NUMBERS" 1000000000, .glo "WORDS"]
abbrev R : PySem.W.OpenRow := PySem.W.OpenLaw.row PySem.Challenge.rw_pressnotes_k10_whole_printing_each_once
def tf : List He.Defn := [("is_order", none), ("is_word", none), ("many_in", none)]
def exB (K : PySem.W.Frag) : Bool := tupB K "WORDS" ["sheet", "row", "column"]
abbrev hk : PySem.W.Hook := He.hookX 6 fa fn [] tf exB
def ob (s : PySem.W.SharedT) : He.AlX := He.obsX 6 fa fn [] tf exB (HandSHeadRun.getT s)
theorem ob_eq (s : PySem.W.SharedT) : ob s = hk.obs s.abs := He.obsX_eq (HandSHeadRun.getT_eq s)
def loose : List Str := [("NoteError" : PySem.Str), ("NoNumber" : PySem.Str), ("is_number" : PySem.Str), ("is_from_to" : PySem.Str), ("is_word" : PySem.Str), ("is_tuple_of" : PySem.Str), ("is_apart" : PySem.Str), ("runs_of" : PySem.Str), ("many_in" : PySem.Str), ("is_order" : PySem.Str), ("is_printing" : PySem.Str), ("how_many" : PySem.Str), ("printed" : PySem.Str), ("number_at" : PySem.Str), ("seat_of" : PySem.Str), ("numbers_on" : PySem.Str), ("runs_of_numbers" : PySem.Str), ("sheet_runs" : PySem.Str), ("pile" : PySem.Str), ("together" : PySem.Str), ("both" : PySem.Str), ("pile_seat" : PySem.Str), ("pile_place" : PySem.Str), ("stack_at" : PySem.Str), ("stack_place" : PySem.Str), ("is_rising" : PySem.Str), ("spoilt_by" : PySem.Str), ("_law_feed" : PySem.Str), ("_law_draw" : PySem.Str), ("_law_order" : PySem.Str), ("_law_printing" : PySem.Str), ("_law_all_seats" : PySem.Str), ("_law_sheets" : PySem.Str), ("_law_stack" : PySem.Str), ("_law_piles" : PySem.Str), ("_law_far" : PySem.Str), ("NUMBERS" : PySem.Str), ("WORDS" : PySem.Str)]
theorem run (w : World) : HandSHeadRun.RunEq R (PySem.W.view R.prog [45]) hk ob 12000 [("NoteError" : PySem.Str), ("NoNumber" : PySem.Str), ("is_number" : PySem.Str), ("is_from_to" : PySem.Str), ("is_word" : PySem.Str), ("is_tuple_of" : PySem.Str), ("is_apart" : PySem.Str), ("runs_of" : PySem.Str), ("many_in" : PySem.Str), ("is_order" : PySem.Str), ("is_printing" : PySem.Str), ("how_many" : PySem.Str), ("printed" : PySem.Str), ("number_at" : PySem.Str), ("seat_of" : PySem.Str), ("numbers_on" : PySem.Str), ("runs_of_numbers" : PySem.Str), ("sheet_runs" : PySem.Str), ("pile" : PySem.Str), ("together" : PySem.Str), ("both" : PySem.Str), ("pile_seat" : PySem.Str), ("pile_place" : PySem.Str), ("stack_at" : PySem.Str), ("stack_place" : PySem.Str), ("is_rising" : PySem.Str), ("spoilt_by" : PySem.Str), ("_law_feed" : PySem.Str), ("_law_draw" : PySem.Str), ("_law_order" : PySem.Str), ("_law_printing" : PySem.Str), ("_law_all_seats" : PySem.Str), ("_law_sheets" : PySem.Str), ("_law_stack" : PySem.Str), ("_law_piles" : PySem.Str), ("_law_far" : PySem.Str), ("NUMBERS" : PySem.Str), ("WORDS" : PySem.Str)] w := by
  intro os
  kernel_rfl
theorem toFun {K : PySem.W.Frag} {x : Str} {st : Stmt} {f : Addr} {fd : FuncData} (F : FunD K x x (defArgs st) (defBody st) (defScope st) [] [] f fd) : Fun K x x st f fd := by
  obtain ⟨oc, od, dV, kV, doc, pm, an, cdv, ct, osl, e, lk, hcd, hd, hk⟩ := F.ex
  have z : dV = .none := by
    rcases hd with h | h
    · exact h.2
    · exact absurd rfl h.1
  subst z
  exact ⟨⟨oc, od, kV, doc, pm, an, cdv, ct, osl, e, lk, hcd⟩, F.kp⟩
theorem facts {w : World} {K : PySem.W.Frag} {h : Heap} {mg : Str → Option Value} {f : Addr} (X : K.In h) (G : h.Ns mainGlobals mg) (hfa : mg ("law" : Str) = some (.ref f)) (c : He.SaysD fa fn K) (tp_WORDS : TupK K "WORDS" ["sheet", "row", "column"]) :
    ∃ fd : FuncData, (∀ (s : Shared) (v : Value), BindsTo s fd ⟨[v], []⟩ [("_law_script", v)]) ∧ ∀ base : Heap, K.In base → base.Ns mainGlobals mg → (∀ p ∈ tf.map (He.cT K), GxR.TabB base mg p.1 p.2) → FnG (PySem.Challenge.rw_pressnotes_k10_whole_printing_each_once).prog w K mg base 8 f fd ["_law_script"] (spLawT K ((tf.map (He.cT K)).map (·.2))) := by
  obtain ⟨d_is_number, F0_is_number⟩ := c.def_ 0 (d := e_is_number) rfl
  have F_is_number := toFun (st := s_is_number) F0_is_number
  obtain ⟨d_is_from_to, F0_is_from_to⟩ := c.def_ 1 (d := e_is_from_to) rfl
  have F_is_from_to := toFun (st := s_is_from_to) F0_is_from_to
  obtain ⟨d_is_word, F0_is_word⟩ := c.def_ 2 (d := e_is_word) rfl
  have F_is_word := toFun (st := s_is_word) F0_is_word
  obtain ⟨d_is_tuple_of, F0_is_tuple_of⟩ := c.def_ 3 (d := e_is_tuple_of) rfl
  have F_is_tuple_of := toFun (st := s_is_tuple_of) F0_is_tuple_of
  obtain ⟨d_is_apart, F0_is_apart⟩ := c.def_ 4 (d := e_is_apart) rfl
  have F_is_apart := toFun (st := s_is_apart) F0_is_apart
  obtain ⟨d_runs_of, F0_runs_of⟩ := c.def_ 5 (d := e_runs_of) rfl
  have F_runs_of := toFun (st := s_runs_of) F0_runs_of
  obtain ⟨d_many_in, F0_many_in⟩ := c.def_ 6 (d := e_many_in) rfl
  have F_many_in := toFun (st := s_many_in) F0_many_in
  obtain ⟨d_is_order, F0_is_order⟩ := c.def_ 7 (d := e_is_order) rfl
  have F_is_order := toFun (st := s_is_order) F0_is_order
  obtain ⟨d_is_printing, F0_is_printing⟩ := c.def_ 8 (d := e_is_printing) rfl
  have F_is_printing := toFun (st := s_is_printing) F0_is_printing
  obtain ⟨d_how_many, F0_how_many⟩ := c.def_ 9 (d := e_how_many) rfl
  have F_how_many := toFun (st := s_how_many) F0_how_many
  obtain ⟨d_printed, F0_printed⟩ := c.def_ 10 (d := e_printed) rfl
  have F_printed := toFun (st := s_printed) F0_printed
  obtain ⟨d_number_at, F0_number_at⟩ := c.def_ 11 (d := e_number_at) rfl
  have F_number_at := toFun (st := s_number_at) F0_number_at
  obtain ⟨d_seat_of, F0_seat_of⟩ := c.def_ 12 (d := e_seat_of) rfl
  have F_seat_of := toFun (st := s_seat_of) F0_seat_of
  obtain ⟨d_numbers_on, F0_numbers_on⟩ := c.def_ 13 (d := e_numbers_on) rfl
  have F_numbers_on := toFun (st := s_numbers_on) F0_numbers_on
  obtain ⟨d_runs_of_numbers, F0_runs_of_numbers⟩ := c.def_ 14 (d := e_runs_of_numbers) rfl
  have F_runs_of_numbers := toFun (st := s_runs_of_numbers) F0_runs_of_numbers
  obtain ⟨d_sheet_runs, F0_sheet_runs⟩ := c.def_ 15 (d := e_sheet_runs) rfl
  have F_sheet_runs := toFun (st := s_sheet_runs) F0_sheet_runs
  obtain ⟨d_pile, F0_pile⟩ := c.def_ 16 (d := e_pile) rfl
  have F_pile := toFun (st := s_pile) F0_pile
  obtain ⟨d_together, F0_together⟩ := c.def_ 17 (d := e_together) rfl
  have F_together := toFun (st := s_together) F0_together
  obtain ⟨d_both, F0_both⟩ := c.def_ 18 (d := e_both) rfl
  have F_both := toFun (st := s_both) F0_both
  obtain ⟨d_pile_seat, F0_pile_seat⟩ := c.def_ 19 (d := e_pile_seat) rfl
  have F_pile_seat := toFun (st := s_pile_seat) F0_pile_seat
  obtain ⟨d_pile_place, F0_pile_place⟩ := c.def_ 20 (d := e_pile_place) rfl
  have F_pile_place := toFun (st := s_pile_place) F0_pile_place
  obtain ⟨d_stack_at, F0_stack_at⟩ := c.def_ 21 (d := e_stack_at) rfl
  have F_stack_at := toFun (st := s_stack_at) F0_stack_at
  obtain ⟨d_stack_place, F0_stack_place⟩ := c.def_ 22 (d := e_stack_place) rfl
  have F_stack_place := toFun (st := s_stack_place) F0_stack_place
  obtain ⟨d_is_rising, F0_is_rising⟩ := c.def_ 23 (d := e_is_rising) rfl
  have F_is_rising := toFun (st := s_is_rising) F0_is_rising
  obtain ⟨d_spoilt_by, F0_spoilt_by⟩ := c.def_ 24 (d := e_spoilt_by) rfl
  have F_spoilt_by := toFun (st := s_spoilt_by) F0_spoilt_by
  obtain ⟨d_lfeed, F0_lfeed⟩ := c.def_ 25 (d := e_lfeed) rfl
  have F_lfeed := toFun (st := s_lfeed) F0_lfeed
  obtain ⟨d_ldraw, F0_ldraw⟩ := c.def_ 26 (d := e_ldraw) rfl
  have F_ldraw := toFun (st := s_ldraw) F0_ldraw
  obtain ⟨d_lorder, F0_lorder⟩ := c.def_ 27 (d := e_lorder) rfl
  have F_lorder := toFun (st := s_lorder) F0_lorder
  obtain ⟨d_lprinting, F0_lprinting⟩ := c.def_ 28 (d := e_lprinting) rfl
  have F_lprinting := toFun (st := s_lprinting) F0_lprinting
  obtain ⟨d_lall_seats, F0_lall_seats⟩ := c.def_ 29 (d := e_lall_seats) rfl
  have F_lall_seats := toFun (st := s_lall_seats) F0_lall_seats
  obtain ⟨d_lsheets, F0_lsheets⟩ := c.def_ 30 (d := e_lsheets) rfl
  have F_lsheets := toFun (st := s_lsheets) F0_lsheets
  obtain ⟨d_lstack, F0_lstack⟩ := c.def_ 31 (d := e_lstack) rfl
  have F_lstack := toFun (st := s_lstack) F0_lstack
  obtain ⟨d_lpiles, F0_lpiles⟩ := c.def_ 32 (d := e_lpiles) rfl
  have F_lpiles := toFun (st := s_lpiles) F0_lpiles
  obtain ⟨d_lfar, F0_lfar⟩ := c.def_ 33 (d := e_lfar) rfl
  have F_lfar := toFun (st := s_lfar) F0_lfar
  obtain ⟨d_law, F0_law⟩ := c.def_ 34 (d := e_law) rfl
  have F_law := toFun (st := s_law) F0_law
  have T : Txt K mg _ _ _ _ _ _ _ _ _ _ _ _ _ _ _ _ _ _ _ _ _ _ _ _ _ _ _ _ _ _ _ _ _ _ _ := ⟨He.glo_ok X G (c.fact 0 (f := .glo "is_number") rfl), He.glo_ok X G (c.fact 1 (f := .glo "is_from_to") rfl), He.glo_ok X G (c.fact 2 (f := .glo "is_word") rfl), He.glo_ok X G (c.fact 3 (f := .glo "is_tuple_of") rfl), He.glo_ok X G (c.fact 4 (f := .glo "is_apart") rfl), He.glo_ok X G (c.fact 5 (f := .glo "runs_of") rfl), He.glo_ok X G (c.fact 6 (f := .glo "many_in") rfl), He.glo_ok X G (c.fact 7 (f := .glo "is_order") rfl), He.glo_ok X G (c.fact 8 (f := .glo "is_printing") rfl), He.glo_ok X G (c.fact 9 (f := .glo "how_many") rfl), He.glo_ok X G (c.fact 10 (f := .glo "printed") rfl), He.glo_ok X G (c.fact 11 (f := .glo "number_at") rfl), He.glo_ok X G (c.fact 12 (f := .glo "seat_of") rfl), He.glo_ok X G (c.fact 13 (f := .glo "numbers_on") rfl), He.glo_ok X G (c.fact 14 (f := .glo "runs_of_numbers") rfl), He.glo_ok X G (c.fact 15 (f := .glo "sheet_runs") rfl), He.glo_ok X G (c.fact 16 (f := .glo "pile") rfl), He.glo_ok X G (c.fact 17 (f := .glo "together") rfl), He.glo_ok X G (c.fact 18 (f := .glo "both") rfl), He.glo_ok X G (c.fact 19 (f := .glo "pile_seat") rfl), He.glo_ok X G (c.fact 20 (f := .glo "pile_place") rfl), He.glo_ok X G (c.fact 21 (f := .glo "stack_at") rfl), He.glo_ok X G (c.fact 22 (f := .glo "stack_place") rfl), He.glo_ok X G (c.fact 23 (f := .glo "is_rising") rfl), He.glo_ok X G (c.fact 24 (f := .glo "spoilt_by") rfl), He.glo_ok X G (c.fact 25 (f := .glo "_law_feed") rfl), He.glo_ok X G (c.fact 26 (f := .glo "_law_draw") rfl), He.glo_ok X G (c.fact 27 (f := .glo "_law_order") rfl), He.glo_ok X G (c.fact 28 (f := .glo "_law_printing") rfl), He.glo_ok X G (c.fact 29 (f := .glo "_law_all_seats") rfl), He.glo_ok X G (c.fact 30 (f := .glo "_law_sheets") rfl), He.glo_ok X G (c.fact 31 (f := .glo "_law_stack") rfl), He.glo_ok X G (c.fact 32 (f := .glo "_law_piles") rfl), He.glo_ok X G (c.fact 33 (f := .glo "_law_far") rfl), He.glo_ok X G (c.fact 34 (f := .glo "law") rfl), He.free_ok X G (c.fact 35 (f := .free "len") rfl), He.free_ok X G (c.fact 36 (f := .free "range") rfl), He.free_ok X G (c.fact 37 (f := .free "sorted") rfl), He.free_ok X G (c.fact 38 (f := .free "tuple") rfl), He.free_ok X G (c.fact 39 (f := .free "list") rfl), He.free_ok X G (c.fact 40 (f := .free "isinstance") rfl), He.free_ok X G (c.fact 41 (f := .free "all") rfl), He.free_ok X G (c.fact 42 (f := .free "max") rfl), He.free_ok X G (c.fact 43 (f := .free "min") rfl), He.free_ok X G (c.fact 44 (f := .free "int") rfl), He.free_ok X G (c.fact 45 (f := .free "bool") rfl), He.free_ok X G (c.fact 46 (f := .free "str") rfl), He.free_ok X G (c.fact 47 (f := .free "sum") rfl), He.free_ok X G (c.fact 48 (f := .free "divmod") rfl), He.glo_ok X G (c.fact 50 (f := .glo "WORDS") rfl), tp_WORDS, He.int_ok X G (c.fact 49 (f := .int "NUMBERS" 1000000000) rfl)⟩
  have el := hfa.symm.trans T.m_law
  cases el
  have b_is_number := F_is_number.binds (ps := ["thing"]) fun _ _ _ _ _ _ us hl => match us, hl with | [_], _ => rfl
  have b_is_from_to := F_is_from_to.binds (ps := ["thing", "least", "most"]) fun _ _ _ _ _ _ us hl => match us, hl with | [_, _, _], _ => rfl
  have b_is_word := F_is_word.binds (ps := ["thing"]) fun _ _ _ _ _ _ us hl => match us, hl with | [_], _ => rfl
  have b_is_tuple_of := F_is_tuple_of.binds (ps := ["thing", "many"]) fun _ _ _ _ _ _ us hl => match us, hl with | [_, _], _ => rfl
  have b_is_apart := F_is_apart.binds (ps := ["run", "later"]) fun _ _ _ _ _ _ us hl => match us, hl with | [_, _], _ => rfl
  have b_runs_of := F_runs_of.binds (ps := ["some"]) fun _ _ _ _ _ _ us hl => match us, hl with | [_], _ => rfl
  have b_many_in := F_many_in.binds (ps := ["runs"]) fun _ _ _ _ _ _ us hl => match us, hl with | [_], _ => rfl
  have b_is_order := F_is_order.binds (ps := ["thing"]) fun _ _ _ _ _ _ us hl => match us, hl with | [_], _ => rfl
  have b_is_printing := F_is_printing.binds (ps := ["thing"]) fun _ _ _ _ _ _ us hl => match us, hl with | [_], _ => rfl
  have b_how_many := F_how_many.binds (ps := ["printing"]) fun _ _ _ _ _ _ us hl => match us, hl with | [_], _ => rfl
  have b_printed := F_printed.binds (ps := ["printing"]) fun _ _ _ _ _ _ us hl => match us, hl with | [_], _ => rfl
  have b_number_at := F_number_at.binds (ps := ["printing", "sheet", "row", "column"]) fun _ _ _ _ _ _ us hl => match us, hl with | [_, _, _, _], _ => rfl
  have b_seat_of := F_seat_of.binds (ps := ["printing", "number"]) fun _ _ _ _ _ _ us hl => match us, hl with | [_, _], _ => rfl
  have b_numbers_on := F_numbers_on.binds (ps := ["printing", "sheet"]) fun _ _ _ _ _ _ us hl => match us, hl with | [_, _], _ => rfl
  have b_runs_of_numbers := F_runs_of_numbers.binds (ps := ["printing", "numbers"]) fun _ _ _ _ _ _ us hl => match us, hl with | [_, _], _ => rfl
  have b_sheet_runs := F_sheet_runs.binds (ps := ["printing", "sheet"]) fun _ _ _ _ _ _ us hl => match us, hl with | [_, _], _ => rfl
  have b_pile := F_pile.binds (ps := ["printing", "row", "column"]) fun _ _ _ _ _ _ us hl => match us, hl with | [_, _, _], _ => rfl
  have b_together := F_together.binds (ps := ["one", "other"]) fun _ _ _ _ _ _ us hl => match us, hl with | [_, _], _ => rfl
  have b_both := F_both.binds (ps := ["one", "other"]) fun _ _ _ _ _ _ us hl => match us, hl with | [_, _], _ => rfl
  have b_pile_seat := F_pile_seat.binds (ps := ["printing", "way", "at"]) fun _ _ _ _ _ _ us hl => match us, hl with | [_, _, _], _ => rfl
  have b_pile_place := F_pile_place.binds (ps := ["printing", "way", "row", "column"]) fun _ _ _ _ _ _ us hl => match us, hl with | [_, _, _, _], _ => rfl
  have b_stack_at := F_stack_at.binds (ps := ["printing", "way", "k"]) fun _ _ _ _ _ _ us hl => match us, hl with | [_, _, _], _ => rfl
  have b_stack_place := F_stack_place.binds (ps := ["printing", "way", "number"]) fun _ _ _ _ _ _ us hl => match us, hl with | [_, _, _], _ => rfl
  have b_is_rising := F_is_rising.binds (ps := ["printing", "way"]) fun _ _ _ _ _ _ us hl => match us, hl with | [_, _], _ => rfl
  have b_spoilt_by := F_spoilt_by.binds (ps := ["printing", "sheets", "seats"]) fun _ _ _ _ _ _ us hl => match us, hl with | [_, _, _], _ => rfl
  have b_lfeed := F_lfeed.binds (ps := ["_law_script"]) fun _ _ _ _ _ _ us hl => match us, hl with | [_], _ => rfl
  have b_ldraw := F_ldraw.binds (ps := ["_law_feed_here", "_law_many"]) fun _ _ _ _ _ _ us hl => match us, hl with | [_, _], _ => rfl
  have b_lorder := F_lorder.binds (ps := ["_law_feed_here"]) fun _ _ _ _ _ _ us hl => match us, hl with | [_], _ => rfl
  have b_lprinting := F_lprinting.binds (ps := ["_law_feed_here", "_law_small"]) fun _ _ _ _ _ _ us hl => match us, hl with | [_, _], _ => rfl
  have b_lall_seats := F_lall_seats.binds (ps := ["_law_printing_here"]) fun _ _ _ _ _ _ us hl => match us, hl with | [_], _ => rfl
  have b_lsheets := F_lsheets.binds (ps := ["_law_printing_here"]) fun _ _ _ _ _ _ us hl => match us, hl with | [_], _ => rfl
  have b_lstack := F_lstack.binds (ps := ["_law_printing_here", "_law_way"]) fun _ _ _ _ _ _ us hl => match us, hl with | [_, _], _ => rfl
  have b_lpiles := F_lpiles.binds (ps := ["_law_printing_here"]) fun _ _ _ _ _ _ us hl => match us, hl with | [_], _ => rfl
  have b_lfar := F_lfar.binds (ps := ["_law_feed_here", "_law_printing_here"]) fun _ _ _ _ _ _ us hl => match us, hl with | [_, _], _ => rfl
  have b_law := F_law.binds (ps := ["_law_script"]) fun _ _ _ _ _ _ us hl => match us, hl with | [_], _ => rfl
  refine ⟨d_law, fun s v => FunD.bindsA (ps := ["_law_script"]) F0_law (fun _ _ _ _ _ _ us hl => match us, hl with | [_], _ => rfl) s [v] rfl, fun base _ _ TBs => ?_⟩
  have hc_is_order := code_of (p := ("is_order", none)) F0_is_order
  have TB_is_order := TBs (He.cT K ("is_order", none)) (List.mem_map.mpr ⟨_, by simp [tf], rfl⟩)
  have hc_is_word := code_of (p := ("is_word", none)) F0_is_word
  have TB_is_word := TBs (He.cT K ("is_word", none)) (List.mem_map.mpr ⟨_, by simp [tf], rfl⟩)
  have hc_many_in := code_of (p := ("many_in", none)) F0_many_in
  have TB_many_in := TBs (He.cT K ("many_in", none)) (List.mem_map.mpr ⟨_, by simp [tf], rfl⟩)
  have G_ldraw : FnOk (PySem.Challenge.rw_pressnotes_k10_whole_printing_each_once).prog w K mg base CX0 1 _ _ _ _ := ok_ldraw F_ldraw T
  have G_lfeed : FnOk (PySem.Challenge.rw_pressnotes_k10_whole_printing_each_once).prog w K mg base CX0 1 _ _ _ _ := ok_lfeed F_lfeed T
  have G_lorder : FnOk (PySem.Challenge.rw_pressnotes_k10_whole_printing_each_once).prog w K mg base CX0 2 _ _ _ _ := ok_lorder F_lorder T F_ldraw b_ldraw (G_ldraw.mono (by decide))
  have G_lprinting : FnOk (PySem.Challenge.rw_pressnotes_k10_whole_printing_each_once).prog w K mg base CX0 3 _ _ _ _ := ok_lprinting F_lprinting T F_ldraw b_ldraw (G_ldraw.mono (by decide)) F_lorder b_lorder (G_lorder.mono (by decide))
  have G_is_number : FnOk (PySem.Challenge.rw_pressnotes_k10_whole_printing_each_once).prog w K mg base CX0 1 _ _ _ _ := ok_is_number F_is_number T
  have G_is_from_to : FnOk (PySem.Challenge.rw_pressnotes_k10_whole_printing_each_once).prog w K mg base CX0 2 _ _ _ _ := ok_is_from_to F_is_from_to T F_is_number b_is_number (G_is_number.mono (by decide))
  have G_is_word : FnOk (PySem.Challenge.rw_pressnotes_k10_whole_printing_each_once).prog w K mg base CX0 2 _ _ _ _ := ok_is_word F_is_word T  hc_is_word TB_is_word
  have G_is_tuple_of : FnOk (PySem.Challenge.rw_pressnotes_k10_whole_printing_each_once).prog w K mg base CX0 1 _ _ _ _ := ok_is_tuple_of F_is_tuple_of T
  have G_is_order : FnOk (PySem.Challenge.rw_pressnotes_k10_whole_printing_each_once).prog w K mg base CX0 3 _ _ _ _ := ok_is_order F_is_order T F_is_tuple_of b_is_tuple_of (G_is_tuple_of.mono (by decide)) hc_is_order TB_is_order
  have G_is_printing : FnOk (PySem.Challenge.rw_pressnotes_k10_whole_printing_each_once).prog w K mg base CX0 4 _ _ _ _ := ok_is_printing F_is_printing T F_is_tuple_of b_is_tuple_of (G_is_tuple_of.mono (by decide)) F_is_word b_is_word (G_is_word.mono (by decide)) F_is_number b_is_number (G_is_number.mono (by decide)) F_is_order b_is_order (G_is_order.mono (by decide)) F_is_from_to b_is_from_to (G_is_from_to.mono (by decide))
  have G_is_apart : FnOk (PySem.Challenge.rw_pressnotes_k10_whole_printing_each_once).prog w K mg base CX0 1 _ _ _ _ := ok_is_apart F_is_apart T
  have G_runs_of : FnOk (PySem.Challenge.rw_pressnotes_k10_whole_printing_each_once).prog w K mg base CX0 2 _ _ _ _ := ok_runs_of F_runs_of T F_is_apart b_is_apart (G_is_apart.mono (by decide))
  have G_many_in : FnOk (PySem.Challenge.rw_pressnotes_k10_whole_printing_each_once).prog w K mg base CX0 2 _ _ _ _ := ok_many_in F_many_in T  hc_many_in TB_many_in
  have G_how_many : FnOk (PySem.Challenge.rw_pressnotes_k10_whole_printing_each_once).prog w K mg base CX0 1 _ _ _ _ := ok_how_many F_how_many T
  have G_printed : FnOk (PySem.Challenge.rw_pressnotes_k10_whole_printing_each_once).prog w K mg base CX0 1 _ _ _ _ := ok_printed F_printed T
  have G_number_at : FnOk (PySem.Challenge.rw_pressnotes_k10_whole_printing_each_once).prog w K mg base CX0 2 _ _ _ _ := ok_number_at F_number_at T F_how_many b_how_many (G_how_many.mono (by decide))
  have G_seat_of : FnOk (PySem.Challenge.rw_pressnotes_k10_whole_printing_each_once).prog w K mg base CX0 3 _ _ _ _ := ok_seat_of F_seat_of T F_printed b_printed (G_printed.mono (by decide)) F_how_many b_how_many (G_how_many.mono (by decide))
  have G_numbers_on : FnOk (PySem.Challenge.rw_pressnotes_k10_whole_printing_each_once).prog w K mg base CX0 3 _ _ _ _ := ok_numbers_on F_numbers_on T F_number_at b_number_at (G_number_at.mono (by decide))
  have G_runs_of_numbers : FnOk (PySem.Challenge.rw_pressnotes_k10_whole_printing_each_once).prog w K mg base CX0 3 _ _ _ _ := ok_runs_of_numbers F_runs_of_numbers T F_runs_of b_runs_of (G_runs_of.mono (by decide))
  have G_sheet_runs : FnOk (PySem.Challenge.rw_pressnotes_k10_whole_printing_each_once).prog w K mg base CX0 4 _ _ _ _ := ok_sheet_runs F_sheet_runs T F_numbers_on b_numbers_on (G_numbers_on.mono (by decide)) F_runs_of_numbers b_runs_of_numbers (G_runs_of_numbers.mono (by decide))
  have G_pile : FnOk (PySem.Challenge.rw_pressnotes_k10_whole_printing_each_once).prog w K mg base CX0 3 _ _ _ _ := ok_pile F_pile T F_number_at b_number_at (G_number_at.mono (by decide))
  have G_together : FnOk (PySem.Challenge.rw_pressnotes_k10_whole_printing_each_once).prog w K mg base CX0 3 _ _ _ _ := ok_together F_together T F_runs_of b_runs_of (G_runs_of.mono (by decide))
  have G_both : FnOk (PySem.Challenge.rw_pressnotes_k10_whole_printing_each_once).prog w K mg base CX0 1 _ _ _ _ := ok_both F_both T
  have G_pile_seat : FnOk (PySem.Challenge.rw_pressnotes_k10_whole_printing_each_once).prog w K mg base CX0 1 _ _ _ _ := ok_pile_seat F_pile_seat T
  have G_pile_place : FnOk (PySem.Challenge.rw_pressnotes_k10_whole_printing_each_once).prog w K mg base CX0 1 _ _ _ _ := ok_pile_place F_pile_place T
  have G_stack_at : FnOk (PySem.Challenge.rw_pressnotes_k10_whole_printing_each_once).prog w K mg base CX0 3 _ _ _ _ := ok_stack_at F_stack_at T F_pile_seat b_pile_seat (G_pile_seat.mono (by decide)) F_number_at b_number_at (G_number_at.mono (by decide))
  have G_stack_place : FnOk (PySem.Challenge.rw_pressnotes_k10_whole_printing_each_once).prog w K mg base CX0 4 _ _ _ _ := ok_stack_place F_stack_place T F_seat_of b_seat_of (G_seat_of.mono (by decide)) F_pile_place b_pile_place (G_pile_place.mono (by decide))
  have G_is_rising : FnOk (PySem.Challenge.rw_pressnotes_k10_whole_printing_each_once).prog w K mg base CX0 4 _ _ _ _ := ok_is_rising F_is_rising T F_pile_seat b_pile_seat (G_pile_seat.mono (by decide)) F_pile b_pile (G_pile.mono (by decide))
  have G_spoilt_by : FnOk (PySem.Challenge.rw_pressnotes_k10_whole_printing_each_once).prog w K mg base CX0 4 _ _ _ _ := ok_spoilt_by F_spoilt_by T F_number_at b_number_at (G_number_at.mono (by decide)) F_numbers_on b_numbers_on (G_numbers_on.mono (by decide)) F_runs_of_numbers b_runs_of_numbers (G_runs_of_numbers.mono (by decide))
  have G_lall_seats : FnOk (PySem.Challenge.rw_pressnotes_k10_whole_printing_each_once).prog w K mg base CX0 1 _ _ _ _ := ok_lall_seats F_lall_seats T
  have G_lsheets : FnOk (PySem.Challenge.rw_pressnotes_k10_whole_printing_each_once).prog w K mg base CX0 5 _ _ _ _ := ok_lsheets F_lsheets T F_sheet_runs b_sheet_runs (G_sheet_runs.mono (by decide)) F_both b_both (G_both.mono (by decide)) F_many_in b_many_in (G_many_in.mono (by decide)) F_spoilt_by b_spoilt_by (G_spoilt_by.mono (by decide)) F_together b_together (G_together.mono (by decide)) F_printed b_printed (G_printed.mono (by decide))
  have G_lstack : FnOk (PySem.Challenge.rw_pressnotes_k10_whole_printing_each_once).prog w K mg base CX0 5 _ _ _ _ := ok_lstack F_lstack T F_stack_at b_stack_at (G_stack_at.mono (by decide)) F_stack_place b_stack_place (G_stack_place.mono (by decide)) F_printed b_printed (G_printed.mono (by decide)) F_is_rising b_is_rising (G_is_rising.mono (by decide))
  have G_lpiles : FnOk (PySem.Challenge.rw_pressnotes_k10_whole_printing_each_once).prog w K mg base CX0 4 _ _ _ _ := ok_lpiles F_lpiles T F_pile b_pile (G_pile.mono (by decide)) F_number_at b_number_at (G_number_at.mono (by decide))
  have G_lfar : FnOk (PySem.Challenge.rw_pressnotes_k10_whole_printing_each_once).prog w K mg base CX0 6 _ _ _ _ := ok_lfar F_lfar T F_printed b_printed (G_printed.mono (by decide)) F_ldraw b_ldraw (G_ldraw.mono (by decide)) F_seat_of b_seat_of (G_seat_of.mono (by decide)) F_pile b_pile (G_pile.mono (by decide)) F_number_at b_number_at (G_number_at.mono (by decide)) F_stack_at b_stack_at (G_stack_at.mono (by decide)) F_stack_place b_stack_place (G_stack_place.mono (by decide)) F_both b_both (G_both.mono (by decide)) F_sheet_runs b_sheet_runs (G_sheet_runs.mono (by decide)) F_many_in b_many_in (G_many_in.mono (by decide))
  exact ok_law F_law T F_lfeed b_lfeed (G_lfeed.mono (by decide)) F_lprinting b_lprinting (G_lprinting.mono (by decide)) F_is_printing b_is_printing (G_is_printing.mono (by decide)) F_printed b_printed (G_printed.mono (by decide)) F_lall_seats b_lall_seats (G_lall_seats.mono (by decide)) F_number_at b_number_at (G_number_at.mono (by decide)) F_seat_of b_seat_of (G_seat_of.mono (by decide)) F_lsheets b_lsheets (G_lsheets.mono (by decide)) F_lpiles b_lpiles (G_lpiles.mono (by decide)) F_lfar b_lfar (G_lfar.mono (by decide)) F_lstack b_lstack (G_lstack.mono (by decide))

end Pn
open PySem PySem.W PySem.Calls PyProof.Rows
set_option maxRecDepth 100000 in
set_option maxHeartbeats 0 in
theorem PySem.Challenge.cw_pressnotes_k10_whole_printing_each_once_holds : PySem.Challenge.rw_pressnotes_k10_whole_printing_each_once.Holds := by
  w_on; o_law
  refine HandSHeadRun.head_any (r := OpenLaw.row PySem.Challenge.rw_pressnotes_k10_whole_printing_each_once) (q := view (OpenLaw.row PySem.Challenge.rw_pressnotes_k10_whole_printing_each_once).prog [45]) (H := Pn.hk) (ob := Pn.ob) (M := 12000) (loose := [("NoteError" : PySem.Str), ("NoNumber" : PySem.Str), ("is_number" : PySem.Str), ("is_from_to" : PySem.Str), ("is_word" : PySem.Str), ("is_tuple_of" : PySem.Str), ("is_apart" : PySem.Str), ("runs_of" : PySem.Str), ("many_in" : PySem.Str), ("is_order" : PySem.Str), ("is_printing" : PySem.Str), ("how_many" : PySem.Str), ("printed" : PySem.Str), ("number_at" : PySem.Str), ("seat_of" : PySem.Str), ("numbers_on" : PySem.Str), ("runs_of_numbers" : PySem.Str), ("sheet_runs" : PySem.Str), ("pile" : PySem.Str), ("together" : PySem.Str), ("both" : PySem.Str), ("pile_seat" : PySem.Str), ("pile_place" : PySem.Str), ("stack_at" : PySem.Str), ("stack_place" : PySem.Str), ("is_rising" : PySem.Str), ("spoilt_by" : PySem.Str), ("_law_feed" : PySem.Str), ("_law_draw" : PySem.Str), ("_law_order" : PySem.Str), ("_law_printing" : PySem.Str), ("_law_all_seats" : PySem.Str), ("_law_sheets" : PySem.Str), ("_law_stack" : PySem.Str), ("_law_piles" : PySem.Str), ("_law_far" : PySem.Str), ("NUMBERS" : PySem.Str), ("WORDS" : PySem.Str)]) (d := HandSHeadRun.topDef (OpenLaw.row PySem.Challenge.rw_pressnotes_k10_whole_printing_each_once).prog 45) (kwd := []) Pn.ob_eq
    (by kernel_rfl) (fun s => by kernel_rfl) Pn.run (by kernel_rfl) (by kernel_rfl) (by kernel_rfl) (by rfl) (by first | assumption | decide +kernel) (by decide +kernel) ⟨rfl, rfl, rfl, rfl, rfl, by decide +kernel⟩ ?hw ?hc
  case hw => w_witness2
  case hc =>
    refine Pn.walkGT (l := PySem.Challenge.rw_pressnotes_k10_whole_printing_each_once) (n := 63) (k := 8) (x := "_law_script") (sp := Pn.spLawT) rfl (by decide) (by kernel_rfl) ⟨rfl, by decide, by decide⟩ ?F (fun K ts H a ns hl sq tt => ⟨a, ns, rfl, sq, tt, fun _ h => ⟨rfl, h⟩⟩)
    intro w mg fa h Y G hmg0
    obtain ⟨K, KX, c⟩ := Y
    have hmg : mg ("law" : PySem.Str) = some (.ref fa) := by
      have e : (HandSHeadRun.topDef (OpenLaw.row PySem.Challenge.rw_pressnotes_k10_whole_printing_each_once).prog 45).name = ("law" : PySem.Str) := by kernel_rfl
      rw [← e]
      exact hmg0
    obtain ⟨fd, hb, hF⟩ := Pn.facts (w := w) KX G hmg c.t.d (Pn.tupB_ok c.more)
    refine ⟨K, fd, Pn.tf.map (He.cT K), KX, fun p hp => ?_, fun p hp => ?_, fun p hp => ?_, hb, hF⟩
    · obtain ⟨d, hd, rfl⟩ := List.mem_map.mp hp
      exact c.empty d hd
    · obtain ⟨d, hd, rfl⟩ := List.mem_map.mp hp
      exact c.out d hd
    · obtain ⟨d, hd, rfl⟩ := List.mem_map.mp hp
      exact PySem.W.codeHd_of_K KX (c.hd d hd)
