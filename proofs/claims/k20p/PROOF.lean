import PyProof.Rows.All
import Wide.All
import OpenK.AllK
import Wide.FinOn
import HandS.ForMost
import HandS.Wide
import HandS.Conv
import HandS.Flow
import HandS.Steps
import HandS.FStr
import HandS.Defaults
import HandS.MakeKwOnly
import HandS.Star
import HandS.Property
import HandS.IsInst
import HandS.Codes
import HandS.Head0
import HandS.Head1
import HandS.Head2
import HandS.HeadHook1
import HandS.HeadHook2
import HandS.HeadHook3
import HandS.HeadHook4
import HandS.HeadNt
import HandS.HeadWalk
import KE.SortData
import KE.GoesEnum
import HandS.Walk
import HandS.TupAny
import HandS.Lambda
import HandS.SortKw
import KE.SortKeyHeap
import KE.KSortKey
import KE.DataCmp
import HandS.ClsMeth
import HandS.MethStar
import HandS.WrittenGet
import HandS.Style
import HandS.DictComp
import HandS.WideBits
import KE.KSortTup
import KE.KDictDisplayH
import HandS.RaiseMore
import KE.IntBitsLaws
import HandS.MakeKw
import PySem.Challenge.RW_ordersopen_k20_whole_orders_joined
set_option Elab.async false
set_option linter.all false
set_option maxRecDepth 100000
set_option maxHeartbeats 0
namespace Oo
open PySem L2
def top (i : Nat) : Stmt := PySem.Challenge.pw_ordersopen_k20_whole_orders_joined.main.body.getD i (.Pass ⟨0, 0, 0, 0⟩)
abbrev sBag : Stmt := top 76
abbrev sTake : Stmt := top 77
abbrev sOf : Stmt := top 78
abbrev sSome : Stmt := top 79
/-! ### the bag of draws -/
/-- at a stands a bag from which at most n draws were made -/
def BagAt (H : Hp) (a : Addr) (n : Nat) : Prop := ∃ d x c : Int, H a = some (.lst [.int d, .int x, .int c]) ∧ 0 ≤ d ∧ 0 ≤ x ∧ x < 2 ^ 61 ∧ 0 ≤ c ∧ c ≤ (n : Int)
/-- all but what stands at a is as it was -/
def Kp (a : Addr) (H H' : Hp) : Prop := ∀ b o, b ≠ a → H b = some o → H' b = some o
theorem Kp.refl (a : Addr) (H : Hp) : Kp a H H := fun _ _ _ h => h
theorem Kp.trans {a : Addr} {H H1 H2 : Hp} (x : Kp a H H1) (y : Kp a H1 H2) : Kp a H H2 := fun b o n h => y b o n (x b o n h)
theorem Kp.upd {a : Addr} {H : Hp} (o : HO) : Kp a H (upd H a o) := fun b u n h => by rw [upd_ne n]; exact h
theorem Kp.new {a p : Addr} {H : Hp} {o : HO} (h : H p = none) : Kp a H (L2.upd H p o) := fun b u n e => by rw [upd_ne (ne_of_none e h)]; exact e
theorem BagAt.mono {H : Hp} {a : Addr} {n m : Nat} (b : BagAt H a n) (h : n ≤ m) : BagAt H a m := by
  obtain ⟨d, x, c, e, h1, h2, h3, h4, h5⟩ := b
  exact ⟨d, x, c, e, h1, h2, h3, h4, by omega⟩
theorem BagAt.new {H : Hp} {a p : Addr} {o : HO} {n : Nat} (b : BagAt H a n) (h : H p = none) : BagAt (upd H p o) a n := by
  obtain ⟨d, x, c, e, r⟩ := b
  exact ⟨d, x, c, by rw [upd_ne (ne_of_none e h)]; exact e, r⟩
def spTake : Sp := fun vs H Q _ => ∃ (a : Addr) (m : Int) (n : Nat), vs = [.ref a, .int m] ∧ BagAt H a n ∧ n < 1000000 ∧ 0 < m ∧ m < 1073741824 ∧
  ∀ (r : Int) (H' : Hp), 0 ≤ r → r < m → BagAt H' a (n + 1) → Kp a H H' → Q (.int r) H'
section
variable {P : Program} {w : World} {K : PySem.W.Frag} {mg : Str → Option Value} {base : Heap}
theorem scTake : FnScope ["_law_bag_here", "_law_many", "_law_digit", "_law_mixed"] ["_law_bag_here", "_law_many"] (defScope sTake) := ⟨rfl, rfl, rfl, by decide +kernel, rfl, by decide +kernel, by decide +kernel⟩
theorem ok_take {f : Addr} {fd : FuncData} (F : Fun K "_law_take" "_law_take" sTake f fd) (mi : mg "int" = none) : FnOk P w K mg base CX0 1 f fd ["_law_bag_here", "_law_many"] spTake := by
  refine F.ok scTake (fun vs H Q E h => ?_) (fun cdv A outer s H vs Q E hr h => ?_)
  · obtain ⟨a, m, n, rfl, _⟩ := h
    rfl
  obtain ⟨a, m, n, rfl, ⟨d, x, c, e, hd, hx0, hx1, hc0, hc1⟩, hn, hm0, hm1, k⟩ := h
  refine ⟨_, pss_cons (ps_if (pt_cmpR op_gt (pe_ix ix_list (pv 0) pe_int (fun _ _ => rfl)) pe_int (nomark _))
      (pss_cons (ps_set (i := 2) scTake.nd rfl (.inl rfl) (pe_op op_mod (pe_callTy call_int1 (by rfl) mi PyProof.Rows.boot_int (pa_cons (pe_ix ix_list (pv 0) pe_int (fun _ _ => rfl)) pa_nil)) (pv 1)))
        (pss_cons (ps_asg (pe_op op_fdiv (pe_ix ix_list (pv 0) pe_int (fun _ _ => rfl)) (pv 1)) (pg_sub (pv 0) pe_int set_list))
        (pss_one (ps_ret (pv 2))))) pss_nil)
    (pss_cons (ps_asg (pe_op op_add (pe_ix ix_list (pv 0) pe_int (fun _ _ => rfl)) pe_int) (pg_sub (pv 0) pe_int set_list))
    (pss_cons (ps_set (i := 3) scTake.nd rfl (.inl rfl) (pe_op op_mod (pe_op op_pow (pe_callTy call_int1 (by rfl) mi PyProof.Rows.boot_int (pa_cons (pe_op op_add (pe_ix ix_list (pv 0) pe_int (fun _ _ => rfl)) (pe_op op_mul pe_int (pe_ix ix_list (pv 0) pe_int (fun _ _ => rfl)))) pa_nil)) pe_int) pe_int))
    (pss_cons (ps_set (i := 3) scTake.nd rfl (.inl rfl) (pe_op op_mod (pe_op op_pow (pe_callTy call_int1 (by rfl) mi PyProof.Rows.boot_int (pa_cons (pe_op op_add (pv 3) (pe_op op_mul pe_int (pe_ix ix_list (pv 0) pe_int (fun _ _ => rfl)))) pa_nil)) pe_int) pe_int))
    (pss_one (ps_ret (pe_op op_mod (pe_op op_fdiv (pv 3) pe_int) (pv 1))))))), ?_⟩
  have i0 : atI [V.int d, V.int x, V.int c] 0 = some (.int d) := rfl
  refine ⟨_, rfl, a, _, _, _, rfl, rfl, SqL.of e, i0, _, _, rfl, rfl, _, rfl, ?_⟩
  refine ite2 (fun z => ?_) (fun z => ?_)
  · have z' : (0 : Int) < d := of_decide_eq_true z
    refine ⟨_, rfl, a, _, _, _, rfl, rfl, SqL.of e, i0, .inl ⟨_, rfl, _, rfl, _, _, rfl, rfl, hm0, ?_⟩⟩
    refine ⟨_, rfl, a, _, _, _, rfl, rfl, SqL.of e, i0, _, rfl, _, _, rfl, rfl, ⟨hm0, hm1⟩, _, rfl, a, _, _, 0, rfl, rfl, e, rfl, ?_⟩
    refine ⟨_, rfl, ?_⟩
    refine k _ _ (Int.emod_nonneg _ (by omega)) (Int.emod_lt_of_pos _ hm0) ⟨d / m, x, c, upd_same, Int.ediv_nonneg hd (by omega), hx0, hx1, hc0, by omega⟩ (Kp.upd _)
  · refine ⟨_, rfl, a, _, _, _, rfl, rfl, SqL.of e, (rfl : atI [V.int d, V.int x, V.int c] 2 = some (.int c)), _, _, rfl, rfl, _, rfl, a, _, _, 2, rfl, rfl, e, rfl, ?_⟩
    have e2 : (upd H a (.lst ([V.int d, V.int x, V.int c].set 2 (.int (c + 1))))) a = some (.lst [.int d, .int x, .int (c + 1)]) := upd_same
    refine ⟨_, rfl, a, _, _, _, rfl, rfl, SqL.of e2, (rfl : atI [V.int d, V.int x, V.int (c + 1)] 1 = some (.int x)), _, rfl, a, _, _, _, rfl, rfl, SqL.of e2, (rfl : atI [V.int d, V.int x, V.int (c + 1)] 2 = some (.int (c + 1))), ?_⟩
    refine ⟨_, _, rfl, rfl, .inl (by decide), _, _, rfl, rfl, .inl ⟨_, rfl, _, _, rfl, rfl, ⟨by decide, by decide, by omega⟩, _, _, rfl, rfl, (by show (0 : Int) < _; decide), ?_⟩⟩
    have b1 := Int.emod_nonneg ((x + 2654435761 * (c + 1)) ^ (3 : Int).toNat) (show (2305843009213693921 : Int) ≠ 0 by decide)
    have b2 := Int.emod_lt_of_pos ((x + 2654435761 * (c + 1)) ^ (3 : Int).toNat) (show (0 : Int) < 2305843009213693921 by decide)
    generalize ((x + 2654435761 * (c + 1)) ^ (3 : Int).toNat) % 2305843009213693921 = y at b1 b2 ⊢
    refine ⟨_, rfl, _, rfl, a, _, _, _, rfl, rfl, SqL.of e2, (rfl : atI [V.int d, V.int x, V.int (c + 1)] 2 = some (.int (c + 1))), ?_⟩
    refine ⟨_, _, rfl, rfl, .inl (by decide), _, _, rfl, rfl, .inl ⟨_, rfl, _, _, rfl, rfl, ⟨by decide, by decide, by omega⟩, _, _, rfl, rfl, (by show (0 : Int) < _; decide), ?_⟩⟩
    refine ⟨_, rfl, _, _, rfl, rfl, ⟨by decide, by decide⟩, _, rfl, _, _, rfl, rfl, hm0, ?_⟩
    exact k _ _ (Int.emod_nonneg _ (by omega)) (Int.emod_lt_of_pos _ hm0) ⟨d, x, c + 1, e2, hd, hx0, hx1, by omega, by push_cast; omega⟩ (Kp.upd _)
end
end Oo
/-! the head: what stands behind the top, read by one hook -/
namespace Oh
open PySem PySem.Spec PyProof.Rows L2 He
abbrev Fct : Type := PySem.W.Frag → Bool
abbrev AlO : Type := (List He5.FnW × List (Option (List (Option (Str × Int))))) × Bool
def rf (g : Addr → Option Obj) (as : List Addr) : List Addr := as.flatMap fun a => match g a with
  | some o => refsD o
  | none => []
def clsNs (g : Addr → Option Obj) (as : List Addr) : List Addr := as.filterMap fun a => match g a with
  | some ⟨_, _, .cls cd, _⟩ => some cd.ns
  | _ => none
def fnsOf (g : Addr → Option Obj) (as : List Addr) : List Addr := as.filter fun a => match g a with
  | some ⟨_, _, .func _, _⟩ => true
  | _ => false
/-- what the end looks at: the module's names, what they name, methods, their code objects -/
def as4 (g : Addr → Option Obj) (l1 l2 l3 l4 : List Addr) : List Addr := mainGlobals :: cStatics :: (l1 ++ (l2 ++ (l3 ++ (l4 ++ rf g (fnsOf g l4)))))
def as3 (g : Addr → Option Obj) (l1 l2 l3 : List Addr) : List Addr := as4 g l1 l2 l3 (rf g l3)
def as1 (g : Addr → Option Obj) (l1 : List Addr) : List Addr := as3 g l1 (rf g l1) (rf g (clsNs g l1))
def asF (g : Addr → Option Obj) : List Addr := as1 g (rf g [mainGlobals])
def obsO (fn : List He5.DefA) (ts : List Tab) (tf : List Defn) (fc : List Fct) (g : Addr → Option Obj) : AlO :=
  ((fn.map (fun d => He5.fnA (frT g (asF g)) (d.at_ (frT g (asF g)))), ts.map fun t => dicW (frT g (asF g)) (t.1 (frT g (asF g)))),
    (fn.all fun d => d.ok (frT g (asF g))) && ((fc.all fun f => f (frT g (asF g))) && tabsB g tf (frT g (asF g))))
def valO (fn : List He5.DefA) (ts : List Tab) (w : World) : AlO := ((fn.map He5.DefA.val, ts.map fun t => some (keysIn w.params t.2)), true)
structure SaysO (fn : List He5.DefA) (ts : List Tab) (tf : List Defn) (fc : List Fct) (w : World) (h : Heap) (K : PySem.W.Frag) : Prop where
  d : fn.map (fun d => He5.fnA K (d.at_ K)) = fn.map He5.DefA.val
  t : ts.map (fun t => dicW K (t.1 K)) = ts.map fun t => some (keysIn w.params t.2)
  ok : (fn.all fun d => d.ok K) = true
  f : (fc.all fun f => f K) = true
  hd : ∀ p ∈ tf, PySem.W.codeHdIn K (cT K p).1 (cT K p).2 = true
  out : ∀ p ∈ tf, K.lookup (cT K p).2 = none
  empty : ∀ p ∈ tf, h.get? (cT K p).2 = some { cls := .none, data := .fields #[] }
theorem saysO_of {fn : List He5.DefA} {ts : List Tab} {tf : List Defn} {fc : List Fct} {w : World} {h : Heap} (e : obsO fn ts tf fc h.get? = valO fn ts w) : SaysO fn ts tf fc w h (frT h.get? (asF h.get?)) := by
  have e1 : fn.map (fun d => He5.fnA (frT h.get? (asF h.get?)) (d.at_ (frT h.get? (asF h.get?)))) = fn.map He5.DefA.val := congrArg (fun z : AlO => z.1.1) e
  have e2 : ts.map (fun t => dicW (frT h.get? (asF h.get?)) (t.1 (frT h.get? (asF h.get?)))) = ts.map fun t => some (keysIn w.params t.2) := congrArg (fun z : AlO => z.1.2) e
  have e3 : ((fn.all fun d => d.ok (frT h.get? (asF h.get?))) && ((fc.all fun f => f (frT h.get? (asF h.get?))) && tabsB h.get? tf (frT h.get? (asF h.get?)))) = true := congrArg (fun z : AlO => z.2) e
  obtain ⟨h1, e4⟩ := ba e3
  obtain ⟨h2, h3⟩ := ba e4
  have key : ∀ p ∈ tf, PySem.W.codeHdIn (frT h.get? (asF h.get?)) (cT (frT h.get? (asF h.get?)) p).1 (cT (frT h.get? (asF h.get?)) p).2 = true ∧ ∃ o, h.get? (cT (frT h.get? (asF h.get?)) p).2 = some o ∧ emptyTab o = true := fun p hp => by
    obtain ⟨k1, k2⟩ := ba (List.all_eq_true.mp h3 p hp)
    refine ⟨k1, ?_⟩
    cases q : h.get? (cT (frT h.get? (asF h.get?)) p).2 with
    | none =>
      rw [q] at k2
      cases k2
    | some o =>
      rw [q] at k2
      exact ⟨o, rfl, k2⟩
  exact ⟨e1, e2, h1, h2, fun p hp => (key p hp).1, fun p hp => by
    obtain ⟨_, o, q, z⟩ := key p hp
    exact frT_none q z, fun p hp => by
    obtain ⟨_, o, q, z⟩ := key p hp
    rw [q, emptyTab_eq z]⟩
def hookO (fn : List He5.DefA) (ts : List Tab) (tf : List Defn) (fc : List Fct) : PySem.W.Hook where
  α := AlO
  obs := fun s => obsO fn ts tf fc s.heap.get?
  val := fun w => valO fn ts w
  says := fun w h => ∃ K : PySem.W.Frag, K.In h ∧ SaysO fn ts tf fc w h K
  of := fun _ _ e => ⟨_, frT_in, saysO_of e⟩
  keeps := fun _ _ _ ⟨K, hK, c⟩ k => ⟨K, PySem.W.Frag.In.keeps hK k, ⟨c.d, c.t, c.ok, c.f, c.hd, c.out, fun p hp => k _ _ (c.empty p hp)⟩⟩
theorem obsO_eq {fn : List He5.DefA} {ts : List Tab} {tf : List Defn} {fc : List Fct} {g : Addr → Option Obj} {s : Shared} (h : ∀ a, g a = s.heap.get? a) : obsO fn ts tf fc g = (hookO fn ts tf fc).obs s := by
  have e : g = s.heap.get? := funext h
  rw [e] <;> rfl
section
variable {fn : List He5.DefA} {ts : List Tab} {tf : List Defn} {fc : List Fct} {w : World} {h : Heap} {K : PySem.W.Frag}
theorem SaysO.fact (c : SaysO fn ts tf fc w h K) (i : Nat) {f : Fct} (e : fc[i]? = some f) : f K = true := List.all_eq_true.mp c.f f (List.mem_of_getElem? e)
theorem SaysO.def_ (c : SaysO fn ts tf fc w h K) (i : Nat) {d : He5.DefA} (e : fn[i]? = some d) : ∃ fd, FunD K d.name d.qual d.params d.body d.scope (d.dvs K) (d.kws K) (d.at_ K) fd := by
  have e2 : (fn.map fun d => He5.fnA K (d.at_ K))[i]? = (fn.map He5.DefA.val)[i]? := by rw [c.d]
  rw [List.getElem?_map, List.getElem?_map, e] at e2
  exact He5.DefA.funD (Option.some.inj e2) (List.all_eq_true.mp c.ok d (List.mem_of_getElem? e))
theorem SaysO.tab (c : SaysO fn ts tf fc w h K) (i : Nat) {t : Tab} (e : ts[i]? = some t) : ∃ es n, KDict K w (t.1 K) es n := by
  have e2 : (ts.map fun t => dicW K (t.1 K))[i]? = (ts.map fun t => some (keysIn w.params t.2))[i]? := by rw [c.t]
  rw [List.getElem?_map, List.getElem?_map, e] at e2
  exact dicW_ok (Option.some.inj e2)
end
/-! ### what is looked at -/
/-- a value of a written dict -/
def vAt (K : PySem.W.Frag) (d : Addr) (x : Str) : Addr := match PySem.W.nsIn K d x with
  | some (some (.ref a)) => a
  | _ => 0
def dValB (d x : Str) (v : PySem.W.Frag → V) : Fct := fun K => match PySem.W.nsIn K (ga K d) x with
  | some (some u) => relB (v K) u
  | _ => false
def dMissB (d x : Str) : Fct := fun K => eqO (PySem.W.nsIn K (ga K d) x) (some none)
def tupAB (a : PySem.W.Frag → Addr) (vs : List V) : Fct := fun K => match K.lookup (a K) with
  | some ⟨.type c, _, .seq its _, _⟩ => decide (c = "tuple") && (decide (its.size ≤ sizeLine) && relAll vs its.toList)
  | _ => false
def readB (C : Str) : Fct := fun K => PySem.W.readsIn K (ga K C) (.type "type") && eqO (PySem.W.specialIn K (.ref (ga K C)) "__getattribute__") (some (some (.builtin "type.__getattribute__")))
def conCB (C f : Str) (v : V) : Fct := fun K => match PySem.W.findCls K (.ref (ga K C)) (.type "type") f with
  | some (.val u) => relB v u
  | _ => false
def isiB (C : Str) : Fct := fun K => eqO (PySem.W.findIn K (.ref (ga K C)) "__class__") (some (some (.builtin "object.__class__"))) && (eqO (PySem.W.specialIn K (.builtin "object.__class__") "__get__") (some (some (.builtin "getset_descriptor.__get__"))) &&
  (decide (PySem.W.takesIn K (.builtin "object.__class__") = some true) && decide (PySem.W.mroIn K (ga K C) (.type "object") = some true)))
def getterOf (K : PySem.W.Frag) (C m : Str) : Addr := match PySem.W.recIn K (ma K (ga K C) m) "property" with
  | some (.ref g :: _) => g
  | _ => 0
def propB (C m : Str) : Fct := fun K => eqO (PySem.W.findIn K (.ref (ga K C)) m) (some (some (.ref (ma K (ga K C) m)))) && (eqO (PySem.W.specialIn K (.ref (ma K (ga K C) m)) "__get__") (some (some (.builtin "property.__get__"))) &&
  (decide (PySem.W.takesIn K (.ref (ma K (ga K C) m)) = some true) && (match PySem.W.recIn K (ma K (ga K C) m) "property" with
    | some (.ref _ :: _) => true
    | _ => false)))
def fnInB (C m : Str) : Fct := fun K => PySem.W.fnIn K (ma K (ga K C) m)
def faF (f : Fa) : Fct := fun K => f.ok K
def fc0 : List Fct := [Oh.faF (.glo "Function"), Oh.faF (.glo "Book"), Oh.faF (.glo "Task"), Oh.faF (.glo "Span"), Oh.faF (.glo "Layout"), Oh.faF (.glo "SIGNS"), Oh.faF (.glo "LENGTHS"), Oh.faF (.glo "FIRST_OPERANDS"), Oh.faF (.glo "OWN_STEPS"), Oh.faF (.glo "GUARDS"), Oh.faF (.glo "is_integer"), Oh.faF (.glo "is_ascending"), Oh.faF (.glo "precedes"), Oh.faF (.glo "is_name"), Oh.faF (.glo "are_places"), Oh.faF (.glo "same_function"), Oh.faF (.glo "is_form"), Oh.faF (.glo "is_change"), Oh.faF (.glo "is_call"), Oh.faF (.glo "operands"), Oh.faF (.glo "nodes_of"), Oh.faF (.glo "node_at"), Oh.faF (.glo "is_open"), Oh.faF (.glo "is_guard"), Oh.faF (.glo "is_open_path"), Oh.faF (.glo "are_points"), Oh.faF (.glo "own_steps"), Oh.faF (.glo "span_of"), Oh.faF (.glo "is_in_order"), Oh.faF (.glo "spans_within"), Oh.faF (.glo "step_of"), Oh.faF (.glo "below_ahead"), Oh.faF (.glo "joined"), Oh.faF (.glo "relations"), Oh.faF (.glo "unasked_within"), Oh.faF (.glo "is_asked_of"), Oh.faF (.glo "refuse_guards"), Oh.faF (.glo "shuffles"), Oh.faF (.glo "count_orders"), Oh.faF (.glo "steps_left"), Oh.faF (.glo "shares"), Oh.faF (.glo "own_left"), Oh.faF (.glo "take"), Oh.faF (.glo "order_at"), Oh.faF (.glo "is_order"), Oh.faF (.glo "_law_bag"), Oh.faF (.glo "_law_take"), Oh.faF (.glo "_law_of"), Oh.faF (.glo "_law_some"), Oh.faF (.glo "_law_kit"), Oh.faF (.glo "_law_book"), Oh.faF (.glo "_law_leaf"), Oh.faF (.glo "_law_guard"), Oh.faF (.glo "_law_expr"), Oh.faF (.glo "_law_root"), Oh.faF (.glo "_law_operands"), Oh.faF (.glo "_law_nodes"), Oh.faF (.glo "_law_open"), Oh.faF (.glo "_law_points"), Oh.faF (.glo "_law_reached"), Oh.faF (.glo "law")]
def fc1 : List Fct := [Oh.faF (.free "tuple"), Oh.faF (.free "sorted"), Oh.faF (.free "len"), Oh.faF (.free "isinstance"), Oh.faF (.free "int"), Oh.faF (.free "bool"), Oh.faF (.free "all"), Oh.faF (.free "range"), Oh.faF (.free "max"), Oh.faF (.free "min"), Oh.faF (.free "enumerate"), Oh.faF (.free "str"), Oh.faF (.free "abs"), Oh.faF (.free "sum"), Oh.faF (.free "list")]
def fc2 : List Fct := [Oh.faF (.int "MOST_LETTERS" 8), Oh.faF (.int "MOST_PLACES" 4), Oh.faF (.int "MOST_ARGUMENTS" 3), Oh.faF (.int "LARGEST" 999999), Oh.faF (.str "LETTERS" "abcdefghijklmnopqrstuvwxyz")]
def fc3 : List Fct := [Oh.faF (.cls "Function"), Oh.faF (.cls "Book"), Oh.faF (.cls "Task"), Oh.faF (.cls "Span"), Oh.faF (.cls "Layout"), Oh.faF (.mkr "Function"), Oh.faF (.mkr "Book"), Oh.faF (.mkr "Task"), Oh.faF (.mkr "Span"), Oh.faF (.mkr "Layout")]
def fc4 : List Fct := [Oh.faF (.noat "Function" "name"), Oh.faF (.noat "Function" "arguments"), Oh.faF (.noat "Function" "reads"), Oh.faF (.noat "Function" "stores"), Oh.faF (.noat "Book" "functions"), Oh.faF (.noat "Task" "book"), Oh.faF (.noat "Task" "expression"), Oh.faF (.noat "Task" "points"), Oh.faF (.noat "Task" "rows"), Oh.faF (.noat "Task" "layout"), Oh.faF (.noat "Task" "__bool__"), Oh.faF (.noat "Span" "path"), Oh.faF (.noat "Span" "form"), Oh.faF (.noat "Span" "below"), Oh.faF (.noat "Span" "is_fixed"), Oh.faF (.noat "Span" "size"), Oh.faF (.noat "Span" "own"), Oh.faF (.noat "Span" "inside"), Oh.faF (.noat "Span" "is_idle"), Oh.faF (.noat "Layout" "root"), Oh.faF (.noat "Layout" "spans"), Oh.faF (.noat "Layout" "owners"), Oh.faF (.noat "Layout" "steps"), Oh.faF (.noat "Layout" "befores"), Oh.faF (.noat "Layout" "besides"), Oh.faF (.noat "Layout" "guard"), Oh.faF (.noat "Layout" "stored"), Oh.faF (.noat "Layout" "unasked")]
def fc5 : List Fct := [Oh.faF (.meth "Book" "__contains__"), Oh.faF (.meth "Book" "__getitem__"), Oh.faF (.meth "Task" "__len__")]
def fc6 : List Fct := [Oh.readB "Book", Oh.readB "Task", Oh.conCB "Book" "MOST" (.int 6), Oh.conCB "Task" "MOST_NODES" (.int 200), Oh.conCB "Task" "MOST_DEPTH" (.int 30), Oh.isiB "Function", Oh.propB "Book" "names", Oh.fnInB "Book" "__getitem__", Oh.tupAB (fun K => He.ga K "SIGNS") [.str "+", .str "-", .str "*", .str "<"], Oh.tupAB (fun K => He.ga K "GUARDS") [.str "and", .str "or", .str "choose"], Oh.tupAB (fun K => Oh.vAt K (He.ga K "OWN_STEPS") "read") [.str "read"], Oh.tupAB (fun K => Oh.vAt K (He.ga K "OWN_STEPS") "store") [.str "store"], Oh.tupAB (fun K => Oh.vAt K (He.ga K "OWN_STEPS") "step") [.str "read", .str "store"], Oh.tupAB (fun K => Oh.vAt K (He.ga K "OWN_STEPS") "call") [.str "call"]]
def fc7 : List Fct := [Oh.dValB "LENGTHS" "read" fun _ => .int 2, Oh.dValB "LENGTHS" "store" fun _ => .int 3, Oh.dValB "LENGTHS" "step" fun _ => .int 4, Oh.dValB "LENGTHS" "op" fun _ => .int 4, Oh.dValB "LENGTHS" "call" fun _ => .int 3, Oh.dValB "LENGTHS" "then" fun _ => .int 3, Oh.dValB "LENGTHS" "and" fun _ => .int 3, Oh.dValB "LENGTHS" "or" fun _ => .int 3, Oh.dValB "LENGTHS" "choose" fun _ => .int 4, Oh.dValB "FIRST_OPERANDS" "read" fun _ => .int 2, Oh.dValB "FIRST_OPERANDS" "store" fun _ => .int 2, Oh.dValB "FIRST_OPERANDS" "step" fun _ => .int 4, Oh.dValB "FIRST_OPERANDS" "op" fun _ => .int 2, Oh.dValB "FIRST_OPERANDS" "then" fun _ => .int 1, Oh.dValB "FIRST_OPERANDS" "and" fun _ => .int 1, Oh.dValB "FIRST_OPERANDS" "or" fun _ => .int 1, Oh.dValB "FIRST_OPERANDS" "choose" fun _ => .int 1]
def fc8 : List Fct := [Oh.dValB "OWN_STEPS" "read" fun K => .ref (Oh.vAt K (He.ga K "OWN_STEPS") "read"), Oh.dValB "OWN_STEPS" "store" fun K => .ref (Oh.vAt K (He.ga K "OWN_STEPS") "store"), Oh.dValB "OWN_STEPS" "step" fun K => .ref (Oh.vAt K (He.ga K "OWN_STEPS") "step"), Oh.dValB "OWN_STEPS" "call" fun K => .ref (Oh.vAt K (He.ga K "OWN_STEPS") "call"), Oh.dMissB "OWN_STEPS" "op", Oh.dMissB "OWN_STEPS" "then", Oh.dMissB "OWN_STEPS" "and", Oh.dMissB "OWN_STEPS" "or", Oh.dMissB "OWN_STEPS" "choose"]
def fc : List Fct := fc0 ++ (fc1 ++ (fc2 ++ (fc3 ++ (fc4 ++ (fc5 ++ (fc6 ++ (fc7 ++ (fc8))))))))
def lens : List (Str × Int) := [("read", 2), ("store", 3), ("step", 4), ("op", 4), ("call", 3), ("then", 3), ("and", 3), ("or", 3), ("choose", 4)]
def firsts : List (Str × Int) := [("read", 2), ("store", 2), ("step", 4), ("op", 2), ("then", 1), ("and", 1), ("or", 1), ("choose", 1)]
def owns : List Str := ["read", "store", "step", "call"]
def ts : List Tab := [(fun K => ga K "LENGTHS", lens.map (·.1)), (fun K => ga K "FIRST_OPERANDS", firsts.map (·.1)), (fun K => ga K "OWN_STEPS", owns)]
def tf : List Defn := [("Book", some "__init__")]
def dG (x : Str) (i : Nat) : He5.DefA := ⟨fun K => ga K x, x, x, defArgs (Oo.top i), defBody (Oo.top i), defScope (Oo.top i), [], []⟩
def dM (C m q : Str) (st : Stmt) (dfl : List Dv) : He5.DefA := ⟨fun K => ma K (ga K C) m, m, q, defArgs st, defBody st, defScope st, dfl, []⟩
def fn0 : List He5.DefA := [Oh.dG "is_integer" 2, Oh.dG "is_ascending" 3, Oh.dG "precedes" 72, Oh.dG "is_name" 22, Oh.dG "are_places" 23, Oh.dG "same_function" 25, Oh.dG "is_form" 34, Oh.dG "is_change" 35, Oh.dG "is_call" 36, Oh.dG "operands" 37, Oh.dG "nodes_of" 38, Oh.dG "node_at" 39]
def fn1 : List He5.DefA := [Oh.dG "is_open" 40, Oh.dG "is_guard" 41, Oh.dG "is_open_path" 42, Oh.dG "are_points" 43, Oh.dG "own_steps" 44, Oh.dG "span_of" 51, Oh.dG "is_in_order" 52, Oh.dG "spans_within" 53, Oh.dG "step_of" 54, Oh.dG "below_ahead" 55, Oh.dG "joined" 56, Oh.dG "relations" 57]
def fn2 : List He5.DefA := [Oh.dG "unasked_within" 58, Oh.dG "is_asked_of" 59, Oh.dG "refuse_guards" 61, Oh.dG "shuffles" 65, Oh.dG "count_orders" 64, Oh.dG "steps_left" 67, Oh.dG "shares" 68, Oh.dG "own_left" 69, Oh.dG "take" 70, Oh.dG "order_at" 66, Oh.dG "is_order" 63, Oh.dG "_law_bag" 76]
def fn3 : List He5.DefA := [Oh.dG "_law_take" 77, Oh.dG "_law_of" 78, Oh.dG "_law_some" 79, Oh.dG "_law_kit" 80, Oh.dG "_law_book" 81, Oh.dG "_law_leaf" 82, Oh.dG "_law_guard" 83, Oh.dG "_law_expr" 84, Oh.dG "_law_root" 85, Oh.dG "_law_operands" 86, Oh.dG "_law_nodes" 87, Oh.dG "_law_open" 88]
def fn4 : List He5.DefA := [Oh.dG "_law_points" 89, Oh.dG "_law_reached" 90, Oh.dG "law" 91, Oh.dM "Function" "__init__" "Function.__init__" (inClass (Oo.top 24) 0) [.int 0], Oh.dM "Book" "__init__" "Book.__init__" (inClass (Oo.top 26) 1) [], Oh.dM "Book" "__getitem__" "Book.__getitem__" (inClass (Oo.top 26) 3) [], Oh.dM "Book" "__contains__" "Book.__contains__" (inClass (Oo.top 26) 4) [], Oh.dM "Task" "__init__" "Task.__init__" (inClass (Oo.top 74) 2) [], Oh.dM "Task" "__len__" "Task.__len__" (inClass (Oo.top 74) 8) [], Oh.dM "Span" "__init__" "Span.__init__" (inClass (Oo.top 50) 0) [], Oh.dM "Layout" "__init__" "Layout.__init__" (inClass (Oo.top 60) 0) [], ⟨fun K => Oh.getterOf K "Book" "names", "names", "Book.names", defArgs (inClass (Oo.top 26) 2), defBody (inClass (Oo.top 26) 2), defScope (inClass (Oo.top 26) 2), [], []⟩]
def fn : List He5.DefA := fn0 ++ (fn1 ++ (fn2 ++ (fn3 ++ (fn4))))
abbrev R : PySem.W.OpenRow := PySem.W.OpenLaw.row PySem.Challenge.rw_ordersopen_k20_whole_orders_joined
abbrev hk : PySem.W.Hook := hookO fn ts tf fc
def ob (s : PySem.W.SharedT) : AlO := obsO fn ts tf fc (HandSHeadRun.getT s)
theorem ob_eq (s : PySem.W.SharedT) : ob s = hk.obs s.abs := obsO_eq (HandSHeadRun.getT_eq s)
def names0 : List Str := ["_wall", "is_integer", "is_ascending", "copied", "NoName", "BadFunction", "NoExpression", "BadBook", "NoPoints", "NoFunction", "NoNumber", "NoStep", "NoNode", "TooMany", "Guarded", "LETTERS", "MOST_LETTERS", "MOST_ARGUMENTS", "MOST_PLACES", "is_name", "are_places", "Function", "same_function", "Book", "LARGEST", "SIGNS", "LENGTHS", "FIRST_OPERANDS", "OWN_STEPS", "GUARDS"]
def names1 : List Str := ["is_form", "is_change", "is_call", "operands", "nodes_of", "node_at", "is_open", "is_guard", "is_open_path", "are_points", "own_steps", "text_of", "step_text", "op_text", "call_text", "Span", "span_of", "is_in_order", "spans_within", "step_of", "below_ahead", "joined", "relations", "unasked_within", "is_asked_of", "Layout", "refuse_guards", "is_order", "count_orders", "shuffles"]
def names2 : List Str := ["order_at", "steps_left", "shares", "own_left", "take", "precedes", "Task", "_law_bag", "_law_take", "_law_of", "_law_some", "_law_kit", "_law_book", "_law_leaf", "_law_guard", "_law_expr", "_law_root", "_law_operands", "_law_nodes", "_law_open", "_law_points", "_law_reached"]
def names : List Str := names0 ++ (names1 ++ (names2))
theorem run_f (w : World) : HandSHeadRun.RunEq R (PySem.W.view R.prog [91]) hk ob 9000 names (w.withFollow "special-get-raises" false) := by
  intro os
  kernel_rfl
theorem run_t (w : World) : HandSHeadRun.RunEq R (PySem.W.view R.prog [91]) hk ob 9000 names (w.withFollow "special-get-raises" true) := by
  intro os
  kernel_rfl
theorem run (w : World) : HandSHeadRun.RunEq R (PySem.W.view R.prog [91]) hk ob 9000 names w := PySem.W.byRow2 "special-get-raises" (P := fun w => HandSHeadRun.RunEq R (PySem.W.view R.prog [91]) hk ob 9000 names w) run_f run_t w
end Oh
/-! sorted of tuples of ints of any lengths, ascending already -/
namespace Oo
open PySem PySem.SeqAt PySem.W PySem.Calls PyProof.Rows
section
variable {prog : Program} {w : World} {A : Around} {E : Value → Shared → Prop} {s : Shared}
theorem call_tup_lt {Q : Value → Shared → Prop} {l b : Addr} {items items2 : Array Value} {e r : Nat → Bool} (hl : s.heap.IsTuple l items) (hb : s.heap.IsTuple b items2)
    (he : ∀ j (h1 : j < items.size) (h2 : j < items2.size), EqAt A.in1 s items[j] items2[j] (e j)) (hr : ∀ j (h1 : j < items.size) (h2 : j < items2.size), e j = false → RcLt A.in1 s items[j] items2[j] (r j))
    (h : Q (.bool (firstLt e r (decide (items.size < items2.size)) (List.range (min items.size items2.size)))) s) : wpAny (model prog w) A (call (.builtin "tuple.__lt__") [.ref l, .ref b]) Q E s := by
  obtain ⟨⟨c1, d1, da1, sl1⟩, ho1, hc1, n1, hd1⟩ := id hl
  obtain ⟨⟨c2, d2, da2, sl2⟩, ho2, hc2, n2, hd2⟩ := id hb
  simp only at hc1 hd1 hc2 hd2
  subst hc1 hd1 hc2 hd2
  exact call_meets F.slot_tuple_lt ⟨_, ho1, rfl⟩ F.entry_tuple_lt (F.args_tuple_lt_2 _ _) (tuple_ltAt l b items items2 n1 n2 d1 d2 sl1 sl2 e r) ⟨ho1, ho2, he, hr, h⟩
theorem oneLt_tup {xs ys : List PyData} {a b : Value} {as bs : List Addr} {Q : Bool → Shared → Prop} (ra : Reads s.heap a (.tuple xs) as) (rb : Reads s.heap b (.tuple ys) bs) (hal : alikeAll xs ys = true)
    (hu : A.units + min (PyData.depth (.tuple xs)) (PyData.depth (.tuple ys)) < cLine) (hq : Q (dataLt (.tuple xs) (.tuple ys)) s) : wpAny (model prog w) A (oneLt' true a b) Q E s := by
  cases ra with
  | @tuple l o vs n _ _ h1 h2 h3 h4 =>
    cases rb with
    | @tuple l' o' vs' n' _ _ k1 k2 k3 k4 =>
      have n1 : vs.size = xs.length := by simpa using ReadsAll.length _ _ _ h4
      have n2 : vs'.size = ys.length := by simpa using ReadsAll.length _ _ _ k4
      rw [dataLt_tuple, ← firstLt_toks xs ys hal, ← n1, ← n2] at hq
      rw [oneLt'_eq]
      simp only [if_true]
      refine wpAny_bind (wpAny_cRoomFor (room_here hu) (wpAny_bind (wpAny_callSpecialIfBound?_slot (T := "tuple") ⟨_, h1, h2⟩ F.slot_tuple_lt
        (call_tup_lt (e := pairEq xs ys) (r := fun j => dataLt (xs.getD j .none) (ys.getD j .none)) ⟨_, h1, h2, _, h3⟩ ⟨_, k1, k2, _, k3⟩ (fun j j1 j2 => ?_) (fun j j1 j2 hj => ?_) (wpAny_truthy_bool hq)))))
      · have z := eqAt_alikeAll xs ys A.in1 s vs.toList vs'.toList _ _ h4 k4 hal (room_in hu) j (by simpa using j1) (by simpa using j2)
        simpa using z
      · have z := rcLt_alikeAll xs ys A.in1 s vs.toList vs'.toList _ _ h4 k4 hal (room_in hu) j (by simpa using j1) (by simpa using j2) hj
        simpa using z
/-- the first items of tuples -/
theorem firsts_at : ∀ {vs : List Value} {ds : List (List PyData)} {Q : List (Option Value) → Shared → Prop}, EachIs (fun v d => ∃ as, Reads s.heap v (.tuple d) as) vs ds →
    (∀ fs : List (Option Value), fs.length = vs.length → (∀ i : Nat, ds[i]? = some [] → fs[i]? = some none) → Q fs s) → wpAny (model prog w) A (vs.mapM firstOfTuple') Q E s
  | _, _, Q, .nil, h => by
    rw [List.mapM_nil]
    exact wpAny_pure (h [] rfl fun i z => by simp at z)
  | v :: vs, d :: ds, Q, .cons ⟨as, r⟩ t, h => by
    rw [List.mapM_cons]
    cases r with
    | @tuple a o xs n _ _ ho hc hd hr =>
      refine wpAny_bind ?_
      rw [kas_first_eq]
      refine wpAny_bind (Looks.here (show Looks (model prog w) s.heap (typeOf (.ref a)) o.cls from (Looks.ld ho).andThen .now) ?_)
      rw [hc, if_neg (by first | decide | simp)]
      refine wpAny_bind (listItems_at ho hd (wpAny_pure (wpAny_bind (firsts_at t (Q := fun bs s' => wpAny (model prog w) A (pure (xs[0]? :: bs)) Q E s') fun fs hl hf => wpAny_pure (h _ (by simp [hl]) fun i hi => ?_)))))
      cases i with
      | zero =>
        have e : d = [] := by simpa using hi
        subst e
        have hz := ReadsAll.length _ _ _ hr
        have : xs.size = 0 := by simpa using hz
        simp [this]
      | succ i => simpa using hf i (by simpa using hi)
theorem kind_first {vs : List Value} {ds : List (List PyData)} {Q : SortKind → Shared → Prop} (e : EachIs (fun v d => ∃ as, Reads s.heap v (.tuple d) as) vs ([] :: ds)) (h : Q oneType' s) : wpAny (model prog w) A (keyKind' vs.toArray) Q E s := by
  have e' := e
  have hT : ∀ v ∈ vs, Looks (model prog w) s.heap (typeOf v) (.type "tuple") := fun v hv => by
    obtain ⟨d, _, as, r⟩ := e'.left v hv
    exact looks_reads r
  have hl : 0 < vs.length := by rw [e.length]; simp
  rw [kat_kind_eq, List.mapM_toArray, map_eq_pure_bind]
  refine wpAny_bind (wpAny_bind (firsts_at e fun fs hlen hf => wpAny_pure ?_))
  have h0 : fs[0]? = some none := hf 0 rfl
  have hno : ¬ ((fs.toArray.all fun x => x.isSome) = true) := by
    simp only [List.all_toArray, List.all_eq_true]
    intro z
    have := z none (List.mem_of_getElem? h0)
    cases this
  have hf0 : ¬ ((fs.toArray[0]?.bind id).isSome = true) := by
    rw [List.getElem?_toArray, h0]
    simp
  rw [if_neg hno, if_neg hf0]
  rw [oneTypeOnly'_eq, List.mapM_toArray, map_eq_pure_bind]
  refine wpAny_bind (wpAny_bind (wpAny_bind (kas_mapM (r := Value.type "tuple") _ (fun v hv Q' hq => (hT v hv).here hq) (wpAny_pure ?_))))
  obtain ⟨v₀, vr, rfl⟩ : ∃ v r, vs = v :: r := by
    cases vs with
    | nil => simp at hl
    | cons v r => exact ⟨v, r, rfl⟩
  have hall : ((List.map (fun _ => Value.type "tuple") (v₀ :: vr)).toArray.all fun x => x == Value.type "tuple") = true := by
    simp only [List.all_toArray, List.all_map, List.all_eq_true]
    intro _ _
    exact beq_self_eq_true _
  have h1 : (List.map (fun _ => Value.type "tuple") (v₀ :: vr)).toArray[0]? = some (Value.type "tuple") := by simp
  rw [h1]
  simp only [hall, if_true]
  refine wpAny_pure ?_
  simp only [Option.isSome_some, if_true]
  exact wpAny_pure h
theorem sorts_first {vs : List Value} {ds : List (List PyData)} (e : EachIs (fun v d => ∃ as, Reads s.heap v (.tuple d) as) vs ([] :: ds)) (e2 : EachIs (fun v d => ∃ as, Reads s.heap v d as) vs (([] :: ds).map PyData.tuple)) (hal : AllAlike (([] :: ds).map PyData.tuple))
    (hu : ∀ d, d ∈ ([] :: ds).map PyData.tuple → A.units + d.depth < cLine) : SortsAt prog w A s (dataKind s.heap (([] :: ds).map PyData.tuple)) vs := by
  refine ⟨fun v hv => ?_, oneType', ?_, fun _ E Q hq => kind_first e hq⟩
  · obtain ⟨d, hd, as, r⟩ := e2.left v hv
    exact ⟨_, dataKind_some hal hd r⟩
  · intro E x y a b Q ha hb hq
    obtain ⟨d, as, hd, ra, rfl⟩ := dataKind_inv ha
    obtain ⟨d', as', hd', rb, rfl⟩ := dataKind_inv hb
    obtain ⟨xs, _, rfl⟩ := List.mem_map.mp hd
    obtain ⟨ys, _, rfl⟩ := List.mem_map.mp hd'
    rw [keyLt'_oneType]
    refine oneLt_tup ra rb (by have := hal _ hd _ hd'; simpa [alike] using this) (Nat.lt_of_le_of_lt (Nat.add_le_add_left (Nat.min_le_left _ _) _) (hu _ hd)) hq
end
end Oo
namespace Oo
open PySem L2
/-! ### readings in other words -/
theorem pe_as {X : Cx} {e : Expr} {t t' : TE} (h : PE X e t) (i : ∀ σ H Q, t' σ H Q → t σ H Q) : PE X e t' := ⟨fun pins s σ H Q I q => h.run pins s σ H Q I (i σ H Q q)⟩
theorem pt_as {X : Cx} {e : Expr} {t t' : TT} (h : PT X e t) (i : ∀ σ H Q, t' σ H Q → t σ H Q) : PT X e t' := ⟨fun pins s σ H Q I q => h.run pins s σ H Q I (i σ H Q q)⟩
theorem ps_as {X : Cx} {e : Stmt} {t t' : TS} (h : PS X e t) (i : ∀ D σ H, t' D σ H → t D σ H) : PS X e t' := ⟨fun pins s σ H D I q => h.run pins s σ H D I (i D σ H q)⟩
theorem Kp.seqL {K : PySem.W.Frag} {H H' : Hp} {a b : Addr} {xs : List V} (y : Kp a H H') (n : b ≠ a) (h : SqL K H b xs) : SqL K H' b xs := by
  rcases h with (h | ⟨o, h⟩) | h
  · exact .inl (.inl (y b _ n h))
  · exact .inl (.inr ⟨o, y b _ n h⟩)
  · exact .inr h
theorem same_bag {H H' : Hp} {a : Addr} {n : Nat} (s : Same H H') (b : BagAt H a n) : BagAt H' a n := by
  obtain ⟨d, x, c, e, r⟩ := b
  exact ⟨d, x, c, s _ _ e, r⟩
theorem same_kp {H H' : Hp} {a : Addr} (s : Same H H') : Kp a H H' := fun b o _ h => s b o h
theorem same_up {H : Hp} {p : Addr} {o : HO} (h : H p = none) : Same H (upd H p o) := fun b u q => by rw [upd_ne (ne_of_none q h)]; exact q
theorem sz {n : Nat} (h : n ≤ 1000) : n ≤ sizeLine := Nat.le_of_lt (small1000 h)
/-! ### promises -/
def spBag (K : PySem.W.Frag) : Sp := fun vs H Q _ => ∃ (a : Addr) (ns : List Int) (i : Int), vs = [.ref a, .int i] ∧ SqL K H a (ns.map V.int) ∧ ns.length ≤ 63 ∧ 0 ≤ i ∧ i ≤ 10 ∧
  ∀ (p : Addr) (H' : Hp), H p = none → Same H H' → BagAt H' p 0 → Q (.ref p) H'
def spOf (K : PySem.W.Frag) : Sp := fun vs H Q _ => ∃ (a l : Addr) (xs : List V) (n : Nat), vs = [.ref a, .ref l] ∧ BagAt H a n ∧ n < 1000000 ∧ SqL K H l xs ∧ l ≠ a ∧ 0 < xs.length ∧ xs.length ≤ 1000 ∧
  ∀ (v : V) (H' : Hp), v ∈ xs → BagAt H' a (n + 1) → Kp a H H' → Q v H'
section
variable {P : Program} {w : World} {K : PySem.W.Frag} {mg : Str → Option Value} {base : Heap}
theorem scBag : FnScope ["_law_script", "_law_at", "_law_cell", "_law_digits"] ["_law_script", "_law_at"] (defScope sBag) := ⟨rfl, rfl, rfl, by decide +kernel, rfl, by decide +kernel, by decide +kernel⟩
theorem ok_bag {f : Addr} {fd : FuncData} (F : Fun K "_law_bag" "_law_bag" sBag f fd) (mi : mg "int" = none) (ma : mg "abs" = none) (ml : mg "len" = none) : FnOk P w K mg base CX0 1 f fd ["_law_script", "_law_at"] (spBag K) := by
  refine F.ok scBag (fun vs H Q E h => ?_) (fun cdv A outer s H vs Q E hr h => ?_)
  · obtain ⟨a, ns, i, rfl, _⟩ := h
    rfl
  obtain ⟨a, ns, i, rfl, hS, hl, h0, h1, k⟩ := h
  refine ⟨_, pss_cons (ps_set (i := 2) scBag.nd rfl (.inl rfl) (pe_as (t' := fun σ H Q => σ[0]? = some (some (.ref a)) ∧ σ[1]? = some (some (.int i)) ∧ SqL K H a (ns.map V.int) ∧ ∀ c : Int, Q (.int c) H)
        (pe_ifExp (pt_cmpR op_lt (pv 1) (pe_callB call_len_seq (by rfl) ml PySem.boot_len (pa_cons (pv 0) pa_nil)) (nomark _))
        (pe_callTy call_int1 (by rfl) mi PyProof.Rows.boot_int (pa_cons (pe_ix ix_list (pv 0) (pv 1) (fun _ _ => rfl)) pa_nil)) pe_int) ?c1))
    (pss_cons (ps_set (i := 3) scBag.nd rfl (.inl rfl) (pe_as (t' := fun σ H Q => (∃ c : Int, σ[2]? = some (some (.int c))) ∧ ∀ d : Int, 0 ≤ d → Q (.int d) H)
        (pe_ifExp (pt_cmpR op_ge (pe_callB call_abs (by rfl) ma PyProof.Rows.boot_abs (pa_cons (pv 2) pa_nil)) (pe_op op_pow pe_int pe_int) (nomark _))
        (pe_callB call_abs (by rfl) ma PyProof.Rows.boot_abs (pa_cons (pv 2) pa_nil)) pe_int) ?c2))
    (pss_one (ps_ret (pe_lst (pa_cons (pv 3) (pa_cons (pe_op op_mod (pe_op op_mul (pe_callTy call_int1 (by rfl) mi PyProof.Rows.boot_int (pa_cons (pe_op op_add (pe_op op_add (pe_op op_mod (pv 2) pe_int) (pe_op op_mul pe_int (pv 1))) pe_int) pa_nil)) pe_int) pe_int) (pa_cons pe_int pa_nil))))))), ?_⟩
  case c1 =>
    rintro σ H Q ⟨e0, e1, hS, q⟩
    have hlen : (ns.map V.int).length = ns.length := List.length_map _
    refine ⟨_, e1, _, e0, a, _, rfl, .inl hS, _, _, rfl, rfl, _, rfl, ?_⟩
    refine ite2 (fun z => ?_) (fun z => q 0)
    have z' : i < ((ns.map V.int).length : Int) := of_decide_eq_true z
    have hi : i.toNat < ns.length := by omega
    refine ⟨_, e0, _, e1, a, _, _, _, rfl, rfl, hS, at_of (j := i.toNat) (v := V.int ns[i.toNat]) (by omega) (by rw [List.getElem?_map, List.getElem?_eq_getElem hi] <;> rfl), .inl ⟨_, rfl, q _⟩⟩
  case c2 =>
    rintro σ H Q ⟨⟨c, e2⟩, q⟩
    refine ⟨_, e2, _, rfl, _, _, rfl, rfl, ⟨by decide, by decide, by decide⟩, _, _, rfl, rfl, _, rfl, ?_⟩
    refine ite2 (fun z => ?_) (fun z => q 0 (Int.le_refl 0))
    refine ⟨_, e2, _, rfl, q _ ?_⟩
    split <;> omega
  refine ⟨rfl, rfl, hS, fun c => ⟨⟨c, rfl⟩, fun d hd => ?_⟩⟩
  refine ⟨_, rfl, _, rfl, _, _, rfl, rfl, (by show (0 : Int) < 2305843009213693951; decide), _, rfl, _, _, rfl, rfl, .inl (by decide), _, _, rfl, rfl, _, _, rfl, rfl, .inl ⟨_, rfl, _, _, rfl, rfl, .inr (by decide), _, _, rfl, rfl, (by show (0 : Int) < 2305843009213693951; decide), sz (by show 3 ≤ 1000; decide), fun p hp => ?_⟩⟩
  refine k p _ hp (same_up hp) ⟨d, _, 0, upd_same, hd, ?_, ?_, by omega, by omega⟩
  · exact Int.emod_nonneg _ (by decide)
  · exact Int.lt_trans (Int.emod_lt_of_pos _ (show (0 : Int) < 2305843009213693951 by decide)) (by decide)
theorem scOf : FnScope ["_law_bag_here", "_law_items"] ["_law_bag_here", "_law_items"] (defScope sOf) := ⟨rfl, rfl, rfl, by decide +kernel, rfl, by decide +kernel, by decide +kernel⟩
theorem ok_of {f g : Addr} {fd gd : FuncData} (F : Fun K "_law_of" "_law_of" sOf f fd) (G : FnOk P w K mg base CX0 1 g gd ["_law_bag_here", "_law_many"] spTake) (kG : PySem.W.keepIn K (.ref g) = true) (bG : Binds K gd ["_law_bag_here", "_law_many"] []) (mG : mg "_law_take" = some (.ref g)) (ml : mg "len" = none) :
    FnOk P w K mg base CX0 2 f fd ["_law_bag_here", "_law_items"] (spOf K) := by
  refine F.ok scOf (fun vs H Q E h => ?_) (fun cdv A outer s H vs Q E hr h => ?_)
  · obtain ⟨a, l, xs, n, rfl, _⟩ := h
    rfl
  obtain ⟨a, l, xs, n, rfl, hB, hn, hS, hne, h0, h1, k⟩ := h
  refine ⟨_, pss_one (ps_ret (pe_ix ix_list (pv 1) (pe_call G hr rfl mG kG bG .nil pass0 (pa_cons (pv 0) (pa_cons (pe_callB call_len_seq (by rfl) ml PySem.boot_len (pa_cons (pv 1) pa_nil)) pa_nil))) (fun _ _ => rfl))), ?_⟩
  refine ⟨_, rfl, _, rfl, _, rfl, l, _, rfl, .inl hS, a, _, n, rfl, hB, hn, by omega, by omega, fun r H' r0 r1 hB' kp => ?_⟩
  have hr : r.toNat < xs.length := by omega
  exact ⟨l, xs, r, xs[r.toNat], rfl, rfl, kp.seqL hne hS, at_of (j := r.toNat) (by omega) (List.getElem?_eq_getElem hr), k _ H' (List.getElem_mem hr) hB' kp⟩
end
end Oo
namespace Oo
open PySem L2 PyProof.Rows
/-! ### some of a list of texts, ascending -/
/-- all but what stands at the addresses of S is as it was -/
def Kq (S : List Addr) (H H' : Hp) : Prop := ∀ b o, b ∉ S → H b = some o → H' b = some o
theorem Kq.refl (S : List Addr) (H : Hp) : Kq S H H := fun _ _ _ h => h
theorem Kq.trans {S : List Addr} {H H1 H2 : Hp} (x : Kq S H H1) (y : Kq S H1 H2) : Kq S H H2 := fun b o n h => y b o n (x b o n h)
theorem Kq.mono {S T : List Addr} {H H' : Hp} (x : Kq S H H') (h : ∀ b, b ∈ S → b ∈ T) : Kq T H H' := fun b o n e => x b o (fun m => n (h b m)) e
theorem Kp.kq {a : Addr} {H H' : Hp} (x : Kp a H H') : Kq [a] H H' := fun b o n e => x b o (fun z => n (by rw [z]; exact List.mem_cons_self)) e
theorem Kq.kp {a : Addr} {H H' : Hp} (x : Kq [a] H H') : Kp a H H' := fun b o n e => x b o (fun z => n (List.mem_singleton.mp z)) e
theorem same_kq {S : List Addr} {H H' : Hp} (x : Same H H') : Kq S H H' := fun b o _ e => x b o e
theorem Kq.new {S : List Addr} {H H' : Hp} {p : Addr} {o : HO} (x : Kq S H H') (h : H p = none) : Kq S H (upd H' p o) := fun b u n e => by rw [upd_ne (ne_of_none e h)]; exact x b u n e
theorem Kq.at_ {S : List Addr} {H H' : Hp} {p : Addr} {o : HO} (x : Kq S H H') (h : p ∈ S) : Kq S H (upd H' p o) := fun b u n e => by rw [upd_ne (fun z => n (by rw [z]; exact h))]; exact x b u n e
theorem Kq.seqL {K : PySem.W.Frag} {S : List Addr} {H H' : Hp} {b : Addr} {xs : List V} (y : Kq S H H') (n : b ∉ S) (h : SqL K H b xs) : SqL K H' b xs := by
  rcases h with (h | ⟨o, h⟩) | h
  · exact .inl (.inl (y b _ n h))
  · exact .inl (.inr ⟨o, y b _ n h⟩)
  · exact .inr h
/-- an address that was free stays so in the past -/
theorem Kq.free {S : List Addr} {H H' : Hp} {p : Addr} (x : Kq S H H') (n : p ∉ S) (h : H' p = none) : H p = none := by
  cases e : H p with
  | none => rfl
  | some o =>
    rw [x p o n e] at h
    cases h
/-- tuples stay, where lists stand at S -/
theorem Kq.tup {S : List Addr} {H H' : Hp} {p : Addr} {xs : List V} (x : Kq S H H') (hs : ∀ b ∈ S, ∀ ys, H b ≠ some (.tup ys)) (h : H p = some (.tup xs)) : H' p = some (.tup xs) := x p _ (fun m => hs p m xs h) h
theorem Kq.put {S : List Addr} {H H' : Hp} {p : Addr} {o : HO} (x : Kq S H H') (h : H p = none) : Kq S H (upd H' p o) := fun b u n e => by rw [upd_ne (ne_of_none e h)]; exact x b u n e
theorem BagAt.ne {H : Hp} {a p : Addr} {n : Nat} (b : BagAt H a n) (h : H p = none) : p ≠ a := fun z => by
  obtain ⟨d, x, c, e, _⟩ := b
  rw [z, e] at h
  cases h
theorem BagAt.put {H : Hp} {a p : Addr} {n : Nat} {o : HO} (b : BagAt H a n) (h : p ≠ a) : BagAt (upd H p o) a n := by
  obtain ⟨d, x, c, e, r⟩ := b
  exact ⟨d, x, c, by rw [upd_ne h.symm]; exact e, r⟩
theorem take_succ_get {α : Type} (xs : List α) (i : Nat) (h : i < xs.length) : xs.take (i + 1) = xs.take i ++ [xs[i]] := by
  rw [List.take_succ, List.getElem?_eq_getElem h]
  rfl
def spSome (K : PySem.W.Frag) : Sp := fun vs H Q _ => ∃ (a l : Addr) (xs : List Str) (n : Nat), vs = [.ref a, .ref l] ∧ BagAt H a n ∧ n < 900000 ∧ SqL K H l (xs.map V.str) ∧ l ≠ a ∧ xs.length ≤ 10 ∧
  ∀ (p : Addr) (ys zs : List Str) (H' : Hp), zs.Sublist xs → ys.Perm zs → sortedS ys = true → H' p = some (.tup (ys.map V.str)) → H p = none → BagAt H' a (n + xs.length) → Kq [a] H H' → Q (.ref p) H'
section
variable {P : Program} {w : World} {K : PySem.W.Frag} {mg : Str → Option Value} {base : Heap}
theorem scSome : FnScope ["_law_bag_here", "_law_items", "_law_one"] ["_law_bag_here", "_law_items"] (defScope sSome) := ⟨rfl, rfl, rfl, by decide +kernel, rfl, by decide +kernel, by decide +kernel⟩
theorem ok_some {f g : Addr} {fd gd : FuncData} (F : Fun K "_law_some" "_law_some" sSome f fd) (G : FnOk P w K mg base CX0 1 g gd ["_law_bag_here", "_law_many"] spTake) (kG : PySem.W.keepIn K (.ref g) = true) (bG : Binds K gd ["_law_bag_here", "_law_many"] []) (mG : mg "_law_take" = some (.ref g))
    (mt : mg "tuple" = none) (ms : mg "sorted" = none) : FnOk P w K mg base CX0 2 f fd ["_law_bag_here", "_law_items"] (spSome K) := by
  refine F.ok scSome (fun vs H Q E h => ?_) (fun cdv A outer s H vs Q E hr h => ?_)
  · obtain ⟨a, l, xs, n, rfl, _⟩ := h
    rfl
  obtain ⟨a, l, xs, n, rfl, hB, hn, hS, hne, h1, k⟩ := h
  refine ⟨_, pss_one (ps_ret (pe_tupleOf (by rfl) mt (pe_callB cr_sortedS (by rfl) ms (by decide +kernel) (pa_cons
    (pe_lc (own := [("_law_one", 2)]) (g := gName 2) (by rfl) scSome.nd (pi_list (pv 1)) (blkOk_by (own := [("_law_one", 2)]) (N := ["_law_bag_here", "_law_items", "_law_one"]) (sc := defScope sSome) (by decide +kernel))
      (fun _ _ _ _ _ => pg_name (i := 2) scSome.nd rfl (Or.inl rfl)) (fun _ _ _ _ _ => pts_one (pt_cmpR op_eq (pe_call G hr rfl mG kG bG .nil pass0 (pa_cons (pv 0) (pa_cons pe_int pa_nil))) pe_int (nomark _))) (fun _ _ _ _ _ => pv 2)) pa_nil)))), ?_⟩
  refine ⟨_, rfl, l, rfl, ⟨_, hS⟩, fun D hD => ?_⟩
  have nDa : D ≠ a := fun z => by
    obtain ⟨d, x, c, e, _⟩ := hB
    rw [z, e] at hD
    cases hD
  refine lc_list (K := K) (a := l) (xs := xs.map V.str) (fun i H' => ∃ kept : List Str, kept.Sublist (xs.take i) ∧ H' D = some (.lst (kept.map V.str)) ∧ BagAt H' a (n + i) ∧ Kq [a] H H')
    ⟨[], List.Sublist.refl _, upd_same, hB.new hD, (Kq.refl _ _).new hD⟩ (fun i H' _ ⟨_, _, _, _, q⟩ => q.seqL (by simp [hne]) hS) ?_ ?_
  · rintro i y H' hi ⟨kept, hk, eD, hB', kq⟩
    have hil : i < xs.length := by
      have := (List.getElem?_eq_some_iff.mp hi).1
      rw [List.length_map] at this
      exact this
    have ey : y = V.str xs[i] := by
      rw [List.getElem?_map, List.getElem?_eq_getElem hil] at hi
      exact (Option.some.inj hi).symm
    subst ey
    have et : xs.take (i + 1) = xs.take i ++ [xs[i]] := take_succ_get xs i hil
    refine ⟨rfl, _, rfl, a, 2, n + i, rfl, hB', by omega, by decide, by decide, fun r H2 r0 r1 hB2 kp => ⟨rfl, _, rfl, ?_⟩⟩
    have eD2 : H2 D = some (.lst (kept.map V.str)) := kp D _ nDa eD
    have kq2 : Kq [a] H H2 := kq.trans kp.kq
    refine ite2 (fun z => ?_) (fun z => ?_)
    · refine ⟨_, rfl, _, eD2, ?_, kept ++ [xs[i]], ?_, ?_, ?_, kq2.put hD⟩
      · rw [List.length_map]
        have := hk.length_le
        rw [List.length_take] at this
        exact small1000 (by omega)
      · rw [et]
        exact hk.append (List.Sublist.refl _)
      · rw [upd_same, List.map_append]
        rfl
      · exact (hB2.mono (by omega)).put nDa
    · exact ⟨kept, by rw [et]; exact hk.trans (List.sublist_append_left _ _), eD2, hB2.mono (by omega), kq2⟩
  · rintro H' ⟨kept, hk, eD, hB', kq⟩
    rw [List.length_map] at hk hB'
    rw [List.take_length] at hk
    have hl : kept.length ≤ 10 := Nat.le_trans hk.length_le h1
    refine ⟨D, kept, rfl, SqL.of eD, by omega, fun ys p hp hs hn' => ?_⟩
    refine .inl ⟨p, _, rfl, SqL.of upd_same, fun q hq => ?_⟩
    have hqp : q ≠ p := fun z => by
      rw [z, upd_same] at hq
      cases hq
    rw [upd_ne hqp] at hq
    have hpn : H p = none := kq.free (by simp [hB'.ne hn']) hn'
    have hqn : H q = none := kq.free (by simp [hB'.ne hq]) hq
    exact k q ys kept _ hk hp hs upd_same hqn ((hB'.put (hB'.ne hn')).put (hB'.ne hq)) ((kq.put hpn).put hqn)
end
end Oo
namespace Oo
open PySem L2 PyProof.Rows
abbrev sKit : Stmt := top 80
/-! ### places, functions, kits -/
def okName (x : Str) : Bool := decide (1 ≤ x.length) && decide (x.length ≤ 8) && x.cps.toList.all fun c => decide (97 ≤ c) && decide (c ≤ 122)
structure Fn where
  name : Str
  ar : Int
  rd : List Str
  st : List Str
def PlW (xs : List Str) : Prop := xs.length ≤ 4 ∧ (∀ x ∈ xs, okName x = true) ∧ sortedS xs = true ∧ xs.Nodup
def FnW (f : Fn) : Prop := okName f.name = true ∧ 0 ≤ f.ar ∧ f.ar ≤ 3 ∧ PlW f.rd ∧ PlW f.st
def RowAt (H : Hp) (v : V) (f : Fn) : Prop := ∃ p r s : Addr, v = .ref p ∧ H p = some (.tup [.str f.name, .int f.ar, .ref r, .ref s]) ∧ H r = some (.tup (f.rd.map V.str)) ∧ H s = some (.tup (f.st.map V.str))
structure KitW (ps : List Str) (fns : List Fn) : Prop where
  pl : ps.length = 4
  pok : ∀ x ∈ ps, okName x = true
  pnd : ps.Nodup
  fl : fns.length ≤ 3
  fnd : (fns.map (·.name)).Nodup
  fok : ∀ f ∈ fns, FnW f
  sub : ∀ f ∈ fns, (∀ x ∈ f.rd, x ∈ ps) ∧ ∀ x ∈ f.st, x ∈ ps
structure KitAt (H : Hp) (kd pl fl : Addr) (ps : List Str) (fns : List Fn) (g : Bool) : Prop where
  kd : H kd = some (.dK [(Sum.inr "places", .ref pl), (Sum.inr "functions", .ref fl), (Sum.inr "guards", .bl g)])
  pl : H pl = some (.lst (ps.map V.str))
  fl : ∃ rows, H fl = some (.lst rows) ∧ Paired (RowAt H) rows fns
/-- lists stand at the addresses of S -/
def Mut (H : Hp) (S : List Addr) : Prop := ∀ b ∈ S, ∃ xs, H b = some (.lst xs)
theorem Mut.notup {H : Hp} {S : List Addr} (m : Mut H S) : ∀ b ∈ S, ∀ ys, H b ≠ some (.tup ys) := fun b hb ys z => by
  obtain ⟨xs, e⟩ := m b hb
  rw [e] at z
  cases z
theorem Mut.same {H H' : Hp} {S : List Addr} (m : Mut H S) (s : Same H H') : Mut H' S := fun b hb => (m b hb).imp fun _ e => s _ _ e
theorem BagAt.mut {H : Hp} {a : Addr} {n : Nat} (b : BagAt H a n) : Mut H [a] := fun c hc => by
  obtain ⟨d, x, c', e, _⟩ := b
  rw [List.mem_singleton.mp hc]
  exact ⟨_, e⟩
theorem RowAt.keep {H H' : Hp} {v : V} {f : Fn} (h : ∀ p xs, H p = some (.tup xs) → H' p = some (.tup xs)) (r : RowAt H v f) : RowAt H' v f := by
  obtain ⟨p, r, s, e, h1, h2, h3⟩ := r
  exact ⟨p, r, s, e, h _ _ h1, h _ _ h2, h _ _ h3⟩
theorem KitAt.kq {S : List Addr} {H H' : Hp} {kd pl fl : Addr} {ps : List Str} {fns : List Fn} {g : Bool} (k : KitAt H kd pl fl ps fns g) (q : Kq S H H') (m : Mut H S) (hp : pl ∉ S) (hf : fl ∉ S) : KitAt H' kd pl fl ps fns g := by
  obtain ⟨h1, h2, rows, h3, h4⟩ := k
  refine ⟨q _ _ (fun z => ?_) h1, q _ _ hp h2, rows, q _ _ hf h3, L2.Paired.mapP h4 fun a b r => r.keep fun p xs e => q.tup m.notup e⟩
  obtain ⟨xs, e⟩ := m _ z
  rw [e] at h1
  cases h1
theorem cutV_sub (xs : List V) (lo hi : Option Int) : (cutV xs lo hi).Sublist xs := by
  unfold cutV
  exact (List.take_sublist _ _).trans (List.drop_sublist _ _)
theorem sub_map_str {ys : List V} {xs : List Str} (h : ys.Sublist (xs.map V.str)) : ∃ zs : List Str, zs.Sublist xs ∧ ys = zs.map V.str := by
  obtain ⟨zs, h1, h2⟩ := List.sublist_map_iff.mp h
  exact ⟨zs, h1, h2⟩
/-- texts written in a list -/
def pools : List (List Str) := [["x", "y", "z", "w"], ["a", "aa", "aaa", "aaaaaaaa"], ["f", "g", "h", "x"], ["zb", "zc", "b", "c"]]
def namesL : List (List Str) := [["f", "g", "h"], ["a", "ab", "abcdefgh"], ["x", "f", "zz"]]
theorem pools_ok : ∀ ps ∈ pools, ps.length = 4 ∧ (∀ x ∈ ps, okName x = true) ∧ ps.Nodup := by decide +kernel
theorem names_ok : ∀ ps ∈ namesL, ps.length = 3 ∧ (∀ x ∈ ps, okName x = true) ∧ ps.Nodup := by decide +kernel
theorem paired_mem {α β : Type} {F : α → β → Prop} : ∀ {xs : List α} {ys : List β} {x : α}, Paired F xs ys → x ∈ xs → ∃ y, y ∈ ys ∧ F x y
  | _, _, _, .nil, h => by cases h
  | _, _, x, .cons f t, h => by
    rcases List.mem_cons.mp h with e | h
    · rw [e]; exact ⟨_, List.mem_cons_self, f⟩
    · obtain ⟨y, h1, h2⟩ := paired_mem t h
      exact ⟨y, List.mem_cons_of_mem _ h1, h2⟩
/-- a new list of new lists of texts -/
def tLL (LL : List (List Str)) : TE := fun _ H Q => ∀ (p : Addr) (as : List Addr) (H' : Hp), H p = none → (∀ x ∈ as, H x = none) → Same H H' → H' p = some (.lst (as.map V.ref)) → Paired (fun (x : Addr) (ps : List Str) => H' x = some (.lst (ps.map V.str))) as LL → Q (.ref p) H'
def kP : Key := Sum.inr "places"
def kF : Key := Sum.inr "functions"
def kG : Key := Sum.inr "guards"
theorem kit_merge (x y z : V) : mergeK [] [(kP, x), (kF, y), (kG, z)] = [(kP, x), (kF, y), (kG, z)] := by
  have h1 : ¬ (kP = kF) := by decide +kernel
  have h2 : ¬ (kP = kG) := by decide +kernel
  have h3 : ¬ (kF = kG) := by decide +kernel
  simp [mergeK, putK, h1, h2, h3]
def spKit : Sp := fun vs H Q _ => ∃ (a : Addr) (g : Bool) (n : Nat), vs = [.ref a, .bl g] ∧ BagAt H a n ∧ n < 800000 ∧
  ∀ (kd pl fl : Addr) (ps : List Str) (fns : List Fn) (H' : Hp), KitAt H' kd pl fl ps fns g → KitW ps fns → pl ≠ a → fl ≠ a → BagAt H' a (n + 40) → Kq [a] H H' → Q (.ref kd) H'
section
variable {P : Program} {w : World} {K : PySem.W.Frag} {mg : Str → Option Value} {base : Heap} {X : Cx}
theorem scKit : FnScope ["_law_bag_here", "_law_guards", "_law_pools", "_law_places", "_law_names", "_law_functions", "_law_name"] ["_law_bag_here", "_law_guards"] (defScope sKit) := ⟨rfl, rfl, rfl, by decide +kernel, rfl, by decide +kernel, by decide +kernel⟩
abbrev pBN := ["_law_bag_here", "_law_many"]
abbrev pBI := ["_law_bag_here", "_law_items"]
theorem ok_kit {f ft fo fs : Addr} {fd fdt fdo fds : FuncData} (F : Fun K "_law_kit" "_law_kit" sKit f fd)
    (GT : FnOk P w K mg base CX0 1 ft fdt ["_law_bag_here", "_law_many"] spTake) (kT : PySem.W.keepIn K (.ref ft) = true) (bT : Binds K fdt ["_law_bag_here", "_law_many"] []) (mT : mg "_law_take" = some (.ref ft))
    (GO : FnOk P w K mg base CX0 2 fo fdo ["_law_bag_here", "_law_items"] (spOf K)) (kO : PySem.W.keepIn K (.ref fo) = true) (bO : Binds K fdo ["_law_bag_here", "_law_items"] []) (mO : mg "_law_of" = some (.ref fo))
    (GS : FnOk P w K mg base CX0 2 fs fds ["_law_bag_here", "_law_items"] (spSome K)) (kS : PySem.W.keepIn K (.ref fs) = true) (bS : Binds K fds ["_law_bag_here", "_law_items"] []) (mS : mg "_law_some" = some (.ref fs)) :
    FnOk P w K mg base CX0 3 f fd ["_law_bag_here", "_law_guards"] spKit := by
  refine F.ok scKit (fun vs H Q E h => ?_) (fun cdv A outer s H vs Q E hr h => ?_)
  · obtain ⟨a, g, n, rfl, _⟩ := h
    rfl
  obtain ⟨a, g, n, rfl, hB, hn, k⟩ := h
  have hr1 : Room 1 _ := hr.mono (by decide)
  have hu := hu_of hr
  refine ⟨_, pss_cons (ps_set (i := 2) scKit.nd rfl (.inl rfl) (pe_as (t' := tLL pools) (pe_lst (pa_cons (pe_lst (pa_cons pe_str (pa_cons pe_str (pa_cons pe_str (pa_cons pe_str pa_nil))))) (pa_cons (pe_lst (pa_cons pe_str (pa_cons pe_str (pa_cons pe_str (pa_cons pe_str pa_nil)))))
        (pa_cons (pe_lst (pa_cons pe_str (pa_cons pe_str (pa_cons pe_str (pa_cons pe_str pa_nil))))) (pa_cons (pe_lst (pa_cons pe_str (pa_cons pe_str (pa_cons pe_str (pa_cons pe_str pa_nil))))) pa_nil))))) ?c1))
    (pss_cons (ps_set (i := 3) scKit.nd rfl (.inl rfl) (pe_call GO hr rfl mO kO bO .nil pass0 (pa_cons (pv 0) (pa_cons (pv 2) pa_nil))))
    (pss_cons (ps_set (i := 4) scKit.nd rfl (.inl rfl) (pe_call GO hr rfl mO kO bO .nil pass0 (pa_cons (pv 0) (pa_cons (pe_as (t' := tLL namesL) (pe_lst (pa_cons (pe_lst (pa_cons pe_str (pa_cons pe_str (pa_cons pe_str pa_nil)))) (pa_cons (pe_lst (pa_cons pe_str (pa_cons pe_str (pa_cons pe_str pa_nil))))
        (pa_cons (pe_lst (pa_cons pe_str (pa_cons pe_str (pa_cons pe_str pa_nil)))) pa_nil)))) ?c2) pa_nil))))
    (pss_cons (ps_set (i := 5) scKit.nd rfl (.inl rfl) (pe_lst pa_nil))
    (pss_cons (ps_for PassesOwn.never rfl (pi_list (pe_slice sl_list (pv 4) po_none (po_some (pe_call GT hr1 rfl mT kT bT .nil pass0 (pa_cons (pv 0) (pa_cons pe_int pa_nil)))))) (pg_name (i := 6) scKit.nd rfl (.inl rfl))
        (pss_one (ps_expr (pe_bm PySem.F.plainAttrs_list PySem.F.slot_list_append PySem.F.type_list_append mt_append (pv 5) (pa_cons (pe_tup (pa_cons (pv 6) (pa_cons (pe_call GT hr1 rfl mT kT bT .nil pass0 (pa_cons (pv 0) (pa_cons pe_int pa_nil)))
          (pa_cons (pe_call GS hr rfl mS kS bS .nil pass0 (pa_cons (pv 0) (pa_cons (pv 3) pa_nil))) (pa_cons (pe_call GS hr rfl mS kS bS .nil pass0 (pa_cons (pv 0) (pa_cons (pv 3) pa_nil))) pa_nil))))) pa_nil)))))
    (pss_one (ps_ret (pe_disp (pps_cons pe_str (pv 3) (pps_cons pe_str (pv 5) (pps_cons pe_str (pv 1) pps_nil))) (by rfl) (by rfl) (fun z => by cases z) (by decide)))))))), ?_⟩
  case c1 =>
    intro σ H Q q
    refine ⟨sz (by decide), fun l1 n1 => ⟨sz (by decide), fun l2 n2 => ⟨sz (by decide), fun l3 n3 => ⟨sz (by decide), fun l4 n4 => ⟨sz (by show 4 ≤ 1000; decide), fun lp np => ?_⟩⟩⟩⟩⟩
    have s1 := same_up (o := .lst [V.str "x", .str "y", .str "z", .str "w"]) n1
    have s2 := same_up (o := .lst [V.str "a", .str "aa", .str "aaa", .str "aaaaaaaa"]) n2
    have s3 := same_up (o := .lst [V.str "f", .str "g", .str "h", .str "x"]) n3
    have s4 := same_up (o := .lst [V.str "zb", .str "zc", .str "b", .str "c"]) n4
    have s5 := same_up (o := .lst [V.ref l1, .ref l2, .ref l3, .ref l4]) np
    have t2 := s1.trans s2
    have t3 := t2.trans s3
    have t4 := t3.trans s4
    refine q lp [l1, l2, l3, l4] _ (t4.free np) ?_ (t4.trans s5) upd_same (.cons (s5 _ _ (s4 _ _ (s3 _ _ (s2 _ _ upd_same)))) (.cons (s5 _ _ (s4 _ _ (s3 _ _ upd_same))) (.cons (s5 _ _ (s4 _ _ upd_same)) (.cons (s5 _ _ upd_same) .nil))))
    intro x hx
    simp only [List.mem_cons, List.not_mem_nil, or_false] at hx
    rcases hx with rfl | rfl | rfl | rfl
    · exact n1
    · exact s1.free n2
    · exact t2.free n3
    · exact t3.free n4
  case c2 =>
    intro σ H Q q
    refine ⟨sz (by decide), fun l1 n1 => ⟨sz (by decide), fun l2 n2 => ⟨sz (by decide), fun l3 n3 => ⟨sz (by show 3 ≤ 1000; decide), fun lp np => ?_⟩⟩⟩⟩
    have s1 := same_up (o := .lst [V.str "f", .str "g", .str "h"]) n1
    have s2 := same_up (o := .lst [V.str "a", .str "ab", .str "abcdefgh"]) n2
    have s3 := same_up (o := .lst [V.str "x", .str "f", .str "zz"]) n3
    have s5 := same_up (o := .lst [V.ref l1, .ref l2, .ref l3]) np
    have t2 := s1.trans s2
    have t3 := t2.trans s3
    refine q lp [l1, l2, l3] _ (t3.free np) ?_ (t3.trans s5) upd_same (.cons (s5 _ _ (s3 _ _ (s2 _ _ upd_same))) (.cons (s5 _ _ (s3 _ _ upd_same)) (.cons (s5 _ _ upd_same) .nil)))
    intro x hx
    simp only [List.mem_cons, List.not_mem_nil, or_false] at hx
    rcases hx with rfl | rfl | rfl
    · exact n1
    · exact s1.free n2
    · exact t2.free n3
  -- pools
  intro lp as1 H1 np na s1 e1 P1
  have hB1 := same_bag s1 hB
  have npa : lp ≠ a := hB.ne np
  -- places
  refine ⟨_, rfl, _, rfl, a, lp, _, n, rfl, hB1, by omega, SqL.of e1, npa, ?_, ?_, fun v H2 hv hB2 kp2 => ?_⟩
  · rw [List.length_map, P1.length]; decide
  · rw [List.length_map, P1.length]; decide
  obtain ⟨pl, hpl, rfl⟩ := List.mem_map.mp hv
  obtain ⟨ps, hps, epl⟩ : ∃ ps, ps ∈ pools ∧ H1 pl = some (.lst (ps.map V.str)) := paired_mem P1 hpl
  have nplp : pl ≠ a := hB.ne (na _ hpl)
  have epl2 := kp2 _ _ nplp epl
  have q2 : Kq [a] H H2 := (same_kq s1).trans kp2.kq
  obtain ⟨pk1, pk2, pk3⟩ := pools_ok ps hps
  -- names
  refine ⟨_, rfl, ?_⟩
  intro ln as2 H3 nn na2 s3 e3 P3
  have hB3 := same_bag s3 hB2
  have nna : ln ≠ a := hB2.ne nn
  refine ⟨a, ln, _, n + 1, rfl, hB3, by omega, SqL.of e3, nna, ?_, ?_, fun v H4 hv4 hB4 kp4 => ?_⟩
  · rw [List.length_map, P3.length]; decide
  · rw [List.length_map, P3.length]; decide
  obtain ⟨nl, hnl, rfl⟩ := List.mem_map.mp hv4
  obtain ⟨ns, hns, enl⟩ : ∃ ps, ps ∈ namesL ∧ H3 nl = some (.lst (ps.map V.str)) := paired_mem P3 hnl
  obtain ⟨nk1, nk2, nk3⟩ := names_ok ns hns
  have nnl : nl ≠ a := hB2.ne (na2 _ hnl)
  have enl4 := kp4 _ _ nnl enl
  have q4 : Kq [a] H H4 := (q2.trans (same_kq s3)).trans kp4.kq
  have epl4 := kp4 _ _ nplp (s3 _ _ epl2)
  -- functions = []
  refine ⟨sz (by decide), fun fl nf => ?_⟩
  have nfa : fl ≠ a := hB4.ne nf
  have nfp : pl ≠ fl := ne_of_none epl4 nf
  have nfn : nl ≠ fl := ne_of_none enl4 nf
  -- names[:take(bag, 4)]
  refine ⟨_, rfl, _, rfl, a, 4, n + 2, rfl, hB4.new nf, by omega, by decide, by decide, fun r H5 r0 r1 hB5 kp5 => ?_⟩
  have efl5 : H5 fl = some (.lst []) := kp5 _ _ nfa upd_same
  have enl5 : H5 nl = some (.lst (ns.map V.str)) := kp5 _ _ nnl (by rw [upd_ne nfn]; exact enl4)
  have epl5 : H5 pl = some (.lst (ps.map V.str)) := kp5 _ _ nplp (by rw [upd_ne nfp]; exact epl4)
  have hfl : H fl = none := q4.free (by simp [nfa]) nf
  have q5 : Kq [a] H H5 := (q4.put hfl).trans kp5.kq
  refine ⟨r, rfl, nl, _, rfl, SqL.of enl5, fun cp nc => ?_⟩
  have nca : cp ≠ a := hB5.ne nc
  have hcp : H cp = none := q5.free (by simp [nca]) nc
  obtain ⟨zs, hz1, hz2⟩ := sub_map_str (cutV_sub (ns.map V.str) none (some r))
  rw [hz2]
  have hz3 : zs.length ≤ 3 := by have := hz1.length_le; omega
  have ncf : cp ≠ fl := fun z => by rw [z, efl5] at nc; cases nc
  have ncp : cp ≠ pl := fun z => by rw [z, epl5] at nc; cases nc
  have nfpl : fl ≠ pl := nfp.symm
  refine ⟨cp, rfl, ⟨_, SqL.of upd_same⟩, for_list (K := K) (a := cp) (xs := zs.map V.str) (fun i σ H' => ∃ (v : Option V) (rows : List V) (fns : List Fn), σ = [some (.ref a), some (.bl g), some (.ref lp), some (.ref pl), some (.ref nl), some (.ref fl), v] ∧
      H' fl = some (.lst rows) ∧ Paired (RowAt H') rows fns ∧ fns.map (·.name) = zs.take i ∧ (∀ f ∈ fns, FnW f ∧ ((∀ x ∈ f.rd, x ∈ ps) ∧ ∀ x ∈ f.st, x ∈ ps)) ∧ H' pl = some (.lst (ps.map V.str)) ∧ H' cp = some (.lst (zs.map V.str)) ∧ BagAt H' a (n + 3 + i * 9) ∧ Kq [a] H H')
    ⟨none, [], [], rfl, by rw [upd_ne ncf.symm]; exact efl5, .nil, rfl, by simp, by rw [upd_ne ncp.symm]; exact epl5, upd_same, (hB5.new nc).mono (by omega), q5.put hcp⟩
    (fun i σ H' _ ⟨_, _, _, _, _, _, _, _, _, e, _⟩ => SqL.of e) ?_ ?_⟩
  · rintro i y σ H' hi ⟨v, rows, fns, rfl, ef, pr, en, fw, ep, ec, hB', q'⟩
    have hil : i < zs.length := by
      have := (List.getElem?_eq_some_iff.mp hi).1
      rw [List.length_map] at this
      exact this
    have ey : y = V.str zs[i] := by
      rw [List.getElem?_map, List.getElem?_eq_getElem hil] at hi
      exact (Option.some.inj hi).symm
    subst ey
    have hzi : zs[i] ∈ ns := hz1.subset (List.getElem_mem hil)
    have hrows : rows.length ≤ 3 := by
      rw [pr.length]
      have := congrArg List.length en
      rw [List.length_map, List.length_take] at this
      omega
    refine ⟨_, rfl, .inl ⟨rfl, _, SqL.of ef⟩, _, rfl, _, rfl, a, 4, _, rfl, hB', by omega, by decide, by decide, fun ar H6 a0 a1 hB6 kp6 => ?_⟩
    have ep6 := kp6 _ _ nplp ep
    refine ⟨_, rfl, _, rfl, a, pl, ps, _, rfl, hB6, by omega, SqL.of ep6, nplp, by omega, fun p7 ys7 zs7 H7 sb7 pm7 so7 e7 n7 hB7 q7 => ?_⟩
    have ep7 := q7 _ _ (by simp [nplp]) ep6
    refine ⟨_, rfl, _, rfl, a, pl, ps, _, rfl, hB7, by omega, SqL.of ep7, nplp, by omega, fun p8 ys8 zs8 H8 sb8 pm8 so8 e8 n8 hB8 q8 => ?_⟩
    refine ⟨sz (by show 4 ≤ 1000; decide), fun tp nt => ?_⟩
    have q68 : Kq [a] H' H8 := (kp6.kq.trans q7).trans q8
    have ef8 : H8 fl = some (.lst rows) := q68 _ _ (by simp [nfa]) ef
    have ntf : tp ≠ fl := fun z => by rw [z, ef8] at nt; cases nt
    have e7' : H8 p7 = some (.tup (ys7.map V.str)) := q8.tup hB7.mut.notup e7
    have h8n : Kq [a] H H8 := q'.trans q68
    have htp : H tp = none := h8n.free (by simp [hB8.ne nt]) nt
    refine ⟨fl, rows, _, rfl, rfl, by rw [upd_ne ntf.symm]; exact ef8, small1000 (by omega), ?_⟩
    have fnW : FnW ⟨zs[i], ar, ys7, ys8⟩ := by
      have w : ∀ (ys zz : List Str), zz.Sublist ps → ys.Perm zz → sortedS ys = true → PlW ys := fun ys zz h1 h2 h3 => by
        refine ⟨?_, fun x hx => ?_, h3, ?_⟩
        · rw [h2.length_eq]
          have := h1.length_le
          omega
        · exact pk2 x (h1.subset (h2.mem_iff.mp hx))
        · exact h2.nodup_iff.mpr (pk3.sublist h1)
      exact ⟨nk2 _ hzi, a0, (show ar ≤ 3 by omega), w _ _ sb7 pm7 so7, w _ _ sb8 pm8 so8⟩
    have kt : ∀ p xs, H' p = some (.tup xs) → H8 p = some (.tup xs) := fun p xs e => q68.tup hB'.mut.notup e
    have ku : ∀ p xs, H8 p = some (.tup xs) → (upd (upd H8 tp (.tup [V.str zs[i], .int ar, .ref p7, .ref p8])) fl (.lst (rows ++ [V.ref tp]))) p = some (.tup xs) := fun p xs e => by
      rw [upd_ne (fun z => by rw [z, ef8] at e; cases e), upd_ne (ne_of_none e nt)]
      exact e
    refine ⟨some (.str zs[i]), rows ++ [V.ref tp], fns ++ [⟨zs[i], ar, ys7, ys8⟩], rfl, upd_same, ?_, ?_, ?_, ?_, ?_, ?_, ?_⟩
    · refine Paired.snoc (L2.Paired.mapP pr fun a b r => r.keep fun p xs e => ku p xs (kt p xs e)) ?_
      exact ⟨tp, p7, p8, rfl, by rw [upd_ne ntf, upd_same], ku _ _ e7', ku _ _ e8⟩
    · rw [List.map_append, en, take_succ_get zs i hil]
      rfl
    · intro f hf
      rcases List.mem_append.mp hf with h | h
      · exact fw f h
      · rw [List.mem_singleton.mp h]; exact ⟨fnW, fun x hx => sb7.subset (pm7.mem_iff.mp hx), fun x hx => sb8.subset (pm8.mem_iff.mp hx)⟩
    · have := q68 _ _ (by simp [nplp]) ep
      rw [upd_ne nfp, upd_ne (ne_of_none this nt)]
      exact this
    · have := q68 _ _ (by simp [nca]) ec
      rw [upd_ne ncf, upd_ne (ne_of_none this nt)]
      exact this
    · exact ((hB8.mono (by omega)).new nt).put nfa
    · exact (h8n.put htp).put hfl
  · rintro σ H' ⟨v, rows, fns, rfl, ef, pr, en, fw, ep, ec, hB', q'⟩
    rw [List.length_map] at en hB'
    rw [List.take_length] at en
    intro kd nk
    refine ⟨_, rfl, _, rfl, _, rfl, upd_same, [(Sum.inr "places", .ref pl), (Sum.inr "functions", .ref fl), (Sum.inr "guards", .bl g)], rfl, (by show 3 ≤ 15; decide), ?_⟩
    have nka := hB'.ne nk
    have hkd : H kd = none := q'.free (by simp [nka]) nk
    refine k kd pl fl ps fns _ ⟨?_, ?_, rows, ?_, ?_⟩ ⟨pk1, pk2, pk3, ?_, ?_, fun f h => (fw f h).1, fun f h => (fw f h).2⟩ nplp nfa ?_ ?_
    · rw [upd_same]
      exact congrArg (fun x => some (HO.dK x)) (kit_merge _ _ _)
    · rw [upd_ne (ne_of_none ep nk), upd_ne (ne_of_none ep nk)]; exact ep
    · rw [upd_ne (ne_of_none ef nk), upd_ne (ne_of_none ef nk)]; exact ef
    · refine L2.Paired.mapP pr fun a b r => r.keep fun p xs e => ?_
      rw [upd_ne (ne_of_none e nk), upd_ne (ne_of_none e nk)]; exact e
    · have := congrArg List.length en
      rw [List.length_map] at this
      omega
    · rw [en]; exact nk3.sublist hz1
    · exact ((hB'.put nka).put nka).mono (by omega)
    · exact (q'.put hkd).put hkd
end
end Oo
namespace Oo
open PySem L2 PyProof.Rows
/-! ### expressions -/
inductive Kd where
  | read (x : Str) | store (x : Str) | step (x : Str) (b : Int) (w : Str) | op (s : Str) | call (f : Str) | thn | and_ | or_ | cho
inductive Ex where
  | num (n : Int)
  | nd (k : Kd) (os : List Ex)
def Kd.head : Kd → List V
  | .read x => [.str "read", .str x]
  | .store x => [.str "store", .str x]
  | .step x b w => [.str "step", .str x, .int b, .str w]
  | .op s => [.str "op", .str s]
  | .call f => [.str "call", .str f]
  | .thn => [.str "then"]
  | .and_ => [.str "and"]
  | .or_ => [.str "or"]
  | .cho => [.str "choose"]
/-- the tuple of a node, its operands being the values vs -/
def NodeAt (H : Hp) (p : Addr) (k : Kd) (vs : List V) : Prop :=
  match k with
  | .call f => ∃ q, H p = some (.tup [.str "call", .str f, .ref q]) ∧ H q = some (.tup vs)
  | k => H p = some (.tup (k.head ++ vs))
mutual
def InE (H : Hp) : Ex → V → Prop
  | .num n, v => v = .int n
  | .nd k os, v => ∃ p vs, v = .ref p ∧ InEs H os vs ∧ NodeAt H p k vs
def InEs (H : Hp) : List Ex → List V → Prop
  | [], vs => vs = []
  | e :: r, vs => ∃ v ws, vs = v :: ws ∧ InE H e v ∧ InEs H r ws
end
theorem NodeAt.keep {H H' : Hp} (h : ∀ p xs, H p = some (.tup xs) → H' p = some (.tup xs)) {p : Addr} {k : Kd} {vs : List V} (n : NodeAt H p k vs) : NodeAt H' p k vs := by
  cases k with
  | call f =>
    obtain ⟨q, h1, h2⟩ := n
    exact ⟨q, h _ _ h1, h _ _ h2⟩
  | _ => exact h _ _ n
mutual
theorem InE.keep {H H' : Hp} (h : ∀ p xs, H p = some (.tup xs) → H' p = some (.tup xs)) : ∀ (e : Ex) (v : V), InE H e v → InE H' e v
  | .num n, v, q => by unfold InE at q ⊢; exact q
  | .nd k os, v, q => by
    unfold InE at q ⊢
    obtain ⟨p, vs, e, q1, q2⟩ := q
    exact ⟨p, vs, e, InEs.keep h os vs q1, q2.keep h⟩
theorem InEs.keep {H H' : Hp} (h : ∀ p xs, H p = some (.tup xs) → H' p = some (.tup xs)) : ∀ (es : List Ex) (vs : List V), InEs H es vs → InEs H' es vs
  | [], vs, q => by unfold InEs at q ⊢; exact q
  | e :: r, vs, q => by
    unfold InEs at q ⊢
    obtain ⟨v, ws, eq, q1, q2⟩ := q
    exact ⟨v, ws, eq, InE.keep h e v q1, InEs.keep h r ws q2⟩
end
theorem InEs.length {H : Hp} : ∀ {es : List Ex} {vs : List V}, InEs H es vs → vs.length = es.length
  | [], vs, q => by unfold InEs at q; rw [q]; rfl
  | e :: r, vs, q => by
    unfold InEs at q
    obtain ⟨v, ws, rfl, _, q2⟩ := q
    rw [List.length_cons, List.length_cons, InEs.length q2]
theorem InEs.nil {H : Hp} : InEs H [] [] := by unfold InEs; rfl
theorem InEs.cons {H : Hp} {e : Ex} {v : V} {r : List Ex} {ws : List V} (h : InE H e v) (t : InEs H r ws) : InEs H (e :: r) (v :: ws) := by unfold InEs; exact ⟨v, ws, rfl, h, t⟩
theorem InEs.snoc {H : Hp} : ∀ {es : List Ex} {vs : List V} {e : Ex} {v : V}, InEs H es vs → InE H e v → InEs H (es ++ [e]) (vs ++ [v])
  | [], vs, e, v, q, h => by
    unfold InEs at q
    subst q
    exact .cons h .nil
  | x :: r, vs, e, v, q, h => by
    unfold InEs at q
    obtain ⟨y, ws, rfl, q1, q2⟩ := q
    exact .cons q1 (InEs.snoc q2 h)
theorem InE.num {H : Hp} {n : Int} : InE H (.num n) (.int n) := by unfold InE; rfl
theorem InE.nd {H : Hp} {k : Kd} {os : List Ex} {p : Addr} {vs : List V} (h : InEs H os vs) (n : NodeAt H p k vs) : InE H (.nd k os) (.ref p) := by unfold InE; exact ⟨p, vs, rfl, h, n⟩
/-! measures -/
mutual
def Ex.depth : Ex → Nat
  | .num _ => 1
  | .nd _ os => 1 + Ex.depths os
def Ex.depths : List Ex → Nat
  | [] => 0
  | e :: r => max e.depth (Ex.depths r)
end
mutual
def Ex.nodes : Ex → Nat
  | .num _ => 1
  | .nd _ os => 1 + Ex.nodess os
def Ex.nodess : List Ex → Nat
  | [] => 0
  | e :: r => e.nodes + Ex.nodess r
end
def Kd.steps : Kd → Nat
  | .read _ => 1
  | .store _ => 1
  | .step _ _ _ => 2
  | .call _ => 1
  | _ => 0
mutual
def Ex.steps : Ex → Nat
  | .num _ => 0
  | .nd k os => k.steps + Ex.stepss os
def Ex.stepss : List Ex → Nat
  | [] => 0
  | e :: r => e.steps + Ex.stepss r
end
def Kd.grd : Kd → Bool
  | .and_ => true
  | .or_ => true
  | .cho => true
  | _ => false
mutual
def Ex.grd : Ex → Bool
  | .num _ => false
  | .nd k os => k.grd || Ex.grds os
def Ex.grds : List Ex → Bool
  | [] => false
  | e :: r => e.grd || Ex.grds r
end
def signs : List Str := ["+", "-", "*", "<"]
def KdW (ps : List Str) (fns : List Fn) : Kd → Nat → Prop
  | .read x, 0 => x ∈ ps
  | .store x, 1 => x ∈ ps
  | .step x b w, 0 => x ∈ ps ∧ (b = 1 ∨ b = -1) ∧ (w = "before" ∨ w = "after")
  | .op s, 2 => s ∈ signs
  | .call f, n => ∃ fn ∈ fns, fn.name = f ∧ fn.ar = (n : Int)
  | .thn, 2 => True
  | .and_, 2 => True
  | .or_, 2 => True
  | .cho, 3 => True
  | _, _ => False
mutual
def ExW (ps : List Str) (fns : List Fn) : Ex → Prop
  | .num n => 0 ≤ n ∧ n ≤ 999999
  | .nd k os => KdW ps fns k os.length ∧ ExWs ps fns os
def ExWs (ps : List Str) (fns : List Fn) : List Ex → Prop
  | [] => True
  | e :: r => ExW ps fns e ∧ ExWs ps fns r
end
def nbd : Nat → Nat
  | 0 => 1
  | d + 1 => 1 + 3 * nbd d
def cost : Nat → Nat
  | 0 => 4
  | d + 1 => 4 + 3 * cost d
/-- what is known of a drawn expression -/
structure DrawnE (ps : List Str) (fns : List Fn) (g : Bool) (d : Nat) (k k' : Int) (e : Ex) : Prop where
  w : ExW ps fns e
  dep : e.depth ≤ d + 1
  nod : e.nodes ≤ nbd d
  stp : (e.steps : Int) + k' = k
  gd : g = false → e.grd = false
/-- .. and of a list of such -/
structure DrawnEs (ps : List Str) (fns : List Fn) (g : Bool) (d : Nat) (k k' : Int) (es : List Ex) : Prop where
  w : ExWs ps fns es
  dep : Ex.depths es ≤ d + 1
  nod : Ex.nodess es ≤ es.length * nbd d
  stp : (Ex.stepss es : Int) + k' = k
  gd : g = false → Ex.grds es = false
theorem DrawnEs.nil {ps : List Str} {fns : List Fn} {g : Bool} {d : Nat} {k : Int} : DrawnEs ps fns g d k k [] := ⟨by unfold ExWs; trivial, by simp [Ex.depths], by simp [Ex.nodess], by simp [Ex.stepss], fun _ => by simp [Ex.grds]⟩
theorem exWs_append {ps : List Str} {fns : List Fn} : ∀ {es : List Ex} {e : Ex}, ExWs ps fns es → ExW ps fns e → ExWs ps fns (es ++ [e])
  | [], e, _, h => by unfold ExWs; exact ⟨h, by unfold ExWs; trivial⟩
  | x :: r, e, q, h => by
    unfold ExWs at q
    show ExWs ps fns (x :: (r ++ [e]))
    unfold ExWs
    exact ⟨q.1, exWs_append q.2 h⟩
theorem depths_append : ∀ (es : List Ex) (e : Ex), Ex.depths (es ++ [e]) = max (Ex.depths es) e.depth
  | [], e => by simp [Ex.depths]
  | x :: r, e => by
    show Ex.depths (x :: (r ++ [e])) = _
    simp only [Ex.depths, depths_append r e]
    omega
theorem nodess_append : ∀ (es : List Ex) (e : Ex), Ex.nodess (es ++ [e]) = Ex.nodess es + e.nodes
  | [], e => by simp [Ex.nodess]
  | x :: r, e => by
    show Ex.nodess (x :: (r ++ [e])) = _
    simp only [Ex.nodess, nodess_append r e]
    omega
theorem stepss_append : ∀ (es : List Ex) (e : Ex), Ex.stepss (es ++ [e]) = Ex.stepss es + e.steps
  | [], e => by simp [Ex.stepss]
  | x :: r, e => by
    show Ex.stepss (x :: (r ++ [e])) = _
    simp only [Ex.stepss, stepss_append r e]
    omega
theorem grds_append : ∀ (es : List Ex) (e : Ex), Ex.grds (es ++ [e]) = (Ex.grds es || e.grd)
  | [], e => by simp [Ex.grds]
  | x :: r, e => by
    show Ex.grds (x :: (r ++ [e])) = _
    simp only [Ex.grds, grds_append r e, Bool.or_assoc]
theorem DrawnEs.snoc {ps : List Str} {fns : List Fn} {g : Bool} {d : Nat} {k k1 k2 : Int} {es : List Ex} {e : Ex} (a : DrawnEs ps fns g d k k1 es) (b : DrawnE ps fns g d k1 k2 e) : DrawnEs ps fns g d k k2 (es ++ [e]) := by
  refine ⟨exWs_append a.w b.w, ?_, ?_, ?_, fun z => ?_⟩
  · rw [depths_append]
    have h1 := a.dep
    have h2 := b.dep
    omega
  · rw [nodess_append, List.length_append, List.length_singleton, Nat.succ_mul]
    exact Nat.add_le_add a.nod b.nod
  · rw [stepss_append]
    have h1 := a.stp
    have h2 := b.stp
    push_cast
    omega
  · rw [grds_append, a.gd z, b.gd z]
    rfl
/-- a node over drawn operands -/
theorem DrawnEs.nd {ps : List Str} {fns : List Fn} {g : Bool} {d : Nat} {k k' k0 : Int} {es : List Ex} {c : Kd} (a : DrawnEs ps fns g d k k' es) (hk : KdW ps fns c es.length) (hl : es.length ≤ 3) (h0 : (c.steps : Int) + k = k0) (hg : g = false → c.grd = false) :
    DrawnE ps fns g (d + 1) k0 k' (.nd c es) := by
  refine ⟨by unfold ExW; exact ⟨hk, a.w⟩, ?_, ?_, ?_, fun z => ?_⟩
  · unfold Ex.depth
    have := a.dep
    omega
  · unfold Ex.nodes
    have h1 := a.nod
    have h2 := Nat.mul_le_mul_right (nbd d) hl
    show 1 + Ex.nodess es ≤ 1 + 3 * nbd d
    omega
  · unfold Ex.steps
    have := a.stp
    push_cast
    omega
  · unfold Ex.grd
    rw [hg z, a.gd z]
    rfl
theorem nbd_pos : ∀ d, 1 ≤ nbd d
  | 0 => Nat.le_refl _
  | d + 1 => by unfold nbd; omega
theorem cost_pos : ∀ d, 4 ≤ cost d
  | 0 => Nat.le_refl _
  | d + 1 => by unfold cost; omega
/-- a node without operands, at any depth -/
theorem DrawnE.leaf {ps : List Str} {fns : List Fn} {g : Bool} {d : Nat} {k k0 : Int} {c : Kd} (hk : KdW ps fns c 0) (h0 : (c.steps : Int) + k = k0) (hg : c.grd = false) : DrawnE ps fns g d k0 k (.nd c []) := by
  refine ⟨by unfold ExW ExWs; exact ⟨hk, trivial⟩, ?_, ?_, ?_, fun _ => ?_⟩
  · simp [Ex.depth, Ex.depths]
  · simp [Ex.nodes, Ex.nodess]; exact nbd_pos d
  · simp [Ex.steps, Ex.stepss]; exact h0
  · simp [Ex.grd, Ex.grds, hg]
theorem DrawnE.int {ps : List Str} {fns : List Fn} {g : Bool} {d : Nat} {k n : Int} (h0 : 0 ≤ n) (h1 : n ≤ 999999) : DrawnE ps fns g d k k (.num n) :=
  ⟨by unfold ExW; exact ⟨h0, h1⟩, by simp [Ex.depth], by simp [Ex.nodes]; exact nbd_pos d, by simp [Ex.steps], fun _ => by simp [Ex.grd]⟩
end Oo
namespace Oo
open PySem L2 PyProof.Rows
abbrev sLeaf : Stmt := top 82
abbrev sGuard : Stmt := top 83
abbrev sExpr : Stmt := top 84
abbrev sRoot : Stmt := top 85
/-- a bag, a kit, the steps that are left -/
structure Sit (H : Hp) (a kd pl fl lf : Addr) (ps : List Str) (fns : List Fn) (g : Bool) (n : Nat) (k : Int) : Prop where
  bag : BagAt H a n
  kit : KitAt H kd pl fl ps fns g
  kw : KitW ps fns
  lef : H lf = some (.lst [.int k])
  k0 : 0 ≤ k
  la : lf ≠ a
  pa : pl ≠ a
  fa : fl ≠ a
  pL : pl ≠ lf
  fL : fl ≠ lf
section
variable {H H' : Hp} {a kd pl fl lf : Addr} {ps : List Str} {fns : List Fn} {g : Bool} {n m : Nat} {k k' : Int}
theorem Sit.mut (s : Sit H a kd pl fl lf ps fns g n k) : Mut H [a, lf] := fun b hb => by
  rcases List.mem_cons.mp hb with e | hb
  · rw [e]; exact s.bag.mut a List.mem_cons_self
  · rw [List.mem_singleton.mp hb]; exact ⟨_, s.lef⟩
theorem Sit.drawn (s : Sit H a kd pl fl lf ps fns g n k) (q : Kq [a] H H') (b : BagAt H' a m) : Sit H' a kd pl fl lf ps fns g m k :=
  ⟨b, s.kit.kq q s.bag.mut (by simp [s.pa]) (by simp [s.fa]), s.kw, q _ _ (by simp [s.la]) s.lef, s.k0, s.la, s.pa, s.fa, s.pL, s.fL⟩
theorem Sit.mono (s : Sit H a kd pl fl lf ps fns g n k) (h : n ≤ m) : Sit H a kd pl fl lf ps fns g m k := { s with bag := s.bag.mono h }
theorem Sit.same (s : Sit H a kd pl fl lf ps fns g n k) (q : Same H H') : Sit H' a kd pl fl lf ps fns g n k :=
  ⟨same_bag q s.bag, s.kit.kq (S := []) (same_kq q) (fun b hb => by cases hb) (by simp) (by simp), s.kw, q _ _ s.lef, s.k0, s.la, s.pa, s.fa, s.pL, s.fL⟩
theorem Sit.put (s : Sit H a kd pl fl lf ps fns g n k) (h : 0 ≤ k') : Sit (upd H lf (.lst [.int k'])) a kd pl fl lf ps fns g n k' :=
  ⟨s.bag.put s.la, s.kit.kq (S := [lf]) ((Kq.refl _ _).at_ (by simp)) (fun b hb => by rw [List.mem_singleton.mp hb]; exact ⟨_, s.lef⟩) (by simp [s.pL]) (by simp [s.fL]), s.kw, upd_same, h, s.la, s.pa, s.fa, s.pL, s.fL⟩
theorem kq2 (q : Kq [a] H H') : Kq [a, lf] H H' := q.mono fun b hb => by rw [List.mem_singleton.mp hb]; exact List.mem_cons_self
theorem kit_get_p {x y z : V} : valV [(kP, x), (kF, y), (kG, z)] kP = some x := valV_pos rfl
theorem kit_get_f {x y z : V} : valV [(kP, x), (kF, y), (kG, z)] kF = some y := by
  have h1 : ¬ (kP = kF) := by decide +kernel
  rw [valV_neg h1, valV_pos rfl]
theorem kit_get_g {x y z : V} : valV [(kP, x), (kF, y), (kG, z)] kG = some z := by
  have h1 : ¬ (kP = kG) := by decide +kernel
  have h2 : ¬ (kF = kG) := by decide +kernel
  rw [valV_neg h1, valV_neg h2, valV_pos rfl]
theorem KitAt.getP (x : KitAt H kd pl fl ps fns g) : DGet H kd (.str "places") (some (.ref pl)) := .inl ⟨_, kP, .inl x.kd, rfl, kit_get_p.symm⟩
theorem KitAt.getF (x : KitAt H kd pl fl ps fns g) : DGet H kd (.str "functions") (some (.ref fl)) := .inl ⟨_, kF, .inl x.kd, rfl, kit_get_f.symm⟩
theorem KitAt.getG (x : KitAt H kd pl fl ps fns g) : DGet H kd (.str "guards") (some (.bl g)) := .inl ⟨_, kG, .inl x.kd, rfl, kit_get_g.symm⟩
end
def spLeaf : Sp := fun vs H Q _ => ∃ (a kd pl fl lf : Addr) (ps : List Str) (fns : List Fn) (g : Bool) (n : Nat) (k : Int), vs = [.ref a, .ref kd, .ref lf] ∧ Sit H a kd pl fl lf ps fns g n k ∧ n < 700000 ∧
  ∀ (v : V) (e : Ex) (k' : Int) (H' : Hp), InE H' e v → (∀ d, DrawnE ps fns g d k k' e) → Sit H' a kd pl fl lf ps fns g (n + 3) k' → Kq [a, lf] H H' → Q v H'
section
variable {P : Program} {w : World} {K : PySem.W.Frag} {mg : Str → Option Value} {base : Heap} {X : Cx}
abbrev pLeaf : List Str := ["_law_bag_here", "_law_kit_here", "_law_left"]
theorem scLeaf : FnScope ["_law_bag_here", "_law_kit_here", "_law_left"] ["_law_bag_here", "_law_kit_here", "_law_left"] (defScope sLeaf) := ⟨rfl, rfl, rfl, by decide +kernel, rfl, by decide +kernel, by decide +kernel⟩
theorem ok_leaf {f ft fo : Addr} {fd fdt fdo : FuncData} (F : Fun K "_law_leaf" "_law_leaf" sLeaf f fd)
    (GT : FnOk P w K mg base CX0 1 ft fdt ["_law_bag_here", "_law_many"] spTake) (kT : PySem.W.keepIn K (.ref ft) = true) (bT : Binds K fdt ["_law_bag_here", "_law_many"] []) (mT : mg "_law_take" = some (.ref ft))
    (GO : FnOk P w K mg base CX0 2 fo fdo ["_law_bag_here", "_law_items"] (spOf K)) (kO : PySem.W.keepIn K (.ref fo) = true) (bO : Binds K fdo ["_law_bag_here", "_law_items"] []) (mO : mg "_law_of" = some (.ref fo)) :
    FnOk P w K mg base CX0 3 f fd ["_law_bag_here", "_law_kit_here", "_law_left"] spLeaf := by
  refine F.ok scLeaf (fun vs H Q E h => ?_) (fun cdv A outer s H vs Q E hr h => ?_)
  · obtain ⟨a, kd, pl, fl, lf, ps, fns, g, n, k, rfl, _⟩ := h
    rfl
  obtain ⟨a, kd, pl, fl, lf, ps, fns, g, n, k, rfl, S, hn, q⟩ := h
  have hr1 : Room 1 _ := hr.mono (by decide)
  have hu := hu_of hr
  refine ⟨_, pss_cons (ps_if (pt_as (t' := fun σ H Q => σ = [some (.ref a), some (.ref kd), some (.ref lf)] ∧ Sit H a kd pl fl lf ps fns g n k ∧ ∀ (b : Bool) (H1 : Hp), Sit H1 a kd pl fl lf ps fns g (n + 1) k → Kq [a] H H1 → (b = true → 0 < k) → Q b H1)
        (PW.pt (pw_and (pt_cmpR op_gt (pe_ix ix_list (pv 2) pe_int (fun _ _ => rfl)) pe_int (nomark _)) (pw_and1 (pt_cmpR op_gt (pe_call GT hr1 rfl mT kT bT .nil pass0 (pa_cons (pv 0) (pa_cons pe_int pa_nil))) pe_int (nomark _))))) ?c1)
      (pss_cons (ps_asg (pe_op op_sub (pe_ix ix_list (pv 2) pe_int (fun _ _ => rfl)) pe_int) (pg_sub (pv 2) pe_int set_list))
        (pss_one (ps_ret (pe_tup (pa_cons pe_str (pa_cons (pe_call GO hr rfl mO kO bO .nil pass0 (pa_cons (pv 0) (pa_cons (pe_dget hu (pv 1) pe_str (fun _ _ => rfl)) pa_nil))) pa_nil)))))) pss_nil)
    (pss_one (ps_ret (pe_call GO hr rfl mO kO bO .nil pass0 (pa_cons (pv 0) (pa_cons (pe_lst (pa_cons pe_int (pa_cons pe_int (pa_cons pe_int (pa_cons pe_int (pa_cons (pe_call GT hr1 rfl mT kT bT .nil pass0 (pa_cons (pv 0) (pa_cons pe_int pa_nil))) pa_nil)))))) pa_nil))))), ?_⟩
  case c1 =>
    rintro σ H Q ⟨rfl, S, q⟩
    refine ⟨_, rfl, lf, _, _, _, rfl, rfl, SqL.of S.lef, (rfl : atI [V.int k] 0 = some (.int k)), _, _, rfl, rfl, _, rfl, ?_⟩
    refine ite2 (fun z => ?_) (fun z => ?_)
    · have z' : 0 < k := of_decide_eq_true z
      refine ⟨_, rfl, a, 3, n, rfl, S.bag, by omega, by decide, by decide, fun r H1 r0 r1 hB kp => ⟨_, _, rfl, rfl, _, rfl, ?_⟩⟩
      exact q _ H1 (S.drawn kp.kq hB) kp.kq fun _ => z'
    · exact q _ H (S.mono (by omega)) (Kq.refl _ _) fun z => by cases z
  refine ⟨rfl, S, fun b H1 S1 q1 hb => ?_⟩
  cases b with
  | true =>
    refine iteT ?_
    have hk := hb rfl
    refine ⟨_, rfl, lf, _, _, _, rfl, rfl, SqL.of S1.lef, (rfl : atI [V.int k] 0 = some (.int k)), _, _, rfl, rfl, _, rfl, lf, _, _, 0, rfl, rfl, S1.lef, rfl, ?_⟩
    have S2 : Sit (upd H1 lf (.lst [.int (k - 1)])) a kd pl fl lf ps fns g (n + 1) (k - 1) := S1.put (by omega)
    have q2 : Kq [a, lf] H (upd H1 lf (.lst [.int (k - 1)])) := (kq2 q1).at_ (by simp)
    refine ⟨_, rfl, _, rfl, kd, _, rfl, S2.kit.getP, a, pl, _, _, rfl, S2.bag, by omega, SqL.of S2.kit.pl, S2.pa, ?_, ?_, fun v H3 hv hB3 kp3 => ?_⟩
    · rw [List.length_map, S.kw.pl]; decide
    · rw [List.length_map, S.kw.pl]; decide
    obtain ⟨x, hx, rfl⟩ := List.mem_map.mp hv
    have S3 := S2.drawn kp3.kq hB3
    refine ⟨sz (by show 2 ≤ 1000; decide), fun p hp => ?_⟩
    refine q _ (.nd (.read x) []) (k - 1) _ (.nd .nil (by unfold NodeAt; exact upd_same)) (fun d => .leaf (by unfold KdW; exact hx) (by show (1 : Int) + (k - 1) = k; omega) rfl) ((S3.same (same_up hp)).mono (by omega)) ((q2.trans (kq2 kp3.kq)).trans (same_kq (same_up hp)))
  | false =>
    refine iteF ?_
    refine ⟨_, rfl, _, rfl, a, 1000000, _, rfl, S1.bag, by omega, by decide, by decide, fun r H2 r0 r1 hB2 kp2 => ⟨sz (by show 5 ≤ 1000; decide), fun l hl => ?_⟩⟩
    have S2 := S1.drawn kp2.kq hB2
    refine ⟨a, l, _, _, rfl, (S2.same (same_up hl)).bag, by omega, SqL.of upd_same, S2.bag.ne hl, (by show 0 < 5; decide), (by show 5 ≤ 1000; decide), fun v H3 hv hB3 kp3 => ?_⟩
    have q3 : Kq [a] H H3 := ((q1.trans kp2.kq).trans (same_kq (same_up hl))).trans kp3.kq
    have S3 := ((S2.same (same_up hl)).drawn kp3.kq hB3)
    have fin : ∀ z : Int, 0 ≤ z → z ≤ 999999 → Q (.int z) H3 := fun z h0 h1 => q _ (.num z) k H3 .num (fun d => .int h0 h1) S3 (kq2 q3)
    simp only [List.mem_cons, List.not_mem_nil, or_false] at hv
    rcases hv with rfl | rfl | rfl | rfl | rfl
    · exact fin _ (by decide) (by decide)
    · exact fin _ (by decide) (by decide)
    · exact fin _ (by decide) (by decide)
    · exact fin _ (by decide) (by decide)
    · exact fin _ r0 (by omega)
end
end Oo
namespace Oo
open PySem L2 PyProof.Rows
def spExpr (N : Nat) : Sp := fun vs H Q _ => ∃ (a kd pl fl lf : Addr) (ps : List Str) (fns : List Fn) (g : Bool) (n : Nat) (k : Int) (d : Nat), vs = [.ref a, .ref kd, .ref lf, .int (d : Int)] ∧ d < N ∧ d ≤ 10 ∧ Sit H a kd pl fl lf ps fns g n k ∧ n + cost d < 690000 ∧
  ∀ (v : V) (e : Ex) (k' : Int) (H' : Hp), InE H' e v → DrawnE ps fns g d k k' e → Sit H' a kd pl fl lf ps fns g (n + cost d) k' → Kq [a, lf] H H' → Q v H'
def spGuard (N : Nat) : Sp := fun vs H Q _ => ∃ (a kd pl fl lf : Addr) (ps : List Str) (fns : List Fn) (n : Nat) (k : Int) (d : Nat), vs = [.ref a, .ref kd, .ref lf, .int ((d + 1 : Nat) : Int)] ∧ d < N ∧ d ≤ 10 ∧ Sit H a kd pl fl lf ps fns true n k ∧ n + (3 * cost d + 1) < 690000 ∧
  ∀ (v : V) (e : Ex) (k' : Int) (H' : Hp), InE H' e v → DrawnE ps fns true (d + 1) k k' e → Sit H' a kd pl fl lf ps fns true (n + (3 * cost d + 1)) k' → Kq [a, lf] H H' → Q v H'
theorem iteNS' {c A B : Prop} [Decidable c] (hc : ¬ c) (h : A) : if (!decide c) = true then A else B := by
  rw [decide_eq_false hc]
  exact iteT h
theorem DrawnEs.one {ps : List Str} {fns : List Fn} {g : Bool} {d : Nat} {k k' : Int} {e : Ex} (h : DrawnE ps fns g d k k' e) : DrawnEs ps fns g d k k' [e] := DrawnEs.nil.snoc h
theorem InE.sit {H H' : Hp} {e : Ex} {v : V} {S : List Addr} (h : InE H e v) (q : Kq S H H') (m : Mut H S) : InE H' e v := h.keep (fun p xs z => q.tup m.notup z) e v
section
variable {P : Program} {w : World} {K : PySem.W.Frag} {mg : Str → Option Value} {base : Heap} {X : Cx}
theorem scGuard : FnScope ["_law_bag_here", "_law_kit_here", "_law_left", "_law_depth", "_law_first", "_law_second", "_law_word", "_law_found"] ["_law_bag_here", "_law_kit_here", "_law_left", "_law_depth"] (defScope sGuard) := ⟨rfl, rfl, rfl, by decide +kernel, rfl, by decide +kernel, by decide +kernel⟩
theorem ok_guard {N L : Nat} {f fo fe : Addr} {fd fdo fde : FuncData} (F : Fun K "_law_guard" "_law_guard" sGuard f fd) (hL : 2 ≤ L)
    (GO : FnOk P w K mg base CX0 2 fo fdo ["_law_bag_here", "_law_items"] (spOf K)) (kO : PySem.W.keepIn K (.ref fo) = true) (bO : Binds K fdo ["_law_bag_here", "_law_items"] []) (mO : mg "_law_of" = some (.ref fo))
    (GE : FnOk P w K mg base CX0 L fe fde ["_law_bag_here", "_law_kit_here", "_law_left", "_law_depth"] (spExpr N)) (kE : PySem.W.keepIn K (.ref fe) = true) (bE : Binds K fde ["_law_bag_here", "_law_kit_here", "_law_left", "_law_depth"] []) (mE : mg "_law_expr" = some (.ref fe)) :
    FnOk P w K mg base CX0 (L + 1) f fd ["_law_bag_here", "_law_kit_here", "_law_left", "_law_depth"] (spGuard N) := by
  refine F.ok scGuard (fun vs H Q E h => ?_) (fun cdv A outer s H vs Q E hr h => ?_)
  · obtain ⟨a, kd, pl, fl, lf, ps, fns, n, k, d, rfl, _⟩ := h
    rfl
  obtain ⟨a, kd, pl, fl, lf, ps, fns, n, k, d, rfl, hd, hd10, S, hn, q⟩ := h
  have hr2 : Room 2 _ := hr.mono hL
  refine ⟨_, pss_cons (ps_par (i := 4) (j := 5) (by rfl) scGuard.nd rfl rfl (by decide) rfl rfl (pa_cons (pe_call GE hr rfl mE kE bE .nil pass0 (pa_cons (pv 0) (pa_cons (pv 1) (pa_cons (pv 2) (pa_cons (pe_op op_sub (pv 3) pe_int) pa_nil)))))
        (pa_cons (pe_call GE hr rfl mE kE bE .nil pass0 (pa_cons (pv 0) (pa_cons (pv 1) (pa_cons (pv 2) (pa_cons (pe_op op_sub (pv 3) pe_int) pa_nil))))) pa_nil)) (by rfl))
    (pss_cons (ps_set (i := 6) scGuard.nd rfl (.inl rfl) (pe_call GO hr2 rfl mO kO bO .nil pass0 (pa_cons (pv 0) (pa_cons (pe_lst (pa_cons pe_str (pa_cons pe_str (pa_cons pe_str pa_nil)))) pa_nil))))
    (pss_cons (ps_set (i := 7) scGuard.nd rfl (.inl rfl) (pe_tup (pa_cons (pv 6) (pa_cons (pv 4) (pa_cons (pv 5) pa_nil)))))
    (pss_one (ps_ret (pe_ifExp (pt_cmpR op_ne (pv 6) pe_str (nomark _)) (pv 7)
      (pe_op op_catT (pv 7) (pe_tup (pa_cons (pe_call GE hr rfl mE kE bE .nil pass0 (pa_cons (pv 0) (pa_cons (pv 1) (pa_cons (pv 2) (pa_cons (pe_op op_sub (pv 3) pe_int) pa_nil))))) pa_nil)))))))), ?_⟩
  have ed : (((d + 1 : Nat) : Int) - 1) = (d : Int) := by push_cast; omega
  refine ⟨_, rfl, _, rfl, _, rfl, _, rfl, _, _, rfl, rfl, a, kd, pl, fl, lf, ps, fns, true, n, k, d, congrArg (fun z => [V.ref a, V.ref kd, V.ref lf, V.int z]) ed, hd, hd10, S, by omega, fun v1 e1 k1 H1 i1 w1 S1 q1 => ?_⟩
  refine ⟨_, rfl, _, rfl, _, rfl, _, rfl, _, _, rfl, rfl, a, kd, pl, fl, lf, ps, fns, true, _, k1, d, congrArg (fun z => [V.ref a, V.ref kd, V.ref lf, V.int z]) ed, hd, hd10, S1, by omega, fun v2 e2 k2 H2 i2 w2 S2 q2 => ⟨_, _, rfl, ?_⟩⟩
  have i1' := i1.sit q2 S1.mut
  refine ⟨_, rfl, sz (by decide), fun l hl => ?_⟩
  have S2' := S2.same (same_up (o := .lst [V.str "and", .str "or", .str "choose"]) hl)
  have i1'' := i1'.keep (fun p xs z => same_up (o := .lst [V.str "and", .str "or", .str "choose"]) hl _ _ z)
  have i2'' := i2.keep (fun p xs z => same_up (o := .lst [V.str "and", .str "or", .str "choose"]) hl _ _ z)
  refine ⟨a, l, _, _, rfl, S2'.bag, by omega, SqL.of upd_same, S2.bag.ne hl, by decide, by decide, fun v3 H3 hv hB3 kp3 => ?_⟩
  have S3 := S2'.drawn kp3.kq hB3
  have i1a := InE.sit i1'' kp3.kq S2'.bag.mut
  have i2a := InE.sit i2'' kp3.kq S2'.bag.mut
  have q3 : Kq [a, lf] H H3 := ((q1.trans q2).trans (same_kq (same_up hl))).trans (kq2 kp3.kq)
  refine ⟨_, rfl, _, rfl, _, rfl, sz (by show 3 ≤ 1000; decide), fun p hp => ?_⟩
  have S4 := S3.same (same_up (o := .tup [v3, v1, v2]) hp)
  have q4 : Kq [a, lf] H (upd H3 p (.tup [v3, v1, v2])) := q3.trans (same_kq (same_up hp))
  have i1b := i1a.keep (fun p xs z => same_up (o := .tup [v3, v1, v2]) hp _ _ z)
  have i2b := i2a.keep (fun p xs z => same_up (o := .tup [v3, v1, v2]) hp _ _ z)
  have two : DrawnEs ps fns true d k k2 [e1, e2] := (DrawnEs.nil.snoc w1).snoc w2
  simp only [List.mem_cons, List.not_mem_nil, or_false] at hv
  have hne1 : ¬ (V.str "and" = V.str "choose") := by decide +kernel
  have hne2 : ¬ (V.str "or" = V.str "choose") := by decide +kernel
  rcases hv with rfl | rfl | rfl
  · refine ⟨_, rfl, rfl, _, rfl, iteNS' hne1 ⟨_, rfl, ?_⟩⟩
    exact q _ (.nd .and_ [e1, e2]) k2 _ (.nd (.cons i1b (.cons i2b .nil)) (by unfold NodeAt; exact upd_same)) (two.nd (by unfold KdW; trivial) (by show 2 ≤ 3; decide) (by show (0 : Int) + k = k; omega) (fun z => by cases z)) (S4.mono (by omega)) q4
  · refine ⟨_, rfl, rfl, _, rfl, iteNS' hne2 ⟨_, rfl, ?_⟩⟩
    exact q _ (.nd .or_ [e1, e2]) k2 _ (.nd (.cons i1b (.cons i2b .nil)) (by unfold NodeAt; exact upd_same)) (two.nd (by unfold KdW; trivial) (by show 2 ≤ 3; decide) (by show (0 : Int) + k = k; omega) (fun z => by cases z)) (S4.mono (by omega)) q4
  · refine ⟨_, rfl, rfl, _, rfl, iteNS rfl ⟨_, rfl, ?_⟩⟩
    refine ⟨_, rfl, _, rfl, _, rfl, _, rfl, _, _, rfl, rfl, a, kd, pl, fl, lf, ps, fns, true, _, k2, d, congrArg (fun z => [V.ref a, V.ref kd, V.ref lf, V.int z]) ed, hd, hd10, S4, by omega, fun v5 e5 k5 H5 i5 w5 S5 q5 => ?_⟩
    refine ⟨sz (by show 1 ≤ 1000; decide), fun t ht => ?_⟩
    have S6 := S5.same (same_up (o := .tup [v5]) ht)
    have i1c := i1b.sit q5 S4.mut
    have i2c := i2b.sit q5 S4.mut
    have ep : H5 p = some (.tup [V.str "choose", v1, v2]) := q5.tup S4.mut.notup upd_same
    refine ⟨p, t, _, _, rfl, rfl, SqT.of (by rw [upd_ne (ne_of_none ep ht)]; exact ep), SqT.of upd_same, (by simp), sz (by show 4 ≤ 1000; decide), (fun z => by cases z), fun _ u hu' => ?_⟩
    have kk : ∀ p xs, H5 p = some (.tup xs) → (upd (upd H5 t (.tup [v5])) u (.tup ([V.str "choose", v1, v2] ++ [v5]))) p = some (.tup xs) := fun p xs z => same_up hu' _ _ (same_up ht _ _ z)
    exact q _ (.nd .cho [e1, e2, e5]) k5 _ (.nd (.cons (i1c.keep kk) (.cons (i2c.keep kk) (.cons (i5.keep kk) .nil))) (by unfold NodeAt; exact upd_same)) ((two.snoc w5).nd (by unfold KdW; trivial) (by show 3 ≤ 3; decide) (by show (0 : Int) + k = k; omega) (fun z => by cases z))
      ((S6.same (same_up hu')).mono (by omega)) ((q4.trans q5).trans ((same_kq (same_up ht)).trans (same_kq (same_up hu'))))
end
end Oo
namespace Oo
open PySem L2 PyProof.Rows
/-! ### data as the library's equality wants it -/
def dStrs (xs : List Str) : PyData := .tuple (xs.map PyData.str)
def dFn (f : Fn) : PyData := .tuple [.str f.name, .int f.ar, dStrs f.rd, dStrs f.st]
theorem dpAll_strs {K : PySem.W.Frag} {H : Hp} : ∀ xs : List Str, DpAll K H (xs.map V.str) (xs.map PyData.str)
  | [] => .nil
  | x :: r => .cons (.str x) (dpAll_strs r)
theorem RowAt.dp {K : PySem.W.Frag} {H : Hp} {v : V} {f : Fn} (r : RowAt H v f) : Dp K H v (dFn f) := by
  obtain ⟨p, r, s, rfl, h1, h2, h3⟩ := r
  exact .tup (SqT.of h1) (.cons (.str _) (.cons (.int _) (.cons (.tup (SqT.of h2) (dpAll_strs _)) (.cons (.tup (SqT.of h3) (dpAll_strs _)) .nil))))
theorem rows_dp {K : PySem.W.Frag} {H : Hp} : ∀ {rows : List V} {fns : List Fn}, Paired (RowAt H) rows fns → DpAll K H rows (fns.map dFn)
  | _, _, .nil => .nil
  | _, _, .cons r t => .cons r.dp (rows_dp t)
theorem okName_str {x : Str} (h : okName x = true) : PyData.strOk x = true := by
  unfold okName at h
  rw [Bool.and_eq_true] at h
  have h2 := h.2
  unfold PyData.strOk
  rw [Array.all_eq_true']
  rw [List.all_eq_true] at h2
  intro c hc
  have := h2 c (Array.mem_toList_iff.mpr hc)
  simp only [Bool.and_eq_true, decide_eq_true_eq] at this
  exact decide_eq_true (by omega)
theorem canLay_strs : ∀ {xs : List Str}, (∀ x ∈ xs, okName x = true) → PyData.canLayAll0 (xs.map PyData.str) = true
  | [], _ => by simp [PyData.canLayAll0]
  | x :: r, h => by
    simp only [List.map_cons, PyData.canLayAll0, PyData.canLay0, Bool.and_eq_true]
    exact ⟨okName_str (h x List.mem_cons_self), canLay_strs fun y hy => h y (List.mem_cons_of_mem _ hy)⟩
theorem depth_strs : ∀ (xs : List Str), PyData.depthAll (xs.map PyData.str) = 0
  | [] => by simp [PyData.depthAll]
  | x :: r => by simp [PyData.depthAll, PyData.depth, depth_strs r]
theorem canLay_fns : ∀ {fns : List Fn}, (∀ f ∈ fns, FnW f) → PyData.canLayAll0 (fns.map dFn) = true
  | [], _ => by simp [PyData.canLayAll0]
  | f :: r, h => by
    obtain ⟨h1, _, _, h2, h3⟩ := h f List.mem_cons_self
    simp only [List.map_cons, PyData.canLayAll0, Bool.and_eq_true]
    refine ⟨?_, canLay_fns fun y hy => h y (List.mem_cons_of_mem _ hy)⟩
    simp [dFn, dStrs, PyData.canLay0, PyData.canLayAll0, okName_str h1, canLay_strs h2.2.1, canLay_strs h3.2.1]
theorem depth_fns : ∀ (fns : List Fn), PyData.depthAll (fns.map dFn) ≤ 2
  | [] => by simp [PyData.depthAll]
  | f :: r => by
    have := depth_fns r
    simp [PyData.depthAll, PyData.depth, dFn, dStrs, depth_strs]
    omega
theorem shaped_fns {fns : List Fn} (h : ∀ f ∈ fns, FnW f) : SeqAt.shaped (.list (fns.map dFn)) = true := by
  unfold SeqAt.shaped
  rw [Bool.and_eq_true]
  refine ⟨?_, decide_eq_true ?_⟩
  · simp only [PyData.canLay0]; exact canLay_fns h
  · have := depth_fns fns
    simp only [PyData.depth]
    omega
end Oo
namespace Oo
open PySem L2 PyProof.Rows
abbrev nExpr : List Str := ["_law_bag_here", "_law_kit_here", "_law_left", "_law_depth", "_law_way", "_law_by", "_law_when", "_law_one", "_law_parts", "_law_turn", "_law_first", "_law_second"]
section
variable {P : Program} {w : World} {K : PySem.W.Frag} {mg : Str → Option Value} {base : Heap} {X : Cx}
theorem scExpr : FnScope ["_law_bag_here", "_law_kit_here", "_law_left", "_law_depth", "_law_way", "_law_by", "_law_when", "_law_one", "_law_parts", "_law_turn", "_law_first", "_law_second"] ["_law_bag_here", "_law_kit_here", "_law_left", "_law_depth"] (defScope sExpr) := ⟨rfl, rfl, rfl, by decide +kernel, rfl, by decide +kernel, by decide +kernel⟩
theorem yes_i {σ : L2.St} {H : Hp} {F G : Hp → Prop} (h : F H) : tYes σ H (fun b H' => if b = true then F H' else G H') := @iteT (F H) (G H) h
theorem Sit.at_ {H : Hp} {a kd pl fl lf D : Addr} {ps : List Str} {fns : List Fn} {g : Bool} {n : Nat} {k : Int} {ws ws' : List V} (s : Sit H a kd pl fl lf ps fns g n k) (e : H D = some (.lst ws)) (h1 : pl ≠ D) (h2 : fl ≠ D) (h3 : D ≠ a) (h4 : D ≠ lf) :
    Sit (upd H D (.lst ws')) a kd pl fl lf ps fns g n k :=
  ⟨s.bag.put h3, s.kit.kq (S := [D]) ((Kq.refl _ _).at_ (by simp)) (fun b hb => by rw [List.mem_singleton.mp hb]; exact ⟨_, e⟩) (by simp [h1]) (by simp [h2]), s.kw, by rw [upd_ne h4.symm]; exact s.lef, s.k0, s.la, s.pa, s.fa, s.pL, s.fL⟩
theorem ok_expr {N L : Nat} {f ft fo fl' fg fe : Addr} {fd fdt fdo fdl fdg fde : FuncData} (F : Fun K "_law_expr" "_law_expr" sExpr f fd) (hL : 3 ≤ L) (mr : mg "range" = none) (mt : mg "tuple" = none)
    (GT : FnOk P w K mg base CX0 1 ft fdt ["_law_bag_here", "_law_many"] spTake) (kT : PySem.W.keepIn K (.ref ft) = true) (bT : Binds K fdt ["_law_bag_here", "_law_many"] []) (mT : mg "_law_take" = some (.ref ft))
    (GO : FnOk P w K mg base CX0 2 fo fdo ["_law_bag_here", "_law_items"] (spOf K)) (kO : PySem.W.keepIn K (.ref fo) = true) (bO : Binds K fdo ["_law_bag_here", "_law_items"] []) (mO : mg "_law_of" = some (.ref fo))
    (GL : FnOk P w K mg base CX0 3 fl' fdl ["_law_bag_here", "_law_kit_here", "_law_left"] spLeaf) (kL : PySem.W.keepIn K (.ref fl') = true) (bL : Binds K fdl ["_law_bag_here", "_law_kit_here", "_law_left"] []) (mL : mg "_law_leaf" = some (.ref fl'))
    (GE : FnOk P w K mg base CX0 L fe fde ["_law_bag_here", "_law_kit_here", "_law_left", "_law_depth"] (spExpr N)) (kE : PySem.W.keepIn K (.ref fe) = true) (bE : Binds K fde ["_law_bag_here", "_law_kit_here", "_law_left", "_law_depth"] []) (mE : mg "_law_expr" = some (.ref fe))
    (GG : FnOk P w K mg base CX0 (L + 1) fg fdg ["_law_bag_here", "_law_kit_here", "_law_left", "_law_depth"] (spGuard N)) (kG : PySem.W.keepIn K (.ref fg) = true) (bG : Binds K fdg ["_law_bag_here", "_law_kit_here", "_law_left", "_law_depth"] []) (mG : mg "_law_guard" = some (.ref fg)) :
    FnOk P w K mg base CX0 (L + 2) f fd ["_law_bag_here", "_law_kit_here", "_law_left", "_law_depth"] (spExpr (N + 1)) := by
  refine F.ok scExpr (fun vs H Q E h => ?_) (fun cdv A outer s H vs Q E hr h => ?_)
  · obtain ⟨a, kd, pl, fl, lf, ps, fns, g, n, k, d, rfl, _⟩ := h
    rfl
  obtain ⟨a, kd, pl, fl, lf, ps, fns, g, n, k, d, rfl, hd, hd10, S, hn, q⟩ := h
  have hr1 : Room 1 _ := hr.mono (by omega)
  have hr2 : Room 2 _ := hr.mono (by omega)
  have hr3 : Room 3 _ := hr.mono (by omega)
  have hrL : Room L _ := hr.mono (by omega)
  have hu := hu_of hr
  refine ⟨_, (pss_cons (ps_set (i := 4) scExpr.nd rfl (.inl rfl) (pe_call GT hr1 rfl mT kT bT .nil pass0 (pa_cons (pv 0) (pa_cons pe_int pa_nil))))
    (pss_cons (ps_if (pt_as (t' := fun σ H Q => σ[3]? = some (some (.int (d : Int))) ∧ σ[2]? = some (some (.ref lf)) ∧ (∃ r : Int, σ[4]? = some (some (.int r))) ∧ H lf = some (.lst [.int k]) ∧ ∀ b : Bool, (b = false → 1 ≤ d ∧ k ≠ 0) → Q b H) (PW.pt (pw_or (pt_cmpR op_eq (pv 3) pe_int (nomark _)) (pw_or (pt_cmpR op_eq (pe_ix ix_list (pv 2) pe_int (fun _ _ => rfl)) pe_int (nomark _)) (pw_or1 (pt_cmpR op_eq (pv 4) pe_int (nomark _)))))) ?c1) (pss_one (ps_ret (pe_call GL hr3 rfl mL kL bL .nil pass0 (pa_cons (pv 0) (pa_cons (pv 1) (pa_cons (pv 2) pa_nil)))))) pss_nil)
    (pss_cons (ps_if (pt_cmpR op_lt (pv 4) pe_int (nomark _)) (pss_cons (ps_asg (pe_op op_sub (pe_ix ix_list (pv 2) pe_int (fun _ _ => rfl)) pe_int) (pg_sub (pv 2) pe_int set_list))
    (pss_one (ps_ret (pe_tup (pa_cons pe_str (pa_cons (pe_call GO hr2 rfl mO kO bO .nil pass0 (pa_cons (pv 0) (pa_cons (pe_dget hu (pv 1) pe_str (fun _ _ => rfl)) pa_nil))) (pa_cons (pe_call GE hrL rfl mE kE bE .nil pass0 (pa_cons (pv 0) (pa_cons (pv 1) (pa_cons (pv 2) (pa_cons (pe_op op_sub (pv 3) pe_int) pa_nil))))) pa_nil))))))) pss_nil)
    (pss_cons (ps_if (pt_as (t' := fun σ H Q => σ[2]? = some (some (.ref lf)) ∧ (∃ r : Int, σ[4]? = some (some (.int r))) ∧ H lf = some (.lst [.int k]) ∧ ∀ b : Bool, (b = true → 1 < k) → Q b H) (PW.pt (pw_and (pt_cmpR op_lt (pv 4) pe_int (nomark _)) (pw_and1 (pt_cmpR op_gt (pe_ix ix_list (pv 2) pe_int (fun _ _ => rfl)) pe_int (nomark _))))) ?c2) (pss_cons (ps_asg (pe_op op_sub (pe_ix ix_list (pv 2) pe_int (fun _ _ => rfl)) pe_int) (pg_sub (pv 2) pe_int set_list))
    (pss_cons (ps_par (i := 5) (j := 6) (by rfl) scExpr.nd rfl rfl (by decide) rfl rfl (pa_cons (pe_call GO hr2 rfl mO kO bO .nil pass0 (pa_cons (pv 0) (pa_cons (pe_lst (pa_cons pe_int (pa_cons (pe_un un_neg pe_int) pa_nil))) pa_nil))) (pa_cons (pe_call GO hr2 rfl mO kO bO .nil pass0 (pa_cons (pv 0) (pa_cons (pe_lst (pa_cons pe_str (pa_cons pe_str pa_nil))) pa_nil))) pa_nil)) (by rfl))
    (pss_one (ps_ret (pe_tup (pa_cons pe_str (pa_cons (pe_call GO hr2 rfl mO kO bO .nil pass0 (pa_cons (pv 0) (pa_cons (pe_dget hu (pv 1) pe_str (fun _ _ => rfl)) pa_nil))) (pa_cons (pv 5) (pa_cons (pv 6) pa_nil))))))))) pss_nil)
    (pss_cons (ps_if (pt_as (t' := fun σ H Q => σ[1]? = some (some (.ref kd)) ∧ (∃ r : Int, σ[4]? = some (some (.int r))) ∧ KitAt H kd pl fl ps fns g ∧ ∀ (b : Bool) (H1 : Hp), Same H H1 → (b = true → fns ≠ []) → Q b H1) (PW.pt (pw_and (pt_cmpR op_lt (pv 4) pe_int (nomark _)) (pw_and1 (pt_cmpR (op_neD hr.units) (pe_dget hu (pv 1) pe_str (fun _ _ => rfl)) (pe_lst pa_nil) (nomark _))))) ?c3) (pss_cons (ps_asg (pe_op op_sub (pe_ix ix_list (pv 2) pe_int (fun _ _ => rfl)) pe_int) (pg_sub (pv 2) pe_int set_list))
    (pss_cons (ps_set (i := 7) scExpr.nd rfl (.inl rfl) (pe_call GO hr2 rfl mO kO bO .nil pass0 (pa_cons (pv 0) (pa_cons (pe_dget hu (pv 1) pe_str (fun _ _ => rfl)) pa_nil))))
    (pss_cons (ps_setLc (i := 8) (own := [("_law_turn", 9)]) (g := gName 9) (tt := tYes) (by rfl) scExpr.nd rfl rfl (sw_true rfl rfl rfl (by decide +kernel)) (pi_range1 (by rfl) mr (pa_cons (pe_ix ix_tup (pv 7) pe_int (fun _ _ => rfl)) pa_nil)) (blkOk_by (own := [("_law_turn", 9)]) (N := ["_law_bag_here", "_law_kit_here", "_law_left", "_law_depth", "_law_way", "_law_by", "_law_when", "_law_one", "_law_parts", "_law_turn", "_law_first", "_law_second"]) (sc := defScope sExpr) (by decide +kernel)) (fun _ _ _ _ _ => (pg_name (i := 9) scExpr.nd rfl (Or.inl rfl))) (fun _ _ _ _ _ => pts_nil) (fun _ _ _ _ _ => (pe_call GE hrL rfl mE kE bE .nil pass0 (pa_cons (pv 0) (pa_cons (pv 1) (pa_cons (pv 2) (pa_cons (pe_op op_sub (pv 3) pe_int) pa_nil)))))))
    (pss_one (ps_ret (pe_tup (pa_cons pe_str (pa_cons (pe_ix ix_tup (pv 7) pe_int (fun _ _ => rfl)) (pa_cons (pe_tupleOf (by rfl) mt (pv 8)) pa_nil))))))))) pss_nil)
    (pss_cons (ps_if (pt_as (t' := fun σ H Q => σ[1]? = some (some (.ref kd)) ∧ (∃ r : Int, σ[4]? = some (some (.int r))) ∧ KitAt H kd pl fl ps fns g ∧ ∀ b : Bool, (b = true → g = true) → Q b H) (PW.pt (pw_and (pt_cmpR op_eq (pv 4) pe_int (nomark _)) (pw_and1 (pt_val (pe_dget hu (pv 1) pe_str (fun _ _ => rfl)))))) ?c4) (pss_one (ps_ret (pe_call GG hr rfl mG kG bG .nil pass0 (pa_cons (pv 0) (pa_cons (pv 1) (pa_cons (pv 2) (pa_cons (pv 3) pa_nil))))))) pss_nil)
    (pss_cons (ps_par (i := 10) (j := 11) (by rfl) scExpr.nd rfl rfl (by decide) rfl rfl (pa_cons (pe_call GE hrL rfl mE kE bE .nil pass0 (pa_cons (pv 0) (pa_cons (pv 1) (pa_cons (pv 2) (pa_cons (pe_op op_sub (pv 3) pe_int) pa_nil))))) (pa_cons (pe_call GE hrL rfl mE kE bE .nil pass0 (pa_cons (pv 0) (pa_cons (pv 1) (pa_cons (pv 2) (pa_cons (pe_op op_sub (pv 3) pe_int) pa_nil))))) pa_nil)) (by rfl))
    (pss_one (ps_ret (pe_ifExp (pt_cmpR op_eq (pv 4) pe_int (nomark _)) (pe_tup (pa_cons pe_str (pa_cons (pv 10) (pa_cons (pv 11) pa_nil)))) (pe_tup (pa_cons pe_str (pa_cons (pe_call GO hr2 rfl mO kO bO .nil pass0 (pa_cons (pv 0) (pa_cons (pe_lst (pa_cons pe_str (pa_cons pe_str (pa_cons pe_str (pa_cons pe_str pa_nil))))) pa_nil))) (pa_cons (pv 10) (pa_cons (pv 11) pa_nil))))))))))))))), ?_⟩
  case c1 =>
    rintro σ H Q ⟨e3, e2, ⟨r, e4⟩, el, q⟩
    refine ⟨_, e3, rfl, _, rfl, ite2 (fun z => q _ fun y => by cases y) (fun z => ?_)⟩
    refine ⟨_, e2, lf, _, _, _, rfl, rfl, SqL.of el, (rfl : atI [V.int k] 0 = some (.int k)), rfl, _, rfl, ite2 (fun z => q _ fun y => by cases y) (fun z' => ?_)⟩
    refine ⟨_, e4, rfl, _, rfl, q _ fun _ => ⟨?_, fun y => z' (by rw [y]; exact decide_eq_true rfl)⟩⟩
    cases d with
    | zero => exact absurd (decide_eq_true rfl) z
    | succ d => omega
  case c2 =>
    rintro σ H Q ⟨e2, ⟨r, e4⟩, el, q⟩
    refine ⟨_, e4, _, _, rfl, rfl, _, rfl, ite2 (fun z => ?_) (fun z => q _ fun y => by cases y)⟩
    refine ⟨_, e2, lf, _, _, _, rfl, rfl, SqL.of el, (rfl : atI [V.int k] 0 = some (.int k)), _, _, rfl, rfl, _, rfl, q _ fun y => of_decide_eq_true y⟩
  case c3 =>
    rintro σ H Q ⟨e1, ⟨r, e4⟩, kit, q⟩
    refine ⟨_, e4, _, _, rfl, rfl, _, rfl, ite2 (fun z => ?_) (fun z => q _ H (Same.refl H) fun y => by cases y)⟩
    refine ⟨_, e1, kd, _, rfl, kit.getF, sz (by decide), fun p hp => ?_⟩
    obtain ⟨rows, er, pr⟩ := kit.fl
    have sp := same_up (o := .lst []) hp
    have pr' : Paired (RowAt (upd H p (.lst []))) rows fns := L2.Paired.mapP pr fun a b r => r.keep fun p xs e => sp _ _ e
    refine ⟨.list (fns.map dFn), .list [], .lst (SqL.of (sp _ _ er)) (rows_dp pr'), .lst (SqL.of upd_same) .nil, shaped_fns S.kw.fok, by decide +kernel, _, rfl, q _ _ sp fun y z => ?_⟩
    rw [z] at y
    simp [PyData.eqv, PyData.eqvAll] at y
  case c4 =>
    rintro σ H Q ⟨e1, ⟨r, e4⟩, kit, q⟩
    refine ⟨_, e4, rfl, _, rfl, ite2 (fun z => ?_) (fun z => q _ fun y => by cases y)⟩
    exact ⟨_, e1, kd, _, rfl, kit.getG, _, rfl, q _ fun y => y⟩
  -- way
  refine ⟨_, rfl, a, 11, n, rfl, S.bag, by omega, by decide, by decide, fun r H0 r0 r1 hB0 kp0 => ?_⟩
  have S0 := S.drawn kp0.kq hB0
  have q0 : Kq [a, lf] H H0 := kq2 kp0.kq
  refine ⟨rfl, rfl, ⟨r, rfl⟩, S0.lef, fun b hb => ?_⟩
  have hc4 := cost_pos d
  cases b with
  | true =>
    refine iteT ⟨_, rfl, _, rfl, _, rfl, a, kd, pl, fl, lf, ps, fns, g, _, k, rfl, S0, by omega, fun v e k' H' i1 w1 S1 q1 => ?_⟩
    exact q v e k' H' i1 (w1 d) (S1.mono (by omega)) (q0.trans q1)
  | false =>
  obtain ⟨hd1, hk0⟩ := hb rfl
  obtain ⟨d, rfl⟩ : ∃ d', d = d' + 1 := ⟨d - 1, by omega⟩
  have hk := S.k0
  have ed : (((d + 1 : Nat) : Int) - 1) = (d : Int) := by push_cast; omega
  have ec : cost (d + 1) = 4 + 3 * cost d := rfl
  have hcd := cost_pos d
  refine iteF ⟨_, rfl, _, _, rfl, rfl, _, rfl, ite2 (fun z => ?_) (fun z => ?_)⟩
  · -- store
    refine ⟨_, rfl, lf, _, _, _, rfl, rfl, SqL.of S0.lef, (rfl : atI [V.int k] 0 = some (.int k)), _, _, rfl, rfl, _, rfl, lf, _, _, 0, rfl, rfl, S0.lef, rfl, ?_⟩
    have S1 : Sit (upd H0 lf (.lst [.int (k - 1)])) a kd pl fl lf ps fns g (n + 1) (k - 1) := S0.put (by omega)
    have q1 : Kq [a, lf] H (upd H0 lf (.lst [.int (k - 1)])) := q0.at_ (by simp)
    refine ⟨_, rfl, _, rfl, kd, _, rfl, S1.kit.getP, a, pl, _, _, rfl, S1.bag, by omega, SqL.of S1.kit.pl, S1.pa, ?_, ?_, fun v H2 hv hB2 kp2 => ?_⟩
    · rw [List.length_map, S.kw.pl]; decide
    · rw [List.length_map, S.kw.pl]; decide
    obtain ⟨x, hx, rfl⟩ := List.mem_map.mp hv
    have S2 := S1.drawn kp2.kq hB2
    refine ⟨_, rfl, _, rfl, _, rfl, _, rfl, _, _, rfl, rfl, a, kd, pl, fl, lf, ps, fns, g, _, k - 1, d, congrArg (fun z => [V.ref a, V.ref kd, V.ref lf, V.int z]) ed, by omega, by omega, S2, by omega, fun v e k' H3 i3 w3 S3 q3 => ?_⟩
    refine ⟨sz (by show 3 ≤ 1000; decide), fun p hp => ?_⟩
    have kk : ∀ p' xs, H3 p' = some (.tup xs) → (upd H3 p (.tup [V.str "store", .str x, v])) p' = some (.tup xs) := fun p' xs z => same_up hp _ _ z
    exact q _ (.nd (.store x) [e]) k' _ (.nd (.cons (i3.keep kk) .nil) (by unfold NodeAt; exact upd_same)) ((DrawnEs.one w3).nd (by unfold KdW; exact hx) (by show 1 ≤ 3; decide) (by show (1 : Int) + (k - 1) = k; omega) (fun _ => rfl))
      ((S3.same (same_up hp)).mono (by omega)) (((q1.trans (kq2 kp2.kq)).trans q3).trans (same_kq (same_up hp)))
  refine ⟨rfl, ⟨r, rfl⟩, S0.lef, fun b hb => ?_⟩
  cases b with
  | true =>
    -- step
    have hk2 := hb rfl
    refine iteT ⟨_, rfl, lf, _, _, _, rfl, rfl, SqL.of S0.lef, (rfl : atI [V.int k] 0 = some (.int k)), _, _, rfl, rfl, _, rfl, lf, _, _, 0, rfl, rfl, S0.lef, rfl, ?_⟩
    have S1 : Sit (upd H0 lf (.lst [.int (k - 2)])) a kd pl fl lf ps fns g (n + 1) (k - 2) := S0.put (by omega)
    have q1 : Kq [a, lf] H (upd H0 lf (.lst [.int (k - 2)])) := q0.at_ (by simp)
    refine ⟨_, rfl, _, rfl, sz (by show 2 ≤ 1000; decide), fun l1 hl1 => ?_⟩
    have S1' := S1.same (same_up (o := .lst [.int 1, .int (-1)]) hl1)
    refine ⟨a, l1, _, _, rfl, S1'.bag, by omega, SqL.of upd_same, S1.bag.ne hl1, (by show 0 < 2; decide), (by show 2 ≤ 1000; decide), fun vb H2 hvb hB2 kp2 => ?_⟩
    have S2 := S1'.drawn kp2.kq hB2
    have q2 : Kq [a, lf] H H2 := (q1.trans (same_kq (same_up hl1))).trans (kq2 kp2.kq)
    refine ⟨_, rfl, sz (by decide), fun l2 hl2 => ?_⟩
    have S2' := S2.same (same_up (o := .lst [.str "before", .str "after"]) hl2)
    refine ⟨a, l2, _, _, rfl, S2'.bag, by omega, SqL.of upd_same, S2.bag.ne hl2, by decide, by decide, fun vw H3 hvw hB3 kp3 => ⟨_, _, rfl, ?_⟩⟩
    have S3 := S2'.drawn kp3.kq hB3
    have q3 : Kq [a, lf] H H3 := (q2.trans (same_kq (same_up hl2))).trans (kq2 kp3.kq)
    refine ⟨_, rfl, _, rfl, kd, _, rfl, S3.kit.getP, a, pl, _, _, rfl, S3.bag, by omega, SqL.of S3.kit.pl, S3.pa, ?_, ?_, fun v H4 hv hB4 kp4 => ?_⟩
    · rw [List.length_map, S.kw.pl]; decide
    · rw [List.length_map, S.kw.pl]; decide
    obtain ⟨x, hx, rfl⟩ := List.mem_map.mp hv
    have S4 := S3.drawn kp4.kq hB4
    refine ⟨_, rfl, _, rfl, sz (by show 4 ≤ 1000; decide), fun p hp => ?_⟩
    have fin : ∀ (bb : Int) (ww : Str), (bb = 1 ∨ bb = -1) → (ww = "before" ∨ ww = "after") → vb = .int bb → vw = .str ww → Q (.ref p) (upd H4 p (.tup [V.str "step", .str x, vb, vw])) := by
      rintro bb ww h1 h2 rfl rfl
      exact q _ (.nd (.step x bb ww) []) (k - 2) _ (.nd .nil (by unfold NodeAt; exact upd_same)) (.leaf (by unfold KdW; exact ⟨hx, h1, h2⟩) (by show (2 : Int) + (k - 2) = k; omega) rfl)
        ((S4.same (same_up hp)).mono (by omega)) ((q3.trans (kq2 kp4.kq)).trans (same_kq (same_up hp)))
    simp only [List.mem_cons, List.not_mem_nil, or_false] at hvb hvw
    rcases hvb with rfl | rfl <;> rcases hvw with rfl | rfl
    · exact fin 1 _ (.inl rfl) (.inl rfl) rfl rfl
    · exact fin 1 _ (.inl rfl) (.inr rfl) rfl rfl
    · exact fin (-1) _ (.inr rfl) (.inl rfl) rfl rfl
    · exact fin (-1) _ (.inr rfl) (.inr rfl) rfl rfl
  | false =>
  refine iteF ⟨rfl, ⟨r, rfl⟩, S0.kit, fun b H1 s1 hb => ?_⟩
  have S1 := S0.same s1
  have q1 : Kq [a, lf] H H1 := q0.trans (same_kq s1)
  cases b with
  | true =>
    have hf := hb rfl
    refine iteT ⟨_, rfl, lf, _, _, _, rfl, rfl, SqL.of S1.lef, (rfl : atI [V.int k] 0 = some (.int k)), _, _, rfl, rfl, _, rfl, lf, _, _, 0, rfl, rfl, S1.lef, rfl, ?_⟩
    have S2 : Sit (upd H1 lf (.lst [.int (k - 1)])) a kd pl fl lf ps fns g (n + 1) (k - 1) := S1.put (by omega)
    have q2 : Kq [a, lf] H (upd H1 lf (.lst [.int (k - 1)])) := q1.at_ (by simp)
    obtain ⟨rows, er, pr⟩ := S2.kit.fl
    have hrl : rows.length = fns.length := pr.length
    have hfl : 0 < fns.length := List.length_pos_iff.mpr hf
    have hfl3 := S.kw.fl
    refine ⟨_, rfl, _, rfl, kd, _, rfl, S2.kit.getF, a, fl, rows, _, rfl, S2.bag, by omega, SqL.of er, S2.fa, by omega, by omega, fun v H3 hv hB3 kp3 => ?_⟩
    obtain ⟨fn, hfn, hrow⟩ := paired_mem pr hv
    have S3 := S2.drawn kp3.kq hB3
    have q3 : Kq [a, lf] H H3 := q2.trans (kq2 kp3.kq)
    obtain ⟨p, rp, sp, rfl, hp1, _, _⟩ := hrow.keep (H' := H3) fun p' xs z => kp3.kq.tup S2.bag.mut.notup z
    obtain ⟨fw1, ar0, ar3, _, _⟩ := S.kw.fok fn hfn
    refine ⟨_, rfl, p, _, _, _, rfl, rfl, SqT.of hp1, (rfl : atI [V.str fn.name, .int fn.ar, .ref rp, .ref sp] 1 = some (.int fn.ar)), fn.ar, rfl, by omega, by omega, fun D hD => ?_⟩
    have nDa : D ≠ a := S3.bag.ne hD
    have nDl : D ≠ lf := fun z => by rw [z, S3.lef] at hD; cases hD
    have npl : pl ≠ D := ne_of_none S3.kit.pl hD
    have nfl : fl ≠ D := by
      obtain ⟨_, e, _⟩ := S3.kit.fl
      exact ne_of_none e hD
    have hDn : H D = none := q3.free (by simp [nDa, nDl]) hD
    refine lc_range (lo := 0) (n := fn.ar.toNat) (fun i H' => ∃ (es : List Ex) (ws : List V) (k' : Int), H' D = some (.lst ws) ∧ InEs H' es ws ∧ es.length = i ∧ DrawnEs ps fns g d (k - 1) k' es ∧ Sit H' a kd pl fl lf ps fns g (n + 2 + i * cost d) k' ∧ Kq [a, lf] H H' ∧ H' p = some (.tup [V.str fn.name, .int fn.ar, .ref rp, .ref sp]))
      ⟨[], [], k - 1, upd_same, .nil, rfl, .nil, (S3.same (same_up hD)).mono (by omega), q3.put hDn, same_up hD _ _ hp1⟩ ?_ ?_
    · rintro i H' hi ⟨es, ws, k', eD, ies, hl, dr, S', q', hp'⟩
      have hmul : (i + 1) * cost d ≤ 3 * cost d := Nat.mul_le_mul_right _ (by omega)
      have hmul2 : (i + 1) * cost d = i * cost d + cost d := Nat.succ_mul _ _
      refine ⟨rfl, yes_i ?_⟩
      refine ⟨_, rfl, _, rfl, _, rfl, _, rfl, _, _, rfl, rfl, a, kd, pl, fl, lf, ps, fns, g, _, k', d, congrArg (fun z => [V.ref a, V.ref kd, V.ref lf, V.int z]) ed, by omega, by omega, S', by omega, fun v e k2 H4 i4 w4 S4 q4 => ?_⟩
      have eD4 : H4 D = some (.lst ws) := q4 _ _ (by simp [nDa, nDl]) eD
      have kk : ∀ p' xs, H4 p' = some (.tup xs) → (upd H4 D (.lst (ws ++ [v]))) p' = some (.tup xs) := fun p' xs z => by
        rw [upd_ne (fun y => by rw [y, eD4] at z; cases z)]; exact z
      have hws := ies.length
      refine ⟨ws, eD4, small1000 (by omega), es ++ [e], ws ++ [v], k2, upd_same, ?_, by rw [List.length_append, hl]; rfl, dr.snoc w4, ?_, (q'.trans q4).put hDn, kk _ _ (q4.tup S'.mut.notup hp')⟩
      · exact .snoc (ies.keep (fun p' xs z => kk _ _ (q4.tup S'.mut.notup z))) (i4.keep kk)
      · exact (S4.at_ eD4 npl nfl nDa nDl).mono (by omega)
    · rintro H' ⟨es, ws, k', eD, ies, hl, dr, S', q', hp'⟩
      have hmul : fn.ar.toNat * cost d ≤ 3 * cost d := Nat.mul_le_mul_right _ (by omega)
      refine ⟨_, rfl, p, _, _, _, rfl, rfl, SqT.of hp', (rfl : atI [V.str fn.name, .int fn.ar, .ref rp, .ref sp] 0 = some (.str fn.name)), _, rfl, .inl ⟨D, ws, rfl, SqL.of eD, fun t ht => ⟨sz (by show 3 ≤ 1000; decide), fun u hu' => ?_⟩⟩⟩
      have s1 : Same H' (upd (upd H' t (.tup ws)) u (.tup [V.str "call", .str fn.name, .ref t])) := (same_up ht).trans (same_up hu')
      have et : (upd (upd H' t (.tup ws)) u (.tup [V.str "call", .str fn.name, .ref t])) t = some (.tup ws) := same_up hu' _ _ upd_same
      exact q _ (.nd (.call fn.name) es) k' _ (.nd (ies.keep fun p' xs z => s1 _ _ z) (by unfold NodeAt; exact ⟨t, upd_same, et⟩)) (dr.nd (by unfold KdW; exact ⟨fn, hfn, rfl, by omega⟩) (by omega) (by show (1 : Int) + (k - 1) = k; omega) (fun _ => rfl))
        ((S'.same s1).mono (by omega)) (q'.trans (same_kq s1))
  | false =>
  refine iteF ⟨rfl, ⟨r, rfl⟩, S1.kit, fun b hb => ?_⟩
  cases b with
  | true =>
    have hg := hb rfl
    subst hg
    refine iteT ⟨_, rfl, _, rfl, _, rfl, _, rfl, a, kd, pl, fl, lf, ps, fns, _, k, d, rfl, by omega, by omega, S1, by omega, fun v e k' H' i2 w2 S2 q2 => ?_⟩
    exact q v e k' H' i2 w2 (S2.mono (by omega)) (q1.trans q2)
  | false =>
  refine iteF ⟨_, rfl, _, rfl, _, rfl, _, rfl, _, _, rfl, rfl, a, kd, pl, fl, lf, ps, fns, g, _, k, d, congrArg (fun z => [V.ref a, V.ref kd, V.ref lf, V.int z]) ed, by omega, by omega, S1, by omega, fun v2 e2 k2 H2 i2 w2 S2 q2 => ?_⟩
  refine ⟨_, rfl, _, rfl, _, rfl, _, rfl, _, _, rfl, rfl, a, kd, pl, fl, lf, ps, fns, g, _, k2, d, congrArg (fun z => [V.ref a, V.ref kd, V.ref lf, V.int z]) ed, by omega, by omega, S2, by omega, fun v3 e3 k3 H3 i3 w3 S3 q3 => ⟨_, _, rfl, ?_⟩⟩
  have i2' := i2.sit q3 S2.mut
  have q03 : Kq [a, lf] H H3 := (q1.trans q2).trans q3
  have two : DrawnEs ps fns g d k k3 [e2, e3] := (DrawnEs.nil.snoc w2).snoc w3
  refine ⟨_, rfl, rfl, _, rfl, ite2 (fun z => ?_) (fun z => ?_)⟩
  · refine ⟨_, rfl, _, rfl, sz (by show 3 ≤ 1000; decide), fun p hp => ?_⟩
    have kk : ∀ p' xs, H3 p' = some (.tup xs) → (upd H3 p (.tup [V.str "then", v2, v3])) p' = some (.tup xs) := fun p' xs z => same_up hp _ _ z
    exact q _ (.nd .thn [e2, e3]) k3 _ (.nd (.cons (i2'.keep kk) (.cons (i3.keep kk) .nil)) (by unfold NodeAt; exact upd_same)) (two.nd (by unfold KdW; trivial) (by show 2 ≤ 3; decide) (by show (0 : Int) + k = k; omega) (fun _ => rfl))
      ((S3.same (same_up hp)).mono (by omega)) (q03.trans (same_kq (same_up hp)))
  · refine ⟨_, rfl, sz (by decide), fun l hl => ?_⟩
    have S3' := S3.same (same_up (o := .lst [V.str "+", .str "-", .str "*", .str "<"]) hl)
    refine ⟨a, l, _, _, rfl, S3'.bag, by omega, SqL.of upd_same, S3.bag.ne hl, by decide, by decide, fun v4 H4 hv4 hB4 kp4 => ?_⟩
    have S4 := S3'.drawn kp4.kq hB4
    refine ⟨_, rfl, _, rfl, sz (by show 4 ≤ 1000; decide), fun p hp => ?_⟩
    have kk : ∀ p' xs, H3 p' = some (.tup xs) → (upd H4 p (.tup [V.str "op", v4, v2, v3])) p' = some (.tup xs) := fun p' xs z =>
      same_up hp _ _ (kp4.kq.tup S3'.bag.mut.notup (same_up hl _ _ z))
    obtain ⟨sg, hsg, rfl⟩ : ∃ s, s ∈ signs ∧ v4 = .str s := by
      simp only [List.mem_cons, List.not_mem_nil, or_false] at hv4
      rcases hv4 with rfl | rfl | rfl | rfl
      · exact ⟨_, by simp [signs], rfl⟩
      · exact ⟨_, by simp [signs], rfl⟩
      · exact ⟨_, by simp [signs], rfl⟩
      · exact ⟨_, by simp [signs], rfl⟩
    exact q _ (.nd (.op sg) [e2, e3]) k3 _ (.nd (.cons (i2'.keep kk) (.cons (i3.keep kk) .nil)) (by unfold NodeAt; exact upd_same)) (two.nd (by unfold KdW; exact hsg) (by show 2 ≤ 3; decide) (by show (0 : Int) + k = k; omega) (fun _ => rfl))
      ((S4.same (same_up hp)).mono (by omega)) (((q03.trans (same_kq (same_up hl))).trans (kq2 kp4.kq)).trans (same_kq (same_up hp)))
end
end Oo
namespace Oo
open PySem L2 PyProof.Rows
def spRoot : Sp := fun vs H Q _ => ∃ (a kd pl fl : Addr) (ps : List Str) (fns : List Fn) (g : Bool) (n : Nat) (m : Int), vs = [.ref a, .ref kd, .int m] ∧ BagAt H a n ∧ KitAt H kd pl fl ps fns g ∧ KitW ps fns ∧ pl ≠ a ∧ fl ≠ a ∧ 0 ≤ m ∧ n < 600000 ∧
  ∀ (v : V) (e : Ex) (k' : Int) (H' : Hp), InE H' e v → DrawnE ps fns g 4 m k' e → 0 ≤ k' → KitAt H' kd pl fl ps fns g → BagAt H' a (n + 490) → Kq [a] H H' → Q v H'
section
variable {P : Program} {w : World} {K : PySem.W.Frag} {mg : Str → Option Value} {base : Heap} {X : Cx}
theorem expr_none {N : Nat} {f : Addr} {fd : FuncData} {L : Nat} (h : N = 0) : FnOk P w K mg base CX0 L f fd ["_law_bag_here", "_law_kit_here", "_law_left", "_law_depth"] (spExpr N) := by
  have no : ∀ vs H Q E, ¬ spExpr N vs H Q E := fun vs H Q E q => by
    obtain ⟨_, _, _, _, _, _, _, _, _, _, _, _, z, _⟩ := q
    omega
  exact ⟨fun vs H Q E h => absurd h (no vs H Q E), fun A outer s H args us vs Q E _ _ _ _ h => absurd h (no vs H Q E)⟩
theorem scRoot : FnScope ["_law_bag_here", "_law_kit_here", "_law_most", "_law_left", "_law_first", "_law_second"] ["_law_bag_here", "_law_kit_here", "_law_most"] (defScope sRoot) := ⟨rfl, rfl, rfl, by decide +kernel, rfl, by decide +kernel, by decide +kernel⟩
theorem ok_root {f ft fo fe : Addr} {fd fdt fdo fde : FuncData} (F : Fun K "_law_root" "_law_root" sRoot f fd)
    (GT : FnOk P w K mg base CX0 1 ft fdt ["_law_bag_here", "_law_many"] spTake) (kT : PySem.W.keepIn K (.ref ft) = true) (bT : Binds K fdt ["_law_bag_here", "_law_many"] []) (mT : mg "_law_take" = some (.ref ft))
    (GO : FnOk P w K mg base CX0 2 fo fdo ["_law_bag_here", "_law_items"] (spOf K)) (kO : PySem.W.keepIn K (.ref fo) = true) (bO : Binds K fdo ["_law_bag_here", "_law_items"] []) (mO : mg "_law_of" = some (.ref fo))
    (GE : FnOk P w K mg base CX0 13 fe fde ["_law_bag_here", "_law_kit_here", "_law_left", "_law_depth"] (spExpr 5)) (kE : PySem.W.keepIn K (.ref fe) = true) (bE : Binds K fde ["_law_bag_here", "_law_kit_here", "_law_left", "_law_depth"] []) (mE : mg "_law_expr" = some (.ref fe)) :
    FnOk P w K mg base CX0 14 f fd ["_law_bag_here", "_law_kit_here", "_law_most"] spRoot := by
  refine F.ok scRoot (fun vs H Q E h => ?_) (fun cdv A outer s H vs Q E hr h => ?_)
  · obtain ⟨a, kd, pl, fl, ps, fns, g, n, m, rfl, _⟩ := h
    rfl
  obtain ⟨a, kd, pl, fl, ps, fns, g, n, m, rfl, hB, kit, kw, pa, fa, hm, hn, q⟩ := h
  have hr1 : Room 1 _ := hr.mono (by omega)
  have hr2 : Room 2 _ := hr.mono (by omega)
  refine ⟨_, (pss_cons (ps_set (i := 3) scRoot.nd rfl (.inl rfl) (pe_lst (pa_cons (pv 2) pa_nil)))
    (pss_cons (ps_if (pt_cmpR op_eq (pe_call GT hr1 rfl mT kT bT .nil pass0 (pa_cons (pv 0) (pa_cons pe_int pa_nil))) pe_int (nomark _)) (pss_one (ps_ret (pe_call GE hr rfl mE kE bE .nil pass0 (pa_cons (pv 0) (pa_cons (pv 1) (pa_cons (pv 3) (pa_cons pe_int pa_nil))))))) pss_nil)
    (pss_cons (ps_par (i := 4) (j := 5) (by rfl) scRoot.nd rfl rfl (by decide) rfl rfl (pa_cons (pe_call GE hr rfl mE kE bE .nil pass0 (pa_cons (pv 0) (pa_cons (pv 1) (pa_cons (pv 3) (pa_cons pe_int pa_nil))))) (pa_cons (pe_call GE hr rfl mE kE bE .nil pass0 (pa_cons (pv 0) (pa_cons (pv 1) (pa_cons (pv 3) (pa_cons pe_int pa_nil))))) pa_nil)) (by rfl))
    (pss_one (ps_ret (pe_tup (pa_cons pe_str (pa_cons (pe_call GO hr2 rfl mO kO bO .nil pass0 (pa_cons (pv 0) (pa_cons (pe_lst (pa_cons pe_str (pa_cons pe_str (pa_cons pe_str (pa_cons pe_str pa_nil))))) pa_nil))) (pa_cons (pv 4) (pa_cons (pv 5) pa_nil)))))))))), ?_⟩
  have c4 : cost 4 = 484 := by decide
  have c3 : cost 3 = 160 := by decide
  refine ⟨_, rfl, sz (by show 1 ≤ 1000; decide), fun lf hlf => ?_⟩
  have hBn := hB.new (o := .lst [.int m]) hlf
  have s0 : Same H (upd H lf (.lst [.int m])) := same_up hlf
  have la : lf ≠ a := hB.ne hlf
  have pL : pl ≠ lf := ne_of_none kit.pl hlf
  have fL : fl ≠ lf := by
    obtain ⟨_, e, _⟩ := kit.fl
    exact ne_of_none e hlf
  have S0 : Sit (upd H lf (.lst [.int m])) a kd pl fl lf ps fns g n m := ⟨hBn, kit.kq (S := []) (same_kq s0) (fun b hb => by cases hb) (by simp) (by simp), kw, upd_same, hm, la, pa, fa, pL, fL⟩
  refine ⟨_, rfl, a, 2, n, rfl, hBn, by omega, by decide, by decide, fun r H1 r0 r1 hB1 kp1 => ⟨rfl, _, rfl, ?_⟩⟩
  have S1 := S0.drawn kp1.kq hB1
  have q1 : Kq [a, lf] H H1 := (same_kq s0).trans (kq2 kp1.kq)
  have out : ∀ H', Kq [a, lf] H H' → Kq [a] H H' := fun H' x b o hb e => x b o (by
    have : b ≠ lf := ne_of_none e hlf
    simp at hb
    simp [hb, this]) e
  refine ite2 (fun z => ?_) (fun z => ?_)
  · refine ⟨_, rfl, _, rfl, _, rfl, a, kd, pl, fl, lf, ps, fns, g, _, m, 4, rfl, by omega, by omega, S1, by omega, fun v e k' H2 i2 w2 S2 q2 => ?_⟩
    exact q v e k' H2 i2 w2 S2.k0 S2.kit (S2.bag.mono (by omega)) (out _ (q1.trans q2))
  · refine ⟨_, rfl, _, rfl, _, rfl, a, kd, pl, fl, lf, ps, fns, g, _, m, 3, rfl, by omega, by omega, S1, by omega, fun v2 e2 k2 H2 i2 w2 S2 q2 => ?_⟩
    refine ⟨_, rfl, _, rfl, _, rfl, a, kd, pl, fl, lf, ps, fns, g, _, k2, 3, rfl, by omega, by omega, S2, by omega, fun v3 e3 k3 H3 i3 w3 S3 q3 => ⟨_, _, rfl, ?_⟩⟩
    have i2' := i2.sit q3 S2.mut
    have q03 : Kq [a, lf] H H3 := (q1.trans q2).trans q3
    have two : DrawnEs ps fns g 3 m k3 [e2, e3] := (DrawnEs.nil.snoc w2).snoc w3
    refine ⟨_, rfl, sz (by decide), fun l hl => ?_⟩
    have S3' := S3.same (same_up (o := .lst [V.str "+", .str "-", .str "*", .str "<"]) hl)
    refine ⟨a, l, _, _, rfl, S3'.bag, by omega, SqL.of upd_same, S3.bag.ne hl, by decide, by decide, fun v4 H4 hv4 hB4 kp4 => ?_⟩
    have S4 := S3'.drawn kp4.kq hB4
    refine ⟨_, rfl, _, rfl, sz (by show 4 ≤ 1000; decide), fun p hp => ?_⟩
    have kk : ∀ p' xs, H3 p' = some (.tup xs) → (upd H4 p (.tup [V.str "op", v4, v2, v3])) p' = some (.tup xs) := fun p' xs z =>
      same_up hp _ _ (kp4.kq.tup S3'.bag.mut.notup (same_up hl _ _ z))
    obtain ⟨sg, hsg, rfl⟩ : ∃ s, s ∈ signs ∧ v4 = .str s := by
      simp only [List.mem_cons, List.not_mem_nil, or_false] at hv4
      rcases hv4 with rfl | rfl | rfl | rfl
      · exact ⟨_, by simp [signs], rfl⟩
      · exact ⟨_, by simp [signs], rfl⟩
      · exact ⟨_, by simp [signs], rfl⟩
      · exact ⟨_, by simp [signs], rfl⟩
    have S5 := S4.same (same_up (o := .tup [V.str "op", .str sg, v2, v3]) hp)
    exact q _ (.nd (.op sg) [e2, e3]) k3 _ (.nd (.cons (i2'.keep kk) (.cons (i3.keep kk) .nil)) (by unfold NodeAt; exact upd_same)) (two.nd (by unfold KdW; exact hsg) (by show 2 ≤ 3; decide) (by show (0 : Int) + m = m; omega) (fun _ => rfl))
      S5.k0 S5.kit (S5.bag.mono (by omega)) (out _ (((q03.trans (same_kq (same_up hl))).trans (kq2 kp4.kq)).trans (same_kq (same_up hp))))
end
end Oo
/-! enumerate over a tuple -/
namespace Oo
open PySem L2 PyProof.Rows
theorem newMeets {v : Value} {it : Obj} {G : Heap → Prop} (B : Begins v it G) :
    Meets (Builtin.«enumerate.__new__» ⟨[.type "enumerate", v], []⟩) (fun _ R s => G s.heap ∧ R (.ok (.ret (.ref (s.heap.push it).objs.size)))
      { s with heap := (s.heap.push it).push { cls := .type "enumerate", data := .fields #[.none, .bool false, .ref s.heap.objs.size, rawInt 0, .none, .none] } }) :=
  .of_wp fun prog w A R s hh => by
    obtain ⟨hp, g, dr, tk, os⟩ := s
    obtain ⟨gs, hR⟩ := hh
    have hsub := sub_enumerate
    have step : ∀ {A' : Around} {E : Value → Shared → Prop} {Q : Value → Shared → Prop}, Q (.ref hp.objs.size) ⟨hp.push it, g, dr, tk, os⟩ → wpAny (model prog w) A' (pyIter v) Q E ⟨hp, g, dr, tk, os⟩ :=
      fun q => B.iter prog w _ _ ⟨hp, g, dr, tk, os⟩ _ gs q
    wp_walk using step
    refine wpAny_stack_any fun _ => wpAny_pure ?_
    split
    · rename_i c _ _ _ _ _
      cases (c == Value.type "enumerate") <;> (wp_walk using step; exact ⟨_, rfl, hR⟩)
    · wp_walk using step
      exact ⟨_, rfl, hR⟩
section
variable {prog : Program} {w : World} {A : Around} {E : Value → Shared → Prop} {s : Shared}
theorem call_enum1 {v : Value} {it : Obj} {G : Heap → Prop} {Q : Value → Shared → Prop} (B : Begins v it G) (gs : G s.heap)
    (hq : ∀ h', IsEnum h' (s.heap.objs.size + 1) s.heap.objs.size 0 .none → h'.get? s.heap.objs.size = some it → h'.objs.size = s.heap.objs.size + 2 → (∀ b u, s.heap.get? b = some u → h'.get? b = some u) → Q (.ref (s.heap.objs.size + 1)) { s with heap := h' }) :
    wpAny (model prog w) A (call (.type "enumerate") [v]) Q E s := by
  refine callType_new F.called_enumerate (by decide) (F.typeCall_enumerate_1 _) (F.newCall_enumerate_1 _) (fun obj => F.args_object_init_2 obj _) F.entry_enumerate_new (newMeets B) ⟨gs, ?_⟩
  have z : (s.heap.push it).objs.size = s.heap.objs.size + 1 := Heap.size_push ..
  show _ ∧ _
  rw [z]
  have he : IsEnum ((s.heap.push it).push { cls := .type "enumerate", data := .fields #[.none, .bool false, .ref s.heap.objs.size, rawInt 0, .none, .none] }) (s.heap.objs.size + 1) s.heap.objs.size 0 .none := by
    have y := Heap.get?_push_size (s.heap.push it) (o := { cls := .type "enumerate", data := .fields #[.none, .bool false, .ref s.heap.objs.size, rawInt 0, .none, .none] }) rfl
    rw [z] at y
    exact y
  exact ⟨⟨_, he, rfl⟩, hq _ he (Heap.get?_push_of_some _ (Heap.get?_push_size _ B.free)) (by rw [Heap.size_push, z]) fun b u x => Heap.get?_push_of_some _ (Heap.get?_push_of_some _ x)⟩
end
/-- the tuple at a, each item in a new pair with its number -/
def Itu (K : PySem.W.Frag) (a : Addr) : It :=
  ⟨fun i H => ∃ (xs : List V) (x : V), SqT K H a xs ∧ xs[i]? = some x, fun i H v H' => ∃ T x, v = .ref T ∧ H T = none ∧ H' = upd H T (.tup [.int (i : Nat), x]) ∧ ∀ xs, SqT K H a xs → xs[i]? = some x, fun i H => ∃ xs : List V, SqT K H a xs ∧ xs.length = i⟩
theorem turn_enumU {P : Program} {w : World} {K : PySem.W.Frag} {elts : List PySem.Expr} {kk : Nat} {tpos : Pos} (a e it : Addr) :
    Turn P w K (.Tuple elts kk tpos) (Itu K a) [e, it] e (fun i h => (∃ old, IsEnum h e it ((i : Nat) : Int) old) ∧ h.IsTupleIter it a i ∧ e ≠ it ∧ a ≠ it ∧ a ≠ e) where
  mem := by simp
  obj := fun i h st b hb => by
    obtain ⟨⟨old, he⟩, ⟨o, ho, hc, hd⟩, _⟩ := st
    rcases List.mem_cons.mp hb with z | z
    · exact ⟨_, by rw [z]; exact he, fun v q => by cases q⟩
    · exact ⟨o, by rw [List.mem_singleton.mp z]; exact ho, fun v q => by rw [hd] at q; cases q⟩
  keep := fun i h h' st k => let ⟨⟨old, he⟩, hi, hne⟩ := st; ⟨⟨old, k e (by simp) _ he⟩, hi.at fun o q => k it (by simp) o q, hne⟩
  item := by
    intro X hP hw hK hc i pins s σ H E I hf st hg
    subst hP hw hK
    obtain ⟨⟨old, he⟩, hit, hne, hai, hae⟩ := st
    obtain ⟨xs, x, hq, hx⟩ := hg
    obtain ⟨its, rv, p, hz⟩ := I.tuple hq
    obtain ⟨u, hu, ru⟩ := rv.get hx
    have hel : e < s.heap.objs.size := Heap.lt_size he
    have hil : it < s.heap.objs.size := by obtain ⟨_, q, _⟩ := hit; exact Heap.lt_size q
    have pt : s.heap.IsTuple a its.toArray := p
    have hi : i < its.toArray.size := by
      have := (List.getElem?_eq_some_iff.mp hu).1
      simpa using this
    refine wpAny_pyNext_enum_itemD (Draws.tuple (prog := X.prog) (w := X.w) (A := X.A.in1) (show X.A.in1.handled = none from I.ok.hd hc) it a hai its.toArray) he ⟨hit, pt⟩ hi hne (by simp [hne, hae.symm]) fun x' h' tk hx' ho hit' hT hsz hk => ?_
    have ex : x' = u := by
      have h2 : its.toArray[i]? = some x' := hx'
      rw [List.getElem?_toArray, hu] at h2
      exact (Option.some.inj h2).symm
    subst ex
    refine ⟨_, rfl, wpAny_letOwnedTupleGo_enum (s := { s with heap := h', toks := tk + 1 }) ho fun h'' he' sb => ?_⟩
    have hT2 : h''.get? s.heap.objs.size = some { cls := .type "tuple", data := .seq #[.int i tk, x'] } := (sb.2 _ (Nat.ne_of_gt hel)).trans hT
    have new : ObjOk X.prog X.w (upd H s.heap.objs.size (.tup [.int (i : Nat), x])) h'' s.heap.objs.size (.tup [.int (i : Nat), x]) :=
      ⟨by show 2 ≤ sizeLine; decide, [.int i tk, x'], .cons ⟨_, rfl⟩ (.cons ru .nil), ⟨_, hT2, rfl, _, rfl⟩⟩
    have I1 : Inv X pins σ (upd H s.heap.objs.size (.tup [.int (i : Nat), x])) { s with heap := h'', toks := tk + 1 } :=
      I.turnedNew (ch := [e, it]) (fun b ob hb q => (sb.2 b (fun z => hb (by simp [z]))).trans (hk b ob (fun z => hb (by simp [z])) (fun z => hb (by simp [z])) q)) hf (Nat.le_refl _) new
    refine ⟨.ref s.heap.objs.size, _, I1, rfl, ⟨_, x, rfl, I.hok.fresh (Nat.le_refl _), rfl, fun ys hy => by rw [I.tuple_inj hy hq]; exact hx⟩, ⟨⟨x', ?_⟩, hit'.1.at fun o q => (sb.2 it (Ne.symm hne)).trans q, hne, hai, hae⟩, fun b hb => ?_⟩
    · have e1 : ((i + 1 : Nat) : Int) = (i : Int) + 1 := by omega
      rw [e1]; exact he'
    · have hb' : b < s.heap.objs.size := by
        rcases List.mem_cons.mp hb with z | z
        · rw [z]; exact hel
        · rw [List.mem_singleton.mp z]; exact hil
      rw [upd_ne (Nat.ne_of_lt hb')]
      exact (hf b hb).1
  done := by
    intro X hP hw hK hc i pins s σ H E I hf st hg
    subst hP hw hK
    obtain ⟨⟨old, he⟩, hit, hne, hai, hae⟩ := st
    obtain ⟨xs, hq, hx⟩ := hg
    obtain ⟨its, rv, p, hz⟩ := I.tuple hq
    obtain ⟨f0, f1, f2, f3, f4, f5⟩ := hf it (by simp)
    have hl := rv.length
    have pt : s.heap.IsTuple a its.toArray := p
    have hn : i = its.toArray.size := by simp; omega
    refine wpAny_pyNext_enum_endD (Draws.tuple (prog := X.prog) (w := X.w) (A := X.A.in1) (show X.A.in1.handled = none from I.ok.hd hc) it a hai its.toArray) he (by rw [← hn]; exact ⟨hit, pt⟩) fun h' eb => ⟨rfl, I.turned (t' := s.toks) (fun b o hb q => eb b o hb q) f0 f1 f3 f4 f5⟩
  self := fun A i s Q E st h => let ⟨⟨_, he⟩, _⟩ := st; wpAny_pyIter_enum he h
def iEnumU (K : PySem.W.Frag) (ta : TA) : TI := fun σ H R => ta σ H fun vs H1 => ∃ a xs, vs = [.ref a] ∧ SqT K H1 a xs ∧ R (Itu K a) H1
theorem pi_enumT {X : Cx} {e : PySem.Expr} {ta : TA} {p pos tpos : Pos} {elts : List PySem.Expr} {kk : Nat} (hg : Gl X "enumerate") (hm : X.mg "enumerate" = none) (ha : PA X [e] ta) (hs : starEach [e] X.env = [(false, eval e X.env)] := by rfl) :
    PI X (.Tuple elts kk tpos) (.Call (.Name "enumerate" p) [e] [] pos) (iEnumU X.K ta) := by
  refine ⟨fun pins s σ H R I h => Call_ (ld_blt I hg hm boot_enumerate (PyProof.Rows.callWith_type1 (thn (ha.run pos pins s σ H _ I h) fun us s1 hq => ?_) hs rfl))⟩
  obtain ⟨vs, H1, I1, r1, a, xs, ex, hq, q⟩ := hq
  subst ex
  cases r1 with
  | cons r rr =>
    cases rr
    cases r
    obtain ⟨its, rv, p', hz⟩ := I1.tuple hq
    have pt : s1.heap.IsTuple a its.toArray := p'
    have hla : a < s1.heap.objs.size := by obtain ⟨_, y, _⟩ := pt; exact Heap.lt_size y
    refine call_enum1 (begins_tuple a its.toArray) pt fun h' he hit hsz hk => wpAny_pyIter_enum he ?_
    have I2 : Inv X pins σ H1 { s1 with heap := h' } := I1.kept (t' := s1.toks) hk
    refine ⟨s1.heap.objs.size + 1, [s1.heap.objs.size + 1, s1.heap.objs.size], _, _, H1, rfl, I2, turn_enumU a (s1.heap.objs.size + 1) s1.heap.objs.size, ⟨⟨.none, he⟩, ⟨_, hit, rfl, rfl⟩, Nat.succ_ne_self _, Nat.ne_of_lt hla, Nat.ne_of_lt (Nat.lt_succ_of_lt hla)⟩, fun b hb => ?_, q⟩
    have hle : s1.heap.objs.size ≤ b := by
      rcases List.mem_cons.mp hb with z | z
      · rw [z]; exact Nat.le_succ _
      · rw [List.mem_singleton.mp z]; exact Nat.le_refl _
    exact I1.fpOk hle (I1.hok.fresh hle)
theorem walk_enumU {K : PySem.W.Frag} {a : Addr} {xs : List V} : Walk (Itu K a) xs.length (fun H => SqT K H a xs) (YPair (fun i => some (.int (i : Nat))) (fun i => xs[i]?)) :=
  ⟨fun i _ hi q => ⟨xs, xs[i], q, by simp [hi]⟩, fun _ q => ⟨xs, q, rfl⟩, fun i H x H' _ q y => by
    obtain ⟨T, x', e1, e2, e3, e4⟩ := y
    exact ⟨T, _, x', e1, e2, e3, rfl, e4 xs q⟩⟩
end Oo
namespace Oo
open PySem L2 PyProof.Rows
abbrev sOperands : Stmt := top 86
abbrev sNodes : Stmt := top 87
def Ex.ops : Ex → List Ex
  | .num _ => []
  | .nd _ os => os
def Kd.word : Kd → Str
  | .read _ => "read" | .store _ => "store" | .step _ _ _ => "step" | .op _ => "op" | .call _ => "call" | .thn => "then" | .and_ => "and" | .or_ => "or" | .cho => "choose"
def Kd.isRS : Kd → Bool
  | .read _ => true | .step _ _ _ => true | _ => false
def Kd.isSO : Kd → Bool
  | .store _ => true | .op _ => true | _ => false
theorem NodeAt.tup {H : Hp} {p : Addr} {k : Kd} {vs : List V} (n : NodeAt H p k vs) : ∃ tl, H p = some (.tup (.str k.word :: tl)) := by
  cases k with
  | call f =>
    obtain ⟨q, h1, _⟩ := n
    exact ⟨_, h1⟩
  | _ => exact ⟨_, n⟩
theorem word_rs (k : Kd) : inV (.str k.word) [.str "read", .str "step"] = k.isRS := by
  cases k <;> (simp only [Kd.word, Kd.isRS]; decide +kernel)
theorem word_so (k : Kd) : inV (.str k.word) [.str "store", .str "op"] = k.isSO := by
  cases k <;> (simp only [Kd.word, Kd.isSO]; decide +kernel)
def Kd.isCall : Kd → Bool
  | .call _ => true | _ => false
theorem word_call (k : Kd) : decide (V.str k.word = .str "call") = k.isCall := by
  cases k <;> first | exact decide_eq_true rfl | exact decide_eq_false (by simp only [Kd.word]; decide +kernel)
theorem at0 (x : V) (tl : List V) : atI (x :: tl) 0 = some x := at_of (j := 0) rfl rfl
theorem cut1 (a : V) (r : List V) : cutV (a :: r) (some 1) none = r := by
  unfold cutV
  simp [HT.sIx]
theorem cut2 (a b : V) (r : List V) : cutV (a :: b :: r) (some 2) none = r := by
  unfold cutV
  simp [HT.sIx]
def spOperands : Sp := fun vs H Q _ => ∃ (v : V) (e : Ex), vs = [v] ∧ InE H e v ∧ (∀ k os, e = .nd k os → k.isRS = true → os = []) ∧ ∀ (p : Addr) (ws : List V) (H' : Hp), H' p = some (.tup ws) → InEs H' e.ops ws → Same H H' → Q (.ref p) H'
section
variable {P : Program} {w : World} {K : PySem.W.Frag} {mg : Str → Option Value} {base : Heap} {X : Cx}
theorem scOperands : FnScope ["_law_node"] ["_law_node"] (defScope sOperands) := ⟨rfl, rfl, rfl, by decide +kernel, rfl, by decide +kernel, by decide +kernel⟩
theorem ok_operands {f : Addr} {fd : FuncData} (F : Fun K "_law_operands" "_law_operands" sOperands f fd) (mi : mg "int" = none) (mis : mg "isinstance" = none) : FnOk P w K mg base CX0 1 f fd ["_law_node"] spOperands := by
  refine F.ok scOperands (fun vs H Q E h => ?_) (fun cdv A outer s H vs Q E hr h => ?_)
  · obtain ⟨v, e, rfl, _⟩ := h
    rfl
  obtain ⟨v, e, rfl, ie, hw, q⟩ := h
  refine ⟨_, (pss_cons (ps_if (PW.pt (pw_or (pt_val (pe_callB call_isi (by rfl) mis (by decide +kernel) (pa_cons (pv 0) (pa_cons (pe_bltn (v := .ty "int") (by rfl) mi (by decide +kernel) rfl) pa_nil)))) (pw_or1 (pt_cmpR op_in_seq (pe_ix ix_tup (pv 0) pe_int (fun _ _ => rfl)) (pe_tup (pa_cons pe_str (pa_cons pe_str pa_nil))) (by rfl))))) (pss_one (ps_ret (pe_tup pa_nil))) pss_nil)
    (pss_cons (ps_if (pt_cmpR op_eq (pe_ix ix_tup (pv 0) pe_int (fun _ _ => rfl)) pe_str (nomark _)) (pss_one (ps_ret (pe_ix ix_tup (pv 0) pe_int (fun _ _ => rfl)))) pss_nil)
    (pss_one (ps_ret (pe_ifExp (pt_cmpR op_in_seq (pe_ix ix_tup (pv 0) pe_int (fun _ _ => rfl)) (pe_tup (pa_cons pe_str (pa_cons pe_str pa_nil))) (by rfl)) (pe_slice sl_tup (pv 0) (po_some pe_int) po_none) (pe_slice sl_tup (pv 0) (po_some pe_int) po_none)))))), ?_⟩
  cases e with
  | num n =>
    unfold InE at ie
    subst ie
    refine ⟨_, rfl, _, _, _, _, true, rfl, .ty "int", .base (.int n), kit_ty (by decide +kernel), _, rfl, iteT (iteT ⟨sz (by decide), fun p hp => ?_⟩)⟩
    exact q p [] _ upd_same .nil (same_up hp)
  | nd k os =>
    unfold InE at ie
    obtain ⟨p, ws, rfl, ios, na⟩ := ie
    obtain ⟨tl, ht⟩ := na.tup
    refine ⟨_, rfl, _, _, _, _, false, rfl, .ty "int", .base (.tup ht), kit_ty (by decide +kernel), _, rfl, iteF ?_⟩
    refine ⟨_, rfl, p, _, _, _, rfl, rfl, SqT.of ht, at0 _ _, sz (by decide), fun t1 ht1 => ?_⟩
    have s1 := same_up (o := .tup [.str "read", .str "step"]) ht1
    refine ⟨t1, _, rfl, .inr (SqT.of upd_same), rfl, rfl, _, rfl, ?_⟩
    simp only [Bool.false_eq_true, if_false]
    rw [word_rs]
    cases hrs : k.isRS with
    | true =>
      refine iteT ⟨sz (by decide), fun t2 ht2 => ?_⟩
      have := hw k os rfl hrs
      subst this
      exact q t2 [] _ upd_same .nil (s1.trans (same_up ht2))
    | false =>
      refine iteF ⟨_, rfl, p, _, _, _, rfl, rfl, SqT.of (s1 _ _ ht), at0 _ _, rfl, _, rfl, ?_⟩
      rw [word_call]
      cases hc : k.isCall with
      | true =>
        cases k with
        | call f =>
          obtain ⟨qa, h1, h2⟩ := na
          refine iteT ⟨_, rfl, p, _, _, _, rfl, rfl, SqT.of (s1 _ _ h1), (rfl : atI [V.str "call", .str f, .ref qa] 2 = some (.ref qa)), ?_⟩
          exact q qa ws _ (s1 _ _ h2) (ios.keep fun p' xs z => s1 _ _ z) s1
        | _ => cases hc
      | false =>
        refine iteF ⟨_, rfl, p, _, _, _, rfl, rfl, SqT.of (s1 _ _ ht), at0 _ _, sz (by decide), fun t3 ht3 => ?_⟩
        have s3 := same_up (o := .tup [.str "store", .str "op"]) ht3
        have s13 := s1.trans s3
        refine ⟨t3, _, rfl, .inr (SqT.of upd_same), rfl, rfl, _, rfl, ?_⟩
        simp only [Bool.false_eq_true, if_false]
        rw [word_so]
        have fin2 : ∀ (a b : V), H p = some (.tup (a :: b :: ws)) → ∀ h', Same H h' → ∀ t4, h' t4 = none → InEs (upd h' t4 (.tup ws)) os ws → Q (.ref t4) (upd h' t4 (.tup ws)) := fun a b e h' sh t4 n4 i4 => q t4 ws _ upd_same i4 (sh.trans (same_up n4))
        have sl2 : ∀ (a b : V), H p = some (.tup (a :: b :: ws)) → (tSl (rSlT K) (tVar 0) (tPart (tC (.int 2))) tNoPart) [some (.ref p)] (upd (upd H t1 (.tup [.str "read", .str "step"])) t3 (.tup [.str "store", .str "op"])) Q := fun a b e => by
          refine ⟨_, rfl, _, rfl, p, _, rfl, SqT.of (s13 _ _ e), ?_, fun t4 n4 => ?_⟩
          · rintro ⟨z, _⟩
            have := HT.sIx_nat (a :: b :: ws).length 0 2
            rw [List.length_cons, List.length_cons] at this z
            have z' := this.symm.trans z
            omega
          · rw [cut2]
            exact q t4 ws _ upd_same (ios.keep fun p' xs z => same_up n4 _ _ (s13 _ _ z)) (s13.trans (same_up n4))
        have sl1 : ∀ (a : V), H p = some (.tup (a :: ws)) → (tSl (rSlT K) (tVar 0) (tPart (tC (.int 1))) tNoPart) [some (.ref p)] (upd (upd H t1 (.tup [.str "read", .str "step"])) t3 (.tup [.str "store", .str "op"])) Q := fun a e => by
          refine ⟨_, rfl, _, rfl, p, _, rfl, SqT.of (s13 _ _ e), ?_, fun t4 n4 => ?_⟩
          · rintro ⟨z, _⟩
            have := HT.sIx_nat (a :: ws).length 0 1
            rw [List.length_cons] at this z
            have z' := this.symm.trans z
            omega
          · rw [cut1]
            exact q t4 ws _ upd_same (ios.keep fun p' xs z => same_up n4 _ _ (s13 _ _ z)) (s13.trans (same_up n4))
        cases k with
        | read x => cases hrs
        | step x b w => cases hrs
        | call f => cases hc
        | store x => exact iteT (sl2 _ _ na)
        | op s => exact iteT (sl2 _ _ na)
        | thn => exact iteF (sl1 _ na)
        | and_ => exact iteF (sl1 _ na)
        | or_ => exact iteF (sl1 _ na)
        | cho => exact iteF (sl1 _ na)
end
end Oo
namespace Oo
open PySem L2 PyProof.Rows
/-! ### paths, preorder -/
def pv_ (p : List Nat) : List V := p.map fun (i : Nat) => V.int (i : Int)
def PathAt (H : Hp) (v : V) (p : List Nat) : Prop := ∃ q : Addr, v = .ref q ∧ H q = some (.tup (pv_ p))
theorem PathAt.keep {H H' : Hp} {v : V} {p : List Nat} (h : ∀ q xs, H q = some (.tup xs) → H' q = some (.tup xs)) (x : PathAt H v p) : PathAt H' v p := by
  obtain ⟨q, e, z⟩ := x
  exact ⟨q, e, h _ _ z⟩
theorem same_t {H H' : Hp} (s : Same H H') : ∀ q xs, H q = some (.tup xs) → H' q = some (.tup xs) := fun q xs z => s _ _ z
theorem cat_path {K : PySem.W.Frag} {H : Hp} {a b : Addr} {p : List Nat} {i : Nat} {Q : VK} (ha : H a = some (.tup (pv_ p))) (hb : H b = some (.tup [.int (i : Int)])) (hl : p.length ≤ 100) (q : ∀ v H', PathAt H' v (p ++ [i]) → Same H H' → Q v H') : rCatA K (.ref a) (.ref b) H Q := by
  refine ⟨a, b, _, _, rfl, rfl, SqT.of ha, SqT.of hb, sz (by simp [pv_]; omega), fun z => ?_, fun _ z => by simp at z, fun _ _ t ht => ?_⟩
  · have : p = [] := by simpa [pv_] using z
    subst this
    exact q _ H ⟨b, rfl, hb⟩ (Same.refl H)
  · exact q _ _ ⟨t, rfl, by rw [upd_same]; simp [pv_]⟩ (same_up ht)
mutual
def Ex.pre : Ex → List Nat → List (List Nat × Ex)
  | .num n, p => [(p, .num n)]
  | .nd k os, p => (p, .nd k os) :: Ex.pres os p 0
def Ex.pres : List Ex → List Nat → Nat → List (List Nat × Ex)
  | [], _, _ => []
  | e :: r, p, i => Ex.pre e (p ++ [i]) ++ Ex.pres r p (i + 1)
end
theorem Ex.pre_eq (e : Ex) (p : List Nat) : e.pre p = (p, e) :: Ex.pres e.ops p 0 := by
  cases e with
  | num n => simp [Ex.pre, Ex.ops, Ex.pres]
  | nd k os => simp [Ex.pre, Ex.ops]
theorem pres_append : ∀ (a b : List Ex) (p : List Nat) (j : Nat), Ex.pres (a ++ b) p j = Ex.pres a p j ++ Ex.pres b p (j + a.length)
  | [], b, p, j => by simp [Ex.pres]
  | e :: r, b, p, j => by
    show Ex.pres (e :: (r ++ b)) p j = _
    simp only [Ex.pres, pres_append r b p (j + 1), List.append_assoc, List.length_cons]
    congr 3
    omega
theorem pres_snoc (os : List Ex) (p : List Nat) (i : Nat) (h : i < os.length) : Ex.pres (os.take (i + 1)) p 0 = Ex.pres (os.take i) p 0 ++ Ex.pre os[i] (p ++ [i]) := by
  have hl : (os.take i).length = i := by rw [List.length_take]; omega
  rw [take_succ_get os i h, pres_append]
  simp [Ex.pres, hl]
mutual
theorem pre_len : ∀ (e : Ex) (p : List Nat), (e.pre p).length = e.nodes
  | .num _, p => by simp [Ex.pre, Ex.nodes]
  | .nd _ os, p => by simp [Ex.pre, Ex.nodes, pres_len os p 0]; omega
theorem pres_len : ∀ (es : List Ex) (p : List Nat) (j : Nat), (Ex.pres es p j).length = Ex.nodess es
  | [], p, j => by simp [Ex.pres, Ex.nodess]
  | e :: r, p, j => by simp [Ex.pres, Ex.nodess, pre_len e, pres_len r]
end
theorem nodess_take : ∀ (es : List Ex) (i : Nat), Ex.nodess (es.take i) ≤ Ex.nodess es
  | [], i => by simp [Ex.nodess]
  | e :: r, 0 => by simp [Ex.nodess]
  | e :: r, i + 1 => by
    have := nodess_take r i
    simp only [List.take_succ_cons, Ex.nodess]
    omega
theorem depth_get : ∀ (es : List Ex) (i : Nat) (h : i < es.length), es[i].depth ≤ Ex.depths es
  | e :: r, 0, h => by simp [Ex.depths]; omega
  | e :: r, i + 1, h => by
    have := depth_get r i (by simpa using h)
    simp only [List.getElem_cons_succ, Ex.depths]
    omega
theorem nodes_get : ∀ (es : List Ex) (i : Nat) (h : i < es.length), Ex.nodess (es.take i) + es[i].nodes ≤ Ex.nodess es
  | e :: r, 0, h => by simp [Ex.nodess]
  | e :: r, i + 1, h => by
    have := nodes_get r i (by simpa using h)
    simp only [List.take_succ_cons, List.getElem_cons_succ, Ex.nodess]
    omega
/-! one that reads or steps has no operands, at every node -/
mutual
def Shp : Ex → Prop
  | .num _ => True
  | .nd k os => (k.isRS = true → os = []) ∧ Shps os
def Shps : List Ex → Prop
  | [] => True
  | e :: r => Shp e ∧ Shps r
end
mutual
theorem ExW.shp {ps : List Str} {fns : List Fn} : ∀ (e : Ex), ExW ps fns e → Shp e
  | .num _, _ => by unfold Shp; trivial
  | .nd k os, h => by
    unfold ExW at h
    unfold Shp
    refine ⟨fun z => ?_, ExWs.shp os h.2⟩
    have h1 := h.1
    cases k with
    | read x =>
      cases os with
      | nil => rfl
      | cons e r => simp [KdW] at h1
    | step x b w =>
      cases os with
      | nil => rfl
      | cons e r => simp [KdW] at h1
    | _ => cases z
theorem ExWs.shp {ps : List Str} {fns : List Fn} : ∀ (es : List Ex), ExWs ps fns es → Shps es
  | [], _ => by unfold Shps; trivial
  | e :: r, h => by
    unfold ExWs at h
    unfold Shps
    exact ⟨ExW.shp e h.1, ExWs.shp r h.2⟩
end
theorem Shps.get : ∀ {es : List Ex}, Shps es → ∀ (i : Nat) (h : i < es.length), Shp es[i]
  | e :: r, s, 0, h => by unfold Shps at s; exact s.1
  | e :: r, s, i + 1, h => by
    unfold Shps at s
    simpa using Shps.get s.2 i (by simpa using h)
theorem Shp.ops {e : Ex} (s : Shp e) : Shps e.ops := by
  cases e with
  | num n => unfold Ex.ops Shps; trivial
  | nd k os => unfold Shp at s; exact s.2
theorem Shp.rs {e : Ex} (s : Shp e) : ∀ k os, e = .nd k os → k.isRS = true → os = [] := fun k os h => by
  subst h
  unfold Shp at s
  exact s.1
theorem depth_ops {e : Ex} {i : Nat} (h : i < e.ops.length) : (e.ops[i]).depth + 1 ≤ e.depth := by
  cases e with
  | num n => simp [Ex.ops] at h
  | nd k os =>
    have := depth_get os i h
    show os[i].depth + 1 ≤ Ex.depth (.nd k os)
    have e : Ex.depth (.nd k os) = 1 + Ex.depths os := by simp [Ex.depth]
    rw [e]
    omega
theorem nodes_ops (e : Ex) : 1 + Ex.nodess e.ops = e.nodes := by
  cases e with
  | num n => simp [Ex.ops, Ex.nodess, Ex.nodes]
  | nd k os => simp [Ex.ops, Ex.nodes]
theorem InEs.get {H : Hp} : ∀ {es : List Ex} {vs : List V}, InEs H es vs → ∀ (i : Nat) (h : i < es.length), ∃ v, vs[i]? = some v ∧ InE H es[i] v
  | e :: r, vs, q, i, h => by
    unfold InEs at q
    obtain ⟨v, ws, rfl, q1, q2⟩ := q
    cases i with
    | zero => exact ⟨v, rfl, q1⟩
    | succ i => exact InEs.get q2 i (by simpa using h)
def RowN (H : Hp) (v : V) (r : List Nat × Ex) : Prop := ∃ (q : Addr) (vp ve : V), v = .ref q ∧ H q = some (.tup [vp, ve]) ∧ PathAt H vp r.1 ∧ InE H r.2 ve
theorem RowN.keep {H H' : Hp} {v : V} {r : List Nat × Ex} (h : ∀ q xs, H q = some (.tup xs) → H' q = some (.tup xs)) (x : RowN H v r) : RowN H' v r := by
  obtain ⟨q, vp, ve, e, z, a, b⟩ := x
  exact ⟨q, vp, ve, e, h _ _ z, a.keep h, b.keep h⟩
theorem paired_append {α β : Type} {F : α → β → Prop} : ∀ {a : List α} {b : List β} {c : List α} {d : List β}, Paired F a b → Paired F c d → Paired F (a ++ c) (b ++ d)
  | _, _, _, _, .nil, y => y
  | _, _, _, _, .cons f t, y => .cons f (paired_append t y)
def spNodes (N : Nat) : Sp := fun vs H Q _ => ∃ (ve vp : V) (e : Ex) (p : List Nat), vs = [ve, vp] ∧ InE H e ve ∧ Shp e ∧ PathAt H vp p ∧ e.depth ≤ N ∧ p.length + e.depth ≤ 90 ∧ e.nodes ≤ 900 ∧
  ∀ (l : Addr) (rows : List V) (H' : Hp), H l = none → H' l = some (.lst rows) → Paired (RowN H') rows (e.pre p) → Same H H' → Q (.ref l) H'
section
variable {P : Program} {w : World} {K : PySem.W.Frag} {mg : Str → Option Value} {base : Heap} {X : Cx}
theorem scNodes : FnScope ["_law_node", "_law_path", "_law_found", "_law_at", "_law_one"] ["_law_node", "_law_path"] (defScope sNodes) := ⟨rfl, rfl, rfl, by decide +kernel, rfl, by decide +kernel, by decide +kernel⟩
theorem ok_nodes {N L : Nat} {f fp fn : Addr} {fd fdp fdn : FuncData} (F : Fun K "_law_nodes" "_law_nodes" sNodes f fd) (hL : 1 ≤ L) (men : mg "enumerate" = none)
    (GP : FnOk P w K mg base CX0 1 fp fdp ["_law_node"] spOperands) (kP : PySem.W.keepIn K (.ref fp) = true) (bP : Binds K fdp ["_law_node"] []) (mP : mg "_law_operands" = some (.ref fp))
    (GN : FnOk P w K mg base CX0 L fn fdn ["_law_node", "_law_path"] (spNodes N)) (kN : PySem.W.keepIn K (.ref fn) = true) (bN : Binds K fdn ["_law_node", "_law_path"] []) (mN : mg "_law_nodes" = some (.ref fn)) :
    FnOk P w K mg base CX0 (L + 1) f fd ["_law_node", "_law_path"] (spNodes (N + 1)) := by
  refine F.ok scNodes (fun vs H Q E h => ?_) (fun cdv A outer s H vs Q E hr h => ?_)
  · obtain ⟨ve, vp, e, p, rfl, _⟩ := h
    rfl
  obtain ⟨ve, vp, e, p, rfl, ie, sh, hp, hd, hpl, hnn, q⟩ := h
  have hr1 : Room 1 _ := hr.mono hL
  refine ⟨_, (pss_cons (ps_set (i := 2) scNodes.nd rfl (.inl rfl) (pe_lst (pa_cons (pe_tup (pa_cons (pv 1) (pa_cons (pv 0) pa_nil))) pa_nil)))
    (pss_cons (ps_for PassesOwn.never rfl (pi_enumT (by rfl) men (pa_cons (pe_call GP hr1 rfl mP kP bP .nil pass0 (pa_cons (pv 0) pa_nil)) pa_nil)) (pg_tup rfl (pgs_cons (pg_name (i := 3) scNodes.nd rfl (Or.inl rfl)) (pgs_cons (pg_name (i := 4) scNodes.nd rfl (Or.inl rfl)) pgs_nil))) (pss_one (ps_set (i := 2) scNodes.nd rfl (.inl rfl) (pe_op op_cat (pv 2) (pe_call GN hr rfl mN kN bN .nil pass0 (pa_cons (pv 4) (pa_cons (pe_op op_catA (pv 1) (pe_tup (pa_cons (pv 3) pa_nil))) pa_nil)))))))
    (pss_one (ps_ret (pv 2))))), ?_⟩
  obtain ⟨pa, rfl, epa⟩ := id hp
  refine ⟨_, rfl, _, rfl, sz (by show 2 ≤ 1000; decide), fun t0 n0 => ⟨sz (by show 1 ≤ 1000; decide), fun l0 nl0 => ?_⟩⟩
  have s0 : Same H (upd (upd H t0 (.tup [.ref pa, ve])) l0 (.lst [.ref t0])) := (same_up n0).trans (same_up nl0)
  have et0 : (upd (upd H t0 (.tup [.ref pa, ve])) l0 (.lst [.ref t0])) t0 = some (.tup [.ref pa, ve]) := same_up nl0 _ _ upd_same
  refine ⟨_, rfl, ve, e, rfl, ie.keep (same_t s0) , sh.rs, fun po ws H1 eo io s1 => ?_⟩
  have s01 := s0.trans s1
  refine ⟨po, ws, rfl, SqT.of eo, ?_⟩
  have hws : ws.length = e.ops.length := io.length
  refine for_it walk_enumU (fun i σ H' => ∃ (l : Addr) (rows : List V) (x y : Option V), σ = [some ve, some (.ref pa), some (.ref l), x, y] ∧ H l = none ∧ H' l = some (.lst rows) ∧ Paired (RowN H') rows ((p, e) :: Ex.pres (e.ops.take i) p 0) ∧ H' po = some (.tup ws) ∧ InEs H' e.ops ws ∧ Same H H')
    ⟨l0, [.ref t0], none, none, rfl, (same_up n0).free nl0, s1 _ _ upd_same, ?_, eo, io, s01⟩ (fun i σ H' _ ⟨_, _, _, _, _, _, _, _, z, _⟩ => SqT.of z) ?_ ?_
  · simp only [List.take_zero, Ex.pres]
    exact .cons ⟨t0, _, _, rfl, s1 _ _ et0, hp.keep (same_t s01), ie.keep (same_t s01)⟩ .nil
  · rintro i x σ H2 H3 hi ⟨l, rows, x0, y0, rfl, nl, el, pr, eo2, io2, s2⟩ ⟨T, x', y', rfl, nT, rfl, hx, hy⟩
    have hx' : x' = .int (i : Int) := (Option.some.inj hx).symm
    subst hx'
    have hio : i < e.ops.length := by omega
    obtain ⟨v, hv, iv⟩ := io2.get i hio
    have : y' = v := Option.some.inj (hy.symm.trans hv)
    subst this
    have sT := same_up (o := .tup [V.int (i : Int), y']) nT
    refine ⟨T, _, rfl, SqT.of upd_same, rfl, _, _, rfl, _, _, rfl, rfl, ?_⟩
    have s3 := s2.trans sT
    refine ⟨_, rfl, _, rfl, _, rfl, _, rfl, sz (by show 1 ≤ 1000; decide), fun t1 n1 => ?_⟩
    have s4 := s3.trans (same_up (o := .tup [V.int (i : Int)]) n1)
    have sA := sT.trans (same_up (o := .tup [V.int (i : Int)]) n1)
    refine cat_path (s4 _ _ epa) upd_same (by omega) fun vp2 H4 hp2 s5 => ?_
    have s25 := sA.trans s5
    have hdi := depth_ops hio
    have hnn' := nodes_get e.ops i hio
    have hno := nodes_ops e
    refine ⟨y', vp2, e.ops[i], p ++ [i], rfl, iv.keep (same_t s25), sh.ops.get i hio, hp2, by omega, by rw [List.length_append, List.length_singleton]; omega, by omega, fun l6 rows6 H6 nl6 el6 pr6 s6 => ?_⟩
    have s26 := s25.trans s6
    have hlen1 := pr.length
    have hlen2 := pr6.length
    rw [List.length_cons, pres_len] at hlen1
    rw [pre_len] at hlen2
    refine ⟨l, l6, _, _, rfl, rfl, s26 _ _ el, el6, sz (by omega), fun l7 nl7 => ?_⟩
    have s27 := s26.trans (same_up (o := .lst (rows ++ rows6)) nl7)
    refine ⟨l7, rows ++ rows6, _, _, rfl, (s2.trans s26).free nl7, upd_same, ?_, s27 _ _ eo2, io2.keep (same_t s27), s2.trans s27⟩
    rw [pres_snoc _ _ _ hio, ← List.cons_append]
    exact paired_append (L2.Paired.mapP pr fun a b r => r.keep (same_t s27)) (L2.Paired.mapP pr6 fun a b r => r.keep (same_t (same_up nl7)))
  · rintro σ H2 ⟨l, rows, x0, y0, rfl, nl, el, pr, eo2, io2, s2⟩
    rw [hws, List.take_length, ← Ex.pre_eq] at pr
    exact ⟨_, rfl, q l rows H2 nl el pr s2⟩
end
end Oo
namespace Oo
open PySem L2 PyProof.Rows
def dI (p : List Nat) : List PyData := p.map fun (i : Nat) => PyData.int (i : Int)
def dP (p : List Nat) : PyData := .tuple (dI p)
def pathLt (p q : List Nat) : Prop := PySem.W.dataLt (dP p) (dP q) = true
theorem alike_ints : ∀ (p q : List Nat), PySem.W.alikeAll (dI p) (dI q) = true
  | [], q => by cases q <;> rfl
  | i :: p, [] => rfl
  | i :: p, j :: q => by
    show (PySem.W.alike (.int (i : Int)) (.int (j : Int)) && PySem.W.alikeAll (dI p) (dI q)) = true
    rw [alike_ints p q]
    rfl
theorem alike_paths (ps : List (List Nat)) : PySem.W.AllAlike (ps.map dP) := fun d hd d' hd' => by
  obtain ⟨p, _, rfl⟩ := List.mem_map.mp hd
  obtain ⟨q, _, rfl⟩ := List.mem_map.mp hd'
  show PySem.W.alike (.tuple (dI p)) (.tuple (dI q)) = true
  simp only [PySem.W.alike]
  exact alike_ints p q
theorem depth_ints : ∀ p : List Nat, PyData.depthAll (dI p) = 0
  | [] => by simp [dI, PyData.depthAll]
  | i :: p => by
    have := depth_ints p
    simp [dI, PyData.depthAll, PyData.depth] at this ⊢
    exact this
theorem depth_path (p : List Nat) : (dP p).depth = 1 := by
  unfold dP
  simp [PyData.depth, depth_ints]
theorem dpAll_ints {K : PySem.W.Frag} {H : Hp} : ∀ p : List Nat, DpAll K H (pv_ p) (dI p)
  | [] => .nil
  | i :: p => .cons (.int _) (dpAll_ints p)
theorem PathAt.dp {K : PySem.W.Frag} {H : Hp} {v : V} {p : List Nat} (h : PathAt H v p) : Dp K H v (dP p) := by
  obtain ⟨q, rfl, e⟩ := h
  exact .tup (SqT.of e) (dpAll_ints p)
/-! the order of paths -/
theorem toks_pre (p q r : List Nat) : PySem.W.dataLt (dP (p ++ q)) (dP (p ++ r)) = PySem.W.dataLt (dP q) (dP r) := by
  unfold dP
  rw [PySem.W.dataLt_tuple, PySem.W.dataLt_tuple]
  induction p with
  | nil => rfl
  | cons i p ih =>
    rw [← ih]
    show lexLt itemOrd (PySem.W.keyToksAll (.int (i : Int) :: dI (p ++ q))) (PySem.W.keyToksAll (.int (i : Int) :: dI (p ++ r))) = _
    simp only [PySem.W.keyToksAll, PySem.W.keyToks]
    exact PySem.W.lex_pre [.inl 1, .inl (i : Int)] _ _
theorem nil_lt (i : Nat) (r : List Nat) : pathLt [] (i :: r) := by
  unfold pathLt dP
  rw [PySem.W.dataLt_tuple]
  simp only [dI, List.map_nil, List.map_cons, PySem.W.keyToksAll]
  rfl
theorem cons_lt {i j : Nat} (h : i < j) (q r : List Nat) : pathLt (i :: q) (j :: r) := by
  unfold pathLt dP
  rw [PySem.W.dataLt_tuple]
  simp only [dI, List.map_cons, PySem.W.keyToksAll, PySem.W.keyToks]
  have ne : (Sum.inl (i : Int) : Int ⊕ List Nat) ≠ Sum.inl (j : Int) := fun z => by
    have := Sum.inl.inj z
    omega
  refine (lex_self (O := itemOrd) (Sum.inl 1) _ _).trans ((lex_diff (O := itemOrd) ne).trans ?_)
  show decide ((i : Int) < (j : Int)) = true
  exact decide_eq_true (by omega)
theorem lt_nil (p : List Nat) : ¬ pathLt p [] := by
  unfold pathLt dP
  rw [PySem.W.dataLt_tuple]
  cases p with
  | nil =>
    simp only [dI, List.map_nil, PySem.W.keyToksAll]
    decide
  | cons i p =>
    simp only [dI, List.map_nil, List.map_cons, PySem.W.keyToksAll]
    have ne : (Sum.inl 1 : Int ⊕ List Nat) ≠ Sum.inl 0 := fun z => by
      have := Sum.inl.inj z
      omega
    intro z
    have := (lex_diff (O := itemOrd) ne).symm.trans z
    exact absurd this (by decide)
theorem pathLt.pre {p q r : List Nat} (h : pathLt q r) : pathLt (p ++ q) (p ++ r) := by
  unfold pathLt at h ⊢
  rw [toks_pre]
  exact h
mutual
theorem pre_form : ∀ (e : Ex) (p : List Nat), ∀ x ∈ e.pre p, ∃ q, x.1 = p ++ q
  | .num n, p, x, h => by
    simp only [Ex.pre, List.mem_singleton] at h
    exact ⟨[], by rw [h]; simp⟩
  | .nd k os, p, x, h => by
    simp only [Ex.pre, List.mem_cons] at h
    rcases h with h | h
    · exact ⟨[], by rw [h]; simp⟩
    · obtain ⟨i, q, _, e⟩ := pres_form os p 0 x h
      exact ⟨i :: q, e⟩
theorem pres_form : ∀ (os : List Ex) (p : List Nat) (j : Nat), ∀ x ∈ Ex.pres os p j, ∃ i q, j ≤ i ∧ x.1 = p ++ i :: q
  | [], p, j, x, h => by simp [Ex.pres] at h
  | e :: r, p, j, x, h => by
    simp only [Ex.pres, List.mem_append] at h
    rcases h with h | h
    · obtain ⟨q, z⟩ := pre_form e (p ++ [j]) x h
      exact ⟨j, q, Nat.le_refl _, by rw [z, List.append_assoc]; rfl⟩
    · obtain ⟨i, q, hi, z⟩ := pres_form r p (j + 1) x h
      exact ⟨i, q, by omega, z⟩
end
mutual
theorem pre_asc : ∀ (e : Ex) (p : List Nat), (e.pre p).Pairwise fun x y => pathLt x.1 y.1
  | .num n, p => by simp [Ex.pre]
  | .nd k os, p => by
    simp only [Ex.pre, List.pairwise_cons]
    refine ⟨fun y hy => ?_, pres_asc os p 0⟩
    obtain ⟨i, q, _, z⟩ := pres_form os p 0 y hy
    rw [z]
    have := (nil_lt i q).pre (p := p)
    rwa [List.append_nil] at this
theorem pres_asc : ∀ (os : List Ex) (p : List Nat) (j : Nat), (Ex.pres os p j).Pairwise fun x y => pathLt x.1 y.1
  | [], p, j => by simp [Ex.pres]
  | e :: r, p, j => by
    simp only [Ex.pres, List.pairwise_append]
    refine ⟨pre_asc e (p ++ [j]), pres_asc r p (j + 1), fun x hx y hy => ?_⟩
    obtain ⟨q, z⟩ := pre_form e (p ++ [j]) x hx
    obtain ⟨i, q', hi, z'⟩ := pres_form r p (j + 1) y hy
    rw [z, z', List.append_assoc]
    exact (cons_lt (by omega) q q').pre
end
/-! ### sorted(paths) -/
def rSortedP (K : PySem.W.Frag) : List V → Hp → VK → Prop := fun vs H Q => ∃ (a : Addr) (rows : List V) (ps : List (List Nat)), vs = [.ref a] ∧ SqL K H a rows ∧ Paired (PathAt H) rows ps ∧ ps.length ≤ 1000 ∧ ps.Pairwise pathLt ∧
  ∀ q, H q = none → Q (.ref q) (upd H q (.lst rows))
theorem each_of {α β γ : Type} {R : α → β → Prop} {S : α → γ → Prop} {T : γ → β → Prop} (h : ∀ u v b, S u v → T v b → R u b) : ∀ {us : List α} {vs : List γ} {bs : List β}, Paired (fun v u => S u v) vs us → Paired T vs bs → PySem.W.EachIs R us bs
  | _, _, _, .nil, .nil => .nil
  | _, _, _, .cons s t, .cons s' t' => .cons (h _ _ _ s s') (each_of h t t')
theorem vals_of_each {R : Value → V × List Nat → Prop} (h : ∀ u b, R u b → RelV b.1 u) : ∀ {us : List Value} {bs : List (V × List Nat)}, PySem.W.EachIs R us bs → Vals (bs.map (·.1)) us
  | _, _, .nil => .nil
  | _, _, .cons s t => .cons (h _ _ s) (vals_of_each h t)
theorem each_zip {R : Value → V × List Nat → Prop} {F : V → List Nat → Prop} (h : ∀ u v p, RelV v u → F v p → R u (v, p)) : ∀ {rows : List V} {us : List Value} {ps : List (List Nat)}, Vals rows us → Paired F rows ps → PySem.W.EachIs R us (rows.zip ps)
  | _, _, _, .nil, .nil => .nil
  | _, _, _, .cons s t, .cons s' t' => .cons (h _ _ _ s s') (each_zip h t t')
theorem zip_fst : ∀ {rows : List V} {ps : List (List Nat)}, rows.length = ps.length → (rows.zip ps).map (·.1) = rows
  | [], [], _ => rfl
  | _ :: r, _ :: t, h => by
    simp only [List.zip_cons_cons, List.map_cons]
    rw [zip_fst (by simpa using h)]
theorem zip_snd : ∀ {rows : List V} {ps : List (List Nat)}, rows.length = ps.length → (rows.zip ps).map (·.2) = ps
  | [], [], _ => rfl
  | _ :: r, _ :: t, h => by
    simp only [List.zip_cons_cons, List.map_cons]
    rw [zip_snd (by simpa using h)]
theorem each_unmap {hS : Heap} : ∀ {us : List Value} {ds : List (List PyData)}, PySem.W.EachIs (fun v d => ∃ as, Reads hS v d as) us (ds.map PyData.tuple) → PySem.W.EachIs (fun v d => ∃ as, Reads hS v (.tuple d) as) us ds
  | [], [], _ => .nil
  | u :: us, d :: ds, h => by
    rw [List.map_cons] at h
    cases h with
    | cons a t => exact .cons a (each_unmap t)
  | [], d :: ds, h => by cases h
  | u :: us, [], h => by cases h
theorem cr_sortedP {X : Cx} (hu : X.A.units + 64 < cLine) : CallR X (.builtin "sorted") (rSortedP X.K) := by
  intro pins s σ H vs us Q I r h
  obtain ⟨a, rows, ps, rfl, hs, pr, hlen, asc, q⟩ := h
  obtain ⟨its, rv, hl, _⟩ := I.list hs
  rw [Vals.ref1 r]
  have hrl : rows.length = ps.length := pr.length
  have hil : its.length = ps.length := by rw [← rv.length]; exact hrl
  let bs := rows.zip ps
  have ebs2 : bs.map (·.2) = ps := zip_snd hrl
  have ebs1 : bs.map (·.1) = rows := zip_fst hrl
  have bl : bs.length = ps.length := by rw [← ebs2, List.length_map]
  let enc : V × List Nat → PyData := fun b => dP b.2
  have emap : bs.map enc = ps.map dP := by rw [← ebs2, List.map_map]; rfl
  have e : PySem.W.EachIs (fun u (b : V × List Nat) => RelV b.1 u) its bs := each_zip (fun u v p x _ => x) rv pr
  have er : PySem.W.EachIs (fun u (b : V × List Nat) => ∃ as, Reads s.heap u (enc b) as) its bs := each_zip (F := PathAt H) (fun u v p x y => Dp.reads I (dP p) v u y.dp x) rv pr
  have hal : PySem.W.AllAlike (bs.map enc) := by rw [emap]; exact alike_paths ps
  have hd1 : ∀ b ∈ bs, X.A.units + 2 + (enc b).depth < cLine := fun b _ => by
    show X.A.units + 2 + (dP b.2).depth < cLine
    rw [depth_path]
    omega
  have hL : its.length ≤ sizeLine := sz (by omega)
  have er' : PySem.W.EachIs (fun v b => ∃ as, Reads (PySem.W.sortingHeap (PySem.W.copyHeap s.heap its) (s.heap.objs.size + 1) its) v (enc b) as) its bs := er.mono fun _ _ ⟨as, r⟩ => ⟨as, PyProof.Rows.Reads.keeps (fun _ _ => PySem.W.sorting_copy_old) r⟩
  let hS := PySem.W.sortingHeap (PySem.W.copyHeap s.heap its) (s.heap.objs.size + 1) its
  have hd2 : ∀ d, d ∈ bs.map enc → X.A.in1.in1.units + d.depth < cLine := fun d hd => by
    obtain ⟨b, hb, rfl⟩ := List.mem_map.mp hd
    have := hd1 b hb
    show X.A.units + 1 + 1 + (enc b).depth < cLine
    omega
  have S : PySem.W.SortsAt X.prog X.w X.A.in1.in1 { s with heap := hS } (PySem.W.dataKind hS (bs.map enc)) its := by
    by_cases hz : ∀ p ∈ ps, p ≠ []
    · refine PySem.W.SortsAt.data (s := { s with heap := hS }) (PySem.W.each_map (R := fun v d => ∃ as, Reads hS v d as) enc er') hal (.inl fun d hd => ?_) hd2
      rw [emap] at hd
      obtain ⟨p, hp, rfl⟩ := List.mem_map.mp hd
      cases p with
      | nil => exact absurd rfl (hz _ hp)
      | cons i p => exact ⟨_, _, rfl⟩
    · obtain ⟨t, et⟩ : ∃ t, ps = [] :: t := by
        cases ps with
        | nil => exact absurd (fun p hp => by cases hp) hz
        | cons p t =>
          rw [List.pairwise_cons] at asc
          cases p with
          | nil => exact ⟨t, rfl⟩
          | cons i p =>
            refine absurd (fun p' hp' => ?_) hz
            rcases List.mem_cons.mp hp' with h | h
            · rw [h]; simp
            · intro z
              rw [z] at h
              exact lt_nil _ (asc.1 _ h)
      have em2 : bs.map enc = (([] : List PyData) :: t.map dI).map PyData.tuple := by
        rw [emap, et]
        simp [dP, dI]
      have er2 := PySem.W.each_map (R := fun v d => ∃ as, Reads hS v d as) enc er'
      rw [em2] at er2 hal hd2 ⊢
      exact sorts_first (s := { s with heap := hS }) (each_unmap er2) er2 hal hd2
  have eo := PySem.W.sortVals_data (h' := hS) false e er' hal
  have srt : bs.mergeSort (PySem.W.dataLe false enc) = bs := by
    refine List.mergeSort_of_pairwise ?_
    have asc2 : bs.Pairwise fun x y => pathLt x.2 y.2 := by
      have := asc
      rw [← ebs2, List.pairwise_map] at this
      exact this
    refine asc2.imp fun {x y} hxy => ?_
    rw [PySem.W.dataLe_eq]
    show (!PySem.W.dataLt (dP y.2) (dP x.2)) = true
    cases z : PySem.W.dataLt (dP y.2) (dP x.2) with
    | false => rfl
    | true =>
      have h1 : (listOrd itemOrd).blt (PySem.W.keyToks (dP x.2)) (PySem.W.keyToks (dP y.2)) = true := hxy
      have h2 : (listOrd itemOrd).blt (PySem.W.keyToks (dP y.2)) (PySem.W.keyToks (dP x.2)) = true := z
      have h3 := (listOrd itemOrd).trans _ _ _ h1 h2
      rw [(listOrd itemOrd).irrefl] at h3
      cases h3
  rw [srt] at eo
  have hv := vals_of_each (fun u b x => x) eo
  rw [ebs1] at hv
  refine PySem.W.sorted_vals hl.isList S hL ?_
  obtain ⟨ep, he'⟩ := PyProof.Rows.sortedAll_at s.heap its (PySem.W.sortVals (PySem.W.dataKind hS (bs.map enc)) false its its).toArray
  exact ⟨.ref _, upd H (s.heap.objs.size + 1) (.lst rows), I.laid (t' := s.toks) (fun _ _ => PyProof.Rows.sortedAll_old) (Nat.le_succ _) ⟨sz (by omega), _, ep, by simpa using hv, he'⟩, rfl, q _ (I.hok.fresh (Nat.le_succ _))⟩
end Oo
namespace Oo
open PySem L2 PyProof.Rows
abbrev sOpen : Stmt := top 88
abbrev sPoints : Stmt := top 89
def Ex.isNum : Ex → Bool
  | .num _ => true
  | .nd _ _ => false
def isOpenE : Ex → Bool
  | .nd (.op _) _ => true
  | .nd (.call _) os => decide (1 < os.length)
  | _ => false
def Ex.opens (e : Ex) (p : List Nat) : List (List Nat) := ((e.pre p).filter fun x => isOpenE x.2).map (·.1)
theorem isi_ex {K : PySem.W.Frag} {H : Hp} {e : Ex} {v : V} {Q : VK} (ie : InE H e v) (q : Q (.bl e.isNum) H) : rIsi K [v, .ty "int"] H Q := by
  cases e with
  | num n =>
    unfold InE at ie
    subst ie
    exact ⟨_, _, _, _, true, rfl, .ty "int", .base (.int n), kit_ty (by decide +kernel), q⟩
  | nd k os =>
    unfold InE at ie
    obtain ⟨p, ws, rfl, ios, na⟩ := ie
    obtain ⟨tl, ht⟩ := na.tup
    exact ⟨_, _, _, _, false, rfl, .ty "int", .base (.tup ht), kit_ty (by decide +kernel), q⟩
def Kd.isOp : Kd → Bool
  | .op _ => true | _ => false
theorem word_op (k : Kd) : decide (V.str k.word = .str "op") = k.isOp := by
  cases k <;> first | exact decide_eq_true rfl | exact decide_eq_false (by simp only [Kd.word]; decide +kernel)
theorem paired_get {α β : Type} {F : α → β → Prop} : ∀ {xs : List α} {ys : List β} {i : Nat} {x : α}, Paired F xs ys → xs[i]? = some x → ∃ y, ys[i]? = some y ∧ F x y
  | _, _, i, x, .nil, h => by simp at h
  | _, _, 0, x, .cons f t, h => by
    have : _ = x := Option.some.inj h
    exact ⟨_, rfl, this ▸ f⟩
  | _, _, i + 1, x, .cons f t, h => by
    obtain ⟨y, h1, h2⟩ := paired_get (i := i) t (by simpa using h)
    exact ⟨y, by simpa using h1, h2⟩
def ttNotNum (i : Nat) : TT := fun σ H Q => ∃ v r, σ[i]? = some (some v) ∧ RowN H v r ∧ Q (!r.2.isNum) H
def ttOpenE (i : Nat) : TT := fun σ H Q => ∃ v e, σ[i]? = some (some v) ∧ InE H e v ∧ e.isNum = false ∧ Q (isOpenE e) H
def spOpen : Sp := fun vs H Q _ => ∃ (v : V) (e : Ex), vs = [v] ∧ InE H e v ∧ Shp e ∧ e.depth ≤ 80 ∧ e.nodes ≤ 900 ∧
  ∀ (l : Addr) (rows : List V) (H' : Hp), H l = none → H' l = some (.lst rows) → Paired (PathAt H') rows (e.opens []) → Same H H' → Q (.ref l) H'
section
variable {P : Program} {w : World} {K : PySem.W.Frag} {mg : Str → Option Value} {base : Heap} {X : Cx}
theorem scOpen : FnScope ["_law_expr_here", "_law_some_here", "_law_pair", "_law_path", "_law_node"] ["_law_expr_here"] (defScope sOpen) := ⟨rfl, rfl, rfl, by decide +kernel, rfl, by decide +kernel, by decide +kernel⟩
theorem ok_open {f fn : Addr} {fd fdn : FuncData} {L : Nat} (F : Fun K "_law_open" "_law_open" sOpen f fd) (hL : 1 ≤ L) (mi : mg "int" = none) (mis : mg "isinstance" = none) (ml : mg "len" = none) (ms : mg "sorted" = none)
    (GN : FnOk P w K mg base CX0 L fn fdn ["_law_node", "_law_path"] (spNodes 80)) (kN : PySem.W.keepIn K (.ref fn) = true) (bN : Binds K fdn ["_law_node", "_law_path"] []) (mN : mg "_law_nodes" = some (.ref fn)) :
    FnOk P w K mg base CX0 (L + 1) f fd ["_law_expr_here"] spOpen := by
  refine F.ok scOpen (fun vs H Q E h => ?_) (fun cdv A outer s H vs Q E hr h => ?_)
  · obtain ⟨v, e, rfl, _⟩ := h
    rfl
  obtain ⟨v, e, rfl, ie, sh, hd, hn, q⟩ := h
  refine ⟨_, (pss_cons (ps_setLc (i := 1) (own := [("_law_pair", 2)]) (g := gName 2) (by rfl) scOpen.nd rfl rfl (sw_true rfl rfl rfl (by decide +kernel)) (pi_list (pe_call GN hr rfl mN kN bN .nil pass0 (pa_cons (pv 0) (pa_cons (pe_tup pa_nil) pa_nil)))) (blkOk_by (own := [("_law_pair", 2)]) (N := ["_law_expr_here", "_law_some_here", "_law_pair", "_law_path", "_law_node"]) (sc := defScope sOpen) (by decide +kernel)) (fun _ _ _ _ _ => (pg_name (i := 2) scOpen.nd rfl (Or.inl rfl))) (fun _ _ _ _ _ => (pts_one (pt_as (t' := ttNotNum 2) (pt_not (pt_val (pe_callB call_isi (by rfl) mis boot_isinstance (pa_cons (pe_ix ix_tup (pv 2) pe_int (fun _ _ => rfl)) (pa_cons (pe_bltn (v := .ty "int") (by rfl) mi (by decide +kernel) rfl) pa_nil))))) ?c1))) (fun _ _ _ _ _ => (pv 2)))
    (pss_one (ps_ret (pe_callB (cr_sortedP hr.units) (by rfl) ms (by decide +kernel) (pa_cons (pe_lc (own := [("_law_path", 3), ("_law_node", 4)]) (g := gTup K 2 (gCons (gName 3) (gCons (gName 4) gNil))) (by rfl) scOpen.nd (pi_list (pv 1)) (blkOk_by (own := [("_law_path", 3), ("_law_node", 4)]) (N := ["_law_expr_here", "_law_some_here", "_law_pair", "_law_path", "_law_node"]) (sc := defScope sOpen) (by decide +kernel)) (fun _ _ _ _ _ => (pg_tup rfl (pgs_cons (pg_name (i := 3) scOpen.nd rfl (Or.inl rfl)) (pgs_cons (pg_name (i := 4) scOpen.nd rfl (Or.inl rfl)) pgs_nil)))) (fun _ _ _ _ _ => (pts_one (pt_as (t' := ttOpenE 4) (PW.pt (pw_or (pt_cmpR op_eq (pe_ix ix_tup (pv 4) pe_int (fun _ _ => rfl)) pe_str (nomark _)) (pw_or1 (PW.pt (pw_and (pt_cmpR op_eq (pe_ix ix_tup (pv 4) pe_int (fun _ _ => rfl)) pe_str (nomark _)) (pw_and1 (pt_cmpR op_gt (pe_callB call_len_seq (by rfl) ml PySem.boot_len (pa_cons (pe_ix ix_tup (pv 4) pe_int (fun _ _ => rfl)) pa_nil)) pe_int (nomark _)))))))) ?c2))) (fun _ _ _ _ _ => (pv 3))) pa_nil))))), ?_⟩
  case c1 =>
    rintro σ H Q ⟨v, r, e2, rn, q⟩
    obtain ⟨qd, vp, ve', rfl, eq, hp', ie'⟩ := rn
    exact ⟨_, e2, qd, _, _, _, rfl, rfl, SqT.of eq, (rfl : atI [vp, ve'] 1 = some ve'), isi_ex (Q := fun x H1 => ∃ c, x = V.bl c ∧ Q (!c) H1) ie' ⟨_, rfl, q⟩⟩
  case c2 =>
    rintro σ H Q ⟨v, e, e4, ie, hnum, q⟩
    cases e with
    | num n => cases hnum
    | nd k os =>
      unfold InE at ie
      obtain ⟨p, ws, rfl, ios, na⟩ := ie
      obtain ⟨tl, ht⟩ := na.tup
      refine ⟨_, e4, p, _, _, _, rfl, rfl, SqT.of ht, at0 _ _, rfl, _, rfl, ?_⟩
      rw [word_op]
      cases ho : k.isOp with
      | true =>
        cases k with
        | op s => exact iteT q
        | _ => cases ho
      | false =>
        refine iteF ⟨_, e4, p, _, _, _, rfl, rfl, SqT.of ht, at0 _ _, rfl, _, rfl, ?_⟩
        rw [word_call]
        cases hc : k.isCall with
        | true =>
          cases k with
          | call f =>
            obtain ⟨qa, h1, h2⟩ := na
            refine iteT ⟨_, e4, p, _, _, _, rfl, rfl, SqT.of h1, (rfl : atI [V.str "call", .str f, .ref qa] 2 = some (.ref qa)), qa, _, rfl, .inr (SqT.of h2), _, _, rfl, rfl, _, rfl, ?_⟩
            have : (decide ((1 : Int) < (ws.length : Int))) = isOpenE (.nd (.call f) os) := by
              rw [ios.length]
              show _ = decide (1 < os.length)
              by_cases z : 1 < os.length
              · rw [decide_eq_true z, decide_eq_true (by omega)]
              · rw [decide_eq_false z, decide_eq_false (by omega)]
            rw [this]
            exact q
          | _ => cases hc
        | false =>
          refine iteF ?_
          have : isOpenE (.nd k os) = false := by
            cases k with
            | op s => cases ho
            | call f => cases hc
            | _ => rfl
          rw [this] at q
          exact q
  refine ⟨_, rfl, sz (by decide), fun t0 n0 => ?_⟩
  have s0 : Same H (upd H t0 (.tup [])) := same_up n0
  refine ⟨v, .ref t0, e, [], rfl, ie.keep (same_t s0), sh, ⟨t0, rfl, upd_same⟩, hd, by simp; omega, hn, fun l rows H1 nl el pr s1 => ?_⟩
  have hlen : rows.length = e.nodes := by rw [pr.length, pre_len]
  refine ⟨l, rfl, ⟨_, SqL.of el⟩, fun D nD => ?_⟩
  have s01 := s0.trans s1
  have hD := s01.free nD
  refine lc_list (K := K) (a := l) (xs := rows) (fun i H' => ∃ acc, H' D = some (.lst acc) ∧ Paired (RowN H') acc (((e.pre []).take i).filter fun x => !x.2.isNum) ∧ H' l = some (.lst rows) ∧ Paired (RowN H') rows (e.pre []) ∧ Same H H')
    ⟨[], upd_same, .nil, same_up nD _ _ el, L2.Paired.mapP pr fun a b r => r.keep (same_t (same_up nD)), s01.trans (same_up nD)⟩ (fun i H' _ ⟨_, _, _, z, _⟩ => SqL.of z) ?_ ?_
  · rintro i x H' hi ⟨acc, eD, pa, el', pr', s'⟩
    obtain ⟨y, hy, rn⟩ := paired_get pr' hi
    have hil : i < (e.pre []).length := (List.getElem?_eq_some_iff.mp hy).1
    have ey : (e.pre [])[i] = y := (List.getElem?_eq_some_iff.mp hy).2
    have et : (e.pre []).take (i + 1) = (e.pre []).take i ++ [y] := by rw [take_succ_get _ i hil, ey]
    have ef : (((e.pre []).take (i + 1)).filter fun x => !x.2.isNum) = (((e.pre []).take i).filter fun x => !x.2.isNum) ++ ([y].filter fun x => !x.2.isNum) := by rw [et, List.filter_append]
    have hal : acc.length ≤ 900 := by
      rw [pa.length]
      refine Nat.le_trans (List.length_filter_le _ _) ?_
      rw [List.length_take, pre_len]
      omega
    refine ⟨rfl, x, y, rfl, rn, ?_⟩
    cases hb : y.2.isNum with
    | true =>
      refine iteF ⟨acc, eD, ?_, el', pr', s'⟩
      rw [ef, List.filter_cons_of_neg (by simp [hb]), List.filter_nil, List.append_nil]
      exact pa
    | false =>
      have ku : ∀ q xs, H' q = some (.tup xs) → (upd H' D (.lst (acc ++ [x]))) q = some (.tup xs) := fun q xs z => by
        rw [upd_ne (fun w => by rw [w, eD] at z; cases z)]; exact z
      refine iteT ⟨_, rfl, acc, eD, small1000 (by omega), acc ++ [x], upd_same, ?_, ?_, L2.Paired.mapP pr' fun a b r => r.keep ku, fun b o z => by rw [upd_ne (ne_of_none z hD)]; exact s' b o z⟩
      · rw [ef, List.filter_cons_of_pos (by simp [hb]), List.filter_nil]
        exact paired_append (L2.Paired.mapP pa fun a b r => r.keep ku) (.cons (rn.keep ku) .nil)
      · rw [upd_ne (fun w => by rw [w] at el; rw [el] at nD; cases nD)]
        exact el'
  · rintro H' ⟨acc, eD, pa, el', pr', s'⟩
    rw [hlen, ← pre_len e [], List.take_length] at pa
    refine ⟨_, rfl, D, rfl, ⟨_, SqL.of eD⟩, fun D2 nD2 => ?_⟩
    have hD2 := s'.free nD2
    refine lc_list (K := K) (a := D) (xs := acc) (fun i H2 => ∃ acc2, H2 D2 = some (.lst acc2) ∧ Paired (PathAt H2) acc2 (((((e.pre []).filter fun x => !x.2.isNum).take i).filter fun x => isOpenE x.2).map (·.1)) ∧ H2 D = some (.lst acc) ∧ Paired (RowN H2) acc ((e.pre []).filter fun x => !x.2.isNum) ∧ Same H H2)
      ⟨[], upd_same, .nil, same_up nD2 _ _ eD, L2.Paired.mapP pa fun a b r => r.keep (same_t (same_up nD2)), s'.trans (same_up nD2)⟩ (fun i H' _ ⟨_, _, _, z, _⟩ => SqL.of z) ?_ ?_
    · rintro i x H2 hi ⟨acc2, eD2, pa2, eD', pr2, s2⟩
      obtain ⟨y, hy, rn⟩ := paired_get pr2 hi
      have hil := (List.getElem?_eq_some_iff.mp hy).1
      have ey := (List.getElem?_eq_some_iff.mp hy).2
      have hnum : y.2.isNum = false := by
        have := List.mem_of_getElem? hy
        have := (List.mem_filter.mp this).2
        simpa using this
      have et := take_succ_get ((e.pre []).filter fun x => !x.2.isNum) i hil
      rw [ey] at et
      obtain ⟨qd, vp, ve', rfl, eq, hp', ie'⟩ := rn
      have hal2 : acc2.length ≤ 900 := by
        rw [pa2.length, List.length_map]
        refine Nat.le_trans (List.length_filter_le _ _) (Nat.le_trans (List.length_take_le _ _) (Nat.le_of_lt (Nat.lt_of_lt_of_le hil (Nat.le_trans (List.length_filter_le _ _) ?_))))
        rw [pre_len]
        omega
      refine ⟨qd, _, rfl, SqT.of eq, rfl, _, _, rfl, _, _, rfl, rfl, rfl, ve', y.2, rfl, ie', hnum, ?_⟩
      rw [et, List.filter_append, List.map_append]
      cases hb : isOpenE y.2 with
      | false =>
        refine iteF ⟨acc2, eD2, ?_, eD', pr2, s2⟩
        rw [List.filter_cons_of_neg (by simp [hb]), List.filter_nil, List.map_nil, List.append_nil]
        exact pa2
      | true =>
        have ku : ∀ q xs, H2 q = some (.tup xs) → (upd H2 D2 (.lst (acc2 ++ [vp]))) q = some (.tup xs) := fun q xs z => by
          rw [upd_ne (fun w => by rw [w, eD2] at z; cases z)]; exact z
        refine iteT ⟨_, rfl, acc2, eD2, small1000 (by omega), acc2 ++ [vp], upd_same, ?_, ?_, L2.Paired.mapP pr2 fun a b r => r.keep ku, fun b o z => by rw [upd_ne (ne_of_none z hD2)]; exact s2 b o z⟩
        · rw [List.filter_cons_of_pos (by simp [hb]), List.filter_nil, List.map_cons, List.map_nil]
          exact paired_append (L2.Paired.mapP pa2 fun a b r => r.keep ku) (.cons (hp'.keep ku) .nil)
        · rw [upd_ne (fun w => by rw [w] at eD; rw [eD] at nD2; cases nD2)]
          exact eD'
    · rintro H2 ⟨acc2, eD2, pa2, eD', pr2, s2⟩
      rw [pa.length, List.take_length, List.filter_filter] at pa2
      have ef : ((e.pre []).filter fun x => isOpenE x.2 && !x.2.isNum) = (e.pre []).filter fun x => isOpenE x.2 := by
        congr 1
        funext x
        cases x.2 with
        | num n => rfl
        | nd k os => simp [Ex.isNum]
      rw [ef] at pa2
      refine ⟨D2, acc2, _, rfl, SqL.of eD2, pa2, ?_, ?_, fun r nr => q r acc2 _ (s2.free nr) upd_same (L2.Paired.mapP pa2 fun a b z => z.keep (same_t (same_up nr))) (s2.trans (same_up nr))⟩
      · rw [List.length_map]
        refine Nat.le_trans (List.length_filter_le _ _) ?_
        rw [pre_len]
        omega
      · rw [List.pairwise_map]
        exact (pre_asc e []).filter _
end
end Oo
namespace Oo
open PySem L2 PyProof.Rows
def spPoints : Sp := fun vs H Q _ => ∃ (a : Addr) (v : V) (e : Ex) (n : Nat), vs = [.ref a, v] ∧ BagAt H a n ∧ n < 500000 ∧ InE H e v ∧ Shp e ∧ e.depth ≤ 80 ∧ e.nodes ≤ 900 ∧
  ∀ (t : Addr) (rows : List V) (ps : List (List Nat)) (H' : Hp), ps.Sublist (e.opens []) → H' t = some (.tup rows) → Paired (PathAt H') rows ps → BagAt H' a (n + 902) → Kq [a] H H' → Q (.ref t) H'
theorem opens_len (e : Ex) : (e.opens []).length ≤ e.nodes := by
  unfold Ex.opens
  rw [List.length_map, ← pre_len e []]
  exact List.length_filter_le _ _
section
variable {P : Program} {w : World} {K : PySem.W.Frag} {mg : Str → Option Value} {base : Heap} {X : Cx}
theorem scPoints : FnScope ["_law_bag_here", "_law_expr_here", "_law_lot", "_law_path"] ["_law_bag_here", "_law_expr_here"] (defScope sPoints) := ⟨rfl, rfl, rfl, by decide +kernel, rfl, by decide +kernel, by decide +kernel⟩
theorem ok_points {f ft fo : Addr} {fd fdt fdo : FuncData} {L : Nat} (F : Fun K "_law_points" "_law_points" sPoints f fd) (hL : 1 ≤ L) (mt : mg "tuple" = none)
    (GT : FnOk P w K mg base CX0 1 ft fdt ["_law_bag_here", "_law_many"] spTake) (kT : PySem.W.keepIn K (.ref ft) = true) (bT : Binds K fdt ["_law_bag_here", "_law_many"] []) (mT : mg "_law_take" = some (.ref ft))
    (GO : FnOk P w K mg base CX0 L fo fdo ["_law_expr_here"] spOpen) (kO : PySem.W.keepIn K (.ref fo) = true) (bO : Binds K fdo ["_law_expr_here"] []) (mO : mg "_law_open" = some (.ref fo)) :
    FnOk P w K mg base CX0 (L + 1) f fd ["_law_bag_here", "_law_expr_here"] spPoints := by
  refine F.ok scPoints (fun vs H Q E h => ?_) (fun cdv A outer s H vs Q E hr h => ?_)
  · obtain ⟨a, v, e, n, rfl, _⟩ := h
    rfl
  obtain ⟨a, v, e, n, rfl, hB, hn, ie, sh, hd, hnn, q⟩ := h
  have hr1 : Room 1 _ := hr.mono hL
  refine ⟨_, (pss_cons (ps_set (i := 2) scPoints.nd rfl (.inr rfl) (pe_call GT hr1 rfl mT kT bT .nil pass0 (pa_cons (pv 0) (pa_cons pe_int pa_nil))))
    (pss_cons (ps_if (pt_cmpR op_eq (pv 2) pe_int (nomark _)) (pss_one (ps_ret (pe_tupleOf (by rfl) mt (pe_call GO hr rfl mO kO bO .nil pass0 (pa_cons (pv 1) pa_nil))))) pss_nil)
    (pss_one (ps_ret (pe_tupleOf (by rfl) mt (pe_lc (own := [("_law_path", 3)]) (g := gName 3) (by rfl) scPoints.nd (pi_list (pe_call GO hr rfl mO kO bO .nil pass0 (pa_cons (pv 1) pa_nil))) (blkOk_by (own := [("_law_path", 3)]) (N := ["_law_bag_here", "_law_expr_here", "_law_lot", "_law_path"]) (sc := defScope sPoints) (by decide +kernel)) (fun _ _ _ _ _ => (pg_name (i := 3) scPoints.nd rfl (Or.inl rfl))) (fun _ _ _ _ _ => (pts_one (PW.pt (pw_and (pt_cmpR op_lt (pv 2) pe_int (nomark _)) (pw_and1 (pt_cmpR op_eq (pe_call GT hr1 rfl mT kT bT .nil pass0 (pa_cons (pv 0) (pa_cons pe_int pa_nil))) pe_int (nomark _))))))) (fun _ _ _ _ _ => (pv 3)))))))), ?_⟩
  have hol := opens_len e
  refine ⟨_, rfl, a, 6, n, rfl, hB, by omega, by decide, by decide, fun r H1 r0 r1 hB1 kp1 => ⟨_, rfl, rfl, _, rfl, ?_⟩⟩
  have ie1 := InE.sit ie kp1.kq hB.mut
  refine ite2 (fun z => ?_) (fun z => ?_)
  · refine ⟨_, rfl, v, e, rfl, ie1, sh, hd, hnn, fun l rows H2 nl el pr s2 => ?_⟩
    refine .inl ⟨l, rows, rfl, SqL.of el, fun t nt => ?_⟩
    exact q t rows _ _ (List.Sublist.refl _) upd_same (L2.Paired.mapP pr fun a b z => z.keep (same_t (same_up nt))) ((same_bag (same_up nt) (same_bag s2 hB1)).mono (by omega)) ((kp1.kq.trans (same_kq s2)).trans (same_kq (same_up nt)))
  · refine ⟨_, rfl, v, e, rfl, ie1, sh, hd, hnn, fun l rows H2 nl el pr s2 => ?_⟩
    have hB2 := same_bag s2 hB1
    have q2 : Kq [a] H H2 := kp1.kq.trans (same_kq s2)
    have nla : l ≠ a := hB1.ne nl
    refine ⟨l, rfl, ⟨_, SqL.of el⟩, fun D nD => ?_⟩
    have nDa : D ≠ a := hB2.ne nD
    have hD : H D = none := q2.free (by simp [nDa]) nD
    have nlD : l ≠ D := fun w => by rw [w] at el; rw [el] at nD; cases nD
    have hrl : rows.length ≤ 900 := by rw [pr.length]; omega
    refine lc_list (K := K) (a := l) (xs := rows) (fun i H' => ∃ acc ps, H' D = some (.lst acc) ∧ ps.Sublist ((e.opens []).take i) ∧ Paired (PathAt H') acc ps ∧ H' l = some (.lst rows) ∧ Paired (PathAt H') rows (e.opens []) ∧ BagAt H' a (n + 1 + i) ∧ Kq [a] H H')
      ⟨[], [], upd_same, List.Sublist.refl _, .nil, same_up nD _ _ el, L2.Paired.mapP pr fun a b z => z.keep (same_t (same_up nD)), hB2.new nD, q2.put hD⟩ (fun i H' _ ⟨_, _, _, _, _, z, _⟩ => SqL.of z) ?_ ?_
    · rintro i x H' hi ⟨acc, ps, eD, sb, pa, el', pr', hB', q'⟩
      obtain ⟨y, hy, py⟩ := paired_get pr' hi
      have hil : i < (e.opens []).length := (List.getElem?_eq_some_iff.mp hy).1
      have ey := (List.getElem?_eq_some_iff.mp hy).2
      have et : (e.opens []).take (i + 1) = (e.opens []).take i ++ [y] := by rw [take_succ_get _ i hil, ey]
      have sb' : ps.Sublist ((e.opens []).take (i + 1)) := by rw [et]; exact sb.trans (List.sublist_append_left _ _)
      refine ⟨rfl, _, rfl, _, _, rfl, rfl, _, rfl, ?_⟩
      refine ite2 (fun z1 => ?_) (fun z1 => iteF ⟨acc, ps, eD, sb', pa, el', pr', hB'.mono (by omega), q'⟩)
      refine ⟨_, rfl, a, 3, _, rfl, hB', by omega, by decide, by decide, fun r2 H3 r20 r21 hB3 kp3 => ⟨rfl, _, rfl, ?_⟩⟩
      have kt : ∀ q xs, H' q = some (.tup xs) → H3 q = some (.tup xs) := fun q xs z => kp3.kq.tup hB'.mut.notup z
      have eD3 : H3 D = some (.lst acc) := kp3 _ _ nDa eD
      have el3 : H3 l = some (.lst rows) := kp3 _ _ nla el'
      have pr3 := L2.Paired.mapP pr' fun a b (z : PathAt H' a b) => z.keep kt
      have pa3 := L2.Paired.mapP pa fun a b (z : PathAt H' a b) => z.keep kt
      refine ite2 (fun z2 => ?_) (fun z2 => ⟨acc, ps, eD3, sb', pa3, el3, pr3, hB3.mono (by omega), q'.trans kp3.kq⟩)
      have ku : ∀ q xs, H3 q = some (.tup xs) → (upd H3 D (.lst (acc ++ [x]))) q = some (.tup xs) := fun q xs z => by
        rw [upd_ne (fun w => by rw [w, eD3] at z; cases z)]; exact z
      have hacc : acc.length ≤ 900 := by
        rw [pa.length]
        refine Nat.le_trans sb.length_le ?_
        rw [List.length_take]
        omega
      refine ⟨_, rfl, acc, eD3, small1000 (by omega), acc ++ [x], ps ++ [y], upd_same, ?_, ?_, ?_, L2.Paired.mapP pr3 fun a b z => z.keep ku, (hB3.mono (by omega)).put nDa, (q'.trans kp3.kq).put hD⟩
      · rw [et]
        exact sb.append (List.Sublist.refl _)
      · exact paired_append (L2.Paired.mapP pa3 fun a b z => z.keep ku) (.cons ((py.keep kt).keep ku) .nil)
      · rw [upd_ne nlD]; exact el3
    · rintro H' ⟨acc, ps, eD, sb, pa, el', pr', hB', q'⟩
      refine .inl ⟨D, acc, rfl, SqL.of eD, fun t nt => ?_⟩
      exact q t acc ps _ (sb.trans (List.take_sublist _ _)) upd_same (L2.Paired.mapP pa fun a b z => z.keep (same_t (same_up nt))) ((same_bag (same_up nt) hB').mono (by omega)) (q'.trans (same_kq (same_up nt)))
end
end Oo
namespace Oo
open PySem L2 PyProof.Rows
abbrev sSteps : Stmt := top 9999
/-! ### steps -/
structure StepR where
  kind : Str
  path : List Nat
  rd : List Str
  st : List Str
def StrsAt (H : Hp) (v : V) (xs : List Str) : Prop := ∃ q : Addr, v = .ref q ∧ H q = some (.tup (xs.map V.str))
theorem StrsAt.keep {H H' : Hp} {v : V} {xs : List Str} (h : ∀ q ys, H q = some (.tup ys) → H' q = some (.tup ys)) (x : StrsAt H v xs) : StrsAt H' v xs := by
  obtain ⟨q, e, z⟩ := x
  exact ⟨q, e, h _ _ z⟩
def StepAt (H : Hp) (v : V) (r : StepR) : Prop := ∃ (q : Addr) (vp vr vs : V), v = .ref q ∧ H q = some (.tup [.str r.kind, vp, vr, vs]) ∧ PathAt H vp r.path ∧ StrsAt H vr r.rd ∧ StrsAt H vs r.st
theorem StepAt.keep {H H' : Hp} {v : V} {r : StepR} (h : ∀ q ys, H q = some (.tup ys) → H' q = some (.tup ys)) (x : StepAt H v r) : StepAt H' v r := by
  obtain ⟨q, a, b, c, e, z, h1, h2, h3⟩ := x
  exact ⟨q, a, b, c, e, h _ _ z, h1.keep h, h2.keep h, h3.keep h⟩
def ownSteps (fns : List Fn) (p : List Nat) : Kd → List StepR
  | .read x => [⟨"read", p, [x], []⟩]
  | .store x => [⟨"store", p, [], [x]⟩]
  | .step x _ _ => [⟨"read", p, [x], []⟩, ⟨"store", p, [], [x]⟩]
  | .call f => (fns.filter fun fn => decide (fn.name = f)).map fun fn => ⟨"call", p, fn.rd, fn.st⟩
  | _ => []
mutual
def Ex.stepL (fns : List Fn) : Ex → List Nat → List StepR
  | .num _, _ => []
  | .nd k os, p => Ex.stepLs fns os p 0 ++ ownSteps fns p k
def Ex.stepLs (fns : List Fn) : List Ex → List Nat → Nat → List StepR
  | [], _, _ => []
  | e :: r, p, i => Ex.stepL fns e (p ++ [i]) ++ Ex.stepLs fns r p (i + 1)
end
theorem stepLs_append (fns : List Fn) : ∀ (a b : List Ex) (p : List Nat) (j : Nat), Ex.stepLs fns (a ++ b) p j = Ex.stepLs fns a p j ++ Ex.stepLs fns b p (j + a.length)
  | [], b, p, j => by simp [Ex.stepLs]
  | e :: r, b, p, j => by
    show Ex.stepLs fns (e :: (r ++ b)) p j = _
    simp only [Ex.stepLs, stepLs_append fns r b p (j + 1), List.append_assoc, List.length_cons]
    congr 3
    omega
theorem stepLs_snoc (fns : List Fn) (os : List Ex) (p : List Nat) (i : Nat) (h : i < os.length) : Ex.stepLs fns (os.take (i + 1)) p 0 = Ex.stepLs fns (os.take i) p 0 ++ Ex.stepL fns os[i] (p ++ [i]) := by
  have hl : (os.take i).length = i := by rw [List.length_take]; omega
  rw [take_succ_get os i h, stepLs_append]
  simp [Ex.stepLs, hl]
theorem own_len (fns : List Fn) (p : List Nat) (k : Kd) (h : fns.length ≤ 3) : (ownSteps fns p k).length ≤ 3 := by
  cases k <;> simp [ownSteps]
  exact Nat.le_trans (List.length_filter_le _ _) h
mutual
theorem stepL_len (fns : List Fn) (h : fns.length ≤ 3) : ∀ (e : Ex) (p : List Nat), (Ex.stepL fns e p).length ≤ 3 * e.nodes
  | .num _, p => by simp [Ex.stepL]
  | .nd k os, p => by
    have h1 := stepLs_len fns h os p 0
    have h2 := own_len fns p k h
    simp only [Ex.stepL, List.length_append, Ex.nodes]
    omega
theorem stepLs_len (fns : List Fn) (h : fns.length ≤ 3) : ∀ (es : List Ex) (p : List Nat) (j : Nat), (Ex.stepLs fns es p j).length ≤ 3 * Ex.nodess es
  | [], p, j => by simp [Ex.stepLs]
  | e :: r, p, j => by
    have h1 := stepL_len fns h e (p ++ [j])
    have h2 := stepLs_len fns h r p (j + 1)
    simp only [Ex.stepLs, List.length_append, Ex.nodess]
    omega
end
def FnsAt (K : PySem.W.Frag) (H : Hp) (l : Addr) (fns : List Fn) : Prop := ∃ rows, SqL K H l rows ∧ Paired (RowAt H) rows fns
def ttRow (i j : Nat) : TT := fun σ H Q => ∃ (v : V) (fn : Fn) (p : Addr) (a : V) (f : Str) (tl : List V), σ[i]? = some (some v) ∧ RowAt H v fn ∧ σ[j]? = some (some (.ref p)) ∧ H p = some (.tup (a :: .str f :: tl)) ∧ Q (decide (fn.name = f)) H
def teCall (i j : Nat) : TE := fun σ H Q => ∃ (v vp : V) (fn : Fn) (path : List Nat), σ[i]? = some (some v) ∧ σ[j]? = some (some vp) ∧ RowAt H v fn ∧ PathAt H vp path ∧ ∀ (u : V) (H' : Hp), Same H H' → StepAt H' u ⟨"call", path, fn.rd, fn.st⟩ → Q u H'
def Ex.word : Ex → Str
  | .num _ => "number"
  | .nd k _ => k.word
def teWord (i : Nat) : TE := fun σ H Q => ∃ (v : V) (e : Ex), σ[i]? = some (some v) ∧ InE H e v ∧ Q (.str e.word) H
theorem dec_str (a b : Str) : decide (V.str a = V.str b) = decide (a = b) := by
  by_cases h : a = b
  · rw [decide_eq_true h, decide_eq_true (by rw [h])]
  · rw [decide_eq_false h, decide_eq_false fun z => h (V.str.inj z)]
theorem at1 (x y : V) (tl : List V) : atI (x :: y :: tl) 1 = some y := at_of (j := 1) rfl rfl
def Ex.isRS : Ex → Bool
  | .num _ => false
  | .nd k _ => k.isRS
def Kd.isSS : Kd → Bool
  | .store _ => true | .step _ _ _ => true | _ => false
def Ex.isSS : Ex → Bool
  | .num _ => false
  | .nd k _ => k.isSS
theorem ex_rs (e : Ex) : inV (.str e.word) [.str "read", .str "step"] = e.isRS := by
  cases e with
  | num n => simp only [Ex.word, Ex.isRS]; decide +kernel
  | nd k os => exact word_rs k
theorem ex_ss (e : Ex) : inV (.str e.word) [.str "store", .str "step"] = e.isSS := by
  cases e with
  | num n => simp only [Ex.word, Ex.isSS]; decide +kernel
  | nd k os => cases k <;> (simp only [Ex.word, Ex.isSS, Kd.word, Kd.isSS]; decide +kernel)
def own1 (p : List Nat) : Ex → List StepR
  | .nd (.read x) _ => [⟨"read", p, [x], []⟩]
  | .nd (.step x _ _) _ => [⟨"read", p, [x], []⟩]
  | _ => []
def own2 (p : List Nat) : Ex → List StepR
  | .nd (.store x) _ => [⟨"store", p, [], [x]⟩]
  | .nd (.step x _ _) _ => [⟨"store", p, [], [x]⟩]
  | _ => []
def own3 (fns : List Fn) (p : List Nat) : Ex → List StepR
  | .nd (.call f) _ => (fns.filter fun fn => decide (fn.name = f)).map fun fn => ⟨"call", p, fn.rd, fn.st⟩
  | _ => []
theorem stepL_own (fns : List Fn) (e : Ex) (p : List Nat) : Ex.stepL fns e p = Ex.stepLs fns e.ops p 0 ++ own1 p e ++ own2 p e ++ own3 fns p e := by
  cases e with
  | num n => simp [Ex.stepL, Ex.ops, Ex.stepLs, own1, own2, own3]
  | nd k os => cases k <;> simp [Ex.stepL, Ex.ops, ownSteps, own1, own2, own3]
theorem own1_no {p : List Nat} {e : Ex} (h : e.isRS = false) : own1 p e = [] := by
  cases e with
  | num n => rfl
  | nd k os => cases k <;> first | rfl | cases h
theorem own2_no {p : List Nat} {e : Ex} (h : e.isSS = false) : own2 p e = [] := by
  cases e with
  | num n => rfl
  | nd k os => cases k <;> first | rfl | cases h
def Ex.isCall : Ex → Bool
  | .num _ => false
  | .nd k _ => k.isCall
theorem own3_no {fns : List Fn} {p : List Nat} {e : Ex} (h : e.isCall = false) : own3 fns p e = [] := by
  cases e with
  | num n => rfl
  | nd k os => cases k <;> first | rfl | cases h
theorem ex_call (e : Ex) : decide (V.str e.word = .str "call") = e.isCall := by
  cases e with
  | num n => exact decide_eq_false (by simp only [Ex.word]; decide +kernel)
  | nd k os => exact word_call k
theorem rs_node {H : Hp} {e : Ex} {ve : V} {p : List Nat} (ie : InE H e ve) (h : e.isRS = true) : ∃ (pn : Addr) (x : Str) (tl : List V), ve = .ref pn ∧ H pn = some (.tup (.str e.word :: .str x :: tl)) ∧ own1 p e = [⟨"read", p, [x], []⟩] := by
  cases e with
  | num n => cases h
  | nd k os =>
    unfold InE at ie
    obtain ⟨pn, ws, rfl, _, na⟩ := ie
    cases k with
    | read x => exact ⟨pn, x, _, rfl, na, rfl⟩
    | step x b w => exact ⟨pn, x, _, rfl, na, rfl⟩
    | _ => cases h
theorem ss_node {H : Hp} {e : Ex} {ve : V} {p : List Nat} (ie : InE H e ve) (h : e.isSS = true) : ∃ (pn : Addr) (x : Str) (tl : List V), ve = .ref pn ∧ H pn = some (.tup (.str e.word :: .str x :: tl)) ∧ own2 p e = [⟨"store", p, [], [x]⟩] := by
  cases e with
  | num n => cases h
  | nd k os =>
    unfold InE at ie
    obtain ⟨pn, ws, rfl, _, na⟩ := ie
    cases k with
    | store x => exact ⟨pn, x, _, rfl, na, rfl⟩
    | step x b w => exact ⟨pn, x, _, rfl, na, rfl⟩
    | _ => cases h
theorem call_node {H : Hp} {e : Ex} {ve : V} {fns : List Fn} {p : List Nat} (ie : InE H e ve) (h : e.isCall = true) : ∃ (pn : Addr) (f : Str) (tl : List V), ve = .ref pn ∧ H pn = some (.tup (.str e.word :: .str f :: tl)) ∧ own3 fns p e = (fns.filter fun fn => decide (fn.name = f)).map fun fn => ⟨"call", p, fn.rd, fn.st⟩ := by
  cases e with
  | num n => cases h
  | nd k os =>
    unfold InE at ie
    obtain ⟨pn, ws, rfl, _, na⟩ := ie
    cases k with
    | call f =>
      obtain ⟨q, h1, _⟩ := na
      exact ⟨pn, f, _, rfl, h1, rfl⟩
    | _ => cases h
theorem FnsAt.keep {K : PySem.W.Frag} {H H' : Hp} {l : Addr} {fns : List Fn} (h : FnsAt K H l fns) (s : Same H H') : FnsAt K H' l fns := by
  obtain ⟨rows, h1, h2⟩ := h
  exact ⟨rows, s.seq h1, L2.Paired.mapP h2 fun a b r => r.keep (same_t s)⟩
/-- a stage of the list found: what is added is told by f -/
def tsAdd (f : List Nat → Ex → List StepR) : TS := fun D σ H => ∃ (e : Ex) (p : List Nat) (ve vp : V) (a0 x y z : Option V) (l : Addr) (rows : List V) (rs : List StepR), σ = [a0, some ve, some vp, some (.ref l), x, y, some (.str e.word), z] ∧
  InE H e ve ∧ PathAt H vp p ∧ H l = some (.lst rows) ∧ Paired (StepAt H) rows rs ∧ rs.length ≤ 950 ∧
  ∀ (l' : Addr) (rows' : List V) (H' : Hp), (H l' = none ∨ l' = l) → H' l' = some (.lst rows') → Paired (StepAt H') rows' (rs ++ f p e) → Same H H' → D.nx [a0, some ve, some vp, some (.ref l'), x, y, some (.str e.word), z] H'
def tsRS : TS := tsAdd own1
def tsSS : TS := tsAdd own2
def tsCall (K : PySem.W.Frag) : TS := fun D σ H => ∃ (e : Ex) (p : List Nat) (ve vp : V) (fl : Addr) (fns : List Fn) (x y z : Option V) (l : Addr) (rows : List V) (rs : List StepR), σ = [some (.ref fl), some ve, some vp, some (.ref l), x, y, some (.str e.word), z] ∧
  FnsAt K H fl fns ∧ fns.length ≤ 3 ∧ InE H e ve ∧ PathAt H vp p ∧ H l = some (.lst rows) ∧ Paired (StepAt H) rows rs ∧ rs.length ≤ 950 ∧
  ∀ (l' : Addr) (rows' : List V) (H' : Hp) (z' : Option V), (H l' = none ∨ l' = l) → H' l' = some (.lst rows') → Paired (StepAt H') rows' (rs ++ own3 fns p e) → Same H H' → D.nx [some (.ref fl), some ve, some vp, some (.ref l'), x, y, some (.str e.word), z'] H'
def spSteps (K : PySem.W.Frag) (N : Nat) : Sp := fun vs H Q _ => ∃ (fl : Addr) (fns : List Fn) (ve vp : V) (e : Ex) (p : List Nat), vs = [.ref fl, ve, vp] ∧ FnsAt K H fl fns ∧ fns.length ≤ 3 ∧ InE H e ve ∧ Shp e ∧ PathAt H vp p ∧ e.depth ≤ N ∧ p.length + e.depth ≤ 90 ∧ e.nodes ≤ 300 ∧
  ∀ (l : Addr) (rows : List V) (H' : Hp), H l = none → H' l = some (.lst rows) → Paired (StepAt H') rows (Ex.stepL fns e p) → Same H H' → Q (.ref l) H'
end Oo
namespace Oo
open PySem L2 PyProof.Rows
abbrev sWritten : Stmt := top 9999
/-! ### texts of nodes -/
def stSign (b : Int) : Str := if b = 1 then "++" else "--"
def mkS (m : Bool) : Str := match m with | true => ";" | false => ""
def sepS (m : Bool) : Str := match m with | true => "; " | false => ", "
def kdText : Kd → Bool → List Str → Str
  | .read x, _, _ => x
  | .store x, _, t :: _ => "(" ++ x ++ " = " ++ t ++ ")"
  | .step x b w, _, _ => if w = "before" then stSign b ++ x else x ++ stSign b
  | .call f, m, ts => f ++ "(" ++ Txt.join (sepS m) ts ++ ")"
  | .op s, m, t :: u :: _ => "(" ++ t ++ " " ++ s ++ mkS m ++ " " ++ u ++ ")"
  | .cho, _, t :: u :: v :: _ => "(" ++ t ++ " ? " ++ u ++ " : " ++ v ++ ")"
  | .thn, _, t :: u :: _ => "(" ++ t ++ "," ++ " " ++ u ++ ")"
  | .and_, _, t :: u :: _ => "(" ++ t ++ " &&" ++ " " ++ u ++ ")"
  | .or_, _, t :: u :: _ => "(" ++ t ++ " ||" ++ " " ++ u ++ ")"
  | _, _, _ => ""
mutual
def Ex.text (mk : List (List Nat)) : Ex → List Nat → Str
  | .num n, _ => Str.ofString (toString n)
  | .nd k os, p => kdText k (decide (p ∈ mk)) (Ex.texts mk os p 0)
def Ex.texts (mk : List (List Nat)) : List Ex → List Nat → Nat → List Str
  | [], _, _ => []
  | e :: r, p, i => Ex.text mk e (p ++ [i]) :: Ex.texts mk r p (i + 1)
end
theorem texts_len (mk : List (List Nat)) : ∀ (es : List Ex) (p : List Nat) (j : Nat), (Ex.texts mk es p j).length = es.length
  | [], p, j => by simp [Ex.texts]
  | e :: r, p, j => by simp [Ex.texts, texts_len mk r]
theorem texts_get (mk : List (List Nat)) : ∀ (es : List Ex) (p : List Nat) (j i : Nat) (h : i < es.length), (Ex.texts mk es p j)[i]? = some (Ex.text mk es[i] (p ++ [j + i]))
  | e :: r, p, j, 0, h => by simp [Ex.texts]
  | e :: r, p, j, i + 1, h => by
    have := texts_get mk r p (j + 1) i (by simpa using h)
    simp only [Ex.texts, List.getElem?_cons_succ, List.getElem_cons_succ]
    rw [this]
    congr 4
    omega
theorem texts_append (mk : List (List Nat)) : ∀ (a b : List Ex) (p : List Nat) (j : Nat), Ex.texts mk (a ++ b) p j = Ex.texts mk a p j ++ Ex.texts mk b p (j + a.length)
  | [], b, p, j => by simp [Ex.texts]
  | e :: r, b, p, j => by
    show Ex.texts mk (e :: (r ++ b)) p j = _
    simp only [Ex.texts, texts_append mk r b p (j + 1), List.length_cons, List.cons_append]
    congr 3
    omega
theorem texts_snoc (mk : List (List Nat)) (os : List Ex) (p : List Nat) (i : Nat) (h : i < os.length) : Ex.texts mk (os.take (i + 1)) p 0 = Ex.texts mk (os.take i) p 0 ++ [Ex.text mk os[i] (p ++ [i])] := by
  have hl : (os.take i).length = i := by rw [List.length_take]; omega
  rw [take_succ_get os i h, texts_append]
  simp [Ex.texts, hl]
/-! lengths -/
theorem okName_len {x : Str} (h : okName x = true) : x.length ≤ 8 := by
  unfold okName at h
  simp only [Bool.and_eq_true, decide_eq_true_eq] at h
  exact h.1.2
theorem sum_len (ts : List Str) (B : Nat) : (ts.map (·.length)).sum + 2 * ts.length ≤ B + 2 * ts.length ↔ (ts.map (·.length)).sum ≤ B := by omega
def tlen (ts : List Str) : Nat := (ts.map (·.length)).sum
theorem join_len (m : Bool) (ts : List Str) : (Txt.join (sepS m) ts).length ≤ tlen ts + 2 * ts.length := by
  show (Builtin.Str.glued _ ts).length ≤ _
  rw [StrLaws.glued_eq_join]
  refine Nat.le_trans (StrLaws.join_length_le _ ts) ?_
  have e : (sepS m).length = 2 := by cases m <;> rfl
  rw [e]
  unfold tlen
  omega
theorem kdText_len {ps : List Str} {fns : List Fn} (hk : KitW ps fns) {k : Kd} {m : Bool} {ts : List Str} (h : KdW ps fns k ts.length) (h3 : ts.length ≤ 3) : (kdText k m ts).length ≤ tlen ts + 16 := by
  have l1 : ("(" : Str).length = 1 := rfl
  have l2 : (")" : Str).length = 1 := rfl
  have l3 : (" = " : Str).length = 3 := rfl
  have l4 : (" " : Str).length = 1 := rfl
  have l5 : (" ? " : Str).length = 3 := rfl
  have l6 : (" : " : Str).length = 3 := rfl
  have l7 : ("," : Str).length = 1 := rfl
  have l8 : (" &&" : Str).length = 3 := rfl
  have l9 : (" ||" : Str).length = 3 := rfl
  have ls : ∀ b, (stSign b).length = 2 := fun b => by unfold stSign; split <;> rfl
  have le : (mkS m).length ≤ 1 := by cases m <;> decide
  have lg : ∀ s ∈ signs, s.length = 1 := by decide
  cases k with
  | read x =>
    have := okName_len (hk.pok x (by match ts, h with | [], h => exact h))
    simp only [kdText]
    omega
  | step x b w =>
    have hx : x ∈ ps := by match ts, h with | [], h => exact h.1
    have := okName_len (hk.pok x hx)
    simp only [kdText]
    split <;> rw [Str.length_append, ls] <;> omega
  | store x =>
    match ts, h with
    | [t], h =>
      have := okName_len (hk.pok x h)
      simp only [kdText, Str.length_append, l1, l2, l3, tlen, List.map_cons, List.map_nil, List.sum_cons, List.sum_nil]
      omega
  | call f =>
    have hf : f.length ≤ 8 := by
      have h' : ∃ fn ∈ fns, fn.name = f ∧ fn.ar = (ts.length : Int) := by
        simp only [KdW] at h
        exact h
      obtain ⟨fn, h1, h2, _⟩ := h'
      rw [← h2]
      exact okName_len (hk.fok fn h1).1
    have := join_len m ts
    simp only [kdText, Str.length_append, l1, l2]
    omega
  | op s =>
    match ts, h with
    | [t, u], h =>
      have := lg s h
      simp only [kdText, Str.length_append, l1, l2, l4, tlen, List.map_cons, List.map_nil, List.sum_cons, List.sum_nil]
      omega
  | cho =>
    match ts, h with
    | [t, u, v], h =>
      simp only [kdText, Str.length_append, l1, l2, l5, l6, tlen, List.map_cons, List.map_nil, List.sum_cons, List.sum_nil]
      omega
  | thn =>
    match ts, h with
    | [t, u], h =>
      simp only [kdText, Str.length_append, l1, l2, l4, l7, tlen, List.map_cons, List.map_nil, List.sum_cons, List.sum_nil]
      omega
  | and_ =>
    match ts, h with
    | [t, u], h =>
      simp only [kdText, Str.length_append, l1, l2, l4, l8, tlen, List.map_cons, List.map_nil, List.sum_cons, List.sum_nil]
      omega
  | or_ =>
    match ts, h with
    | [t, u], h =>
      simp only [kdText, Str.length_append, l1, l2, l4, l9, tlen, List.map_cons, List.map_nil, List.sum_cons, List.sum_nil]
      omega
theorem kdW_three {ps : List Str} {fns : List Fn} (hk : KitW ps fns) {k : Kd} {n : Nat} (h : KdW ps fns k n) : n ≤ 3 := by
  cases k with
  | call f =>
    have h' : ∃ fn ∈ fns, fn.name = f ∧ fn.ar = (n : Int) := by
      simp only [KdW] at h
      exact h
    obtain ⟨fn, h1, _, h3⟩ := h'
    have := (hk.fok fn h1).2.2.1
    omega
  | _ => (match n, h with | 0, _ => decide | 1, _ => decide | 2, _ => decide | 3, _ => decide)
mutual
theorem text_len {ps : List Str} {fns : List Fn} (hk : KitW ps fns) (mk : List (List Nat)) : ∀ (e : Ex) (p : List Nat), ExW ps fns e → (Ex.text mk e p).length ≤ 16 * e.nodes
  | .num n, p, h => by
    unfold ExW at h
    simp only [Ex.text, Ex.nodes]
    exact Nat.le_trans (PyProof.Rows.toString_length_le h.1 (k := 6) (by decide) (by omega)) (by decide)
  | .nd k os, p, h => by
    unfold ExW at h
    have h1 := texts_len mk os p 0
    have h2 := texts_sum hk mk os p 0 h.2
    have h3 := kdText_len hk (m := decide (p ∈ mk)) (k := k) (ts := Ex.texts mk os p 0) (by rw [h1]; exact h.1) (by rw [h1]; exact kdW_three hk h.1)
    simp only [Ex.text, Ex.nodes]
    omega
theorem texts_sum {ps : List Str} {fns : List Fn} (hk : KitW ps fns) (mk : List (List Nat)) : ∀ (es : List Ex) (p : List Nat) (j : Nat), ExWs ps fns es → tlen (Ex.texts mk es p j) ≤ 16 * Ex.nodess es
  | [], p, j, _ => by simp [Ex.texts, tlen]
  | e :: r, p, j, h => by
    unfold ExWs at h
    have h1 := text_len hk mk e (p ++ [j]) h.1
    have h2 := texts_sum hk mk r p (j + 1) h.2
    simp only [Ex.texts, tlen, List.map_cons, List.sum_cons, Ex.nodess] at h2 ⊢
    omega
end
theorem ExW.ops {ps : List Str} {fns : List Fn} {e : Ex} (h : ExW ps fns e) : ExWs ps fns e.ops := by
  cases e with
  | num n => unfold Ex.ops ExWs; trivial
  | nd k os => unfold ExW at h; exact h.2
theorem ExWs.get {ps : List Str} {fns : List Fn} : ∀ {es : List Ex}, ExWs ps fns es → ∀ (i : Nat) (h : i < es.length), ExW ps fns es[i]
  | e :: r, s, 0, h => by unfold ExWs at s; exact s.1
  | e :: r, s, i + 1, h => by
    unfold ExWs at s
    simpa using ExWs.get s.2 i (by simpa using h)
/-! ### a path in a tuple of paths -/
theorem canLay_ints : ∀ p : List Nat, PyData.canLayAll0 (dI p) = true
  | [] => by simp [dI, PyData.canLayAll0]
  | i :: p => by
    have := canLay_ints p
    simp only [dI, List.map_cons, PyData.canLayAll0, PyData.canLay0, Bool.true_and] at this ⊢
    exact this
theorem canLay_path (p : List Nat) : (dP p).canLay0 = true := by
  unfold dP
  simp only [PyData.canLay0]
  exact canLay_ints p
theorem canLay_paths : ∀ ps : List (List Nat), PyData.canLayAll0 (ps.map dP) = true
  | [] => by simp [PyData.canLayAll0]
  | p :: r => by
    simp only [List.map_cons, PyData.canLayAll0, Bool.and_eq_true]
    exact ⟨canLay_path p, canLay_paths r⟩
theorem dpAll_paths {K : PySem.W.Frag} {H : Hp} : ∀ {rows : List V} {ps : List (List Nat)}, Paired (PathAt H) rows ps → DpAll K H rows (ps.map dP)
  | _, _, .nil => .nil
  | _, _, .cons r t => .cons r.dp (dpAll_paths t)
theorem eqv_ints : ∀ p q : List Nat, PyData.eqvAll (dI p) (dI q) = decide (p = q)
  | [], [] => by simp [dI, PyData.eqvAll]
  | [], j :: q => by simp [dI, PyData.eqvAll]
  | i :: p, [] => by simp [dI, PyData.eqvAll]
  | i :: p, j :: q => by
    have := eqv_ints p q
    simp only [dI, List.map_cons, PyData.eqvAll] at this ⊢
    rw [this]
    have e : PyData.eqv (.int (i : Int)) (.int (j : Int)) = decide (i = j) := by
      by_cases h : i = j
      · rw [h]; simp [PyData.eqv]
      · have : ¬ ((i : Int) = (j : Int)) := by omega
        simp [PyData.eqv, h, this]
    rw [e]
    by_cases h1 : i = j <;> by_cases h2 : p = q <;> simp [h1, h2]
theorem eqv_path (p q : List Nat) : PyData.eqv (dP p) (dP q) = decide (p = q) := by
  unfold dP
  simp only [PyData.eqv]
  exact eqv_ints p q
theorem any_path (p : List Nat) (ps : List (List Nat)) : ((ps.map dP).any fun z => PyData.eqv z (dP p)) = decide (p ∈ ps) := by
  induction ps with
  | nil => simp
  | cons q r ih =>
    rw [List.map_cons, List.any_cons, ih, eqv_path]
    by_cases h1 : q = p
    · subst h1; simp
    · have : ¬ p = q := fun z => h1 z.symm
      simp [h1, this]
def rInP (K : PySem.W.Frag) : R2 := fun x y H Q => ∃ (p : List Nat) (a : Addr) (rows : List V) (ps : List (List Nat)), PathAt H x p ∧ y = .ref a ∧ SqT K H a rows ∧ Paired (PathAt H) rows ps ∧ Q (.bl (decide (p ∈ ps))) H
theorem op_inP {X : Cx} (hu : X.A.units + 64 < cLine) : OpR X (compareOp .In) (rInP X.K) := by
  intro pins s σ H x y v u Q I rx ry h
  obtain ⟨p, a, rows, ps, hp, rfl, hs, pr, q⟩ := h
  obtain ⟨as, r1⟩ := Dp.reads I (dP p) x v hp.dp rx
  obtain ⟨bs, r2⟩ := Dp.reads I (.tuple (ps.map dP)) _ u (.tup hs (dpAll_paths pr)) ry
  refine SeqAt.in_tuple_reads r2 r1 (canLay_paths ps) (canLay_path p) ?_ ⟨.bl _, H, I, rfl, ?_⟩
  · rw [depth_path]
    have := Nat.min_le_right (PyData.depthAll (ps.map dP)) 1
    omega
  · rw [any_path]
    exact q
def rNotInP (K : PySem.W.Frag) : R2 := fun x y H Q => ∃ (p : List Nat) (a : Addr) (rows : List V) (ps : List (List Nat)), PathAt H x p ∧ y = .ref a ∧ SqT K H a rows ∧ Paired (PathAt H) rows ps ∧ Q (.bl (!decide (p ∈ ps))) H
theorem op_notInP {X : Cx} (hu : X.A.units + 64 < cLine) : OpR X (compareOp .NotIn) (rNotInP X.K) := by
  intro pins s σ H x y v u Q I rx ry h
  obtain ⟨p, a, rows, ps, hp, rfl, hs, pr, q⟩ := h
  obtain ⟨as, r1⟩ := Dp.reads I (dP p) x v hp.dp rx
  obtain ⟨bs, r2⟩ := Dp.reads I (.tuple (ps.map dP)) _ u (.tup hs (dpAll_paths pr)) ry
  refine SeqAt.notIn_tuple_reads r2 r1 (canLay_paths ps) (canLay_path p) ?_ ⟨.bl _, H, I, rfl, ?_⟩
  · rw [depth_path]
    have := Nat.min_le_right (PyData.depthAll (ps.map dP)) 1
    omega
  · rw [any_path]
    exact q
end Oo
namespace Oo
open PySem L2 PyProof.Rows
theorem iteNo {c A B : Prop} [Decidable c] (hc : ¬ c) (h : B) : if (decide c) = true then A else B := by
  rw [decide_eq_false hc]
  exact iteF h
theorem iteYes {c A B : Prop} [Decidable c] (hc : c) (h : A) : if (decide c) = true then A else B := by
  rw [decide_eq_true hc]
  exact iteT h
theorem log_small {n : Int} (h0 : 0 ≤ n) (h1 : n ≤ 999999) : n.natAbs.log2 < 1920 := by
  by_cases h : n.natAbs = 0
  · rw [h]; decide
  · have : n.natAbs.log2 < 20 := (Nat.log2_lt h).mpr (by omega)
    omega
theorem sz2 {n : Nat} (h : n ≤ 100000) : n ≤ sizeLine := by rw [sizeLine_eq]; omega
theorem nodess_ge : ∀ os : List Ex, os.length ≤ Ex.nodess os
  | [] => by simp [Ex.nodess]
  | e :: r => by
    have h1 := nodess_ge r
    have h2 := nodes_ops e
    simp only [List.length_cons, Ex.nodess]
    omega
def dThen : Key := Sum.inr "then"
def dAnd : Key := Sum.inr "and"
def dOr : Key := Sum.inr "or"
theorem dne1 : ¬ (dThen = dAnd) := by decide +kernel
theorem dne2 : ¬ (dThen = dOr) := by decide +kernel
theorem dne3 : ¬ (dAnd = dOr) := by decide +kernel
theorem dsp_merge (x y z : V) : mergeK [] [(dThen, x), (dAnd, y), (dOr, z)] = [(dThen, x), (dAnd, y), (dOr, z)] := by
  simp [mergeK, putK, dne1, dne2, dne3]
theorem dsp_then {H : Hp} {a : Addr} {x y z : V} (e : H a = some (.dK (mergeK [] [(dThen, x), (dAnd, y), (dOr, z)]))) : DGet H a (.str "then") (some x) := by
  rw [dsp_merge] at e
  exact .inl ⟨_, dThen, .inl e, rfl, by rw [valV_pos rfl]⟩
theorem dsp_and {H : Hp} {a : Addr} {x y z : V} (e : H a = some (.dK (mergeK [] [(dThen, x), (dAnd, y), (dOr, z)]))) : DGet H a (.str "and") (some y) := by
  rw [dsp_merge] at e
  exact .inl ⟨_, dAnd, .inl e, rfl, by rw [valV_neg dne1, valV_pos rfl]⟩
theorem dsp_or {H : Hp} {a : Addr} {x y z : V} (e : H a = some (.dK (mergeK [] [(dThen, x), (dAnd, y), (dOr, z)]))) : DGet H a (.str "or") (some z) := by
  rw [dsp_merge] at e
  exact .inl ⟨_, dOr, .inl e, rfl, by rw [valV_neg dne2, valV_neg dne3, valV_pos rfl]⟩
theorem ll1 : ("(" : Str).length = 1 := rfl
theorem ll2 : (")" : Str).length = 1 := rfl
theorem ll3 : (" = " : Str).length = 3 := rfl
theorem ll4 : (" " : Str).length = 1 := rfl
theorem ll5 : (" ? " : Str).length = 3 := rfl
theorem ll6 : (" : " : Str).length = 3 := rfl
theorem ll7 : ("," : Str).length = 1 := rfl
theorem ll8 : (" &&" : Str).length = 3 := rfl
theorem ll9 : (" ||" : Str).length = 3 := rfl
theorem ll10 : (";" : Str).length = 1 := rfl
theorem ll11 : ("" : Str).length = 0 := rfl
theorem ll12 : ("++" : Str).length = 2 := rfl
theorem ll13 : ("--" : Str).length = 2 := rfl
theorem ll14 : ("; " : Str).length = 2 := rfl
theorem ll15 : (", " : Str).length = 2 := rfl
theorem seqT_up {K : PySem.W.Frag} {H H' : Hp} {a : Addr} {xs : List V} (s : Same H H') (h : SqT K H a xs) : SqT K H' a xs := by
  rcases h with (h | ⟨o, h⟩) | h
  · exact .inl (.inl (s _ _ h))
  · exact .inl (.inr ⟨o, s _ _ h⟩)
  · exact .inr h
def spWritten (K : PySem.W.Frag) (N : Nat) : Sp := fun vs H Q _ => ∃ (ve vp : V) (tm : Addr) (rows : List V) (mk : List (List Nat)) (e : Ex) (p : List Nat) (ps : List Str) (fns : List Fn), vs = [ve, vp, .ref tm] ∧ InE H e ve ∧ ExW ps fns e ∧ KitW ps fns ∧ PathAt H vp p ∧ SqT K H tm rows ∧ Paired (PathAt H) rows mk ∧
  e.depth ≤ N ∧ p.length + e.depth ≤ 90 ∧ e.nodes ≤ 900 ∧ ∀ (H' : Hp), Same H H' → Q (.str (Ex.text mk e p)) H'
def teWr (K : PySem.W.Frag) (N : Nat) : TE := fun σ H Q => ∃ (i : Nat) (pa tm : Addr) (ve : V) (rows : List V) (mk : List (List Nat)) (e : Ex) (p : List Nat) (ps : List Str) (fns : List Fn), σ[4]? = some (some (.int (i : Int))) ∧ σ[5]? = some (some ve) ∧ σ[1]? = some (some (.ref pa)) ∧ σ[2]? = some (some (.ref tm)) ∧
  H pa = some (.tup (pv_ p)) ∧ SqT K H tm rows ∧ Paired (PathAt H) rows mk ∧ InE H e ve ∧ ExW ps fns e ∧ KitW ps fns ∧ e.depth ≤ N ∧ p.length + 1 + e.depth ≤ 90 ∧ e.nodes ≤ 900 ∧ ∀ H', Same H H' → Q (.str (Ex.text mk e (p ++ [i]))) H'
end Oo
/-! sorted of a tuple with a key -/
namespace Oo
open PySem PySem.W PySem.Calls PyProof.Rows
section
variable {prog : Program} {w : World} {A : Around} {E : Value → Shared → Prop} {s : Shared}
theorem collect_tup {l : Addr} {vs : List Value} {Q : List Value → Shared → Prop} (hl : s.heap.IsTuple l vs.toArray)
    (h : Q vs { s with heap := (s.heap.push (seqObj "list" #[] 0)).update s.heap.objs.size (Obj.mapSeq (· ++ vs.toArray)) }) (hsz : vs.length ≤ sizeLine) :
    wpAny (model prog w) A (collect (.ref l)) Q E s := by
  obtain ⟨o, ho, hc, n, hd⟩ := id hl
  unfold collect
  refine wpAny_bind (wpAny_runValue (codeAny_builtin entry_proto_collect' ?_))
  show wpAny _ _ (do again (.builtin "list.__iadd__" ⟨[← newList [], .ref l], []⟩)) _ _ s
  refine wpAny_bind (wpAny_newList (wpAny_pure ⟨Code.quiet_builtin _ (by decide +kernel), codeAny_builtin entry_list_iadd' ?_⟩))
  show wpAny _ _ (Builtin.List.listExtendWith (.ref s.heap.objs.size) (.ref l) (.ref s.heap.objs.size)) _ _ { s with heap := s.heap.push (seqObj "list" #[] 0) }
  unfold Builtin.List.listExtendWith
  have ho' : (s.heap.push (seqObj "list" #[] 0)).get? l = some o := Heap.get?_push_of_some _ ho
  refine wpAny_bind (wpAny_typeOf (T := "tuple") ⟨o, ho', hc⟩ ?_)
  have ht : (Value.type "tuple" == Value.type "tuple") = true := by rfl
  rw [if_pos (by rw [ht]; simp)]
  refine wpAny_bind (listItems_at ho' hd ?_)
  refine wpAny_bind (listItems_at (xs := #[]) (n := 0) (Heap.get?_push_size _ rfl) rfl ?_)
  rw [if_neg (by simp)]
  refine wpAny_bind (listUpdate_at (xs := #[]) (n := 0) (Heap.get?_push_size _ rfl) rfl ?_ (Nat.zero_le _) (by show (#[] ++ vs.toArray).size ≤ sizeLine + 1; simp only [Array.size_append, List.size_toArray, List.length_nil]; omega))
  refine wpAny_pure ?_
  show wpAny (model prog w) A (do
      let o ← load s.heap.objs.size
      match o.data with
      | .seq xs _ => pure xs.toList
      | _ => unsupported "internal:collect") Q E { s with heap := (s.heap.push (seqObj "list" #[] 0)).update s.heap.objs.size (Obj.mapSeq (· ++ vs.toArray)) }
  refine wpAny_bind (wpAny_load (get?_update_seq (Heap.get?_push_size _ rfl) _) ?_)
  show wpAny _ _ (pure ((#[] : Array Value) ++ vs.toArray).toList) Q E _
  rw [show ((#[] : Array Value) ++ vs.toArray).toList = vs by simp]
  exact wpAny_pure h
theorem sorted_of_sortT {l : Addr} {vs : List Value} {kw : List (Str × Value)} {Q : Value → Shared → Prop} (hl : s.heap.IsTuple l vs.toArray) (hL : vs.length ≤ sizeLine) (ha1 : argsOk "sorted" ⟨[.ref l], kw⟩) (ha2 : ∀ x, argsOk "list.sort" ⟨[.ref x], kw⟩)
    (body : ∀ E' : Value → Shared → Prop, wpAny (model prog w) A.in1.in1 (Builtin.«list.sort» ⟨[.ref (s.heap.objs.size + 1)], kw⟩) (fun f s' => f = .done (.ret .none) ∧ Q (.ref (s.heap.objs.size + 1)) s') E' { s with heap := copyHeap s.heap vs }) :
    wpAny (model prog w) A (call (.builtin "sorted") [.ref l] kw) Q E s := by
  refine call_function_entry_kw kind_sorted plain_sorted entry_sorted ha1 ?_
  unfold Builtin.«sorted»
  refine wpAny_bind (m := checkCount "sorted" 1 1 _) (wpAny_pure ?_)
  refine wpAny_bind (collect_tup hl ?_ hL)
  refine wpAny_bind (wpAny_newList ?_ hL)
  have hsz : ((s.heap.push (seqObj "list" #[] 0)).update s.heap.objs.size (Obj.mapSeq (· ++ vs.toArray))).objs.size = s.heap.objs.size + 1 := by
    rw [Heap.size_update, size_push']
  show wpAny _ _ _ _ _ { s with heap := copyHeap s.heap vs }
  rw [hsz]
  refine wpAny_bind (wpAny_holding (wpAny_call_entry_kw slot_list_sort ⟨_, copyHeap_at s.heap vs, rfl⟩ entry_list_sort ?body (ha2 _)))
  case body =>
    show wpAny (model prog w) A.in1.in1 (Builtin.«list.sort» ⟨[.ref (s.heap.objs.size + 1)], kw⟩) _ _ _
    refine wpAny_mono (body _) (fun f s' hf => ?_) fun _ _ e => e
    obtain ⟨rfl, hq⟩ := hf
    exact ⟨_, rfl, wpAny_pure ⟨_, rfl, hq⟩⟩
theorem sorted_key_dataT {β : Type} {vs : List Value} {bs : List β} {R : Value → β → Prop} {l : Addr} {f : Value} {kw : List (Str × Value)} {b : Bool} {Q : Value → Shared → Prop} (k : β → PyData) (hl : s.heap.IsTuple l vs.toArray) (e : EachIs R vs bs) (hal : AllAlike (bs.map k)) (hk : Sortable (bs.map k)) (hL : bs.length ≤ sizeLine)
    (hu : ∀ x, x ∈ bs → A.units + 2 + (k x).depth < cLine) (ha1 : argsOk "sorted" ⟨[.ref l], kw⟩) (ha2 : ∀ x, argsOk "list.sort" ⟨[.ref x], kw⟩) (ht : ∀ x, Builtin.«list.sort» ⟨[.ref x], kw⟩ = ksk_tree x f b)
    (turn : ∀ (v : Value) (x : β), R v x → x ∈ bs → ∀ (h : Heap) (tk : Nat), (∀ b o, s.heap.get? b = some o → h.get? b = some o) →
      wpAny (model prog w) A.in1.in1 (call f [v]) (KeyPure (k x) { s with heap := h, toks := tk }) (fun _ _ => False) { s with heap := h, toks := tk })
    (h : ∀ out c h' tk, (∀ b o, s.heap.get? b = some o → h'.get? b = some o) → s.heap.get? (s.heap.objs.size + 1) = none → h'.get? (s.heap.objs.size + 1) = some (seqObj "list" (List.toArray out) c) → out.length = bs.length → EachIs R out (bs.mergeSort (dataLe b k)) →
      Q (.ref (s.heap.objs.size + 1)) { s with heap := h', toks := tk }) :
    wpAny (model prog w) A (call (.builtin "sorted") [.ref l] kw) Q E s := by
  have fresh : s.heap.get? (s.heap.objs.size + 1) = none := Heap.get?_none_of_le (Nat.le_succ _)
  have up : ∀ {g : Heap}, KeepsBut (s.heap.objs.size + 1) (copyHeap s.heap vs) g → ∀ b o, s.heap.get? b = some o → g.get? b = some o := fun {g} kp b o q =>
    kp b o (Nat.ne_of_lt (Nat.lt_succ_of_lt (Heap.lt_size q))) (copyHeap_old q)
  refine sorted_of_sortT hl (by rw [e.length]; exact hL) ha1 ha2 fun E' => ?_
  rw [ht]
  refine keyH_tree (kz := bs.map k) (s := { s with heap := copyHeap s.heap vs }) (copyHeap_at s.heap vs) (by rw [List.length_map]; exact e.length.symm) (by rw [e.length]; exact hL) hal hk (bound_map (A := A.in1.in1) hu)
    (keyH_turns (s := { s with heap := copyHeap s.heap vs }) e fun v x hR hx h tk kp => turn v x hR hx h tk (up kp)) fun h' tk out c kp hD ko => ⟨rfl, ?_⟩
  exact h out c h' tk (up kp) fresh hD ((ko.length (by rw [List.length_map]; exact e.length.symm)).trans e.length) (keyedOut_each k ko e)
end
/-! a lambda that reads a field of its argument -/
section
variable {prog : Program} {w : World} {A : Around} {s : Shared} {K : Frag}
theorem lam_field {f a dx C c' : Addr} {x fld qual : Str} {params : Arguments} {scope : Scope} {pm ctv : Value} {p1 p2 : Pos} {y : Str} {t : Tok} {mA : Str → Option Value}
    (X : K.In s.heap) (hf : s.heap.get? f = some (kla_obj "<lambda>" qual params (.Attribute (.Name x p1) fld p2) scope [] pm c' ctv)) (hc : s.heap.CodeRec (.ref c') qual)
    (hk : scope.kind = .function) (co : scope.isCoroutine = false) (gen : scope.isGenerator = false) (nc : ∀ y ∈ scope.names, y.2 ≠ .cell) (hx : scope.names.lookup x = some .local)
    (hb : ∀ v : Value, bindArgs (kla_fn "<lambda>" qual params (.Attribute (.Name x p1) fld p2) scope [] pm (.ref c') ctv) ⟨[v], []⟩ = pure [(x, v)])
    (O : L2.ObjM s.heap a dx C mA) (hg : plainGet K C fld = true) (hh : hasDictIn K C = true) (ha : findIn K (.ref C) fld = some none) (hv : mA fld = some (.str y t))
    (lim : s.heap.NoLimit) (hr : A.depth < recursionLimit) (hd : (x == ("__debug__" : Str)) = false)
    (hab : ∀ env, attributeBase (.Name x p1) fld env (eval (.Name x p1) env) = eval (.Name x p1) env) :
    wpAny (model prog w) A (call (.ref f) [.ref a]) (KeyPure (.str y) s) (fun _ _ => False) s := by
  refine wpAny_call (kla_callFunE hr hf rfl co gen rfl hc ?_)
  rw [hb]
  refine wpAny_pure (wpAny_newFunctionEnv nc (fun z hz => by rw [List.mem_singleton.mp hz]; exact hx) (fun h₁ hns hsb => ⟨lim.fresh _ hsb, ?_⟩) hk)
  refine kla_codeExpr ?_
  have kp : ∀ b o, s.heap.get? b = some o → h₁.get? b = some o := fun b o e => hsb.extBut b o (Nat.ne_of_lt (Heap.lt_size e)) (Heap.get?_push_of_some _ e)
  refine L2.attr_of (hab _) (wpAny_Name (wpAny_loadName_local hk hx hns (v := .ref a) (by simp) ?_) hd)
  have O' : L2.ObjM h₁ a dx C mA := by
    obtain ⟨ob, ⟨o, es, ep, ho, r⟩, ne⟩ := O
    exact ⟨kp _ _ ob, ⟨o, es, ep, kp _ _ ho, r⟩, ne⟩
  refine L2.get_map (X.keeps kp) O' hg hh ha hv rfl ?_
  exact ⟨h₁, _, rfl, kp, .str _ _⟩
end
end Oo
namespace Oo
open PySem L2 PyProof.Rows LamX
theorem valsB_of_each {β : Type} {R : Value → V × β → Prop} (h : ∀ u b, R u b → RelV b.1 u) : ∀ {us : List Value} {bs : List (V × β)}, PySem.W.EachIs R us bs → Vals (bs.map (·.1)) us
  | _, _, .nil => .nil
  | _, _, .cons s t => .cons (h _ _ s) (valsB_of_each h t)
theorem eachB_zip {β : Type} {R : Value → V × β → Prop} {F : V → β → Prop} (h : ∀ u v p, RelV v u → F v p → R u (v, p)) : ∀ {rows : List V} {us : List Value} {ps : List β}, Vals rows us → Paired F rows ps → PySem.W.EachIs R us (rows.zip ps)
  | _, _, _, .nil, .nil => .nil
  | _, _, _, .cons s t, .cons s' t' => .cons (h _ _ _ s s') (eachB_zip h t t')
/-- an instance of the class at C whose field f is the text k -/
def FldAt (C : Addr) (f : Str) (H : Hp) (v : V) (k : Str) : Prop := ∃ p dx fs, v = .ref p ∧ H p = some (.ins C dx fs) ∧ fs.lookup f = some (.str k)
/-- sorted(e, key=lambda x: x.f), a tuple of instances -/
def tSortF (K : PySem.W.Frag) (T : List (Addr × Str)) (C : Addr) (f : Str) (ta : TA) : TE := fun σ H Q => ta σ H fun vs H1 => Tabs T H1 ∧ ∃ (a : Addr) (rows : List V) (ks : List Str), vs = [.ref a] ∧ SqT K H1 a rows ∧ Paired (FldAt C f H1) rows ks ∧ rows.length ≤ 1000 ∧
  ∀ (H2 : Hp) (bs : List (V × Str)) (q : Addr), ExtN H1 H2 → Tabs T H2 → H2 q = none → bs.Perm (rows.zip ks) → bs.Pairwise (fun x y => x.2.cps.toList ≤ y.2.cps.toList) → Q (.ref q) (upd H2 q (.lst (bs.map (·.1))))
theorem pe_sortedF {X : Cx} {T : List (Addr × Str)} {c P C : Addr} {k : Nat} {e : Expr} {ta : TA} {x fld : Str} {params : Arguments} {scope : Scope} {p pos lpos kpos p1 p2 : Pos}
    (hg : Gl X "sorted") (hm : X.mg "sorted" = none) (ha : PA X [e] ta) (hr : Room (k + 2) X.A)
    (TB : TabB X.base X.mg c P) (hcode : X.env.code = .ref c) (hmT : (P, X.env.qual ++ "<lambda>") ∈ T) (hu : ∀ p ∈ T, p.1 = P → p.2 = X.env.qual ++ "<lambda>") (hdef : defaultsOf params X.env = ([], []))
    (hk : scope.kind = .function) (co : scope.isCoroutine = false) (gen : scope.isGenerator = false) (hnm : scope.names = [(x, .local)])
    (hb : ∀ (q : Str) (pm cv ctv v : Value), bindArgs (PySem.W.kla_fn "<lambda>" q params (.Attribute (.Name x p1) fld p2) scope [] pm cv ctv) ⟨[v], []⟩ = pure [(x, v)])
    (cC : Cls X.K C) (nA : NoAttr X.K C fld) (hd : (x == ("__debug__" : Str)) = false)
    (hab : ∀ env, attributeBase (.Name x p1) fld env (eval (.Name x p1) env) = eval (.Name x p1) env)
    (he : backTo pos (starEach (e :: []) X.env) = (false, eval e X.env) :: backTo pos (starEach [] X.env) := by rfl) (hpl : (backTo pos (starEach (e :: []) X.env)).any (·.1) = false := by rfl) :
    PE X (.Call (.Name "sorted" p) [e] [⟨some "key", .Lambda params (.Attribute (.Name x p1) fld p2) scope lpos, kpos⟩] pos) (tSortF X.K T C fld ta) := by
  refine ⟨fun pins s σ H Q I h => ?_⟩
  refine wpAny_Call_Name_kw (ld_blt I hg hm boot_sorted ?_)
  refine PyProof.Rows.callWith_kw (thn (ha.run pos pins s σ H _ I h) fun us s1 hq => ?_) he hpl (by rfl) (by rfl)
  obtain ⟨vs, H1, I1, r1, hT, a, rows, ks, rfl, hsq, pr, hlen, q⟩ := hq
  show wpAny _ _ (evalAll ((do let v ← eval (.Lambda params (.Attribute (.Name x p1) fld p2) scope lpos) X.env; standAt pos; pure v) :: (backToKw pos (keywordEach [] X.env)).map (·.2))) _ _ s1
  refine wpAny_evalAll_cons (wpAny_bind (lam_make2 I1 TB hcode hmT hu hT hdef (fun y hy hf => ?_) fun f c' pm' ctv H2 s2 I2 eN T2 hf hfn hfr hco => ?_))
  · rw [hnm] at hy
    rw [List.mem_singleton.mp hy] at hf
    cases hf
  refine wpAny_bind (wpAny_standAt (wpAny_pure (wpAny_evalAll_nil ?_)))
  have hclo : cloFrom X.env.cells scope.names [] = [] := by rw [hnm]; rfl
  rw [hclo] at hf
  obtain rfl := Vals.ref1 r1
  show wpAny _ _ (call (.builtin "sorted") [.ref a] [(Str.ofString "key", .ref f)]) _ _ s2
  have hsq2 : SqT X.K H2 a rows := hsq.elim (fun h => .inl (h.elim (fun h => .inl (eN _ _ h (by intro ps z; cases z))) fun ⟨o, h⟩ => .inr ⟨o, eN _ _ h (by intro ps z; cases z)⟩)) fun h => .inr h
  have pr2 : Paired (FldAt C fld H2) rows ks := L2.Paired.mapP pr fun u b ⟨p, dx, fs, e1, e2, e3⟩ => ⟨p, dx, fs, e1, eN _ _ e2 (by intro ps z; cases z), e3⟩
  obtain ⟨its, rv, hl, _⟩ := I2.tuple hsq2
  have hrl : rows.length = ks.length := pr2.length
  have hil : its.length = rows.length := rv.length.symm
  have hcr : s2.heap.CodeRec (.ref c') (X.env.qual ++ "<lambda>") := by
    obtain ⟨⟨oc, vs, t, e1, e2, e3⟩, _⟩ := I2.hok c' _ hco
    exact ⟨c', oc, vs, t, rfl, e1, e2, e3⟩
  let bs := rows.zip ks
  have bl : bs.length = rows.length := by
    show (rows.zip ks).length = _
    rw [List.length_zip]
    omega
  have e : PySem.W.EachIs (fun u (b : V × Str) => RelV b.1 u ∧ FldAt C fld H2 b.1 b.2) its bs := eachB_zip (fun u v p x y => ⟨x, y⟩) rv pr2
  refine sorted_key_dataT (b := false) (fun b : V × Str => .str b.2) hl e ?_ ?_ (by rw [bl]; exact Nat.le_of_lt (small1000 hlen)) ?_ (ksk_s1 _ _) (fun _ => ksk_l1 _ _) (fun z => ksk_t1 f z) ?_ ?_
  · intro d hd d' hd'
    obtain ⟨b, _, rfl⟩ := List.mem_map.mp hd
    obtain ⟨b', _, rfl⟩ := List.mem_map.mp hd'
    rfl
  · refine .inr fun d hd => ?_
    obtain ⟨b, _, rfl⟩ := List.mem_map.mp hd
    exact ⟨fun z => (by cases z), fun xs z => (by cases z)⟩
  · intro b _
    have := hr.units
    simp only [PyData.depth]
    omega
  · rintro v b ⟨rb, p, dx, fs, e1, e2, e3⟩ hb' h tk kp
    have I3 : Inv X pins σ H2 { s2 with heap := h, toks := tk } := I2.kept kp
    obtain ⟨mA, O, rO, _, _, _⟩ := ins_get I3.hok e2
    have rl := rO fld
    rw [e3] at rl
    obtain ⟨u, hu1, hu2⟩ := rl.some_of
    obtain ⟨t, rfl⟩ := (show ∃ t, u = Value.str b.2 t from hu2)
    have ev : v = .ref p := by
      rw [e1] at rb
      exact rb
    subst ev
    refine lam_field (s := { s2 with heap := h, toks := tk }) (K := X.K) (C := C) (t := t) I3.kIn (kp _ _ hf) ?_ hk co gen ?_ ?_ (hb _ _ _ _) O (cC.get fld) cC.hd nA hu1 I3.nolimit ?_ hd hab
    · obtain ⟨a1, a2, a3, a4, a5, a6, a7, a8⟩ := hcr
      exact ⟨a1, a2, a3, a4, a5, kp _ _ a6, a7, a8⟩
    · rw [hnm]; simp
    · rw [hnm]; simp
    · exact hr.in1.in1.depth
  · intro out c2 h' tk kp hn hD hol eo
    have hv := valsB_of_each (fun u b x => x.1) eo
    have perm := List.mergeSort_perm bs (PySem.W.dataLe false (fun b : V × Str => .str b.2))
    have hlo : ((bs.mergeSort (PySem.W.dataLe false (fun b : V × Str => .str b.2))).map (·.1)).length ≤ sizeLine := by
      rw [List.length_map, perm.length_eq, bl]
      exact Nat.le_of_lt (small1000 hlen)
    refine ⟨.ref _, upd H2 (s2.heap.objs.size + 1) (.lst _), I2.laid (t' := tk) kp (Nat.le_succ _) ⟨hlo, _, c2, hv, hD⟩, rfl, q H2 _ _ eN T2 (I2.hok.fresh (Nat.le_succ _)) perm ?_⟩
    have srt := List.pairwise_mergeSort (le := PySem.W.dataLe false (fun b : V × Str => .str b.2)) ?_ ?_ bs
    · refine srt.imp fun {x y} hxy => ?_
      rw [PySem.W.dataLe_str] at hxy
      exact of_decide_eq_true hxy
    · intro x y z h1 h2
      rw [PySem.W.dataLe_str] at h1 h2 ⊢
      exact decide_eq_true (List.le_trans (of_decide_eq_true h1) (of_decide_eq_true h2))
    · intro x y
      rw [PySem.W.dataLe_str]
      rcases List.le_total x.2.cps.toList y.2.cps.toList with h1 | h1
      · simp [h1]
      · simp [h1]
end Oo
/-! own methods that built-ins call: in, [], len, str, repr, bool -/
namespace Oo
open PySem L2 PyProof.Rows
/-- the class at C has the def at f as its method m -/
structure Dun (K : PySem.W.Frag) (C : Addr) (m : Str) (f : Addr) : Prop where
  at_ : PySem.W.findIn K (.ref C) m = some (some (.ref f))
  fn : PySem.W.isFn K (.ref f) = true
section
variable {X : Cx} {CX : CXT} {k : Nat} {C f : Addr} {fd : FuncData} {ps : List Str} {sp : Sp} {E : XK}
theorem rref (a : Addr) : RelV (V.ref a) (Value.ref a) := rfl
theorem run_fnA {A : Around} {pins : List (Addr × Obj)} {σ : L2.St} {H : Hp} {s : Shared} {Q : VK} {us : List Value} {vs : List V} (F : FnOk X.prog X.w X.K X.mg X.base CX k f fd ps sp) (hr : Room k A) (hA : A.frames = X.A.frames) (hb : Binds X.K fd ps []) (hx : Passes CX X E)
    (I : Inv X pins σ H s) (r : Vals vs us) (h : sp vs H Q E) : wpAny (model X.prog X.w) A (call (.ref f) us) (EP X pins σ Q) X.xe s := by
  have hl : (us ++ ([] : List Value)).length = ps.length := by rw [List.append_nil, ← r.length]; exact F.len _ _ _ _ h
  have e0 : Env0 X.prog X.w X.K X.mg X.base A X.stack s H := by
    have e := I.env0
    exact ⟨by rw [hA]; exact e.frames, e.mod, e.bs, e.bsz, e.funs, e.frf, e.hok, e.bare⟩
  have hbb := hb s us I.kIn hl
  rw [List.append_nil] at hbb
  refine wpAny_call (codeAny_mono (F.run A X.stack s H ⟨us, []⟩ us vs Q E hr e0 hbb r h) fun r s' hq => ?_)
  cases r with
  | error e => exact hx pins σ H s e s' I hq
  | ok fl =>
    cases fl with
    | ret u => exact I.after hq
    | next => exact False.elim hq
    | brk => exact False.elim hq
    | cont => exact False.elim hq
theorem inst_of {pins : List (Addr × Obj)} {σ : L2.St} {H : Hp} {s : Shared} {a dx : Addr} {fs : List (Str × V)} (I : Inv X pins σ H s) (ea : H a = some (.ins C dx fs)) : ∃ ox od, PySem.W.InstAt s.heap a ox C (some od) := by
  obtain ⟨mA, J, _⟩ := ins_get I.hok ea
  obtain ⟨od, J, _⟩ := J.look
  exact ⟨_, od, J⟩
/-- x in o -/
def rInO (C : Addr) (sp : Sp) (E : XK) : R2 := fun x y H Q => ∃ a dx fs, y = .ref a ∧ H a = some (.ins C dx fs) ∧ sp [.ref a, x] H (fun v H' => ∃ b, v = .bl b ∧ Q (.bl b) H') E
theorem op_inO (F : FnOk X.prog X.w X.K X.mg X.base CX k f fd ps sp) (hr : Room k X.A) (d : Dun X.K C "__contains__" f) (hb : Binds X.K fd ps []) (hx : Passes CX X E) : OpR X (compareOp .In) (rInO C sp E) := by
  intro pins s σ H x y v u Q I rx ry h
  obtain ⟨a, dx, fs, rfl, ea, h⟩ := h
  cases ry
  obtain ⟨ox, od, J⟩ := inst_of I ea
  obtain ⟨m, hF⟩ := I.fr
  refine PySem.W.in_K hF I.ok.mod.kin J d.at_ d.fn (wpAny_mono (run_fnA F hr rfl hb hx I (.cons (rref a) (.cons rx .nil)) h) (fun r s' q => ?_) fun _ _ z => z)
  obtain ⟨w', H', I', rw', b, rfl, q⟩ := q
  cases rw'
  exact wpAny_truthy_bool ⟨.bl b, H', I', rfl, q⟩
/-- o[x] -/
def tIxO (C : Addr) (sp : Sp) (E : XK) (ta tb : TE) : TE := fun σ H Q => ta σ H fun x H1 => tb σ H1 fun y H2 => ∃ a dx fs, x = .ref a ∧ H2 a = some (.ins C dx fs) ∧ sp [.ref a, y] H2 Q E
theorem pe_ixO {a b : Expr} {ta tb : TE} {pos : Pos} (F : FnOk X.prog X.w X.K X.mg X.base CX k f fd ps sp) (hr : Room (k + 1) X.A) (d : Dun X.K C "__getitem__" f) (hfn : PySem.W.fnIn X.K f = true) (hb : Binds X.K fd ps []) (hx : Passes CX X E) (ha : PE X a ta) (hb' : PE X b tb)
    (hsl : ∀ x i : Value, subscripted b true x i = runValue (.builtin "lifetime.subscript" ⟨[x, i], []⟩) := by intro _ _; with_unfolding_all rfl) : PE X (.Subscript a b pos) (tIxO C sp E ta tb) := by
  refine ⟨fun pins s σ H Q I h => ?_⟩
  refine Subscript_ (thn (ha.run pins s σ H _ I h) fun u s1 ⟨x, H1, I1, rx, q1⟩ => thn (hb'.run pins s1 σ H1 _ I1 q1) fun iv s2 ⟨y, H2, I2, ry, o, dx, fs, ex, ea, q2⟩ => ?_)
  subst ex
  obtain rfl : u = Value.ref o := rx
  obtain ⟨ox, od, J⟩ := inst_of I2 ea
  obtain ⟨m, hF⟩ := I2.fr
  exact PySem.W.sub_K hF I2.ok.mod.kin J d.at_ hfn d.fn (run_fnA F hr.in1 rfl hb hx I2 (.cons (rref o) (.cons ry .nil)) q2) (hsl _ _)
/-- len(o) -/
def rLenO (C : Addr) (sp : Sp) (E : XK) : List V → Hp → VK → Prop := fun xs H Q => ∃ a dx fs, xs = [.ref a] ∧ H a = some (.ins C dx fs) ∧ sp [.ref a] H (fun v H' => ∃ n : Nat, v = .int n ∧ n ≤ 1000000 ∧ Q (.int n) H') E
theorem call_lenO (F : FnOk X.prog X.w X.K X.mg X.base CX k f fd ps sp) (hr : Room (k + 1) X.A) (d : Dun X.K C "__len__" f) (hb : Binds X.K fd ps []) (hx : Passes CX X E) : CallR X (.builtin "len") (rLenO C sp E) := by
  intro pins s σ H xs us Q I r h
  obtain ⟨a, dx, fs, rfl, ea, h⟩ := h
  obtain rfl := Vals.ref1 r
  obtain ⟨ox, od, J⟩ := inst_of I ea
  obtain ⟨m, hF⟩ := I.fr
  refine PySem.W.len_K hF I.ok.mod.kin J d.at_ d.fn (wpAny_mono (run_fnA (A := X.A.in1) F hr.in1 rfl hb hx I (.cons (rref a) .nil) h) (fun r s' q => ?_) fun _ _ z => z)
  obtain ⟨w', H', I', rw', n, rfl, hn, q⟩ := q
  obtain ⟨t, rfl⟩ := (show ∃ t, r = Value.int n t from rw')
  exact ⟨⟨by omega, by omega⟩, .int n, H', I'.tok _, ⟨_, rfl⟩, q⟩
/-- str(o), repr(o) -/
def rStrO (C : Addr) (sp : Sp) (E : XK) : List V → Hp → VK → Prop := fun xs H Q => ∃ a dx fs, xs = [.ref a] ∧ H a = some (.ins C dx fs) ∧ sp [.ref a] H (fun v H' => ∃ y : Str, v = .str y ∧ Q (.str y) H') E
theorem call_strO (F : FnOk X.prog X.w X.K X.mg X.base CX k f fd ps sp) (hr : Room (k + 2) X.A) (d : Dun X.K C "__str__" f) (hb : Binds X.K fd ps []) (hx : Passes CX X E) : CallR X (.type "str") (rStrO C sp E) := by
  intro pins s σ H xs us Q I r h
  obtain ⟨a, dx, fs, rfl, ea, h⟩ := h
  obtain rfl := Vals.ref1 r
  obtain ⟨ox, od, J⟩ := inst_of I ea
  refine PySem.W.kso_call hr.in1.in1.units0 I.kIn J d.at_ d.fn (wpAny_mono (run_fnA (A := X.A.in1.in1) F hr.in1.in1 rfl hb hx I (.cons (rref a) .nil) h) (fun r s' q => ?_) fun _ _ z => z)
  obtain ⟨w', H', I', rw', y, rfl, q⟩ := q
  obtain ⟨t, rfl⟩ := (show ∃ t, r = Value.str y t from rw')
  exact ⟨.str y, H', I', ⟨_, rfl⟩, q⟩
theorem call_reprO (F : FnOk X.prog X.w X.K X.mg X.base CX k f fd ps sp) (hr : Room (k + 1) X.A) (d : Dun X.K C "__repr__" f) (hb : Binds X.K fd ps []) (hx : Passes CX X E) : CallR X (.builtin "repr") (rStrO C sp E) := by
  intro pins s σ H xs us Q I r h
  obtain ⟨a, dx, fs, rfl, ea, h⟩ := h
  obtain rfl := Vals.ref1 r
  obtain ⟨ox, od, J⟩ := inst_of I ea
  obtain ⟨m, hF⟩ := I.fr
  refine PySem.W.repr_K hr.in1.units0 hF I.ok.mod.kin J d.at_ d.fn (wpAny_mono (run_fnA (A := X.A.in1) F hr.in1 rfl hb hx I (.cons (rref a) .nil) h) (fun r s' q => ?_) fun _ _ z => z)
  obtain ⟨w', H', I', rw', y, rfl, q⟩ := q
  obtain ⟨t, rfl⟩ := (show ∃ t, r = Value.str y t from rw')
  exact ⟨.str y, H', I', ⟨_, rfl⟩, q⟩
end
end Oo
namespace Oo
open PySem PySem.W PySem.Calls PyProof.Rows Builtin
section
variable {prog : Program} {w : World} {A : Around} {E : Value → Shared → Prop} {s : Shared} {K : Frag} {x C f : Addr} {ox : Obj} {od : Option Obj}
theorem truthy_len {Q : Bool → Shared → Prop} (X : K.In s.heap) (I : InstAt s.heap x ox C od) (hb : findIn K (.ref C) "__bool__" = some none) (hs : findIn K (.ref C) "__len__" = some (some (.ref f))) (hf : isFn K (.ref f) = true)
    (h : wpAny (model prog w) A.in1 (call (.ref f) [.ref x]) (W.LenBack fun v s' => ∃ (n : Int) (t : Tok), v = .int n t ∧ Q (n != 0) s') E s) : wpAny (model prog w) A (truthy (.ref x)) Q E s := by
  unfold truthy
  refine wpAny_bind (m := callSpecial? (.ref x) (Str.ofString "__bool__")) (wpAny_bind (wpAny_bind (I.type.here ((looks_findIn X hb).here (wpAny_pure ?_)))))
  refine wpAny_bind (wpAny_bind (I.type.here ((looks_findIn X hs).here ?_)))
  show wpAny _ _ (if (some (Value.ref f)).isNone = true then _ else _) _ _ _
  rw [if_neg (by simp)]
  refine wpAny_bind (wpAny_runValue (codeAny_builtin entry_len ?_))
  rw [Around.under_plainId plain_len _]
  unfold Builtin.«len»
  refine wpAny_bind (m := oneArg "len" _) (wpAny_pure ?_)
  refine wpAny_bind (m := callSpecial? (.ref x) (Str.ofString "__len__")) (special_fn X I hs (beq_iff_eq.mp hf) (wpAny_mono h (fun r s' hr => ?_) fun _ _ y => y))
  cases r <;> first | exact hr.elim | skip
  rename_i n u
  obtain ⟨⟨h0, h1⟩, n', t', e, hq⟩ := hr
  cases e
  refine wpAny_bind (wpAny_holding (wpAny_pure ?_))
  refine wpAny_bind (wpAny_letGo ?_)
  show wpAny _ _ (if n < 0 then _ else _) _ _ _
  rw [if_neg (by omega)]
  show wpAny _ _ (if n ≥ 2 ^ 63 then _ else _) _ _ _
  rw [if_neg (by omega)]
  exact wpAny_bind (wpAny_mkInt (wpAny_pure (wpAny_pure hq)))
theorem bool_ref {Q : Value → Shared → Prop} (h : wpAny (model prog w) A.in1.in1 (truthy (.ref x)) (fun b s' => Q (.bool b) s') E s) : wpAny (model prog w) A (call (.type "bool") [.ref x]) Q E s := by
  refine callType_codes (T := "bool") (Bi := Builtin.«object.__init__») (Q₁ := fun r s₁ => ∃ b, r = .bool b ∧ Q r s₁) PySem.F.called_bool (PySem.F.typeCall_bool_1 _) PySem.F.entry_object_init ?_ ?_
  · refine codeAny_of_tree ?_
    show wpAny _ A.in1.in1 (do checkBuiltinCall "bool.__new__" ⟨[.type "bool", .ref x], []⟩; again (.builtin "bool.__new__" ⟨[.type "bool", .ref x], []⟩)) _ _ s
    refine wpAny_bind (wpAny_of_eq (PySem.F.newCall_bool_1 _) (wpAny_pure ⟨plainId_quiet (by decide +kernel) _, codeAny_builtin PySem.F.entry_bool_new ?_⟩))
    rw [Around.under_plainId (by decide +kernel) _]
    have f1 := F.conv_sub_bool
    obtain ⟨hp, g, d, tk, os⟩ := s
    repeat (any_goals (first | assumption | (with_reducible refine wpAny_mono h (fun b s' hq => ?_) (fun _ _ z => z)) | wp_step))
    exact ⟨_, rfl, hq⟩
  · rintro obj s₁ ⟨b, rfl, hq⟩
    exact ⟨PySem.typeIs_bool _ _, PySem.F.args_object_init_2 _ _, object_init_meets PySem.F.called_bool.init.lookup PySem.F.called_bool.made (by decide) prog w A.in1 _ s₁ ⟨PySem.typeIs_bool _ _, rfl, hq⟩⟩
end
end Oo
namespace Oo
open PySem L2 PyProof.Rows
section
variable {X : Cx} {CX : CXT} {k : Nat} {C f : Addr} {fd : FuncData} {ps : List Str} {sp : Sp} {E : XK}
/-- bool(o), o with an own __len__ -/
theorem call_boolO (F : FnOk X.prog X.w X.K X.mg X.base CX k f fd ps sp) (hr : Room (k + 3) X.A) (d : Dun X.K C "__len__" f) (n : PySem.W.findIn X.K (.ref C) "__bool__" = some none) (hb : Binds X.K fd ps []) (hx : Passes CX X E) :
    CallR X (.type "bool") (fun xs H Q => ∃ a dx fs, xs = [.ref a] ∧ H a = some (.ins C dx fs) ∧ sp [.ref a] H (fun v H' => ∃ n : Nat, v = .int n ∧ n ≤ 1000000 ∧ Q (.bl (decide (0 < n))) H') E) := by
  intro pins s σ H xs us Q I r h
  obtain ⟨a, dx, fs, rfl, ea, h⟩ := h
  obtain rfl := Vals.ref1 r
  obtain ⟨ox, od, J⟩ := inst_of I ea
  refine bool_ref (truthy_len I.kIn J n d.at_ d.fn (wpAny_mono (run_fnA (A := X.A.in1.in1.in1) F hr.in1.in1.in1 rfl hb hx I (.cons (rref a) .nil) h) (fun r s' q => ?_) fun _ _ z => z))
  obtain ⟨w', H', I', rw', n, rfl, hn, q⟩ := q
  obtain ⟨t, rfl⟩ := (show ∃ t, r = Value.int n t from rw')
  refine ⟨⟨by omega, by omega⟩, n, _, rfl, .bl (decide (0 < n)), H', I'.tok _, ?_, q⟩
  show Value.bool ((n : Int) != 0) = Value.bool (decide (0 < n))
  congr 1
  cases n with
  | zero => rfl
  | succ m =>
    rw [decide_eq_true (Nat.succ_pos m)]
    simp
    omega
end
end Oo
namespace Oo
open PySem L2 PyProof.Rows
abbrev sIsInt : Stmt := top 2
abbrev sAsc : Stmt := top 3
abbrev sName : Stmt := top 22
abbrev sPlaces : Stmt := top 23
/-! ### is_integer, is_ascending, is_name, are_places -/
/-- x < y, data -/
def rLtU (K : PySem.W.Frag) : R2 := fun x y H Q => ∃ d e, Dp K H x d ∧ Dp K H y e ∧ PySem.W.alike d e = true ∧ d ≠ .none ∧ d.depth ≤ 60 ∧ Q (.bl (PySem.W.dataLt d e)) H
theorem op_ltU {X : Cx} (hu : X.A.units + 64 < cLine) : OpR X (compareOp .Lt) (rLtU X.K) := by
  intro pins s σ H x y v u Q I rx ry h
  obtain ⟨d, e, hd, he, al, hn, hdp, q⟩ := h
  obtain ⟨as, r1⟩ := Dp.reads I d x v hd rx
  obtain ⟨bs, r2⟩ := Dp.reads I e y u he ry
  refine PySem.W.lt_data r1 r2 al hn ?_ ⟨.bl _, H, I, rfl, q⟩
  have := Nat.min_le_left d.depth e.depth
  omega
def spIsInt : Sp := fun vs H Q _ => (∃ n, vs = [.int n] ∧ Q (.bl true) H) ∨ (∃ p xs, vs = [.ref p] ∧ H p = some (.tup xs) ∧ Q (.bl false) H)
/-- each one is less than the next -/
def AscD (ds : List PyData) : Prop := ∀ i (h : i + 1 < ds.length), PySem.W.alike ds[i] ds[i + 1] = true ∧ ds[i] ≠ .none ∧ (ds[i]).depth ≤ 60 ∧ PySem.W.dataLt ds[i] ds[i + 1] = true
def teLt (K : PySem.W.Frag) : TE := fun σ H Q => ∃ (p : Addr) (xs : List V) (ds : List PyData) (i : Nat), σ[0]? = some (some (.ref p)) ∧ σ[1]? = some (some (.int (0 + (i : Int)))) ∧ SqT K H p xs ∧ DpAll K H xs ds ∧ i + 1 < ds.length ∧ AscD ds ∧ Q (.bl true) H
def spAsc (K : PySem.W.Frag) : Sp := fun vs H Q _ => ∃ (p : Addr) (xs : List V) (ds : List PyData), vs = [.ref p] ∧ SqT K H p xs ∧ DpAll K H xs ds ∧ xs.length ≤ 1000 ∧ AscD ds ∧ ∀ H', Same H H' → Q (.bl true) H'
theorem same_seqT {K : PySem.W.Frag} {H H' : Hp} (s : Same H H') {a : Addr} {xs : List V} (h : SqT K H a xs) : SqT K H' a xs :=
  h.elim (fun h => .inl (h.elim (fun h => .inl (s _ _ h)) fun ⟨o, h⟩ => .inr ⟨o, s _ _ h⟩)) fun h => .inr h
mutual
theorem dp_ext {K : PySem.W.Frag} {H H' : Hp} (s : Same H H') : ∀ {v : V} {d : PyData}, Dp K H v d → Dp K H' v d
  | _, _, .non => .non
  | _, _, .bl b => .bl b
  | _, _, .int i => .int i
  | _, _, .str x => .str x
  | _, _, .lst h t => .lst (s.seq h) (dpAll_ext s t)
  | _, _, .tup h t => .tup (same_seqT s h) (dpAll_ext s t)
theorem dpAll_ext {K : PySem.W.Frag} {H H' : Hp} (s : Same H H') : ∀ {vs : List V} {ds : List PyData}, DpAll K H vs ds → DpAll K H' vs ds
  | _, _, .nil => .nil
  | _, _, .cons a t => .cons (dp_ext s a) (dpAll_ext s t)
end
theorem dpAll_len {K : PySem.W.Frag} {H : Hp} : ∀ {vs : List V} {ds : List PyData}, DpAll K H vs ds → vs.length = ds.length
  | _, _, .nil => rfl
  | _, _, .cons _ t => by rw [List.length_cons, List.length_cons, dpAll_len t]
theorem dpAll_at {K : PySem.W.Frag} {H : Hp} : ∀ {vs : List V} {ds : List PyData}, DpAll K H vs ds → ∀ (i : Nat) (h : i < vs.length) (h' : i < ds.length), Dp K H vs[i] ds[i]
  | _, _, .cons a t, 0, _, _ => a
  | _, _, .cons _ t, i + 1, h, h' => dpAll_at t i (by simpa using h) (by simpa using h')
section
variable {P : Program} {w : World} {K : PySem.W.Frag} {mg : Str → Option Value} {base : Heap} {X : Cx}
theorem scIsInt : FnScope ["value"] ["value"] (defScope sIsInt) := ⟨rfl, rfl, rfl, by decide +kernel, rfl, by decide +kernel, by decide +kernel⟩
theorem ok_isint {f : Addr} {fd : FuncData} (F : Fun K "is_integer" "is_integer" sIsInt f fd) (mi : mg "int" = none) (mb : mg "bool" = none) (mis : mg "isinstance" = none) : FnOk P w K mg base CX0 1 f fd ["value"] spIsInt := by
  refine F.ok scIsInt (fun vs H Q E h => ?_) (fun cdv A outer s H vs Q E hr h => ?_)
  · rcases h with ⟨n, rfl, _⟩ | ⟨p, xs, rfl, _⟩ <;> rfl
  refine ⟨_, (pss_one (ps_ret (pe_and (pe_callB call_isi (by rfl) mis boot_isinstance (pa_cons (pv 0) (pa_cons (pe_bltn (v := .ty "int") (by rfl) mi (by decide +kernel) rfl) pa_nil))) (pe_one (pe_not (pe_callB call_isi (by rfl) mis boot_isinstance (pa_cons (pv 0) (pa_cons (pe_bltn (v := .ty "bool") (by rfl) mb (by decide +kernel) rfl) pa_nil)))))))), ?_⟩
  rcases h with ⟨n, rfl, q⟩ | ⟨p, xs, rfl, e, q⟩
  · refine ⟨_, rfl, _, _, _, _, true, rfl, .ty "int", .base (.int n), kit_ty (by decide +kernel), true, rfl, iteT ?_⟩
    exact ⟨_, rfl, _, _, _, _, false, rfl, .ty "bool", .base (.int n), kit_ty (by decide +kernel), false, rfl, q⟩
  · exact ⟨_, rfl, _, _, _, _, false, rfl, .ty "int", .base (.tup e), kit_ty (by decide +kernel), false, rfl, iteF q⟩
theorem scAsc : FnScope ["items", "at"] ["items"] (defScope sAsc) := ⟨rfl, rfl, rfl, by decide +kernel, rfl, by decide +kernel, by decide +kernel⟩
theorem ok_asc {f : Addr} {fd : FuncData} (F : Fun K "is_ascending" "is_ascending" sAsc f fd) (mal : mg "all" = none) (mr : mg "range" = none) (ml : mg "len" = none) : FnOk P w K mg base CX0 1 f fd ["items"] (spAsc K) := by
  refine F.ok scAsc (fun vs H Q E h => ?_) (fun cdv A outer s H vs Q E hr h => ?_)
  · obtain ⟨p, xs, ds, rfl, _⟩ := h
    rfl
  obtain ⟨p, xs, ds, rfl, e, hd, hl, asc, q⟩ := h
  refine ⟨_, (pss_one (ps_ret (pe_callB (cr_all rfl) (by rfl) mal (by decide +kernel) (pa_cons (pe_lc (own := [("at", 1)]) (g := gName 1) (tt := tYes) (by rfl) scAsc.nd (pi_range1 (by rfl) mr (pa_cons (pe_op op_sub (pe_callB call_len_seq (by rfl) ml PySem.boot_len (pa_cons (pv 0) pa_nil)) pe_int) pa_nil)) (blkOk_by (own := [("at", 1)]) (N := ["items", "at"]) (sc := defScope sAsc) (by decide +kernel)) (fun _ _ _ _ _ => (pg_name (i := 1) scAsc.nd rfl (Or.inl rfl))) (fun _ _ _ _ _ => pts_nil) (fun _ _ _ _ _ => (pe_as (t' := teLt K) (pe_cmpR (op_ltU hr.units) (pe_ix ix_tup (pv 0) (pv 1) (fun _ _ => rfl)) (pe_ix ix_tup (pv 0) (pe_op op_add (pv 1) pe_int) (fun _ _ => rfl)) (nomark _)) ?c1))) pa_nil)))), ?_⟩
  case c1 =>
    rintro σ H Q ⟨p, xs, ds, i, e0, e1, e, hd, h1, asc, q⟩
    have hlen := dpAll_len hd
    obtain ⟨al, hn, hdp, lt⟩ := asc i h1
    refine ⟨_, e0, _, e1, p, xs, _, xs[i]'(by omega), rfl, rfl, e, at_of (j := i) (by omega) (List.getElem?_eq_getElem (by omega)), _, e0, _, e1, _, _, rfl, rfl, p, xs, _, xs[i + 1]'(by omega), rfl, rfl, e, at_of (j := i + 1) (by omega) (List.getElem?_eq_getElem (by omega)), _, _, dpAll_at hd i (by omega) (by omega), dpAll_at hd (i + 1) (by omega) h1, al, hn, hdp, ?_⟩
    rw [lt]
    exact q
  refine ⟨_, rfl, p, _, rfl, .inr e, _, _, rfl, rfl, _, rfl, by omega, by omega, fun D nD => ?_⟩
  have hlen := dpAll_len hd
  have sD := same_up (o := .lst []) nD
  refine lc_range (lo := 0) (n := ((xs.length : Int) - 1).toNat) (fun i H' => H' D = some (.lst ((List.replicate i true).map V.bl)) ∧ Same H H') ⟨upd_same, sD⟩ ?_ ?_
  · rintro i H' hi ⟨eD, s'⟩
    have h1 : i + 1 < ds.length := by omega
    refine ⟨rfl, yes_i ⟨p, xs, ds, i, rfl, rfl, same_seqT s' e, dpAll_ext s' hd, h1, asc, ?_⟩⟩
    refine ⟨_, eD, small1000 (by rw [List.length_map, List.length_replicate]; omega), ?_, fun b o z => by rw [upd_ne (ne_of_none z nD)]; exact s' b o z⟩
    rw [List.replicate_succ', List.map_append]
    exact upd_same
  · rintro H' ⟨eD, s'⟩
    refine ⟨D, _, rfl, SqL.of eD, ?_⟩
    have : (List.replicate ((xs.length : Int) - 1).toNat true).all id = true := by simp
    rw [this]
    exact q _ s'
end
end Oo
namespace Oo
open PySem L2 PyProof.Rows
theorem pe_globI {X : Cx} {x : Str} {n : Int} {t : Tok} {pos : Pos} (hg : Gl X x) (hm : X.mg x = some (.int n t)) (hd : (x == ("__debug__" : Str)) = false := by decide) : PE X (.Name x pos) (tC (.int n)) := pe_glob (v := .int n) hg hm ⟨t, rfl⟩ hd
theorem pe_globS {X : Cx} {x z : Str} {t : Tok} {pos : Pos} (hg : Gl X x) (hm : X.mg x = some (.str z t)) (hd : (x == ("__debug__" : Str)) = false := by decide) : PE X (.Name x pos) (tC (.str z)) := pe_glob (v := .str z) hg hm ⟨t, rfl⟩ hd
theorem pe_globD {X : Cx} {x : Str} {a : Addr} {pos : Pos} (hg : Gl X x) (hm : X.mg x = some (.ref a)) (hd : (x == ("__debug__" : Str)) = false := by decide) : PE X (.Name x pos) (tC (.ref a)) := pe_glob (v := .ref a) hg hm rfl hd
def letters : Str := "abcdefghijklmnopqrstuvwxyz"
theorem in_letters {c : Nat} (h1 : 97 ≤ c) (h2 : c ≤ 122) : c ∈ letters.cps.toList := by
  have : letters.cps.toList = List.range' 97 26 := by decide +kernel
  rw [this, List.mem_range'_1]
  omega
theorem okName_letters {x : Str} (h : okName x = true) : ∀ c ∈ x.cps.toList, 97 ≤ c ∧ c ≤ 122 := by
  unfold okName at h
  simp only [Bool.and_eq_true, List.all_eq_true, decide_eq_true_eq] at h
  exact h.2
theorem okName_pos {x : Str} (h : okName x = true) : 1 ≤ x.length := by
  unfold okName at h
  simp only [Bool.and_eq_true, decide_eq_true_eq] at h
  exact h.1.1
def teLetter : TE := fun σ H Q => ∃ c : Nat, σ[1]? = some (some (.str ⟨#[c]⟩)) ∧ 97 ≤ c ∧ c ≤ 122 ∧ Q (.bl true) H
def spName : Sp := fun vs H Q _ => ∃ x, vs = [.str x] ∧ okName x = true ∧ ∀ H', Same H H' → Q (.bl true) H'
def spPlaces : Sp := fun vs H Q _ => ∃ (p : Addr) (xs : List Str), vs = [.ref p] ∧ H p = some (.tup (xs.map V.str)) ∧ PlW xs ∧ ∀ H', Same H H' → Q (.bl true) H'
theorem dataLt_strs (a b : Str) : PySem.W.dataLt (.str a) (.str b) = decide (a.cps.toList < b.cps.toList) := PySem.W.dataLt_str a b
theorem risingS_get : ∀ (l : List Str) (p : Str), risingS p l = true → ∀ (h : 0 < l.length), decide (l[0].cps.toList < p.cps.toList) = false
  | x :: r, p, h, _ => by
    unfold risingS at h
    rw [Bool.and_eq_true, ltCps_eq] at h
    have := h.1
    simpa using this
theorem sortedS_get : ∀ (l : List Str), sortedS l = true → ∀ i (h : i + 1 < l.length), ¬ (l[i + 1].cps.toList < l[i].cps.toList)
  | x :: y :: r, hs, 0, h => by
    have := risingS_get (y :: r) x hs (by simp)
    simpa using this
  | x :: y :: r, hs, i + 1, h => by
    have h2 : sortedS (y :: r) = true := by
      have h3 : risingS x (y :: r) = true := hs
      unfold risingS at h3
      rw [Bool.and_eq_true] at h3
      exact h3.2
    have := sortedS_get (y :: r) h2 i (by simpa using h)
    simpa using this
theorem ascD_strs {xs : List Str} (h : sortedS xs = true) (nd : xs.Nodup) : AscD (xs.map PyData.str) := by
  intro i hi
  rw [List.length_map] at hi
  simp only [List.getElem_map]
  refine ⟨rfl, fun z => (by cases z), (by simp [PyData.depth]), ?_⟩
  rw [dataLt_strs]
  refine decide_eq_true ?_
  have h1 := sortedS_get xs h i hi
  have h2 : xs[i].cps.toList ≤ xs[i + 1].cps.toList := List.not_lt.mp h1
  rcases Classical.em (xs[i].cps.toList < xs[i + 1].cps.toList) with h3 | h3
  · exact h3
  · have h4 : xs[i + 1].cps.toList ≤ xs[i].cps.toList := List.not_lt.mp h3
    have h5 := List.le_antisymm h2 h4
    have h6 : xs[i] = xs[i + 1] := Str.ext' (by rw [← Array.toArray_toList (xs := xs[i].cps), h5, Array.toArray_toList])
    have := (List.nodup_iff_pairwise_ne.mp nd)
    rw [List.pairwise_iff_getElem] at this
    exact absurd h6 (this i (i + 1) (by omega) hi (by omega))
section
variable {P : Program} {w : World} {K : PySem.W.Frag} {mg : Str → Option Value} {base : Heap} {X : Cx}
theorem scName : FnScope ["value", "letter"] ["value"] (defScope sName) := ⟨rfl, rfl, rfl, by decide +kernel, rfl, by decide +kernel, by decide +kernel⟩
theorem ok_name {f : Addr} {fd : FuncData} {t1 t2 : Tok} (F : Fun K "is_name" "is_name" sName f fd) (mal : mg "all" = none) (ml : mg "len" = none) (mst : mg "str" = none) (mis : mg "isinstance" = none)
    (mMOST_LETTERS : mg "MOST_LETTERS" = some (.int 8 t1)) (mLETTERS : mg "LETTERS" = some (.str letters t2)) : FnOk P w K mg base CX0 1 f fd ["value"] spName := by
  refine F.ok scName (fun vs H Q E h => ?_) (fun cdv A outer s H vs Q E hr h => ?_)
  · obtain ⟨x, rfl, _⟩ := h
    rfl
  obtain ⟨x, rfl, hx, q⟩ := h
  refine ⟨_, (pss_cons (ps_if (PW.pt (pw_or (pt_not (pt_val (pe_callB call_isi (by rfl) mis boot_isinstance (pa_cons (pv 0) (pa_cons (pe_bltn (v := .ty "str") (by rfl) mst (by decide +kernel) rfl) pa_nil))))) (pw_or1 (pt_not (pt_chain op_le op_le pe_int (pe_callB call_len_str (by rfl) ml PySem.boot_len (pa_cons (pv 0) pa_nil)) (pe_globI rfl mMOST_LETTERS)))))) (pss_one (ps_ret pe_bl)) pss_nil)
    (pss_one (ps_ret (pe_callB (cr_all rfl) (by rfl) mal (by decide +kernel) (pa_cons (pe_lc (own := [("letter", 1)]) (g := gName 1) (tt := tYes) (by rfl) scName.nd (pi_str (pv 0)) (blkOk_by (own := [("letter", 1)]) (N := ["value", "letter"]) (sc := defScope sName) (by decide +kernel)) (fun _ _ _ _ _ => (pg_name (i := 1) scName.nd rfl (Or.inl rfl))) (fun _ _ _ _ _ => pts_nil) (fun _ _ _ _ _ => (pe_as (t' := teLetter) (pe_cmpR op_in_sign (pv 1) (pe_globS rfl mLETTERS) (by rfl)) ?c1))) pa_nil))))), ?_⟩
  case c1 =>
    rintro σ H Q ⟨c, e1, h1, h2, q⟩
    refine ⟨_, e1, c, letters, rfl, rfl, ?_⟩
    rw [decide_eq_true (in_letters h1 h2)]
    exact q
  have hl8 := okName_len hx
  have hl1 := okName_pos hx
  have hcs := okName_letters hx
  refine ⟨_, rfl, _, _, _, _, true, rfl, .ty "str", .base (.str x), kit_ty (by decide +kernel), true, rfl, iteF ?_⟩
  refine ⟨_, rfl, x, rfl, sz (by omega), _, _, rfl, rfl, _, rfl, iteYes (by omega) ⟨_, _, rfl, rfl, ?_⟩⟩
  refine ⟨_, rfl, ?_⟩
  rw [decide_eq_true (show (x.length : Int) ≤ 8 by omega)]
  refine iteF ⟨_, rfl, x, rfl, fun D nD => ?_⟩
  refine lc_it walk_str (fun i H' => H' D = some (.lst ((List.replicate i true).map V.bl)) ∧ Same H H') ⟨upd_same, same_up nD⟩ (fun _ _ _ _ => trivial) ?_ ?_
  · rintro i v H1 H2 hi ⟨eD, s'⟩ ⟨rfl, c, hc, rfl⟩
    have hm : c ∈ x.cps.toList := by
      have := Array.mem_of_getElem? hc
      exact Array.mem_toList_iff.mpr this
    obtain ⟨h1, h2⟩ := hcs c hm
    refine ⟨rfl, yes_i ⟨c, rfl, h1, h2, _, eD, small1000 ?_, ?_, fun b o z => by rw [upd_ne (ne_of_none z nD)]; exact s' b o z⟩⟩
    · rw [List.length_map, List.length_replicate]
      have : x.cps.size ≤ 8 := hl8
      omega
    · rw [List.replicate_succ', List.map_append]
      exact upd_same
  · rintro H' ⟨eD, s'⟩
    refine ⟨D, _, rfl, SqL.of eD, ?_⟩
    have : (List.replicate x.cps.size true).all id = true := by simp
    rw [this]
    exact q _ s'
theorem scPlaces : FnScope ["value", "place"] ["value"] (defScope sPlaces) := ⟨rfl, rfl, rfl, by decide +kernel, rfl, by decide +kernel, by decide +kernel⟩
theorem ok_places {f fn fa : Addr} {fd fdn fda : FuncData} {t1 : Tok} (F : Fun K "are_places" "are_places" sPlaces f fd) (mal : mg "all" = none) (ml : mg "len" = none) (mt : mg "tuple" = none) (mis : mg "isinstance" = none) (mMOST_PLACES : mg "MOST_PLACES" = some (.int 4 t1))
    (GN : FnOk P w K mg base CX0 1 fn fdn ["value"] spName) (kN : PySem.W.keepIn K (.ref fn) = true) (bN : Binds K fdn ["value"] []) (mN : mg "is_name" = some (.ref fn))
    (GA : FnOk P w K mg base CX0 1 fa fda ["items"] (spAsc K)) (kA : PySem.W.keepIn K (.ref fa) = true) (bA : Binds K fda ["items"] []) (mA : mg "is_ascending" = some (.ref fa)) :
    FnOk P w K mg base CX0 2 f fd ["value"] spPlaces := by
  refine F.ok scPlaces (fun vs H Q E h => ?_) (fun cdv A outer s H vs Q E hr h => ?_)
  · obtain ⟨p, xs, rfl, _⟩ := h
    rfl
  obtain ⟨p, xs, rfl, e, ⟨hl, hok, hs, hnd⟩, q⟩ := h
  refine ⟨_, (pss_cons (ps_if (PW.pt (pw_or (pt_not (pt_val (pe_callB call_isi (by rfl) mis boot_isinstance (pa_cons (pv 0) (pa_cons (pe_bltn (v := .ty "tuple") (by rfl) mt (by decide +kernel) rfl) pa_nil))))) (pw_or1 (pt_cmpR op_gt (pe_callB call_len_seq (by rfl) ml PySem.boot_len (pa_cons (pv 0) pa_nil)) (pe_globI rfl mMOST_PLACES) (nomark _))))) (pss_one (ps_ret pe_bl)) pss_nil)
    (pss_one (ps_ret (pe_and (pe_callB (cr_all rfl) (by rfl) mal (by decide +kernel) (pa_cons (pe_lc (own := [("place", 1)]) (g := gName 1) (tt := tYes) (by rfl) scPlaces.nd (pi_tup (pv 0)) (blkOk_by (own := [("place", 1)]) (N := ["value", "place"]) (sc := defScope sPlaces) (by decide +kernel)) (fun _ _ _ _ _ => (pg_name (i := 1) scPlaces.nd rfl (Or.inl rfl))) (fun _ _ _ _ _ => pts_nil) (fun _ _ _ _ _ => (pe_call GN hr rfl mN kN bN .nil pass0 (pa_cons (pv 1) pa_nil)))) pa_nil)) (pe_one (pe_call GA hr rfl mA kA bA .nil pass0 (pa_cons (pv 0) pa_nil))))))), ?_⟩
  refine ⟨_, rfl, _, _, _, _, true, rfl, .ty "tuple", .base (.tup e), kit_ty (by decide +kernel), true, rfl, iteF ?_⟩
  refine ⟨_, rfl, p, _, rfl, .inr (SqT.of e), _, _, rfl, rfl, _, rfl, iteNo (by rw [List.length_map]; omega) ?_⟩
  refine ⟨_, rfl, p, rfl, ⟨_, SqT.of e⟩, fun D nD => ?_⟩
  refine lc_tup (K := K) (a := p) (xs := xs.map V.str) (fun i H' => H' D = some (.lst ((List.replicate i true).map V.bl)) ∧ Same H H') ⟨upd_same, same_up nD⟩ (fun i H' _ h => SqT.of (h.2 _ _ e)) ?_ ?_
  · rintro i v H1 hi ⟨eD, s'⟩
    obtain ⟨x, hx, rfl⟩ : ∃ x, x ∈ xs ∧ v = V.str x := by
      have := List.mem_of_getElem? hi
      obtain ⟨x, h1, h2⟩ := List.mem_map.mp this
      exact ⟨x, h1, h2.symm⟩
    refine ⟨rfl, yes_i ⟨_, rfl, x, rfl, hok x hx, fun H2 s2 => ⟨_, s2 _ _ eD, small1000 ?_, ?_, fun b o z => by rw [upd_ne (ne_of_none z nD)]; exact s2 _ _ (s' b o z)⟩⟩⟩
    · have := (List.getElem?_eq_some_iff.mp hi).1
      rw [List.length_map] at this ⊢
      rw [List.length_replicate]
      omega
    · rw [List.replicate_succ', List.map_append]
      exact upd_same
  · rintro H' ⟨eD, s'⟩
    refine ⟨D, _, rfl, SqL.of eD, ?_⟩
    have : (List.replicate (xs.map V.str).length true).all id = true := by simp
    rw [this]
    refine ⟨true, rfl, iteT ⟨_, rfl, p, _, xs.map PyData.str, rfl, SqT.of (s' _ _ e), dpAll_strs xs, by rw [List.length_map]; omega, ?_, fun H2 s2 => q _ (s'.trans s2)⟩⟩
    exact ascD_strs hs hnd
end
end Oo
namespace Oo
open PySem L2 PyProof.Rows
abbrev sFunction : Stmt := top 24
abbrev sFInit : Stmt := inClass sFunction 0
theorem FunD.ok0 {P : Program} {w : World} {K : PySem.W.Frag} {mg : Str → Option Value} {base : Heap} {x qual : Str} {params : Arguments} {body : List Stmt} {scope : Scope} {dvs : List V} {kws : List (Str × V)} {f : Addr} {fd : FuncData} {N ps : List Str} {k : Nat} {sp : Sp} (F : FunD K x qual params body scope dvs kws f fd) (S : FnScope N ps scope) (len : ∀ vs H Q E, sp vs H Q E → vs.length = ps.length)
    (hbody : ∀ (cdv : Value) (A : Around) (outer : List Env) (s : Shared) (H : Hp) (vs : List V) (Q : VK) (E : XK), Room k (A.deeper (envOfC qual scope s.heap.objs.size f cdv)) → sp vs H Q E →
      ∃ t, PSs (cxOf CX0 P w K mg base N qual scope f cdv A outer s H E).nox body t ∧ t { nx := fun _ H' => Q .non H', rt := Q } (start N vs) H) : FnOk P w K mg base CX0 (k + 1) f fd ps sp :=
  L2.FunD.ok F S len fun cdv A outer s H vs Q E hr h => by
    obtain ⟨t, ht, q⟩ := hbody cdv A outer s H vs Q E hr h
    exact ⟨t, ht.nox, q⟩
/-! ### functions -/
structure TxF (K : PySem.W.Frag) (C : Addr) : Prop where
  cl : Cls K C
  nN : NoAttr K C "name"
  nA : NoAttr K C "arguments"
  nR : NoAttr K C "reads"
  nS : NoAttr K C "stores"
/-- a function as an object -/
def FunAt (C : Addr) (H : Hp) (v : V) (fn : Fn) : Prop := ∃ (p dx : Addr) (fs : List (Str × V)) (vr vs : V), v = .ref p ∧ H p = some (.ins C dx fs) ∧ fs.lookup ("name" : Str) = some (.str fn.name) ∧ fs.lookup ("arguments" : Str) = some (.int fn.ar) ∧ fs.lookup ("reads" : Str) = some vr ∧ fs.lookup ("stores" : Str) = some vs ∧ StrsAt H vr fn.rd ∧ StrsAt H vs fn.st
theorem FunAt.keep {C : Addr} {H H' : Hp} {v : V} {fn : Fn} (h : FunAt C H v fn) (s : Same H H') : FunAt C H' v fn := by
  obtain ⟨p, dx, fs, vr, vs, e, h1, h2, h3, h4, h5, h6, h7⟩ := h
  exact ⟨p, dx, fs, vr, vs, e, s _ _ h1, h2, h3, h4, h5, h6.keep (same_t s), h7.keep (same_t s)⟩
/-- all but what stands at p is as it was -/
def But (p : Addr) (H H' : Hp) : Prop := ∀ b o, b ≠ p → H b = some o → H' b = some o
def spFInit (C : Addr) : Sp := fun vs H Q _ => ∃ (p dx : Addr) (fn : Fn) (vr vs' : V), vs = [.ref p, .str fn.name, .int fn.ar, vr, vs'] ∧ H p = some (.ins C dx []) ∧ StrsAt H vr fn.rd ∧ StrsAt H vs' fn.st ∧ FnW fn ∧
  ∀ H', FunAt C H' (.ref p) fn → But p H H' → Q .non H'
theorem plen2 (f g : Str) (u v : V) : (putF f u (putF g v [])).length ≤ 2 := Nat.le_trans (length_putF _ _ _) (Nat.succ_le_succ (length_putF _ _ _))
theorem plen3 (f g h : Str) (u v x : V) : (putF f u (putF g v (putF h x []))).length ≤ 3 := Nat.le_trans (length_putF _ _ _) (Nat.succ_le_succ (plen2 _ _ _ _))
section
variable {P : Program} {w : World} {K : PySem.W.Frag} {mg : Str → Option Value} {base : Heap} {X : Cx}
theorem scFInit : FnScope ["self", "name", "arguments", "reads", "stores"] ["self", "name", "arguments", "reads", "stores"] (defScope sFInit) := ⟨rfl, rfl, rfl, by decide +kernel, rfl, by decide +kernel, by decide +kernel⟩
theorem ok_finit {C f fn fi fl : Addr} {fd fdn fdi fdl : FuncData} {t1 : Tok} {dvs : List V} {kws : List (Str × V)} (F : FunD K "__init__" "Function.__init__" (defArgs sFInit) (defBody sFInit) (defScope sFInit) dvs kws f fd) (T : TxF K C) (mMOST_ARGUMENTS : mg "MOST_ARGUMENTS" = some (.int 3 t1))
    (GN : FnOk P w K mg base CX0 1 fn fdn ["value"] spName) (kN : PySem.W.keepIn K (.ref fn) = true) (bN : Binds K fdn ["value"] []) (mN : mg "is_name" = some (.ref fn))
    (GI : FnOk P w K mg base CX0 1 fi fdi ["value"] spIsInt) (kI : PySem.W.keepIn K (.ref fi) = true) (bI : Binds K fdi ["value"] []) (mI : mg "is_integer" = some (.ref fi))
    (GL : FnOk P w K mg base CX0 2 fl fdl ["value"] spPlaces) (kL : PySem.W.keepIn K (.ref fl) = true) (bL : Binds K fdl ["value"] []) (mL : mg "are_places" = some (.ref fl)) :
    FnOk P w K mg base CX0 3 f fd ["self", "name", "arguments", "reads", "stores"] (spFInit C) := by
  refine FunD.ok0 F scFInit (fun vs H Q E h => ?_) (fun cdv A outer s H vs Q E hr h => ?_)
  · obtain ⟨p, dx, fn, vr, vs', rfl, _⟩ := h
    rfl
  obtain ⟨p, dx, fn, vr, vs', rfl, ep, hR, hS, ⟨w1, w2, w3, w4, w5⟩, q⟩ := h
  have hr1 : Room 1 _ := hr.mono (by decide)
  refine ⟨_, (pss_cons (ps_if (pt_not (pt_val (pe_call GN hr1 rfl mN kN bN .nil pass0 (pa_cons (pv 1) pa_nil)))) (pss_one ps_never) pss_nil)
    (pss_cons (ps_if (PW.pt (pw_or (pt_not (pt_val (pe_call GI hr1 rfl mI kI bI .nil pass0 (pa_cons (pv 2) pa_nil)))) (pw_or1 (pt_not (pt_chain op_le op_le pe_int (pv 2) (pe_globI rfl mMOST_ARGUMENTS)))))) (pss_one ps_never) pss_nil)
    (pss_cons (ps_if (pt_not (pt_val (pe_call GL hr rfl mL kL bL .nil pass0 (pa_cons (pv 3) pa_nil)))) (pss_one ps_never) pss_nil)
    (pss_cons (ps_if (pt_not (pt_val (pe_call GL hr rfl mL kL bL .nil pass0 (pa_cons (pv 4) pa_nil)))) (pss_one ps_never) pss_nil)
    (pss_cons (ps_fld (pv 0) (pv 1) rfl)
    (pss_cons (ps_fld (pv 0) (pv 2) rfl)
    (pss_cons (ps_fld (pv 0) (pv 3) rfl)
    (pss_one (ps_fld (pv 0) (pv 4) rfl))))))))), ?_⟩
  refine ⟨_, rfl, fn.name, rfl, w1, fun H1 s1 => ⟨true, rfl, iteF ?_⟩⟩
  refine ⟨_, rfl, .inl ⟨fn.ar, rfl, true, rfl, iteF ?_⟩⟩
  refine ⟨_, rfl, _, _, rfl, rfl, _, rfl, iteYes w2 ⟨_, _, rfl, rfl, _, rfl, ?_⟩⟩
  rw [decide_eq_true w3]
  refine iteF ?_
  obtain ⟨r, rfl, er⟩ := hR
  obtain ⟨st, rfl, es⟩ := hS
  refine ⟨_, rfl, r, fn.rd, rfl, s1 _ _ er, w4, fun H2 s2 => ⟨true, rfl, iteF ?_⟩⟩
  have s12 := s1.trans s2
  refine ⟨_, rfl, st, fn.st, rfl, s12 _ _ es, w5, fun H3 s3 => ⟨true, rfl, iteF ?_⟩⟩
  have s13 := s12.trans s3
  refine ⟨_, rfl, _, rfl, p, C, dx, _, rfl, s13 _ _ ep, T.cl, T.nN, by simp, ?_⟩
  refine ⟨_, rfl, _, rfl, p, C, dx, _, rfl, upd_same, T.cl, T.nA, by simp [putF], ?_⟩
  refine ⟨_, rfl, _, rfl, p, C, dx, _, rfl, upd_same, T.cl, T.nR, Nat.lt_of_le_of_lt (plen2 _ _ _ _) (by decide), ?_⟩
  refine ⟨_, rfl, _, rfl, p, C, dx, _, rfl, upd_same, T.cl, T.nS, Nat.lt_of_le_of_lt (plen3 _ _ _ _ _ _) (by decide), ?_⟩
  have nr : r ≠ p := fun z => by rw [z] at er; rw [er] at ep; cases ep
  have ns : st ≠ p := fun z => by rw [z] at es; rw [es] at ep; cases ep
  refine q _ ⟨p, dx, _, _, _, rfl, upd_same, ?_, ?_, ?_, ?_, ⟨r, rfl, ?_⟩, ⟨st, rfl, ?_⟩⟩ ?_
  · rw [lookup_putF, if_neg (by decide +kernel), lookup_putF, if_neg (by decide +kernel), lookup_putF, if_neg (by decide +kernel), lookup_putF, if_pos rfl]
  · rw [lookup_putF, if_neg (by decide +kernel), lookup_putF, if_neg (by decide +kernel), lookup_putF, if_pos rfl]
  · rw [lookup_putF, if_neg (by decide +kernel), lookup_putF, if_pos rfl]
  · rw [lookup_putF, if_pos rfl]
  · rw [upd_ne nr, upd_ne nr, upd_ne nr, upd_ne nr]; exact s13 _ _ er
  · rw [upd_ne ns, upd_ne ns, upd_ne ns, upd_ne ns]; exact s13 _ _ es
  · intro b o nb e
    rw [upd_ne nb, upd_ne nb, upd_ne nb, upd_ne nb]; exact s13 _ _ e
end
end Oo
namespace Oo
open PySem L2 PyProof.Rows
abbrev sSame : Stmt := top 25
abbrev pF : List Str := ["self", "name", "arguments", "reads", "stores"]
abbrev kF2 : List Str := ["reads", "stores"]
/-- a new instance and its dict -/
theorem made_same {H : Hp} {C x dx : Addr} (h1 : H x = none) (h2 : H dx = none) : Same H (upd (upd H dx (.own x)) x (.ins C dx [])) := fun b o z => by
  rw [upd_ne (ne_of_none z h1), upd_ne (ne_of_none z h2)]; exact z
theorem but_same {H H1 H' : Hp} {p : Addr} (s : Same H H1) (hp : H p = none) (b : But p H1 H') : Same H H' := fun c o z => b c o (fun e => by rw [e, hp] at z; cases z) (s _ _ z)
def spSame (C : Addr) : Sp := fun vs H Q _ => ∃ v fn, vs = [v] ∧ FunAt C H v fn ∧ FnW fn ∧ ∀ v' H', FunAt C H' v' fn → Same H H' → Q v' H'
section
variable {P : Program} {w : World} {K : PySem.W.Frag} {mg : Str → Option Value} {base : Heap} {X : Cx}
theorem scSame : FnScope ["function"] ["function"] (defScope sSame) := ⟨rfl, rfl, rfl, by decide +kernel, rfl, by decide +kernel, by decide +kernel⟩
theorem ok_same {C f fI : Addr} {fd fdI : FuncData} (F : Fun K "same_function" "same_function" sSame f fd) (T : TxF K C) (MF : Mk K C fI) (mF : mg "Function" = some (.ref C))
    (GI : FnOk P w K mg base CX0 3 fI fdI pF (spFInit C)) (bI : KBn K fdI pF 3 kF2 (fun us ws => us ++ ws) (fun vs zs => vs ++ zs)) :
    FnOk P w K mg base CX0 5 f fd ["function"] (spSame C) := by
  refine F.ok scSame (fun vs H Q E h => ?_) (fun cdv A outer s H vs Q E hr h => ?_)
  · obtain ⟨v, fn, rfl, _⟩ := h
    rfl
  obtain ⟨v, fn, rfl, hf, hw, q⟩ := h
  refine ⟨_, (pss_one (ps_ret (pe_makeK MF GI hr rfl mF bI pass0 (pa_cons (pe_fld (pv 0) rfl) (pa_cons (pe_fld (pv 0) rfl) pa_nil)) (pk_cons (pe_fld (pv 0) rfl) (pk_cons (pe_fld (pv 0) rfl) pk_nil))))), ?_⟩
  obtain ⟨p, dx, fs, vr, vs, rfl, h1, h2, h3, h4, h5, h6, h7⟩ := hf
  refine ⟨_, rfl, p, C, dx, fs, _, rfl, h1, T.cl, T.nN, h2, _, rfl, p, C, dx, fs, _, rfl, h1, T.cl, T.nA, h3, _, rfl, p, C, dx, fs, _, rfl, h1, T.cl, T.nR, h4, _, rfl, p, C, dx, fs, _, rfl, h1, T.cl, T.nS, h5, rfl, rfl, fun x dx' hx hdx hne => ?_⟩
  have s1 := made_same (C := C) hx hdx
  exact ⟨x, dx', fn, vr, vs, rfl, upd_same, h6.keep (same_t s1), h7.keep (same_t s1), hw, fun H' hF hB => ⟨rfl, q _ _ hF (but_same s1 hx hB)⟩⟩
end
end Oo
namespace Oo
open PySem L2 PyProof.Rows LamX StX ClX
abbrev sBook : Stmt := top 26
abbrev sBInit : Stmt := inClass sBook 1
theorem perm_unmap {α β : Type} (f : α → β) {l l' : List β} (p : l.Perm l') : ∀ m' : List α, l' = m'.map f → ∃ m : List α, m.Perm m' ∧ l = m.map f := by
  induction p with
  | nil => intro m' h; exact ⟨m', List.Perm.refl _, h⟩
  | cons x _ ih =>
    intro m' h
    cases m' with
    | nil => cases h
    | cons y r =>
      rw [List.map_cons] at h
      obtain ⟨h1, h2⟩ := List.cons.inj h
      obtain ⟨m, pm, e⟩ := ih r h2
      exact ⟨y :: m, pm.cons y, by rw [List.map_cons, e, h1]⟩
  | swap x y l =>
    intro m' h
    match m', h with
    | a :: b :: r, h =>
      simp only [List.map_cons] at h
      obtain ⟨h1, h2⟩ := List.cons.inj h
      obtain ⟨h2, h3⟩ := List.cons.inj h2
      exact ⟨b :: a :: r, List.Perm.swap _ _ _, by simp [h1, h2, h3]⟩
  | trans _ _ ih1 ih2 =>
    intro m' h
    obtain ⟨m2, p2, e2⟩ := ih2 m' h
    obtain ⟨m1, p1, e1⟩ := ih1 m2 e2
    exact ⟨m1, p1.trans p2, e1⟩
theorem paired_of_mem {α β : Type} {F : α → β → Prop} : ∀ {cs : List (α × β)}, (∀ c ∈ cs, F c.1 c.2) → Paired F (cs.map (·.1)) (cs.map (·.2))
  | [], _ => .nil
  | c :: r, h => .cons (h c List.mem_cons_self) (paired_of_mem fun d hd => h d (List.mem_cons_of_mem _ hd))
theorem paired_zip_mem {α β : Type} {F : α → β → Prop} : ∀ {xs : List α} {ys : List β}, Paired F xs ys → ∀ c ∈ xs.zip ys, F c.1 c.2
  | _, _, .nil, c, h => by cases h
  | _, _, .cons f t, c, h => by
    rw [List.zip_cons_cons] at h
    rcases List.mem_cons.mp h with e | h
    · rw [e]; exact f
    · exact paired_zip_mem t c h
theorem inV_strs (a : Str) (xs : List Str) : inV (.str a) (xs.map V.str) = decide (a ∈ xs) := by
  induction xs with
  | nil => simp [inV]
  | cons x r ih =>
    unfold inV at ih ⊢
    rw [List.map_cons, List.any_cons, ih]
    by_cases h : x = a
    · subst h; simp [eqV]
    · have : ¬ a = x := fun z => h z.symm
      simp [eqV, h, this]
theorem all_flat_strs (xs : List Str) : (xs.map V.str).all flatV = true := by
  induction xs with
  | nil => rfl
  | cons x r ih => rw [List.map_cons, List.all_cons, ih]; rfl
theorem not_tbl_lst {xs : List V} : ∀ ps, HO.lst xs ≠ .tbl ps := fun ps z => by cases z
theorem not_tbl_tup {xs : List V} : ∀ ps, HO.tup xs ≠ .tbl ps := fun ps z => by cases z
theorem not_tbl_ins {C dx : Addr} {fs : List (Str × V)} : ∀ ps, HO.ins C dx fs ≠ .tbl ps := fun ps z => by cases z
theorem StrsAt.keepN {H H' : Hp} {v : V} {xs : List Str} (x : StrsAt H v xs) (h : ExtN H H') : StrsAt H' v xs := x.keep fun q ys z => h _ _ z not_tbl_tup
theorem FunAt.keepN {C : Addr} {H H' : Hp} {v : V} {fn : Fn} (h : FunAt C H v fn) (s : ExtN H H') : FunAt C H' v fn := by
  obtain ⟨p, dx, fs, vr, vs, e, h1, h2, h3, h4, h5, h6, h7⟩ := h
  exact ⟨p, dx, fs, vr, vs, e, s _ _ h1 not_tbl_ins, h2, h3, h4, h5, h6.keepN s, h7.keepN s⟩
theorem same_extN {H H' : Hp} (s : Same H H') : ExtN H H' := ExtN.of s
theorem kitOne_self {K : PySem.W.Frag} {C : Addr} : PySem.W.kitOne K (.ref C) (.ref C) = some true := by
  unfold PySem.W.kitOne
  rw [if_pos (beq_self_eq_true _)]
theorem paired_mapR {α β γ : Type} {F : α → β → Prop} {G : α → γ → Prop} {f : β → γ} (h : ∀ a b, F a b → G a (f b)) : ∀ {xs : List α} {ys : List β}, Paired F xs ys → Paired G xs (ys.map f)
  | _, _, .nil => .nil
  | _, _, .cons a t => .cons (h _ _ a) (paired_mapR h t)
theorem zip_mapR {α β γ : Type} {f : β → γ} : ∀ (xs : List α) (ys : List β), xs.zip (ys.map f) = (xs.zip ys).map fun c => (c.1, f c.2)
  | [], _ => by simp
  | _ :: _, [] => by simp
  | x :: xs, y :: ys => by simp [zip_mapR xs ys]
theorem zipB_snd {α β : Type} : ∀ {xs : List α} {ys : List β}, xs.length = ys.length → (xs.zip ys).map (·.2) = ys
  | [], [], _ => rfl
  | _ :: r, _ :: t, h => by
    simp only [List.zip_cons_cons, List.map_cons]
    rw [zipB_snd (by simpa using h)]
/-- lists apart, all stays -/
theorem FunAt.keepB {C : Addr} {H H' : Hp} {v : V} {fn : Fn} (h : FunAt C H v fn) (s : ∀ b o, H b = some o → (∀ xs, o ≠ .lst xs) → H' b = some o) : FunAt C H' v fn := by
  obtain ⟨p, dx, fs, vr, vs, e, h1, h2, h3, h4, h5, h6, h7⟩ := h
  exact ⟨p, dx, fs, vr, vs, e, s _ _ h1 (fun xs z => by cases z), h2, h3, h4, h5, h6.keep (fun q ys z => s _ _ z fun xs w => by cases w), h7.keep (fun q ys z => s _ _ z fun xs w => by cases w)⟩
theorem FunAt.but {C CB p dx0 : Addr} {H H' : Hp} {v : V} {fn : Fn} (h : FunAt C H v fn) (hp : H p = some (.ins CB dx0 [])) (b : But p H H') : FunAt C H' v fn := by
  obtain ⟨pf, dx, fs, vr, vs, e, h1, h2, h3, h4, h5, h6, h7⟩ := h
  have kt : ∀ q ys, H q = some (.tup ys) → H' q = some (.tup ys) := fun q ys z => b _ _ (fun w => by rw [w, hp] at z; cases z) z
  refine ⟨pf, dx, fs, vr, vs, e, b _ _ (fun w => ?_) h1, h2, h3, h4, h5, h6.keep kt, h7.keep kt⟩
  rw [w, hp] at h1
  cases h1
  cases h2
theorem tabs_but {T : List (Addr × Str)} {CB p dx0 : Addr} {fs : List (Str × V)} {H H' : Hp} (hp : H p = some (.ins CB dx0 fs)) (b : But p H H') (t : Tabs T H) : Tabs T H' := fun q hq => by
  obtain ⟨ps, h1, h2, h3⟩ := t q hq
  refine ⟨ps, b _ _ (fun w => by rw [w, hp] at h1; cases h1) h1, h2, fun pos cv hc => ?_⟩
  obtain ⟨c, e1, e2⟩ := h3 pos cv hc
  exact ⟨c, e1, b _ _ (fun w => by rw [w, hp] at e2; cases e2) e2⟩
/-- a book as an object -/
def BookAt (CF CB : Addr) (H : Hp) (v : V) (fns : List Fn) : Prop := ∃ (b dx : Addr) (fs : List (Str × V)) (tf : Addr) (rows : List V) (fns' : List Fn), v = .ref b ∧ H b = some (.ins CB dx fs) ∧ fs.lookup ("functions" : Str) = some (.ref tf) ∧ H tf = some (.tup rows) ∧ Paired (FunAt CF H) rows fns' ∧ fns'.Perm fns
theorem BookAt.keepN {CF CB : Addr} {H H' : Hp} {v : V} {fns : List Fn} (h : BookAt CF CB H v fns) (s : ExtN H H') : BookAt CF CB H' v fns := by
  obtain ⟨b, dx, fs, tf, rows, fns', e, h1, h2, h3, h4, h5⟩ := h
  exact ⟨b, dx, fs, tf, rows, fns', e, s _ _ h1 not_tbl_ins, h2, s _ _ h3 not_tbl_tup, L2.Paired.mapP h4 fun a b z => z.keepN s, h5⟩
theorem BookAt.keep {CF CB : Addr} {H H' : Hp} {v : V} {fns : List Fn} (h : BookAt CF CB H v fns) (s : Same H H') : BookAt CF CB H' v fns := h.keepN (same_extN s)
structure TxB (K : PySem.W.Frag) (C : Addr) (mc : Value) : Prop where
  cl : Cls K C
  nF : NoAttr K C "functions"
  rd : CRead K C mc
structure TxI (K : PySem.W.Frag) (C : Addr) : Prop where
  ha : PySem.W.findIn K (.ref C) "__class__" = some (some (.builtin "object.__class__"))
  hn : PySem.W.specialIn K (.builtin "object.__class__") "__get__" = some (some (.builtin "getset_descriptor.__get__"))
  htk : PySem.W.takesIn K (.builtin "object.__class__") = some true
  hm : PySem.W.mroIn K C (.type "object") = some true
/-- a def with its code object -/
structure FunC (K : PySem.W.Frag) (x qual : Str) (st : Stmt) (f c : Addr) : Prop where
  ex : ∃ (oc : Value) (od : Option Addr) (kV doc pm : Value) (an : Option Addr) (ct : Value) (osl : Array (Option Value)),
    K.lookup f = some ⟨oc, od, .func (PySem.W.fnOf x qual (defArgs st) (defBody st) (defScope st) .none kV doc pm an (.ref c) ct), osl⟩ ∧ PySem.W.codeIn K (.ref c) qual = true
def spBInit (T : List (Addr × Str)) (CF CB : Addr) : Sp := fun vs H Q _ => ∃ (p dx t : Addr) (rows : List V) (fns : List Fn), vs = [.ref p, .ref t] ∧ H p = some (.ins CB dx []) ∧ H t = some (.tup rows) ∧ Paired (FunAt CF H) rows fns ∧ (∀ f ∈ fns, FnW f) ∧ (fns.map (·.name)).Nodup ∧ fns.length ≤ 6 ∧ Tabs T H ∧
  ∀ H', BookAt CF CB H' (.ref p) fns → Tabs T H' → (∀ b o, b ≠ p → H b = some o → (∀ ps, o ≠ .tbl ps) → H' b = some o) → Q .non H'
def spStar1 (sp : Sp) : Sp := fun vs H Q E => ∃ ws rest, vs = ws ++ rest ∧ ws.length = 1 ∧ rest.length ≤ sizeLine ∧ ∀ p, H p = Option.none → sp (ws ++ [V.ref p]) (upd H p (.tup rest)) Q E
section
variable {P : Program} {w : World} {K : PySem.W.Frag} {mg : Str → Option Value} {base : Heap} {X : Cx}
theorem scBInit : FnScope ["self", "functions", "seen", "at", "function", "ordered", "one"] ["self", "functions"] (defScope sBInit) := ⟨rfl, rfl, rfl, by decide +kernel, rfl, by decide +kernel, by decide +kernel⟩
theorem ok_binit {T : List (Addr × Str)} {CF CB f fs c PT : Addr} {fdS : FuncData} {mc u6 : Value} (F : FunC K "__init__" "Book.__init__" sBInit f c) (TF' : TxF K CF) (TI : TxI K CF) (TB' : TxB K CB mc) (mF : mg "Function" = some (.ref CF)) (mB : mg "Book" = some (.ref CB))
    (cM : CVal K CB mc "MOST" (.int 6) u6) (men : mg "enumerate" = none) (mis : mg "isinstance" = none) (ml : mg "len" = none) (ms : mg "sorted" = none) (mt : mg "tuple" = none)
    (TB : TabB base mg c PT) (hmT : (PT, ("Book.__init__" : Str) ++ ".<locals>." ++ "<lambda>") ∈ T) (huT : ∀ p ∈ T, p.1 = PT → p.2 = ("Book.__init__" : Str) ++ ".<locals>." ++ "<lambda>")
    (GS : FnOk P w K mg base CX0 5 fs fdS ["function"] (spSame CF)) (kS : PySem.W.keepIn K (.ref fs) = true) (bS : Binds K fdS ["function"] []) (mS : mg "same_function" = some (.ref fs)) :
    FnR P w K mg base CX0 6 f (spStar1 (spBInit T CF CB)) := by
  obtain ⟨oc, od, kV, doc, pm, an, ct, osl, lk, hcd⟩ := F.ex
  refine fn_star (ps := ["self"]) (pv := "functions") lk hcd scBInit cxUp_none (fun us rest hl => bind_star1 (B := fun us => bindArgs (PySem.W.fnOf "__init__" "Book.__init__" (defArgs sBInit) (defBody sBInit) (defScope sBInit) .none kV doc pm an (.ref c) ct) ⟨us, []⟩) (fun a => by rfl) (fun a r rs => by rfl) us rest hl) fun A outer s H vs Q E hr h => ?_
  obtain ⟨p, dx, t, rows, fns, rfl, ep, et, pr, hW, hnd, hl6, hT, q⟩ := h
  suffices ∃ t', PSs (cxOf CX0 P w K mg base ["self", "functions", "seen", "at", "function", "ordered", "one"] "Book.__init__" (defScope sBInit) f (.ref c) A outer s H E).nox (defBody sBInit) t' ∧ t' { nx := fun _ H' => Q .non H', rt := Q } (start ["self", "functions", "seen", "at", "function", "ordered", "one"] [V.ref p, V.ref t]) H by
    obtain ⟨t', ht, q⟩ := this
    exact ⟨t', ht.nox, q⟩
  refine ⟨_, (pss_cons (ps_set (i := 2) scBInit.nd rfl (.inl rfl) (pe_lst pa_nil))
    (pss_cons (ps_for PassesOwn.never rfl (pi_enumT (by rfl) men (pa_cons (pv 1) pa_nil)) (pg_tup rfl (pgs_cons (pg_name (i := 3) scBInit.nd rfl (Or.inl rfl)) (pgs_cons (pg_name (i := 4) scBInit.nd rfl (Or.inl rfl)) pgs_nil))) (pss_cons (ps_if (PW.pt (pw_or (pt_not (pt_val (pe_callB call_isi (by rfl) mis boot_isinstance (pa_cons (pv 4) (pa_cons (pe_globD rfl mF) pa_nil))))) (pw_or1 (pt_cmpR op_in_seq (pe_fld (pv 4) rfl) (pv 2) (by rfl))))) (pss_one ps_never) pss_nil)
    (pss_one (ps_expr (pe_bm PySem.F.plainAttrs_list PySem.F.slot_list_append PySem.F.type_list_append mt_append (pv 2) (pa_cons (pe_fld (pv 4) rfl) pa_nil))))))
    (pss_cons (ps_if (pt_cmpR op_gt (pe_callB call_len_seq (by rfl) ml PySem.boot_len (pa_cons (pv 1) pa_nil)) (pe_cval (pe_globD rfl mB)) (nomark _)) (pss_one ps_never) pss_nil)
    (pss_cons (ps_set (i := 5) scBInit.nd rfl (.inl rfl) (pe_sortedF (by rfl) ms (pa_cons (pv 1) pa_nil) hr TB rfl hmT huT rfl rfl rfl rfl rfl (fun _ _ _ _ _ => rfl) TF'.cl TF'.nN rfl (fun _ => rfl)))
    (pss_one (ps_fld (pv 0) (pe_tupleOf (by rfl) mt (pe_lc (own := [("one", 6)]) (g := gName 6) (tt := tYes) (by rfl) scBInit.nd (pi_list (pv 5)) (blkOk_by (own := [("one", 6)]) (N := ["self", "functions", "seen", "at", "function", "ordered", "one"]) (sc := defScope sBInit) (by decide +kernel)) (fun _ _ _ _ _ => (pg_name (i := 6) scBInit.nd rfl (Or.inl rfl))) (fun _ _ _ _ _ => pts_nil) (fun _ _ _ _ _ => (pe_call GS hr rfl mS kS bS .nil pass0 (pa_cons (pv 6) pa_nil))))) rfl)))))), ?_⟩
  have hrl : rows.length = fns.length := pr.length
  refine ⟨sz (by show 0 ≤ 1000; decide), fun sl nsl => ?_⟩
  have s0 := same_up (o := .lst []) nsl
  refine ⟨_, rfl, t, rows, rfl, SqT.of (s0 _ _ et), ?_⟩
  refine for_it walk_enumU (fun i σ H' => ∃ (x y : Option V), σ = [some (.ref p), some (.ref t), some (.ref sl), x, y, none, none] ∧ H' sl = some (.lst (((fns.take i).map (·.name)).map V.str)) ∧ Same H H')
    ⟨none, none, rfl, upd_same, s0⟩ (fun i σ H' _ ⟨_, _, _, _, z⟩ => SqT.of (z _ _ et)) ?_ ?_
  · rintro i x σ H2 H3 hi ⟨x0, y0, rfl, el, s2⟩ ⟨TT, x', y', rfl, nT, rfl, hx, hy⟩
    have sT := same_up (o := .tup [x', y']) nT
    have s3 := s2.trans sT
    obtain ⟨fn, hfn, hf⟩ := paired_get pr hy
    have hil : i < fns.length := (List.getElem?_eq_some_iff.mp hfn).1
    have efn : fns[i] = fn := (List.getElem?_eq_some_iff.mp hfn).2
    obtain ⟨pf, dxf, fsf, vr, vs, rfl, h1, h2, h3, h4, h5, h6, h7⟩ := hf.keep s3
    have el3 := sT _ _ el
    have nin : ¬ fn.name ∈ (fns.take i).map (·.name) := by
      intro hm
      obtain ⟨g, hg, eg⟩ := List.mem_map.mp hm
      obtain ⟨j, hj, ej⟩ := List.getElem_of_mem hg
      rw [List.length_take] at hj
      rw [List.getElem_take] at ej
      have := (List.nodup_iff_pairwise_ne.mp hnd)
      rw [List.pairwise_iff_getElem] at this
      have h9 := this j i (by rw [List.length_map]; omega) (by rw [List.length_map]; omega) (by omega)
      simp only [List.getElem_map] at h9
      rw [ej, efn] at h9
      exact h9 eg
    refine ⟨TT, _, rfl, SqT.of upd_same, rfl, _, _, rfl, _, _, rfl, rfl, ?_⟩
    refine ⟨_, rfl, _, _, _, _, true, rfl, .own CF, .base (.ins h1 TF'.cl TI.ha TI.hn TI.htk TI.hm), kitOne_self, true, rfl, iteF ?_⟩
    refine ⟨_, rfl, pf, CF, dxf, fsf, _, rfl, h1, TF'.cl, TF'.nN, h2, _, rfl, sl, _, rfl, .inl (SqL.of el3), rfl, all_flat_strs _, _, rfl, ?_⟩
    simp only [Bool.false_eq_true, if_false]
    rw [inV_strs, decide_eq_false nin]
    refine iteF ⟨_, rfl, .inl ⟨rfl, _, SqL.of el3⟩, _, rfl, pf, CF, dxf, fsf, _, rfl, h1, TF'.cl, TF'.nN, h2, sl, _, _, rfl, rfl, el3, small1000 ?_, ?_⟩
    · rw [List.length_map, List.length_map, List.length_take]; omega
    · refine ⟨_, _, rfl, ?_, fun b o z => ?_⟩
      · rw [take_succ_get fns i hil, List.map_append, List.map_append, efn]
        exact upd_same
      · rw [upd_ne (ne_of_none z nsl)]
        exact s3 _ _ z
  · rintro σ H2 ⟨x0, y0, rfl, el, s2⟩
    refine ⟨_, rfl, t, rows, rfl, .inr (SqT.of (s2 _ _ et)), CB, mc, _, u6, rfl, TB'.rd, cM, _, _, rfl, rfl, _, rfl, iteNo (by omega) ?_⟩
    have pr2 := L2.Paired.mapP pr fun a b z => z.keep s2
    refine ⟨_, rfl, Tabs.ext hT s2, t, rows, fns.map (·.name), rfl, SqT.of (s2 _ _ et), ?_, by omega, fun H3 bs ql eN T3 nq perm pw => ?_⟩
    · exact paired_mapR (fun a b ⟨pf, dxf, fsf, vr, vs, e, h1, h2, _⟩ => ⟨pf, dxf, fsf, e, h1, h2⟩) pr2
    have ez : rows.zip (fns.map (·.name)) = (rows.zip fns).map fun c => (c.1, c.2.name) := zip_mapR rows fns
    rw [ez] at perm
    obtain ⟨cs, pcs, ecs⟩ := perm_unmap _ perm _ rfl
    have eb1 : bs.map (·.1) = cs.map (·.1) := by rw [ecs, List.map_map]; rfl
    have hpf : (cs.map (·.2)).Perm fns := by
      have := pcs.map (·.2)
      rwa [zipB_snd hrl] at this
    have e23 : ExtN H H3 := (same_extN s2).trans eN
    have prc : Paired (FunAt CF H3) (cs.map (·.1)) (cs.map (·.2)) := paired_of_mem fun c hc => (paired_zip_mem pr c (pcs.mem_iff.mp hc)).keepN e23
    have hcl : cs.length ≤ 6 := by rw [pcs.length_eq, List.length_zip]; omega
    rw [eb1]
    generalize cs.map (·.1) = rs at prc
    generalize cs.map (·.2) = fns' at prc hpf
    have hrs : rs.length ≤ 6 := by rw [prc.length, hpf.length_eq]; exact hl6
    have sq4 := same_up (o := .lst rs) nq
    refine ⟨_, rfl, ql, rfl, ⟨_, SqL.of upd_same⟩, fun D nD => ?_⟩
    refine lc_list (K := K) (a := ql) (xs := rs) (fun i H' => ∃ acc, H' D = some (.lst acc) ∧ Paired (FunAt CF H') acc (fns'.take i) ∧ H' ql = some (.lst rs) ∧ Same H3 H')
      ⟨[], upd_same, .nil, same_up nD _ _ upd_same, sq4.trans (same_up nD)⟩ (fun i H' _ ⟨_, _, _, z, _⟩ => SqL.of z) ?_ ?_
    · rintro i v H5 hi ⟨acc, eD, pa, eq, s5⟩
      obtain ⟨fn, hfn, hf⟩ := paired_get prc hi
      have hil : i < fns'.length := (List.getElem?_eq_some_iff.mp hfn).1
      have efn : fns'[i] = fn := (List.getElem?_eq_some_iff.mp hfn).2
      have hfm : fn ∈ fns' := List.mem_of_getElem? hfn
      refine ⟨rfl, yes_i ⟨_, rfl, v, fn, rfl, hf.keep s5, hW fn (hpf.mem_iff.mp hfm), fun v' H6 hf6 s6 => ?_⟩⟩
      have hacc : acc.length ≤ 6 := by
        rw [pa.length, List.length_take]
        have := prc.length
        omega
      have hD3 : H3 D = none := sq4.free nD
      have ku : ∀ b o, H6 b = some o → b ≠ D → (upd H6 D (.lst (acc ++ [v']))) b = some o := fun b o z n => by rw [upd_ne n]; exact z
      have eD6 := s6 _ _ eD
      have kf : ∀ u g, FunAt CF H6 u g → FunAt CF (upd H6 D (.lst (acc ++ [v']))) u g := fun u g z => z.keepB (fun b o e n1 => ku b o e fun z => by rw [z, eD6] at e; exact n1 _ (Option.some.inj e).symm)
      refine ⟨acc, eD6, small1000 (by omega), acc ++ [v'], upd_same, ?_, ?_, ?_⟩
      · rw [take_succ_get fns' i hil, efn]
        exact paired_append (L2.Paired.mapP pa fun a b z => kf a b (z.keep s6)) (.cons (kf _ _ hf6) .nil)
      · have : ql ≠ D := ne_of_none (o := .lst rs) upd_same nD
        rw [upd_ne this]; exact s6 _ _ eq
      · intro b o z
        rw [upd_ne (ne_of_none z hD3)]; exact s6 _ _ (s5 _ _ z)
    · rintro H5 ⟨acc, eD, pa, eq, s5⟩
      rw [prc.length, List.take_length] at pa
      refine .inl ⟨D, acc, rfl, SqL.of eD, fun tf ntf => ?_⟩
      have s6 := s5.trans (same_up (o := .tup acc) ntf)
      have ep6 := s6 _ _ (e23 _ _ ep not_tbl_ins)
      refine ⟨_, rfl, p, CB, dx, [], rfl, ep6, TB'.cl, TB'.nF, by simp, ?_⟩
      have hbut : But p (upd H5 tf (.tup acc)) (upd (upd H5 tf (.tup acc)) p (.ins CB dx (putF "functions" (.ref tf) []))) := fun b o n z => by rw [upd_ne n]; exact z
      refine q _ ⟨p, dx, _, tf, acc, fns', rfl, upd_same, ?_, ?_, L2.Paired.mapP pa fun a b z => (z.keep (same_up ntf)).but ep6 hbut, hpf⟩ (tabs_but ep6 hbut (Tabs.ext T3 s6)) ?_
      · rw [lookup_putF, if_pos rfl]
      · exact hbut _ _ (fun z => by rw [z] at ntf; rw [s5 _ _ (e23 _ _ ep not_tbl_ins)] at ntf; cases ntf) upd_same
      · intro b o n z nt
        exact hbut b o n (s6 _ _ (e23 _ _ z nt))
end
end Oo
namespace Oo
open PySem L2 PyProof.Rows LamX StX ClX
abbrev sBNames : Stmt := inClass sBook 2
abbrev sBGet : Stmt := inClass sBook 3
abbrev sBCont : Stmt := inClass sBook 4
def teFName (CF : Addr) : TE := fun σ H Q => ∃ v fn, σ[1]? = some (some v) ∧ FunAt CF H v fn ∧ Q (.str fn.name) H
def spBNames (CF CB : Addr) : Sp := fun vs H Q _ => ∃ v fns, vs = [v] ∧ BookAt CF CB H v fns ∧ fns.length ≤ 6 ∧ ∀ (q : Addr) (ns : List Str) (H' : Hp), H' q = some (.tup (ns.map V.str)) → ns.Perm (fns.map (·.name)) → Same H H' → Q (.ref q) H'
def spBCont (CF CB : Addr) : Sp := fun vs H Q _ => ∃ v x fns, vs = [v, .str x] ∧ BookAt CF CB H v fns ∧ fns.length ≤ 6 ∧ ∀ H', Same H H' → Q (.bl (decide (x ∈ fns.map (·.name)))) H'
def spBGet (CF CB : Addr) : Sp := fun vs H Q _ => ∃ v fn fns, vs = [v, .str fn.name] ∧ BookAt CF CB H v fns ∧ fns.length ≤ 6 ∧ fn ∈ fns ∧ (fns.map (·.name)).Nodup ∧ (∀ f ∈ fns, FnW f) ∧ ∀ v' H', FunAt CF H' v' fn → Same H H' → Q v' H'
theorem nodup_name {fns : List Fn} (h : (fns.map (·.name)).Nodup) {f g : Fn} (hf : f ∈ fns) (hg : g ∈ fns) (e : f.name = g.name) : f = g := by
  induction fns with
  | nil => cases hf
  | cons a r ih =>
    rw [List.map_cons, List.nodup_cons] at h
    rcases List.mem_cons.mp hf with e1 | hf'
    · rcases List.mem_cons.mp hg with e2 | hg'
      · rw [e1, e2]
      · exact absurd (show a.name ∈ r.map (·.name) from List.mem_map.mpr ⟨g, hg', by rw [← e, e1]⟩) h.1
    · rcases List.mem_cons.mp hg with e2 | hg'
      · exact absurd (show a.name ∈ r.map (·.name) from List.mem_map.mpr ⟨f, hf', by rw [e, e2]⟩) h.1
      · exact ih h.2 hf' hg'
section
variable {P : Program} {w : World} {K : PySem.W.Frag} {mg : Str → Option Value} {base : Heap} {X : Cx}
theorem scBNames : FnScope ["self", "function"] ["self"] (defScope sBNames) := ⟨rfl, rfl, rfl, by decide +kernel, rfl, by decide +kernel, by decide +kernel⟩
theorem ok_bnames {CF CB f : Addr} {fd : FuncData} {mc : Value} (F : Fun K "names" "Book.names" sBNames f fd) (TF' : TxF K CF) (TB' : TxB K CB mc) (mt : mg "tuple" = none) : FnOk P w K mg base CX0 1 f fd ["self"] (spBNames CF CB) := by
  refine F.ok scBNames (fun vs H Q E h => ?_) (fun cdv A outer s H vs Q E hr h => ?_)
  · obtain ⟨v, fns, rfl, _⟩ := h
    rfl
  obtain ⟨v, fns, rfl, ⟨b, dx, fs, tf, rows, fns', rfl, h1, h2, h3, h4, h5⟩, hl, q⟩ := h
  refine ⟨_, (pss_one (ps_ret (pe_tupleOf (by rfl) mt (pe_lc (own := [("function", 1)]) (g := gName 1) (tt := tYes) (by rfl) scBNames.nd (pi_tup (pe_fld (pv 0) rfl)) (blkOk_by (own := [("function", 1)]) (N := ["self", "function"]) (sc := defScope sBNames) (by decide +kernel)) (fun _ _ _ _ _ => (pg_name (i := 1) scBNames.nd rfl (Or.inl rfl))) (fun _ _ _ _ _ => pts_nil) (fun _ _ _ _ _ => (pe_as (t' := teFName CF) (pe_fld (pv 1) rfl) ?c1)))))), ?_⟩
  case c1 =>
    rintro σ H Q ⟨v, fn, e1, ⟨pf, dxf, fsf, vr, vs, rfl, g1, g2, _⟩, q⟩
    exact ⟨_, e1, pf, CF, dxf, fsf, _, rfl, g1, TF'.cl, TF'.nN, g2, q⟩
  have hrl : rows.length ≤ 6 := by rw [h4.length, h5.length_eq]; exact hl
  refine ⟨_, rfl, b, CB, dx, fs, _, rfl, h1, TB'.cl, TB'.nF, h2, tf, rfl, ⟨_, SqT.of h3⟩, fun D nD => ?_⟩
  refine lc_tup (K := K) (a := tf) (xs := rows) (fun i H' => H' D = some (.lst (((fns'.take i).map (·.name)).map V.str)) ∧ Same H H') ⟨upd_same, same_up nD⟩ (fun i H' _ h => SqT.of (h.2 _ _ h3)) ?_ ?_
  · rintro i v H1 hi ⟨eD, s'⟩
    obtain ⟨fn, hfn, hf⟩ := paired_get h4 hi
    have hil : i < fns'.length := (List.getElem?_eq_some_iff.mp hfn).1
    have efn : fns'[i] = fn := (List.getElem?_eq_some_iff.mp hfn).2
    refine ⟨rfl, yes_i ⟨v, fn, rfl, hf.keep s', _, eD, small1000 ?_, ?_, fun b o z => by rw [upd_ne (ne_of_none z nD)]; exact s' b o z⟩⟩
    · rw [List.length_map, List.length_map, List.length_take]
      have := h4.length
      omega
    · rw [take_succ_get fns' i hil, List.map_append, List.map_append, efn]
      exact upd_same
  · rintro H' ⟨eD, s'⟩
    rw [h4.length, List.take_length] at eD
    refine .inl ⟨D, _, rfl, SqL.of eD, fun q' nq => ?_⟩
    exact q q' (fns'.map (·.name)) _ upd_same (h5.map _) (s'.trans (same_up nq))
theorem scBCont : FnScope ["self", "x"] ["self", "x"] (defScope sBCont) := ⟨rfl, rfl, rfl, by decide +kernel, rfl, by decide +kernel, by decide +kernel⟩
theorem ok_bcont {CF CB f fn pn : Addr} {fd fdn : FuncData} {mc : Value} (F : Fun K "__contains__" "Book.__contains__" sBCont f fd) (TB' : TxB K CB mc) (PN : PropOf K CB "names" pn fn)
    (GN : FnOk P w K mg base CX0 1 fn fdn ["self"] (spBNames CF CB)) (bN : Binds K fdn ["self"] []) : FnOk P w K mg base CX0 3 f fd ["self", "x"] (spBCont CF CB) := by
  refine F.ok scBCont (fun vs H Q E h => ?_) (fun cdv A outer s H vs Q E hr h => ?_)
  · obtain ⟨v, x, fns, rfl, _⟩ := h
    rfl
  obtain ⟨v, x, fns, rfl, hB, hl, q⟩ := h
  refine ⟨_, (pss_one (ps_ret (pe_cmpR op_in_seq (pv 1) (pe_prop (pv 0) TB'.cl PN GN hr bN .nil pass0 rfl) (by rfl)))), ?_⟩
  obtain ⟨b, dx, fs, tf, rows, fns', rfl, h1, h2, h3, h4, h5⟩ := id hB
  refine ⟨_, rfl, _, rfl, b, dx, fs, rfl, h1, _, fns, rfl, hB, hl, fun q' ns H' e pm s' => ?_⟩
  refine ⟨q', _, rfl, .inr (SqT.of e), rfl, all_flat_strs _, ?_⟩
  simp only [Bool.false_eq_true, if_false]
  rw [inV_strs]
  have : decide (x ∈ ns) = decide (x ∈ fns.map (·.name)) := by
    by_cases hx : x ∈ ns
    · rw [decide_eq_true hx, decide_eq_true (pm.mem_iff.mp hx)]
    · rw [decide_eq_false hx, decide_eq_false fun z => hx (pm.mem_iff.mpr z)]
  rw [this]
  exact q _ s'
theorem scBGet : FnScope ["self", "at", "function"] ["self", "at"] (defScope sBGet) := ⟨rfl, rfl, rfl, by decide +kernel, rfl, by decide +kernel, by decide +kernel⟩
theorem ok_bget {CF CB f fs : Addr} {fd fdS : FuncData} {mc : Value} (F : Fun K "__getitem__" "Book.__getitem__" sBGet f fd) (TF' : TxF K CF) (TB' : TxB K CB mc)
    (GS : FnOk P w K mg base CX0 5 fs fdS ["function"] (spSame CF)) (kS : PySem.W.keepIn K (.ref fs) = true) (bS : Binds K fdS ["function"] []) (mS : mg "same_function" = some (.ref fs)) : FnOk P w K mg base CX0 6 f fd ["self", "at"] (spBGet CF CB) := by
  refine F.ok scBGet (fun vs H Q E h => ?_) (fun cdv A outer s H vs Q E hr h => ?_)
  · obtain ⟨v, fn, fns, rfl, _⟩ := h
    rfl
  obtain ⟨v, fn, fns, rfl, ⟨b, dx, fs', tf, rows, fns', rfl, h1, h2, h3, h4, h5⟩, hl, hm, hnd, hW, q⟩ := h
  refine ⟨_, (pss_cons (ps_for PassesOwn.never rfl (pi_tup (pe_fld (pv 0) rfl)) (pg_name (i := 2) scBGet.nd rfl (Or.inl rfl)) (pss_one (ps_if (pt_cmpR op_eq (pe_fld (pv 2) rfl) (pv 1) (nomark _)) (pss_one (ps_ret (pe_call GS hr rfl mS kS bS .nil pass0 (pa_cons (pv 2) pa_nil)))) pss_nil)))
    (pss_one ps_never)), ?_⟩
  refine ⟨_, rfl, b, CB, dx, fs', _, rfl, h1, TB'.cl, TB'.nF, h2, tf, rfl, ⟨_, SqT.of h3⟩, ?_⟩
  refine for_tup (K := K) (a := tf) (xs := rows) (fun i σ H' => ∃ x, σ = [some (.ref b), some (.str fn.name), x] ∧ H' = H ∧ ∀ g ∈ fns'.take i, g.name ≠ fn.name) ⟨none, rfl, rfl, by simp⟩ (fun i σ H' _ ⟨_, _, e, _⟩ => by rw [e]; exact SqT.of h3) ?_ ?_
  · rintro i v σ H1 hi ⟨x, rfl, rfl, hno⟩
    obtain ⟨g, hg, hf⟩ := paired_get h4 hi
    have hil : i < fns'.length := (List.getElem?_eq_some_iff.mp hg).1
    have eg : fns'[i] = g := (List.getElem?_eq_some_iff.mp hg).2
    have hgm : g ∈ fns := h5.mem_iff.mp (List.mem_of_getElem? hg)
    obtain ⟨pf, dxf, fsf, vr, vs, rfl, g1, g2, _⟩ := id hf
    refine ⟨_, rfl, pf, CF, dxf, fsf, _, rfl, g1, TF'.cl, TF'.nN, g2, _, rfl, rfl, _, rfl, ?_⟩
    rw [dec_str]
    by_cases hn : g.name = fn.name
    · have : g = fn := nodup_name hnd hgm hm hn
      subst this
      refine iteYes rfl ⟨_, rfl, _, g, rfl, hf, hW g hgm, fun v' H' a b => q v' H' a b⟩
    · refine iteNo hn ⟨_, rfl, rfl, fun g' hg' => ?_⟩
      rw [take_succ_get fns' i hil, eg] at hg'
      rcases List.mem_append.mp hg' with h | h
      · exact hno g' h
      · rw [List.mem_singleton.mp h]; exact hn
  · rintro σ H1 ⟨x, rfl, rfl, hno⟩
    rw [h4.length, List.take_length] at hno
    exact hno fn (h5.mem_iff.mpr hm) rfl
end
end Oo
namespace Oo
open PySem L2 PyProof.Rows LamX StX ClX
/-! ### d.get(k, x), d written -/
def tKGet2 (K : PySem.W.Frag) (w : World) (td ty tx : TE) : TE := fun σ H Q => td σ H fun x H1 => ∃ a, x = .ref a ∧ (∃ es n, K.lookup a = some ⟨.type "dict", none, .dict es n, #[]⟩ ∧ PySem.W.KeysLit w.params es.toList) ∧ (a == sysModules) = false ∧
  ty σ H1 fun y H2 => tx σ H2 fun z H3 => ∃ k, y = .str k ∧ ((∃ v, KDct K w a k v ∧ Q v H3) ∨ (KMiss K w a k ∧ Q z H3))
theorem pe_kget2 {X : Cx} {o e f : Expr} {apos cpos : Pos} {td ty tx : TE} (ho : PE X o td) (he : PE X e ty) (hf : PE X f tx) (m : M2 X o "get" apos e f cpos) : PE X (.Call (.Attribute o "get" apos) [e, f] [] cpos) (tKGet2 X.K X.w td ty tx) := by
  refine ⟨fun pins s σ H Q I h => ?_⟩
  refine wpAny_Call_method m.base m.few m.line PySem.F.plainAttrs_dict PySem.F.slot_dict_get PySem.F.type_dict_get (thn (ho.run pins s σ H _ I h) fun u s1 ⟨x, H1, I1, rx, a, ex, ⟨es, n, hl, hk⟩, hd, q1⟩ => ?_)
  subst ex
  obtain rfl : u = Value.ref a := rx
  have hm := PySem.W.mapOf_K (prog := X.prog) (w := X.w) I1.kIn hl hk
  refine ⟨hm.typeIs, fun b q => ?_, ?_⟩
  · cases q
    exact ⟨_, I1.kIn _ _ hl, rfl⟩
  rw [m.trees]
  refine Calls.callWith_builtin rfl (Calls.evalArgs_plain (Calls.spliced_cons (thn (he.run pins s1 σ H1 _ I1 q1) fun iv s2 ⟨y, H2, I2, ry, q2⟩ =>
    Calls.spliced_cons (thn (hf.run pins s2 σ H2 _ I2 q2) fun fv s3 ⟨z, H3, I3, rz, k, ey, q3⟩ => Calls.spliced_nil ?_))))
  subst ey
  obtain ⟨t, rfl⟩ := (show ∃ t, iv = Value.str k t from ry)
  have hm3 := PySem.W.mapOf_K (prog := X.prog) (w := X.w) I3.kIn hl hk
  refine call_meetsIn PySem.F.slot_dict_get hm3.typeIs PySem.F.entry_dict_get (PySem.F.args_dict_get_3 _ _ _) (meets_dict_get_default (strKind X.prog X.w) a (strKind_is X.prog X.w k t) hd fv) ⟨_, hm3, ?_⟩
  rcases q3 with ⟨v, ⟨es', n', u0, hl', hk', e', ru⟩, q⟩ | ⟨⟨es', n', hl', hk', low, e'⟩, q⟩
  · rw [PySem.W.find_K hl e']
    exact ⟨v, H3, I3.tok _, ru, q⟩
  · rw [PySem.W.find_K hl e']
    exact ⟨z, H3, I3.tok _, rz, q⟩
/-! ### forms -/
abbrev sForm : Stmt := top 34
abbrev sChange : Stmt := top 35
abbrev sIsCall : Stmt := top 36
abbrev sOps : Stmt := top 37
def kdLen : Kd → Int
  | .read _ => 2 | .store _ => 3 | .step _ _ _ => 4 | .op _ => 4 | .call _ => 3 | .thn => 3 | .and_ => 3 | .or_ => 3 | .cho => 4
def kdFirst : Kd → Int
  | .read _ => 2 | .store _ => 2 | .step _ _ _ => 4 | .op _ => 2 | _ => 1
/-- the tables of the module -/
structure TxE (K : PySem.W.Frag) (w : World) (dL dF aS : Addr) : Prop where
  len : ∀ k : Kd, KDct K w dL k.word (.int (kdLen k))
  low : (dL == sysModules) = false
  fst : ∀ k : Kd, k.isCall = false → KDct K w dF k.word (.int (kdFirst k))
  sgn : ∀ H, SqT K H aS (signs.map V.str)
structure BkW (fns : List Fn) : Prop where
  l : fns.length ≤ 3
  nd : (fns.map (·.name)).Nodup
  ok : ∀ f ∈ fns, FnW f
theorem KitW.bk {ps : List Str} {fns : List Fn} (h : KitW ps fns) : BkW fns := ⟨h.fl, h.fnd, h.fok⟩
def spChange : Sp := fun vs H Q _ => ∃ b, vs = [.int b] ∧ (b = 1 ∨ b = -1) ∧ ∀ H', Same H H' → Q (.bl true) H'
def spIsCall (CF CB : Addr) : Sp := fun vs H Q _ => ∃ vb f q ws fns, vs = [vb, .str f, .ref q] ∧ BookAt CF CB H vb fns ∧ BkW fns ∧ H q = some (.tup ws) ∧ (∃ fn ∈ fns, fn.name = f ∧ fn.ar = (ws.length : Int)) ∧ ∀ H', Same H H' → Q (.bl true) H'
def spForm (CF CB : Addr) : Sp := fun vs H Q _ => ∃ vb v e ps fns, vs = [vb, v] ∧ BookAt CF CB H vb fns ∧ KitW ps fns ∧ InE H e v ∧ ExW ps fns e ∧ ∀ H', Same H H' → Q (.bl true) H'
section
variable {P : Program} {w : World} {K : PySem.W.Frag} {mg : Str → Option Value} {base : Heap} {X : Cx}
theorem scChange : FnScope ["value"] ["value"] (defScope sChange) := ⟨rfl, rfl, rfl, by decide +kernel, rfl, by decide +kernel, by decide +kernel⟩
theorem ok_change {f fi : Addr} {fd fdi : FuncData} (F : Fun K "is_change" "is_change" sChange f fd)
    (GI : FnOk P w K mg base CX0 1 fi fdi ["value"] spIsInt) (kI : PySem.W.keepIn K (.ref fi) = true) (bI : Binds K fdi ["value"] []) (mI : mg "is_integer" = some (.ref fi)) : FnOk P w K mg base CX0 2 f fd ["value"] spChange := by
  refine F.ok scChange (fun vs H Q E h => ?_) (fun cdv A outer s H vs Q E hr h => ?_)
  · obtain ⟨b, rfl, _⟩ := h
    rfl
  obtain ⟨b, rfl, hb, q⟩ := h
  refine ⟨_, (pss_one (ps_ret (pe_and (pe_call GI hr rfl mI kI bI .nil pass0 (pa_cons (pv 0) pa_nil)) (pe_one (pe_cmpR op_in_seq (pv 0) (pe_tup (pa_cons pe_int (pa_cons (pe_un un_neg pe_int) pa_nil))) (by rfl)))))), ?_⟩
  refine ⟨_, rfl, .inl ⟨b, rfl, true, rfl, iteT ?_⟩⟩
  refine ⟨_, rfl, _, rfl, sz (by show 2 ≤ 1000; decide), fun t nt => ⟨t, _, rfl, .inr (SqT.of upd_same), rfl, rfl, ?_⟩⟩
  simp only [Bool.false_eq_true, if_false]
  have : inV (.int b) [.int 1, .int (-1)] = true := by
    rcases hb with rfl | rfl <;> rfl
  rw [this]
  exact q _ (same_up nt)
theorem scIsCall : FnScope ["book", "name", "arguments"] ["book", "name", "arguments"] (defScope sIsCall) := ⟨rfl, rfl, rfl, by decide +kernel, rfl, by decide +kernel, by decide +kernel⟩
theorem ok_iscall {CF CB f fc fg : Addr} {fd fdc fdg : FuncData} (F : Fun K "is_call" "is_call" sIsCall f fd) (TF' : TxF K CF) (mt : mg "tuple" = none) (mis : mg "isinstance" = none) (ml : mg "len" = none)
    (GC : FnOk P w K mg base CX0 3 fc fdc ["self", "x"] (spBCont CF CB)) (DC : Dun K CB "__contains__" fc) (bC : Binds K fdc ["self", "x"] [])
    (GG : FnOk P w K mg base CX0 6 fg fdg ["self", "at"] (spBGet CF CB)) (DG : Dun K CB "__getitem__" fg) (fnG : PySem.W.fnIn K fg = true) (bG : Binds K fdg ["self", "at"] []) : FnOk P w K mg base CX0 8 f fd ["book", "name", "arguments"] (spIsCall CF CB) := by
  refine F.ok scIsCall (fun vs H Q E h => ?_) (fun cdv A outer s H vs Q E hr h => ?_)
  · obtain ⟨vb, f, q, ws, fns, rfl, _⟩ := h
    rfl
  obtain ⟨vb, f', q', ws, fns, rfl, hB, hW, eq, ⟨fn, hfn, rfl, har⟩, q⟩ := h
  have hr3 : Room 3 _ := hr.mono (by decide)
  refine ⟨_, (pss_one (ps_ret (pe_and (pe_cmpR (op_inO GC hr3 DC bC pass0) (pv 1) (pv 0) (by rfl)) (pe_and (pe_callB call_isi (by rfl) mis boot_isinstance (pa_cons (pv 2) (pa_cons (pe_bltn (v := .ty "tuple") (by rfl) mt (by decide +kernel) rfl) pa_nil))) (pe_one (pe_cmpR op_eq (pe_callB call_len_seq (by rfl) ml PySem.boot_len (pa_cons (pv 2) pa_nil)) (pe_fld (pe_ixO GG hr DG fnG bG pass0 (pv 0) (pv 1)) rfl) (nomark _))))))), ?_⟩
  obtain ⟨b, dx, fs, tf, rows, fns', rfl, h1, h2, h3, h4, h5⟩ := id hB
  have hl6 : fns.length ≤ 6 := Nat.le_trans hW.l (by decide)
  refine ⟨_, rfl, _, rfl, b, dx, fs, rfl, h1, _, fn.name, fns, rfl, hB, hl6, fun H1 s1 => ?_⟩
  rw [decide_eq_true (show fn.name ∈ fns.map (·.name) from List.mem_map.mpr ⟨fn, hfn, rfl⟩)]
  refine ⟨true, rfl, true, rfl, iteT ?_⟩
  refine ⟨_, rfl, _, _, _, _, true, rfl, .ty "tuple", .base (.tup (s1 _ _ eq)), kit_ty (by decide +kernel), true, rfl, iteT ?_⟩
  refine ⟨_, rfl, q', ws, rfl, .inr (SqT.of (s1 _ _ eq)), _, rfl, _, rfl, b, dx, fs, rfl, s1 _ _ h1, _, fn, fns, rfl, hB.keep s1, hl6, hfn, hW.nd, hW.ok, fun v' H2 hf s2 => ?_⟩
  obtain ⟨pf, dxf, fsf, vr, vs, rfl, g1, g2, g3, _⟩ := hf
  refine ⟨pf, CF, dxf, fsf, _, rfl, g1, TF'.cl, TF'.nA, g3, rfl, ?_⟩
  rw [har, decide_eq_true rfl]
  exact q _ (s1.trans s2)
end
end Oo
namespace Oo
open PySem L2 PyProof.Rows LamX StX ClX
def Kd.isRSt : Kd → Bool
  | .read _ => true | .store _ => true | _ => false
theorem word_rst (k : Kd) : inV (.str k.word) [.str "read", .str "store"] = k.isRSt := by
  cases k <;> (simp only [Kd.word, Kd.isRSt]; decide +kernel)
theorem inV_when {w : Str} (h : w = "before" ∨ w = "after") : inV (.str w) [.str "before", .str "after"] = true := by
  rcases h with rfl | rfl <;> decide +kernel
theorem InEs.len {H : Hp} {es : List Ex} {vs : List V} (h : InEs H es vs) : vs.length = es.length := h.length
/-- the tuple of a node, its first item apart -/
theorem NodeAt.full {H : Hp} {p : Addr} {k : Kd} {vs : List V} {ps : List Str} {fns : List Fn} (n : NodeAt H p k vs) (h : KdW ps fns k vs.length) : ∃ tl : List V, H p = some (.tup (.str k.word :: tl)) ∧ ((tl.length + 1 : Nat) : Int) = kdLen k := by
  cases k with
  | call f =>
    obtain ⟨q, h1, _⟩ := n
    exact ⟨_, h1, rfl⟩
  | read x => exact match vs, h, n with | [], _, n => ⟨_, n, rfl⟩
  | store x => exact match vs, h, n with | [_], _, n => ⟨_, n, rfl⟩
  | step x b w => exact match vs, h, n with | [], _, n => ⟨_, n, rfl⟩
  | op s => exact match vs, h, n with | [_, _], _, n => ⟨_, n, rfl⟩
  | thn => exact match vs, h, n with | [_, _], _, n => ⟨_, n, rfl⟩
  | and_ => exact match vs, h, n with | [_, _], _, n => ⟨_, n, rfl⟩
  | or_ => exact match vs, h, n with | [_, _], _, n => ⟨_, n, rfl⟩
  | cho => exact match vs, h, n with | [_, _, _], _, n => ⟨_, n, rfl⟩
section
variable {P : Program} {w : World} {K : PySem.W.Frag} {mg : Str → Option Value} {base : Heap} {X : Cx}
theorem scForm : FnScope ["book", "value"] ["book", "value"] (defScope sForm) := ⟨rfl, rfl, rfl, by decide +kernel, rfl, by decide +kernel, by decide +kernel⟩
theorem ok_form {CF CB f fi fn fh fc dL dF aS : Addr} {fd fdi fdn fdh fdc : FuncData} {t1 : Tok} (F : Fun K "is_form" "is_form" sForm f fd) (TE' : TxE K w dL dF aS) (mt : mg "tuple" = none) (mst : mg "str" = none) (mis : mg "isinstance" = none) (ml : mg "len" = none) (mLARGEST : mg "LARGEST" = some (.int 999999 t1)) (mLENGTHS : mg "LENGTHS" = some (.ref dL)) (mSIGNS : mg "SIGNS" = some (.ref aS))
    (GI : FnOk P w K mg base CX0 1 fi fdi ["value"] spIsInt) (kI : PySem.W.keepIn K (.ref fi) = true) (bI : Binds K fdi ["value"] []) (mI : mg "is_integer" = some (.ref fi))
    (GN : FnOk P w K mg base CX0 1 fn fdn ["value"] spName) (kN : PySem.W.keepIn K (.ref fn) = true) (bN : Binds K fdn ["value"] []) (mN : mg "is_name" = some (.ref fn))
    (GH : FnOk P w K mg base CX0 2 fh fdh ["value"] spChange) (kH : PySem.W.keepIn K (.ref fh) = true) (bH : Binds K fdh ["value"] []) (mH : mg "is_change" = some (.ref fh))
    (GC : FnOk P w K mg base CX0 8 fc fdc ["book", "name", "arguments"] (spIsCall CF CB)) (kC : PySem.W.keepIn K (.ref fc) = true) (bC : Binds K fdc ["book", "name", "arguments"] []) (mC : mg "is_call" = some (.ref fc)) :
    FnOk P w K mg base CX0 9 f fd ["book", "value"] (spForm CF CB) := by
  refine F.ok scForm (fun vs H Q E h => ?_) (fun cdv A outer s H vs Q E hr h => ?_)
  · obtain ⟨vb, v, e, ps, fns, rfl, _⟩ := h
    rfl
  obtain ⟨vb, v, e, ps, fns, rfl, hB, kw, ie, ew, q⟩ := h
  have hr1 : Room 1 _ := hr.mono (by decide)
  have hr2 : Room 2 _ := hr.mono (by decide)
  refine ⟨_, (pss_cons (ps_if (pt_val (pe_call GI hr1 rfl mI kI bI .nil pass0 (pa_cons (pv 1) pa_nil))) (pss_one (ps_ret (pe_chain op_le op_le pe_int (pv 1) (pe_globI rfl mLARGEST)))) pss_nil)
    (pss_cons (ps_if (PW.pt (pw_or (pt_not (pt_val (pe_callB call_isi (by rfl) mis boot_isinstance (pa_cons (pv 1) (pa_cons (pe_bltn (v := .ty "tuple") (by rfl) mt (by decide +kernel) rfl) pa_nil))))) (pw_or (pt_cmpR op_eq (pe_callB call_len_seq (by rfl) ml PySem.boot_len (pa_cons (pv 1) pa_nil)) pe_int (nomark _)) (pw_or1 (pt_not (pt_val (pe_callB call_isi (by rfl) mis boot_isinstance (pa_cons (pe_ix ix_tup (pv 1) pe_int (fun _ _ => rfl)) (pa_cons (pe_bltn (v := .ty "str") (by rfl) mst (by decide +kernel) rfl) pa_nil))))))))) (pss_one (ps_ret pe_bl)) pss_nil)
    (pss_cons (ps_if (pt_cmpR op_ne (pe_kget2 (pe_globD rfl mLENGTHS) (pe_ix ix_tup (pv 1) pe_int (fun _ _ => rfl)) pe_int ⟨rfl, rfl, rfl, rfl⟩) (pe_callB call_len_seq (by rfl) ml PySem.boot_len (pa_cons (pv 1) pa_nil)) (nomark _)) (pss_one (ps_ret pe_bl)) pss_nil)
    (pss_cons (ps_if (pt_cmpR op_in_seq (pe_ix ix_tup (pv 1) pe_int (fun _ _ => rfl)) (pe_tup (pa_cons pe_str (pa_cons pe_str pa_nil))) (by rfl)) (pss_one (ps_ret (pe_call GN hr1 rfl mN kN bN .nil pass0 (pa_cons (pe_ix ix_tup (pv 1) pe_int (fun _ _ => rfl)) pa_nil)))) pss_nil)
    (pss_cons (ps_if (pt_cmpR op_eq (pe_ix ix_tup (pv 1) pe_int (fun _ _ => rfl)) pe_str (nomark _)) (pss_one (ps_ret (pe_and (pe_call GN hr1 rfl mN kN bN .nil pass0 (pa_cons (pe_ix ix_tup (pv 1) pe_int (fun _ _ => rfl)) pa_nil)) (pe_and (pe_call GH hr2 rfl mH kH bH .nil pass0 (pa_cons (pe_ix ix_tup (pv 1) pe_int (fun _ _ => rfl)) pa_nil)) (pe_one (pe_cmpR op_in_seq (pe_ix ix_tup (pv 1) pe_int (fun _ _ => rfl)) (pe_tup (pa_cons pe_str (pa_cons pe_str pa_nil))) (by rfl))))))) pss_nil)
    (pss_cons (ps_if (pt_cmpR op_eq (pe_ix ix_tup (pv 1) pe_int (fun _ _ => rfl)) pe_str (nomark _)) (pss_one (ps_ret (pe_cmpR op_in_seq (pe_ix ix_tup (pv 1) pe_int (fun _ _ => rfl)) (pe_globD rfl mSIGNS) (by rfl)))) pss_nil)
    (pss_cons (ps_if (pt_cmpR op_eq (pe_ix ix_tup (pv 1) pe_int (fun _ _ => rfl)) pe_str (nomark _)) (pss_one (ps_ret (pe_call GC hr rfl mC kC bC .nil pass0 (pa_cons (pv 0) (pa_cons (pe_ix ix_tup (pv 1) pe_int (fun _ _ => rfl)) (pa_cons (pe_ix ix_tup (pv 1) pe_int (fun _ _ => rfl)) pa_nil)))))) pss_nil)
    (pss_one (ps_ret pe_bl))))))))), ?_⟩
  cases e with
  | num n =>
    unfold InE at ie
    subst ie
    unfold ExW at ew
    refine ⟨_, rfl, .inl ⟨n, rfl, true, rfl, iteT ?_⟩⟩
    refine ⟨_, rfl, _, _, rfl, rfl, _, rfl, ?_⟩
    rw [decide_eq_true ew.1]
    refine iteT ⟨_, _, rfl, rfl, ?_⟩
    show Q (V.bl (decide (n ≤ 999999))) H
    rw [decide_eq_true ew.2]
    exact q H (Same.refl H)
  | nd k os =>
    unfold InE at ie
    obtain ⟨p, ws, rfl, ios, na⟩ := ie
    unfold ExW at ew
    have hwl := ios.length
    obtain ⟨tl, ht, hlen⟩ := na.full (by rw [hwl]; exact ew.1)
    refine ⟨_, rfl, .inr ⟨p, _, rfl, ht, false, rfl, iteF ?_⟩⟩
    refine ⟨_, rfl, _, _, _, _, true, rfl, .ty "tuple", .base (.tup ht), kit_ty (by decide +kernel), true, rfl, iteF ?_⟩
    refine ⟨_, rfl, p, _, rfl, .inr (SqT.of ht), rfl, _, rfl, iteNo (fun z => by have := V.int.inj z; rw [List.length_cons] at this; omega) ?_⟩
    refine ⟨_, rfl, p, _, _, _, rfl, rfl, SqT.of ht, at0 _ _, _, _, _, _, true, rfl, .ty "str", .base (.str _), kit_ty (by decide +kernel), true, rfl, iteF ?_⟩
    obtain ⟨es, n', u0, hl', hk', e', ru⟩ := TE'.len k
    refine ⟨dL, rfl, ⟨es, n', hl', hk'⟩, TE'.low, _, rfl, p, _, _, _, rfl, rfl, SqT.of ht, at0 _ _, k.word, rfl, .inl ⟨_, TE'.len k, _, rfl, p, _, rfl, .inr (SqT.of ht), rfl, _, rfl, iteNS ?_ ?_⟩⟩
    · rw [List.length_cons, hlen]
    refine ⟨_, rfl, p, _, _, _, rfl, rfl, SqT.of ht, at0 _ _, sz (by show 2 ≤ 1000; decide), fun t1 n1 => ⟨t1, _, rfl, .inr (SqT.of upd_same), rfl, rfl, _, rfl, ?_⟩⟩
    have s1 := same_up (o := .tup [.str "read", .str "store"]) n1
    simp only [Bool.false_eq_true, if_false]
    rw [word_rst]
    have hkw := ew.1
    rw [← hwl] at hkw
    have ht3 := s1 _ _ ht
    have na3 := na.keep (same_t s1)
    have hB3 := hB.keep s1
    cases k with
    | read x =>
      refine iteT ?_
      match ws, hkw, na3 with
      | [], hkw, na3 => exact ⟨_, rfl, p, _, _, _, rfl, rfl, SqT.of na3, at1 _ _ _, x, rfl, kw.pok x hkw, fun H' s' => q H' (s1.trans s')⟩
    | store x =>
      refine iteT ?_
      match ws, hkw, na3 with
      | [v], hkw, na3 => exact ⟨_, rfl, p, _, _, _, rfl, rfl, SqT.of na3, at1 _ _ _, x, rfl, kw.pok x hkw, fun H' s' => q H' (s1.trans s')⟩
    | step x b wh =>
      refine iteF ?_
      refine ⟨_, rfl, p, _, _, _, rfl, rfl, SqT.of ht3, at0 _ _, rfl, _, rfl, iteYes rfl ?_⟩
      match ws, hkw, na3 with
      | [], hkw, na3 =>
        have na4 : (upd H t1 (.tup [.str "read", .str "store"])) p = some (.tup [.str "step", .str x, .int b, .str wh]) := na3
        refine ⟨_, rfl, p, _, _, _, rfl, rfl, SqT.of na4, at1 _ _ _, x, rfl, kw.pok x hkw.1, fun H2 s2 => ⟨true, rfl, iteT ?_⟩⟩
        refine ⟨_, rfl, p, _, _, _, rfl, rfl, SqT.of (s2 _ _ na4), (rfl : atI [V.str "step", .str x, .int b, .str wh] 2 = some (.int b)), b, rfl, hkw.2.1, fun H3 s3 => ⟨true, rfl, iteT ?_⟩⟩
        refine ⟨_, rfl, p, _, _, _, rfl, rfl, SqT.of (s3 _ _ (s2 _ _ na4)), (rfl : atI [V.str "step", .str x, .int b, .str wh] 3 = some (.str wh)), sz (by show 2 ≤ 1000; decide), fun t2 n2 => ⟨t2, _, rfl, .inr (SqT.of upd_same), rfl, rfl, ?_⟩⟩
        simp only [Bool.false_eq_true, if_false]
        rw [inV_when hkw.2.2]
        exact q _ (((s1.trans s2).trans s3).trans (same_up n2))
    | op sg =>
      refine iteF ?_
      refine ⟨_, rfl, p, _, _, _, rfl, rfl, SqT.of ht3, at0 _ _, rfl, _, rfl, iteNo (by simp only [Kd.word]; decide +kernel) ?_⟩
      refine ⟨_, rfl, p, _, _, _, rfl, rfl, SqT.of ht3, at0 _ _, rfl, _, rfl, iteYes rfl ?_⟩
      match ws, hkw, na3 with
      | [_, _], hkw, na3 =>
        refine ⟨_, rfl, p, _, _, _, rfl, rfl, SqT.of na3, at1 _ _ _, aS, _, rfl, .inr (TE'.sgn _), rfl, all_flat_strs _, ?_⟩
        simp only [Bool.false_eq_true, if_false]
        rw [inV_strs, decide_eq_true (show sg ∈ signs from hkw)]
        exact q _ s1
    | call f =>
      refine iteF ?_
      refine ⟨_, rfl, p, _, _, _, rfl, rfl, SqT.of ht3, at0 _ _, rfl, _, rfl, iteNo (by simp only [Kd.word]; decide +kernel) ?_⟩
      refine ⟨_, rfl, p, _, _, _, rfl, rfl, SqT.of ht3, at0 _ _, rfl, _, rfl, iteNo (by simp only [Kd.word]; decide +kernel) ?_⟩
      refine ⟨_, rfl, p, _, _, _, rfl, rfl, SqT.of ht3, at0 _ _, rfl, _, rfl, iteYes rfl ?_⟩
      obtain ⟨qa, h1, h2⟩ := na3
      refine ⟨_, rfl, _, rfl, p, _, _, _, rfl, rfl, SqT.of h1, at1 _ _ _, _, rfl, p, _, _, _, rfl, rfl, SqT.of h1, (rfl : atI [V.str "call", .str f, .ref qa] 2 = some (.ref qa)), vb, f, qa, ws, fns, rfl, hB3, kw.bk, h2, ?_, fun H' s' => q H' (s1.trans s')⟩
      simp only [KdW] at hkw
      exact hkw
    | thn =>
      refine iteF ?_
      refine ⟨_, rfl, p, _, _, _, rfl, rfl, SqT.of ht3, at0 _ _, rfl, _, rfl, iteNo (by simp only [Kd.word]; decide +kernel) ?_⟩
      refine ⟨_, rfl, p, _, _, _, rfl, rfl, SqT.of ht3, at0 _ _, rfl, _, rfl, iteNo (by simp only [Kd.word]; decide +kernel) ?_⟩
      refine ⟨_, rfl, p, _, _, _, rfl, rfl, SqT.of ht3, at0 _ _, rfl, _, rfl, iteNo (by simp only [Kd.word]; decide +kernel) ?_⟩
      exact q _ s1
    | and_ =>
      refine iteF ?_
      refine ⟨_, rfl, p, _, _, _, rfl, rfl, SqT.of ht3, at0 _ _, rfl, _, rfl, iteNo (by simp only [Kd.word]; decide +kernel) ?_⟩
      refine ⟨_, rfl, p, _, _, _, rfl, rfl, SqT.of ht3, at0 _ _, rfl, _, rfl, iteNo (by simp only [Kd.word]; decide +kernel) ?_⟩
      refine ⟨_, rfl, p, _, _, _, rfl, rfl, SqT.of ht3, at0 _ _, rfl, _, rfl, iteNo (by simp only [Kd.word]; decide +kernel) ?_⟩
      exact q _ s1
    | or_ =>
      refine iteF ?_
      refine ⟨_, rfl, p, _, _, _, rfl, rfl, SqT.of ht3, at0 _ _, rfl, _, rfl, iteNo (by simp only [Kd.word]; decide +kernel) ?_⟩
      refine ⟨_, rfl, p, _, _, _, rfl, rfl, SqT.of ht3, at0 _ _, rfl, _, rfl, iteNo (by simp only [Kd.word]; decide +kernel) ?_⟩
      refine ⟨_, rfl, p, _, _, _, rfl, rfl, SqT.of ht3, at0 _ _, rfl, _, rfl, iteNo (by simp only [Kd.word]; decide +kernel) ?_⟩
      exact q _ s1
    | cho =>
      refine iteF ?_
      refine ⟨_, rfl, p, _, _, _, rfl, rfl, SqT.of ht3, at0 _ _, rfl, _, rfl, iteNo (by simp only [Kd.word]; decide +kernel) ?_⟩
      refine ⟨_, rfl, p, _, _, _, rfl, rfl, SqT.of ht3, at0 _ _, rfl, _, rfl, iteNo (by simp only [Kd.word]; decide +kernel) ?_⟩
      refine ⟨_, rfl, p, _, _, _, rfl, rfl, SqT.of ht3, at0 _ _, rfl, _, rfl, iteNo (by simp only [Kd.word]; decide +kernel) ?_⟩
      exact q _ s1
end
end Oo
namespace Oo
open PySem L2 PyProof.Rows LamX StX ClX
theorem cut_head (a r : List V) : cutV (a ++ r) (some (a.length : Int)) none = r := by
  have h : ¬ ((a.length : Int) < 0) := by omega
  unfold cutV
  simp [HT.sIx, h]
theorem Kd.head_len (k : Kd) (h : k.isCall = false) : kdFirst k = (k.head.length : Int) := by
  cases k <;> first | rfl | cases h
theorem NodeAt.plain {H : Hp} {p : Addr} {k : Kd} {vs : List V} (n : NodeAt H p k vs) (h : k.isCall = false) : H p = some (.tup (k.head ++ vs)) := by
  cases k <;> first | exact n | cases h
theorem Kd.head_cons (k : Kd) : ∃ r, k.head = .str k.word :: r := by
  cases k <;> exact ⟨_, rfl⟩
section
variable {P : Program} {w : World} {K : PySem.W.Frag} {mg : Str → Option Value} {base : Heap} {X : Cx}
theorem scOps : FnScope ["node"] ["node"] (defScope sOps) := ⟨rfl, rfl, rfl, by decide +kernel, rfl, by decide +kernel, by decide +kernel⟩
theorem ok_ops {f fi dL dF aS : Addr} {fd fdi : FuncData} (F : Fun K "operands" "operands" sOps f fd) (TE' : TxE K w dL dF aS) (mFIRST_OPERANDS : mg "FIRST_OPERANDS" = some (.ref dF))
    (GI : FnOk P w K mg base CX0 1 fi fdi ["value"] spIsInt) (kI : PySem.W.keepIn K (.ref fi) = true) (bI : Binds K fdi ["value"] []) (mI : mg "is_integer" = some (.ref fi)) : FnOk P w K mg base CX0 2 f fd ["node"] spOperands := by
  refine F.ok scOps (fun vs H Q E h => ?_) (fun cdv A outer s H vs Q E hr h => ?_)
  · obtain ⟨v, e, rfl, _⟩ := h
    rfl
  obtain ⟨v, e, rfl, ie, hw, q⟩ := h
  refine ⟨_, (pss_cons (ps_if (pt_val (pe_call GI hr rfl mI kI bI .nil pass0 (pa_cons (pv 0) pa_nil))) (pss_one (ps_ret (pe_tup pa_nil))) pss_nil)
    (pss_cons (ps_if (pt_cmpR op_eq (pe_ix ix_tup (pv 0) pe_int (fun _ _ => rfl)) pe_str (nomark _)) (pss_one (ps_ret (pe_ix ix_tup (pv 0) pe_int (fun _ _ => rfl)))) pss_nil)
    (pss_one (ps_ret (pe_slice sl_tup (pv 0) (po_some (pe_ix ix_kdict (pe_globD rfl mFIRST_OPERANDS) (pe_ix ix_tup (pv 0) pe_int (fun _ _ => rfl)) (fun _ _ => rfl))) po_none))))), ?_⟩
  cases e with
  | num n =>
    unfold InE at ie
    subst ie
    refine ⟨_, rfl, .inl ⟨n, rfl, true, rfl, iteT ⟨sz (by decide), fun p hp => ?_⟩⟩⟩
    exact q p [] _ upd_same .nil (same_up hp)
  | nd k os =>
    unfold InE at ie
    obtain ⟨p, ws, rfl, ios, na⟩ := ie
    obtain ⟨tl, ht⟩ := na.tup
    refine ⟨_, rfl, .inr ⟨p, _, rfl, ht, false, rfl, iteF ?_⟩⟩
    refine ⟨_, rfl, p, _, _, _, rfl, rfl, SqT.of ht, at0 _ _, rfl, _, rfl, ?_⟩
    rw [word_call]
    cases hc : k.isCall with
    | true =>
      cases k with
      | call f =>
        obtain ⟨qa, h1, h2⟩ := na
        refine iteT ⟨_, rfl, p, _, _, _, rfl, rfl, SqT.of h1, (rfl : atI [V.str "call", .str f, .ref qa] 2 = some (.ref qa)), ?_⟩
        exact q qa ws _ h2 ios (Same.refl _)
      | _ => cases hc
    | false =>
      have na' := na.plain hc
      obtain ⟨r, hr'⟩ := k.head_cons
      refine iteF ⟨_, rfl, _, rfl, p, _, _, _, rfl, rfl, SqT.of ht, at0 _ _, dF, k.word, _, rfl, rfl, TE'.fst k hc, ?_⟩
      refine ⟨_, rfl, p, _, rfl, SqT.of na', ?_, fun t4 n4 => ?_⟩
      · rintro ⟨z, _⟩
        rw [k.head_len hc] at z
        have := HT.sIx_nat (k.head ++ ws).length 0 k.head.length
        have z' := this.symm.trans z
        rw [List.length_append, hr'] at z'
        simp at z'
      · rw [k.head_len hc, cut_head]
        exact q t4 ws _ upd_same (ios.keep (same_t (same_up n4))) (same_up n4)
end
end Oo
namespace Oo
open PySem L2 PyProof.Rows LamX StX ClX
abbrev sNodesOf : Stmt := top 38
/-! ### all nodes of an expression by a list of those that wait -/
def kids : List Ex → List Nat → Nat → List (List Nat × Ex)
  | [], _, _ => []
  | e :: r, p, j => (p ++ [j], e) :: kids r p (j + 1)
theorem kids_len : ∀ (os : List Ex) (p : List Nat) (j : Nat), (kids os p j).length = os.length
  | [], _, _ => rfl
  | _ :: r, p, j => by rw [kids, List.length_cons, List.length_cons, kids_len r p (j + 1)]
theorem kids_append : ∀ (a b : List Ex) (p : List Nat) (j : Nat), kids (a ++ b) p j = kids a p j ++ kids b p (j + a.length)
  | [], b, p, j => by simp [kids]
  | e :: r, b, p, j => by
    show kids (e :: (r ++ b)) p j = _
    simp only [kids, kids_append r b p (j + 1), List.length_cons, List.cons_append]
    congr 3
    omega
theorem kids_snoc (os : List Ex) (p : List Nat) (i : Nat) (h : i < os.length) : kids (os.take (i + 1)) p 0 = kids (os.take i) p 0 ++ [(p ++ [i], os[i])] := by
  have hl : (os.take i).length = i := by rw [List.length_take]; omega
  rw [take_succ_get os i h, kids_append]
  simp [kids, hl]
theorem kids_pre : ∀ (os : List Ex) (p : List Nat) (j : Nat), (kids os p j).flatMap (fun x => x.2.pre x.1) = Ex.pres os p j
  | [], _, _ => by simp [kids, Ex.pres]
  | e :: r, p, j => by simp [kids, Ex.pres, kids_pre r p (j + 1)]
theorem kids_mem : ∀ (os : List Ex) (p : List Nat) (j : Nat), ∀ x ∈ kids os p j, x.2 ∈ os ∧ x.1.length = p.length + 1
  | [], _, _, x, h => by cases h
  | e :: r, p, j, x, h => by
    rw [kids] at h
    rcases List.mem_cons.mp h with rfl | h
    · exact ⟨List.mem_cons_self, by simp⟩
    · obtain ⟨h1, h2⟩ := kids_mem r p (j + 1) x h
      exact ⟨List.mem_cons_of_mem _ h1, h2⟩
theorem depth_mem : ∀ (os : List Ex) (e : Ex), e ∈ os → e.depth ≤ Ex.depths os
  | x :: r, e, h => by
    rcases List.mem_cons.mp h with h | h
    · rw [h]; simp [Ex.depths]; omega
    · have := depth_mem r e h
      simp only [Ex.depths]
      omega
theorem exWs_mem {ps : List Str} {fns : List Fn} : ∀ (os : List Ex) (e : Ex), ExWs ps fns os → e ∈ os → ExW ps fns e
  | x :: r, e, h, hm => by
    unfold ExWs at h
    rcases List.mem_cons.mp hm with e1 | hm
    · rw [e1]; exact h.1
    · exact exWs_mem r e h.2 hm
def nsum (st : List (List Nat × Ex)) : Nat := (st.map fun x => x.2.nodes).sum
theorem nsum_append (a b : List (List Nat × Ex)) : nsum (a ++ b) = nsum a + nsum b := by simp [nsum]
theorem nsum_kids : ∀ (os : List Ex) (p : List Nat) (j : Nat), nsum (kids os p j) = Ex.nodess os
  | [], _, _ => by simp [kids, nsum, Ex.nodess]
  | e :: r, p, j => by
    have := nsum_kids r p (j + 1)
    simp only [nsum] at this
    simp [kids, nsum, Ex.nodess, this]
theorem nsum_rev (a : List (List Nat × Ex)) : nsum a.reverse = nsum a := by simp [nsum, List.sum_reverse]
theorem nodes_pos (e : Ex) : 1 ≤ e.nodes := by
  have := nodes_ops e
  omega
theorem nsum_len : ∀ (a : List (List Nat × Ex)), a.length ≤ nsum a
  | [] => by simp [nsum]
  | x :: r => by
    have := nsum_len r
    have := nodes_pos x.2
    simp only [nsum, List.map_cons, List.sum_cons, List.length_cons] at *
    omega
theorem paired_snoc_inv {α β : Type} {F : α → β → Prop} : ∀ {ys : List β} {y : β} {xs : List α}, Paired F xs (ys ++ [y]) → ∃ xs' x, xs = xs' ++ [x] ∧ Paired F xs' ys ∧ F x y
  | [], y, _, .cons f .nil => ⟨[], _, rfl, .nil, f⟩
  | z :: ys, y, _, .cons f t => by
    obtain ⟨xs', x, e, p, g⟩ := paired_snoc_inv (ys := ys) t
    exact ⟨_ :: xs', x, by rw [e]; rfl, .cons f p, g⟩
theorem paired_reverse {α β : Type} {F : α → β → Prop} : ∀ {xs : List α} {ys : List β}, Paired F xs ys → Paired F xs.reverse ys.reverse
  | _, _, .nil => .nil
  | _, _, .cons f t => by
    rw [List.reverse_cons, List.reverse_cons]
    exact paired_append (paired_reverse t) (.cons f .nil)
def teBelow : TE := fun σ H Q => ∃ (pa : Addr) (i : Nat) (v : V) (p : List Nat) (e : Ex), σ[4]? = some (some (.ref pa)) ∧ σ[7]? = some (some (.int (i : Int))) ∧ σ[8]? = some (some v) ∧ H pa = some (.tup (pv_ p)) ∧ p.length ≤ 100 ∧ InE H e v ∧ ∀ u H', Same H H' → RowN H' u (p ++ [i], e) → Q u H'
def spNodesOf (CF CB : Addr) : Sp := fun vs H Q _ => ∃ (vb v : V) (e : Ex) (ps : List Str) (fns : List Fn), vs = [vb, v] ∧ BookAt CF CB H vb fns ∧ KitW ps fns ∧ InE H e v ∧ ExW ps fns e ∧ e.depth ≤ 80 ∧ e.nodes ≤ 900 ∧
  ∀ (l : Addr) (rows : List V) (H' : Hp), H l = none → H' l = some (.lst rows) → Paired (RowN H') rows (e.pre []) → Same H H' → Q (.ref l) H'
section
variable {P : Program} {w : World} {K : PySem.W.Frag} {mg : Str → Option Value} {base : Heap} {X : Cx}
theorem scNodesOf : FnScope ["book", "value", "rows", "waiting", "path", "node", "below", "at", "operand"] ["book", "value"] (defScope sNodesOf) := ⟨rfl, rfl, rfl, by decide +kernel, rfl, by decide +kernel, by decide +kernel⟩
theorem ok_nodesof {CF CB f ff fp : Addr} {fd fdf fdp : FuncData} (F : Fun K "nodes_of" "nodes_of" sNodesOf f fd) (men : mg "enumerate" = none) (ml : mg "len" = none)
    (GF : FnOk P w K mg base CX0 9 ff fdf ["book", "value"] (spForm CF CB)) (kF : PySem.W.keepIn K (.ref ff) = true) (bF : Binds K fdf ["book", "value"] []) (mF : mg "is_form" = some (.ref ff))
    (GP : FnOk P w K mg base CX0 2 fp fdp ["node"] spOperands) (kP : PySem.W.keepIn K (.ref fp) = true) (bP : Binds K fdp ["node"] []) (mP : mg "operands" = some (.ref fp)) :
    FnOk P w K mg base CX0 10 f fd ["book", "value"] (spNodesOf CF CB) := by
  refine F.ok scNodesOf (fun vs H Q E h => ?_) (fun cdv A outer s H vs Q E hr h => ?_)
  · obtain ⟨vb, v, e, ps, fns, rfl, _⟩ := h
    rfl
  obtain ⟨vb, v, e, ps, fns, rfl, hB, kw, ie, ew, hd, hn, q⟩ := h
  have hr2 : Room 2 _ := hr.mono (by decide)
  refine ⟨_, (pss_cons (ps_set (i := 2) scNodesOf.nd rfl (.inl rfl) (pe_lst pa_nil))
    (pss_cons (ps_set (i := 3) scNodesOf.nd rfl (.inl rfl) (pe_lst (pa_cons (pe_tup (pa_cons (pe_tup pa_nil) (pa_cons (pv 1) pa_nil))) pa_nil)))
    (pss_cons (ps_while PassesOwn.never (pt_cmpR op_gt (pe_callB call_len_seq (by rfl) ml PySem.boot_len (pa_cons (pv 3) pa_nil)) pe_int (nomark _)) (pss_cons (ps_asg (pe_bm0 PySem.F.plainAttrs_list PySem.F.slot_list_pop PySem.F.type_list_pop mt_pop (pv 3)) (pg_tup rfl (pgs_cons (pg_name (i := 4) scNodesOf.nd rfl (Or.inr rfl)) (pgs_cons (pg_name (i := 5) scNodesOf.nd rfl (Or.inl rfl)) pgs_nil))))
    (pss_cons (ps_if (pt_not (pt_val (pe_call GF hr rfl mF kF bF .nil pass0 (pa_cons (pv 0) (pa_cons (pv 5) pa_nil))))) (pss_one ps_never) pss_nil)
    (pss_cons (ps_expr (pe_bm PySem.F.plainAttrs_list PySem.F.slot_list_append PySem.F.type_list_append mt_append (pv 2) (pa_cons (pe_tup (pa_cons (pv 4) (pa_cons (pv 5) pa_nil))) pa_nil)))
    (pss_cons (ps_setLc (i := 6) (own := [("at", 7), ("operand", 8)]) (g := gTup K 2 (gCons (gName 7) (gCons (gName 8) gNil))) (tt := tYes) (by rfl) scNodesOf.nd rfl rfl (sw_true rfl rfl rfl (by decide +kernel)) (pi_enumT (by rfl) men (pa_cons (pe_call GP hr2 rfl mP kP bP .nil pass0 (pa_cons (pv 5) pa_nil)) pa_nil)) (blkOk_by (own := [("at", 7), ("operand", 8)]) (N := ["book", "value", "rows", "waiting", "path", "node", "below", "at", "operand"]) (sc := defScope sNodesOf) (by decide +kernel)) (fun _ _ _ _ _ => (pg_tup rfl (pgs_cons (pg_name (i := 7) scNodesOf.nd rfl (Or.inl rfl)) (pgs_cons (pg_name (i := 8) scNodesOf.nd rfl (Or.inl rfl)) pgs_nil)))) (fun _ _ _ _ _ => pts_nil) (fun _ _ _ _ _ => (pe_as (t' := teBelow) (pe_tup (pa_cons (pe_tup (pa_star (pv 4) (pa_cons (pv 7) pa_nil))) (pa_cons (pv 8) pa_nil))) ?c1)))
    (pss_one (ps_expr (pe_bm PySem.F.plainAttrs_list PySem.F.slot_list_extend PySem.F.type_list_extend mt_extend (pv 3) (pa_cons (pe_revL (pv 6)) pa_nil)))))))))
    (pss_one (ps_ret (pv 2)))))), ?_⟩
  case c1 =>
    rintro σ H Q ⟨pa, i, v, p, e, e4, e7, e8, epa, hpl, ie, q⟩
    refine ⟨_, e4, pa, _, rfl, .inl (SqT.of epa), _, e7, sz (by simp [pv_]; omega), fun t1 n1 => ⟨_, e8, sz (by show 2 ≤ 1000; decide), fun t2 n2 => ?_⟩⟩
    have s1 := same_up (o := .tup (pv_ p ++ [V.int (i : Int)])) n1
    have s2 := same_up (o := .tup [V.ref t1, v]) n2
    refine q (.ref t2) _ (s1.trans s2) ⟨t2, _, _, rfl, upd_same, ⟨t1, rfl, s2 _ _ ?_⟩, ie.keep (same_t (s1.trans s2))⟩
    rw [upd_same]
    simp [pv_]
  refine ⟨sz (by show 0 ≤ 1000; decide), fun lr nlr => ⟨sz (by show 0 ≤ 1000; decide), fun t0 n0 => ⟨_, rfl, sz (by show 2 ≤ 1000; decide), fun t1 n1 => ⟨sz (by show 1 ≤ 1000; decide), fun lw nlw => ?_⟩⟩⟩⟩
  have sr := same_up (o := .lst []) nlr
  have sv0 := same_up (o := .tup []) n0
  have sv1 := same_up (o := .tup [V.ref t0, v]) n1
  have sw := same_up (o := .lst [V.ref t1]) nlw
  have sA := ((sr.trans sv0).trans sv1).trans sw
  have hlw : H lw = none := ((sr.trans sv0).trans sv1).free nlw
  have nrw : lr ≠ lw := ne_of_none (sv1 _ _ (sv0 _ _ upd_same)) nlw
  refine ⟨fun m σ H' => ∃ (xp xn xb : Option V) (rr ww : List V) (rs st : List (List Nat × Ex)), σ = [some vb, some v, some (.ref lr), some (.ref lw), xp, xn, xb, none, none] ∧ m = nsum st ∧ H' lr = some (.lst rr) ∧ Paired (RowN H') rr rs ∧ H' lw = some (.lst ww) ∧ Paired (RowN H') ww st ∧
    rs ++ (st.reverse.flatMap fun x => x.2.pre x.1) = e.pre [] ∧ (∀ x ∈ st, ExW ps fns x.2 ∧ x.1.length + x.2.depth ≤ 90) ∧ Same H H',
    ⟨_, none, none, none, [], [.ref t1], [], [([], e)], rfl, rfl, sw _ _ (sv1 _ _ (sv0 _ _ upd_same)), .nil, upd_same, ?_, ?_, ?_, sA⟩, ?_⟩
  · exact .cons ⟨t1, _, _, rfl, sw _ _ upd_same, ⟨t0, rfl, sw _ _ (sv1 _ _ upd_same)⟩, ie.keep (same_t sA)⟩ .nil
  · simp
  · intro x hx
    rw [List.mem_singleton.mp hx]
    exact ⟨ew, by simp; omega⟩
  rintro m σ H1 ⟨xp, xn, xb, rr, ww, rs, st, rfl, rfl, er, pr, ew1, pw, hpre, hok, s1⟩
  have hsum : rs.length + nsum st = e.nodes := by
    have := congrArg List.length hpre
    rw [List.length_append, pre_len] at this
    rw [← this]
    congr 1
    rw [List.length_flatMap]
    have h2 : (st.reverse.map fun x => (x.2.pre x.1).length) = st.reverse.map fun x => x.2.nodes := by
      congr 1; funext x; exact pre_len _ _
    rw [h2]
    exact (nsum_rev st).symm
  have hww : ww.length = st.length := pw.length
  have hst := nsum_len st
  refine ⟨_, rfl, lw, _, rfl, .inl (SqL.of ew1), _, _, rfl, rfl, _, rfl, ?_⟩
  rcases List.eq_nil_or_concat st with rfl | ⟨st', x, rfl⟩
  · have : ww = [] := List.eq_nil_of_length_eq_zero hww
    subst this
    refine iteNo (by simp) ?_
    simp only [List.reverse_nil, List.flatMap_nil, List.append_nil] at hpre
    rw [hpre] at pr
    exact ⟨_, rfl, q lr rr H1 nlr er pr s1⟩
  obtain ⟨p, ex⟩ := x
  rw [List.concat_eq_append] at *
  obtain ⟨ww', u, rfl, pw', ru⟩ := paired_snoc_inv pw
  refine iteYes (by rw [List.length_append, List.length_singleton]; omega) ?_
  obtain ⟨hx1, hx2⟩ := hok (p, ex) (List.mem_append_right _ List.mem_cons_self)
  have hsum2 : nsum (st' ++ [(p, ex)]) = nsum st' + ex.nodes := by rw [nsum_append]; simp [nsum]
  have hnx := nodes_ops ex
  refine ⟨fun σ' H' => ∃ m', m' < nsum (st' ++ [(p, ex)]) ∧ ∃ (xp xn xb : Option V) (rr ww : List V) (rs st : List (List Nat × Ex)), σ' = [some vb, some v, some (.ref lr), some (.ref lw), xp, xn, xb, none, none] ∧ m' = nsum st ∧ H' lr = some (.lst rr) ∧ Paired (RowN H') rr rs ∧ H' lw = some (.lst ww) ∧ Paired (RowN H') ww st ∧
    rs ++ (st.reverse.flatMap fun x => x.2.pre x.1) = e.pre [] ∧ (∀ x ∈ st, ExW ps fns x.2 ∧ x.1.length + x.2.depth ≤ 90) ∧ Same H H', fun σ' H' h => h, ?_⟩
  -- pop
  refine ⟨_, rfl, .inl ⟨rfl, _, SqL.of ew1⟩, lw, _, u, rfl, rfl, ew1, by simp, ?_⟩
  rw [List.dropLast_concat]
  have ku2 : ∀ b o, b ≠ lw → H1 b = some o → (upd H1 lw (.lst ww')) b = some o := fun b o n z => by rw [upd_ne n]; exact z
  have kt2 : ∀ b xs, H1 b = some (.tup xs) → (upd H1 lw (.lst ww')) b = some (.tup xs) := fun b xs z => ku2 b _ (fun w => by rw [w, ew1] at z; cases z) z
  have s2 : Same H (upd H1 lw (.lst ww')) := fun b o z => ku2 b o (ne_of_none z hlw) (s1 _ _ z)
  obtain ⟨qu, vp, vx, rfl, equ, hp, ix⟩ := ru.keep kt2
  have er2 := ku2 _ _ nrw er
  obtain ⟨pa, rfl, epa⟩ := id hp
  refine ⟨qu, _, rfl, SqT.of equ, rfl, _, _, rfl, _, _, rfl, rfl, ?_⟩
  refine ⟨_, rfl, _, rfl, vb, vx, ex, ps, fns, rfl, hB.keep s2, kw, ix, hx1, fun H3 s3 => ⟨true, rfl, iteF ?_⟩⟩
  have s23 := s2.trans s3
  have er3 := s3 _ _ er2
  have hrl : rr.length = rs.length := pr.length
  -- append
  refine ⟨_, rfl, .inl ⟨rfl, _, SqL.of er3⟩, _, rfl, _, rfl, sz (by show 2 ≤ 1000; decide), fun tr ntr => ?_⟩
  have s4 := same_up (o := .tup [V.ref pa, vx]) ntr
  refine ⟨lr, rr, _, rfl, rfl, s4 _ _ er3, small1000 (by omega), ?_⟩
  have s34 := s3.trans s4
  have kt5 : ∀ b xs, (upd H3 tr (.tup [V.ref pa, vx])) b = some (.tup xs) → (upd (upd H3 tr (.tup [V.ref pa, vx])) lr (.lst (rr ++ [V.ref tr]))) b = some (.tup xs) := fun b xs z => by
    rw [upd_ne (fun w => by rw [w, s4 _ _ er3] at z; cases z)]; exact z
  have s5 : Same H (upd (upd H3 tr (.tup [V.ref pa, vx])) lr (.lst (rr ++ [V.ref tr]))) := fun b o z => by
    rw [upd_ne (ne_of_none z nlr)]; exact s4 _ _ (s23 _ _ z)
  have elw5 : (upd (upd H3 tr (.tup [V.ref pa, vx])) lr (.lst (rr ++ [V.ref tr]))) lw = some (.lst ww') := by
    rw [upd_ne (Ne.symm nrw)]; exact s34 _ _ upd_same
  have elr5 : (upd (upd H3 tr (.tup [V.ref pa, vx])) lr (.lst (rr ++ [V.ref tr]))) lr = some (.lst (rr ++ [V.ref tr])) := upd_same
  have ku15 : ∀ b xs, H1 b = some (.tup xs) → (upd (upd H3 tr (.tup [V.ref pa, vx])) lr (.lst (rr ++ [V.ref tr]))) b = some (.tup xs) := fun b xs z => kt5 _ _ (s34 _ _ (kt2 _ _ z))
  have ix5 : InE (upd (upd H3 tr (.tup [V.ref pa, vx])) lr (.lst (rr ++ [V.ref tr]))) ex vx := (ix.keep (same_t s34)).keep kt5
  have epa5 := kt5 _ _ (s34 _ _ epa)
  have etr5 := kt5 tr _ upd_same
  have prr : Paired (RowN (upd (upd H3 tr (.tup [V.ref pa, vx])) lr (.lst (rr ++ [V.ref tr])))) (rr ++ [V.ref tr]) (rs ++ [(p, ex)]) :=
    paired_append (L2.Paired.mapP pr fun a b z => z.keep ku15) (.cons ⟨tr, _, _, rfl, etr5, ⟨pa, rfl, epa5⟩, ix5⟩ .nil)
  have pww := L2.Paired.mapP pw' fun a b (z : RowN H1 a b) => z.keep ku15
  generalize (upd (upd H3 tr (.tup [V.ref pa, vx])) lr (.lst (rr ++ [V.ref tr]))) = H5 at kt5 s5 elw5 elr5 ku15 ix5 epa5 etr5 prr pww ⊢
  have sh := ExW.shp _ hx1
  refine ⟨_, rfl, vx, ex, rfl, ix5, sh.rs, fun po ws1 H6 eo io s6 => ⟨po, ws1, rfl, SqT.of eo, fun D nD => ?_⟩⟩
  have hnw : ws1.length = ex.ops.length := io.length
  have sD := same_up (o := .lst []) nD
  have hx3 : p.length + ex.depth ≤ 90 := hx2
  refine lc_it walk_enumU (fun i H' => ∃ acc, H' D = some (.lst acc) ∧ Paired (RowN H') acc (kids (ex.ops.take i) p 0) ∧ H' po = some (.tup ws1) ∧ InEs H' ex.ops ws1 ∧ Same H6 H')
    ⟨[], upd_same, by simp only [List.take_zero, kids]; exact .nil, same_up nD _ _ eo, io.keep (same_t sD), sD⟩ (fun i H' _ ⟨_, _, _, z, _⟩ => SqT.of z) ?_ ?_
  · rintro i x H7 H8 hi ⟨acc, eD, pa7, eo7, io7, s7⟩ ⟨T, x', y', rfl, nT, rfl, hx, hy⟩
    have hx' : x' = .int (i : Int) := (Option.some.inj hx).symm
    subst hx'
    have hio : i < ex.ops.length := by omega
    obtain ⟨v', hv, iv⟩ := io7.get i hio
    have : y' = v' := Option.some.inj (hy.symm.trans hv)
    subst this
    have sT := same_up (o := .tup [V.int (i : Int), y']) nT
    refine ⟨T, _, rfl, SqT.of upd_same, rfl, _, _, rfl, _, _, rfl, rfl, rfl, yes_i ⟨pa, i, y', p, ex.ops[i], rfl, rfl, rfl, sT _ _ (s7 _ _ (s6 _ _ epa5)), by omega, iv.keep (same_t sT), fun u H9 s9 ru => ?_⟩⟩
    have hacc : acc.length ≤ 900 := by
      rw [pa7.length, kids_len, List.length_take]
      have := nodess_ge ex.ops
      omega
    have s79 := sT.trans s9
    have eD9 := s79 _ _ eD
    have kt9 : ∀ b xs, H9 b = some (.tup xs) → (upd H9 D (.lst (acc ++ [u]))) b = some (.tup xs) := fun b xs z => by
      rw [upd_ne (fun w => by rw [w, eD9] at z; cases z)]; exact z
    refine ⟨acc, eD9, small1000 (by omega), acc ++ [u], upd_same, ?_, kt9 _ _ (s79 _ _ eo7), (io7.keep (same_t s79)).keep kt9, fun b o z => ?_⟩
    · rw [kids_snoc _ _ _ hio]
      exact paired_append (L2.Paired.mapP pa7 fun a b z => (z.keep (same_t s79)).keep kt9) (.cons (ru.keep kt9) .nil)
    · rw [upd_ne (ne_of_none z nD)]
      exact s79 _ _ (s7 _ _ z)
  · rintro H7 ⟨acc, eD, pa7, eo7, io7, s7⟩
    rw [hnw, List.take_length] at pa7
    have s67 := s6.trans s7
    have elw7 := s67 _ _ elw5
    have hacc : acc.length = ex.ops.length := by rw [pa7.length, kids_len]
    have hops := nodess_ge ex.ops
    refine ⟨_, rfl, .inl ⟨rfl, _, SqL.of elw7⟩, _, rfl, D, acc, rfl, SqL.of eD, fun r nr => ?_⟩
    have s8 := same_up (o := .lst acc.reverse) nr
    have hwl : ww'.length = st'.length := pw'.length
    have hsl := nsum_len st'
    refine ⟨lw, r, ww', acc.reverse, rfl, rfl, s8 _ _ elw7, upd_same, sz (by rw [List.length_reverse]; omega), ?_⟩
    have s58 := s67.trans s8
    have kt10 : ∀ b xs, H5 b = some (.tup xs) → (upd (upd H7 r (.lst acc.reverse)) lw (.lst (ww' ++ acc.reverse))) b = some (.tup xs) := fun b xs z => by
      rw [upd_ne (fun w => by rw [w, elw5] at z; cases z)]; exact s58 _ _ z
    have kt78 : ∀ b xs, H7 b = some (.tup xs) → (upd (upd H7 r (.lst acc.reverse)) lw (.lst (ww' ++ acc.reverse))) b = some (.tup xs) := fun b xs z => by
      rw [upd_ne (fun w => by rw [w, elw7] at z; cases z)]; exact s8 _ _ z
    refine ⟨nsum (st' ++ (kids ex.ops p 0).reverse), ?_, _, _, _, rr ++ [V.ref tr], ww' ++ acc.reverse, rs ++ [(p, ex)], st' ++ (kids ex.ops p 0).reverse, rfl, rfl, ?_, L2.Paired.mapP prr fun a b z => z.keep kt10, upd_same, ?_, ?_, ?_, ?_⟩
    · rw [hsum2, nsum_append, nsum_rev, nsum_kids]
      omega
    · rw [upd_ne nrw]; exact s58 _ _ elr5
    · exact paired_append (L2.Paired.mapP pww fun a b z => z.keep kt10) (L2.Paired.mapP (paired_reverse pa7) fun a b z => z.keep kt78)
    · rw [← hpre]
      simp only [List.reverse_append, List.reverse_reverse, List.flatMap_append, kids_pre, List.reverse_cons, List.reverse_nil, List.nil_append, List.flatMap_cons, List.flatMap_nil, List.append_nil, List.append_assoc]
      rw [Ex.pre_eq ex p]
      simp
    · intro x hx
      rcases List.mem_append.mp hx with h | h
      · exact hok x (List.mem_append_left _ h)
      · obtain ⟨h1, h2⟩ := kids_mem _ _ _ x (List.mem_reverse.mp h)
        have h3 := exWs_mem _ _ hx1.ops h1
        refine ⟨h3, ?_⟩
        have h4 : x.2.depth + 1 ≤ ex.depth := by
          cases ex with
          | num n => cases h1
          | nd k os =>
            have := depth_mem os x.2 h1
            have e5 : Ex.depth (.nd k os) = 1 + Ex.depths os := by simp [Ex.depth]
            omega
        omega
    · intro b o z
      rw [upd_ne (ne_of_none z hlw)]
      exact s58 _ _ (s5 _ _ z)
end
end Oo
namespace Oo
open PySem L2 PyProof.Rows LamX StX ClX
abbrev sNodeAt : Stmt := top 39
abbrev sIsOpen : Stmt := top 40
abbrev sIsOpenPath : Stmt := top 42
abbrev sArePoints : Stmt := top 43
abbrev sOwn : Stmt := top 44
/-! ### the node at a path -/
def Ex.at_ : Ex → List Nat → Option Ex
  | e, [] => some e
  | e, i :: p => (e.ops[i]?).bind fun x => x.at_ p
theorem at_snoc : ∀ (p : List Nat) (e e' : Ex) (i : Nat), e.at_ p = some e' → e.at_ (p ++ [i]) = e'.ops[i]?
  | [], e, e', i, h => by
    simp only [Ex.at_] at h
    cases h
    show (e.ops[i]?).bind (fun x => x.at_ []) = _
    cases e.ops[i]? <;> rfl
  | j :: p, e, e', i, h => by
    show (e.ops[j]?).bind (fun x => x.at_ (p ++ [i])) = _
    have h' : (e.ops[j]?).bind (fun x => x.at_ p) = some e' := h
    cases hx : e.ops[j]? with
    | none => rw [hx] at h'; cases h'
    | some x =>
      rw [hx] at h'
      exact at_snoc p x e' i h'
mutual
theorem pre_at : ∀ (e : Ex) (p : List Nat), ∀ x ∈ e.pre p, ∃ q, x.1 = p ++ q ∧ e.at_ q = some x.2
  | .num n, p, x, h => by
    simp only [Ex.pre, List.mem_singleton] at h
    rw [h]
    exact ⟨[], by simp, by simp [Ex.at_]⟩
  | .nd k os, p, x, h => by
    simp only [Ex.pre, List.mem_cons] at h
    rcases h with h | h
    · rw [h]
      exact ⟨[], by simp, by simp [Ex.at_]⟩
    · obtain ⟨i, q, e1, e2⟩ := pres_at os p 0 x h
      refine ⟨i :: q, by simpa using e1, ?_⟩
      show ((Ex.nd k os).ops[i]?).bind (fun y => y.at_ q) = some x.2
      simpa [Ex.ops] using e2
theorem pres_at : ∀ (os : List Ex) (p : List Nat) (j : Nat), ∀ x ∈ Ex.pres os p j, ∃ i q, x.1 = p ++ (j + i) :: q ∧ (os[i]?).bind (fun y => y.at_ q) = some x.2
  | [], p, j, x, h => by simp [Ex.pres] at h
  | e :: r, p, j, x, h => by
    simp only [Ex.pres, List.mem_append] at h
    rcases h with h | h
    · obtain ⟨q, e1, e2⟩ := pre_at e (p ++ [j]) x h
      exact ⟨0, q, by rw [e1]; simp, by simpa using e2⟩
    · obtain ⟨i, q, e1, e2⟩ := pres_at r p (j + 1) x h
      refine ⟨i + 1, q, ?_, by simpa using e2⟩
      rw [e1]
      congr 2
      omega
end
theorem at_take {e e' : Ex} {p : List Nat} (h : e.at_ p = some e') : ∀ i, i ≤ p.length → ∃ x, e.at_ (p.take i) = some x := by
  intro i
  induction i with
  | zero => intro _; exact ⟨e, by simp [Ex.at_]⟩
  | succ i ih =>
    intro hi
    obtain ⟨x, hx⟩ := ih (by omega)
    have e1 := take_succ_get p i (by omega)
    rw [e1, at_snoc _ _ _ _ hx]
    -- the rest leads on
    have : ∀ (q r : List Nat) (f : Ex), f.at_ (q ++ r) = some e' → ∃ y, f.at_ q = some y := by
      intro q
      induction q with
      | nil => intro r f _; exact ⟨f, by simp [Ex.at_]⟩
      | cons j q ih2 =>
        intro r f hf
        have hf' : (f.ops[j]?).bind (fun x => x.at_ (q ++ r)) = some e' := hf
        cases hz : f.ops[j]? with
        | none => rw [hz] at hf'; cases hf'
        | some z =>
          rw [hz] at hf'
          obtain ⟨y, hy⟩ := ih2 r z hf'
          refine ⟨y, ?_⟩
          show (f.ops[j]?).bind (fun x => x.at_ q) = some y
          rw [hz]; exact hy
    have h2 : e.at_ (p.take (i + 1) ++ p.drop (i + 1)) = some e' := by rw [List.take_append_drop]; exact h
    obtain ⟨y, hy⟩ := this _ _ e h2
    rw [e1, at_snoc _ _ _ _ hx] at hy
    exact ⟨y, hy⟩
def spNodeAt : Sp := fun vs H Q _ => ∃ (v vp : V) (e e' : Ex) (p : List Nat), vs = [v, vp] ∧ InE H e v ∧ Shp e ∧ PathAt H vp p ∧ p.length ≤ 1000 ∧ e.at_ p = some e' ∧ ∀ v' H', InE H' e' v' → Same H H' → Q v' H'
def spIsOpen : Sp := fun vs H Q _ => ∃ (v : V) (e : Ex), vs = [v] ∧ InE H e v ∧ Q (.bl (isOpenE e)) H
def spIsOpenPath : Sp := fun vs H Q _ => ∃ (v vp : V) (e e' : Ex) (p : List Nat), vs = [v, vp] ∧ InE H e v ∧ Shp e ∧ PathAt H vp p ∧ p.length ≤ 1000 ∧ e.at_ p = some e' ∧ ∀ H', Same H H' → Q (.bl (isOpenE e')) H'
theorem Shp.at_ {e e' : Ex} : ∀ {p : List Nat}, Shp e → e.at_ p = some e' → Shp e' := by
  intro p
  induction p generalizing e with
  | nil => intro s h; simp only [Ex.at_] at h; cases h; exact s
  | cons i p ih =>
    intro s h
    have h' : (e.ops[i]?).bind (fun x => x.at_ p) = some e' := h
    cases hz : e.ops[i]? with
    | none => rw [hz] at h'; cases h'
    | some z =>
      rw [hz] at h'
      obtain ⟨hi, ez⟩ := List.getElem?_eq_some_iff.mp hz
      have := Shps.get s.ops i hi
      rw [ez] at this
      exact ih this h'
section
variable {P : Program} {w : World} {K : PySem.W.Frag} {mg : Str → Option Value} {base : Heap} {X : Cx}
theorem scNodeAt : FnScope ["expression", "path", "node", "at", "below"] ["expression", "path"] (defScope sNodeAt) := ⟨rfl, rfl, rfl, by decide +kernel, rfl, by decide +kernel, by decide +kernel⟩
theorem ok_nodeat {f fi fp : Addr} {fd fdi fdp : FuncData} (F : Fun K "node_at" "node_at" sNodeAt f fd) (mt : mg "tuple" = none) (mis : mg "isinstance" = none) (ml : mg "len" = none)
    (GI : FnOk P w K mg base CX0 1 fi fdi ["value"] spIsInt) (kI : PySem.W.keepIn K (.ref fi) = true) (bI : Binds K fdi ["value"] []) (mI : mg "is_integer" = some (.ref fi))
    (GP : FnOk P w K mg base CX0 2 fp fdp ["node"] spOperands) (kP : PySem.W.keepIn K (.ref fp) = true) (bP : Binds K fdp ["node"] []) (mP : mg "operands" = some (.ref fp)) : FnOk P w K mg base CX0 3 f fd ["expression", "path"] spNodeAt := by
  refine F.ok scNodeAt (fun vs H Q E h => ?_) (fun cdv A outer s H vs Q E hr h => ?_)
  · obtain ⟨v, vp, e, e', p, rfl, _⟩ := h
    rfl
  obtain ⟨v, vp, e, e', p, rfl, ie, sh, ⟨pa, rfl, epa⟩, hpl, hat, q⟩ := h
  have hr1 : Room 1 _ := hr.mono (by decide)
  refine ⟨_, (pss_cons (ps_if (pt_not (pt_val (pe_callB call_isi (by rfl) mis boot_isinstance (pa_cons (pv 1) (pa_cons (pe_bltn (v := .ty "tuple") (by rfl) mt (by decide +kernel) rfl) pa_nil))))) (pss_one (ps_ret pe_non)) pss_nil)
    (pss_cons (ps_set (i := 2) scNodeAt.nd rfl (.inl rfl) (pv 0))
    (pss_cons (ps_for PassesOwn.never rfl (pi_tup (pv 1)) (pg_name (i := 3) scNodeAt.nd rfl (Or.inl rfl)) (pss_cons (ps_set (i := 4) scNodeAt.nd rfl (.inl rfl) (pe_call GP hr rfl mP kP bP .nil pass0 (pa_cons (pv 2) pa_nil)))
    (pss_cons (ps_if (PW.pt (pw_or (pt_not (pt_val (pe_call GI hr1 rfl mI kI bI .nil pass0 (pa_cons (pv 3) pa_nil)))) (pw_or1 (pt_not (pt_chain op_le op_lt pe_int (pv 3) (pe_callB call_len_seq (by rfl) ml PySem.boot_len (pa_cons (pv 4) pa_nil))))))) (pss_one (ps_ret pe_non)) pss_nil)
    (pss_one (ps_set (i := 2) scNodeAt.nd rfl (.inl rfl) (pe_ix ix_tup (pv 4) (pv 3) (fun _ _ => rfl)))))))
    (pss_one (ps_ret (pv 2)))))), ?_⟩
  refine ⟨_, rfl, _, _, _, _, true, rfl, .ty "tuple", .base (.tup epa), kit_ty (by decide +kernel), true, rfl, iteF ?_⟩
  refine ⟨_, rfl, _, rfl, pa, rfl, ⟨_, SqT.of epa⟩, ?_⟩
  refine for_tup (K := K) (a := pa) (xs := pv_ p) (fun i σ H' => ∃ (vn : V) (x y : Option V) (en : Ex), σ = [some v, some (.ref pa), some vn, x, y] ∧ e.at_ (p.take i) = some en ∧ InE H' en vn ∧ Same H H') ⟨v, none, none, e, rfl, by simp [Ex.at_], ie, Same.refl H⟩ (fun i σ H' _ ⟨_, _, _, _, _, _, _, s'⟩ => SqT.of (s' _ _ epa)) ?_ ?_
  · rintro i z σ H1 hi ⟨vn, x, y, en, rfl, han, ien, s1⟩
    have hil : i < p.length := by
      have := (List.getElem?_eq_some_iff.mp hi).1
      simpa [pv_] using this
    have ez : z = .int ((p[i] : Nat) : Int) := by
      have := (List.getElem?_eq_some_iff.mp hi).2
      simp [pv_] at this
      exact this.symm
    subst ez
    have sn := Shp.at_ sh han
    obtain ⟨en', hen'⟩ := at_take hat (i + 1) (by omega)
    have e1 := take_succ_get p i hil
    rw [e1, at_snoc _ _ _ _ han] at hen'
    obtain ⟨hio, eio⟩ := List.getElem?_eq_some_iff.mp hen'
    refine ⟨_, rfl, vn, en, rfl, ien, sn.rs, fun po ws H2 eo io s2 => ?_⟩
    have hws := io.length
    obtain ⟨u, hu, iu⟩ := io.get p[i] hio
    rw [eio] at iu
    refine ⟨_, rfl, .inl ⟨_, rfl, true, rfl, iteF ?_⟩⟩
    refine ⟨_, rfl, _, _, rfl, rfl, _, rfl, iteYes (by omega) ⟨_, rfl, po, _, rfl, .inr (SqT.of eo), _, _, rfl, rfl, _, rfl, ?_⟩⟩
    rw [decide_eq_true (show ((p[i] : Nat) : Int) < (ws.length : Int) by omega)]
    refine iteF ⟨_, rfl, _, rfl, po, ws, _, u, rfl, rfl, SqT.of eo, at_of (j := p[i]) (by omega) hu, ?_⟩
    refine ⟨u, _, _, en', rfl, ?_, iu, s1.trans s2⟩
    rw [e1, at_snoc _ _ _ _ han]
    exact hen'
  · rintro σ H1 ⟨vn, x, y, en, rfl, han, ien, s1⟩
    have hpv : (pv_ p).length = p.length := by simp [pv_]
    rw [hpv, List.take_length, hat] at han
    cases han
    exact ⟨_, rfl, q vn H1 ien s1⟩
theorem scIsOpen : FnScope ["node"] ["node"] (defScope sIsOpen) := ⟨rfl, rfl, rfl, by decide +kernel, rfl, by decide +kernel, by decide +kernel⟩
theorem ok_isopen {f fi : Addr} {fd fdi : FuncData} (F : Fun K "is_open" "is_open" sIsOpen f fd) (ml : mg "len" = none)
    (GI : FnOk P w K mg base CX0 1 fi fdi ["value"] spIsInt) (kI : PySem.W.keepIn K (.ref fi) = true) (bI : Binds K fdi ["value"] []) (mI : mg "is_integer" = some (.ref fi)) : FnOk P w K mg base CX0 2 f fd ["node"] spIsOpen := by
  refine F.ok scIsOpen (fun vs H Q E h => ?_) (fun cdv A outer s H vs Q E hr h => ?_)
  · obtain ⟨v, e, rfl, _⟩ := h
    rfl
  obtain ⟨v, e, rfl, ie, q⟩ := h
  refine ⟨_, (pss_cons (ps_if (pt_val (pe_call GI hr rfl mI kI bI .nil pass0 (pa_cons (pv 0) pa_nil))) (pss_one (ps_ret pe_bl)) pss_nil)
    (pss_one (ps_ret (pe_or (pe_cmpR op_eq (pe_ix ix_tup (pv 0) pe_int (fun _ _ => rfl)) pe_str (nomark _)) (pe_one (pe_and (pe_cmpR op_eq (pe_ix ix_tup (pv 0) pe_int (fun _ _ => rfl)) pe_str (nomark _)) (pe_one (pe_cmpR op_ge (pe_callB call_len_seq (by rfl) ml PySem.boot_len (pa_cons (pe_ix ix_tup (pv 0) pe_int (fun _ _ => rfl)) pa_nil)) pe_int (nomark _))))))))), ?_⟩
  cases e with
  | num n =>
    unfold InE at ie
    subst ie
    exact ⟨_, rfl, .inl ⟨n, rfl, true, rfl, iteT q⟩⟩
  | nd k os =>
    unfold InE at ie
    obtain ⟨p, ws, rfl, ios, na⟩ := ie
    obtain ⟨tl, ht⟩ := na.tup
    refine ⟨_, rfl, .inr ⟨p, _, rfl, ht, false, rfl, iteF ?_⟩⟩
    refine ⟨_, rfl, p, _, _, _, rfl, rfl, SqT.of ht, at0 _ _, rfl, _, rfl, ?_⟩
    rw [word_op]
    cases ho : k.isOp with
    | true =>
      cases k with
      | op s => exact iteT q
      | _ => cases ho
    | false =>
      refine iteF ⟨_, rfl, p, _, _, _, rfl, rfl, SqT.of ht, at0 _ _, rfl, _, rfl, ?_⟩
      rw [word_call]
      cases hc : k.isCall with
      | true =>
        cases k with
        | call f =>
          obtain ⟨qa, h1, h2⟩ := na
          refine iteT ⟨_, rfl, p, _, _, _, rfl, rfl, SqT.of h1, (rfl : atI [V.str "call", .str f, .ref qa] 2 = some (.ref qa)), qa, _, rfl, .inr (SqT.of h2), _, _, rfl, rfl, ?_⟩
          have : decide ((2 : Int) ≤ (ws.length : Int)) = isOpenE (.nd (.call f) os) := by
            rw [ios.length]
            show _ = decide (1 < os.length)
            by_cases z : 1 < os.length
            · rw [decide_eq_true z, decide_eq_true (by omega)]
            · rw [decide_eq_false z, decide_eq_false (by omega)]
          show Q (V.bl (decide ((2 : Int) ≤ (ws.length : Int)))) H
          rw [this]
          exact q
        | _ => cases hc
      | false =>
        refine iteF ?_
        have : isOpenE (.nd k os) = false := by
          cases k with
          | op s => cases ho
          | call f => cases hc
          | _ => rfl
        rw [this] at q
        exact q
theorem scIsOpenPath : FnScope ["expression", "value", "node"] ["expression", "value"] (defScope sIsOpenPath) := ⟨rfl, rfl, rfl, by decide +kernel, rfl, by decide +kernel, by decide +kernel⟩
theorem ok_isopenpath {f fn fo : Addr} {fd fdn fdo : FuncData} (F : Fun K "is_open_path" "is_open_path" sIsOpenPath f fd)
    (GN : FnOk P w K mg base CX0 3 fn fdn ["expression", "path"] spNodeAt) (kN : PySem.W.keepIn K (.ref fn) = true) (bN : Binds K fdn ["expression", "path"] []) (mN : mg "node_at" = some (.ref fn))
    (GO : FnOk P w K mg base CX0 2 fo fdo ["node"] spIsOpen) (kO : PySem.W.keepIn K (.ref fo) = true) (bO : Binds K fdo ["node"] []) (mO : mg "is_open" = some (.ref fo)) : FnOk P w K mg base CX0 4 f fd ["expression", "value"] spIsOpenPath := by
  refine F.ok scIsOpenPath (fun vs H Q E h => ?_) (fun cdv A outer s H vs Q E hr h => ?_)
  · obtain ⟨v, vp, e, e', p, rfl, _⟩ := h
    rfl
  obtain ⟨v, vp, e, e', p, rfl, ie, sh, hp, hpl, hat, q⟩ := h
  have hr2 : Room 2 _ := hr.mono (by decide)
  refine ⟨_, (pss_cons (ps_set (i := 2) scIsOpenPath.nd rfl (.inl rfl) (pe_call GN hr rfl mN kN bN .nil pass0 (pa_cons (pv 0) (pa_cons (pv 1) pa_nil))))
    (pss_one (ps_ret (pe_and (pe_cmpR op_notN (pv 2) pe_non (nomark _)) (pe_one (pe_call GO hr2 rfl mO kO bO .nil pass0 (pa_cons (pv 2) pa_nil))))))), ?_⟩
  refine ⟨_, rfl, _, rfl, v, vp, e, e', p, rfl, ie, sh, hp, hpl, hat, fun v' H1 ie' s1 => ?_⟩
  have hne : v' ≠ .non := by
    cases e' with
    | num n => unfold InE at ie'; rw [ie']; exact fun z => by cases z
    | nd k os =>
      unfold InE at ie'
      obtain ⟨p, ws, rfl, _⟩ := ie'
      exact fun z => by cases z
  refine ⟨_, rfl, rfl, true, ?_, iteT ⟨_, rfl, v', e', rfl, ie', q H1 s1⟩⟩
  rw [decide_eq_false hne]
  rfl
end
end Oo
namespace Oo
open PySem L2 PyProof.Rows LamX StX ClX
/-! ### points; own steps -/
theorem ascD_paths {ps : List (List Nat)} (h : ps.Pairwise pathLt) : AscD (ps.map dP) := by
  intro i hi
  rw [List.length_map] at hi
  simp only [List.getElem_map]
  refine ⟨?_, fun z => (by cases z), by rw [depth_path]; decide, ?_⟩
  · show PySem.W.alike (.tuple (dI _)) (.tuple (dI _)) = true
    simp only [PySem.W.alike]
    exact alike_ints _ _
  · rw [List.pairwise_iff_getElem] at h
    exact h i (i + 1) (by omega) hi (by omega)
theorem opens_at {e : Ex} {p : List Nat} (h : p ∈ e.opens []) : ∃ e', e.at_ p = some e' ∧ isOpenE e' = true ∧ (p, e') ∈ e.pre [] := by
  unfold Ex.opens at h
  obtain ⟨x, hx, rfl⟩ := List.mem_map.mp h
  obtain ⟨h1, h2⟩ := List.mem_filter.mp hx
  obtain ⟨q, e1, e2⟩ := pre_at e [] x h1
  rw [List.nil_append] at e1
  exact ⟨x.2, by rw [e1]; exact e2, h2, h1⟩
mutual
theorem pre_short : ∀ (e : Ex) (p : List Nat), ∀ x ∈ e.pre p, x.1.length + 1 ≤ p.length + e.depth
  | .num n, p, x, h => by
    simp only [Ex.pre, List.mem_singleton] at h
    rw [h]; simp [Ex.depth]
  | .nd k os, p, x, h => by
    simp only [Ex.pre, List.mem_cons] at h
    rcases h with h | h
    · rw [h]; simp [Ex.depth]
    · have := pres_short os p 0 x h
      simp only [Ex.depth]
      omega
theorem pres_short : ∀ (os : List Ex) (p : List Nat) (j : Nat), ∀ x ∈ Ex.pres os p j, x.1.length + 1 ≤ p.length + 1 + Ex.depths os
  | [], p, j, x, h => by simp [Ex.pres] at h
  | e :: r, p, j, x, h => by
    simp only [Ex.pres, List.mem_append] at h
    rcases h with h | h
    · have := pre_short e (p ++ [j]) x h
      rw [List.length_append, List.length_singleton] at this
      simp only [Ex.depths]
      omega
    · have := pres_short r p (j + 1) x h
      simp only [Ex.depths]
      omega
end
/-- the tables of own steps -/
structure TxO (K : PySem.W.Frag) (w : World) (dO : Addr) : Prop where
  low : (dO == sysModules) = false
  yes : ∀ k : Kd, k.steps ≠ 0 → ∃ (a : Addr) (ws : List V), KDct K w dO k.word (.ref a) ∧ (∀ H, SqT K H a ws) ∧ ws.length = k.steps
  no : ∀ k : Kd, k.steps = 0 → KMiss K w dO k.word
def Ex.own : Ex → Nat
  | .num _ => 0
  | .nd k _ => k.steps
theorem seqT_ty {K : PySem.W.Frag} {H : Hp} {a : Addr} {xs : List V} (h : SqT K H a xs) : TyX K H (.ref a) (.type "tuple") := by
  rcases h with (h | ⟨o, h⟩) | ⟨o, its, n, h, c, _⟩
  · exact .base (.tup h)
  · exact .fTuple h
  · exact .kTuple h c
def spArePoints (K : PySem.W.Frag) : Sp := fun vs H Q _ => ∃ (v : V) (e : Ex) (t : Addr) (rows : List V) (ps : List (List Nat)), vs = [v, .ref t] ∧ InE H e v ∧ Shp e ∧ e.depth ≤ 80 ∧ SqT K H t rows ∧ Paired (PathAt H) rows ps ∧ ps.length ≤ 900 ∧ (∀ p ∈ ps, p ∈ e.opens []) ∧ ps.Pairwise pathLt ∧ ∀ H', Same H H' → Q (.bl true) H'
def spOwn (K : PySem.W.Frag) : Sp := fun vs H Q _ => ∃ (v : V) (e : Ex), vs = [v] ∧ InE H e v ∧ ∀ (q : Addr) (ws : List V) (H' : Hp), SqT K H' q ws → ws.length = e.own → Same H H' → Q (.ref q) H'
section
variable {P : Program} {w : World} {K : PySem.W.Frag} {mg : Str → Option Value} {base : Heap} {X : Cx}
theorem scArePoints : FnScope ["expression", "value", "path"] ["expression", "value"] (defScope sArePoints) := ⟨rfl, rfl, rfl, by decide +kernel, rfl, by decide +kernel, by decide +kernel⟩
theorem ok_arepoints {f fp fa : Addr} {fd fdp fda : FuncData} (F : Fun K "are_points" "are_points" sArePoints f fd) (mal : mg "all" = none) (mt : mg "tuple" = none) (mis : mg "isinstance" = none)
    (GP : FnOk P w K mg base CX0 4 fp fdp ["expression", "value"] spIsOpenPath) (kP : PySem.W.keepIn K (.ref fp) = true) (bP : Binds K fdp ["expression", "value"] []) (mP : mg "is_open_path" = some (.ref fp))
    (GA : FnOk P w K mg base CX0 1 fa fda ["items"] (spAsc K)) (kA : PySem.W.keepIn K (.ref fa) = true) (bA : Binds K fda ["items"] []) (mA : mg "is_ascending" = some (.ref fa)) : FnOk P w K mg base CX0 5 f fd ["expression", "value"] (spArePoints K) := by
  refine F.ok scArePoints (fun vs H Q E h => ?_) (fun cdv A outer s H vs Q E hr h => ?_)
  · obtain ⟨v, e, t, rows, ps, rfl, _⟩ := h
    rfl
  obtain ⟨v, e, t, rows, ps, rfl, ie, sh, hdp, et, pr, hl, hop, asc, q⟩ := h
  have hr1 : Room 1 _ := hr.mono (by decide)
  refine ⟨_, (pss_cons (ps_if (pt_not (pt_val (pe_callB call_isi (by rfl) mis boot_isinstance (pa_cons (pv 1) (pa_cons (pe_bltn (v := .ty "tuple") (by rfl) mt (by decide +kernel) rfl) pa_nil))))) (pss_one (ps_ret pe_bl)) pss_nil)
    (pss_one (ps_ret (pe_and (pe_callB (cr_all rfl) (by rfl) mal (by decide +kernel) (pa_cons (pe_lc (own := [("path", 2)]) (g := gName 2) (tt := tYes) (by rfl) scArePoints.nd (pi_tup (pv 1)) (blkOk_by (own := [("path", 2)]) (N := ["expression", "value", "path"]) (sc := defScope sArePoints) (by decide +kernel)) (fun _ _ _ _ _ => (pg_name (i := 2) scArePoints.nd rfl (Or.inl rfl))) (fun _ _ _ _ _ => pts_nil) (fun _ _ _ _ _ => (pe_call GP hr rfl mP kP bP .nil pass0 (pa_cons (pv 0) (pa_cons (pv 2) pa_nil))))) pa_nil)) (pe_one (pe_call GA hr1 rfl mA kA bA .nil pass0 (pa_cons (pv 1) pa_nil))))))), ?_⟩
  refine ⟨_, rfl, _, _, _, _, true, rfl, .ty "tuple", seqT_ty et, kit_ty (by decide +kernel), true, rfl, iteF ?_⟩
  refine ⟨_, rfl, t, rfl, ⟨_, et⟩, fun D nD => ?_⟩
  have hrl := pr.length
  refine lc_tup (K := K) (a := t) (xs := rows) (fun i H' => H' D = some (.lst ((List.replicate i true).map V.bl)) ∧ Same H H') ⟨upd_same, same_up nD⟩ (fun i H' _ h => same_seqT h.2 et) ?_ ?_
  · rintro i vp H1 hi ⟨eD, s'⟩
    obtain ⟨p, hp, hpp⟩ := paired_get pr hi
    have hpm := List.mem_of_getElem? hp
    obtain ⟨e', h1, h2, h3⟩ := opens_at (hop p hpm)
    have hsh := pre_short e [] _ h3
    have hsh' : p.length + 1 ≤ e.depth := by simpa using hsh
    have hil := (List.getElem?_eq_some_iff.mp hi).1
    refine ⟨rfl, yes_i ⟨_, rfl, _, rfl, v, vp, e, e', p, rfl, ie.keep (same_t s'), sh, hpp.keep (same_t s'), by omega, h1, fun H2 s2 => ?_⟩⟩
    rw [h2]
    refine ⟨_, s2 _ _ eD, small1000 (by rw [List.length_map, List.length_replicate]; omega), ?_, fun b o z => by rw [upd_ne (ne_of_none z nD)]; exact s2 _ _ (s' b o z)⟩
    rw [List.replicate_succ', List.map_append]
    exact upd_same
  · rintro H' ⟨eD, s'⟩
    refine ⟨D, _, rfl, SqL.of eD, ?_⟩
    have : (List.replicate rows.length true).all id = true := by simp
    rw [this]
    exact ⟨true, rfl, iteT ⟨_, rfl, t, rows, ps.map dP, rfl, same_seqT s' et, dpAll_paths (L2.Paired.mapP pr fun a b z => z.keep (same_t s')), by omega, ascD_paths asc, fun H2 s2 => q _ (s'.trans s2)⟩⟩
theorem scOwn : FnScope ["node"] ["node"] (defScope sOwn) := ⟨rfl, rfl, rfl, by decide +kernel, rfl, by decide +kernel, by decide +kernel⟩
theorem ok_own {f fi dO : Addr} {fd fdi : FuncData} (F : Fun K "own_steps" "own_steps" sOwn f fd) (TO : TxO K w dO) (mOWN_STEPS : mg "OWN_STEPS" = some (.ref dO))
    (GI : FnOk P w K mg base CX0 1 fi fdi ["value"] spIsInt) (kI : PySem.W.keepIn K (.ref fi) = true) (bI : Binds K fdi ["value"] []) (mI : mg "is_integer" = some (.ref fi)) : FnOk P w K mg base CX0 2 f fd ["node"] (spOwn K) := by
  refine F.ok scOwn (fun vs H Q E h => ?_) (fun cdv A outer s H vs Q E hr h => ?_)
  · obtain ⟨v, e, rfl, _⟩ := h
    rfl
  obtain ⟨v, e, rfl, ie, q⟩ := h
  refine ⟨_, (pss_cons (ps_if (pt_val (pe_call GI hr rfl mI kI bI .nil pass0 (pa_cons (pv 0) pa_nil))) (pss_one (ps_ret (pe_tup pa_nil))) pss_nil)
    (pss_one (ps_ret (pe_kget2 (pe_globD rfl mOWN_STEPS) (pe_ix ix_tup (pv 0) pe_int (fun _ _ => rfl)) (pe_tup pa_nil) ⟨rfl, rfl, rfl, rfl⟩)))), ?_⟩
  cases e with
  | num n =>
    unfold InE at ie
    subst ie
    exact ⟨_, rfl, .inl ⟨n, rfl, true, rfl, iteT ⟨sz (by decide), fun p hp => q p [] _ (SqT.of upd_same) rfl (same_up hp)⟩⟩⟩
  | nd k os =>
    unfold InE at ie
    obtain ⟨p, ws, rfl, ios, na⟩ := ie
    obtain ⟨tl, ht⟩ := na.tup
    refine ⟨_, rfl, .inr ⟨p, _, rfl, ht, false, rfl, iteF ?_⟩⟩
    by_cases hk : k.steps = 0
    · have km := TO.no k hk
      obtain ⟨es, n', hl', hk', low, hm⟩ := id km
      refine ⟨dO, rfl, ⟨es, n', hl', hk'⟩, TO.low, _, rfl, p, _, _, _, rfl, rfl, SqT.of ht, at0 _ _, sz (by decide), fun t nt => ⟨k.word, rfl, .inr ⟨km, ?_⟩⟩⟩
      exact q t [] _ (SqT.of upd_same) (by simp [Ex.own, hk]) (same_up nt)
    · obtain ⟨a, ws', kd, hs, hl⟩ := TO.yes k hk
      obtain ⟨es, n', u0, hl', hk', e', ru⟩ := id kd
      refine ⟨dO, rfl, ⟨es, n', hl', hk'⟩, TO.low, _, rfl, p, _, _, _, rfl, rfl, SqT.of ht, at0 _ _, sz (by decide), fun t nt => ⟨k.word, rfl, .inl ⟨_, kd, ?_⟩⟩⟩
      exact q a ws' _ (hs _) hl (same_up nt)
end
end Oo
/-! own rules: o.f as a target among others, t[::-1], xs.extend(t) -/
namespace StX
open PySem PySem.Spec PyProof.Rows L2
section
variable {X : Cx} {pos : Pos}
/-- o.f = .. as a target -/
def gFld (K : PySem.W.Frag) (ta : TE) (f : Str) : TG := fun y σ H Q => ta σ H fun x H2 => ∃ a C dx fs, x = .ref a ∧ H2 a = some (.ins C dx fs) ∧ Cls K C ∧ NoAttr K C f ∧ fs.length < 1000 ∧ Q σ (upd H2 a (.ins C dx (putF f y fs)))
theorem pg_fld {o : Expr} {f : Str} {ta : TE} (ho : PE X o ta) : PG X (.Attribute o f pos) (gFld X.K ta f) := ⟨fun pins s σ H y u Q I ry h => by
  rw [assign_Attribute]
  refine wpAny_bind (wpAny_holding (thn (ho.run pins s σ H _ I h) fun ov s1 ⟨x, G, J, rx, a, C, dx, fs, ex, ea, c, n, hl, q⟩ => ?_))
  cases ex
  cases (show ov = Value.ref a from rx)
  exact wpAny_bind (wpAny_standAt (wpAny_bind (wpAny_holding (setattr_ok J ea c n hl ry fun s2 J2 => wpAny_release ⟨σ, _, J2, q⟩))))⟩
end

/-! ### t[::-1] -/
section
variable {prog : Program} {w : World} {A : Around} {E : Value → Shared → Prop} {s : Shared}
theorem adj_back (n : Nat) : Builtin.Slice.sliceAdjust none none (-1) (n : Int) = ((n : Int) - 1, -1) := rfl
theorem places_back (n : Nat) : Builtin.Slice.slicePlaces ((n : Int) - 1) (-1) (-1) = n := by
  unfold Builtin.Slice.slicePlaces
  rw [if_neg (by decide)]
  by_cases h : (n : Int) - 1 > -1
  · rw [if_pos h]
    have : (((n : Int) - 1 - -1 - 1) / - -1 + 1) = (n : Int) := by
      rw [Int.neg_neg, Int.ediv_one]; omega
    rw [this, Int.toNat_natCast]
  · rw [if_neg h]
    have : n = 0 := by omega
    subst this; rfl
theorem fm_congr {α β : Type} {f g : α → Option β} : ∀ {l : List α}, (∀ a ∈ l, f a = g a) → l.filterMap f = l.filterMap g
  | [], _ => rfl
  | a :: l, h => by
    rw [List.filterMap_cons, List.filterMap_cons, h a List.mem_cons_self, fm_congr fun b hb => h b (List.mem_cons_of_mem _ hb)]
theorem pick_back (xs : List Value) : ((List.range xs.length).filterMap fun (m : Nat) => xs.toArray[(((xs.length : Nat) : Int) - 1 + (m : Int) * (-1)).toNat]?).toArray = xs.reverse.toArray := by
  have e : ∀ m ∈ List.range xs.length, xs.toArray[(((xs.length : Nat) : Int) - 1 + (m : Int) * (-1)).toNat]? = xs.reverse.toArray[(((0 : Nat) : Int) + (m : Int) * 1).toNat]? := by
    intro m hm
    have hm := List.mem_range.mp hm
    have h1 : (((xs.length : Nat) : Int) - 1 + (m : Int) * (-1)).toNat = xs.length - 1 - m := by omega
    have h2 : (((0 : Nat) : Int) + (m : Int) * 1).toNat = m := by omega
    rw [h1, h2, List.getElem?_toArray, List.getElem?_toArray, List.getElem?_reverse hm]
  rw [fm_congr e, HT.pick_gen]
  have : (xs.reverse).length = xs.length := List.length_reverse
  rw [List.drop_zero, ← this, List.take_length]
theorem getItem_back {t sl : Addr} {its : List Value} {vs : Value} {Q : Value → Shared → Prop} (ht : IsTup s.heap t its.toArray) (hs : s.heap.IsSliceOf sl .none .none vs) (ps : IsPart vs (some (-1))) (hz : its.length ≤ sizeLine)
    (h : Q (.ref s.heap.objs.size) { s with heap := s.heap.push { cls := .type "tuple", data := .seq its.reverse.toArray } }) : wpAny (model prog w) A (getItem (.ref t) (.ref sl)) Q E s := by
  obtain ⟨os, ho, hc, hd⟩ := id hs
  have T : s.TypeIs (.ref sl) "slice" := ⟨os, ho, hc⟩
  have fits : sizeOk (.seq its.reverse.toArray) := by
    show its.reverse.toArray.size ≤ sizeLine
    rw [List.size_toArray, List.length_reverse]; exact hz
  unfold getItem
  try with_reducible refine wpAny_holding ?_
  first | refine wpAny_bind (wpAny_pure ?_) | skip
  refine wpAny_bind (wpAny_sequenceKey ht.typeIs (by decide) ?_)
  refine wpAny_bind (wpAny_callSpecial?_slot (name := Str.ofString "__getitem__") ht.typeIs slot_tuple_getitem (wpAny_call_entry slot_tuple_getitem ht.typeIs entry_tuple_getitem ?_ (args_tuple_getitem _ _)))
  show wpAny _ _ (Builtin.Tuple.tupleItemsOf (.ref t) >>= _) _ _ s
  refine wpAny_bind (tupleItemsOf_ ht ?_)
  refine wpAny_bind (wpAny_typeOf T ?_)
  rw [if_pos (by decide)]
  refine wpAny_bind ?_
  unfold Builtin.Slice.sliceApplied Builtin.Slice.sliceFields
  refine wpAny_bind (wpAny_bind (wpAny_field ho hd (x := .none) rfl (wpAny_bind (wpAny_field ho hd (x := .none) rfl (wpAny_bind (wpAny_field ho hd (x := vs) rfl (wpAny_pure ?_)))))))
  refine wpAny_bind (HT.slicePart_ ps ?_)
  show wpAny _ _ (if ((-1 : Int) == 0) = true then _ else _) _ _ s
  rw [if_neg (by decide)]
  refine wpAny_bind (HT.slicePart_ .none (wpAny_bind (HT.slicePart_ .none (wpAny_bind (wpAny_pure ?_)))))
  show wpAny _ _ (match Builtin.Slice.sliceAdjust none none (-1) (its.length : Int) with | (lo, hi) => pure (lo, (-1 : Int), Builtin.Slice.slicePlaces lo hi (-1))) _ _ s
  rw [adj_back]
  show wpAny _ _ (pure (((its.length : Nat) : Int) - 1, (-1 : Int), Builtin.Slice.slicePlaces (((its.length : Nat) : Int) - 1) (-1) (-1))) _ _ s
  rw [places_back]
  refine wpAny_pure ?_
  have no : ¬ ((((its.length : Nat) : Int) - 1 == 0 && (-1 : Int) == 1 && its.length == its.length) = true) := by
    rw [show ((-1 : Int) == 1) = false from rfl, Bool.and_false, Bool.false_and]
    exact Bool.false_ne_true
  show wpAny _ _ (if (((its.length : Nat) : Int) - 1 == 0 && (-1 : Int) == 1 && its.length == its.toArray.size) = true then _ else _) _ _ s
  rw [List.size_toArray, if_neg no, pick_back]
  first
    | exact wpAny_bind (m := Builtin.Tuple.tupleExact _) (wpAny_newObj_type (wpAny_pure ⟨_, rfl, wpAny_pure h⟩) fits)
    | exact wpAny_bind (m := Builtin.Tuple.tupleExact _) (wpAny_newObj_type (wpAny_bind (wpAny_pure (wpAny_pure ⟨_, rfl, wpAny_pure h⟩))) fits)
    | exact wpAny_bind (wpAny_bind (m := Builtin.Tuple.tupleExact _) (wpAny_newObj_type (wpAny_pure (wpAny_pure ⟨_, rfl, wpAny_pure h⟩)) fits))
    | exact wpAny_bind (wpAny_bind (m := Builtin.Tuple.tupleExact _) (wpAny_newObj_type (wpAny_pure ⟨_, rfl, wpAny_pure h⟩) fits))
end
section
variable {X : Cx}
def tRevT (K : PySem.W.Frag) (ta : TE) : TE := fun σ H Q => ta σ H fun x G => ∃ a xs, x = .ref a ∧ SqT K G a xs ∧ ∀ p, G p = none → Q (.ref p) (upd G p (.tup xs.reverse))
theorem pe_revT {e : Expr} {ta : TE} {k : Nat} {p1 p2 p3 pos : Pos} (he : PE X e ta) : PE X (.Subscript e (.Slice none none (some (.UnaryOp .USub (.Constant (.int 1) k p1) p2)) p3) pos) (tRevT X.K ta) := ⟨fun pins s σ H Q I h => by
  refine Subscript_ (thn (he.run pins s σ H _ I h) fun u s1 ⟨x, G, J, rx, a, xs, ex, hx, q⟩ => ?_)
  cases ex
  cases rx
  have step : PO X (some (.UnaryOp .USub (.Constant (.int 1) k p1) p2)) (tPart (tUn (rU fun i => .int (-i)) (tC (.int 1)))) := po_some (pe_un un_neg pe_int)
  refine wpAny_Slice (thn (po_none.run pins s1 σ G (fun o G' => o = none ∧ G' = G) J ⟨rfl, rfl⟩) fun v1 s2 ⟨o1, G1, J1, w1, f1, g1⟩ => ?_)
  cases f1
  cases g1
  refine thn (po_none.run pins s2 σ G (fun o G' => o = none ∧ G' = G) J1 ⟨rfl, rfl⟩) fun v2 s3 ⟨o2, G2, J2, w2, f2, g2⟩ => ?_
  cases f2
  cases g2
  refine thn (step.run pins s3 σ G (fun o G' => o = some (-1) ∧ G' = G) J2 ⟨1, rfl, -1, rfl, rfl, rfl⟩) fun v3 s4 ⟨o3, G3, J3, w3, f3, g3⟩ => ?_
  cases f3
  cases g3
  cases w1
  cases w2
  have J4 : Inv X pins σ G { s4 with heap := s4.heap.push { cls := .type "slice", data := .fields #[.none, .none, v3] } } := J3.kept (t' := s4.toks) fun b ob z => Heap.get?_push_of_some _ z
  obtain ⟨its, r, ht, hz⟩ := J4.tuple hx
  have hl := r.length
  show wpAny (model X.prog X.w) X.A (subscriptTail e (.Slice none none (some (.UnaryOp .USub (.Constant (.int 1) k p1) p2)) p3) (.ref a) (.ref s4.heap.objs.size)) (EP X pins σ Q) X.xe { s4 with heap := s4.heap.push { cls := .type "slice", data := .fields #[.none, .none, v3] } }
  refine tail_any (ops := [.ref a, .ref s4.heap.objs.size]) ht.typeIs slot_tuple_getitem.lookup ?_ (by with_unfolding_all rfl)
  refine getItem_back ht (Heap.IsSliceOf.new _ .none .none v3) w3 (by omega) ?_
  refine ⟨.ref _, _, J4.laid (t' := s4.toks) (o := .tup xs.reverse) (fun b ob z => Heap.get?_push_of_some _ z) (Nat.le_refl _) ?_, rfl, q _ (J4.hok.fresh (Nat.le_refl _))⟩
  exact ⟨by rw [List.length_reverse]; exact hz, _, r.reverse, IsTup.new _ _⟩⟩
end

/-! ### xs.extend(t) -/
theorem extend_tup (l : Addr) (xs : Array Value) (n : Nat) (b : Addr) (ys : Array Value) (m : Nat) (dd : Option Addr) (sl : Array (Option Value)) (h0 : ¬(!xs.isEmpty && Builtin.List.listTooLong (xs.size + ys.size)) = true) (h1 : xs.size ≤ sizeLine) (h2 : xs.size + ys.size ≤ sizeLine + 1) :
    Meets (Builtin.«list.extend» ⟨[.ref l, .ref b], []⟩) (fun _ R s => s.heap.get? l = some { cls := .type "list", data := .seq xs n } ∧ s.heap.get? b = some { cls := .type "tuple", dict := dd, data := .seq ys m, slots := sl } ∧ R (.ok (.ret Value.none)) { s with heap := s.heap.update l (Obj.mapSeq fun x => x ++ ys) }) :=
  .of_wp fun prog w A R s h => by
    obtain ⟨hp, g, d, tk, os⟩ := s
    obtain ⟨hl, hb, h⟩ := h
    have e1 := AutoSeq1.idx_int; have e2 := AutoSeq1.sub_tuple_tuple; have e3 := AutoSeq1.sub_list_list; have e4 := AutoSeq1.sub_tuple_list; have e5 := AutoSeq1.sub_list_tuple
    have hz : (xs ++ ys).size ≤ sizeLine + 1 := by rw [Array.size_append]; exact h2
    wp_walk using (wpAny_updateSeq hl rfl (hz := h1) (_hz' := hz)), AutoSeq1.wpAny_loadPart' hl, AutoSeq1.wpAny_loadPart' hb
    exact ⟨_, rfl, h⟩
/-- xs.extend(t) by a tuple -/
def rExtT : V → List V → Hp → VK → Prop := fun x vs H Q => ∃ l b xs ys, x = .ref l ∧ vs = [.ref b] ∧ H l = some (.lst xs) ∧ H b = some (.tup ys) ∧ xs.length + ys.length ≤ sizeLine ∧ Q .non (upd H l (.lst (xs ++ ys)))
theorem mt_extendT {X : Cx} : MtM X "list.extend" rExtT := by
  intro pins s σ H x vs u us Q I rx rv h
  obtain ⟨l, b, xs, ys, e1, e2, hl, hb, hz, q⟩ := h
  subst e1 e2
  cases rx
  obtain ⟨u2, e3, r2⟩ := rv.one
  subst e3
  cases r2
  obtain ⟨z1, its, n, r, len, el⟩ := I.lstM hl
  obtain ⟨its2, r3, ⟨o, eb, cb, m, db⟩, z2⟩ := I.tuple (SqT.of hb)
  obtain ⟨oc, od, dt, osl⟩ := o
  cases cb
  cases db
  have l2 := r3.length
  have room : its.toArray.size + its2.toArray.size ≤ sizeLine := by rw [List.size_toArray, List.size_toArray]; omega
  have door : ¬ (!its.toArray.isEmpty && Builtin.List.listTooLong (its.toArray.size + its2.toArray.size)) = true := by
    rw [notLongL room, Bool.and_false]; exact Bool.false_ne_true
  refine call_meets F.slot_list_extend ⟨_, el, rfl⟩ F.entry_list_extend (F.args_list_extend_2 _ _) (extend_tup l its.toArray n b its2.toArray m od osl door (by rw [List.size_toArray]; omega) (by omega)) ⟨el, eb, ?_⟩
  exact ⟨.non, _, I.lset (its' := its ++ its2) hl el (by simp) (r.append r3) (by rw [List.length_append]; omega), rfl, q⟩
end StX
/-! own rule: {key: worth for a in s for b in t} -/
namespace StX
open PySem PySem.Spec PyProof.Rows L2
/-- the expression -/
abbrev DcX (ek ev g0 j0 g1 j1 : Expr) (ts0 ts1 : List Expr) (sc : Scope) (po : Pos) : Expr := .DictComp ek ev [⟨g0, j0, ts0, 0⟩, ⟨g1, j1, ts1, 0⟩] sc po
theorem dcx_outer (ek ev g0 j0 g1 j1 : Expr) (ts0 ts1 : List Expr) (sc : Scope) (po : Pos) (it : Value) (D : Addr) (en : Env) :
    compTurn (DcX ek ev g0 j0 g1 j1 ts0 ts1 sc po) 0 it (.ref D) en = (do
      standAt j0.pos
      match ← pyNext it with
      | none => pure (.done .next)
      | some y =>
        letOwnedTupleGo g0 it y
        assign g0 en y
        let mut go := true
        for c in ts0 do
          if go then go ← isTrue c en (eval c en)
        if go then
          let z ← eval j1 en
          standAt j1.pos
          let z ← foldedSetIterable j1 en z
          let _ ← runOwn (.compStart (DcX ek ev g0 j0 g1 j1 ts0 ts1 sc po) 1 (← holding [z] (pyIter z)) (.ref D) en) en
        again (.compLoop (DcX ek ev g0 j0 g1 j1 ts0 ts1 sc po) 0 it (.ref D) en)) := rfl
theorem dcx_inner (ek ev g0 j0 g1 j1 : Expr) (ts0 ts1 : List Expr) (sc : Scope) (po : Pos) (it : Value) (D : Addr) (en : Env) :
    compTurn (DcX ek ev g0 j0 g1 j1 ts0 ts1 sc po) 1 it (.ref D) en = (do
      standAt j1.pos
      match ← pyNext it with
      | none => pure (.done .next)
      | some y =>
        letOwnedTupleGo g1 it y
        assign g1 en y
        let mut go := true
        for c in ts1 do
          if go then go ← isTrue c en (eval c en)
        if go then
          (do
            let kv ← eval ek en
            let vv ← holding [kv] (eval ev en)
            standAt { ek.pos with endLine := ev.pos.endLine, endCol := ev.pos.endCol }
            holding [kv, vv] (dictSet D kv vv))
        again (.compLoop (DcX ek ev g0 j0 g1 j1 ts0 ts1 sc po) 1 it (.ref D) en)) := rfl
section
variable {prog : Program} {w : World} {A : Around} {R : Result → Shared → Prop} {s : Shared} {ek ev g0 j0 g1 j1 : Expr} {ts0 ts1 : List Expr} {sc : Scope} {po : Pos} {it : Value} {D : Addr} {en : Env}
/-- what is wanted of an error of the comprehension -/
abbrev errW (prog : Program) (w : World) (A : Around) (en : Env) (R : Result → Shared → Prop) : Value → Shared → Prop := notedBy (model prog w) A en fun x t => R (.error x) t
/-- the tests of a clause, one after another -/
abbrev testsS (ts : List Expr) (en : Env) : Sem Bool := forIn ts true fun c r => if r = true then do let ok ← isTrue c en (eval c en); pure (ForInStep.yield ok) else pure (ForInStep.yield r)
theorem dcx_loop0 (fold : ∀ z, foldedSetIterable j1 en z = pure z) (J : Nat → Shared → Prop)
    (step : ∀ n s, J n s → wpAny (model prog w) A (pyNext it) (fun r s1 => match r with
      | none => R (.ok .next) s1
      | some y => wpAny (model prog w) A (letOwnedTupleGo g0 it y) (fun _ s2 => wpAny (model prog w) A (assign g0 en y) (fun _ s3 => wpAny (model prog w) A (testsS ts0 en) (fun go s4 =>
          if go = true then wpAny (model prog w) A (eval j1 en) (fun z s5 => wpAny (model prog w) A (pyIter z) (fun it1 s6 =>
            codeAny (model prog w) A (.compStart (DcX ek ev g0 j0 g1 j1 ts0 ts1 sc po) 1 it1 (.ref D) en) (fun r t => match r with
              | .ok _ => ∃ m, m < n ∧ J m t
              | .error _ => False) s6) (errW prog w A en R) s5) (errW prog w A en R) s4
          else ∃ m, m < n ∧ J m s4) (errW prog w A en R) s3) (errW prog w A en R) s2) (errW prog w A en R) s1) (errW prog w A en R) s)
    (n : Nat) (h : J n s) : codeAny (model prog w) A (.compLoop (DcX ek ev g0 j0 g1 j1 ts0 ts1 sc po) 0 it (.ref D) en) R s := by
  refine codeAny_loop rfl J (fun n s hJ => ?_) n h
  show wpAny _ A ((compTurn (DcX ek ev g0 j0 g1 j1 ts0 ts1 sc po) 0 it (.ref D) en).onRaise (fun x => do noteFrame x en; theTreesLotGoes x)) _ _ s
  refine wpAny_noted ?_
  rw [dcx_outer]
  refine wpAny_bind (wpAny_standAt (wpAny_bind (wpAny_mono (step n s hJ) (fun r s1 q1 => ?_) fun _ _ z => z)))
  cases r with
  | none => exact wpAny_pure q1
  | some y =>
    refine wpAny_bind (wpAny_mono q1 (fun _ s2 q2 => wpAny_bind (wpAny_mono q2 (fun _ s3 q3 => wpAny_bind (wpAny_mono q3 (fun go s4 q4 => ?_) fun _ _ z => z)) fun _ _ z => z)) fun _ _ z => z)
    cases go
    · exact wpAny_pure ⟨rfl, q4⟩
    · refine wpAny_bind (wpAny_mono q4 (fun z s5 q5 => wpAny_bind (wpAny_standAt (wpAny_bind (wpAny_of_eq (fold z) (wpAny_bind (wpAny_holding (wpAny_mono q5 (fun it1 s6 q6 => ?_) fun _ _ z => z))))))) fun _ _ z => z)
      refine wpAny_bind (wpAny_runOwn ?_)
      rw [Around.mark_none]
      refine codeAny_mono q6 fun r t hr => ?_
      cases r with
      | error e => exact hr.elim
      | ok f => first | exact wpAny_pure ⟨rfl, hr⟩ | exact wpAny_bind (wpAny_pure (wpAny_pure ⟨rfl, hr⟩))
theorem dcx_loop1 (J : Nat → Shared → Prop)
    (step : ∀ n s, J n s → wpAny (model prog w) A (pyNext it) (fun r s1 => match r with
      | none => R (.ok .next) s1
      | some y => wpAny (model prog w) A (letOwnedTupleGo g1 it y) (fun _ s2 => wpAny (model prog w) A (assign g1 en y) (fun _ s3 => wpAny (model prog w) A (testsS ts1 en) (fun go s4 =>
          if go = true then wpAny (model prog w) A (eval ek en) (fun kv s5 => wpAny (model prog w) A (eval ev en) (fun vv s6 => wpAny (model prog w) A (dictSet D kv vv) (fun _ t => ∃ m, m < n ∧ J m t)
            (errW prog w A en R) s6) (errW prog w A en R) s5) (errW prog w A en R) s4
          else ∃ m, m < n ∧ J m s4) (errW prog w A en R) s3) (errW prog w A en R) s2) (errW prog w A en R) s1) (errW prog w A en R) s)
    (n : Nat) (h : J n s) : codeAny (model prog w) A (.compLoop (DcX ek ev g0 j0 g1 j1 ts0 ts1 sc po) 1 it (.ref D) en) R s := by
  refine codeAny_loop rfl J (fun n s hJ => ?_) n h
  show wpAny _ A ((compTurn (DcX ek ev g0 j0 g1 j1 ts0 ts1 sc po) 1 it (.ref D) en).onRaise (fun x => do noteFrame x en; theTreesLotGoes x)) _ _ s
  refine wpAny_noted ?_
  rw [dcx_inner]
  refine wpAny_bind (wpAny_standAt (wpAny_bind (wpAny_mono (step n s hJ) (fun r s1 q1 => ?_) fun _ _ z => z)))
  cases r with
  | none => exact wpAny_pure q1
  | some y =>
    refine wpAny_bind (wpAny_mono q1 (fun _ s2 q2 => wpAny_bind (wpAny_mono q2 (fun _ s3 q3 => wpAny_bind (wpAny_mono q3 (fun go s4 q4 => ?_) fun _ _ z => z)) fun _ _ z => z)) fun _ _ z => z)
    cases go
    · exact wpAny_pure ⟨rfl, q4⟩
    · exact wpAny_bind (wpAny_bind (wpAny_mono q4 (fun kv s5 q5 => wpAny_bind (wpAny_holding (wpAny_mono q5 (fun vv s6 q6 => wpAny_bind (wpAny_standAt (wpAny_holding (wpAny_mono q6 (fun _ t q7 => wpAny_pure ⟨rfl, q7⟩) fun _ _ z => z)))) fun _ _ z => z))) fun _ _ z => z))
theorem dcx_start1 (h0 : codeAny (model prog w) A (.compLoop (DcX ek ev g0 j0 g1 j1 ts0 ts1 sc po) 1 it (.ref D) en) R s)
    (h : wpAny (model prog w) A (pyIter it) (fun it1 t => codeAny (model prog w) A (.compLoop (DcX ek ev g0 j0 g1 j1 ts0 ts1 sc po) 1 it1 (.ref D) en) R t) (errW prog w A en R) s) :
    codeAny (model prog w) A (.compStart (DcX ek ev g0 j0 g1 j1 ts0 ts1 sc po) 1 it (.ref D) en) R s := by
  refine codeAny_of_tree ?_
  show wpAny _ _ ((compStart (DcX ek ev g0 j0 g1 j1 ts0 ts1 sc po) 1 it (.ref D) en).onRaise (fun x => do noteFrame x en; standAt theWindowsPlace)) _ _ s
  refine wpAny_notedAt ?_
  unfold compStart
  show wpAny _ _ (ask >>= _) _ _ s
  refine wpAny_bind (wpAny_askSetting (wpAny_ite ?_))
  split
  · first | exact wpAny_bind (wpAny_pure (wpAny_pure ⟨rfl, h0⟩)) | exact wpAny_pure ⟨rfl, h0⟩
  · refine wpAny_bind (wpAny_rule ?_)
    first
      | exact wpAny_bind (wpAny_standAt (wpAny_bind (wpAny_mono h (fun _ _ z => wpAny_pure ⟨rfl, z⟩) fun _ _ z => z)))
      | (show wpAny _ _ (standAt j1.pos >>= _) _ _ s; exact wpAny_bind (wpAny_standAt (wpAny_bind (wpAny_mono h (fun _ _ z => wpAny_pure ⟨rfl, z⟩) fun _ _ z => z))))
end
end StX
namespace StX
open PySem PySem.Spec PyProof.Rows L2
/-- the inner walk of a comprehension of two clauses; Z: what is to hold behind it -/
def inDc (D : Addr) (J1 : It) (h1 : TG) (u1 : TT) (tk tv : TE) (vs1 : List Nat) (τ : L2.St) (Z : Hp → Prop) (G : Hp) : Prop := ∃ W : Nat → Nat → Hp → Prop, (∃ m, W 0 m G) ∧ ∀ j k G, W j k G →
  (J1.stop j G ∧ Z G) ∨ (J1.go j G ∧ ∃ N : Hp → Prop, (∀ G', N G' → ∃ k', k' < k ∧ W (j + 1) k' G') ∧ ∀ x G', J1.yld j G x G' → h1 x (wipe τ vs1) G' fun τ1 G1 => wipe τ1 vs1 = wipe τ vs1 ∧ u1 τ1 G1 fun b G2 =>
    if b = true then tk τ1 G2 fun y G3 => tv τ1 G3 fun z G4 => ∃ kvs k, y = kV k ∧ G4 D = some (.dK kvs) ∧ kvs.length < sizeLine ∧ N (upd G4 D (.dK (putK kvs k z))) else N G2)
/-- {key: worth for g0 in j0 if .. for g1 in j1 if ..}: D the new dict -/
def tDc2 (wi : TI) (h0 : TG) (u0 : TT) (wi1 : TI) (h1 : TG) (u1 : TT) (tk tv : TE) (vs vs1 : List Nat) : TE := fun σ H Q => wi σ H fun J G => ∀ D, G D = none → ∃ W : Nat → Nat → Hp → Prop, (∃ m, W 0 m (upd G D (.dK []))) ∧ ∀ i m G, W i m G →
  (J.stop i G ∧ Q (.ref D) G) ∨ (J.go i G ∧ ∃ N : Hp → Prop, (∀ G', N G' → ∃ m', m' < m ∧ W (i + 1) m' G') ∧ ∀ x G', J.yld i G x G' → h0 x (wipe σ vs) G' fun τ G1 => wipe τ vs = wipe σ vs ∧ u0 τ G1 fun b G2 =>
    if b = true then wi1 τ G2 fun J1 G3 => inDc D J1 h1 u1 tk tv vs1 τ N G3 else N G2)
section
variable {X : Cx}
theorem pe_dc2 {ek ev g0 j0 g1 j1 : Expr} {ts0 ts1 : List Expr} {sc : Scope} {own : List (Str × Nat)} {vs1 : List Nat} {po : Pos} {wi wi1 : TI} {h0 h1 : TG} {u0 u1 : TT} {tk tv : TE} (calm : X.calm = true) (nd : X.N.Nodup) (pi : PI X g0 j0 wi) (ok : BlkOk X.N X.env.scope sc own) (sub : ∀ i ∈ vs1, i ∈ own.map (·.2))
    (pg : ∀ (s : Shared) (H : Hp) (C : Addr) (cl : List (Str × Addr)) (fp : List Addr), PG (X.blk s H sc (compEnvC sc cl C X.env) fp) g0 h0) (pt : ∀ (s : Shared) (H : Hp) (C : Addr) (cl : List (Str × Addr)) (fp : List Addr), PTs (X.blk s H sc (compEnvC sc cl C X.env) fp) ts0 u0)
    (pi1 : ∀ (s : Shared) (H : Hp) (C : Addr) (cl : List (Str × Addr)) (fp : List Addr), PI (X.blk s H sc (compEnvC sc cl C X.env) fp) g1 j1 wi1)
    (pg1 : ∀ (s : Shared) (H : Hp) (C : Addr) (cl : List (Str × Addr)) (fp : List Addr), PG (X.blk s H sc (compEnvC sc cl C X.env) fp) g1 h1) (pt1 : ∀ (s : Shared) (H : Hp) (C : Addr) (cl : List (Str × Addr)) (fp : List Addr), PTs (X.blk s H sc (compEnvC sc cl C X.env) fp) ts1 u1)
    (pk : ∀ (s : Shared) (H : Hp) (C : Addr) (cl : List (Str × Addr)) (fp : List Addr), PE (X.blk s H sc (compEnvC sc cl C X.env) fp) ek tk) (pv : ∀ (s : Shared) (H : Hp) (C : Addr) (cl : List (Str × Addr)) (fp : List Addr), PE (X.blk s H sc (compEnvC sc cl C X.env) fp) ev tv)
    (fold0 : ∀ x, foldedSetIterable j0 X.env x = pure x := by intro _; rfl) (fold1 : ∀ en x, foldedSetIterable j1 en x = pure x := by intro _ _; rfl) :
    PE X (DcX ek ev g0 j0 g1 j1 ts0 ts1 sc po) (tDc2 wi h0 u0 wi1 h1 u1 tk tv (own.map (·.2)) vs1) := ⟨fun pins s σ H Q I h => by
  rw [arm_eval_DictComp]
  have cells : ∀ y ∈ sc.names, y.2 = .free → ∃ c, X.env.cells.lookup y.1 = some c := fun y hy e => (ok.free y hy e).elim (fun k => I.ok.has _ (.inl k)) fun k => I.ok.has _ (.inr k)
  refine wpAny_comprehension_free (use := none) rfl fold0 (closure_ok cells) ok.kind (fun y hy e => by rw [ok.uniq y hy, e]) (thn (pi.run pins s σ H _ I h) fun src s1 hsrc => thn hsrc fun itv s2 walk => ?_)
  obtain ⟨it, fp, tn, J, G, e, I2, T, t2, f2, q⟩ := walk
  subst e
  refine wpAny_newObj_type (newEnv_comp ?_)
  generalize eD : s2.heap.objs.size = D
  obtain ⟨W, ⟨m0, w0⟩, turn⟩ := q D (I2.hok.fresh (Nat.le_of_eq eD))
  generalize e3 : ({ s2 with heap := s2.heap.push { cls := .type "dict", data := .dict #[] } } : Shared) = s3
  have hp3 : s3.heap = s2.heap.push { cls := .type "dict", data := .dict #[] } := by rw [← e3]
  have I3 : Inv X pins σ (upd G D (.dK [])) s3 := by
    rw [← e3]
    refine I2.laid (t' := s2.toks) (fun b o z => Heap.get?_push_of_some _ z) (Nat.le_of_eq eD) ?_
    rw [← eD]
    exact dk_empty s2.heap I2.big
  have low : ∀ b ∈ fp, b < s2.heap.objs.size := fun b hb => let ⟨o, z, _⟩ := T.obj _ _ t2 b hb; Heap.lt_size z
  have f3 : ∀ b ∈ fp, FpOk X pins (upd G D (.dK [])) b ∧ b < s3.heap.objs.size := fun b hb => by
    have lt := low b hb
    refine ⟨⟨?_, (f2 b hb).2⟩, by rw [hp3, Heap.size_push]; exact Nat.lt_succ_of_lt lt⟩
    rw [upd_ne (by rw [← eD]; exact Nat.ne_of_lt lt)]
    exact (f2 b hb).1
  have t3 : tn 0 s3.heap := T.keep _ _ _ t2 fun b _ o z => by rw [hp3]; exact Heap.get?_push_of_some _ z
  have I4 := block_start I3 ok nd f3
  have qg := pg s3 (upd G D (.dK [])) s3.heap.objs.size (cellsFrom (s3.heap.objs.size + 1) sc.names (cloFrom X.env.cells sc.names [])) fp
  have qt := pt s3 (upd G D (.dK [])) s3.heap.objs.size (cellsFrom (s3.heap.objs.size + 1) sc.names (cloFrom X.env.cells sc.names [])) fp
  have qi1 := pi1 s3 (upd G D (.dK [])) s3.heap.objs.size (cellsFrom (s3.heap.objs.size + 1) sc.names (cloFrom X.env.cells sc.names [])) fp
  have qg1 := pg1 s3 (upd G D (.dK [])) s3.heap.objs.size (cellsFrom (s3.heap.objs.size + 1) sc.names (cloFrom X.env.cells sc.names [])) fp
  have qt1 := pt1 s3 (upd G D (.dK [])) s3.heap.objs.size (cellsFrom (s3.heap.objs.size + 1) sc.names (cloFrom X.env.cells sc.names [])) fp
  have qk := pk s3 (upd G D (.dK [])) s3.heap.objs.size (cellsFrom (s3.heap.objs.size + 1) sc.names (cloFrom X.env.cells sc.names [])) fp
  have qv := pv s3 (upd G D (.dK [])) s3.heap.objs.size (cellsFrom (s3.heap.objs.size + 1) sc.names (cloFrom X.env.cells sc.names [])) fp
  show codeAny _ _ (.compStart (DcX ek ev g0 j0 g1 j1 ts0 ts1 sc po) 0 (.ref it) (.ref D) (compEnvC sc (cellsFrom (s3.heap.objs.size + 1) sc.names (cloFrom X.env.cells sc.names [])) s3.heap.objs.size X.env)) (compPost (model X.prog X.w) X.A X.xe none (EP X pins σ Q) (.ref D) s3.heap.objs.size) { s3 with heap := pushCells (s3.heap.push { cls := .type "dict", data := .dict #[] }) sc.names }
  have n3 : ∀ b ∈ fp, (upd G D (.dK [])) b = none := fun b hb => (f3 b hb).1.1
  generalize ece : compEnvC sc (cellsFrom (s3.heap.objs.size + 1) sc.names (cloFrom X.env.cells sc.names [])) s3.heap.objs.size X.env = ce at I4 qg qt qi1 qg1 qt1 qk qv ⊢
  have cl : ce.locals = s3.heap.objs.size := by subst ece; rfl
  generalize eG : upd G D (.dK []) = G3 at I3 I4 qg qt qi1 qg1 qt1 qk qv w0 n3 f3
  generalize e4 : ({ s3 with heap := pushCells (s3.heap.push { cls := .type "dict", data := .dict #[] }) sc.names } : Shared) = s4 at I4 ⊢
  have t4 : tn 0 s4.heap := T.keep _ _ _ t3 fun b _ o z => by rw [← e4]; exact pushCells_keeps _ _ _ _ (Heap.get?_push_of_some _ z)
  have own0 : ∀ {τ : L2.St} {G' : Hp} {t : Shared}, Inv (X.blk s3 G3 sc ce fp) [] τ G' t → (∀ b ∈ fp, G' b = none) → ∀ b ∈ fp, FpOk (X.blk s3 G3 sc ce fp) [] G' b := fun {τ G' t} K hn b hb =>
    ⟨hn b hb, (K.ok.exf b hb).1, K.ok.exfs b hb, .inl hb, fun x c z => (K.ok.exf b hb).2 x c z, fun p hp => absurd (show p ∈ ([] : List (Addr × Obj)) ++ [] from hp) (by simp)⟩
  refine codeAny_compStart_dict ?loop (T.self X.A 0 _ _ _ t4 ?loop)
  refine dcx_loop0 (fold1 ce) (fun n t => ∃ i G', Inv (X.blk s3 G3 sc ce fp) [] (wipe σ (own.map (·.2))) G' t ∧ tn i t.heap ∧ (∀ b ∈ fp, G' b = none) ∧ W i n G') ?_ m0 ⟨0, G3, I4, t4, n3, w0⟩
  rintro n s5 ⟨i, G5, I5, t5, n5, w5⟩
  rcases turn i n G5 w5 with ⟨stop, qq⟩ | ⟨go, N, hN, step⟩
  · refine thnF (T.done (X.blk s3 G3 sc ce fp) rfl rfl rfl calm i [] s5 _ G5 (fun _ _ => False) I5 (own0 I5 n5) t5 stop) fun r s6 ⟨er, I6⟩ => ?_
    subst er
    have I7 : Inv X pins σ G5 s6 := I3.call' (ch := fp) I6.os I6.base I6.hok I6.bare fun b hb => ⟨(f3 b hb).1.2.2.2.1, (f3 b hb).1.2.1, (f3 b hb).1.2.2.2.2.1, (f3 b hb).1.2.2.2.2.2⟩
    have none5 : G5 s3.heap.objs.size = none := by
      have z : G5 ce.locals = none := I6.free
      rwa [cl] at z
    obtain ⟨m, ns, _⟩ := I6.loc
    have ns : s6.heap.Ns ce.locals m := ns
    rw [cl] at ns
    refine ⟨m, ns, fun h'' sb => ?_⟩
    obtain ⟨a0, a1, a2, a3, a4, a5⟩ := I3.fpOk (pins := pins) (Nat.le_refl _) none5
    exact ⟨.ref D, G5, I7.turned (t' := s6.toks) (fun b o hb z => (sb.2 b hb).trans z) a0 a1 a3 a4 a5, rfl, qq⟩
  refine thnF (T.item (X.blk s3 G3 sc ce fp) rfl rfl rfl calm i [] s5 _ G5 (fun _ _ => False) I5 (own0 I5 n5) t5 go) fun r s6 ⟨u, er, q6⟩ => ?_
  subst er
  refine thnF q6 fun _ s7 ⟨x, G7, I7, r7, y7, t7, n7⟩ => ?_
  refine thnF (qg.run _ s7 _ G7 x u _ (I7.pinned (own0 I7 n7) (T.obj _ _ t7)) r7 (step x G7 y7)) fun _ s8 ⟨τ, G8, I8, w8, q8⟩ => ?_
  refine thnF (qt.run _ s8 τ G8 _ I8 q8) fun b s9 ⟨G9, I9, q9⟩ => ?_
  have back : ∀ {τ9 : L2.St} {t : Shared} {G' : Hp}, Inv (X.blk s3 G3 sc ce fp) ([] ++ pinsAt fp s7.heap) τ9 G' t → (wipe σ (own.map (·.2))).length = τ9.length → (∀ (j : Nat) v, (wipe σ (own.map (·.2)))[j]? = some (some v) → τ9[j]? = some (some v)) → N G' →
      ∃ m, m < n ∧ ∃ i G', Inv (X.blk s3 G3 sc ce fp) [] (wipe σ (own.map (·.2))) G' t ∧ tn i t.heap ∧ (∀ b ∈ fp, G' b = none) ∧ W i m G' := fun {τ9 t G'} K hl hk hz => by
    obtain ⟨m', lt, w'⟩ := hN G' hz
    have pinned : ∀ b ∈ fp, ∀ o, s7.heap.get? b = some o → t.heap.get? b = some o ∧ G' b = none := fun b hb o z =>
      let k := K.pin (b, o) (List.mem_append_right _ (List.mem_append_right _ (mem_pinsAt hb z)))
      ⟨k.1, k.2.1⟩
    exact ⟨m', lt, i + 1, G', (K.unpinned (pins := [])).weak hl hk, T.keep _ _ _ t7 fun b hb o z => (pinned b hb o z).1, fun b hb => let ⟨o, z, _⟩ := T.obj _ _ t7 b hb; (pinned b hb o z).2, w'⟩
  have len8 : (wipe σ (own.map (·.2))).length = τ.length := by rw [← w8, wipe_length]
  have know8 : ∀ (j : Nat) v, (wipe σ (own.map (·.2)))[j]? = some (some v) → τ[j]? = some (some v) := fun j v z => by rw [← w8] at z; exact (wipe_some z).1
  have know9 : ∀ (j : Nat) v, (wipe σ (own.map (·.2)))[j]? = some (some v) → (wipe τ vs1)[j]? = some (some v) := fun j v z => by
    rw [← w8] at z
    obtain ⟨z1, z2⟩ := wipe_some z
    rw [wipe_out fun k => z2 (sub j k)]
    exact z1
  cases b
  · simp only [Bool.false_eq_true, if_false] at q9 ⊢
    exact back I9 len8 know8 q9
  simp only [if_true] at q9 ⊢
  refine thnF (qi1.run _ s9 τ G9 _ I9 q9) fun z10 s10 hz => thnF hz fun itv s11 w11 => ?_
  obtain ⟨it1, fp1, tn1, J1, G11, e1, I11, T1, t11, f11, W1, ⟨m1, v1⟩, turn1⟩ := w11
  subst e1
  have own1 : ∀ {G' : Hp}, (∀ b ∈ fp1, G' b = none) → ∀ b ∈ fp1, FpOk (X.blk s3 G3 sc ce fp) ([] ++ pinsAt fp s7.heap) G' b := fun hn b hb => ⟨hn b hb, (f11 b hb).2⟩
  refine dcx_start1 ?loop1 (T1.self X.A 0 _ _ _ t11 ?loop1)
  refine dcx_loop1 (fun k t => ∃ j G', Inv (X.blk s3 G3 sc ce fp) ([] ++ pinsAt fp s7.heap) (wipe τ vs1) G' t ∧ tn1 j t.heap ∧ (∀ b ∈ fp1, G' b = none) ∧ W1 j k G') ?_ m1 ⟨0, G11, I11.weak (wipe_length _ _) (fun j v z => (wipe_some z).1), t11, fun b hb => (f11 b hb).1, v1⟩
  rintro k s12 ⟨j, G12, I12, t12, n12, w12⟩
  rcases turn1 j k G12 w12 with ⟨stop1, z1⟩ | ⟨go1, N1, hN1, step1⟩
  · refine thnF (T1.done (X.blk s3 G3 sc ce fp) rfl rfl rfl calm j _ s12 (wipe τ vs1) G12 (fun _ _ => False) I12 (own1 n12) t12 stop1) fun r s13 ⟨er, I13⟩ => ?_
    subst er
    exact back I13 (len8.trans (wipe_length τ vs1).symm) know9 z1
  refine thnF (T1.item (X.blk s3 G3 sc ce fp) rfl rfl rfl calm j _ s12 (wipe τ vs1) G12 (fun _ _ => False) I12 (own1 n12) t12 go1) fun r s13 ⟨u1, er, q13⟩ => ?_
  subst er
  refine thnF q13 fun _ s14 ⟨x1, G14, I14, r14, y14, t14, n14⟩ => ?_
  refine thnF (qg1.run _ s14 (wipe τ vs1) G14 x1 u1 _ (I14.pinned (own1 n14) (T1.obj _ _ t14)) r14 (step1 x1 G14 y14)) fun _ s15 ⟨τ1, G15, I15, w15, q15⟩ => ?_
  refine thnF (qt1.run _ s15 τ1 G15 _ I15 q15) fun b1 s16 ⟨G16, I16, q16⟩ => ?_
  have back1 : ∀ {t : Shared} {G' : Hp}, Inv (X.blk s3 G3 sc ce fp) (([] ++ pinsAt fp s7.heap) ++ pinsAt fp1 s14.heap) τ1 G' t → N1 G' → ∃ m, m < k ∧ ∃ j G', Inv (X.blk s3 G3 sc ce fp) ([] ++ pinsAt fp s7.heap) (wipe τ vs1) G' t ∧ tn1 j t.heap ∧ (∀ b ∈ fp1, G' b = none) ∧ W1 j m G' := fun {t G'} K hz => by
    obtain ⟨m', lt, w'⟩ := hN1 G' hz
    have pinned : ∀ b ∈ fp1, ∀ o, s14.heap.get? b = some o → t.heap.get? b = some o ∧ G' b = none := fun b hb o z =>
      let k := K.pin (b, o) (List.mem_append_right _ (List.mem_append_right _ (mem_pinsAt hb z)))
      ⟨k.1, k.2.1⟩
    exact ⟨m', lt, j + 1, G', K.unpinned.weak (by rw [← w15, wipe_length]) (fun j v z => by rw [← w15] at z; exact (wipe_some z).1), T1.keep _ _ _ t14 fun b hb o z => (pinned b hb o z).1, fun b hb => let ⟨o, z, _⟩ := T1.obj _ _ t14 b hb; (pinned b hb o z).2, w'⟩
  cases b1
  · simp only [Bool.false_eq_true, if_false] at q16 ⊢
    exact back1 I16 q16
  simp only [if_true] at q16 ⊢
  refine thnF (qk.run _ s16 τ1 G16 _ I16 q16) fun y17 s17 ⟨yk, G17, I17, r17, q17⟩ => ?_
  refine thnF (qv.run _ s17 τ1 G17 _ I17 q17) fun y18 s18 ⟨yv, G18, I18, r18, kvs, key, ek', hD, room, q18⟩ => ?_
  subst ek'
  exact d_dictSet (X := X.blk s3 G3 sc ce fp) I18 hD room r17 r18 fun s19 I19 => back1 I19 q18⟩
end
end StX
/-! the layout's mathematics: which step precedes which, which are open -/
namespace Oo
open PySem
/-- its operands are in order without a point -/
def Kd.fixd : Kd → Bool
  | .thn => true
  | k => k.grd
def Ex.fx (mk : List (List Nat)) (p : List Nat) : Ex → Bool
  | .num _ => decide (p ∈ mk)
  | .nd k _ => k.fixd || decide (p ∈ mk)
def Ex.gd : Ex → Bool
  | .num _ => false
  | .nd k _ => k.grd
theorem own_le (e : Ex) : e.own ≤ 2 := by
  cases e with
  | num n => simp [Ex.own]
  | nd k os => cases k <;> simp [Ex.own, Kd.steps]
mutual
theorem steps_le : ∀ e : Ex, e.steps ≤ 2 * e.nodes
  | .num n => by simp [Ex.steps]
  | .nd k os => by
    have h1 := stepss_le os
    have h2 := own_le (.nd k os)
    simp only [Ex.own] at h2
    simp only [Ex.steps, Ex.nodes]
    omega
theorem stepss_le : ∀ es : List Ex, Ex.stepss es ≤ 2 * Ex.nodess es
  | [] => by simp [Ex.stepss]
  | e :: r => by
    have h1 := steps_le e
    have h2 := stepss_le r
    simp only [Ex.stepss, Ex.nodess]
    omega
end
/-- i is among the s numbers from n on -/
def inR (n s i : Nat) : Bool := decide (n ≤ i) && decide (i < n + s)
theorem inR_iff {n s i : Nat} : inR n s i = true ↔ n ≤ i ∧ i < n + s := by
  unfold inR
  rw [Bool.and_eq_true, decide_eq_true_eq, decide_eq_true_eq]
theorem inR_not {n s i : Nat} (h : ¬ (n ≤ i ∧ i < n + s)) : inR n s i = false := by
  cases e : inR n s i with
  | false => rfl
  | true => exact absurd (inR_iff.mp e) h
mutual
/-- i precedes j within the expression at p, its steps numbered from n on -/
def Ex.prec (mk : List (List Nat)) : Ex → List Nat → Nat → Nat → Nat → Bool
  | .num _, _, _, _, _ => false
  | .nd k os, p, n, i, j => (inR n (Ex.stepss os + k.steps) i && inR (n + Ex.stepss os) k.steps j && decide (i < j)) || Ex.precs mk (k.fixd || decide (p ∈ mk)) k.grd os p 0 n i j
def Ex.precs (mk : List (List Nat)) (fx g : Bool) : List Ex → List Nat → Nat → Nat → Nat → Nat → Bool
  | [], _, _, _, _, _ => false
  | e :: r, p, a, n, i, j => Ex.prec mk e (p ++ [a]) n i j || (fx && (!g || decide (a = 0)) && inR n e.steps i && inR (n + e.steps) (Ex.stepss r) j) || Ex.precs mk fx g r p (a + 1) (n + e.steps) i j
end
mutual
/-- i and j are open within it -/
def Ex.opn (mk : List (List Nat)) : Ex → List Nat → Nat → Nat → Nat → Bool
  | .num _, _, _, _, _ => false
  | .nd k os, p, n, i, j => Ex.opns mk (k.fixd || decide (p ∈ mk)) os p 0 n i j
def Ex.opns (mk : List (List Nat)) (fx : Bool) : List Ex → List Nat → Nat → Nat → Nat → Nat → Bool
  | [], _, _, _, _, _ => false
  | e :: r, p, a, n, i, j => Ex.opn mk e (p ++ [a]) n i j || (!fx && ((inR n e.steps i && inR (n + e.steps) (Ex.stepss r) j) || (inR n e.steps j && inR (n + e.steps) (Ex.stepss r) i))) || Ex.opns mk fx r p (a + 1) (n + e.steps) i j
end
theorem bor {a b : Bool} : (a || b) = true ↔ a = true ∨ b = true := by cases a <;> cases b <;> simp
theorem band {a b : Bool} : (a && b) = true ↔ a = true ∧ b = true := by cases a <;> cases b <;> simp
mutual
theorem prec_rng {mk : List (List Nat)} : ∀ (e : Ex) (p : List Nat) (n i j : Nat), e.prec mk p n i j = true → n ≤ i ∧ i < j ∧ j < n + e.steps
  | .num _, p, n, i, j, h => by simp [Ex.prec] at h
  | .nd k os, p, n, i, j, h => by
    simp only [Ex.prec, bor, band, inR_iff, decide_eq_true_eq] at h
    simp only [Ex.steps]
    rcases h with ⟨⟨h1, h2⟩, h3⟩ | h
    · omega
    · have := precs_rng os p 0 n i j h
      omega
theorem precs_rng {mk : List (List Nat)} {fx g : Bool} : ∀ (os : List Ex) (p : List Nat) (a n i j : Nat), Ex.precs mk fx g os p a n i j = true → n ≤ i ∧ i < j ∧ j < n + Ex.stepss os
  | [], p, a, n, i, j, h => by simp [Ex.precs] at h
  | e :: r, p, a, n, i, j, h => by
    simp only [Ex.precs, bor, band, inR_iff] at h
    simp only [Ex.stepss]
    rcases h with (h | ⟨⟨_, h1⟩, h2⟩) | h
    · have := prec_rng e (p ++ [a]) n i j h
      omega
    · omega
    · have := precs_rng r p (a + 1) (n + e.steps) i j h
      omega
end
mutual
theorem opn_rng {mk : List (List Nat)} : ∀ (e : Ex) (p : List Nat) (n i j : Nat), e.opn mk p n i j = true → n ≤ i ∧ i < n + e.steps ∧ n ≤ j ∧ j < n + e.steps
  | .num _, p, n, i, j, h => by simp [Ex.opn] at h
  | .nd k os, p, n, i, j, h => by
    simp only [Ex.opn] at h
    simp only [Ex.steps]
    have := opns_rng os p 0 n i j h
    omega
theorem opns_rng {mk : List (List Nat)} {fx : Bool} : ∀ (os : List Ex) (p : List Nat) (a n i j : Nat), Ex.opns mk fx os p a n i j = true → n ≤ i ∧ i < n + Ex.stepss os ∧ n ≤ j ∧ j < n + Ex.stepss os
  | [], p, a, n, i, j, h => by simp [Ex.opns] at h
  | e :: r, p, a, n, i, j, h => by
    simp only [Ex.opns, bor, band, inR_iff] at h
    simp only [Ex.stepss]
    rcases h with (h | ⟨_, h1 | h1⟩) | h
    · have := opn_rng e (p ++ [a]) n i j h
      omega
    · omega
    · omega
    · have := opns_rng r p (a + 1) (n + e.steps) i j h
      omega
end
theorem prec_no {mk : List (List Nat)} {e : Ex} {p : List Nat} {n i j : Nat} (h : ¬ (n ≤ i ∧ i < j ∧ j < n + e.steps)) : e.prec mk p n i j = false := by
  cases q : e.prec mk p n i j with
  | false => rfl
  | true => exact absurd (prec_rng e p n i j q) h
theorem precs_no {mk : List (List Nat)} {fx g : Bool} {os : List Ex} {p : List Nat} {a n i j : Nat} (h : ¬ (n ≤ i ∧ i < j ∧ j < n + Ex.stepss os)) : Ex.precs mk fx g os p a n i j = false := by
  cases q : Ex.precs mk fx g os p a n i j with
  | false => rfl
  | true => exact absurd (precs_rng os p a n i j q) h
theorem opn_no {mk : List (List Nat)} {e : Ex} {p : List Nat} {n i j : Nat} (h : ¬ (n ≤ i ∧ i < n + e.steps ∧ n ≤ j ∧ j < n + e.steps)) : e.opn mk p n i j = false := by
  cases q : e.opn mk p n i j with
  | false => rfl
  | true => exact absurd (opn_rng e p n i j q) h
theorem opns_no {mk : List (List Nat)} {fx : Bool} {os : List Ex} {p : List Nat} {a n i j : Nat} (h : ¬ (n ≤ i ∧ i < n + Ex.stepss os ∧ n ≤ j ∧ j < n + Ex.stepss os)) : Ex.opns mk fx os p a n i j = false := by
  cases q : Ex.opns mk fx os p a n i j with
  | false => rfl
  | true => exact absurd (opns_rng os p a n i j q) h
theorem stepss_take_succ (os : List Ex) (a : Nat) (h : a < os.length) : Ex.stepss (os.take (a + 1)) = Ex.stepss (os.take a) + os[a].steps := by
  rw [take_succ_get os a h, stepss_append]
theorem stepss_take_le : ∀ (os : List Ex) (a : Nat), Ex.stepss (os.take a) ≤ Ex.stepss os
  | [], a => by simp [Ex.stepss]
  | e :: r, 0 => by simp [Ex.stepss]
  | e :: r, a + 1 => by
    have := stepss_take_le r a
    simp only [List.take_succ_cons, Ex.stepss]
    omega
theorem stepss_child (os : List Ex) (a : Nat) (h : a < os.length) : Ex.stepss (os.take a) + os[a].steps ≤ Ex.stepss os := by
  rw [← stepss_take_succ os a h]
  exact stepss_take_le os (a + 1)
/-- how many of the operands ahead of the a-th are ahead of its steps -/
def aheadN (g : Bool) (a : Nat) : Nat := if g then min a 1 else a
theorem precs_at {mk : List (List Nat)} {fx g : Bool} : ∀ (os : List Ex) (p : List Nat) (a0 n a i j : Nat) (h : a < os.length), n + Ex.stepss (os.take a) ≤ j → j < n + Ex.stepss (os.take a) + os[a].steps →
    Ex.precs mk fx g os p a0 n i j = (os[a].prec mk (p ++ [a0 + a]) (n + Ex.stepss (os.take a)) i j || (fx && inR n (Ex.stepss (os.take (if g then (if a0 = 0 then min a 1 else 0) else a))) i))
  | [], p, a0, n, a, i, j, h, h1, h2 => absurd h (by simp)
  | e :: r, p, a0, n, 0, i, j, h, h1, h2 => by
    simp only [List.take_zero, Ex.stepss, Nat.add_zero, List.getElem_cons_zero] at h1 h2 ⊢
    simp only [Ex.precs]
    rw [precs_no (by omega), inR_not (i := j) (by omega), Bool.and_false, Bool.or_false, Bool.or_false]
    have e0 : Ex.stepss ((e :: r).take (if g = true then if a0 = 0 then min 0 1 else 0 else 0)) = 0 := by
      cases g <;> simp [Ex.stepss]
    rw [e0, inR_not (n := n) (s := 0) (by omega), Bool.and_false, Bool.or_false]
  | e :: r, p, a0, n, a + 1, i, j, h, h1, h2 => by
    have hr : a < r.length := by simpa using h
    simp only [List.take_succ_cons, Ex.stepss, List.getElem_cons_succ] at h1 h2 ⊢
    have hc := stepss_child r a hr
    simp only [Ex.precs]
    rw [precs_at r p (a0 + 1) (n + e.steps) a i j hr (by omega) (by omega), prec_no (e := e) (by omega), Bool.false_or]
    have h3 : inR (n + e.steps) (Ex.stepss r) j = true := inR_iff.mpr ⟨by omega, by omega⟩
    rw [h3, Bool.and_true, show n + e.steps + Ex.stepss (r.take a) = n + (e.steps + Ex.stepss (r.take a)) by omega, show p ++ [a0 + 1 + a] = p ++ [a0 + (a + 1)] by rw [show a0 + 1 + a = a0 + (a + 1) by omega]]
    generalize r[a].prec mk (p ++ [a0 + (a + 1)]) (n + (e.steps + Ex.stepss (r.take a))) i j = B
    have key : (fx && (!g || decide (a0 = 0)) && inR n e.steps i || (fx && inR (n + e.steps) (Ex.stepss (r.take (if g = true then if a0 + 1 = 0 then min a 1 else 0 else a))) i)) =
        (fx && inR n (Ex.stepss ((e :: r).take (if g = true then if a0 = 0 then min (a + 1) 1 else 0 else a + 1))) i) := by
      cases fx with
      | false => rfl
      | true =>
        cases g with
        | true =>
          simp only [if_true, if_neg (show ¬ (a0 + 1 = 0) by omega), List.take_zero, Ex.stepss, Bool.not_true, Bool.false_or, Bool.true_and]
          rw [inR_not (n := n + e.steps) (s := 0) (by omega), Bool.or_false]
          by_cases h0 : a0 = 0
          · rw [if_pos h0, decide_eq_true h0, Bool.true_and, show min (a + 1) 1 = 0 + 1 by omega, List.take_succ_cons]
            simp [Ex.stepss]
          · rw [if_neg h0, decide_eq_false h0, Bool.false_and, List.take_zero]
            exact (inR_not (by simp [Ex.stepss])).symm
        | false =>
          simp only [Bool.false_eq_true, if_false, Bool.not_false, Bool.true_or, Bool.true_and, List.take_succ_cons, Ex.stepss]
          rw [Bool.eq_iff_iff, bor, inR_iff, inR_iff, inR_iff]
          omega
    rw [← key]
    cases B <;> simp
/-- what else is open with the steps of the a-th operand -/
theorem opns_at {mk : List (List Nat)} {fx : Bool} : ∀ (os : List Ex) (p : List Nat) (a0 n a i j : Nat) (h : a < os.length), n + Ex.stepss (os.take a) ≤ j → j < n + Ex.stepss (os.take a) + os[a].steps →
    Ex.opns mk fx os p a0 n i j = (os[a].opn mk (p ++ [a0 + a]) (n + Ex.stepss (os.take a)) i j || (!fx && (inR n (Ex.stepss os) i && !inR (n + Ex.stepss (os.take a)) os[a].steps i)))
  | [], p, a0, n, a, i, j, h, h1, h2 => absurd h (by simp)
  | e :: r, p, a0, n, 0, i, j, h, h1, h2 => by
    simp only [List.take_zero, Ex.stepss, Nat.add_zero, List.getElem_cons_zero] at h1 h2 ⊢
    simp only [Ex.opns]
    rw [opns_no (by omega), inR_not (i := j) (n := n + e.steps) (by omega), Bool.and_false, Bool.false_or, Bool.or_false]
    have hj : inR n e.steps j = true := inR_iff.mpr ⟨h1, h2⟩
    rw [hj, Bool.true_and]
    congr 2
    rw [Bool.eq_iff_iff, band, Bool.not_eq_true', ← Bool.not_eq_true, inR_iff, inR_iff, inR_iff]
    omega
  | e :: r, p, a0, n, a + 1, i, j, h, h1, h2 => by
    have hr : a < r.length := by simpa using h
    simp only [List.take_succ_cons, Ex.stepss, List.getElem_cons_succ] at h1 h2 ⊢
    have hc := stepss_child r a hr
    simp only [Ex.opns]
    rw [opns_at r p (a0 + 1) (n + e.steps) a i j hr (by omega) (by omega), opn_no (e := e) (by omega), Bool.false_or]
    have h3 : inR (n + e.steps) (Ex.stepss r) j = true := inR_iff.mpr ⟨by omega, by omega⟩
    have h4 : inR n e.steps j = false := inR_not (by omega)
    rw [h3, h4, Bool.and_true, Bool.false_and, Bool.or_false, show n + e.steps + Ex.stepss (r.take a) = n + (e.steps + Ex.stepss (r.take a)) by omega, show p ++ [a0 + 1 + a] = p ++ [a0 + (a + 1)] by rw [show a0 + 1 + a = a0 + (a + 1) by omega]]
    generalize r[a].opn mk (p ++ [a0 + (a + 1)]) (n + (e.steps + Ex.stepss (r.take a))) i j = B
    have key : (!fx && inR n e.steps i || (!fx && (inR (n + e.steps) (Ex.stepss r) i && !inR (n + (e.steps + Ex.stepss (r.take a))) r[a].steps i))) = (!fx && (inR n (e.steps + Ex.stepss r) i && !inR (n + (e.steps + Ex.stepss (r.take a))) r[a].steps i)) := by
      cases fx with
      | true => rfl
      | false =>
        simp only [Bool.not_false, Bool.true_and]
        rw [Bool.eq_iff_iff, bor, band, band, Bool.not_eq_true', ← Bool.not_eq_true, inR_iff, inR_iff, inR_iff, inR_iff]
        omega
    rw [← key]
    cases B <;> simp
end Oo
namespace Oo
open PySem PySem.Spec PyProof.Rows L2
/-! sets of steps as ints -/
def Bits (x : Int) (S : Nat → Bool) : Prop := ∃ b : Nat, x = (b : Int) ∧ ∀ i, b.testBit i = S i
theorem Bits.congr {x : Int} {S T : Nat → Bool} (h : Bits x S) (e : ∀ i, S i = T i) : Bits x T := by
  obtain ⟨b, rfl, t⟩ := h
  exact ⟨b, rfl, fun i => (t i).trans (e i)⟩
theorem Bits.zero : Bits 0 (fun _ => false) := ⟨0, rfl, fun i => Nat.zero_testBit i⟩
theorem Bits.or {x y : Int} {S T : Nat → Bool} (h : Bits x S) (k : Bits y T) : Bits (Builtin.bitOr x y) (fun i => S i || T i) := by
  obtain ⟨a, rfl, s⟩ := h
  obtain ⟨b, rfl, t⟩ := k
  refine ⟨a ||| b, ?_, fun i => by rw [Nat.testBit_or, s, t]⟩
  rw [bitOr_nn (Int.natCast_nonneg _) (Int.natCast_nonneg _), Int.toNat_natCast, Int.toNat_natCast]
theorem Bits.and {x y : Int} {S T : Nat → Bool} (h : Bits x S) (k : Bits y T) : Bits (Builtin.bitAnd x y) (fun i => S i && T i) := by
  obtain ⟨a, rfl, s⟩ := h
  obtain ⟨b, rfl, t⟩ := k
  refine ⟨a &&& b, ?_, fun i => by rw [Nat.testBit_and, s, t]⟩
  rw [bitAnd_pp (Int.natCast_nonneg _) (Int.natCast_nonneg _), Int.toNat_natCast, Int.toNat_natCast]
theorem Bits.andNot {x y : Int} {S T : Nat → Bool} (h : Bits x S) (k : Bits y T) : Bits (Builtin.bitAnd x (Builtin.bitNot y)) (fun i => S i && !T i) := by
  obtain ⟨a, rfl, s⟩ := h
  obtain ⟨b, rfl, t⟩ := k
  refine ⟨a ^^^ (a &&& b), ?_, fun i => ?_⟩
  · rw [bitAnd_not, bitAnd_pp (Int.natCast_nonneg _) (Int.natCast_nonneg _), Int.toNat_natCast, Int.toNat_natCast]
    have e1 := nat_or_add_and (a ^^^ (a &&& b)) (a &&& b)
    have e2 : (a ^^^ (a &&& b)) ||| (a &&& b) = a := by
      apply Nat.eq_of_testBit_eq
      intro i
      rw [Nat.testBit_or, Nat.testBit_xor, Nat.testBit_and]
      cases a.testBit i <;> cases b.testBit i <;> rfl
    have e3 : (a ^^^ (a &&& b)) &&& (a &&& b) = 0 := by
      apply Nat.eq_of_testBit_eq
      intro i
      rw [Nat.testBit_and, Nat.testBit_xor, Nat.testBit_and, Nat.zero_testBit]
      cases a.testBit i <;> cases b.testBit i <;> rfl
    rw [e2, e3] at e1
    omega
  · rw [Nat.testBit_xor, Nat.testBit_and, s, t]
    show _ = (S i && !T i)
    cases S i <;> cases T i <;> rfl
theorem Bits.low (k : Nat) : Bits (2 ^ k - 1) (fun i => decide (i < k)) := by
  refine ⟨2 ^ k - 1, ?_, fun i => Nat.testBit_two_pow_sub_one k i⟩
  have : 0 < 2 ^ k := Nat.pow_pos (by decide)
  rw [← PySem.W.kbt_cast k]
  omega
theorem Bits.shl {x : Int} {S : Nat → Bool} (h : Bits x S) (k : Nat) : Bits (x * 2 ^ k) (fun i => decide (k ≤ i) && S (i - k)) := by
  obtain ⟨a, rfl, s⟩ := h
  refine ⟨a <<< k, ?_, fun i => by rw [Nat.testBit_shiftLeft, s]⟩
  rw [Nat.shiftLeft_eq, Int.natCast_mul, PySem.W.kbt_cast]
theorem Bits.rng (n s : Nat) : Bits ((2 ^ s - 1) * 2 ^ n) (inR n s) := by
  refine ((Bits.low s).shl n).congr fun i => ?_
  unfold inR
  by_cases h : n ≤ i
  · rw [decide_eq_true h, Bool.true_and, Bool.true_and]
    congr 1
    exact propext ⟨fun _ => by omega, fun _ => by omega⟩
  · rw [decide_eq_false h, Bool.false_and, Bool.false_and]
theorem Bits.uniq {x y : Int} {S T : Nat → Bool} (h : Bits x S) (k : Bits y T) (e : ∀ i, S i = T i) : x = y := by
  obtain ⟨a, rfl, s⟩ := h
  obtain ⟨b, rfl, t⟩ := k
  congr 1
  apply Nat.eq_of_testBit_eq
  intro i
  rw [s, t, e]
theorem Bits.test {x : Int} {S : Nat → Bool} (h : Bits x S) (k : Nat) : Builtin.bitAnd (x / 2 ^ k) 1 = if S k = true then 1 else 0 := by
  obtain ⟨a, rfl, s⟩ := h
  rw [← s k, ← PySem.W.kbt_cast k, ← Int.natCast_ediv]
  rw [show (1 : Int) = ((1 : Nat) : Int) from rfl, bitAnd_pp (Int.natCast_nonneg _) (Int.natCast_nonneg _), Int.toNat_natCast, Int.toNat_natCast, Nat.and_one_is_mod, Nat.testBit_eq_decide_div_mod_eq]
  by_cases z : a / 2 ^ k % 2 = 1
  · rw [decide_eq_true z, if_pos rfl, z]
  · rw [decide_eq_false z, if_neg (by decide)]
    have : a / 2 ^ k % 2 = 0 := by omega
    rw [this]; rfl
theorem Bits.small {x : Int} {S : Nat → Bool} (h : Bits x S) (n : Nat) (z : ∀ i, n ≤ i → S i = false) : 0 ≤ x ∧ x < 2 ^ n := by
  obtain ⟨a, rfl, s⟩ := h
  refine ⟨Int.natCast_nonneg _, ?_⟩
  rw [← PySem.W.kbt_cast n]
  have := Nat.lt_pow_two_of_testBit a (n := n) fun i hi => by rw [s, z i hi]
  omega
end Oo
namespace Oo
open PySem L2 PyProof.Rows LamX StX ClX
abbrev sIsGuard : Stmt := top 41
abbrev sIsInOrder : Stmt := top 52
abbrev sSpan : Stmt := top 50
abbrev sSInit : Stmt := inClass sSpan 0
abbrev sJoined : Stmt := top 56
abbrev sBelow : Stmt := top 55
def grds : List Str := ["and", "or", "choose"]
structure TxG (K : PySem.W.Frag) (aG : Addr) : Prop where
  g : ∀ H, SqT K H aG (grds.map V.str)
theorem word_grd (k : Kd) : inV (.str k.word) (grds.map V.str) = k.grd := by
  cases k <;> (simp only [Kd.word, Kd.grd, grds]; decide +kernel)
def Kd.isThn : Kd → Bool
  | .thn => true | _ => false
theorem word_thn (k : Kd) : decide (V.str k.word = .str "then") = k.isThn := by
  cases k <;> (show decide (V.str _ = _) = _; first | exact decide_eq_true rfl | exact decide_eq_false (by simp only [Kd.word]; decide +kernel))
/-- the kinds of a node's own steps -/
def Kd.kinds : Kd → List Str
  | .read _ => ["read"]
  | .store _ => ["store"]
  | .step _ _ _ => ["read", "store"]
  | .call _ => ["call"]
  | _ => []
def Ex.kinds : Ex → List Str
  | .num _ => []
  | .nd k _ => k.kinds
theorem kinds_len (e : Ex) : e.kinds.length = e.own := by
  cases e with
  | num n => rfl
  | nd k os => cases k <;> rfl
structure TxO2 (K : PySem.W.Frag) (w : World) (dO : Addr) : Prop where
  low : (dO == sysModules) = false
  yes : ∀ k : Kd, k.steps ≠ 0 → ∃ a : Addr, KDct K w dO k.word (.ref a) ∧ ∀ H, SqT K H a (k.kinds.map V.str)
  no : ∀ k : Kd, k.steps = 0 → KMiss K w dO k.word
def spIsGuard : Sp := fun vs H Q _ => ∃ (v : V) (e : Ex), vs = [v] ∧ InE H e v ∧ Q (.bl e.gd) H
def spIsInOrder : Sp := fun vs H Q _ => ∃ (v : V) (e : Ex), vs = [v] ∧ InE H e v ∧ Q (.bl (e.fx [] [])) H
def spKinds (K : PySem.W.Frag) : Sp := fun vs H Q _ => ∃ (v : V) (e : Ex), vs = [v] ∧ InE H e v ∧ ∀ (q : Addr) (H' : Hp), SqT K H' q (e.kinds.map V.str) → Same H H' → Q (.ref q) H'
/-- the numbers of a node's own steps -/
def Ex.owns (e : Ex) (n : Nat) : List Nat := (List.range e.own).map fun a => n + (e.steps - e.own) + a
def nv_ (l : List Nat) : List V := l.map fun (i : Nat) => V.int (i : Int)
/-- a span as an object -/
structure SpanFs (fs : List (Str × V)) (vp vf : V) (tb : Addr) (fx : Bool) (s : Nat) (to : Addr) (ins : Int) : Prop where
  p : fs.lookup ("path" : Str) = some vp
  f : fs.lookup ("form" : Str) = some vf
  b : fs.lookup ("below" : Str) = some (.ref tb)
  x : fs.lookup ("is_fixed" : Str) = some (.bl fx)
  s : fs.lookup ("size" : Str) = some (.int (s : Int))
  o : fs.lookup ("own" : Str) = some (.ref to)
  i : fs.lookup ("inside" : Str) = some (.int ins)
  d : ∃ b : Bool, fs.lookup ("is_idle" : Str) = some (.bl b)
def insI (e : Ex) (n : Nat) : Int := (2 ^ e.steps - 1) * 2 ^ n
def SpanObj (CS : Addr) (mk : List (List Nat)) (H : Hp) (e : Ex) (p : List Nat) (n : Nat) (v : V) (ws : List V) : Prop := ∃ (a dx : Addr) (fs : List (Str × V)) (vp vf : V) (tb to : Addr), v = .ref a ∧ H a = some (.ins CS dx fs) ∧ SpanFs fs vp vf tb (e.fx mk p) e.steps to (insI e n) ∧ PathAt H vp p ∧ InE H e vf ∧ H tb = some (.tup ws) ∧ H to = some (.tup (nv_ (e.owns n)))
mutual
def SpanAt (CS : Addr) (mk : List (List Nat)) (H : Hp) : Ex → List Nat → Nat → V → Prop
  | .num c, p, n, v => SpanObj CS mk H (.num c) p n v []
  | .nd k os, p, n, v => ∃ ws, SpanObj CS mk H (.nd k os) p n v ws ∧ SpansAt CS mk H os p 0 n ws
def SpansAt (CS : Addr) (mk : List (List Nat)) (H : Hp) : List Ex → List Nat → Nat → Nat → List V → Prop
  | [], _, _, _, ws => ws = []
  | e :: r, p, a, n, ws => ∃ v ws', ws = v :: ws' ∧ SpanAt CS mk H e (p ++ [a]) n v ∧ SpansAt CS mk H r p (a + 1) (n + e.steps) ws'
end
/-- tuples and objects with fields stay -/
def KI (CS : Addr) (H H' : Hp) : Prop := (∀ q xs, H q = some (.tup xs) → H' q = some (.tup xs)) ∧ ∀ q dx fs v, fs.lookup ("path" : Str) = some v → H q = some (.ins CS dx fs) → H' q = some (.ins CS dx fs)
theorem KI.same {CS : Addr} {H H' : Hp} (s : Same H H') : KI CS H H' := ⟨fun q xs z => s _ _ z, fun q dx fs v _ z => s _ _ z⟩
theorem KI.trans {CS : Addr} {H H1 H2 : Hp} (a : KI CS H H1) (b : KI CS H1 H2) : KI CS H H2 := ⟨fun q xs z => b.1 _ _ (a.1 _ _ z), fun q dx fs v y z => b.2 _ _ _ _ y (a.2 _ _ _ _ y z)⟩
theorem KI.but {CS C p dx0 : Addr} {fs0 : List (Str × V)} {H H' : Hp} (hp : H p = some (.ins C dx0 fs0)) (b : But p H H') (h0 : fs0.lookup ("path" : Str) = none := by rfl) : KI CS H H' :=
  ⟨fun q xs z => b _ _ (fun w => by rw [w, hp] at z; cases z) z, fun q dx fs v y z => b _ _ (fun w => by rw [w, hp] at z; cases z; rw [h0] at y; cases y) z⟩
theorem KI.lst {CS a : Addr} {H : Hp} {xs : List V} {o : HO} (e : H a = some (.lst xs)) : KI CS H (upd H a o) :=
  ⟨fun q ys z => by rw [upd_ne (fun w => by rw [w, e] at z; cases z)]; exact z, fun q dx fs v _ z => by rw [upd_ne (fun w => by rw [w, e] at z; cases z)]; exact z⟩
theorem SpanObj.keep {CS : Addr} {mk : List (List Nat)} {H H' : Hp} {e : Ex} {p : List Nat} {n : Nat} {v : V} {ws : List V} (h : SpanObj CS mk H e p n v ws) (k : KI CS H H') : SpanObj CS mk H' e p n v ws := by
  obtain ⟨a, dx, fs, vp, vf, tb, to, rfl, h1, hf, h2, h3, h4, h5⟩ := h
  refine ⟨a, dx, fs, vp, vf, tb, to, rfl, ?_, hf, h2.keep k.1, h3.keep k.1, k.1 _ _ h4, k.1 _ _ h5⟩
  exact k.2 _ _ _ _ hf.p h1
mutual
theorem SpanAt.keep {CS : Addr} {mk : List (List Nat)} {H H' : Hp} (k : KI CS H H') : ∀ (e : Ex) (p : List Nat) (n : Nat) (v : V), SpanAt CS mk H e p n v → SpanAt CS mk H' e p n v
  | .num c, p, n, v, h => by
    unfold SpanAt at h ⊢
    exact h.keep k
  | .nd kd os, p, n, v, h => by
    unfold SpanAt at h ⊢
    obtain ⟨ws, h1, h2⟩ := h
    exact ⟨ws, h1.keep k, SpansAt.keep k os p 0 n ws h2⟩
theorem SpansAt.keep {CS : Addr} {mk : List (List Nat)} {H H' : Hp} (k : KI CS H H') : ∀ (os : List Ex) (p : List Nat) (a n : Nat) (ws : List V), SpansAt CS mk H os p a n ws → SpansAt CS mk H' os p a n ws
  | [], p, a, n, ws, h => by unfold SpansAt at h ⊢; exact h
  | e :: r, p, a, n, ws, h => by
    unfold SpansAt at h ⊢
    obtain ⟨v, ws', rfl, h1, h2⟩ := h
    exact ⟨v, ws', rfl, SpanAt.keep k e (p ++ [a]) n v h1, SpansAt.keep k r p (a + 1) (n + e.steps) ws' h2⟩
end
theorem SpanAt.obj {CS : Addr} {mk : List (List Nat)} {H : Hp} {e : Ex} {p : List Nat} {n : Nat} {v : V} (h : SpanAt CS mk H e p n v) : ∃ ws, SpanObj CS mk H e p n v ws ∧ SpansAt CS mk H e.ops p 0 n ws := by
  cases e with
  | num c =>
    unfold SpanAt at h
    refine ⟨[], h, ?_⟩
    show SpansAt CS mk H [] p 0 n []
    unfold SpansAt
    rfl
  | nd k os =>
    unfold SpanAt at h
    exact h
theorem SpanAt.of {CS : Addr} {mk : List (List Nat)} {H : Hp} {e : Ex} {p : List Nat} {n : Nat} {v : V} {ws : List V} (h1 : SpanObj CS mk H e p n v ws) (h2 : SpansAt CS mk H e.ops p 0 n ws) : SpanAt CS mk H e p n v := by
  cases e with
  | num c =>
    have h2 : SpansAt CS mk H [] p 0 n ws := h2
    unfold SpansAt at h2
    subst h2
    unfold SpanAt
    exact h1
  | nd k os =>
    unfold SpanAt
    exact ⟨ws, h1, h2⟩
theorem SpansAt.length {CS : Addr} {mk : List (List Nat)} {H : Hp} : ∀ {os : List Ex} {p : List Nat} {a n : Nat} {ws : List V}, SpansAt CS mk H os p a n ws → ws.length = os.length
  | [], p, a, n, ws, h => by unfold SpansAt at h; rw [h]; rfl
  | e :: r, p, a, n, ws, h => by
    unfold SpansAt at h
    obtain ⟨v, ws', rfl, _, h2⟩ := h
    rw [List.length_cons, List.length_cons, h2.length]
theorem SpansAt.get {CS : Addr} {mk : List (List Nat)} {H : Hp} : ∀ {os : List Ex} {p : List Nat} {a n : Nat} {ws : List V}, SpansAt CS mk H os p a n ws → ∀ (i : Nat) (hi : i < os.length), ∃ v, ws[i]? = some v ∧ SpanAt CS mk H os[i] (p ++ [a + i]) (n + Ex.stepss (os.take i)) v
  | [], p, a, n, ws, h, i, hi => absurd hi (by simp)
  | e :: r, p, a, n, ws, h, 0, hi => by
    unfold SpansAt at h
    obtain ⟨v, ws', rfl, h1, _⟩ := h
    exact ⟨v, rfl, by simpa [Ex.stepss] using h1⟩
  | e :: r, p, a, n, ws, h, i + 1, hi => by
    unfold SpansAt at h
    obtain ⟨v, ws', rfl, _, h2⟩ := h
    obtain ⟨u, hu, su⟩ := h2.get i (by simpa using hi)
    refine ⟨u, by simpa using hu, ?_⟩
    simp only [List.getElem_cons_succ, List.take_succ_cons, Ex.stepss]
    rw [show a + (i + 1) = a + 1 + i by omega, show n + (e.steps + Ex.stepss (r.take i)) = n + e.steps + Ex.stepss (r.take i) by omega]
    exact su
theorem SpansAt.snoc {CS : Addr} {mk : List (List Nat)} {H : Hp} : ∀ {os : List Ex} {p : List Nat} {a n : Nat} {ws : List V} {e : Ex} {v : V}, SpansAt CS mk H os p a n ws → SpanAt CS mk H e (p ++ [a + os.length]) (n + Ex.stepss os) v → SpansAt CS mk H (os ++ [e]) p a n (ws ++ [v])
  | [], p, a, n, ws, e, v, h, hv => by
    unfold SpansAt at h
    subst h
    show SpansAt CS mk H [e] p a n [v]
    unfold SpansAt
    refine ⟨v, [], rfl, by simpa [Ex.stepss] using hv, ?_⟩
    unfold SpansAt
    rfl
  | x :: r, p, a, n, ws, e, v, h, hv => by
    unfold SpansAt at h
    obtain ⟨u, ws', rfl, h1, h2⟩ := h
    show SpansAt CS mk H (x :: (r ++ [e])) p a n (u :: (ws' ++ [v]))
    unfold SpansAt
    refine ⟨u, ws' ++ [v], rfl, h1, h2.snoc ?_⟩
    rw [List.length_cons, Ex.stepss] at hv
    rw [show a + 1 + r.length = a + (r.length + 1) by omega, show n + x.steps + Ex.stepss r = n + (x.steps + Ex.stepss r) by omega]
    exact hv
theorem own_steps_le (e : Ex) : e.own ≤ e.steps := by
  cases e with
  | num n => simp [Ex.own]
  | nd k os => simp only [Ex.own, Ex.steps]; omega
theorem steps_own (e : Ex) : e.steps - e.own = Ex.stepss e.ops := by
  cases e with
  | num n => simp [Ex.own, Ex.ops, Ex.steps, Ex.stepss]
  | nd k os => simp only [Ex.own, Ex.ops, Ex.steps]; omega
theorem ins_bits (e : Ex) (n : Nat) : Bits (insI e n) (inR n e.steps) := Bits.rng n e.steps
def teOwnAt : TE := fun σ H Q => ∃ n m a : Nat, σ[4]? = some (some (.int (n : Int))) ∧ σ[6]? = some (some (.int (m : Int))) ∧ σ[9]? = some (some (.int (0 + (a : Int)))) ∧ Q (.int ((n + m + a : Nat) : Int)) H
def teSize (CS : Addr) (mk : List (List Nat)) : TE := fun σ H Q => ∃ v e p n, σ[7]? = some (some v) ∧ SpanAt CS mk H e p n v ∧ Q (.int (e.steps : Int)) H
def teIdle (CS : Addr) (mk : List (List Nat)) : TE := fun σ H Q => ∃ v e p n, σ[7]? = some (some v) ∧ SpanAt CS mk H e p n v ∧ ∀ b : Bool, Q (.bl b) H
def spSInit (CS : Addr) (mk : List (List Nat)) : Sp := fun vs H Q _ => ∃ (a dx : Addr) (vp vf : V) (tb : Addr) (e : Ex) (p : List Nat) (n : Nat) (ws : List V), vs = [.ref a, vp, vf, .ref tb, .int (n : Int), .bl (e.fx mk p)] ∧ H a = some (.ins CS dx []) ∧ PathAt H vp p ∧ InE H e vf ∧ H tb = some (.tup ws) ∧ SpansAt CS mk H e.ops p 0 n ws ∧ e.nodes ≤ 900 ∧ n ≤ 2000 ∧
  ∀ H', SpanAt CS mk H' e p n (.ref a) → But a H H' → Q .non H'
theorem steps_sum : ∀ os : List Ex, (os.map fun o => (o.steps : Int)).sum = (Ex.stepss os : Int)
  | [] => rfl
  | e :: r => by
    rw [List.map_cons, List.sum_cons, steps_sum r, Ex.stepss]
    omega
theorem putF_len (f : Str) (v : V) (fs : List (Str × V)) {n : Nat} (h : fs.length ≤ n) : (putF f v fs).length ≤ n + 1 := Nat.le_trans (length_putF _ _ _) (Nat.succ_le_succ h)
def spJoined (CS : Addr) (mk : List (List Nat)) : Sp := fun vs H Q _ => ∃ (t : Addr) (ws : List V) (os : List Ex) (p : List Nat) (n : Nat), vs = [.ref t] ∧ H t = some (.tup ws) ∧ SpansAt CS mk H os p 0 n ws ∧ ∀ x, Bits x (inR n (Ex.stepss os)) → Q (.int x) H
def spBelow (CS : Addr) (mk : List (List Nat)) : Sp := fun vs H Q _ => ∃ (v : V) (e : Ex) (p : List Nat) (n a : Nat), vs = [v, .int (a : Int)] ∧ SpanAt CS mk H e p n v ∧ a < e.ops.length ∧ ∀ (t : Addr) (ws : List V) (H' : Hp), H' t = some (.tup ws) → SpansAt CS mk H' (e.ops.take (if e.fx mk p then aheadN e.gd a else 0)) p 0 n ws → Same H H' → Q (.ref t) H'
section
variable {P : Program} {w : World} {K : PySem.W.Frag} {mg : Str → Option Value} {base : Heap} {X : Cx}
theorem scIsGuard : FnScope ["node"] ["node"] (defScope sIsGuard) := ⟨rfl, rfl, rfl, by decide +kernel, rfl, by decide +kernel, by decide +kernel⟩
theorem ok_isguard {f fi aG : Addr} {fd fdi : FuncData} (F : Fun K "is_guard" "is_guard" sIsGuard f fd) (TG : TxG K aG) (mGUARDS : mg "GUARDS" = some (.ref aG))
    (GI : FnOk P w K mg base CX0 1 fi fdi ["value"] spIsInt) (kI : PySem.W.keepIn K (.ref fi) = true) (bI : Binds K fdi ["value"] []) (mI : mg "is_integer" = some (.ref fi)) : FnOk P w K mg base CX0 2 f fd ["node"] spIsGuard := by
  refine F.ok scIsGuard (fun vs H Q E h => ?_) (fun cdv A outer s H vs Q E hr h => ?_)
  · obtain ⟨v, e, rfl, _⟩ := h
    rfl
  obtain ⟨v, e, rfl, ie, q⟩ := h
  refine ⟨_, (pss_one (ps_ret (pe_and (pe_not (pe_call GI hr rfl mI kI bI .nil pass0 (pa_cons (pv 0) pa_nil))) (pe_one (pe_cmpR op_in_seq (pe_ix ix_tup (pv 0) pe_int (fun _ _ => rfl)) (pe_globD rfl mGUARDS) (by rfl)))))), ?_⟩
  cases e with
  | num n =>
    unfold InE at ie
    subst ie
    exact ⟨_, rfl, .inl ⟨n, rfl, true, rfl, false, rfl, iteF q⟩⟩
  | nd k os =>
    unfold InE at ie
    obtain ⟨p, ws, rfl, ios, na⟩ := ie
    obtain ⟨tl, ht⟩ := na.tup
    refine ⟨_, rfl, .inr ⟨p, _, rfl, ht, false, rfl, true, rfl, iteT ?_⟩⟩
    refine ⟨_, rfl, p, _, _, _, rfl, rfl, SqT.of ht, at0 _ _, aG, _, rfl, .inr (TG.g _), rfl, all_flat_strs _, ?_⟩
    rw [word_grd]
    exact q
theorem scIsInOrder : FnScope ["node"] ["node"] (defScope sIsInOrder) := ⟨rfl, rfl, rfl, by decide +kernel, rfl, by decide +kernel, by decide +kernel⟩
theorem ok_isinorder {f fi fg : Addr} {fd fdi fdg : FuncData} (F : Fun K "is_in_order" "is_in_order" sIsInOrder f fd)
    (GI : FnOk P w K mg base CX0 1 fi fdi ["value"] spIsInt) (kI : PySem.W.keepIn K (.ref fi) = true) (bI : Binds K fdi ["value"] []) (mI : mg "is_integer" = some (.ref fi))
    (GG : FnOk P w K mg base CX0 2 fg fdg ["node"] spIsGuard) (kG : PySem.W.keepIn K (.ref fg) = true) (bG : Binds K fdg ["node"] []) (mG : mg "is_guard" = some (.ref fg)) : FnOk P w K mg base CX0 3 f fd ["node"] spIsInOrder := by
  refine F.ok scIsInOrder (fun vs H Q E h => ?_) (fun cdv A outer s H vs Q E hr h => ?_)
  · obtain ⟨v, e, rfl, _⟩ := h
    rfl
  obtain ⟨v, e, rfl, ie, q⟩ := h
  have hr1 : Room 1 _ := hr.mono (by decide)
  refine ⟨_, (pss_one (ps_ret (pe_and (pe_not (pe_call GI hr1 rfl mI kI bI .nil pass0 (pa_cons (pv 0) pa_nil))) (pe_one (pe_or (pe_cmpR op_eq (pe_ix ix_tup (pv 0) pe_int (fun _ _ => rfl)) pe_str (nomark _)) (pe_one (pe_call GG hr rfl mG kG bG .nil pass0 (pa_cons (pv 0) pa_nil)))))))), ?_⟩
  cases e with
  | num n =>
    unfold InE at ie
    subst ie
    exact ⟨_, rfl, .inl ⟨n, rfl, true, rfl, false, rfl, iteF q⟩⟩
  | nd k os =>
    have ie0 := ie
    unfold InE at ie
    obtain ⟨p, ws, rfl, ios, na⟩ := ie
    obtain ⟨tl, ht⟩ := na.tup
    refine ⟨_, rfl, .inr ⟨p, _, rfl, ht, false, rfl, true, rfl, iteT ?_⟩⟩
    refine ⟨_, rfl, p, _, _, _, rfl, rfl, SqT.of ht, at0 _ _, rfl, _, rfl, ?_⟩
    rw [word_thn]
    have q' : Q (.bl (k.fixd)) H := by
      have := q
      simp only [Ex.fx, List.not_mem_nil, decide_false, Bool.or_false] at this
      exact this
    cases k with
    | thn => exact iteT q'
    | _ => exact iteF ⟨_, rfl, _, _, rfl, ie0, q'⟩
theorem scSInit : FnScope ["self", "path", "form", "below", "first", "is_fixed", "within", "span", "many", "at"] ["self", "path", "form", "below", "first", "is_fixed"] (defScope sSInit) := ⟨rfl, rfl, rfl, by decide +kernel, rfl, by decide +kernel, by decide +kernel⟩
structure TxS (K : PySem.W.Frag) (C : Addr) : Prop where
  cl : Cls K C
  nP : NoAttr K C "path"
  nF : NoAttr K C "form"
  nB : NoAttr K C "below"
  nX : NoAttr K C "is_fixed"
  nS : NoAttr K C "size"
  nO : NoAttr K C "own"
  nI : NoAttr K C "inside"
  nD : NoAttr K C "is_idle"
theorem ok_sinit {CS f fo fg : Addr} {fd fdo fdg : FuncData} {mk : List (List Nat)} {dvs : List V} {kws : List (Str × V)} (F : FunD K "__init__" "Span.__init__" (defArgs sSInit) (defBody sSInit) (defScope sSInit) dvs kws f fd) (T : TxS K CS) (msu : mg "sum" = none) (ml : mg "len" = none) (mt : mg "tuple" = none) (mr : mg "range" = none)
    (GO : FnOk P w K mg base CX0 2 fo fdo ["node"] (spKinds K)) (kO : PySem.W.keepIn K (.ref fo) = true) (bO : Binds K fdo ["node"] []) (mO : mg "own_steps" = some (.ref fo)) (mal : mg "all" = none)
    (GG : FnOk P w K mg base CX0 2 fg fdg ["node"] spIsGuard) (kG : PySem.W.keepIn K (.ref fg) = true) (bG : Binds K fdg ["node"] []) (mG : mg "is_guard" = some (.ref fg)) :
    FnOk P w K mg base CX0 3 f fd ["self", "path", "form", "below", "first", "is_fixed"] (spSInit CS mk) := by
  refine FunD.ok0 F scSInit (fun vs H Q E h => ?_) (fun cdv A outer s H vs Q E hr h => ?_)
  · obtain ⟨a, dx, vp, vf, tb, e, p, n, ws, rfl, _⟩ := h
    rfl
  obtain ⟨a, dx, vp, vf, tb, e, p, n, ws, rfl, ea, hp, ie, eb, hs, hn, hn2, q⟩ := h
  refine ⟨_, (pss_cons (ps_set (i := 6) scSInit.nd rfl (.inr rfl) (pe_callB (cr_sum rfl) (by rfl) msu (by decide +kernel) (pa_cons (pe_lc (own := [("span", 7)]) (g := gName 7) (tt := tYes) (by rfl) scSInit.nd (pi_tup (pv 3)) (blkOk_by (own := [("span", 7)]) (N := ["self", "path", "form", "below", "first", "is_fixed", "within", "span", "many", "at"]) (sc := defScope sSInit) (by decide +kernel)) (fun _ _ _ _ _ => (pg_name (i := 7) scSInit.nd rfl (Or.inl rfl))) (fun _ _ _ _ _ => pts_nil) (fun _ _ _ _ _ => (pe_as (t' := teSize CS mk) (pe_fld (pv 7) rfl) ?c2))) pa_nil)))
    (pss_cons (ps_set (i := 8) scSInit.nd rfl (.inl rfl) (pe_callB call_len_seq (by rfl) ml PySem.boot_len (pa_cons (pe_call GO hr rfl mO kO bO .nil pass0 (pa_cons (pv 2) pa_nil)) pa_nil)))
    (pss_cons (ps_fld (pv 0) (pv 1) rfl)
    (pss_cons (ps_fld (pv 0) (pv 2) rfl)
    (pss_cons (ps_fld (pv 0) (pv 3) rfl)
    (pss_cons (ps_fld (pv 0) (pv 5) rfl)
    (pss_cons (ps_fld (pv 0) (pe_op op_add (pv 6) (pv 8)) rfl)
    (pss_cons (ps_fld (pv 0) (pe_tupleOf (by rfl) mt (pe_lc (own := [("at", 9)]) (g := gName 9) (tt := tYes) (by rfl) scSInit.nd (pi_range1 (by rfl) mr (pa_cons (pv 8) pa_nil)) (blkOk_by (own := [("at", 9)]) (N := ["self", "path", "form", "below", "first", "is_fixed", "within", "span", "many", "at"]) (sc := defScope sSInit) (by decide +kernel)) (fun _ _ _ _ _ => (pg_name (i := 9) scSInit.nd rfl (Or.inl rfl))) (fun _ _ _ _ _ => pts_nil) (fun _ _ _ _ _ => (pe_as (t' := teOwnAt) (pe_op op_add (pe_op op_add (pv 4) (pv 6)) (pv 9)) ?c1)))) rfl)
    (pss_cons (ps_fld (pv 0) (pe_op op_shlN (pe_op op_sub (pe_op op_oneShl pe_int (pe_fld (pv 0) rfl)) pe_int) (pv 4)) rfl)
    (pss_one (ps_fld (pv 0) (pe_and (pe_cmpR op_eq (pe_fld (pv 0) rfl) pe_int (nomark _)) (pe_and (pe_not (pe_call GG hr rfl mG kG bG .nil pass0 (pa_cons (pv 2) pa_nil))) (pe_one (pe_callB (cr_all rfl) (by rfl) mal (by decide +kernel) (pa_cons (pe_lc (own := [("span", 7)]) (g := gName 7) (tt := tYes) (by rfl) scSInit.nd (pi_tup (pv 3)) (blkOk_by (own := [("span", 7)]) (N := ["self", "path", "form", "below", "first", "is_fixed", "within", "span", "many", "at"]) (sc := defScope sSInit) (by decide +kernel)) (fun _ _ _ _ _ => (pg_name (i := 7) scSInit.nd rfl (Or.inl rfl))) (fun _ _ _ _ _ => pts_nil) (fun _ _ _ _ _ => (pe_as (t' := teIdle CS mk) (pe_fld (pv 7) rfl) ?c3))) pa_nil))))) rfl))))))))))), ?_⟩
  case c1 =>
    rintro σ H Q ⟨n, m, a, e4, e6, e9, q⟩
    refine ⟨_, e4, _, e6, _, _, rfl, rfl, _, e9, _, _, rfl, rfl, ?_⟩
    have : (n : Int) + (m : Int) + (0 + (a : Int)) = ((n + m + a : Nat) : Int) := by omega
    show Q (.int ((n : Int) + (m : Int) + (0 + (a : Int)))) H
    rw [this]
    exact q
  case c2 =>
    rintro σ H Q ⟨v, e, p, n, e7, hs, q⟩
    obtain ⟨ws, ⟨a, dx, fs, vp, vf, tb, to, rfl, h1, hf, _⟩, _⟩ := hs.obj
    exact ⟨_, e7, a, CS, dx, fs, _, rfl, h1, T.cl, T.nS, hf.s, q⟩
  case c3 =>
    rintro σ H Q ⟨v, e, p, n, e7, hs, q⟩
    obtain ⟨ws, ⟨a, dx, fs, vp, vf, tb, to, rfl, h1, hf, _⟩, _⟩ := hs.obj
    obtain ⟨b, hb⟩ := hf.d
    exact ⟨_, e7, a, CS, dx, fs, _, rfl, h1, T.cl, T.nD, hb, q b⟩
  obtain ⟨pq, rfl, epq⟩ := hp
  have hlen := hs.length
  have hno := nodes_ops e
  have hng := nodess_ge e.ops
  have hst := steps_le e
  have how := own_le e
  have hso := steps_own e
  have hol := own_steps_le e
  refine ⟨_, rfl, tb, rfl, ⟨_, SqT.of eb⟩, fun D nD => ?_⟩
  refine lc_tup (K := K) (a := tb) (xs := ws) (fun i H' => H' D = some (.lst (((e.ops.take i).map fun o => (o.steps : Int)).map V.int)) ∧ Same H H') ⟨upd_same, same_up nD⟩ (fun i H' _ h => SqT.of (h.2 _ _ eb)) ?_ ?_
  · rintro i u H1 hi ⟨eD, s1⟩
    have hil : i < e.ops.length := by rw [← hlen]; exact (List.getElem?_eq_some_iff.mp hi).1
    obtain ⟨v, hv, sv⟩ := hs.get i hil
    have : u = v := Option.some.inj (hi.symm.trans hv)
    subst this
    refine ⟨rfl, yes_i ⟨_, _, _, _, rfl, sv.keep (KI.same s1) _ _ _ _, _, eD, ?_, ?_, fun b o z => by rw [upd_ne (ne_of_none z nD)]; exact s1 _ _ z⟩⟩
    · rw [List.length_map, List.length_map, List.length_take]
      exact small1000 (by omega)
    · rw [take_succ_get _ i hil, List.map_append, List.map_append]
      exact upd_same
  rintro H1 ⟨eD, s1⟩
  rw [hlen, List.take_length] at eD
  refine ⟨D, _, rfl, SqL.of eD, ?_⟩
  rw [steps_sum]
  refine ⟨_, rfl, _, e, rfl, ie.keep (same_t s1), fun qa H2 hk s2 => ⟨qa, _, rfl, .inr hk, ?_⟩⟩
  have s12 := s1.trans s2
  have eA := s12 _ _ ea
  rw [List.length_map, kinds_len]
  refine ⟨_, rfl, _, rfl, a, CS, dx, _, rfl, eA, T.cl, T.nP, by simp, ?_⟩
  refine ⟨_, rfl, _, rfl, a, CS, dx, _, rfl, upd_same, T.cl, T.nF, by simp [putF], ?_⟩
  refine ⟨_, rfl, _, rfl, a, CS, dx, _, rfl, upd_same, T.cl, T.nB, Nat.lt_of_le_of_lt (plen2 _ _ _ _) (by decide), ?_⟩
  refine ⟨_, rfl, _, rfl, a, CS, dx, _, rfl, upd_same, T.cl, T.nX, Nat.lt_of_le_of_lt (plen3 _ _ _ _ _ _) (by decide), ?_⟩
  refine ⟨_, rfl, _, rfl, _, _, rfl, rfl, _, rfl, a, CS, dx, _, rfl, upd_same, T.cl, T.nS, by ((refine Nat.lt_of_le_of_lt (m := 40) ?_ (by decide); repeat (first | exact Nat.zero_le _ | refine putF_len _ _ _ ?_))), ?_⟩
  have e1 : ((Ex.stepss e.ops : Nat) : Int) + ((e.own : Nat) : Int) = ((e.steps : Nat) : Int) := by omega
  -- the own steps
  refine ⟨_, rfl, _, rfl, by omega, by omega, fun D2 nD2 => ?_⟩
  have na : D2 ≠ a := fun z => by rw [z, upd_same] at nD2; cases nD2
  have na' : a ≠ D2 := fun z => na z.symm
  refine lc_range (lo := 0) (n := e.own) (fun i H' => H' D2 = some (.lst (nv_ ((List.range i).map fun a => n + (e.steps - e.own) + a))) ∧ H' a = some (.ins CS dx (putF "size" (.int (e.steps : Int)) (putF "is_fixed" (.bl (e.fx mk p)) (putF "below" (.ref tb) (putF "form" vf (putF "path" (.ref pq) [])))))) ∧ ∀ b o, b ≠ a → H2 b = some o → H' b = some o) ⟨upd_same, ?_, fun b o nb z => ?_⟩ ?_ ?_
  · rw [upd_ne na', upd_same, ← e1]
  · have nbd : b ≠ D2 := fun w => by
      rw [upd_ne na, upd_ne na, upd_ne na, upd_ne na, upd_ne na] at nD2
      rw [w, nD2] at z
      cases z
    rw [upd_ne nbd, upd_ne nb, upd_ne nb, upd_ne nb, upd_ne nb, upd_ne nb]
    exact z
  · rintro i H3 hi ⟨eD2, ea3, b3⟩
    refine ⟨rfl, yes_i ⟨n, Ex.stepss e.ops, i, rfl, rfl, rfl, _, eD2, small1000 (by simp [nv_]; omega), ?_, by rw [upd_ne na']; exact ea3, fun b o nb z => ?_⟩⟩
    · rw [List.range_succ, List.map_append, hso]
      simp only [nv_, List.map_append, List.map_cons, List.map_nil]
      exact upd_same
    · have nbd : b ≠ D2 := fun w => by
        rw [upd_ne na, upd_ne na, upd_ne na, upd_ne na, upd_ne na] at nD2
        rw [w, nD2] at z
        cases z
      rw [upd_ne nbd]
      exact b3 b o nb z
  rintro H3 ⟨eD2, ea3, b3⟩
  refine .inl ⟨D2, _, rfl, SqL.of eD2, fun to nto => ?_⟩
  have nat : a ≠ to := ne_of_none ea3 nto
  refine ⟨_, rfl, a, CS, dx, _, rfl, by rw [upd_ne nat]; exact ea3, T.cl, T.nO, by ((refine Nat.lt_of_le_of_lt (m := 40) ?_ (by decide); repeat (first | exact Nat.zero_le _ | refine putF_len _ _ _ ?_))), ?_⟩
  refine ⟨_, rfl, a, CS, dx, _, _, rfl, upd_same, T.cl, T.nS, by ((repeat (first | (rw [lookup_putF, if_pos rfl]) | rw [lookup_putF, if_neg (by decide +kernel)]))), e.steps, rfl, rfl, by omega, _, _, rfl, rfl, _, rfl, _, n, rfl, rfl, ?_, ?_⟩
  · refine shl_ok (n := e.steps) ?_ (by omega)
    have h2 : (0 : Int) < 2 ^ e.steps := PySem.W.kbt_pos _
    have h3 : ((2 ^ e.steps : Nat) : Int) = 2 ^ e.steps := PySem.W.kbt_cast _
    show ((2 : Int) ^ e.steps - 1).natAbs < 2 ^ e.steps
    omega
  refine ⟨_, rfl, a, CS, dx, _, rfl, upd_same, T.cl, T.nI, by ((refine Nat.lt_of_le_of_lt (m := 40) ?_ (by decide); repeat (first | exact Nat.zero_le _ | refine putF_len _ _ _ ?_))), ?_⟩
  have b4 : But a H2 (upd (upd (upd H3 to (.tup (nv_ (e.owns n)))) a (.ins CS dx (putF "own" (.ref to) (putF "size" (.int (e.steps : Int)) (putF "is_fixed" (.bl (e.fx mk p)) (putF "below" (.ref tb) (putF "form" vf (putF "path" (.ref pq) [])))))))) a (.ins CS dx (putF "inside" (.int (insI e n)) (putF "own" (.ref to) (putF "size" (.int (e.steps : Int)) (putF "is_fixed" (.bl (e.fx mk p)) (putF "below" (.ref tb) (putF "form" vf (putF "path" (.ref pq) []))))))))) := fun b o nb z => by
    have h := b3 b o nb z
    rw [upd_ne nb, upd_ne nb, upd_ne (ne_of_none h nto)]
    exact h
  have hal := fun (b : Bool) (H5 : Hp) (e5 : H5 a = some (.ins CS dx (putF "inside" (.int (insI e n)) (putF "own" (.ref to) (putF "size" (.int (e.steps : Int)) (putF "is_fixed" (.bl (e.fx mk p)) (putF "below" (.ref tb) (putF "form" vf (putF "path" (.ref pq) []))))))))) (t5 : H5 to = some (.tup (nv_ (e.owns n)))) (b5 : But a H2 H5) =>
    show Q .non (upd H5 a (.ins CS dx (putF "is_idle" (.bl b) (putF "inside" (.int (insI e n)) (putF "own" (.ref to) (putF "size" (.int (e.steps : Int)) (putF "is_fixed" (.bl (e.fx mk p)) (putF "below" (.ref tb) (putF "form" vf (putF "path" (.ref pq) [])))))))))) by
      have b6 : But a H2 (upd H5 a (.ins CS dx (putF "is_idle" (.bl b) (putF "inside" (.int (insI e n)) (putF "own" (.ref to) (putF "size" (.int (e.steps : Int)) (putF "is_fixed" (.bl (e.fx mk p)) (putF "below" (.ref tb) (putF "form" vf (putF "path" (.ref pq) [])))))))))) := fun b o nb z => by
        rw [upd_ne nb]
        exact b5 b o nb z
      have ki := KI.but (CS := CS) eA b6
      have k12 := (KI.same (CS := CS) s12).trans ki
      refine q _ (SpanAt.of (ws := ws) ⟨a, dx, _, .ref pq, vf, tb, to, rfl, upd_same, ⟨?_, ?_, ?_, ?_, ?_, ?_, ?_, b, ?_⟩, ⟨pq, rfl, k12.1 _ _ epq⟩, ie.keep k12.1, k12.1 _ _ eb, ?_⟩ (hs.keep k12 _ _ _ _ _)) (fun b o nb z => b6 b o nb (s12 _ _ z))
      · ((repeat (first | (rw [lookup_putF, if_pos rfl]) | rw [lookup_putF, if_neg (by decide +kernel)])))
      · ((repeat (first | (rw [lookup_putF, if_pos rfl]) | rw [lookup_putF, if_neg (by decide +kernel)])))
      · ((repeat (first | (rw [lookup_putF, if_pos rfl]) | rw [lookup_putF, if_neg (by decide +kernel)])))
      · ((repeat (first | (rw [lookup_putF, if_pos rfl]) | rw [lookup_putF, if_neg (by decide +kernel)])))
      · ((repeat (first | (rw [lookup_putF, if_pos rfl]) | rw [lookup_putF, if_neg (by decide +kernel)])))
      · ((repeat (first | (rw [lookup_putF, if_pos rfl]) | rw [lookup_putF, if_neg (by decide +kernel)])))
      · ((repeat (first | (rw [lookup_putF, if_pos rfl]) | rw [lookup_putF, if_neg (by decide +kernel)])))
      · rw [lookup_putF, if_pos rfl]
      · rw [upd_ne nat.symm]
        exact t5
  have ea7 : (upd (upd (upd H3 to (.tup (nv_ (e.owns n)))) a (.ins CS dx (putF "own" (.ref to) (putF "size" (.int (e.steps : Int)) (putF "is_fixed" (.bl (e.fx mk p)) (putF "below" (.ref tb) (putF "form" vf (putF "path" (.ref pq) [])))))))) a (.ins CS dx (putF "inside" (.int (insI e n)) (putF "own" (.ref to) (putF "size" (.int (e.steps : Int)) (putF "is_fixed" (.bl (e.fx mk p)) (putF "below" (.ref tb) (putF "form" vf (putF "path" (.ref pq) []))))))))) a = some (.ins CS dx (putF "inside" (.int (insI e n)) (putF "own" (.ref to) (putF "size" (.int (e.steps : Int)) (putF "is_fixed" (.bl (e.fx mk p)) (putF "below" (.ref tb) (putF "form" vf (putF "path" (.ref pq) [])))))))) := upd_same
  have et7 : (upd (upd (upd H3 to (.tup (nv_ (e.owns n)))) a (.ins CS dx (putF "own" (.ref to) (putF "size" (.int (e.steps : Int)) (putF "is_fixed" (.bl (e.fx mk p)) (putF "below" (.ref tb) (putF "form" vf (putF "path" (.ref pq) [])))))))) a (.ins CS dx (putF "inside" (.int (insI e n)) (putF "own" (.ref to) (putF "size" (.int (e.steps : Int)) (putF "is_fixed" (.bl (e.fx mk p)) (putF "below" (.ref tb) (putF "form" vf (putF "path" (.ref pq) []))))))))) to = some (.tup (nv_ (e.owns n))) := by
    rw [upd_ne nat.symm, upd_ne nat.symm]
    exact upd_same
  have hbw : ∀ H5, Same (upd (upd (upd H3 to (.tup (nv_ (e.owns n)))) a (.ins CS dx (putF "own" (.ref to) (putF "size" (.int (e.steps : Int)) (putF "is_fixed" (.bl (e.fx mk p)) (putF "below" (.ref tb) (putF "form" vf (putF "path" (.ref pq) [])))))))) a (.ins CS dx (putF "inside" (.int (insI e n)) (putF "own" (.ref to) (putF "size" (.int (e.steps : Int)) (putF "is_fixed" (.bl (e.fx mk p)) (putF "below" (.ref tb) (putF "form" vf (putF "path" (.ref pq) []))))))))) H5 → But a H2 H5 := fun H5 s5 b o nb z => s5 _ _ (b4 b o nb z)
  have ki7 := KI.but (CS := CS) eA b4
  have k17 := (KI.same (CS := CS) s12).trans ki7
  have tb7 := k17.1 _ _ eb
  have hs7 := hs.keep k17 _ _ _ _ _
  have ie7 := ie.keep k17.1
  refine ⟨_, rfl, a, CS, dx, _, _, rfl, ea7, T.cl, T.nS, by ((repeat (first | (rw [lookup_putF, if_pos rfl]) | rw [lookup_putF, if_neg (by decide +kernel)]))), rfl, _, rfl, ?_⟩
  by_cases h0 : e.steps = 0
  case neg =>
    refine iteNo (fun z => h0 (by injection z with z; omega)) ⟨_, rfl, a, CS, dx, _, rfl, ea7, T.cl, T.nD, by ((refine Nat.lt_of_le_of_lt (m := 40) ?_ (by decide); repeat (first | exact Nat.zero_le _ | refine putF_len _ _ _ ?_))), ?_⟩
    exact hal false _ ea7 et7 b4
  refine iteYes (by rw [h0]; rfl) ⟨_, rfl, _, e, rfl, ie7, _, rfl, _, rfl, ?_⟩
  cases hg : e.gd with
  | true =>
    refine iteF ⟨_, rfl, a, CS, dx, _, rfl, ea7, T.cl, T.nD, by ((refine Nat.lt_of_le_of_lt (m := 40) ?_ (by decide); repeat (first | exact Nat.zero_le _ | refine putF_len _ _ _ ?_))), ?_⟩
    exact hal false _ ea7 et7 b4
  | false =>
    refine iteT ⟨_, rfl, tb, rfl, ⟨_, SqT.of tb7⟩, fun D3 nD3 => ?_⟩
    refine lc_tup (K := K) (a := tb) (xs := ws) (fun i H' => (∃ bs : List Bool, H' D3 = some (.lst (bs.map V.bl)) ∧ bs.length = i) ∧ Same (upd (upd (upd H3 to (.tup (nv_ (e.owns n)))) a (.ins CS dx (putF "own" (.ref to) (putF "size" (.int (e.steps : Int)) (putF "is_fixed" (.bl (e.fx mk p)) (putF "below" (.ref tb) (putF "form" vf (putF "path" (.ref pq) [])))))))) a (.ins CS dx (putF "inside" (.int (insI e n)) (putF "own" (.ref to) (putF "size" (.int (e.steps : Int)) (putF "is_fixed" (.bl (e.fx mk p)) (putF "below" (.ref tb) (putF "form" vf (putF "path" (.ref pq) []))))))))) H') ⟨⟨[], upd_same, rfl⟩, same_up nD3⟩ (fun i H' _ h => SqT.of (h.2 _ _ tb7)) ?_ ?_
    · rintro i u H5 hi ⟨⟨bs, eB, hbl⟩, s5⟩
      have hil : i < e.ops.length := by rw [← hlen]; exact (List.getElem?_eq_some_iff.mp hi).1
      obtain ⟨v, hv, sv⟩ := hs7.get i hil
      have : u = v := Option.some.inj (hi.symm.trans hv)
      subst this
      refine ⟨rfl, yes_i ⟨_, _, _, _, rfl, sv.keep (KI.same s5) _ _ _ _, fun b => ⟨_, eB, small1000 (by rw [List.length_map]; omega), ⟨bs ++ [b], by rw [List.map_append]; exact upd_same, by simp [hbl]⟩, fun q o z => by rw [upd_ne (ne_of_none z nD3)]; exact s5 _ _ z⟩⟩⟩
    rintro H5 ⟨⟨bs, eB, hbl⟩, s5⟩
    refine ⟨D3, _, rfl, SqL.of eB, ?_⟩
    refine ⟨_, rfl, a, CS, dx, _, rfl, s5 _ _ ea7, T.cl, T.nD, by ((refine Nat.lt_of_le_of_lt (m := 40) ?_ (by decide); repeat (first | exact Nat.zero_le _ | refine putF_len _ _ _ ?_))), ?_⟩
    exact hal _ _ (s5 _ _ ea7) (s5 _ _ et7) (hbw _ s5)
theorem scJoined : FnScope ["spans", "together", "span"] ["spans"] (defScope sJoined) := ⟨rfl, rfl, rfl, by decide +kernel, rfl, by decide +kernel, by decide +kernel⟩
theorem ok_joined {CS f : Addr} {fd : FuncData} {mk : List (List Nat)} (F : Fun K "joined" "joined" sJoined f fd) (T : TxS K CS) : FnOk P w K mg base CX0 1 f fd ["spans"] (spJoined CS mk) := by
  refine F.ok scJoined (fun vs H Q E h => ?_) (fun cdv A outer s H vs Q E hr h => ?_)
  · obtain ⟨t, ws, os, p, n, rfl, _⟩ := h
    rfl
  obtain ⟨t, ws, os, p, n, rfl, et, hs, q⟩ := h
  have hlen := hs.length
  refine ⟨_, (pss_cons (ps_set (i := 1) scJoined.nd rfl (.inl rfl) pe_int)
    (pss_cons (ps_for PassesOwn.never rfl (pi_tup (pv 0)) (pg_name (i := 2) scJoined.nd rfl (Or.inl rfl)) (pss_one (ps_set (i := 1) scJoined.nd rfl (.inl rfl) (pe_op op_or (pv 1) (pe_fld (pv 2) rfl)))))
    (pss_one (ps_ret (pv 1))))), ?_⟩
  refine ⟨_, rfl, t, rfl, ⟨_, SqT.of et⟩, ?_⟩
  refine for_tup (K := K) (a := t) (xs := ws) (fun i σ H' => ∃ (x : Int) (y : Option V), σ = [some (.ref t), some (.int x), y] ∧ Bits x (inR n (Ex.stepss (os.take i))) ∧ H' = H) ⟨0, none, rfl, Bits.zero.congr fun i => (inR_not (by simp [Ex.stepss])).symm, rfl⟩ (fun i σ H' _ ⟨_, _, _, _, e⟩ => by rw [e]; exact SqT.of et) ?_ ?_
  · rintro i u σ H1 hi ⟨x, y, rfl, hb, rfl⟩
    have hil : i < os.length := by rw [← hlen]; exact (List.getElem?_eq_some_iff.mp hi).1
    obtain ⟨v, hv, sv⟩ := hs.get i hil
    have : u = v := Option.some.inj (hi.symm.trans hv)
    subst this
    obtain ⟨ws', ⟨a, dx, fs, vp, vf, tb, to, rfl, h1, hf, _⟩, _⟩ := sv.obj
    refine ⟨_, rfl, _, rfl, a, CS, dx, fs, _, rfl, h1, T.cl, T.nI, hf.i, _, _, rfl, rfl, ?_⟩
    refine ⟨_, _, rfl, (hb.or (ins_bits os[i] (n + Ex.stepss (os.take i)))).congr fun j => ?_, rfl⟩
    rw [stepss_take_succ os i hil, Bool.eq_iff_iff, bor, inR_iff, inR_iff, inR_iff]
    omega
  · rintro σ H1 ⟨x, y, rfl, hb, rfl⟩
    rw [hlen, List.take_length] at hb
    exact ⟨_, rfl, q x hb⟩
theorem SpansAt.take {CS : Addr} {mk : List (List Nat)} {H : Hp} : ∀ {os : List Ex} {p : List Nat} {a n : Nat} {ws : List V}, SpansAt CS mk H os p a n ws → ∀ i, SpansAt CS mk H (os.take i) p a n (ws.take i)
  | [], p, a, n, ws, h, i => by
    unfold SpansAt at h
    subst h
    rw [List.take_nil, List.take_nil]
    unfold SpansAt
    rfl
  | e :: r, p, a, n, ws, h, 0 => by
    rw [List.take_zero, List.take_zero]
    unfold SpansAt
    rfl
  | e :: r, p, a, n, ws, h, i + 1 => by
    unfold SpansAt at h
    obtain ⟨v, ws', rfl, h1, h2⟩ := h
    rw [List.take_succ_cons, List.take_succ_cons]
    unfold SpansAt
    exact ⟨v, _, rfl, h1, h2.take i⟩
theorem sIx_nn (n d m : Nat) : HT.sIx n d (some (m : Int)) = min m n := by
  have h1 : ¬ ((m : Int) < 0) := by omega
  simp [HT.sIx, h1]
theorem cut_to (xs : List V) {i : Nat} (h : i ≤ xs.length) : cutV xs none (some (i : Int)) = xs.take i := by
  have h1 : ¬ ((i : Int) < 0) := by omega
  unfold cutV
  simp [HT.sIx, h1, Nat.min_eq_left h]
theorem scBelow : FnScope ["span", "at"] ["span", "at"] (defScope sBelow) := ⟨rfl, rfl, rfl, by decide +kernel, rfl, by decide +kernel, by decide +kernel⟩
theorem ok_below {CS f fg : Addr} {fd fdg : FuncData} {mk : List (List Nat)} (F : Fun K "below_ahead" "below_ahead" sBelow f fd) (T : TxS K CS) (mn : mg "min" = none)
    (GG : FnOk P w K mg base CX0 2 fg fdg ["node"] spIsGuard) (kG : PySem.W.keepIn K (.ref fg) = true) (bG : Binds K fdg ["node"] []) (mG : mg "is_guard" = some (.ref fg)) : FnOk P w K mg base CX0 3 f fd ["span", "at"] (spBelow CS mk) := by
  refine F.ok scBelow (fun vs H Q E h => ?_) (fun cdv A outer s H vs Q E hr h => ?_)
  · obtain ⟨v, e, p, n, a, rfl, _⟩ := h
    rfl
  obtain ⟨v, e, p, n, a, rfl, hs, ha, q⟩ := h
  refine ⟨_, (pss_cons (ps_if (pt_not (pt_val (pe_fld (pv 0) rfl))) (pss_one (ps_ret (pe_tup pa_nil))) pss_nil)
    (pss_cons (ps_if (pt_val (pe_call GG hr rfl mG kG bG .nil pass0 (pa_cons (pe_fld (pv 0) rfl) pa_nil))) (pss_one (ps_ret (pe_slice sl_tup (pe_fld (pv 0) rfl) po_none (po_some (pe_callB (call_min2 rfl) (by rfl) mn PyProof.Rows.boot_min (pa_cons (pv 1) (pa_cons pe_int pa_nil))))))) pss_nil)
    (pss_one (ps_ret (pe_slice sl_tup (pe_fld (pv 0) rfl) po_none (po_some (pv 1))))))), ?_⟩
  obtain ⟨ws, ⟨a0, dx, fs, vp, vf, tb, to, rfl, h1, hf, h2, h3, h4, h5⟩, hbs⟩ := hs.obj
  have hlen := hbs.length
  have hb : ∀ H', Same H H' → SpansAt CS mk H' e.ops p 0 n ws := fun H' s' => hbs.keep (KI.same s') _ _ _ _ _
  refine ⟨_, rfl, a0, CS, dx, fs, _, rfl, h1, T.cl, T.nX, hf.x, _, rfl, ?_⟩
  cases hx : e.fx mk p with
  | false =>
    rw [hx] at q
    refine iteT ⟨sz (by decide), fun t nt => ?_⟩
    refine q t [] _ upd_same ?_ (same_up nt)
    rw [if_neg (by decide), List.take_zero]
    unfold SpansAt
    rfl
  | true =>
    rw [hx] at q
    refine iteF ?_
    refine ⟨_, rfl, a0, CS, dx, fs, _, rfl, h1, T.cl, T.nF, hf.f, vf, e, rfl, h3, _, rfl, ?_⟩
    cases hg : e.gd with
    | true =>
      rw [hg] at q
      refine iteT ⟨_, rfl, a0, CS, dx, fs, _, rfl, h1, T.cl, T.nB, hf.b, _, rfl, _, _, rfl, ?_⟩
      have e1 : (if (1 : Int) < (a : Int) then (1 : Int) else (a : Int)) = ((min a 1 : Nat) : Int) := by
        by_cases z : 1 < a
        · rw [if_pos (by omega)]; omega
        · rw [if_neg (by omega)]; omega
      refine ⟨((min a 1 : Nat) : Int), by rw [e1], tb, ws, rfl, SqT.of h4, fun z => ?_, fun t nt => ?_⟩
      · have := z.2
        rw [sIx_nn] at this
        omega
      rw [cut_to ws (i := min a 1) (by omega)]
      exact q t _ _ upd_same (((hb _ (same_up nt)).take (aheadN true a))) (same_up nt)
    | false =>
      rw [hg] at q
      refine iteF ⟨_, rfl, a0, CS, dx, fs, _, rfl, h1, T.cl, T.nB, hf.b, _, rfl, _, rfl, ?_⟩
      refine ⟨tb, ws, rfl, SqT.of h4, fun z => ?_, fun t nt => ?_⟩
      · have := z.2
        rw [sIx_nn] at this
        omega
      rw [cut_to ws (i := a) (by omega)]
      exact q t _ _ upd_same (((hb _ (same_up nt)).take (aheadN false a))) (same_up nt)
end
end Oo
namespace Oo
open PySem L2 PyProof.Rows LamX StX ClX
abbrev sSpanOf : Stmt := top 51
theorem Kd.kinds0 {k : Kd} (h : k.steps = 0) : k.kinds = [] := by
  cases k <;> first | rfl | (simp [Kd.steps] at h)
def spSpanOf (K : PySem.W.Frag) (CS : Addr) (N : Nat) : Sp := fun vs H Q _ => ∃ (ve vp : V) (n : Nat) (tm : Addr) (rows : List V) (mk : List (List Nat)) (e : Ex) (p : List Nat), vs = [ve, vp, .int (n : Int), .ref tm] ∧ InE H e ve ∧ Shp e ∧ PathAt H vp p ∧ SqT K H tm rows ∧ Paired (PathAt H) rows mk ∧
  e.depth ≤ N ∧ p.length + e.depth ≤ 90 ∧ n + e.steps ≤ 1900 ∧ e.nodes ≤ 900 ∧ ∀ v H', SpanAt CS mk H' e p n v → Same H H' → Q v H'
theorem steps_get : ∀ (os : List Ex) (i : Nat) (h : i < os.length), os[i].steps ≤ Ex.stepss os := fun os i h => by
  have := stepss_child os i h
  omega
theorem opsteps_le (e : Ex) : Ex.stepss e.ops ≤ e.steps := by
  have h1 := steps_own e
  omega
section
variable {P : Program} {w : World} {K : PySem.W.Frag} {mg : Str → Option Value} {base : Heap} {X : Cx}
theorem ok_kinds {f fi dO : Addr} {fd fdi : FuncData} (F : Fun K "own_steps" "own_steps" sOwn f fd) (TO : TxO2 K w dO) (mOWN_STEPS : mg "OWN_STEPS" = some (.ref dO))
    (GI : FnOk P w K mg base CX0 1 fi fdi ["value"] spIsInt) (kI : PySem.W.keepIn K (.ref fi) = true) (bI : Binds K fdi ["value"] []) (mI : mg "is_integer" = some (.ref fi)) : FnOk P w K mg base CX0 2 f fd ["node"] (spKinds K) := by
  refine F.ok scOwn (fun vs H Q E h => ?_) (fun cdv A outer s H vs Q E hr h => ?_)
  · obtain ⟨v, e, rfl, _⟩ := h
    rfl
  obtain ⟨v, e, rfl, ie, q⟩ := h
  refine ⟨_, (pss_cons (ps_if (pt_val (pe_call GI hr rfl mI kI bI .nil pass0 (pa_cons (pv 0) pa_nil))) (pss_one (ps_ret (pe_tup pa_nil))) pss_nil)
    (pss_one (ps_ret (pe_kget2 (pe_globD rfl mOWN_STEPS) (pe_ix ix_tup (pv 0) pe_int (fun _ _ => rfl)) (pe_tup pa_nil) ⟨rfl, rfl, rfl, rfl⟩)))), ?_⟩
  cases e with
  | num n =>
    unfold InE at ie
    subst ie
    exact ⟨_, rfl, .inl ⟨n, rfl, true, rfl, iteT ⟨sz (by decide), fun p hp => q p _ (SqT.of upd_same) (same_up hp)⟩⟩⟩
  | nd k os =>
    unfold InE at ie
    obtain ⟨p, ws, rfl, ios, na⟩ := ie
    obtain ⟨tl, ht⟩ := na.tup
    refine ⟨_, rfl, .inr ⟨p, _, rfl, ht, false, rfl, iteF ?_⟩⟩
    by_cases hk : k.steps = 0
    · have km := TO.no k hk
      obtain ⟨es, n', hl', hk', low, hm⟩ := id km
      have e0 : (Ex.nd k os).kinds = [] := Kd.kinds0 hk
      rw [e0] at q
      refine ⟨dO, rfl, ⟨es, n', hl', hk'⟩, TO.low, _, rfl, p, _, _, _, rfl, rfl, SqT.of ht, at0 _ _, sz (by decide), fun t nt => ⟨k.word, rfl, .inr ⟨km, ?_⟩⟩⟩
      exact q t _ (SqT.of upd_same) (same_up nt)
    · obtain ⟨a, kd, hs⟩ := TO.yes k hk
      obtain ⟨es, n', u0, hl', hk', e', ru⟩ := id kd
      refine ⟨dO, rfl, ⟨es, n', hl', hk'⟩, TO.low, _, rfl, p, _, _, _, rfl, rfl, SqT.of ht, at0 _ _, sz (by decide), fun t nt => ⟨k.word, rfl, .inl ⟨_, kd, ?_⟩⟩⟩
      exact q a _ (hs _) (same_up nt)
theorem scSpanOf : FnScope ["node", "path", "first", "points", "below", "free", "at", "operand", "span"] ["node", "path", "first", "points"] (defScope sSpanOf) := ⟨rfl, rfl, rfl, by decide +kernel, rfl, by decide +kernel, by decide +kernel⟩
theorem ok_spanof {N L : Nat} {CS f fp fn fo fI : Addr} {fd fdp fdn fdo fdI : FuncData} (F : Fun K "span_of" "span_of" sSpanOf f fd) (hL : 4 ≤ L) (T : TxS K CS) (men : mg "enumerate" = none) (mt : mg "tuple" = none)
    (GP : FnOk P w K mg base CX0 2 fp fdp ["node"] spOperands) (kP : PySem.W.keepIn K (.ref fp) = true) (bP : Binds K fdp ["node"] []) (mP : mg "operands" = some (.ref fp))
    (GN : FnOk P w K mg base CX0 L fn fdn ["node", "path", "first", "points"] (spSpanOf K CS N)) (kN : PySem.W.keepIn K (.ref fn) = true) (bN : Binds K fdn ["node", "path", "first", "points"] []) (mN : mg "span_of" = some (.ref fn))
    (GO : FnOk P w K mg base CX0 3 fo fdo ["node"] spIsInOrder) (kO : PySem.W.keepIn K (.ref fo) = true) (bO : Binds K fdo ["node"] []) (mO : mg "is_in_order" = some (.ref fo))
    (MS : Mk K CS fI) (mS : mg "Span" = some (.ref CS)) (GS0 : ∀ mk, FnOk P w K mg base CX0 3 fI fdI ["self", "path", "form", "below", "first", "is_fixed"] (spSInit CS mk)) (bS : Binds K fdI ["self", "path", "form", "below", "first", "is_fixed"] []) :
    FnOk P w K mg base CX0 (L + 1) f fd ["node", "path", "first", "points"] (spSpanOf K CS (N + 1)) := by
  refine F.ok scSpanOf (fun vs H Q E h => ?_) (fun cdv A outer s H vs Q E hr h => ?_)
  · obtain ⟨ve, vp, n, tm, rows, mk, e, p, rfl, _⟩ := h
    rfl
  obtain ⟨ve, vp, n, tm, rows, mk, e, p, rfl, ie, sh, hp, em, pm, hd, hpl, hst, hnn, q⟩ := h
  have GS := GS0 mk
  have hr2 : Room 2 _ := hr.mono (Nat.le_trans (by decide) hL)
  have hr3 : Room 3 _ := hr.mono (Nat.le_trans (by decide) hL)
  have hr4 : Room 4 _ := hr.mono hL
  refine ⟨_, (pss_cons (ps_set (i := 4) scSpanOf.nd rfl (.inl rfl) (pe_lst pa_nil))
    (pss_cons (ps_set (i := 5) scSpanOf.nd rfl (.inl rfl) (pv 2))
    (pss_cons (ps_for PassesOwn.never rfl (pi_enumT (by rfl) men (pa_cons (pe_call GP hr2 rfl mP kP bP .nil pass0 (pa_cons (pv 0) pa_nil)) pa_nil)) (pg_tup rfl (pgs_cons (pg_name (i := 6) scSpanOf.nd rfl (Or.inl rfl)) (pgs_cons (pg_name (i := 7) scSpanOf.nd rfl (Or.inl rfl)) pgs_nil))) (pss_cons (ps_set (i := 8) scSpanOf.nd rfl (.inl rfl) (pe_call GN hr rfl mN kN bN .nil pass0 (pa_cons (pv 7) (pa_cons (pe_tup (pa_star (pv 1) (pa_cons (pv 6) pa_nil))) (pa_cons (pv 5) (pa_cons (pv 3) pa_nil))))))
    (pss_cons (ps_expr (pe_bm PySem.F.plainAttrs_list PySem.F.slot_list_append PySem.F.type_list_append mt_append (pv 4) (pa_cons (pv 8) pa_nil)))
    (pss_one (ps_aug (i := 5) scSpanOf.nd rfl (.inl rfl) (pe_fld (pv 8) rfl) iop_add)))))
    (pss_one (ps_ret (pe_make MS GS hr4 rfl mS bS .nil pass0 (pa_cons (pv 1) (pa_cons (pv 0) (pa_cons (pe_tupleOf (by rfl) mt (pv 4)) (pa_cons (pv 2) (pa_cons (pe_or (pe_call GO hr3 rfl mO kO bO .nil pass0 (pa_cons (pv 0) pa_nil)) (pe_one (pe_cmpR (op_inP hr.units) (pv 1) (pv 3) (by rfl)))) pa_nil))))))))))), ?_⟩
  obtain ⟨pa, rfl, epa⟩ := id hp
  refine ⟨sz (by decide), fun lb nlb => ?_⟩
  have s0 := same_up (o := .lst []) nlb
  refine ⟨_, rfl, _, rfl, ve, e, rfl, ie.keep (same_t s0), sh.rs, fun po ws H1 eo io s1 => ⟨po, ws, rfl, SqT.of eo, ?_⟩⟩
  have hws : ws.length = e.ops.length := io.length
  have hos := opsteps_le e
  have hno := nodes_ops e
  have hng := nodess_ge e.ops
  refine for_it walk_enumU (fun i σ H' => ∃ (acc : List V) (x y z : Option V), σ = [some ve, some (.ref pa), some (.int (n : Int)), some (.ref tm), some (.ref lb), some (.int ((n + Ex.stepss (e.ops.take i) : Nat) : Int)), x, y, z] ∧ H' lb = some (.lst acc) ∧ SpansAt CS mk H' (e.ops.take i) p 0 n acc ∧ H' po = some (.tup ws) ∧ InEs H' e.ops ws ∧ Same H H')
    ⟨[], none, none, none, by simp [Ex.stepss, L2.start], s1 _ _ upd_same, by rw [List.take_zero]; unfold SpansAt; rfl, eo, io, s0.trans s1⟩ (fun i σ H' _ ⟨_, _, _, _, _, _, _, z, _⟩ => SqT.of z) ?_ ?_
  · rintro i x σ H2 H3 hi ⟨acc, x0, y0, z0, rfl, el, hs, eo2, io2, s2⟩ ⟨T0, x', y', rfl, nT, rfl, hx, hy⟩
    have hx' : x' = .int (i : Int) := (Option.some.inj hx).symm
    subst hx'
    have hio : i < e.ops.length := by omega
    obtain ⟨v, hv, iv⟩ := io2.get i hio
    have : y' = v := Option.some.inj (hy.symm.trans hv)
    subst this
    have sT := same_up (o := .tup [V.int (i : Int), y']) nT
    refine ⟨T0, _, rfl, SqT.of upd_same, rfl, _, _, rfl, _, _, rfl, rfl, ?_⟩
    have s3 := s2.trans sT
    refine ⟨_, rfl, _, rfl, pa, _, rfl, .inl (SqT.of (s3 _ _ epa)), _, rfl, sz (by simp [pv_]; omega), fun t1 n1 => ?_⟩
    have s4 := s3.trans (same_up (o := .tup (pv_ p ++ [V.int (i : Int)])) n1)
    have sA := sT.trans (same_up (o := .tup (pv_ p ++ [V.int (i : Int)])) n1)
    have hdi := depth_ops hio
    have hnn' := nodes_get e.ops i hio
    have hch := stepss_child e.ops i hio
    refine ⟨_, rfl, _, rfl, y', .ref t1, n + Ex.stepss (e.ops.take i), tm, rows, mk, e.ops[i], p ++ [i], rfl, iv.keep (same_t sA), sh.ops.get i hio, ⟨t1, rfl, by rw [upd_same]; simp [pv_]⟩, same_seqT s4 em, L2.Paired.mapP pm fun a b z => z.keep (same_t s4), by omega, by rw [List.length_append, List.length_singleton]; omega, by omega, by omega, fun v H4 hv4 s5 => ?_⟩
    have s25 := sA.trans s5
    have el4 := s25 _ _ el
    have hal := hs.length
    rw [List.length_take] at hal
    refine ⟨_, rfl, .inl ⟨rfl, _, SqL.of el4⟩, _, rfl, lb, acc, _, rfl, rfl, el4, small1000 (by omega), ?_⟩
    have k5 := KI.lst (CS := CS) (o := .lst (acc ++ [v])) el4
    have hv5 := hv4.keep k5 _ _ _ _
    obtain ⟨ws5, ⟨a0, dx, fs, vp5, vf5, tb5, to5, rfl, h51, hf5, _⟩, _⟩ := hv5.obj
    refine ⟨_, rfl, _, rfl, a0, CS, dx, fs, _, rfl, h51, T.cl, T.nS, hf5.s, _, _, rfl, rfl, ?_⟩
    refine ⟨acc ++ [.ref a0], some (.int (i : Int)), some y', some (.ref a0), ?_, upd_same, ?_, k5.1 _ _ (s25 _ _ eo2), (io2.keep (same_t s25)).keep k5.1, fun b o z => ?_⟩
    · rw [stepss_take_succ e.ops i hio]
      have e9 : ((n + Ex.stepss (e.ops.take i) : Nat) : Int) + ((e.ops[i].steps : Nat) : Int) = ((n + (Ex.stepss (e.ops.take i) + e.ops[i].steps) : Nat) : Int) := by omega
      rw [← e9]
      rfl
    · rw [take_succ_get e.ops i hio]
      refine (hs.keep ((KI.same s25).trans k5) _ _ _ _ _).snoc ?_
      have : 0 + (e.ops.take i).length = i := by rw [List.length_take]; omega
      rw [this]
      exact hv5
    · have := s4.trans s5
      rw [upd_ne (ne_of_none z nlb)]
      exact this _ _ z
  · rintro σ H2 ⟨acc, x0, y0, z0, rfl, el, hs, eo2, io2, s2⟩
    rw [hws, List.take_length] at hs
    have ie2 := ie.keep (same_t s2)
    refine ⟨_, rfl, _, rfl, _, rfl, .inl ⟨lb, acc, rfl, SqL.of el, fun tb ntb => ?_⟩⟩
    have s3 := s2.trans (same_up (o := .tup acc) ntb)
    have sb := same_up (o := .tup acc) ntb
    have fin : ∀ H3, Same (upd H2 tb (.tup acc)) H3 → ∀ x dx, H3 x = none → H3 dx = none → dx ≠ x → spSInit CS mk ([V.ref x] ++ [.ref pa, ve, .ref tb, .int (n : Int), .bl (e.fx mk p)]) (upd (upd H3 dx (.own x)) x (.ins CS dx [])) (fun v H' => v = .non ∧ Q (.ref x) H') E := fun H3 s4 x dx hx hdx hne => by
      have s5 := made_same (C := CS) hx hdx
      have s45 := s4.trans s5
      have s25 := sb.trans s45
      exact ⟨x, dx, .ref pa, ve, tb, e, p, n, acc, rfl, upd_same, hp.keep (same_t (s2.trans s25)), ie2.keep (same_t s25), s45 _ _ upd_same, hs.keep (KI.same s25) _ _ _ _ _, hnn, by omega, fun H' hA hB => ⟨rfl, q _ _ hA ((s2.trans sb).trans (s4.trans (but_same s5 hx hB)))⟩⟩
    refine ⟨_, rfl, _, rfl, _, _, rfl, ie2.keep (same_t sb), ?_⟩
    cases hfx : e.fx [] [] with
    | true =>
      refine ⟨true, rfl, iteT ?_⟩
      have e1 : e.fx mk p = true := by
        cases e with
        | num c => simp [Ex.fx] at hfx
        | nd k os =>
          simp only [Ex.fx, List.not_mem_nil, decide_false, Bool.or_false] at hfx ⊢
          rw [hfx]; rfl
      rw [e1] at fin
      exact fun x dx hx hdx hne => fin _ (Same.refl _) x dx hx hdx hne
    | false =>
      refine ⟨false, rfl, iteF ⟨_, rfl, _, rfl, p, tm, rows, mk, (hp.keep (same_t s3)), rfl, same_seqT s3 em, L2.Paired.mapP pm fun a b z => z.keep (same_t s3), ?_⟩⟩
      have e1 : e.fx mk p = decide (p ∈ mk) := by
        cases e with
        | num c => rfl
        | nd k os =>
          simp only [Ex.fx, List.not_mem_nil, decide_false, Bool.or_false] at hfx ⊢
          rw [hfx, Bool.false_or]
      rw [e1] at fin
      exact fun x dx hx hdx hne => fin _ (Same.refl _) x dx hx hdx hne
end
end Oo
namespace Oo
open PySem L2 PyProof.Rows LamX StX ClX
abbrev sWithin : Stmt := top 53
/-- a node with its path and the number of its first step -/
abbrev Trip : Type := List Nat × Ex × Nat
mutual
def Ex.spn : Ex → List Nat → Nat → List Trip
  | .num c, p, n => [(p, .num c, n)]
  | .nd k os, p, n => (p, .nd k os, n) :: Ex.spns os p 0 n
def Ex.spns : List Ex → List Nat → Nat → Nat → List Trip
  | [], _, _, _ => []
  | e :: r, p, a, n => Ex.spn e (p ++ [a]) n ++ Ex.spns r p (a + 1) (n + e.steps)
end
def skids : List Ex → List Nat → Nat → Nat → List Trip
  | [], _, _, _ => []
  | e :: r, p, a, n => (p ++ [a], e, n) :: skids r p (a + 1) (n + e.steps)
theorem skids_len : ∀ (os : List Ex) (p : List Nat) (a n : Nat), (skids os p a n).length = os.length
  | [], _, _, _ => rfl
  | e :: r, p, a, n => by simp [skids, skids_len r]
def Trip.spn (x : Trip) : List Trip := x.2.1.spn x.1 x.2.2
theorem skids_spn : ∀ (os : List Ex) (p : List Nat) (a n : Nat), (skids os p a n).flatMap Trip.spn = Ex.spns os p a n
  | [], _, _, _ => rfl
  | e :: r, p, a, n => by
    rw [skids, List.flatMap_cons, skids_spn r]
    rfl
theorem spn_eq (e : Ex) (p : List Nat) (n : Nat) : e.spn p n = (p, e, n) :: (skids e.ops p 0 n).flatMap Trip.spn := by
  rw [skids_spn]
  cases e with
  | num c => rfl
  | nd k os => rfl
mutual
theorem spn_len : ∀ (e : Ex) (p : List Nat) (n : Nat), (e.spn p n).length = e.nodes
  | .num _, p, n => rfl
  | .nd _ os, p, n => by
    simp only [Ex.spn, List.length_cons, Ex.nodes, spns_len os p 0 n]
    omega
theorem spns_len : ∀ (os : List Ex) (p : List Nat) (a n : Nat), (Ex.spns os p a n).length = Ex.nodess os
  | [], p, a, n => rfl
  | e :: r, p, a, n => by simp only [Ex.spns, List.length_append, Ex.nodess, spn_len e, spns_len r]
end
def tsum (st : List Trip) : Nat := (st.map fun x => x.2.1.nodes).sum
theorem tsum_append (a b : List Trip) : tsum (a ++ b) = tsum a + tsum b := by simp [tsum]
theorem tsum_rev (a : List Trip) : tsum a.reverse = tsum a := by simp [tsum, List.sum_reverse]
theorem tsum_kids : ∀ (os : List Ex) (p : List Nat) (a n : Nat), tsum (skids os p a n) = Ex.nodess os
  | [], _, _, _ => rfl
  | e :: r, p, a, n => by
    have := tsum_kids r p (a + 1) (n + e.steps)
    simp only [tsum] at this
    simp [skids, tsum, Ex.nodess, this]
theorem tsum_len : ∀ (a : List Trip), a.length ≤ tsum a
  | [] => by simp [tsum]
  | x :: r => by
    have := tsum_len r
    have := nodes_pos x.2.1
    simp only [tsum, List.map_cons, List.sum_cons, List.length_cons] at *
    omega
theorem tsum_spn : ∀ (st : List Trip), (st.flatMap Trip.spn).length = tsum st
  | [] => rfl
  | x :: r => by
    rw [List.flatMap_cons, List.length_append, tsum_spn r]
    show (x.2.1.spn x.1 x.2.2).length + _ = _
    rw [spn_len]
    simp [tsum]
def SpanR (CS : Addr) (mk : List (List Nat)) (H : Hp) (v : V) (x : Trip) : Prop := SpanAt CS mk H x.2.1 x.1 x.2.2 v
theorem SpanR.keep {CS : Addr} {mk : List (List Nat)} {H H' : Hp} {v : V} {x : Trip} (h : SpanR CS mk H v x) (k : KI CS H H') : SpanR CS mk H' v x := SpanAt.keep k _ _ _ _ h
theorem SpansAt.paired {CS : Addr} {mk : List (List Nat)} {H : Hp} : ∀ {os : List Ex} {p : List Nat} {a n : Nat} {ws : List V}, SpansAt CS mk H os p a n ws → Paired (SpanR CS mk H) ws (skids os p a n)
  | [], p, a, n, ws, h => by unfold SpansAt at h; subst h; exact .nil
  | e :: r, p, a, n, ws, h => by
    unfold SpansAt at h
    obtain ⟨v, ws', rfl, h1, h2⟩ := h
    exact .cons h1 h2.paired
def spWithin (CS : Addr) : Sp := fun vs H Q _ => ∃ (v : V) (e : Ex) (p : List Nat) (n : Nat) (mk : List (List Nat)), vs = [v] ∧ SpanAt CS mk H e p n v ∧ e.nodes ≤ 900 ∧ ∀ (l : Addr) (rows : List V) (H' : Hp), H l = none → H' l = some (.lst rows) → Paired (SpanR CS mk H') rows (e.spn p n) → Same H H' → Q (.ref l) H'
section
variable {P : Program} {w : World} {K : PySem.W.Frag} {mg : Str → Option Value} {base : Heap} {X : Cx}
theorem scWithin : FnScope ["root", "found", "waiting", "span"] ["root"] (defScope sWithin) := ⟨rfl, rfl, rfl, by decide +kernel, rfl, by decide +kernel, by decide +kernel⟩
theorem ok_within {CS f : Addr} {fd : FuncData} (F : Fun K "spans_within" "spans_within" sWithin f fd) (T : TxS K CS) (ml : mg "len" = none) : FnOk P w K mg base CX0 1 f fd ["root"] (spWithin CS) := by
  refine F.ok scWithin (fun vs H Q E h => ?_) (fun cdv A outer s H vs Q E hr h => ?_)
  · obtain ⟨v, e, p, n, mk, rfl, _⟩ := h
    rfl
  obtain ⟨v, e, p, n, mk, rfl, hv, hn, q⟩ := h
  refine ⟨_, (pss_cons (ps_set (i := 1) scWithin.nd rfl (.inl rfl) (pe_lst pa_nil))
    (pss_cons (ps_set (i := 2) scWithin.nd rfl (.inl rfl) (pe_lst (pa_cons (pv 0) pa_nil)))
    (pss_cons (ps_while PassesOwn.never (pt_cmpR op_gt (pe_callB call_len_seq (by rfl) ml PySem.boot_len (pa_cons (pv 2) pa_nil)) pe_int (nomark _)) (pss_cons (ps_set (i := 3) scWithin.nd rfl (.inl rfl) (pe_bm0 PySem.F.plainAttrs_list PySem.F.slot_list_pop PySem.F.type_list_pop mt_pop (pv 2)))
    (pss_cons (ps_expr (pe_bm PySem.F.plainAttrs_list PySem.F.slot_list_append PySem.F.type_list_append mt_append (pv 1) (pa_cons (pv 3) pa_nil)))
    (pss_one (ps_expr (pe_bm PySem.F.plainAttrs_list PySem.F.slot_list_extend PySem.F.type_list_extend mt_extendT (pv 2) (pa_cons (pe_revT (pe_fld (pv 3) rfl)) pa_nil)))))))
    (pss_one (ps_ret (pv 1)))))), ?_⟩
  refine ⟨sz (by decide), fun lr nlr => ⟨_, rfl, sz (by show 1 ≤ 1000; decide), fun lw nlw => ?_⟩⟩
  have sr := same_up (o := .lst []) nlr
  have sw := same_up (o := .lst [v]) nlw
  have sA := sr.trans sw
  have hlw : H lw = none := sr.free nlw
  have nrw : lr ≠ lw := ne_of_none (o := .lst []) upd_same nlw
  refine ⟨fun m σ H' => ∃ (x : Option V) (rr ww : List V) (rs st : List Trip), σ = [some v, some (.ref lr), some (.ref lw), x] ∧ m = tsum st ∧ H' lr = some (.lst rr) ∧ Paired (SpanR CS mk H') rr rs ∧ H' lw = some (.lst ww) ∧ Paired (SpanR CS mk H') ww st ∧
    rs ++ st.reverse.flatMap Trip.spn = e.spn p n ∧ Same H H', ⟨_, none, [], [v], [], [(p, e, n)], rfl, rfl, sw _ _ upd_same, .nil, upd_same, .cons (hv.keep (KI.same sA) _ _ _ _) .nil, ?_, sA⟩, ?_⟩
  · simp [Trip.spn]
  rintro m σ H1 ⟨x, rr, ww, rs, st, rfl, rfl, er, pr, ew, pw, hpre, s1⟩
  have hsum : rs.length + tsum st = e.nodes := by
    have := congrArg List.length hpre
    rw [List.length_append, tsum_spn, tsum_rev, spn_len] at this
    exact this
  have hww : ww.length = st.length := pw.length
  have hst := tsum_len st
  refine ⟨_, rfl, lw, _, rfl, .inl (SqL.of ew), _, _, rfl, rfl, _, rfl, ?_⟩
  rcases List.eq_nil_or_concat st with rfl | ⟨st', x, rfl⟩
  · have : ww = [] := List.eq_nil_of_length_eq_zero hww
    subst this
    refine iteNo (by simp) ?_
    simp only [List.reverse_nil, List.flatMap_nil, List.append_nil] at hpre
    rw [hpre] at pr
    exact ⟨_, rfl, q lr rr H1 nlr er pr s1⟩
  obtain ⟨px, ex, nx⟩ := x
  rw [List.concat_eq_append] at *
  obtain ⟨ww', u, rfl, pw', ru⟩ := paired_snoc_inv pw
  refine iteYes (by rw [List.length_append, List.length_singleton]; omega) ?_
  have hsum2 : tsum (st' ++ [(px, ex, nx)]) = tsum st' + ex.nodes := by rw [tsum_append]; simp [tsum]
  have hnx := nodes_ops ex
  refine ⟨fun σ' H' => ∃ m', m' < tsum (st' ++ [(px, ex, nx)]) ∧ ∃ (x : Option V) (rr ww : List V) (rs st : List Trip), σ' = [some v, some (.ref lr), some (.ref lw), x] ∧ m' = tsum st ∧ H' lr = some (.lst rr) ∧ Paired (SpanR CS mk H') rr rs ∧ H' lw = some (.lst ww) ∧ Paired (SpanR CS mk H') ww st ∧
    rs ++ st.reverse.flatMap Trip.spn = e.spn p n ∧ Same H H', fun σ' H' h => h, ?_⟩
  -- pop
  refine ⟨_, rfl, .inl ⟨rfl, _, SqL.of ew⟩, lw, _, u, rfl, rfl, ew, by simp, ?_⟩
  rw [List.dropLast_concat]
  have k2 := KI.lst (CS := CS) (o := .lst ww') ew
  have er2 : (upd H1 lw (.lst ww')) lr = some (.lst rr) := by rw [upd_ne nrw]; exact er
  have hrl : rr.length = rs.length := pr.length
  -- append
  refine ⟨_, rfl, .inl ⟨rfl, _, SqL.of er2⟩, _, rfl, lr, rr, _, rfl, rfl, er2, small1000 (by omega), ?_⟩
  have k3 := KI.lst (CS := CS) (o := .lst (rr ++ [u])) er2
  have k23 := k2.trans k3
  have ew3 : (upd (upd H1 lw (.lst ww')) lr (.lst (rr ++ [u]))) lw = some (.lst ww') := by rw [upd_ne (Ne.symm nrw)]; exact upd_same
  have s3 : Same H (upd (upd H1 lw (.lst ww')) lr (.lst (rr ++ [u]))) := fun b o z => by
    rw [upd_ne (ne_of_none z nlr), upd_ne (ne_of_none z hlw)]; exact s1 _ _ z
  have er3 : (upd (upd H1 lw (.lst ww')) lr (.lst (rr ++ [u]))) lr = some (.lst (rr ++ [u])) := upd_same
  generalize (upd (upd H1 lw (.lst ww')) lr (.lst (rr ++ [u]))) = H3 at k23 ew3 s3 er3 ⊢
  have ru3 := ru.keep k23
  obtain ⟨ws, ⟨a0, dx, fs, vp, vf, tb, to, rfl, h1, hf, h2, h3, h4, h5⟩, hbs⟩ := SpanAt.obj ru3
  have hlen : ws.length = ex.ops.length := hbs.length
  -- extend
  refine ⟨_, rfl, .inl ⟨rfl, _, SqL.of ew3⟩, _, rfl, a0, CS, dx, fs, _, rfl, h1, T.cl, T.nB, hf.b, tb, ws, rfl, SqT.of h4, fun r nr => ?_⟩
  have s4 := same_up (o := .tup ws.reverse) nr
  have hwl : ww'.length = st'.length := pw'.length
  have hsl := tsum_len st'
  have hng := nodess_ge ex.ops
  refine ⟨lw, r, ww', ws.reverse, rfl, rfl, s4 _ _ ew3, upd_same, sz (by rw [List.length_reverse]; omega), ?_⟩
  have ew4 := s4 _ _ ew3
  have k5 := KI.lst (CS := CS) (o := .lst (ww' ++ ws.reverse)) ew4
  have k35 : KI CS H3 (upd (upd H3 r (.tup ws.reverse)) lw (.lst (ww' ++ ws.reverse))) := (KI.same s4).trans k5
  have k15 := k23.trans k35
  refine ⟨tsum (st' ++ (skids ex.ops px 0 nx).reverse), ?_, _, rr ++ [.ref a0], ww' ++ ws.reverse, rs ++ [(px, ex, nx)], st' ++ (skids ex.ops px 0 nx).reverse, rfl, rfl, ?_, ?_, upd_same, ?_, ?_, ?_⟩
  · rw [hsum2, tsum_append, tsum_rev, tsum_kids]
    omega
  · rw [upd_ne nrw]; exact s4 _ _ er3
  · exact paired_append (L2.Paired.mapP pr fun a b z => z.keep k15) (.cons (ru3.keep k35) .nil)
  · exact paired_append (L2.Paired.mapP pw' fun a b z => z.keep k15) (L2.Paired.mapP (paired_reverse hbs.paired) fun a b z => z.keep k35)
  · rw [← hpre]
    simp only [List.reverse_append, List.reverse_reverse, List.flatMap_append, List.reverse_cons, List.reverse_nil, List.nil_append, List.flatMap_cons, List.flatMap_nil, List.append_nil, List.append_assoc]
    rw [show Trip.spn (px, ex, nx) = (px, ex, nx) :: (skids ex.ops px 0 nx).flatMap Trip.spn from spn_eq ex px nx]
    simp
  · intro b o z
    rw [upd_ne (ne_of_none z hlw)]
    exact s4 _ _ (s3 _ _ z)
end
end Oo
namespace Oo
open PySem L2 PyProof.Rows LamX StX ClX
abbrev sStepOf : Stmt := top 54
/-! ### steps counted -/
theorem filter_one : ∀ {fns : List Fn}, (fns.map (·.name)).Nodup → ∀ {fn : Fn}, fn ∈ fns → (fns.filter fun g => decide (g.name = fn.name)) = [fn]
  | [], _, _, h => by cases h
  | a :: r, nd, fn, h => by
    rw [List.map_cons, List.nodup_cons] at nd
    rcases List.mem_cons.mp h with e | h
    · subst e
      have hz : r.filter (fun g => decide (g.name = fn.name)) = [] := by
        refine List.filter_eq_nil_iff.mpr fun g hg z => ?_
        exact nd.1 (List.mem_map.mpr ⟨g, hg, of_decide_eq_true z⟩)
      rw [List.filter_cons_of_pos (by simp), hz]
    · have hn : ¬ (a.name = fn.name) := fun z => nd.1 (List.mem_map.mpr ⟨fn, h, z.symm⟩)
      rw [List.filter_cons_of_neg (by simp [hn])]
      exact filter_one nd.2 h
theorem kdW_call {ps : List Str} {fns : List Fn} {f : Str} {n : Nat} (h : KdW ps fns (.call f) n) : ∃ fn ∈ fns, fn.name = f ∧ fn.ar = (n : Int) := by
  simp only [KdW] at h
  exact h
theorem ownSteps_steps {ps : List Str} {fns : List Fn} (kw : KitW ps fns) {p : List Nat} {k : Kd} {n : Nat} (h : KdW ps fns k n) : (ownSteps fns p k).length = k.steps := by
  cases k with
  | call f =>
    obtain ⟨fn, h1, rfl, _⟩ := kdW_call h
    simp only [ownSteps, List.length_map, filter_one kw.fnd h1, Kd.steps, List.length_singleton]
  | _ => simp [ownSteps, Kd.steps]
mutual
theorem stepL_steps {ps : List Str} {fns : List Fn} (kw : KitW ps fns) : ∀ (e : Ex) (p : List Nat), ExW ps fns e → (Ex.stepL fns e p).length = e.steps
  | .num n, p, _ => by simp [Ex.stepL, Ex.steps]
  | .nd k os, p, h => by
    unfold ExW at h
    have h1 := stepLs_steps kw os p 0 h.2
    have h2 := ownSteps_steps kw (p := p) h.1
    simp only [Ex.stepL, List.length_append, Ex.steps]
    omega
theorem stepLs_steps {ps : List Str} {fns : List Fn} (kw : KitW ps fns) : ∀ (es : List Ex) (p : List Nat) (j : Nat), ExWs ps fns es → (Ex.stepLs fns es p j).length = Ex.stepss es
  | [], p, j, _ => by simp [Ex.stepLs, Ex.stepss]
  | e :: r, p, j, h => by
    unfold ExWs at h
    have h1 := stepL_steps kw e (p ++ [j]) h.1
    have h2 := stepLs_steps kw r p (j + 1) h.2
    simp only [Ex.stepLs, List.length_append, Ex.stepss]
    omega
end
def Kd.place : Kd → Option Str
  | .read x => some x
  | .store x => some x
  | .step x _ _ => some x
  | _ => none
theorem own_cases {ps : List Str} {fns : List Fn} (kw : KitW ps fns) {p : List Nat} {k : Kd} {n a : Nat} {r : StepR} (hk : KdW ps fns k n) (h : (ownSteps fns p k)[a]? = some r) : a < k.steps ∧ k.kinds[a]? = some r.kind ∧
    ((∃ fn ∈ fns, k = .call fn.name ∧ r = ⟨"call", p, fn.rd, fn.st⟩) ∨ (∃ x, k.place = some x ∧ r = ⟨"read", p, [x], []⟩) ∨ ∃ x, k.place = some x ∧ r = ⟨"store", p, [], [x]⟩) := by
  have ha : a < k.steps := by rw [← ownSteps_steps kw (p := p) hk]; exact (List.getElem?_eq_some_iff.mp h).1
  refine ⟨ha, ?_⟩
  cases k with
  | call f =>
    obtain ⟨fn, h1, rfl, _⟩ := kdW_call hk
    simp only [ownSteps, filter_one kw.fnd h1, List.map_cons, List.map_nil] at h
    have : a = 0 := by simp only [Kd.steps] at ha; omega
    subst this
    cases h
    exact ⟨rfl, .inl ⟨fn, h1, rfl, rfl⟩⟩
  | read x =>
    have : a = 0 := by simp only [Kd.steps] at ha; omega
    subst this
    cases h
    exact ⟨rfl, .inr (.inl ⟨x, rfl, rfl⟩)⟩
  | store x =>
    have : a = 0 := by simp only [Kd.steps] at ha; omega
    subst this
    cases h
    exact ⟨rfl, .inr (.inr ⟨x, rfl, rfl⟩)⟩
  | step x b wh =>
    simp only [Kd.steps] at ha
    match a, ha with
    | 0, _ => cases h; exact ⟨rfl, .inr (.inl ⟨x, rfl, rfl⟩)⟩
    | 1, _ => cases h; exact ⟨rfl, .inr (.inr ⟨x, rfl, rfl⟩)⟩
  | _ => simp only [Kd.steps] at ha; omega
theorem NodeAt.place {H : Hp} {p : Addr} {k : Kd} {vs : List V} {x : Str} (n : NodeAt H p k vs) (h : k.place = some x) : ∃ tl, H p = some (.tup (.str k.word :: .str x :: tl)) := by
  cases k <;> first | (cases h; done) | (cases h; exact ⟨_, n⟩)
def spStepOf (CF CB CS : Addr) : Sp := fun vs H Q _ => ∃ (vb v : V) (ps : List Str) (fns : List Fn) (mk : List (List Nat)) (k : Kd) (os : List Ex) (p : List Nat) (n a : Nat) (r : StepR), vs = [vb, v, .int ((n + Ex.stepss os + a : Nat) : Int)] ∧ BookAt CF CB H vb fns ∧ KitW ps fns ∧ SpanAt CS mk H (.nd k os) p n v ∧ ExW ps fns (.nd k os) ∧
  (ownSteps fns p k)[a]? = some r ∧ ∀ u H', StepAt H' u r → Same H H' → Q u H'
theorem at_nat {xs : List V} {i : Nat} {y : V} (h : xs[i]? = some y) : atI xs (i : Int) = some y := at_of (j := i) (by first | rfl | omega) h
section
variable {P : Program} {w : World} {K : PySem.W.Frag} {mg : Str → Option Value} {base : Heap} {X : Cx}
theorem scStepOf : FnScope ["book", "span", "step", "form", "kind", "function"] ["book", "span", "step"] (defScope sStepOf) := ⟨rfl, rfl, rfl, by decide +kernel, rfl, by decide +kernel, by decide +kernel⟩
theorem ok_stepof {CF CB CS f fo fg : Addr} {fd fdo fdg : FuncData} (F : Fun K "step_of" "step_of" sStepOf f fd) (T : TxS K CS) (TF' : TxF K CF)
    (GO : FnOk P w K mg base CX0 2 fo fdo ["node"] (spKinds K)) (kO : PySem.W.keepIn K (.ref fo) = true) (bO : Binds K fdo ["node"] []) (mO : mg "own_steps" = some (.ref fo))
    (GG : FnOk P w K mg base CX0 6 fg fdg ["self", "at"] (spBGet CF CB)) (DG : Dun K CB "__getitem__" fg) (fnG : PySem.W.fnIn K fg = true) (bG : Binds K fdg ["self", "at"] []) : FnOk P w K mg base CX0 8 f fd ["book", "span", "step"] (spStepOf CF CB CS) := by
  refine F.ok scStepOf (fun vs H Q E h => ?_) (fun cdv A outer s H vs Q E hr h => ?_)
  · obtain ⟨vb, v, ps, fns, mk, k, os, p, n, a, r, rfl, _⟩ := h
    rfl
  obtain ⟨vb, v, ps, fns, mk, k, os, p, n, a, r, rfl, hB, kw, hs, ew, hr', q⟩ := h
  have hr2 : Room 2 _ := hr.mono (by decide)
  refine ⟨_, (pss_cons (ps_set (i := 3) scStepOf.nd rfl (.inl rfl) (pe_fld (pv 1) rfl))
    (pss_cons (ps_set (i := 4) scStepOf.nd rfl (.inl rfl) (pe_ix ix_tup (pe_call GO hr2 rfl mO kO bO .nil pass0 (pa_cons (pv 3) pa_nil)) (pe_op op_sub (pv 2) (pe_ix ix_tup (pe_fld (pv 1) rfl) pe_int (fun _ _ => rfl))) (fun _ _ => rfl)))
    (pss_cons (ps_if (pt_cmpR op_eq (pv 4) pe_str (nomark _)) (pss_cons (ps_set (i := 5) scStepOf.nd rfl (.inl rfl) (pe_ixO GG hr DG fnG bG pass0 (pv 0) (pe_ix ix_tup (pv 3) pe_int (fun _ _ => rfl))))
    (pss_one (ps_ret (pe_tup (pa_cons (pv 4) (pa_cons (pe_fld (pv 1) rfl) (pa_cons (pe_fld (pv 5) rfl) (pa_cons (pe_fld (pv 5) rfl) pa_nil)))))))) pss_nil)
    (pss_cons (ps_if (pt_cmpR op_eq (pv 4) pe_str (nomark _)) (pss_one (ps_ret (pe_tup (pa_cons (pv 4) (pa_cons (pe_fld (pv 1) rfl) (pa_cons (pe_tup (pa_cons (pe_ix ix_tup (pv 3) pe_int (fun _ _ => rfl)) pa_nil)) (pa_cons (pe_tup pa_nil) pa_nil))))))) pss_nil)
    (pss_one (ps_ret (pe_tup (pa_cons (pv 4) (pa_cons (pe_fld (pv 1) rfl) (pa_cons (pe_tup pa_nil) (pa_cons (pe_tup (pa_cons (pe_ix ix_tup (pv 3) pe_int (fun _ _ => rfl)) pa_nil)) pa_nil))))))))))), ?_⟩
  have hk : KdW ps fns k os.length := by unfold ExW at ew; exact ew.1
  obtain ⟨ha, hkind, hcase⟩ := own_cases kw hk hr'
  obtain ⟨ws, ⟨a0, dx, fs, vp, vf, tb, to, rfl, h1, hf, h2, h3, h4, h5⟩, hbs⟩ := hs.obj
  have ho0 : (nv_ (Ex.owns (.nd k os) n))[0]? = some (V.int ((n + Ex.stepss os : Nat) : Int)) := by
    have hpos : 0 < Ex.own (.nd k os) := by show 0 < k.steps; omega
    have e1 := steps_own (.nd k os)
    have e2 : Ex.steps (.nd k os) - Ex.own (.nd k os) = Ex.stepss os := e1
    unfold nv_ Ex.owns
    rw [List.getElem?_map, List.getElem?_map, List.getElem?_range hpos, e2]
    rfl
  have ie0 := h3
  have h3' := h3
  unfold InE at h3'
  obtain ⟨pn, wf, rfl, ios, na⟩ := h3'
  refine ⟨_, rfl, a0, CS, dx, fs, _, rfl, h1, T.cl, T.nF, hf.f, ?_⟩
  refine ⟨_, rfl, _, _, rfl, ie0, fun qk H1 hks s1 => ?_⟩
  refine ⟨_, rfl, _, rfl, a0, CS, dx, fs, _, rfl, s1 _ _ h1, T.cl, T.nO, hf.o, to, _, _, _, rfl, rfl, SqT.of (s1 _ _ h5), at_of (j := 0) rfl ho0, _, _, rfl, rfl, qk, _, _, V.str r.kind, rfl, rfl, hks, ?_, ?_⟩
  · have e3 : ((n + Ex.stepss os + a : Nat) : Int) - ((n + Ex.stepss os : Nat) : Int) = (a : Int) := by omega
    rw [e3]
    refine at_nat ?_
    show (k.kinds.map V.str)[a]? = some (.str r.kind)
    rw [List.getElem?_map, hkind]
    rfl
  have na1 := na.keep (same_t s1)
  have hp1 := h2.keep (same_t s1)
  refine ⟨_, rfl, rfl, _, rfl, ?_⟩
  rcases hcase with ⟨fn, hfn, rfl, rfl⟩ | ⟨x, hx, rfl⟩ | ⟨x, hx, rfl⟩
  · refine iteYes rfl ?_
    obtain ⟨qa, hq1, _⟩ := na1
    obtain ⟨b, dxb, fsb, tf, rows, fns', rfl, g1, g2, g3, g4, g5⟩ := id hB
    refine ⟨_, rfl, _, rfl, pn, _, _, _, rfl, rfl, SqT.of hq1, at1 _ _ _, b, dxb, fsb, rfl, s1 _ _ g1, _, fn, fns, rfl, hB.keep s1, Nat.le_trans kw.fl (by decide), hfn, kw.fnd, kw.fok, fun v' H2 hfa s2 => ?_⟩
    obtain ⟨pf, dxf, fsf, vr, vs', rfl, f1, f2, f3, f4, f5, f6, f7⟩ := hfa
    refine ⟨_, rfl, _, rfl, a0, CS, dx, fs, _, rfl, s2 _ _ (s1 _ _ h1), T.cl, T.nP, hf.p, _, rfl, pf, CF, dxf, fsf, _, rfl, f1, TF'.cl, TF'.nR, f4, _, rfl, pf, CF, dxf, fsf, _, rfl, f1, TF'.cl, TF'.nS, f5, sz (by simp), fun t nt => ?_⟩
    have st := same_up (o := .tup [V.str "call", vp, vr, vs']) nt
    exact q _ _ ⟨t, vp, vr, vs', rfl, upd_same, hp1.keep (same_t (s2.trans st)), f6.keep (same_t st), f7.keep (same_t st)⟩ ((s1.trans s2).trans st)
  · refine iteNo (show ¬ (V.str "read" = V.str "call") by decide +kernel) ⟨_, rfl, rfl, _, rfl, iteYes rfl ?_⟩
    obtain ⟨tl, ht⟩ := na1.place hx
    refine ⟨_, rfl, _, rfl, a0, CS, dx, fs, _, rfl, s1 _ _ h1, T.cl, T.nP, hf.p, _, rfl, pn, _, _, _, rfl, rfl, SqT.of ht, at1 _ _ _, sz (by simp), fun t1 n1 => ⟨sz (by simp), fun t2 n2 => ⟨sz (by simp), fun t n3 => ?_⟩⟩⟩
    have sa := same_up (o := .tup [V.str x]) n1
    have sb := same_up (o := .tup ([] : List V)) n2
    have sc := same_up (o := .tup [V.str "read", vp, .ref t1, .ref t2]) n3
    exact q _ _ ⟨t, vp, .ref t1, .ref t2, rfl, upd_same, hp1.keep (same_t ((sa.trans sb).trans sc)), ⟨t1, rfl, sc _ _ (sb _ _ upd_same)⟩, ⟨t2, rfl, sc _ _ upd_same⟩⟩ (s1.trans ((sa.trans sb).trans sc))
  · refine iteNo (show ¬ (V.str "store" = V.str "call") by decide +kernel) ⟨_, rfl, rfl, _, rfl, iteNo (show ¬ (V.str "store" = V.str "read") by decide +kernel) ?_⟩
    obtain ⟨tl, ht⟩ := na1.place hx
    refine ⟨_, rfl, _, rfl, a0, CS, dx, fs, _, rfl, s1 _ _ h1, T.cl, T.nP, hf.p, sz (by simp), fun t1 n1 => ?_⟩
    have sa := same_up (o := .tup ([] : List V)) n1
    refine ⟨_, rfl, pn, _, _, _, rfl, rfl, SqT.of (sa _ _ ht), at1 _ _ _, sz (by simp), fun t2 n2 => ⟨sz (by simp), fun t n3 => ?_⟩⟩
    have sb := same_up (o := .tup [V.str x]) n2
    have sc := same_up (o := .tup [V.str "store", vp, .ref t1, .ref t2]) n3
    exact q _ _ ⟨t, vp, .ref t1, .ref t2, rfl, upd_same, hp1.keep (same_t ((sa.trans sb).trans sc)), ⟨t1, rfl, sc _ _ (sb _ _ upd_same)⟩, ⟨t2, rfl, sc _ _ upd_same⟩⟩ (s1.trans ((sa.trans sb).trans sc))
end
end Oo
namespace Oo
open PySem L2
theorem prec_child {mk : List (List Nat)} {e : Ex} {p : List Nat} {n a i j : Nat} (h : a < e.ops.length) (h1 : n + Ex.stepss (e.ops.take a) ≤ j) (h2 : j < n + Ex.stepss (e.ops.take a) + e.ops[a].steps) :
    e.prec mk p n i j = (e.ops[a].prec mk (p ++ [a]) (n + Ex.stepss (e.ops.take a)) i j || (e.fx mk p && inR n (Ex.stepss (e.ops.take (aheadN e.gd a))) i)) := by
  cases e with
  | num c => exact absurd h (by simp [Ex.ops])
  | nd k os =>
    have hc := stepss_child os a h
    simp only [Ex.ops] at h1 h2 ⊢
    simp only [Ex.prec]
    rw [inR_not (n := n + Ex.stepss os) (i := j) (by omega), Bool.and_false, Bool.false_and, Bool.false_or, precs_at os p 0 n a i j h h1 h2, Nat.zero_add]
    have e1 : (if k.grd = true then (if 0 = 0 then min a 1 else 0) else a) = aheadN k.grd a := by
      unfold aheadN
      cases k.grd <;> simp
    rw [e1]
    rfl
theorem opn_child {mk : List (List Nat)} {e : Ex} {p : List Nat} {n a i j : Nat} (h : a < e.ops.length) (h1 : n + Ex.stepss (e.ops.take a) ≤ j) (h2 : j < n + Ex.stepss (e.ops.take a) + e.ops[a].steps) :
    e.opn mk p n i j = (e.ops[a].opn mk (p ++ [a]) (n + Ex.stepss (e.ops.take a)) i j || (!e.fx mk p && (inR n (Ex.stepss e.ops) i && !inR (n + Ex.stepss (e.ops.take a)) e.ops[a].steps i))) := by
  cases e with
  | num c => exact absurd h (by simp [Ex.ops])
  | nd k os =>
    simp only [Ex.ops] at h1 h2 ⊢
    simp only [Ex.opn]
    rw [opns_at os p 0 n a i j h h1 h2, Nat.zero_add]
    rfl
theorem prec_own {mk : List (List Nat)} {e : Ex} {p : List Nat} {n i j : Nat} (h1 : n + Ex.stepss e.ops ≤ j) (h2 : j < n + e.steps) : e.prec mk p n i j = (inR n e.steps i && decide (i < j)) := by
  cases e with
  | num c => simp only [Ex.steps] at h2; omega
  | nd k os =>
    simp only [Ex.ops, Ex.steps] at h1 h2
    simp only [Ex.prec, Ex.steps]
    rw [precs_no (by omega), Bool.or_false, inR_iff.mpr (show n + Ex.stepss os ≤ j ∧ j < n + Ex.stepss os + k.steps by omega), Bool.and_true, Nat.add_comm k.steps]
theorem opn_own {mk : List (List Nat)} {e : Ex} {p : List Nat} {n i j : Nat} (h1 : n + Ex.stepss e.ops ≤ j) : e.opn mk p n i j = false := by
  cases e with
  | num c => rfl
  | nd k os =>
    simp only [Ex.ops] at h1
    simp only [Ex.opn]
    exact opns_no (by omega)
/-- a number in some operand's part -/
theorem in_child : ∀ (os : List Ex) (n i : Nat), i ≤ os.length → ∀ j, n + Ex.stepss (os.take i) ≤ j → j < n + Ex.stepss os → ∃ a, ∃ h : a < os.length, i ≤ a ∧ n + Ex.stepss (os.take a) ≤ j ∧ j < n + Ex.stepss (os.take a) + os[a].steps := by
  intro os n i hi j h1 h2
  have key : ∀ m, i + m ≤ os.length → n + Ex.stepss (os.take (i + m)) ≤ j ∨ ∃ a, ∃ h : a < os.length, i ≤ a ∧ n + Ex.stepss (os.take a) ≤ j ∧ j < n + Ex.stepss (os.take a) + os[a].steps := by
    intro m
    induction m with
    | zero => intro _; exact .inl h1
    | succ m ih =>
      intro hm
      rcases ih (by omega) with h | h
      · by_cases z : j < n + Ex.stepss (os.take (i + m)) + os[i + m].steps
        · exact .inr ⟨i + m, by omega, by omega, h, z⟩
        · refine .inl ?_
          rw [show i + (m + 1) = i + m + 1 by omega, stepss_take_succ os (i + m) (by omega)]
          omega
      · exact .inr h
  rcases key (os.length - i) (by omega) with h | h
  · rw [show i + (os.length - i) = os.length by omega, List.take_length] at h
    omega
  · exact h
end Oo
namespace Oo
open PySem L2 PyProof.Rows LamX StX ClX
abbrev sRel : Stmt := top 57
/-- a row of sets, the j-th being the i with R i j -/
def SetRow (xs : List V) (m : Nat) (R : Nat → Nat → Bool) : Prop := xs.length = m ∧ ∀ j, j < m → ∃ x, xs[j]? = some (.int x) ∧ Bits x (fun i => R i j)
abbrev Ent : Type := Trip × (Nat → Bool) × (Nat → Bool)
def EntAt (CS : Addr) (mk : List (List Nat)) (H : Hp) (u : V) (x : Ent) : Prop := ∃ (q : Addr) (vs : V) (A B : Int), u = .ref q ∧ H q = some (.tup [vs, .int A, .int B]) ∧ SpanR CS mk H vs x.1 ∧ Bits A x.2.1 ∧ Bits B x.2.2
theorem EntAt.keep {CS : Addr} {mk : List (List Nat)} {H H' : Hp} {u : V} {x : Ent} (h : EntAt CS mk H u x) (k : KI CS H H') : EntAt CS mk H' u x := by
  obtain ⟨q, vs, A, B, rfl, h1, h2, h3, h4⟩ := h
  exact ⟨q, vs, A, B, rfl, k.1 _ _ h1, h2.keep k, h3, h4⟩
/-- an entry tells what is ahead of its steps, what is beside them -/
def EntOk (mk : List (List Nat)) (m : Nat) (PR OP : Nat → Nat → Bool) (x : Ent) : Prop := x.1.2.2 + x.1.2.1.steps ≤ m ∧ ∀ j, x.1.2.2 ≤ j → j < x.1.2.2 + x.1.2.1.steps → ∀ i, PR i j = (x.2.1 i || x.1.2.1.prec mk x.1.1 x.1.2.2 i j) ∧ OP i j = (x.2.2 i || x.1.2.1.opn mk x.1.1 x.1.2.2 i j)
def InEnt (x : Ent) (j : Nat) : Prop := x.1.2.2 ≤ j ∧ j < x.1.2.2 + x.1.2.1.steps
def Done (PR OP : Nat → Nat → Bool) (bl sl : List V) (j : Nat) : Prop := (∃ x, bl[j]? = some (.int x) ∧ Bits x (fun i => PR i j)) ∧ ∃ x, sl[j]? = some (.int x) ∧ Bits x (fun i => OP i j)
def esum (st : List Ent) : Nat := tsum (st.map (·.1))
theorem esum_append (a b : List Ent) : esum (a ++ b) = esum a + esum b := by unfold esum; rw [List.map_append, tsum_append]
theorem esum_len (a : List Ent) : a.length ≤ esum a := by
  have := tsum_len (a.map (·.1))
  rwa [List.length_map] at this
/-- the entry of the a-th operand -/
def kidEnt (mk : List (List Nat)) (e : Ex) (p : List Nat) (n : Nat) (S B : Nat → Bool) (a : Nat) (o : Ex) : Ent :=
  ((p ++ [a], o, n + Ex.stepss (e.ops.take a)), (fun i => S i || (e.fx mk p && inR n (Ex.stepss (e.ops.take (aheadN e.gd a))) i)), fun i => B i || (!e.fx mk p && (inR n (Ex.stepss e.ops) i && !inR (n + Ex.stepss (e.ops.take a)) o.steps i)))
theorem kid_ok {mk : List (List Nat)} {m : Nat} {PR OP : Nat → Nat → Bool} {e : Ex} {p : List Nat} {n : Nat} {S B : Nat → Bool} (h : EntOk mk m PR OP ((p, e, n), S, B)) {a : Nat} (ha : a < e.ops.length) : EntOk mk m PR OP (kidEnt mk e p n S B a e.ops[a]) := by
  obtain ⟨h1, h2⟩ := h
  have hc := stepss_child e.ops a ha
  have ho := opsteps_le e
  simp only at h1 h2
  refine ⟨by simp only [kidEnt]; omega, fun j j1 j2 i => ?_⟩
  simp only [kidEnt] at j1 j2 ⊢
  obtain ⟨q1, q2⟩ := h2 j (by omega) (by omega) i
  rw [q1, q2, prec_child ha j1 j2, opn_child ha j1 j2]
  constructor
  · generalize S i = s; generalize (e.fx mk p && _) = t; generalize Ex.prec mk _ _ _ _ _ = u
    cases s <;> cases t <;> cases u <;> rfl
  · generalize B i = s; generalize (!e.fx mk p && _) = t; generalize Ex.opn mk _ _ _ _ _ = u
    cases s <;> cases t <;> cases u <;> rfl
def spRel (CS : Addr) : Sp := fun vs H Q _ => ∃ (v : V) (e : Ex) (p : List Nat) (mk : List (List Nat)), vs = [v] ∧ SpanAt CS mk H e p 0 v ∧ e.nodes ≤ 900 ∧
  ∀ (t tb ts : Addr) (bl sl : List V) (H' : Hp), H' t = some (.tup [.ref tb, .ref ts]) → H' tb = some (.tup bl) → H' ts = some (.tup sl) → SetRow bl e.steps (e.prec mk p 0) → SetRow sl e.steps (e.opn mk p 0) → Same H H' → Q (.ref t) H'
theorem owns_get (e : Ex) (n i : Nat) (h : i < e.own) : (nv_ (e.owns n))[i]? = some (.int ((n + Ex.stepss e.ops + i : Nat) : Int)) := by
  unfold nv_ Ex.owns
  rw [List.getElem?_map, List.getElem?_map, List.getElem?_range h, steps_own e]
  rfl
theorem owns_len (e : Ex) (n : Nat) : (nv_ (e.owns n)).length = e.own := by simp [nv_, Ex.owns]
theorem seqIx {n i : Nat} (h : i < n) : ixN n (i : Int) = some i := by
  unfold ixN
  have h1 : ¬ ((i : Int) < 0) := by omega
  simp [h1]
  try omega
theorem done_set {PR OP : Nat → Nat → Bool} {bl sl : List V} {j k : Nat} {x y : V} (h : Done PR OP bl sl j) (n : k ≠ j) : Done PR OP (bl.set k x) (sl.set k y) j := by
  obtain ⟨⟨a, h1, h2⟩, b, h3, h4⟩ := h
  exact ⟨⟨a, by rw [List.getElem?_set_ne n]; exact h1, h2⟩, b, by rw [List.getElem?_set_ne n]; exact h3, h4⟩
def teOth (CS : Addr) (mk : List (List Nat)) : TE := fun σ H Q => ∃ (v vo : V) (e o : Ex) (p po : List Nat) (n no : Nat), σ[4]? = some (some v) ∧ SpanAt CS mk H e p n v ∧ σ[9]? = some (some vo) ∧ SpanAt CS mk H o po no vo ∧ ∀ x, Bits x (fun i => !e.fx mk p && (inR n (Ex.stepss e.ops) i && !inR no o.steps i)) → Q (.int x) H
structure RelInv (CS : Addr) (mk : List (List Nat)) (H0 : Hp) (lb ls lw : Addr) (m : Nat) (PR OP : Nat → Nat → Bool) (st : List Ent) (rest : Nat → Prop) (H' : Hp) (bl sl ww : List V) : Prop where
  b : H' lb = some (.lst bl)
  s : H' ls = some (.lst sl)
  w : H' lw = some (.lst ww)
  p : Paired (EntAt CS mk H') ww st
  ok : ∀ x ∈ st, EntOk mk m PR OP x
  lb : bl.length = m
  ls : sl.length = m
  cov : ∀ j, j < m → Done PR OP bl sl j ∨ (∃ x ∈ st, InEnt x j) ∨ rest j
  k : Same H0 H'
theorem rep_flat (n : Nat) : (List.replicate n [V.int 0]).flatten = List.replicate n (V.int 0) := by
  induction n with
  | zero => rfl
  | succ n ih => rw [List.replicate_succ, List.replicate_succ, List.flatten_cons, ih]; rfl
section
variable {P : Program} {w : World} {K : PySem.W.Frag} {mg : Str → Option Value} {base : Heap} {X : Cx}
theorem scRel : FnScope ["root", "befores", "besides", "waiting", "span", "ahead", "beside", "step", "at", "one", "others"] ["root"] (defScope sRel) := ⟨rfl, rfl, rfl, by decide +kernel, rfl, by decide +kernel, by decide +kernel⟩
theorem ok_rel {CS f fj fb : Addr} {fd fdj fdb : FuncData} (F : Fun K "relations" "relations" sRel f fd) (T : TxS K CS) (ml : mg "len" = none) (mt : mg "tuple" = none) (men : mg "enumerate" = none)
    (GJ0 : ∀ mk, FnOk P w K mg base CX0 1 fj fdj ["spans"] (spJoined CS mk)) (kJ : PySem.W.keepIn K (.ref fj) = true) (bJ : Binds K fdj ["spans"] []) (mJ : mg "joined" = some (.ref fj))
    (GB0 : ∀ mk, FnOk P w K mg base CX0 3 fb fdb ["span", "at"] (spBelow CS mk)) (kB : PySem.W.keepIn K (.ref fb) = true) (bB : Binds K fdb ["span", "at"] []) (mB : mg "below_ahead" = some (.ref fb)) : FnOk P w K mg base CX0 4 f fd ["root"] (spRel CS) := by
  refine F.ok scRel (fun vs H Q E h => ?_) (fun cdv A outer s H vs Q E hr h => ?_)
  · obtain ⟨v, e, p, mk, rfl, _⟩ := h
    rfl
  obtain ⟨v, e, p, mk, rfl, hv, hn, q⟩ := h
  have hr1 : Room 1 _ := hr.mono (by decide)
  have GJ := GJ0 mk
  have GB := GB0 mk
  refine ⟨_, (pss_cons (ps_set (i := 1) scRel.nd rfl (.inl rfl) (pe_op op_rep (pe_lst (pa_cons pe_int pa_nil)) (pe_fld (pv 0) rfl)))
    (pss_cons (ps_set (i := 2) scRel.nd rfl (.inl rfl) (pe_op op_rep (pe_lst (pa_cons pe_int pa_nil)) (pe_fld (pv 0) rfl)))
    (pss_cons (ps_set (i := 3) scRel.nd rfl (.inl rfl) (pe_lst (pa_cons (pe_tup (pa_cons (pv 0) (pa_cons pe_int (pa_cons pe_int pa_nil)))) pa_nil)))
    (pss_cons (ps_while PassesOwn.never (pt_cmpR op_gt (pe_callB call_len_seq (by rfl) ml PySem.boot_len (pa_cons (pv 3) pa_nil)) pe_int (nomark _)) (pss_cons (ps_asg (pe_bm0 PySem.F.plainAttrs_list PySem.F.slot_list_pop PySem.F.type_list_pop mt_pop (pv 3)) (pg_tup rfl (pgs_cons (pg_name (i := 4) scRel.nd rfl (Or.inl rfl)) (pgs_cons (pg_name (i := 5) scRel.nd rfl (Or.inl rfl)) (pgs_cons (pg_name (i := 6) scRel.nd rfl (Or.inl rfl)) pgs_nil)))))
    (pss_cons (ps_for PassesOwn.never rfl (pi_tup (pe_fld (pv 4) rfl)) (pg_name (i := 7) scRel.nd rfl (Or.inl rfl)) (pss_cons (ps_asg (pe_op op_or (pv 5) (pe_op op_and (pe_fld (pv 4) rfl) (pe_op op_sub (pe_op op_oneShl pe_int (pv 7)) pe_int))) (pg_sub (pv 1) (pv 7) set_list))
    (pss_one (ps_asg (pv 6) (pg_sub (pv 2) (pv 7) set_list)))))
    (pss_one (ps_for PassesOwn.never rfl (pi_enumT (by rfl) men (pa_cons (pe_fld (pv 4) rfl) pa_nil)) (pg_tup rfl (pgs_cons (pg_name (i := 8) scRel.nd rfl (Or.inl rfl)) (pgs_cons (pg_name (i := 9) scRel.nd rfl (Or.inl rfl)) pgs_nil))) (pss_cons (ps_set (i := 10) scRel.nd rfl (.inl rfl) (pe_as (t' := teOth CS mk) (pe_ifExp (pt_val (pe_fld (pv 4) rfl)) pe_int (pe_op op_and (pe_call GJ hr1 rfl mJ kJ bJ .nil pass0 (pa_cons (pe_fld (pv 4) rfl) pa_nil)) (pe_un un_inv (pe_fld (pv 9) rfl)))) ?c1))
    (pss_one (ps_expr (pe_bm PySem.F.plainAttrs_list PySem.F.slot_list_append PySem.F.type_list_append mt_append (pv 3) (pa_cons (pe_tup (pa_cons (pv 9) (pa_cons (pe_op op_or (pv 5) (pe_call GJ hr1 rfl mJ kJ bJ .nil pass0 (pa_cons (pe_call GB hr rfl mB kB bB .nil pass0 (pa_cons (pv 4) (pa_cons (pv 8) pa_nil))) pa_nil))) (pa_cons (pe_op op_or (pv 6) (pv 10)) pa_nil)))) pa_nil))))))))))
    (pss_one (ps_ret (pe_tup (pa_cons (pe_tupleOf (by rfl) mt (pv 1)) (pa_cons (pe_tupleOf (by rfl) mt (pv 2)) pa_nil))))))))), ?_⟩
  case c1 =>
    rintro σ H Q ⟨v, vo, e, o, p, po, n, no, e4, hv, e9, ho, q⟩
    obtain ⟨ws, ⟨a1, dx, fs, vp, vf, tb, to, rfl, h1, hf, h2, h3, h4, h5⟩, hbs⟩ := hv.obj
    obtain ⟨ws2, ⟨a2, dx2, fs2, vp2, vf2, tb2, to2, rfl, g1, gf, _⟩, _⟩ := ho.obj
    refine ⟨_, e4, a1, CS, dx, fs, _, rfl, h1, T.cl, T.nX, hf.x, _, rfl, ?_⟩
    cases hx : e.fx mk p with
    | true =>
      rw [hx] at q
      exact iteT (q 0 (Bits.zero.congr fun i => rfl))
    | false =>
      rw [hx] at q
      refine iteF ⟨_, e4, a1, CS, dx, fs, _, rfl, h1, T.cl, T.nB, hf.b, tb, ws, e.ops, p, n, rfl, h4, hbs, fun x hb => ?_⟩
      refine ⟨_, e9, a2, CS, dx2, fs2, _, rfl, g1, T.cl, T.nI, gf.i, _, rfl, _, _, rfl, rfl, ?_⟩
      exact q _ ((hb.andNot (ins_bits o no)).congr fun i => by simp)
  have hst := steps_le e
  obtain ⟨ws0, ⟨a0, dx0, fs0, vp0, vf0, tb0, to0, rfl, h01, hf0, _⟩, _⟩ := hv.obj
  refine ⟨sz (by simp), fun l1 n1 => ⟨_, rfl, a0, CS, dx0, fs0, _, rfl, same_up n1 _ _ h01, T.cl, T.nS, hf0.s, l1, _, _, rfl, rfl, upd_same, by omega, by omega, sz2 (by simp; omega), fun lb nlb => ?_⟩⟩
  have s1 := (same_up (o := .lst [V.int 0]) n1).trans (same_up (o := .lst (List.replicate ((e.steps : Nat) : Int).toNat [V.int 0]).flatten) nlb)
  refine ⟨sz (by simp), fun l2 n2 => ⟨_, rfl, a0, CS, dx0, fs0, _, rfl, same_up n2 _ _ (s1 _ _ h01), T.cl, T.nS, hf0.s, l2, _, _, rfl, rfl, upd_same, by omega, by omega, sz2 (by simp; omega), fun ls nls => ?_⟩⟩
  have s2 := s1.trans ((same_up (o := .lst [V.int 0]) n2).trans (same_up (o := .lst (List.replicate ((e.steps : Nat) : Int).toNat [V.int 0]).flatten) nls))
  refine ⟨_, rfl, sz (by simp), fun t0 n0 => ⟨sz (by simp), fun lw nlw => ?_⟩⟩
  have st0 := same_up (o := .tup [V.ref a0, .int 0, .int 0]) n0
  have sw0 := same_up (o := .lst [V.ref t0]) nlw
  have s3 := (s2.trans st0).trans sw0
  have hlb : H lb = none := (same_up (o := .lst [V.int 0]) n1).free nlb
  have hls : H ls = none := (s1.trans (same_up (o := .lst [V.int 0]) n2)).free nls
  have hlw : H lw = none := (s2.trans st0).free nlw
  have elb := sw0 _ _ (st0 _ _ (same_up (o := .lst (List.replicate ((e.steps : Nat) : Int).toNat [V.int 0]).flatten) nls _ _ (same_up (o := .lst [V.int 0]) n2 lb _ upd_same)))
  have els := sw0 _ _ (st0 ls _ upd_same)
  have hbs : lb ≠ ls := ne_of_none (same_up (o := .lst [V.int 0]) n2 lb _ upd_same) nls
  have hbw : lb ≠ lw := ne_of_none (st0 _ _ (same_up (o := .lst (List.replicate ((e.steps : Nat) : Int).toNat [V.int 0]).flatten) nls _ _ (same_up (o := .lst [V.int 0]) n2 lb _ upd_same))) nlw
  have hsw : ls ≠ lw := ne_of_none (st0 ls _ upd_same) nlw
  have etn : (((e.steps : Nat) : Int).toNat) = e.steps := Int.toNat_natCast _
  have hll : (List.replicate ((e.steps : Nat) : Int).toNat [V.int 0]).flatten.length = e.steps := by rw [etn, rep_flat, List.length_replicate]
  refine ⟨fun m σ H' => ∃ (o4 o5 o6 o7 o8 o9 o10 : Option V) (bl sl ww : List V) (st : List Ent), σ = [some (.ref a0), some (.ref lb), some (.ref ls), some (.ref lw), o4, o5, o6, o7, o8, o9, o10] ∧ m = esum st ∧ esum st ≤ e.nodes ∧ RelInv CS mk H lb ls lw e.steps (e.prec mk p 0) (e.opn mk p 0) st (fun _ => False) H' bl sl ww,
    ⟨_, none, none, none, none, none, none, none, _, _, [.ref t0], [((p, e, 0), (fun _ => false), fun _ => false)], rfl, rfl, by simp [esum, tsum], elb, els, upd_same, .cons ⟨t0, .ref a0, 0, 0, rfl, sw0 _ _ upd_same, hv.keep (KI.same s3) _ _ _ _, Bits.zero, Bits.zero⟩ .nil, ?_, hll, hll, fun j hj => .inr (.inl ⟨_, List.mem_cons_self, ?_⟩), s3⟩, ?_⟩
  · intro x hx
    rw [List.mem_singleton.mp hx]
    exact ⟨by show 0 + e.steps ≤ e.steps; omega, fun j _ _ i => ⟨(Bool.false_or _).symm, (Bool.false_or _).symm⟩⟩
  · show 0 ≤ j ∧ j < 0 + e.steps
    omega
  rintro m σ H1 ⟨o4, o5, o6, o7, o8, o9, o10, bl, sl, ww, st, rfl, rfl, hse, R⟩
  have hww : ww.length = st.length := R.p.length
  have hsl := esum_len st
  refine ⟨_, rfl, lw, _, rfl, .inl (SqL.of R.w), _, _, rfl, rfl, _, rfl, ?_⟩
  rcases List.eq_nil_or_concat st with rfl | ⟨st', x, rfl⟩
  · have : ww = [] := List.eq_nil_of_length_eq_zero hww
    subst this
    refine iteNo (by simp) ?_
    refine ⟨_, rfl, .inl ⟨lb, bl, rfl, SqL.of R.b, fun tb ntb => ?_⟩⟩
    have sb := same_up (o := .tup bl) ntb
    refine ⟨_, rfl, .inl ⟨ls, sl, rfl, SqL.of (sb _ _ R.s), fun ts nts => ?_⟩⟩
    have ss := same_up (o := .tup sl) nts
    refine ⟨sz (by simp), fun t nt => ?_⟩
    have sx := same_up (o := .tup [V.ref tb, .ref ts]) nt
    have hd : ∀ j, j < e.steps → Done (e.prec mk p 0) (e.opn mk p 0) bl sl j := fun j hj => by
      rcases R.cov j hj with h | ⟨x, hx, _⟩ | h
      · exact h
      · cases hx
      · exact h.elim
    exact q t tb ts bl sl _ upd_same (sx _ _ (ss _ _ upd_same)) (sx _ _ upd_same) ⟨R.lb, fun j hj => (hd j hj).1⟩ ⟨R.ls, fun j hj => (hd j hj).2⟩ (R.k.trans (sb.trans (ss.trans sx)))
  obtain ⟨⟨px, ex, nx⟩, S, B⟩ := x
  rw [List.concat_eq_append] at *
  obtain ⟨Rb, Rs, Rw, Rp, Rok, Rlb, Rls, Rcov, Rk⟩ := R
  obtain ⟨ww', u, rfl, pw', ru⟩ := paired_snoc_inv Rp
  refine iteYes (by rw [List.length_append, List.length_singleton]; omega) ?_
  have hsum2 : esum (st' ++ [((px, ex, nx), S, B)]) = esum st' + ex.nodes := by rw [esum_append]; simp [esum, tsum]
  have hnx := nodes_ops ex
  have hxok : EntOk mk e.steps (e.prec mk p 0) (e.opn mk p 0) ((px, ex, nx), S, B) := Rok _ (List.mem_append_right _ List.mem_cons_self)
  have hok' : ∀ x ∈ st', EntOk mk e.steps (e.prec mk p 0) (e.opn mk p 0) x := fun x hx => Rok x (List.mem_append_left _ hx)
  have hxr : nx + ex.steps ≤ e.steps := hxok.1
  have hoo := opsteps_le ex
  have hso := steps_own ex
  have hol := own_steps_le ex
  refine ⟨fun σ' H' => ∃ m', m' < esum (st' ++ [((px, ex, nx), S, B)]) ∧ ∃ (o4 o5 o6 o7 o8 o9 o10 : Option V) (bl sl ww : List V) (st : List Ent), σ' = [some (.ref a0), some (.ref lb), some (.ref ls), some (.ref lw), o4, o5, o6, o7, o8, o9, o10] ∧ m' = esum st ∧ esum st ≤ e.nodes ∧ RelInv CS mk H lb ls lw e.steps (e.prec mk p 0) (e.opn mk p 0) st (fun _ => False) H' bl sl ww, fun σ' H' h => h, ?_⟩
  -- pop
  refine ⟨_, rfl, .inl ⟨rfl, _, SqL.of Rw⟩, lw, _, u, rfl, rfl, Rw, by simp, ?_⟩
  rw [List.dropLast_concat]
  have k2 := KI.lst (CS := CS) (o := .lst ww') Rw
  have R2 : RelInv CS mk H lb ls lw e.steps (e.prec mk p 0) (e.opn mk p 0) st' (fun j => nx ≤ j ∧ j < nx + ex.steps) (upd H1 lw (.lst ww')) bl sl ww' :=
    ⟨by rw [upd_ne hbw]; exact Rb, by rw [upd_ne hsw]; exact Rs, upd_same, L2.Paired.mapP pw' fun a b z => z.keep k2, hok', Rlb, Rls, fun j hj => by
      rcases Rcov j hj with h | ⟨x, hx, hi⟩ | h
      · exact .inl h
      · rcases List.mem_append.mp hx with h | h
        · exact .inr (.inl ⟨x, h, hi⟩)
        · rw [List.mem_singleton.mp h] at hi
          exact .inr (.inr hi)
      · exact h.elim, fun b o z => by rw [upd_ne (ne_of_none z hlw)]; exact Rk _ _ z⟩
  have ru2 := ru.keep k2
  generalize (upd H1 lw (.lst ww')) = H2 at R2 ru2 ⊢
  obtain ⟨qu, vs, A', B', rfl, equ, hvs, hA, hB⟩ := ru2
  refine ⟨qu, _, rfl, SqT.of equ, rfl, _, _, rfl, _, _, rfl, _, _, rfl, rfl, ?_⟩
  obtain ⟨ws, ⟨a1, dx, fs, vp, vf, tb, to, rfl, h1, hf, h2, h3, h4, h5⟩, hbs2⟩ := SpanAt.obj hvs
  -- the own steps
  refine ⟨_, rfl, a1, CS, dx, fs, _, rfl, h1, T.cl, T.nO, hf.o, to, rfl, ⟨_, SqT.of h5⟩, ?_⟩
  refine for_tup (K := K) (a := to) (xs := nv_ (ex.owns nx)) (fun i σ H' => ∃ (o7 : Option V) (bl sl : List V), σ = [some (.ref a0), some (.ref lb), some (.ref ls), some (.ref lw), some (.ref a1), some (.int A'), some (.int B'), o7, o8, o9, o10] ∧ KI CS H2 H' ∧
    RelInv CS mk H lb ls lw e.steps (e.prec mk p 0) (e.opn mk p 0) st' (fun j => (nx ≤ j ∧ j < nx + Ex.stepss ex.ops) ∨ (nx + Ex.stepss ex.ops + i ≤ j ∧ j < nx + ex.steps)) H' bl sl ww')
    ⟨o7, bl, sl, rfl, ⟨fun _ _ z => z, fun _ _ _ _ _ z => z⟩, { R2 with cov := fun j hj => (R2.cov j hj).elim .inl fun h => .inr (h.elim .inl fun h => .inr (by omega)) }⟩ (fun i σ H' _ ⟨_, _, _, _, k, _⟩ => SqT.of (k.1 _ _ h5)) ?_ ?_
  · rintro i z σ H3 hi ⟨o7, bl, sl, rfl, k3, R3⟩
    have hil : i < ex.own := by rw [← owns_len ex nx]; exact (List.getElem?_eq_some_iff.mp hi).1
    have hz : z = .int ((nx + Ex.stepss ex.ops + i : Nat) : Int) := Option.some.inj (hi.symm.trans (owns_get ex nx i hil))
    subst hz
    have h13 := k3.2 _ _ _ _ hf.p h1
    have hlt : nx + Ex.stepss ex.ops + i < e.steps := by omega
    refine ⟨_, rfl, _, rfl, a1, CS, dx, _, _, rfl, h13, T.cl, T.nI, hf.i, _, rfl, nx + Ex.stepss ex.ops + i, rfl, rfl, by omega, _, _, rfl, rfl, _, _, rfl, rfl, _, _, rfl, rfl, _, rfl, _, rfl, lb, bl, _, nx + Ex.stepss ex.ops + i, rfl, rfl, R3.b, by rw [R3.lb]; exact seqIx hlt, ?_⟩
    refine ⟨_, rfl, _, rfl, _, rfl, ls, sl, _, nx + Ex.stepss ex.ops + i, rfl, rfl, by rw [upd_ne hbs.symm]; exact R3.s, by rw [R3.ls]; exact seqIx hlt, ?_⟩
    have kb := KI.lst (CS := CS) (o := .lst (bl.set (nx + Ex.stepss ex.ops + i) (.int (Builtin.bitOr A' (Builtin.bitAnd (insI ex nx) (2 ^ (nx + Ex.stepss ex.ops + i) - 1)))))) R3.b
    have es : (upd H3 lb (.lst (bl.set (nx + Ex.stepss ex.ops + i) (.int (Builtin.bitOr A' (Builtin.bitAnd (insI ex nx) (2 ^ (nx + Ex.stepss ex.ops + i) - 1))))))) ls = some (.lst sl) := by rw [upd_ne hbs.symm]; exact R3.s
    have ks := KI.lst (CS := CS) (o := .lst (sl.set (nx + Ex.stepss ex.ops + i) (.int B'))) es
    have kbs := kb.trans ks
    refine ⟨_, _, _, rfl, k3.trans kbs, by rw [upd_ne hbs]; exact upd_same, upd_same, ?_, L2.Paired.mapP R3.p fun a b z => z.keep kbs, hok', by rw [List.length_set]; exact R3.lb, by rw [List.length_set]; exact R3.ls, fun j hj => ?_, fun b o z => ?_⟩
    · rw [upd_ne hsw.symm, upd_ne hbw.symm]; exact R3.w
    · by_cases hje : nx + Ex.stepss ex.ops + i = j
      · subst hje
        refine .inl ⟨⟨_, List.getElem?_set_self (by rw [R3.lb]; exact hj), ?_⟩, _, List.getElem?_set_self (by rw [R3.ls]; exact hj), ?_⟩
        · refine (hA.or ((ins_bits ex nx).and (Bits.low _))).congr fun i' => ?_
          have hp := (hxok.2 (nx + Ex.stepss ex.ops + i) (show nx ≤ _ by omega) (show _ < nx + ex.steps by omega) i').1
          rw [hp]
          show (S i' || (inR nx ex.steps i' && _)) = (S i' || ex.prec mk px nx i' _)
          rw [prec_own (by omega) (by omega)]
        · refine hB.congr fun i' => ?_
          have hp := (hxok.2 (nx + Ex.stepss ex.ops + i) (show nx ≤ _ by omega) (show _ < nx + ex.steps by omega) i').2
          rw [hp]
          show B i' = (B i' || ex.opn mk px nx i' _)
          rw [opn_own (by omega), Bool.or_false]
      · rcases R3.cov j hj with h | h | h
        · exact .inl (done_set h hje)
        · exact .inr (.inl h)
        · exact .inr (.inr (by omega))
    · rw [upd_ne (ne_of_none z hls), upd_ne (ne_of_none z hlb)]
      exact R3.k _ _ z
  rintro σ H3 ⟨o7', bl3, sl3, rfl, k3, R3⟩
  rw [owns_len] at R3
  have h13 := k3.2 _ _ _ _ hf.p h1
  have h43 := k3.1 _ _ h4
  have hwl : ws.length = ex.ops.length := hbs2.length
  have hng := nodess_ge ex.ops
  -- the operands
  refine ⟨_, rfl, a1, CS, dx, _, _, rfl, h13, T.cl, T.nB, hf.b, tb, ws, rfl, SqT.of h43, ?_⟩
  refine for_it walk_enumU (fun i σ H' => ∃ (o8 o9 o10 : Option V) (ww : List V) (st : List Ent), σ = [some (.ref a0), some (.ref lb), some (.ref ls), some (.ref lw), some (.ref a1), some (.int A'), some (.int B'), o7', o8, o9, o10] ∧ KI CS H2 H' ∧ esum st = esum st' + Ex.nodess (ex.ops.take i) ∧
    RelInv CS mk H lb ls lw e.steps (e.prec mk p 0) (e.opn mk p 0) st (fun j => nx + Ex.stepss (ex.ops.take i) ≤ j ∧ j < nx + Ex.stepss ex.ops) H' bl3 sl3 ww)
    ⟨o8, o9, o10, ww', st', rfl, k3, by simp [Ex.nodess], { R3 with cov := fun j hj => (R3.cov j hj).elim .inl fun h => .inr (h.elim .inl fun h => .inr (by simp only [List.take_zero, Ex.stepss]; omega)) }⟩ (fun i σ H' _ ⟨_, _, _, _, _, _, k, _⟩ => SqT.of (k.1 _ _ h4)) ?_ ?_
  · rintro i x σ H4 H5 hi ⟨o8, o9, o10, ww4, st4, rfl, k4, hes, R4⟩ ⟨T0, x', y', rfl, nT, rfl, hx, hy⟩
    have hx' : x' = .int (i : Int) := (Option.some.inj hx).symm
    subst hx'
    have hio : i < ex.ops.length := by omega
    obtain ⟨v', hv', sv'⟩ := (hbs2.keep k4 _ _ _ _ _).get i hio
    have : y' = v' := Option.some.inj (hy.symm.trans hv')
    subst this
    have sT := same_up (o := .tup [V.int (i : Int), y']) nT
    have kT := KI.same (CS := CS) sT
    have hv4 : SpanAt CS mk H4 ex px nx (.ref a1) := SpanAt.keep k4 _ _ _ _ hvs
    refine ⟨T0, _, rfl, SqT.of upd_same, rfl, _, _, rfl, _, _, rfl, rfl, ?_⟩
    refine ⟨.ref a1, y', ex, ex.ops[i], px, px ++ [0 + i], nx, nx + Ex.stepss (ex.ops.take i), rfl, hv4.keep kT _ _ _ _, rfl, sv'.keep kT _ _ _ _, fun xo hxo => ?_⟩
    have ew5 := sT _ _ R4.w
    refine ⟨_, rfl, .inl ⟨rfl, _, SqL.of ew5⟩, _, rfl, _, rfl, _, rfl, _, rfl, .ref a1, ex, px, nx, i, rfl, hv4.keep kT _ _ _ _, hio, fun t6 ws6 H6 et6 hs6 s6 => ⟨t6, ws6, _, px, nx, rfl, et6, hs6, fun xa hxa => ?_⟩⟩
    refine ⟨_, _, rfl, rfl, _, rfl, _, rfl, _, _, rfl, rfl, sz (by simp), fun tn ntn => ?_⟩
    have s56 := sT.trans s6
    have sn := same_up (o := .tup [y', .int (Builtin.bitOr A' xa), .int (Builtin.bitOr B' xo)]) ntn
    have s57 := s56.trans sn
    have ew7 := s57 _ _ R4.w
    have hww4 := R4.p.length
    have hel := esum_len st4
    have hnt := nodess_take ex.ops i
    have hen : esum st' + ex.nodes ≤ e.nodes := by rw [← hsum2]; exact hse
    refine ⟨lw, ww4, _, rfl, rfl, ew7, small1000 (by omega), ?_⟩
    have k7 := KI.lst (CS := CS) (o := .lst (ww4 ++ [V.ref tn])) ew7
    have k47 := (KI.same (CS := CS) s57).trans k7
    refine ⟨some (.int (i : Int)), some y', some (.int xo), ww4 ++ [.ref tn], st4 ++ [kidEnt mk ex px nx S B i ex.ops[i]], rfl, k4.trans k47, ?_, ?_⟩
    · rw [esum_append, hes, take_succ_get ex.ops i hio, nodess_append]
      simp [esum, tsum, kidEnt]
      omega
    · refine ⟨?_, ?_, upd_same, ?_, ?_, R4.lb, R4.ls, fun j hj => ?_, fun b o z => ?_⟩
      · rw [upd_ne hbw]; exact s57 _ _ R4.b
      · rw [upd_ne hsw]; exact s57 _ _ R4.s
      · refine paired_append (L2.Paired.mapP R4.p fun a b z => z.keep k47) (.cons ⟨tn, y', _, _, rfl, k7.1 _ _ upd_same, ?_, ?_, ?_⟩ .nil)
        · show SpanAt CS mk _ ex.ops[i] (px ++ [i]) _ y'
          have := sv'.keep k47 _ _ _ _
          rwa [Nat.zero_add] at this
        · refine (hA.or hxa).congr fun i' => ?_
          show (S i' || _) = (S i' || _)
          congr 1
          cases hfx : ex.fx mk px with
          | true => simp only [if_true, Bool.true_and]
          | false =>
            simp only [Bool.false_eq_true, if_false, List.take_zero, Ex.stepss, Bool.false_and]
            exact inR_not (by omega)
        · exact (hB.or hxo).congr fun i' => rfl
      · intro x hx
        rcases List.mem_append.mp hx with h | h
        · exact R4.ok x h
        · rw [List.mem_singleton.mp h]
          exact kid_ok hxok hio
      · rcases R4.cov j hj with h | ⟨x, hx, h⟩ | h
        · exact .inl h
        · exact .inr (.inl ⟨x, List.mem_append_left _ hx, h⟩)
        · have hts := stepss_take_succ ex.ops i hio
          by_cases hj2 : j < nx + Ex.stepss (ex.ops.take (i + 1))
          · refine .inr (.inl ⟨_, List.mem_append_right _ List.mem_cons_self, ?_⟩)
            show nx + Ex.stepss (ex.ops.take i) ≤ j ∧ j < nx + Ex.stepss (ex.ops.take i) + ex.ops[i].steps
            omega
          · exact .inr (.inr (by omega))
      · rw [upd_ne (ne_of_none z hlw)]
        exact s57 _ _ (R4.k _ _ z)
  · rintro σ H4 ⟨o8, o9, o10, ww4, st4, rfl, k4, hes, R4⟩
    rw [hwl, List.take_length] at hes R4
    refine ⟨esum st4, by rw [hsum2]; omega, _, _, _, _, _, _, _, bl3, sl3, ww4, st4, rfl, rfl, by rw [hsum2] at hse; omega, { R4 with cov := fun j hj => (R4.cov j hj).elim .inl fun h => .inr (h.elim .inl fun h => by omega) }⟩
end
end Oo
namespace Oo
open PySem L2
/-! which node a step belongs to -/
theorem mem_owns {e : Ex} {n j : Nat} : j ∈ e.owns n ↔ n + Ex.stepss e.ops ≤ j ∧ j < n + e.steps := by
  have h1 := steps_own e
  have h2 := own_steps_le e
  unfold Ex.owns
  rw [List.mem_map]
  constructor
  · rintro ⟨a, ha, rfl⟩
    have := List.mem_range.mp ha
    omega
  · rintro ⟨h3, h4⟩
    exact ⟨j - (n + Ex.stepss e.ops), List.mem_range.mpr (by omega), by omega⟩
theorem owns_nodup (e : Ex) (n : Nat) : (e.owns n).Nodup := by
  unfold Ex.owns
  rw [List.nodup_iff_pairwise_ne, List.pairwise_map]
  refine (List.nodup_range (n := e.own)).imp fun {a b} h => by omega
def Trip.own (x : Trip) : List Nat := x.2.1.owns x.2.2
def okeys (ts : List Trip) : List Nat := ts.flatMap Trip.own
theorem okeys_append (a b : List Trip) : okeys (a ++ b) = okeys a ++ okeys b := by unfold okeys; rw [List.flatMap_append]
theorem okeys_cons (x : Trip) (b : List Trip) : okeys (x :: b) = x.own ++ okeys b := by unfold okeys; rw [List.flatMap_cons]
theorem nodup_app {a b : List Nat} (h1 : a.Nodup) (h2 : b.Nodup) (h3 : ∀ x, x ∈ a → x ∈ b → False) : (a ++ b).Nodup := by
  rw [List.nodup_append]
  exact ⟨h1, h2, fun x hx y hy e => h3 x hx (by rw [e]; exact hy)⟩
mutual
theorem okeys_mem : ∀ (e : Ex) (p : List Nat) (n j : Nat), j ∈ okeys (e.spn p n) ↔ n ≤ j ∧ j < n + e.steps
  | .num c, p, n, j => by
    simp only [Ex.spn, okeys, List.flatMap_cons, List.flatMap_nil, List.append_nil, Trip.own, mem_owns, Ex.ops, Ex.stepss, Ex.steps]
    try omega
  | .nd k os, p, n, j => by
    simp only [Ex.spn]
    rw [okeys_cons, List.mem_append, okeysL_mem os p 0 n j]
    simp only [Trip.own, mem_owns, Ex.ops, Ex.steps]
    omega
theorem okeysL_mem : ∀ (os : List Ex) (p : List Nat) (a n j : Nat), j ∈ okeys (Ex.spns os p a n) ↔ n ≤ j ∧ j < n + Ex.stepss os
  | [], p, a, n, j => by
    simp [Ex.spns, okeys, Ex.stepss]
    try omega
  | e :: r, p, a, n, j => by
    simp only [Ex.spns]
    rw [okeys_append, List.mem_append, okeys_mem e, okeysL_mem r]
    simp only [Ex.stepss]
    omega
end
mutual
theorem okeys_nodup : ∀ (e : Ex) (p : List Nat) (n : Nat), (okeys (e.spn p n)).Nodup
  | .num c, p, n => by simp [Ex.spn, okeys, Trip.own, Ex.owns, Ex.own]
  | .nd k os, p, n => by
    simp only [Ex.spn]
    rw [okeys_cons]
    refine nodup_app (owns_nodup _ _) (okeysL_nodup os p 0 n) fun x h1 h2 => ?_
    simp only [Trip.own, mem_owns, Ex.ops] at h1
    have := (okeysL_mem os p 0 n x).mp h2
    omega
theorem okeysL_nodup : ∀ (os : List Ex) (p : List Nat) (a n : Nat), (okeys (Ex.spns os p a n)).Nodup
  | [], p, a, n => by simp [Ex.spns, okeys]
  | e :: r, p, a, n => by
    simp only [Ex.spns]
    rw [okeys_append]
    refine nodup_app (okeys_nodup e _ _) (okeysL_nodup r _ _ _) fun x h1 h2 => ?_
    have h1 := (okeys_mem e _ _ x).mp h1
    have h2 := (okeysL_mem r _ _ _ x).mp h2
    omega
end
mutual
theorem okeys_len : ∀ (e : Ex) (p : List Nat) (n : Nat), (okeys (e.spn p n)).length = e.steps
  | .num c, p, n => by simp [Ex.spn, okeys, Trip.own, Ex.owns, Ex.own, Ex.steps]
  | .nd k os, p, n => by
    simp only [Ex.spn]
    rw [okeys_cons, List.length_append, okeysL_len os]
    simp [Trip.own, Ex.owns, Ex.own, Ex.steps]
theorem okeysL_len : ∀ (os : List Ex) (p : List Nat) (a n : Nat), (okeys (Ex.spns os p a n)).length = Ex.stepss os
  | [], p, a, n => by simp [Ex.spns, okeys, Ex.stepss]
  | e :: r, p, a, n => by
    simp only [Ex.spns]
    rw [okeys_append, List.length_append, okeys_len e, okeysL_len r, Ex.stepss]
end
/-! a step's row by its node -/
mutual
theorem stepL_at {ps : List Str} {fns : List Fn} (kw : KitW ps fns) : ∀ (e : Ex) (p : List Nat) (n : Nat), ExW ps fns e → ∀ (px : List Nat) (k : Kd) (os : List Ex) (nx a : Nat), (px, Ex.nd k os, nx) ∈ e.spn p n → a < k.steps → n ≤ nx ∧ ExW ps fns (.nd k os) ∧ (Ex.stepL fns e p)[nx + Ex.stepss os + a - n]? = (ownSteps fns px k)[a]?
  | .num c, p, n, h, px, k, os, nx, a, hm, ha => by simp [Ex.spn] at hm
  | .nd k0 os0, p, n, h, px, k, os, nx, a, hm, ha => by
    have h' := h
    unfold ExW at h'
    have hl := stepLs_steps kw os0 p 0 h'.2
    simp only [Ex.spn] at hm
    simp only [Ex.stepL]
    rcases List.mem_cons.mp hm with e1 | hm
    · injection e1 with e1 e2
      injection e2 with e2 e3
      injection e2 with e4 e5
      subst e1 e3 e4 e5
      refine ⟨Nat.le_refl _, h, ?_⟩
      rw [List.getElem?_append_right (by omega), hl]
      congr 1
      omega
    · have hin : ∀ i, i < k.steps → nx + Ex.stepss os + i ∈ okeys (Ex.spns os0 p 0 n) := fun i hi => by
        refine List.mem_flatMap.mpr ⟨_, hm, ?_⟩
        simp only [Trip.own, mem_owns, Ex.ops, Ex.steps]
        omega
      obtain ⟨h1, h2, h3⟩ := stepLs_at kw os0 p 0 n h'.2 px k os nx a hm ha
      have h4 := (okeysL_mem os0 p 0 n _).mp (hin a ha)
      exact ⟨h1, h2, by rw [List.getElem?_append_left (by omega)]; exact h3⟩
theorem stepLs_at {ps : List Str} {fns : List Fn} (kw : KitW ps fns) : ∀ (os0 : List Ex) (p : List Nat) (j n : Nat), ExWs ps fns os0 → ∀ (px : List Nat) (k : Kd) (os : List Ex) (nx a : Nat), (px, Ex.nd k os, nx) ∈ Ex.spns os0 p j n → a < k.steps → n ≤ nx ∧ ExW ps fns (.nd k os) ∧ (Ex.stepLs fns os0 p j)[nx + Ex.stepss os + a - n]? = (ownSteps fns px k)[a]?
  | [], p, j, n, h, px, k, os, nx, a, hm, ha => by simp [Ex.spns] at hm
  | e :: r, p, j, n, h, px, k, os, nx, a, hm, ha => by
    unfold ExWs at h
    have hl := stepL_steps kw e (p ++ [j]) h.1
    simp only [Ex.spns] at hm
    simp only [Ex.stepLs]
    rcases List.mem_append.mp hm with hm | hm
    · obtain ⟨h1, h2, h3⟩ := stepL_at kw e (p ++ [j]) n h.1 px k os nx a hm ha
      have hin : nx + Ex.stepss os + a ∈ okeys (e.spn (p ++ [j]) n) := by
        refine List.mem_flatMap.mpr ⟨_, hm, ?_⟩
        simp only [Trip.own, mem_owns, Ex.ops, Ex.steps]
        omega
      have h4 := (okeys_mem e _ n _).mp hin
      exact ⟨h1, h2, by rw [List.getElem?_append_left (by omega)]; exact h3⟩
    · obtain ⟨h1, h2, h3⟩ := stepLs_at kw r p (j + 1) (n + e.steps) h.2 px k os nx a hm ha
      refine ⟨by omega, h2, ?_⟩
      rw [List.getElem?_append_right (by omega), hl, ← h3]
      congr 1
      omega
end
/-- the guards' paths -/
def Ex.guards (e : Ex) : List (List Nat) := ((e.spn [] 0).filter fun x => x.2.1.gd).map (·.1)
end Oo
/-! rows merged: their number; the orders of a tree of steps, one by one (mathematics alone) -/
namespace Oo
def fact : Nat → Nat
  | 0 => 1
  | n + 1 => (n + 1) * fact n
theorem fact_pos : ∀ n, 0 < fact n
  | 0 => Nat.one_pos
  | n + 1 => Nat.mul_pos (Nat.succ_pos n) (fact_pos n)
def ch : Nat → Nat → Nat
  | _, 0 => 1
  | 0, _ + 1 => 0
  | n + 1, k + 1 => ch n k + ch n (k + 1)
theorem ch_zero (n : Nat) : ch n 0 = 1 := by cases n <;> rfl
theorem ch_absorb : ∀ (m k : Nat), (k + 1) * ch (m + 1) (k + 1) = (m + 1) * ch m k
  | 0, 0 => rfl
  | 0, k + 1 => by simp [ch]
  | m + 1, 0 => by
    have ih := ch_absorb m 0
    simp only [ch, ch_zero, Nat.zero_add, Nat.one_mul, Nat.mul_one] at ih ⊢
    omega
  | m + 1, j + 1 => by
    have h1 := ch_absorb m j
    have h2 := ch_absorb m (j + 1)
    have e1 : ch (m + 1 + 1) (j + 1 + 1) = ch (m + 1) (j + 1) + ch (m + 1) (j + 1 + 1) := rfl
    have e2 : ch (m + 1) (j + 1) = ch m j + ch m (j + 1) := rfl
    rw [e1, Nat.mul_add, h2]
    have e3 : (j + 1 + 1) * ch (m + 1) (j + 1) = (j + 1) * ch (m + 1) (j + 1) + ch (m + 1) (j + 1) := by rw [Nat.succ_mul]
    rw [e3, h1]
    have e4 : (m + 1 + 1) * ch (m + 1) (j + 1) = (m + 1) * ch (m + 1) (j + 1) + ch (m + 1) (j + 1) := by rw [Nat.succ_mul]
    rw [e4]
    have e5 : (m + 1) * ch (m + 1) (j + 1) = (m + 1) * ch m j + (m + 1) * ch m (j + 1) := by rw [e2, Nat.mul_add]
    omega
/-- ways to put k more behind and between n -/
def ways (n : Nat) : Nat → Nat
  | 0 => 1
  | k + 1 => ways n k * (n + k + 1) / (k + 1)
theorem ways_ch (n : Nat) : ∀ k, ways n k = ch (n + k) k
  | 0 => (ch_zero _).symm
  | k + 1 => by
    show ways n k * (n + k + 1) / (k + 1) = ch (n + k + 1) (k + 1)
    rw [ways_ch n k, Nat.mul_comm, ← ch_absorb, Nat.mul_div_cancel_left _ (Nat.succ_pos k)]
theorem ways_step (n k t : Nat) : t * ways n k * (n + k + 1) / (k + 1) = t * ways n (k + 1) := by
  rw [ways_ch, ways_ch]
  have : t * ch (n + k) k * (n + k + 1) = (k + 1) * (t * ch (n + (k + 1)) (k + 1)) := by
    rw [Nat.mul_assoc, Nat.mul_comm (ch (n + k) k), ← ch_absorb]
    show _ = (k + 1) * (t * ch (n + k + 1) (k + 1))
    rw [Nat.mul_left_comm]
  rw [this, Nat.mul_div_cancel_left _ (Nat.succ_pos k)]
theorem ch_fact (n : Nat) : ∀ k, ch (n + k) k * (fact n * fact k) = fact (n + k)
  | 0 => by simp [ch_zero, fact]
  | k + 1 => by
    have ih := ch_fact n k
    have h := ch_absorb (n + k) k
    show ch (n + k + 1) (k + 1) * (fact n * ((k + 1) * fact k)) = (n + k + 1) * fact (n + k)
    rw [← ih]
    calc ch (n + k + 1) (k + 1) * (fact n * ((k + 1) * fact k)) = ((k + 1) * ch (n + k + 1) (k + 1)) * (fact n * fact k) := by
          simp only [Nat.mul_comm, Nat.mul_left_comm, Nat.mul_assoc]
      _ = _ := by rw [h, Nat.mul_assoc]
/-- ways to merge rows of these lengths behind acc of one row -/
def multi : Nat → List Nat → Nat
  | _, [] => 1
  | acc, s :: r => ways acc s * multi (acc + s) r
def pf : List Nat → Nat
  | [] => 1
  | s :: r => fact s * pf r
theorem pf_pos : ∀ l, 0 < pf l
  | [] => Nat.one_pos
  | s :: r => Nat.mul_pos (fact_pos s) (pf_pos r)
theorem multi_fact : ∀ (l : List Nat) (acc : Nat), multi acc l * (fact acc * pf l) = fact (acc + l.sum)
  | [], acc => by simp [multi, pf]
  | s :: r, acc => by
    have ih := multi_fact r (acc + s)
    have h := ch_fact acc s
    rw [← ways_ch] at h
    rw [List.sum_cons, ← Nat.add_assoc, ← ih]
    simp only [multi, pf]
    calc ways acc s * multi (acc + s) r * (fact acc * (fact s * pf r)) = multi (acc + s) r * ((ways acc s * (fact acc * fact s)) * pf r) := by
          simp only [Nat.mul_comm, Nat.mul_left_comm, Nat.mul_assoc]
      _ = _ := by rw [h]
theorem multi_pos (l : List Nat) (acc : Nat) : 0 < multi acc l := by
  have := multi_fact l acc
  have h := fact_pos (acc + l.sum)
  rw [← this] at h
  exact Nat.pos_of_mul_pos_right h
abbrev mlt (l : List Nat) : Nat := multi 0 l
theorem mlt_fact (l : List Nat) : mlt l * pf l = fact l.sum := by
  have := multi_fact l 0
  simpa [fact] using this
/-- one less at a place -/
def dec : List Nat → Nat → List Nat
  | [], _ => []
  | s :: r, 0 => (s - 1) :: r
  | s :: r, i + 1 => s :: dec r i
theorem dec_sum : ∀ {l : List Nat} {i s : Nat}, l[i]? = some (s + 1) → l.sum = (dec l i).sum + 1
  | [], i, s, h => by cases h
  | a :: r, 0, s, h => by
    cases h
    simp only [dec, List.sum_cons]
    omega
  | a :: r, i + 1, s, h => by
    have := dec_sum (l := r) (i := i) h
    simp only [dec, List.sum_cons]
    omega
theorem dec_pf : ∀ {l : List Nat} {i s : Nat}, l[i]? = some (s + 1) → pf l = (s + 1) * pf (dec l i)
  | [], i, s, h => by cases h
  | a :: r, 0, s, h => by
    cases h
    simp only [dec, pf, fact, Nat.add_sub_cancel, Nat.mul_assoc]
  | a :: r, i + 1, s, h => by
    have := dec_pf (l := r) (i := i) h
    simp only [dec, pf, this]
    rw [Nat.mul_left_comm]
/-- the share of the orders whose next step lies in the i-th row -/
theorem mlt_dec {l : List Nat} {i s : Nat} (h : l[i]? = some (s + 1)) : mlt (dec l i) * l.sum = mlt l * (s + 1) := by
  have h1 := mlt_fact l
  have h2 := mlt_fact (dec l i)
  have hs := dec_sum h
  have hp := dec_pf h
  refine Nat.eq_of_mul_eq_mul_right (pf_pos (dec l i)) ?_
  calc mlt (dec l i) * l.sum * pf (dec l i) = l.sum * (mlt (dec l i) * pf (dec l i)) := by rw [Nat.mul_comm (mlt (dec l i)), Nat.mul_assoc]
    _ = l.sum * fact (dec l i).sum := by rw [h2]
    _ = fact l.sum := by rw [hs]; rfl
    _ = mlt l * pf l := h1.symm
    _ = mlt l * (s + 1) * pf (dec l i) := by rw [hp, Nat.mul_assoc]
/-- the sum over the rows that have a step left, p ahead of them -/
def decs (f : List Nat → Nat) : List Nat → List Nat → Nat
  | _, [] => 0
  | p, 0 :: r => decs f (p ++ [0]) r
  | p, (s + 1) :: r => f (p ++ s :: r) + decs f (p ++ [s + 1]) r
theorem dec_mid (p : List Nat) (s : Nat) (r : List Nat) : dec (p ++ (s + 1) :: r) p.length = p ++ s :: r := by
  induction p with
  | nil => rfl
  | cons a q ih => simp only [List.cons_append, List.length_cons, dec, ih]
theorem get_mid (p : List Nat) (s : Nat) (r : List Nat) : (p ++ s :: r)[p.length]? = some s := by
  rw [List.getElem?_append_right (Nat.le_refl _), Nat.sub_self]
  rfl
theorem decs_mul : ∀ (r p : List Nat), decs mlt p r * (p ++ r).sum = mlt (p ++ r) * r.sum
  | [], p => by simp [decs]
  | 0 :: r, p => by
    have ih := decs_mul r (p ++ [0])
    rw [List.append_assoc, List.singleton_append] at ih
    simp only [decs, List.sum_cons, Nat.zero_add]
    exact ih
  | (s + 1) :: r, p => by
    have ih := decs_mul r (p ++ [s + 1])
    rw [List.append_assoc, List.singleton_append] at ih
    have h := mlt_dec (get_mid p (s + 1) r)
    rw [dec_mid] at h
    simp only [decs, List.sum_cons]
    rw [Nat.add_mul, h, ih, ← Nat.mul_add]
theorem decs_all {l : List Nat} (h : 0 < l.sum) : decs mlt [] l = mlt l := by
  have := decs_mul l []
  rw [List.nil_append] at this
  exact Nat.eq_of_mul_eq_mul_right h this
/-! ### trees of steps -/
/-- a node: whether its operands are in order, the operands, how many own steps are left, the number of the next own one -/
inductive SP where
  | nd (fx : Bool) (ks : List SP) (own lab : Nat)
mutual
def SP.sz : SP → Nat
  | .nd _ ks own _ => (SP.szs ks).sum + own
def SP.szs : List SP → List Nat
  | [] => []
  | k :: r => k.sz :: SP.szs r
end
mutual
def SP.cnt : SP → Nat
  | .nd fx ks _ _ => (if fx = true then 1 else mlt (SP.szs ks)) * SP.cnts ks
def SP.cnts : List SP → Nat
  | [] => 1
  | k :: r => k.cnt * SP.cnts r
end
mutual
/-- the steps that can be done next, ascending, and what is left after each -/
def SP.nxt : SP → List (Nat × SP)
  | .nd fx ks own lab => if (SP.szs ks).sum = 0 then (match own with
      | 0 => []
      | o + 1 => [(lab, .nd fx ks o (lab + 1))])
    else if fx = true then (SP.fst ks).map fun r => (r.1, .nd fx r.2 own lab) else (SP.any ks).map fun r => (r.1, .nd fx r.2 own lab)
def SP.fst : List SP → List (Nat × List SP)
  | [] => []
  | k :: r => if k.sz = 0 then (SP.fst r).map (fun x => (x.1, k :: x.2)) else k.nxt.map (fun x => (x.1, x.2 :: r))
def SP.any : List SP → List (Nat × List SP)
  | [] => []
  | k :: r => k.nxt.map (fun x => (x.1, x.2 :: r)) ++ (SP.any r).map (fun x => (x.1, k :: x.2))
end
theorem sum_map_mul {α : Type} (f : α → Nat) (c : Nat) : ∀ l : List α, (l.map fun a => f a * c).sum = (l.map f).sum * c
  | [] => by simp
  | a :: r => by
    simp only [List.map_cons, List.sum_cons, sum_map_mul f c r, Nat.add_mul]
theorem sum_mul_map {α : Type} (f : α → Nat) (c : Nat) : ∀ l : List α, (l.map fun a => c * f a).sum = c * (l.map f).sum
  | [] => by simp
  | a :: r => by
    simp only [List.map_cons, List.sum_cons, sum_mul_map f c r, Nat.mul_add]
mutual
theorem SP.zero : ∀ T : SP, T.sz = 0 → T.cnt = 1 ∧ T.nxt = []
  | .nd fx ks own lab, h => by
    simp only [SP.sz] at h
    have h1 : (SP.szs ks).sum = 0 := by omega
    have h2 : own = 0 := by omega
    obtain ⟨c1, c2⟩ := SP.zeros ks h1
    subst h2
    simp only [SP.cnt, SP.nxt, h1, if_true, c1, c2]
    refine ⟨?_, trivial⟩
    split <;> rfl
theorem SP.zeros : ∀ ks : List SP, (SP.szs ks).sum = 0 → SP.cnts ks = 1 ∧ mlt (SP.szs ks) = 1
  | [], _ => ⟨rfl, rfl⟩
  | k :: r, h => by
    simp only [SP.szs, List.sum_cons] at h
    have h1 : k.sz = 0 := by omega
    obtain ⟨a, _⟩ := SP.zero k h1
    obtain ⟨b, c⟩ := SP.zeros r (by omega)
    refine ⟨by simp only [SP.cnts, a, b], ?_⟩
    simp only [SP.szs, h1]
    show ways 0 0 * multi (0 + 0) (SP.szs r) = 1
    rw [show multi (0 + 0) (SP.szs r) = 1 from c]
    rfl
end
mutual
/-- the orders are divided among the next steps -/
theorem SP.split : ∀ T : SP, 0 < T.sz → T.cnt = (T.nxt.map fun x => x.2.cnt).sum ∧ ∀ r ∈ T.nxt, r.2.sz + 1 = T.sz
  | .nd fx ks own lab, h => by
    simp only [SP.sz] at h
    by_cases h0 : (SP.szs ks).sum = 0
    · obtain ⟨c1, c2⟩ := SP.zeros ks h0
      cases own with
      | zero => omega
      | succ o =>
        simp only [SP.cnt, SP.nxt, h0, if_true, List.map_cons, List.map_nil, List.sum_cons, List.sum_nil, Nat.add_zero, SP.sz, List.mem_singleton, forall_eq, Nat.zero_add, and_self]
    · have hp : 0 < (SP.szs ks).sum := Nat.pos_of_ne_zero h0
      obtain ⟨a1, a2⟩ := SP.split_any ks mlt []
      obtain ⟨f1, f2⟩ := SP.split_fst ks hp
      rw [decs_all hp] at a1
      simp only [SP.cnt, SP.nxt, if_neg h0, SP.sz]
      cases fx with
      | true =>
        simp only [if_true, Nat.one_mul, List.map_map]
        refine ⟨?_, fun r hr => ?_⟩
        · rw [f1]
          congr 1
          refine List.map_congr_left fun r _ => ?_
          simp only [Function.comp, SP.cnt, if_true, Nat.one_mul]
        · obtain ⟨x, hx, rfl⟩ := List.mem_map.mp hr
          have := f2 x hx
          simp only [SP.sz]
          omega
      | false =>
        have hf : ¬ (false = true) := fun z => Bool.noConfusion z
        simp only [if_neg hf, List.map_map]
        refine ⟨?_, fun r hr => ?_⟩
        · rw [← a1]
          congr 1
        · obtain ⟨x, hx, rfl⟩ := List.mem_map.mp hr
          have := a2 x hx
          simp only [SP.sz]
          omega
theorem SP.split_fst : ∀ ks : List SP, 0 < (SP.szs ks).sum → SP.cnts ks = ((SP.fst ks).map fun x => SP.cnts x.2).sum ∧ ∀ r ∈ SP.fst ks, (SP.szs r.2).sum + 1 = (SP.szs ks).sum
  | [], h => by simp [SP.szs] at h
  | k :: r, h => by
    simp only [SP.szs, List.sum_cons] at h
    by_cases hk : k.sz = 0
    · obtain ⟨z1, _⟩ := SP.zero k hk
      obtain ⟨i1, i2⟩ := SP.split_fst r (by omega)
      simp only [SP.cnts, SP.fst, if_pos hk, z1, Nat.one_mul, List.map_map]
      refine ⟨?_, fun x hx => ?_⟩
      · rw [i1]
        congr 1
        refine List.map_congr_left fun y _ => ?_
        simp only [Function.comp, SP.cnts, z1, Nat.one_mul]
      · obtain ⟨y, hy, rfl⟩ := List.mem_map.mp hx
        have := i2 y hy
        simp only [SP.szs, List.sum_cons]
        omega
    · obtain ⟨s1, s2⟩ := SP.split k (Nat.pos_of_ne_zero hk)
      simp only [SP.cnts, SP.fst, if_neg hk, List.map_map]
      refine ⟨?_, fun x hx => ?_⟩
      · rw [s1, ← sum_map_mul]
        congr 1
      · obtain ⟨y, hy, rfl⟩ := List.mem_map.mp hx
        have := s2 y hy
        simp only [SP.szs, List.sum_cons]
        omega
theorem SP.split_any : ∀ (ks : List SP) (f : List Nat → Nat) (p : List Nat), ((SP.any ks).map fun r => f (p ++ SP.szs r.2) * SP.cnts r.2).sum = decs f p (SP.szs ks) * SP.cnts ks ∧ ∀ r ∈ SP.any ks, (SP.szs r.2).sum + 1 = (SP.szs ks).sum
  | [], f, p => by simp [SP.any, SP.szs, decs]
  | k :: r, f, p => by
    obtain ⟨i1, i2⟩ := SP.split_any r f (p ++ [k.sz])
    have e2 : ((SP.any r).map ((fun r => f (p ++ SP.szs r.2) * SP.cnts r.2) ∘ (fun x : Nat × List SP => (x.1, k :: x.2)))).sum = k.cnt * (decs f (p ++ [k.sz]) (SP.szs r) * SP.cnts r) := by
      rw [← i1, ← sum_mul_map]
      congr 1
      refine List.map_congr_left fun y _ => ?_
      simp only [Function.comp, SP.szs, SP.cnts, List.append_assoc, List.singleton_append]
      rw [Nat.mul_left_comm]
    simp only [SP.any, List.map_append, List.sum_append, List.map_map, SP.cnts]
    rw [e2]
    refine ⟨?_, fun x hx => ?_⟩
    · cases hk : k.sz with
      | zero =>
        obtain ⟨z1, z2⟩ := SP.zero k hk
        rw [z2]
        simp only [List.map_nil, List.sum_nil, Nat.zero_add, SP.szs, hk, decs]
        rw [Nat.mul_left_comm]
      | succ s =>
        obtain ⟨s1, s2⟩ := SP.split k (by omega)
        have e1 : (k.nxt.map ((fun r => f (p ++ SP.szs r.2) * SP.cnts r.2) ∘ (fun x : Nat × SP => (x.1, x.2 :: r)))).sum = f (p ++ s :: SP.szs r) * (k.cnt * SP.cnts r) := by
          rw [s1, ← sum_map_mul, ← sum_mul_map]
          congr 1
          refine List.map_congr_left fun y hy => ?_
          have := s2 y hy
          have hy2 : y.2.sz = s := by omega
          simp only [Function.comp, SP.szs, SP.cnts, hy2]
        rw [e1]
        simp only [SP.szs, hk, decs, Nat.add_mul]
        rw [Nat.mul_left_comm k.cnt]
    · rcases List.mem_append.mp hx with hx | hx
      · obtain ⟨y, hy, rfl⟩ := List.mem_map.mp hx
        have hk : 0 < k.sz := by
          refine Nat.pos_of_ne_zero fun z => ?_
          rw [(SP.zero k z).2] at hy
          cases hy
        have := (SP.split k hk).2 y hy
        simp only [SP.szs, List.sum_cons]
        omega
      · obtain ⟨y, hy, rfl⟩ := List.mem_map.mp hx
        have := i2 y hy
        simp only [SP.szs, List.sum_cons]
        omega
end
end Oo

/-! the next step, its share among the orders; the orders one by one (mathematics alone) -/
namespace Oo
theorem SP.szs_app : ∀ a b : List SP, SP.szs (a ++ b) = SP.szs a ++ SP.szs b
  | [], _ => rfl
  | k :: r, b => by simp only [List.cons_append, SP.szs, SP.szs_app r b]
theorem SP.szs_len : ∀ a : List SP, (SP.szs a).length = a.length
  | [] => rfl
  | k :: r => by simp only [SP.szs, List.length_cons, SP.szs_len r]
theorem SP.cnts_app : ∀ a b : List SP, SP.cnts (a ++ b) = SP.cnts a * SP.cnts b
  | [], b => by simp only [List.nil_append, SP.cnts, Nat.one_mul]
  | k :: r, b => by simp only [List.cons_append, SP.cnts, SP.cnts_app r b, Nat.mul_assoc]
theorem SP.any_app : ∀ a b : List SP, SP.any (a ++ b) = (SP.any a).map (fun x => (x.1, x.2 ++ b)) ++ (SP.any b).map (fun x => (x.1, a ++ x.2))
  | [], b => by simp [SP.any]
  | k :: r, b => by
    simp only [List.cons_append, SP.any, SP.any_app r b, List.map_append, List.map_map, List.append_assoc]
    congr 1
theorem SP.fst_app : ∀ (a : List SP) (k : SP) (b : List SP), (SP.szs a).sum = 0 → 0 < k.sz → SP.fst (a ++ k :: b) = k.nxt.map fun x => (x.1, a ++ x.2 :: b)
  | [], k, b, _, h => by simp only [List.nil_append, SP.fst, if_neg (Nat.pos_iff_ne_zero.mp h)]
  | z :: r, k, b, h0, h => by
    simp only [SP.szs, List.sum_cons] at h0
    have hz : z.sz = 0 := by omega
    simp only [List.cons_append, SP.fst, if_pos hz, SP.fst_app r k b (by omega) h, List.map_map]
    rfl
/-- among the next steps s, then T' left; sk the orders ahead of its block, sh those of its block, each counted c times -/
def Blk (c : Nat) (T : SP) (s : Nat) (T' : SP) (sk sh : Nat) : Prop := ∃ pre post, T.nxt = pre ++ (s, T') :: post ∧ sk = c * (pre.map fun x => x.2.cnt).sum ∧ sh = c * T'.cnt
theorem Blk.own (c : Nat) (fx : Bool) (ks : List SP) (o lab : Nat) (h : (SP.szs ks).sum = 0) : Blk c (.nd fx ks (o + 1) lab) lab (.nd fx ks o (lab + 1)) 0 c ∧ (SP.nd fx ks (o + 1) lab).cnt = 1 := by
  obtain ⟨c1, c2⟩ := SP.zeros ks h
  have e : (if fx = true then 1 else mlt (SP.szs ks)) * SP.cnts ks = 1 := by
    rw [c1, c2]
    cases fx <;> rfl
  refine ⟨⟨[], [], ?_, ?_, ?_⟩, ?_⟩
  · simp only [SP.nxt, h, if_true, List.nil_append]
  · simp
  · simp only [SP.cnt, e, Nat.mul_one]
  · simp only [SP.cnt, e]
theorem Blk.fix {c : Nat} {a b : List SP} {k k' : SP} {own lab s sk sh : Nat} (h0 : (SP.szs a).sum = 0) (hk : 0 < k.sz) (B : Blk (c * SP.cnts b) k s k' sk sh) : Blk c (.nd true (a ++ k :: b) own lab) s (.nd true (a ++ k' :: b) own lab) sk sh ∧ c * (SP.nd true (a ++ k :: b) own lab).cnt = c * SP.cnts b * k.cnt := by
  obtain ⟨pre, post, e, e1, e2⟩ := B
  obtain ⟨z1, _⟩ := SP.zeros a h0
  have hs : ¬ (SP.szs (a ++ k :: b)).sum = 0 := by
    rw [SP.szs_app]
    simp only [SP.szs, List.sum_append, List.sum_cons]
    omega
  have hc : ∀ y : SP, (SP.nd true (a ++ y :: b) own lab).cnt = y.cnt * SP.cnts b := fun y => by
    simp only [SP.cnt, if_true, Nat.one_mul, SP.cnts_app, z1, SP.cnts]
  refine ⟨⟨pre.map fun x => (x.1, .nd true (a ++ x.2 :: b) own lab), post.map fun x => (x.1, .nd true (a ++ x.2 :: b) own lab), ?_, ?_, ?_⟩, ?_⟩
  · simp only [SP.nxt, if_neg hs, if_true, SP.fst_app a k b h0 hk, e, List.map_map, List.map_append, List.map_cons]
    rfl
  · rw [e1, List.map_map, Nat.mul_assoc, ← sum_mul_map]
    congr 2
    refine List.map_congr_left fun x _ => ?_
    simp only [Function.comp, hc]
    rw [Nat.mul_comm]
  · rw [e2, hc, Nat.mul_assoc]
    congr 1
    rw [Nat.mul_comm]
  · rw [hc, Nat.mul_assoc]
    congr 1
    rw [Nat.mul_comm]
/-- an operand's part of the share: s + 1 of all the steps left lie in it -/
theorem part_mid {c : Nat} {a b : List SP} {k : SP} {own lab t : Nat} (hk : k.sz = t + 1) : c * (SP.nd false (a ++ k :: b) own lab).cnt * (t + 1) / (SP.szs (a ++ k :: b)).sum = c * mlt (SP.szs a ++ t :: SP.szs b) * SP.cnts (a ++ k :: b) := by
  have h := mlt_dec (get_mid (SP.szs a) (t + 1) (SP.szs b))
  rw [dec_mid] at h
  have hz : SP.szs (a ++ k :: b) = SP.szs a ++ (t + 1) :: SP.szs b := by rw [SP.szs_app]; simp only [SP.szs, hk]
  have hp : 0 < (SP.szs (a ++ k :: b)).sum := by
    rw [hz, List.sum_append, List.sum_cons]
    omega
  have hc : (SP.nd false (a ++ k :: b) own lab).cnt = mlt (SP.szs (a ++ k :: b)) * SP.cnts (a ++ k :: b) := by
    simp only [SP.cnt, if_neg (fun z => Bool.noConfusion z : ¬ (false = true))]
  refine Nat.div_eq_of_eq_mul_left hp ?_
  rw [hc]
  rw [hz] at hp ⊢
  generalize mlt (SP.szs a ++ t :: SP.szs b) = m1 at h ⊢
  generalize mlt (SP.szs a ++ (t + 1) :: SP.szs b) = m2 at h ⊢
  generalize (SP.szs a ++ (t + 1) :: SP.szs b).sum = m3 at h ⊢
  generalize SP.cnts (a ++ k :: b) = m4
  calc c * (m2 * m4) * (t + 1) = c * m4 * (m2 * (t + 1)) := by
        simp only [Nat.mul_assoc, Nat.mul_comm, Nat.mul_left_comm]
    _ = c * m4 * (m1 * m3) := by rw [← h]
    _ = c * m1 * m4 * m3 := by
        rw [← Nat.mul_assoc, Nat.mul_assoc c, Nat.mul_comm m4 m1, ← Nat.mul_assoc]
theorem Blk.open_ {c : Nat} {a b : List SP} {k k' : SP} {own lab s sk sh t : Nat} (hk : k.sz = t + 1) (B : Blk (c * mlt (SP.szs a ++ t :: SP.szs b) * (SP.cnts a * SP.cnts b)) k s k' sk sh) : Blk c (.nd false (a ++ k :: b) own lab) s (.nd false (a ++ k' :: b) own lab) (c * SP.cnts (a ++ k :: b) * decs (fun x => mlt (x ++ (t + 1) :: SP.szs b)) [] (SP.szs a) + sk) sh := by
  obtain ⟨pre, post, e, e1, e2⟩ := B
  have hs : ¬ (SP.szs (a ++ k :: b)).sum = 0 := by
    rw [SP.szs_app]
    simp only [SP.szs, List.sum_append, List.sum_cons]
    omega
  have hf : ¬ (false = true) := fun z => Bool.noConfusion z
  have hn : ∀ r ∈ k.nxt, r.2.sz = t := fun r hr => by
    have := (SP.split k (by omega)).2 r hr
    omega
  have hm : ∀ r ∈ k.nxt, (SP.nd false (a ++ r.2 :: b) own lab).cnt = mlt (SP.szs a ++ t :: SP.szs b) * (SP.cnts a * SP.cnts b) * r.2.cnt := fun r hr => by
    simp only [SP.cnt, if_neg hf, SP.szs_app, SP.cnts_app, SP.szs, SP.cnts, hn r hr]
    rw [Nat.mul_assoc (mlt _), Nat.mul_assoc (SP.cnts a), Nat.mul_comm r.2.cnt]
  have ha : ((SP.any a).map fun x => (SP.nd false (x.2 ++ k :: b) own lab).cnt).sum = SP.cnts (a ++ k :: b) * decs (fun x => mlt (x ++ (t + 1) :: SP.szs b)) [] (SP.szs a) := by
    have i := (SP.split_any a (fun x => mlt (x ++ (t + 1) :: SP.szs b)) []).1
    simp only [List.nil_append] at i
    have j : ((SP.any a).map fun x => (SP.nd false (x.2 ++ k :: b) own lab).cnt) = (SP.any a).map fun x => (mlt (SP.szs x.2 ++ (t + 1) :: SP.szs b) * SP.cnts x.2) * SP.cnts (k :: b) := by
      refine List.map_congr_left fun x _ => ?_
      simp only [SP.cnt, if_neg hf, SP.szs_app, SP.cnts_app, SP.szs, SP.cnts, hk]
      rw [Nat.mul_assoc]
    rw [j, sum_map_mul, i, SP.cnts_app]
    rw [Nat.mul_comm (decs _ _ _), Nat.mul_assoc, Nat.mul_assoc, Nat.mul_comm (decs _ _ _)]
  refine ⟨(SP.any a).map (fun x => (x.1, .nd false (x.2 ++ k :: b) own lab)) ++ pre.map (fun x => (x.1, .nd false (a ++ x.2 :: b) own lab)), post.map (fun x => (x.1, .nd false (a ++ x.2 :: b) own lab)) ++ (SP.any b).map (fun x => (x.1, .nd false (a ++ k :: x.2) own lab)), ?_, ?_, ?_⟩
  · simp only [SP.nxt, if_neg hs, if_neg hf, SP.any_app, SP.any, List.map_append, List.map_map, e, List.map_cons, List.append_assoc, List.cons_append]
    rfl
  · have hp : ∀ x ∈ pre, x ∈ k.nxt := fun x hx => by
      rw [e]
      exact List.mem_append_left _ hx
    rw [List.map_append, List.sum_append, List.map_map, List.map_map, Nat.mul_add, e1]
    congr 1
    · rw [Nat.mul_assoc, ← ha]
      rfl
    · rw [Nat.mul_assoc, Nat.mul_assoc, ← sum_mul_map, ← sum_mul_map]
      congr 2
      refine List.map_congr_left fun x hx => ?_
      simp only [Function.comp, hm x (hp x hx), Nat.mul_assoc]
  · have hk' : (s, k') ∈ k.nxt := by
      rw [e]
      exact List.mem_append_right _ (List.mem_cons_self ..)
    rw [e2, hm (s, k') hk']
    simp only [Nat.mul_assoc]
/-! ### the orders one by one -/
def ords : Nat → SP → List (List Nat)
  | 0, _ => [[]]
  | n + 1, T => T.nxt.flatMap fun x => (ords n x.2).map fun o => x.1 :: o
theorem ords_len : ∀ (n : Nat) (T : SP), T.sz = n → (ords n T).length = T.cnt
  | 0, T, h => by
    rw [(SP.zero T h).1]
    rfl
  | n + 1, T, h => by
    obtain ⟨s1, s2⟩ := SP.split T (by omega)
    rw [s1]
    simp only [ords, List.length_flatMap, List.length_map]
    congr 1
    refine List.map_congr_left fun x hx => ?_
    have := s2 x hx
    exact ords_len n x.2 (by omega)
/-- the orders with a first step are a block of the orders -/
theorem ords_blk {n : Nat} {T T' : SP} {s sk sh m : Nat} (hT : T.sz = n + 1) (B : Blk 1 T s T' sk sh) (hm : m < sh) : (ords (n + 1) T)[sk + m]? = ((ords n T')[m]?).map fun o => s :: o := by
  obtain ⟨pre, post, e, e1, e2⟩ := B
  rw [Nat.one_mul] at e1 e2
  have s2 := (SP.split T (by omega)).2
  have hl : ∀ x ∈ T.nxt, (ords n x.2).length = x.2.cnt := fun x hx => by
    have := s2 x hx
    exact ords_len n x.2 (by omega)
  have h1 : (pre.flatMap fun x => (ords n x.2).map fun o => x.1 :: o).length = sk := by
    rw [e1, List.length_flatMap]
    congr 1
    refine List.map_congr_left fun x hx => ?_
    rw [List.length_map]
    exact hl x (e ▸ List.mem_append_left _ hx)
  have h2 : m < (ords n T').length := by
    have : (ords n T').length = T'.cnt := hl (s, T') (e ▸ List.mem_append_right _ (List.mem_cons_self ..))
    omega
  have e3 : ords (n + 1) T = (pre.flatMap fun x => (ords n x.2).map fun o => x.1 :: o) ++ (((ords n T').map fun o => s :: o) ++ (post.flatMap fun x => (ords n x.2).map fun o => x.1 :: o)) := by
    simp only [ords, e, List.flatMap_append, List.flatMap_cons]
  rw [e3, ← h1, List.getElem?_append_right (Nat.le_add_right _ _), Nat.add_sub_cancel_left, List.getElem?_append_left (by rw [List.length_map]; exact h2), List.getElem?_map]
end Oo
/-! what is left of an expression's steps when some are done; the next steps are those with nothing left ahead of them -/
namespace Oo
open PySem
abbrev Dn := Nat → Bool
def Dn.put (D : Dn) (s : Nat) : Dn := fun x => D x || decide (x = s)
def und (D : Dn) (a m : Nat) : Nat := ((List.range' a m).filter fun x => !D x).length
theorem range_app (a m l : Nat) : List.range' a (m + l) = List.range' a m ++ List.range' (a + m) l := by
  have := List.range'_append (s := a) (m := m) (n := l) (step := 1)
  rw [Nat.one_mul] at this
  exact this.symm
theorem und_add (D : Dn) (a m l : Nat) : und D a (m + l) = und D a m + und D (a + m) l := by
  simp only [und, range_app, List.filter_append, List.length_append]
theorem und_congr {D D' : Dn} {a m : Nat} (h : ∀ x, a ≤ x → x < a + m → D x = D' x) : und D a m = und D' a m := by
  have : (List.range' a m).filter (fun x => !D x) = (List.range' a m).filter (fun x => !D' x) := by
    refine List.filter_congr fun x hx => ?_
    rw [List.mem_range'_1] at hx
    rw [h x hx.1 hx.2]
  simp only [und, this]
theorem und_zero {D : Dn} {a m : Nat} (h : und D a m = 0) {x : Nat} (h1 : a ≤ x) (h2 : x < a + m) : D x = true := by
  have := List.length_eq_zero_iff.mp h
  cases e : D x with
  | true => rfl
  | false =>
    have : x ∈ (List.range' a m).filter fun x => !D x := List.mem_filter.mpr ⟨List.mem_range'_1.mpr ⟨h1, h2⟩, by rw [e]; rfl⟩
    rw [List.length_eq_zero_iff.mp h] at this
    cases this
theorem und_pos {D : Dn} {a m : Nat} (h : 0 < und D a m) : ∃ x, a ≤ x ∧ x < a + m ∧ D x = false := by
  obtain ⟨x, hx⟩ := List.exists_mem_of_length_pos h
  obtain ⟨h1, h2⟩ := List.mem_filter.mp hx
  rw [List.mem_range'_1] at h1
  refine ⟨x, h1.1, h1.2, ?_⟩
  cases e : D x with
  | false => rfl
  | true => rw [e] at h2; cases h2
theorem und_le (D : Dn) (a m : Nat) : und D a m ≤ m := by
  have := List.length_filter_le (fun x => !D x) (List.range' a m)
  rw [List.length_range'] at this
  exact this
mutual
def Ex.res (mk : List (List Nat)) (D : Dn) : Ex → List Nat → Nat → SP
  | .num _, _, _ => .nd true [] 0 0
  | .nd k os, p, n => .nd (k.fixd || decide (p ∈ mk)) (Ex.ress mk D os p 0 n) (und D (n + Ex.stepss os) k.steps) (n + Ex.stepss os + (k.steps - und D (n + Ex.stepss os) k.steps))
def Ex.ress (mk : List (List Nat)) (D : Dn) : List Ex → List Nat → Nat → Nat → List SP
  | [], _, _, _ => []
  | e :: r, p, a, n => Ex.res mk D e (p ++ [a]) n :: Ex.ress mk D r p (a + 1) (n + e.steps)
end
mutual
theorem res_sz (mk : List (List Nat)) (D : Dn) : ∀ (e : Ex) (p : List Nat) (n : Nat), (e.res mk D p n).sz = und D n e.steps
  | .num _, p, n => rfl
  | .nd k os, p, n => by
    simp only [Ex.res, SP.sz, ress_sz mk D os p 0 n, Ex.steps]
    rw [Nat.add_comm k.steps, und_add]
theorem ress_sz (mk : List (List Nat)) (D : Dn) : ∀ (os : List Ex) (p : List Nat) (a n : Nat), (SP.szs (Ex.ress mk D os p a n)).sum = und D n (Ex.stepss os)
  | [], p, a, n => rfl
  | e :: r, p, a, n => by
    simp only [Ex.ress, SP.szs, List.sum_cons, res_sz mk D e _ n, ress_sz mk D r p (a + 1) _, Ex.stepss, und_add]
end
mutual
theorem res_congr {mk : List (List Nat)} {D D' : Dn} : ∀ (e : Ex) (p : List Nat) (n : Nat), (∀ x, n ≤ x → x < n + e.steps → D x = D' x) → e.res mk D p n = e.res mk D' p n
  | .num _, p, n, _ => rfl
  | .nd k os, p, n, h => by
    simp only [Ex.steps] at h
    have h1 := ress_congr (mk := mk) os p 0 n (fun x a b => h x a (by omega))
    have h2 : und D (n + Ex.stepss os) k.steps = und D' (n + Ex.stepss os) k.steps := und_congr fun x a b => h x (by omega) (by omega)
    simp only [Ex.res, h1, h2]
theorem ress_congr {mk : List (List Nat)} {D D' : Dn} : ∀ (os : List Ex) (p : List Nat) (a n : Nat), (∀ x, n ≤ x → x < n + Ex.stepss os → D x = D' x) → Ex.ress mk D os p a n = Ex.ress mk D' os p a n
  | [], p, a, n, _ => rfl
  | e :: r, p, a, n, h => by
    simp only [Ex.stepss] at h
    simp only [Ex.ress, res_congr e (p ++ [a]) n (fun x u v => h x u (by omega)), ress_congr r p (a + 1) (n + e.steps) (fun x u v => h x (by omega) (by omega))]
end
/-- not done, and all that precede it in the range are -/
def rdyB (pr : Nat → Nat → Bool) (D : Dn) (n m s : Nat) : Bool := !D s && (List.range' n m).all fun i => !pr i s || D i
theorem rdy_iff {pr : Nat → Nat → Bool} {D : Dn} {n m s : Nat} : rdyB pr D n m s = true ↔ D s = false ∧ ∀ i, n ≤ i → i < n + m → pr i s = true → D i = true := by
  simp only [rdyB, Bool.and_eq_true, Bool.not_eq_true', List.all_eq_true, List.mem_range'_1, Bool.or_eq_true]
  refine and_congr Iff.rfl ⟨fun h i a b c => ?_, fun h i ab => ?_⟩
  · rcases h i ⟨a, b⟩ with h | h
    · rw [c] at h
      cases h
    · exact h
  · cases c : pr i s with
    | false => exact .inl rfl
    | true => exact .inr (h i ab.1 ab.2 c)
theorem beq_of_iff {a b : Bool} (h : a = true ↔ b = true) : a = b := by
  cases a <;> cases b <;> simp_all
def rdy (pr : Nat → Nat → Bool) (D : Dn) (n m : Nat) : List Nat := (List.range' n m).filter (rdyB pr D n m)
theorem filt_none {P : Nat → Bool} {a m : Nat} (h : ∀ s, a ≤ s → s < a + m → P s = false) : (List.range' a m).filter P = [] := by
  refine List.filter_eq_nil_iff.mpr fun s hs => ?_
  rw [List.mem_range'_1] at hs
  rw [h s hs.1 hs.2]
  exact Bool.noConfusion
theorem filt_one {P : Nat → Bool} {a m x : Nat} (h1 : a ≤ x) (h2 : x < a + m) (hx : P x = true) (h : ∀ s, a ≤ s → s < a + m → s ≠ x → P s = false) : (List.range' a m).filter P = [x] := by
  obtain ⟨d, rfl⟩ : ∃ d, x = a + d := ⟨x - a, by omega⟩
  obtain ⟨r, rfl⟩ : ∃ r, m = d + (1 + r) := ⟨m - d - 1, by omega⟩
  rw [range_app, range_app, List.filter_append, List.filter_append, filt_none (a := a) (m := d) (fun s u v => h s u (by omega) (by omega)), filt_none (a := a + d + 1) (m := r) (fun s u v => h s (by omega) (by omega) (by omega))]
  simp [hx]
/-- own steps are done one after another -/
theorem own_und {D : Dn} {a m : Nat} (hd : ∀ i j, a ≤ i → i < j → j < a + m → D j = true → D i = true) : ∀ {o : Nat}, und D a m = o + 1 → (∀ i, a ≤ i → i < a + (m - (o + 1)) → D i = true) ∧ (∀ i, a + (m - (o + 1)) ≤ i → i < a + m → D i = false) ∧ o + 1 ≤ m := by
  induction m generalizing a with
  | zero => intro o h; cases h
  | succ m ih =>
    intro o h
    have hl := und_le D a (m + 1)
    have e : und D a (m + 1) = (if D a = true then 0 else 1) + und D (a + 1) m := by
      rw [Nat.add_comm m 1, und_add]
      congr 1
      cases hD : D a <;> simp [und, hD]
    cases hD : D a with
    | true =>
      rw [hD, if_pos rfl, Nat.zero_add] at e
      obtain ⟨i1, i2, i3⟩ := ih (a := a + 1) (fun i j u v w x => hd i j (by omega) v (by omega) x) (o := o) (by omega)
      refine ⟨fun i u v => ?_, fun i u v => i2 i (by omega) (by omega), by omega⟩
      by_cases hi : i = a
      · rw [hi]; exact hD
      · exact i1 i (by omega) (by omega)
    | false =>
      have all : ∀ i, a ≤ i → i < a + (m + 1) → D i = false := fun i u v => by
        by_cases hi : i = a
        · rw [hi]; exact hD
        · cases c : D i with
          | false => rfl
          | true =>
            have := hd a i (Nat.le_refl _) (by omega) v c
            rw [hD] at this
            cases this
      have fl : und D a (m + 1) = m + 1 := by
        have : (List.range' a (m + 1)).filter (fun x => !D x) = List.range' a (m + 1) := by
          refine List.filter_eq_self.mpr fun x hx => ?_
          rw [List.mem_range'_1] at hx
          rw [all x hx.1 hx.2]
          rfl
        simp only [und, this, List.length_range']
      refine ⟨fun i u v => by omega, fun i u v => all i (by omega) v, by omega⟩
theorem put_same (D : Dn) (s : Nat) : D.put s s = true := by simp [Dn.put]
theorem put_other (D : Dn) {s x : Nat} (h : x ≠ s) : D.put s x = D x := by simp [Dn.put, h]
theorem und_put {D : Dn} {a m s : Nat} (h1 : a ≤ s) (h2 : s < a + m) (hs : D s = false) : und D a m = und (D.put s) a m + 1 := by
  obtain ⟨d, rfl⟩ : ∃ d, s = a + d := ⟨s - a, by omega⟩
  obtain ⟨r, rfl⟩ : ∃ r, m = d + (1 + r) := ⟨m - d - 1, by omega⟩
  rw [und_add, und_add, und_add (D.put _), und_add (D.put _)]
  have e1 : und (D.put (a + d)) a d = und D a d := und_congr fun x u v => put_other D (by omega)
  have e2 : und (D.put (a + d)) (a + d + 1) r = und D (a + d + 1) r := und_congr fun x u v => put_other D (by omega)
  have e3 : und D (a + d) 1 = 1 := by simp [und, hs]
  have e4 : und (D.put (a + d)) (a + d) 1 = 0 := by simp [und, put_same]
  omega
theorem und_out {D : Dn} {a m s : Nat} (h : ¬ (a ≤ s ∧ s < a + m)) : und (D.put s) a m = und D a m := und_congr fun x u v => put_other D (by omega)
def Down (pr : Nat → Nat → Bool) (D : Dn) : Prop := ∀ i j, pr i j = true → D j = true → D i = true
mutual
/-- the next steps of what is left -/
theorem res_nxt {mk : List (List Nat)} {D : Dn} : ∀ (e : Ex) (p : List Nat) (n : Nat), e.grd = false → Down (e.prec mk p n) D → (e.res mk D p n).nxt = (rdy (e.prec mk p n) D n e.steps).map fun s => (s, e.res mk (D.put s) p n)
  | .num _, p, n, _, _ => by
    simp [Ex.res, SP.nxt, SP.szs, rdy, Ex.steps]
  | .nd k os, p, n, g, dn => by
    simp only [Ex.grd] at g
    have g1 : k.grd = false := by cases h : k.grd with | false => rfl | true => rw [h] at g; cases g
    have g2 : Ex.grds os = false := by cases h : Ex.grds os with | false => rfl | true => rw [h, Bool.or_true] at g; cases g
    have pin : ∀ i s, Ex.precs mk (k.fixd || decide (p ∈ mk)) k.grd os p 0 n i s = true → (Ex.nd k os).prec mk p n i s = true := fun i s h => by
      simp only [Ex.prec, h, Bool.or_true]
    have pown : ∀ i s, n ≤ i → i < s → n + Ex.stepss os ≤ s → s < n + Ex.stepss os + k.steps → (Ex.nd k os).prec mk p n i s = true := fun i s a b c d => by
      simp only [Ex.prec, inR_iff.mpr (⟨a, by omega⟩ : n ≤ i ∧ i < n + (Ex.stepss os + k.steps)), inR_iff.mpr ⟨c, d⟩, decide_eq_true b, Bool.and_self, Bool.true_or]
    have plow : ∀ i s, s < n + Ex.stepss os → (Ex.nd k os).prec mk p n i s = Ex.precs mk (k.fixd || decide (p ∈ mk)) k.grd os p 0 n i s := fun i s h => by
      simp only [Ex.prec, inR_not (show ¬ (n + Ex.stepss os ≤ s ∧ s < n + Ex.stepss os + k.steps) by omega), Bool.and_false, Bool.false_and, Bool.false_or]
    have dns : Down (Ex.precs mk (k.fixd || decide (p ∈ mk)) k.grd os p 0 n) D := fun i j h1 h2 => dn i j (pin i j h1) h2
    have sz0 := ress_sz mk D os p 0 n
    have st : (Ex.nd k os).steps = Ex.stepss os + k.steps := by simp only [Ex.steps, Nat.add_comm]
    simp only [rdy, st]
    rw [range_app, List.filter_append, List.map_append]
    by_cases h0 : und D n (Ex.stepss os) = 0
    · have f1 : (List.range' n (Ex.stepss os)).filter (rdyB ((Ex.nd k os).prec mk p n) D n (Ex.stepss os + k.steps)) = [] := filt_none fun s a b => by
        simp only [rdyB, und_zero h0 a b, Bool.not_true, Bool.false_and]
      simp only [f1, List.map_nil, List.nil_append, Ex.res, SP.nxt, sz0, h0, if_true]
      have od : ∀ i j, n + Ex.stepss os ≤ i → i < j → j < n + Ex.stepss os + k.steps → D j = true → D i = true := fun i j a b c d => dn i j (pown i j (by omega) b (by omega) c) d
      cases ho : und D (n + Ex.stepss os) k.steps with
      | zero =>
        rw [filt_none fun s a b => by simp only [rdyB, und_zero ho a b, Bool.not_true, Bool.false_and]]
        rfl
      | succ o =>
        obtain ⟨o1, o2, o3⟩ := own_und od ho
        have hx : rdyB ((Ex.nd k os).prec mk p n) D n (Ex.stepss os + k.steps) (n + Ex.stepss os + (k.steps - (o + 1))) = true := by
          refine rdy_iff.mpr ⟨o2 _ (Nat.le_refl _) (by omega), fun i a b c => ?_⟩
          have hi := (prec_rng _ _ _ _ _ c).2.1
          by_cases hs : i < n + Ex.stepss os
          · exact und_zero h0 a hs
          · exact o1 i (by omega) hi
        rw [filt_one (by omega) (by omega) hx (fun s a b c => by
          cases hr : rdyB ((Ex.nd k os).prec mk p n) D n (Ex.stepss os + k.steps) s with
          | false => rfl
          | true =>
            obtain ⟨r1, r2⟩ := rdy_iff.mp hr
            by_cases hl : s < n + Ex.stepss os + (k.steps - (o + 1))
            · rw [o1 s a hl] at r1
              cases r1
            · have := r2 (n + Ex.stepss os + (k.steps - (o + 1))) (by omega) (by omega) (pown _ s (by omega) (by omega) (by omega) (by omega))
              rw [o2 _ (Nat.le_refl _) (by omega)] at this
              cases this)]
        have hu : und (D.put (n + Ex.stepss os + (k.steps - (o + 1)))) (n + Ex.stepss os) k.steps = o := by
          have := und_put (D := D) (a := n + Ex.stepss os) (m := k.steps) (s := n + Ex.stepss os + (k.steps - (o + 1))) (by omega) (by omega) (o2 _ (Nat.le_refl _) (by omega))
          omega
        have hc : Ex.ress mk (D.put (n + Ex.stepss os + (k.steps - (o + 1)))) os p 0 n = Ex.ress mk D os p 0 n := ress_congr os p 0 n fun x a b => put_other D (by omega)
        simp only [List.map_cons, List.map_nil, hu, hc]
        congr 3
        omega
    · have f2 : (List.range' (n + Ex.stepss os) k.steps).filter (rdyB ((Ex.nd k os).prec mk p n) D n (Ex.stepss os + k.steps)) = [] := filt_none fun s a b => by
        cases hr : rdyB ((Ex.nd k os).prec mk p n) D n (Ex.stepss os + k.steps) s with
        | false => rfl
        | true =>
          obtain ⟨r1, r2⟩ := rdy_iff.mp hr
          obtain ⟨x, x1, x2, x3⟩ := und_pos (Nat.pos_of_ne_zero h0)
          rw [r2 x x1 (by omega) (pown x s x1 (by omega) a b)] at x3
          cases x3
      have f1 : (List.range' n (Ex.stepss os)).filter (rdyB ((Ex.nd k os).prec mk p n) D n (Ex.stepss os + k.steps)) = rdy (Ex.precs mk (k.fixd || decide (p ∈ mk)) k.grd os p 0 n) D n (Ex.stepss os) := by
        refine List.filter_congr fun s hs => ?_
        rw [List.mem_range'_1] at hs
        refine beq_of_iff (rdy_iff.trans (Iff.trans (and_congr Iff.rfl ?_) rdy_iff.symm))
        refine ⟨fun h i a b c => h i a (by omega) (by rw [plow i s hs.2]; exact c), fun h i a b c => ?_⟩
        have := (prec_rng _ _ _ _ _ c).2.1
        rw [plow i s hs.2] at c
        exact h i a (by omega) c
      have hsame : ∀ s ∈ rdy (Ex.precs mk (k.fixd || decide (p ∈ mk)) k.grd os p 0 n) D n (Ex.stepss os), (Ex.nd k os).res mk (D.put s) p n = .nd (k.fixd || decide (p ∈ mk)) (Ex.ress mk (D.put s) os p 0 n) (und D (n + Ex.stepss os) k.steps) (n + Ex.stepss os + (k.steps - und D (n + Ex.stepss os) k.steps)) := fun s hs => by
        have hm := (List.mem_filter.mp hs).1
        rw [List.mem_range'_1] at hm
        simp only [Ex.res]
        rw [und_out (by omega)]
      rw [f1, f2, List.map_nil, List.append_nil]
      simp only [Ex.res, SP.nxt, sz0, h0, if_false]
      cases hf : (k.fixd || decide (p ∈ mk)) with
      | true =>
        rw [hf, g1] at dns hsame
        rw [g1]
        simp only [if_true]
        rw [ress_fst os p 0 n g2 dns, List.map_map]
        refine List.map_congr_left fun s hs => ?_
        simp only [Function.comp]
        have := hsame s hs
        simp only [Ex.res, hf] at this ⊢
        rw [this]
      | false =>
        rw [hf, g1] at dns hsame
        rw [g1]
        simp only [if_neg (fun z => Bool.noConfusion z : ¬ (false = true))]
        rw [ress_any os p 0 n g2 dns, List.map_map]
        refine List.map_congr_left fun s hs => ?_
        simp only [Function.comp]
        have := hsame s hs
        simp only [Ex.res, hf] at this ⊢
        rw [this]
theorem ress_fst {mk : List (List Nat)} {D : Dn} : ∀ (os : List Ex) (p : List Nat) (a n : Nat), Ex.grds os = false → Down (Ex.precs mk true false os p a n) D → SP.fst (Ex.ress mk D os p a n) = (rdy (Ex.precs mk true false os p a n) D n (Ex.stepss os)).map fun s => (s, Ex.ress mk (D.put s) os p a n)
  | [], p, a, n, _, _ => by simp [Ex.ress, SP.fst, rdy, Ex.stepss]
  | e :: r, p, a, n, g, dn => by
    simp only [Ex.grds] at g
    have g1 : e.grd = false := by cases h : e.grd with | false => rfl | true => rw [h] at g; cases g
    have g2 : Ex.grds r = false := by cases h : Ex.grds r with | false => rfl | true => rw [h, Bool.or_true] at g; cases g
    have d1 : Down (e.prec mk (p ++ [a]) n) D := fun i j h1 h2 => dn i j (by simp only [Ex.precs, h1, Bool.true_or]) h2
    have d2 : Down (Ex.precs mk true false r p (a + 1) (n + e.steps)) D := fun i j h1 h2 => dn i j (by simp only [Ex.precs, h1, Bool.or_true]) h2
    have cross : ∀ i s, n ≤ i → i < n + e.steps → n + e.steps ≤ s → s < n + e.steps + Ex.stepss r → Ex.precs mk true false (e :: r) p a n i s = true := fun i s u v w x => by
      simp only [Ex.precs, inR_iff.mpr ⟨u, v⟩, inR_iff.mpr ⟨w, x⟩, Bool.not_false, Bool.true_or, Bool.and_self, Bool.or_true]
    have pup : ∀ i s, n + e.steps ≤ i → Ex.precs mk true false (e :: r) p a n i s = Ex.precs mk true false r p (a + 1) (n + e.steps) i s := fun i s u => by
      simp only [Ex.precs, prec_no (show ¬ (n ≤ i ∧ i < s ∧ s < n + e.steps) by omega), inR_not (show ¬ (n ≤ i ∧ i < n + e.steps) by omega), Bool.and_false, Bool.false_and, Bool.false_or]
    have plow : ∀ i s, s < n + e.steps → Ex.precs mk true false (e :: r) p a n i s = e.prec mk (p ++ [a]) n i s := fun i s u => by
      simp only [Ex.precs, inR_not (show ¬ (n + e.steps ≤ s ∧ s < n + e.steps + Ex.stepss r) by omega), precs_no (show ¬ (n + e.steps ≤ i ∧ i < s ∧ s < n + e.steps + Ex.stepss r) by omega), Bool.and_false, Bool.or_false]
    simp only [rdy, Ex.stepss]
    rw [range_app, List.filter_append, List.map_append]
    by_cases h0 : und D n e.steps = 0
    · have f1 : (List.range' n e.steps).filter (rdyB (Ex.precs mk true false (e :: r) p a n) D n (e.steps + Ex.stepss r)) = [] := filt_none fun s u v => by
        simp only [rdyB, und_zero h0 u v, Bool.not_true, Bool.false_and]
      have f2 : (List.range' (n + e.steps) (Ex.stepss r)).filter (rdyB (Ex.precs mk true false (e :: r) p a n) D n (e.steps + Ex.stepss r)) = rdy (Ex.precs mk true false r p (a + 1) (n + e.steps)) D (n + e.steps) (Ex.stepss r) := by
        refine List.filter_congr fun s hs => ?_
        rw [List.mem_range'_1] at hs
        refine beq_of_iff (rdy_iff.trans (Iff.trans (and_congr Iff.rfl ?_) rdy_iff.symm))
        refine ⟨fun h i u v w => h i (by omega) (by omega) (by rw [pup i s u]; exact w), fun h i u v w => ?_⟩
        by_cases hi : i < n + e.steps
        · exact und_zero h0 u hi
        · rw [pup i s (by omega)] at w
          exact h i (by omega) (by omega) w
      rw [f1, f2, List.map_nil, List.nil_append]
      simp only [Ex.ress, SP.fst, res_sz, h0, if_true]
      rw [ress_fst r p (a + 1) (n + e.steps) g2 d2, List.map_map]
      refine List.map_congr_left fun s hs => ?_
      have hm := (List.mem_filter.mp hs).1
      rw [List.mem_range'_1] at hm
      simp only [Function.comp]
      rw [res_congr (D := D.put s) (D' := D) e (p ++ [a]) n fun x u v => put_other D (by omega)]
    · have f2 : (List.range' (n + e.steps) (Ex.stepss r)).filter (rdyB (Ex.precs mk true false (e :: r) p a n) D n (e.steps + Ex.stepss r)) = [] := filt_none fun s u v => by
        cases hr : rdyB (Ex.precs mk true false (e :: r) p a n) D n (e.steps + Ex.stepss r) s with
        | false => rfl
        | true =>
          obtain ⟨r1, r2⟩ := rdy_iff.mp hr
          obtain ⟨x, x1, x2, x3⟩ := und_pos (Nat.pos_of_ne_zero h0)
          rw [r2 x x1 (by omega) (cross x s x1 x2 u v)] at x3
          cases x3
      have f1 : (List.range' n e.steps).filter (rdyB (Ex.precs mk true false (e :: r) p a n) D n (e.steps + Ex.stepss r)) = rdy (e.prec mk (p ++ [a]) n) D n e.steps := by
        refine List.filter_congr fun s hs => ?_
        rw [List.mem_range'_1] at hs
        refine beq_of_iff (rdy_iff.trans (Iff.trans (and_congr Iff.rfl ?_) rdy_iff.symm))
        refine ⟨fun h i u v w => h i u (by omega) (by rw [plow i s hs.2]; exact w), fun h i u v w => ?_⟩
        rw [plow i s hs.2] at w
        have := (prec_rng _ _ _ _ _ w).2.1
        exact h i u (by omega) w
      rw [f1, f2, List.map_nil, List.append_nil]
      simp only [Ex.ress, SP.fst, res_sz, h0, if_false]
      rw [res_nxt e (p ++ [a]) n g1 d1, List.map_map]
      refine List.map_congr_left fun s hs => ?_
      have hm := (List.mem_filter.mp hs).1
      rw [List.mem_range'_1] at hm
      simp only [Function.comp]
      rw [ress_congr (D := D.put s) (D' := D) r p (a + 1) (n + e.steps) fun x u v => put_other D (by omega)]
theorem ress_any {mk : List (List Nat)} {D : Dn} : ∀ (os : List Ex) (p : List Nat) (a n : Nat), Ex.grds os = false → Down (Ex.precs mk false false os p a n) D → SP.any (Ex.ress mk D os p a n) = (rdy (Ex.precs mk false false os p a n) D n (Ex.stepss os)).map fun s => (s, Ex.ress mk (D.put s) os p a n)
  | [], p, a, n, _, _ => by simp [Ex.ress, SP.any, rdy, Ex.stepss]
  | e :: r, p, a, n, g, dn => by
    simp only [Ex.grds] at g
    have g1 : e.grd = false := by cases h : e.grd with | false => rfl | true => rw [h] at g; cases g
    have g2 : Ex.grds r = false := by cases h : Ex.grds r with | false => rfl | true => rw [h, Bool.or_true] at g; cases g
    have d1 : Down (e.prec mk (p ++ [a]) n) D := fun i j h1 h2 => dn i j (by simp only [Ex.precs, h1, Bool.true_or]) h2
    have d2 : Down (Ex.precs mk false false r p (a + 1) (n + e.steps)) D := fun i j h1 h2 => dn i j (by simp only [Ex.precs, h1, Bool.or_true]) h2
    have ps : ∀ i s, Ex.precs mk false false (e :: r) p a n i s = (e.prec mk (p ++ [a]) n i s || Ex.precs mk false false r p (a + 1) (n + e.steps) i s) := fun i s => by
      simp only [Ex.precs, Bool.false_and, Bool.or_false]
    have plow : ∀ i s, s < n + e.steps → Ex.precs mk false false (e :: r) p a n i s = e.prec mk (p ++ [a]) n i s := fun i s u => by
      rw [ps, precs_no (show ¬ (n + e.steps ≤ i ∧ i < s ∧ s < n + e.steps + Ex.stepss r) by omega), Bool.or_false]
    have pup : ∀ i s, n + e.steps ≤ s → Ex.precs mk false false (e :: r) p a n i s = Ex.precs mk false false r p (a + 1) (n + e.steps) i s := fun i s u => by
      rw [ps, prec_no (show ¬ (n ≤ i ∧ i < s ∧ s < n + e.steps) by omega), Bool.false_or]
    have f1 : (List.range' n e.steps).filter (rdyB (Ex.precs mk false false (e :: r) p a n) D n (e.steps + Ex.stepss r)) = rdy (e.prec mk (p ++ [a]) n) D n e.steps := by
      refine List.filter_congr fun s hs => ?_
      rw [List.mem_range'_1] at hs
      refine beq_of_iff (rdy_iff.trans (Iff.trans (and_congr Iff.rfl ?_) rdy_iff.symm))
      refine ⟨fun h i u v w => h i u (by omega) (by rw [plow i s hs.2]; exact w), fun h i u v w => ?_⟩
      rw [plow i s hs.2] at w
      have := (prec_rng _ _ _ _ _ w).2.1
      exact h i u (by omega) w
    have f2 : (List.range' (n + e.steps) (Ex.stepss r)).filter (rdyB (Ex.precs mk false false (e :: r) p a n) D n (e.steps + Ex.stepss r)) = rdy (Ex.precs mk false false r p (a + 1) (n + e.steps)) D (n + e.steps) (Ex.stepss r) := by
      refine List.filter_congr fun s hs => ?_
      rw [List.mem_range'_1] at hs
      refine beq_of_iff (rdy_iff.trans (Iff.trans (and_congr Iff.rfl ?_) rdy_iff.symm))
      refine ⟨fun h i u v w => h i (by omega) (by omega) (by rw [pup i s hs.1]; exact w), fun h i u v w => ?_⟩
      rw [pup i s hs.1] at w
      exact h i (precs_rng _ _ _ _ _ _ w).1 (by omega) w
    simp only [rdy, Ex.stepss]
    rw [range_app, List.filter_append, List.map_append, f1, f2]
    simp only [Ex.ress, SP.any]
    rw [res_nxt e (p ++ [a]) n g1 d1, ress_any r p (a + 1) (n + e.steps) g2 d2, List.map_map, List.map_map]
    congr 1
    · refine List.map_congr_left fun s hs => ?_
      have hm := (List.mem_filter.mp hs).1
      rw [List.mem_range'_1] at hm
      simp only [Function.comp]
      rw [ress_congr (D := D.put s) (D' := D) r p (a + 1) (n + e.steps) fun x u v => put_other D (by omega)]
    · refine List.map_congr_left fun s hs => ?_
      have hm := (List.mem_filter.mp hs).1
      rw [List.mem_range'_1] at hm
      simp only [Function.comp]
      rw [res_congr (D := D.put s) (D' := D) e (p ++ [a]) n fun x u v => put_other D (by omega)]
end
end Oo
/-! the orders as rows that grow by a next step; the first one; no two alike; each by its number -/
namespace Oo
open PySem
variable {pr : Nat → Nat → Bool} {N : Nat}
theorem flat_congr {α β : Type} {f g : α → List β} : ∀ {l : List α}, (∀ x ∈ l, f x = g x) → l.flatMap f = l.flatMap g
  | [], _ => rfl
  | a :: r, h => by rw [List.flatMap_cons, List.flatMap_cons, h a (List.mem_cons_self ..), flat_congr fun x hx => h x (List.mem_cons_of_mem _ hx)]
/-- all that can follow, t steps long -/
def ordsD (pr : Nat → Nat → Bool) (N : Nat) : Nat → Dn → List (List Nat)
  | 0, _ => [[]]
  | t + 1, D => (rdy pr D 0 N).flatMap fun s => (ordsD pr N t (D.put s)).map fun o => s :: o
theorem down_put {D : Dn} {n m s : Nat} (hr : ∀ i j, pr i j = true → n ≤ i ∧ i < n + m) (h : Down pr D) (hs : rdyB pr D n m s = true) : Down pr (D.put s) := fun i j h1 h2 => by
  simp only [Dn.put, Bool.or_eq_true, decide_eq_true_eq] at h2 ⊢
  rcases h2 with h2 | rfl
  · exact .inl (h i j h1 h2)
  · exact .inl ((rdy_iff.mp hs).2 i (hr i _ h1).1 (hr i _ h1).2 h1)
theorem ords_res {mk : List (List Nat)} {e : Ex} (g : e.grd = false) : ∀ (t : Nat) (D : Dn), Down (e.prec mk [] 0) D → ords t (e.res mk D [] 0) = ordsD (e.prec mk [] 0) e.steps t D
  | 0, D, _ => rfl
  | t + 1, D, h => by
    simp only [ords, ordsD, res_nxt e [] 0 g h, List.flatMap_map]
    refine flat_congr fun s hs => ?_
    rw [ords_res g t _ (down_put (n := 0) (m := e.steps) (fun i j hp => by have := prec_rng _ _ _ _ _ hp; omega) h (List.mem_filter.mp hs).2)]
/-- a row that grows at its end -/
def grow (pr : Nat → Nat → Bool) (N : Nat) (row : List Nat) : List (List Nat) := (rdy pr (fun x => decide (x ∈ row)) 0 N).map fun s => row ++ [s]
def grown (pr : Nat → Nat → Bool) (N : Nat) : Nat → List (List Nat) → List (List Nat)
  | 0, rows => rows
  | t + 1, rows => grown pr N t (rows.flatMap (grow pr N))
theorem grown_app : ∀ (t : Nat) (a b : List (List Nat)), grown pr N t (a ++ b) = grown pr N t a ++ grown pr N t b
  | 0, a, b => rfl
  | t + 1, a, b => by simp only [grown, List.flatMap_append, grown_app t]
theorem grown_nil : ∀ t, grown pr N t [] = []
  | 0 => rfl
  | t + 1 => by simp only [grown, List.flatMap_nil, grown_nil t]
theorem grown_map {α : Type} (f : α → List Nat) : ∀ (t : Nat) (l : List α), grown pr N t (l.map f) = l.flatMap fun x => grown pr N t [f x]
  | t, [] => by simp [grown_nil]
  | t, x :: l => by
    rw [List.map_cons, List.flatMap_cons, ← grown_map f t l]
    exact grown_app t [f x] (l.map f)
theorem put_mem (row : List Nat) (s : Nat) : Dn.put (fun x => decide (x ∈ row)) s = fun x => decide (x ∈ row ++ [s]) := by
  funext x
  simp only [Dn.put, List.mem_append, List.mem_singleton]
  cases h : decide (x ∈ row) <;> simp_all
theorem grown_ords : ∀ (t : Nat) (row : List Nat), grown pr N t [row] = (ordsD pr N t (fun x => decide (x ∈ row))).map fun o => row ++ o
  | 0, row => by simp [grown, ordsD]
  | t + 1, row => by
    simp only [grown, List.flatMap_cons, List.flatMap_nil, List.append_nil, grow, grown_map, ordsD, List.map_flatMap, List.map_map]
    refine flat_congr fun s hs => ?_
    rw [grown_ords t, put_mem]
    refine List.map_congr_left fun o _ => ?_
    simp only [Function.comp, List.append_assoc, List.singleton_append]
theorem grown_succ : ∀ (t : Nat) (rows : List (List Nat)), grown pr N (t + 1) rows = (grown pr N t rows).flatMap (grow pr N)
  | 0, rows => rfl
  | t + 1, rows => by
    rw [grown, grown_succ t]
    rfl
/-- the first order takes the steps as they are numbered -/
theorem ordsD_head (hlt : ∀ i j, pr i j = true → i < j) : ∀ (t m : Nat) (D : Dn), (∀ x, x < N → D x = decide (x < m)) → m + t = N → (ordsD pr N t D)[0]? = some (List.range' m t)
  | 0, m, D, _, _ => rfl
  | t + 1, m, D, hD, hm => by
    have f : rdy pr D 0 N = m :: (List.range' (m + 1) t).filter (rdyB pr D 0 N) := by
      obtain rfl : N = m + (1 + t) := by omega
      simp only [rdy]
      rw [range_app, range_app, List.filter_append, List.filter_append, filt_none (a := 0) (m := m) fun s u v => by simp only [rdyB, hD s (by omega), decide_eq_true (show s < m by omega), Bool.not_true, Bool.false_and]]
      have hr : rdyB pr D 0 (m + (1 + t)) m = true := rdy_iff.mpr ⟨by rw [hD m (by omega)]; exact decide_eq_false (by omega), fun i u v w => by rw [hD i (by omega)]; exact decide_eq_true (hlt i m w)⟩
      rw [Nat.zero_add]
      have : (List.range' m 1).filter (rdyB pr D 0 (m + (1 + t))) = [m] := by simp [hr]
      rw [this]
      rfl
    have ih := ordsD_head hlt t (m + 1) (D.put m) (fun x hx => by
      simp only [Dn.put, hD x hx]
      by_cases h : x < m + 1 <;> by_cases h2 : x < m <;> simp [h, h2] <;> omega) (by omega)
    simp only [ordsD, f, List.flatMap_cons]
    have hl : 0 < (ordsD pr N t (D.put m)).length := by
      rcases Nat.eq_zero_or_pos (ordsD pr N t (D.put m)).length with h | h
      · rw [List.getElem?_eq_none (by omega)] at ih
        cases ih
      · exact h
    rw [List.getElem?_append_left (by rw [List.length_map]; exact hl), List.getElem?_map, ih]
    rfl
/-- the steps of what can follow are new ones -/
theorem ordsD_mem : ∀ (t : Nat) (D : Dn) (o : List Nat), o ∈ ordsD pr N t D → o.length = t ∧ (∀ x ∈ o, x < N ∧ D x = false) ∧ o.Nodup
  | 0, D, o, h => by
    simp only [ordsD, List.mem_singleton] at h
    subst h
    exact ⟨rfl, (fun x hx => absurd hx (List.not_mem_nil)), List.nodup_nil⟩
  | t + 1, D, o, h => by
    simp only [ordsD, List.mem_flatMap, List.mem_map] at h
    obtain ⟨s, hs, q, hq, rfl⟩ := h
    obtain ⟨h1, h2⟩ := List.mem_filter.mp hs
    rw [List.mem_range'_1] at h1
    obtain ⟨i1, i2, i3⟩ := ordsD_mem t (D.put s) q hq
    refine ⟨by rw [List.length_cons, i1], fun x hx => ?_, List.nodup_cons.mpr ⟨fun hm => ?_, i3⟩⟩
    · rcases List.mem_cons.mp hx with rfl | hx
      · exact ⟨by omega, (rdy_iff.mp h2).1⟩
      · obtain ⟨j1, j2⟩ := i2 x hx
        simp only [Dn.put, Bool.or_eq_false_iff] at j2
        exact ⟨j1, j2.1⟩
    · have := (i2 s hm).2
      rw [put_same] at this
      cases this
theorem ordsD_nodup : ∀ (t : Nat) (D : Dn), (ordsD pr N t D).Nodup
  | 0, D => by simp [ordsD]
  | t + 1, D => by
    simp only [ordsD]
    have hn : (rdy pr D 0 N).Nodup := (List.nodup_range' (step := 1)).filter _
    generalize rdy pr D 0 N = l at hn ⊢
    induction l with
    | nil => simp
    | cons s r ih =>
      obtain ⟨h1, h2⟩ := List.nodup_cons.mp hn
      rw [List.flatMap_cons]
      refine List.nodup_append.mpr ⟨?_, ih h2, ?_⟩
      · refine List.Pairwise.map _ (fun a b hab => ?_) (ordsD_nodup t (D.put s))
        intro h
        exact hab (List.cons.inj h).2
      · intro a ha b hb hab
        subst hab
        obtain ⟨o, _, rfl⟩ := List.mem_map.mp ha
        obtain ⟨u, hu, hb⟩ := List.mem_flatMap.mp hb
        obtain ⟨o2, _, he⟩ := List.mem_map.mp hb
        have := (List.cons.inj he).1
        subst this
        exact h1 hu
/-- a row whose steps are done one by one, each with nothing left ahead of it -/
def Goes (pr : Nat → Nat → Bool) (N : Nat) : Dn → List Nat → Prop
  | _, [] => True
  | D, s :: r => s < N ∧ rdyB pr D 0 N s = true ∧ Goes pr N (D.put s) r
theorem ordsD_goes : ∀ (t : Nat) (o : List Nat) (D : Dn), o.length = t → (o ∈ ordsD pr N t D ↔ Goes pr N D o)
  | 0, [], D, _ => by simp [ordsD, Goes]
  | 0, s :: r, D, h => by cases h
  | t + 1, [], D, h => by cases h
  | t + 1, s :: r, D, h => by
    have hl : r.length = t := by simpa using h
    simp only [ordsD, List.mem_flatMap, List.mem_map, Goes]
    constructor
    · rintro ⟨s', hs, q, hq, he⟩
      have e1 := (List.cons.inj he).1
      have e2 := (List.cons.inj he).2
      subst e1
      subst e2
      obtain ⟨h1, h2⟩ := List.mem_filter.mp hs
      rw [List.mem_range'_1] at h1
      exact ⟨by omega, h2, (ordsD_goes t q _ hl).mp hq⟩
    · rintro ⟨h1, h2, h3⟩
      exact ⟨s, List.mem_filter.mpr ⟨List.mem_range'_1.mpr ⟨by omega, by omega⟩, h2⟩, r, (ordsD_goes t r _ hl).mpr h3, rfl⟩
end Oo
/-! the number of orders as a product over the nodes -/
namespace Oo
open PySem
abbrev D0 : Dn := fun _ => false
theorem und_D0 (a m : Nat) : und D0 a m = m := by
  have : (List.range' a m).filter (fun x => !D0 x) = List.range' a m := List.filter_eq_self.mpr fun x _ => rfl
  simp only [und, this, List.length_range']
def shf (mk : List (List Nat)) (x : Trip) : Nat := if x.2.1.fx mk x.1 = true then 1 else mlt (x.2.1.ops.map Ex.steps)
def mulN : List Nat → Nat
  | [] => 1
  | a :: r => a * mulN r
theorem mulN_app : ∀ a b : List Nat, mulN (a ++ b) = mulN a * mulN b
  | [], b => by simp [mulN]
  | x :: r, b => by simp only [List.cons_append, mulN, mulN_app r b, Nat.mul_assoc]
theorem ress_szs (mk : List (List Nat)) (D : Dn) : ∀ (os : List Ex) (p : List Nat) (a n : Nat), SP.szs (Ex.ress mk D os p a n) = (skids os p a n).map fun x => und D x.2.2 x.2.1.steps
  | [], p, a, n => rfl
  | e :: r, p, a, n => by
    simp only [Ex.ress, SP.szs, res_sz, skids, List.map_cons, ress_szs mk D r p (a + 1) (n + e.steps)]
theorem skids_ops : ∀ (os : List Ex) (p : List Nat) (a n : Nat), (skids os p a n).map (fun x => x.2.1) = os
  | [], p, a, n => rfl
  | e :: r, p, a, n => by simp only [skids, List.map_cons, skids_ops r]
theorem ress_D0 (mk : List (List Nat)) (os : List Ex) (p : List Nat) (a n : Nat) : SP.szs (Ex.ress mk D0 os p a n) = os.map Ex.steps := by
  rw [ress_szs]
  have h : ((skids os p a n).map fun x => und D0 x.2.2 x.2.1.steps) = ((skids os p a n).map fun x => x.2.1).map Ex.steps := by
    rw [List.map_map]
    exact List.map_congr_left fun x _ => und_D0 _ _
  rw [h, skids_ops]
mutual
theorem spn_cnt (mk : List (List Nat)) : ∀ (e : Ex) (p : List Nat) (n : Nat), mulN ((e.spn p n).map (shf mk)) = (e.res mk D0 p n).cnt
  | .num c, p, n => by
    have : shf mk (p, .num c, n) = 1 := by
      unfold shf
      split <;> rfl
    simp only [Ex.spn, List.map_cons, List.map_nil, mulN, this]
    rfl
  | .nd k os, p, n => by
    simp only [Ex.spn, List.map_cons, mulN, spns_cnt mk os p 0 n, Ex.res, SP.cnt, ress_D0]
    rfl
theorem spns_cnt (mk : List (List Nat)) : ∀ (os : List Ex) (p : List Nat) (a n : Nat), mulN ((Ex.spns os p a n).map (shf mk)) = SP.cnts (Ex.ress mk D0 os p a n)
  | [], p, a, n => rfl
  | e :: r, p, a, n => by
    simp only [Ex.spns, List.map_append, mulN_app, spn_cnt mk e (p ++ [a]) n, spns_cnt mk r p (a + 1) (n + e.steps), Ex.ress, SP.cnts]
end
mutual
/-- a node's steps lie within those of the whole -/
theorem spn_in : ∀ (e : Ex) (p : List Nat) (n : Nat), ∀ x ∈ e.spn p n, n ≤ x.2.2 ∧ x.2.2 + x.2.1.steps ≤ n + e.steps
  | .num c, p, n, x, hx => by
    simp only [Ex.spn, List.mem_singleton] at hx
    subst hx
    exact ⟨Nat.le_refl _, Nat.le_refl _⟩
  | .nd k os, p, n, x, hx => by
    rcases List.mem_cons.mp (show x ∈ (p, Ex.nd k os, n) :: Ex.spns os p 0 n from hx) with rfl | hx
    · exact ⟨Nat.le_refl _, Nat.le_refl _⟩
    · have := spns_in os p 0 n x hx
      simp only [Ex.steps]
      omega
theorem spns_in : ∀ (os : List Ex) (p : List Nat) (a n : Nat), ∀ x ∈ Ex.spns os p a n, n ≤ x.2.2 ∧ x.2.2 + x.2.1.steps ≤ n + Ex.stepss os
  | [], p, a, n, x, hx => by cases hx
  | e :: r, p, a, n, x, hx => by
    simp only [Ex.stepss]
    rcases List.mem_append.mp (show x ∈ e.spn (p ++ [a]) n ++ Ex.spns r p (a + 1) (n + e.steps) from hx) with hx | hx
    · have := spn_in e (p ++ [a]) n x hx
      omega
    · have := spns_in r p (a + 1) (n + e.steps) x hx
      omega
end
mutual
theorem spn_nodes : ∀ (e : Ex) (p : List Nat) (n : Nat), ∀ x ∈ e.spn p n, x.2.1.nodes ≤ e.nodes
  | .num c, p, n, x, hx => by
    simp only [Ex.spn, List.mem_singleton] at hx
    subst hx
    exact Nat.le_refl _
  | .nd k os, p, n, x, hx => by
    rcases List.mem_cons.mp (show x ∈ (p, Ex.nd k os, n) :: Ex.spns os p 0 n from hx) with rfl | hx
    · exact Nat.le_refl _
    · have := spns_nodes os p 0 n x hx
      simp only [Ex.nodes]
      omega
theorem spns_nodes : ∀ (os : List Ex) (p : List Nat) (a n : Nat), ∀ x ∈ Ex.spns os p a n, x.2.1.nodes ≤ Ex.nodess os
  | [], p, a, n, x, hx => by cases hx
  | e :: r, p, a, n, x, hx => by
    simp only [Ex.nodess]
    rcases List.mem_append.mp (show x ∈ e.spn (p ++ [a]) n ++ Ex.spns r p (a + 1) (n + e.steps) from hx) with hx | hx
    · have := spn_nodes e (p ++ [a]) n x hx
      omega
    · have := spns_nodes r p (a + 1) (n + e.steps) x hx
      omega
end
theorem nodes_one : ∀ e : Ex, 1 ≤ e.nodes
  | .num _ => Nat.le_refl _
  | .nd k os => by simp only [Ex.nodes]; omega
theorem len_nodess : ∀ os : List Ex, os.length ≤ Ex.nodess os
  | [] => Nat.le_refl _
  | e :: r => by
    have := len_nodess r
    have := nodes_one e
    simp only [List.length_cons, Ex.nodess]
    omega
theorem len_ops (e : Ex) : e.ops.length ≤ e.nodes := by
  cases e with
  | num c => exact Nat.zero_le _
  | nd k os =>
    have := len_nodess os
    show os.length ≤ _
    simp only [Ex.nodes]
    omega
theorem stepss_map : ∀ os : List Ex, (os.map Ex.steps).sum = Ex.stepss os
  | [] => rfl
  | e :: r => by simp only [List.map_cons, List.sum_cons, Ex.stepss, stepss_map r]
theorem mulN_pos : ∀ {l : List Nat}, (∀ x ∈ l, 0 < x) → 0 < mulN l
  | [], _ => Nat.one_pos
  | a :: r, h => Nat.mul_pos (h a (List.mem_cons_self ..)) (mulN_pos fun x hx => h x (List.mem_cons_of_mem _ hx))
theorem mulN_take {l : List Nat} (h : ∀ x ∈ l, 0 < x) (i : Nat) : mulN (l.take i) ≤ mulN l := by
  have e : mulN l = mulN (l.take i) * mulN (l.drop i) := by rw [← mulN_app, List.take_append_drop]
  rw [e]
  exact Nat.le_mul_of_pos_right _ (mulN_pos fun x hx => h x (List.mem_of_mem_drop hx))
theorem shf_pos (mk : List (List Nat)) (x : Trip) : 0 < shf mk x := by
  unfold shf
  split
  · exact Nat.one_pos
  · exact multi_pos _ _
mutual
theorem grd_guards : ∀ (e : Ex) (p : List Nat) (n : Nat), e.grd = false → ∀ x ∈ e.spn p n, x.2.1.gd = false
  | .num c, p, n, _, x, hx => by
    simp only [Ex.spn, List.mem_singleton] at hx
    subst hx
    rfl
  | .nd k os, p, n, h, x, hx => by
    simp only [Ex.grd, Bool.or_eq_false_iff] at h
    rcases List.mem_cons.mp (show x ∈ (p, Ex.nd k os, n) :: Ex.spns os p 0 n from hx) with rfl | hx
    · exact h.1
    · exact grds_guards os p 0 n h.2 x hx
theorem grds_guards : ∀ (os : List Ex) (p : List Nat) (a n : Nat), Ex.grds os = false → ∀ x ∈ Ex.spns os p a n, x.2.1.gd = false
  | [], p, a, n, _, x, hx => by cases hx
  | e :: r, p, a, n, h, x, hx => by
    simp only [Ex.grds, Bool.or_eq_false_iff] at h
    rcases List.mem_append.mp (show x ∈ e.spn (p ++ [a]) n ++ Ex.spns r p (a + 1) (n + e.steps) from hx) with hx | hx
    · exact grd_guards e (p ++ [a]) n h.1 x hx
    · exact grds_guards r p (a + 1) (n + e.steps) h.2 x hx
end
theorem no_guards {e : Ex} (h : e.grd = false) : e.guards = [] := by
  unfold Ex.guards
  rw [List.filter_eq_nil_iff.mpr fun x hx => by rw [grd_guards e [] 0 h x hx]; exact Bool.noConfusion]
  rfl
end Oo
namespace Oo
open PySem L2
/-! what precedes what precedes precedes -/
mutual
theorem prec_trans {mk : List (List Nat)} : ∀ (e : Ex) (p : List Nat) (n i j k : Nat), e.prec mk p n i j = true → e.prec mk p n j k = true → e.prec mk p n i k = true
  | .num _, p, n, i, j, k, h, _ => by simp [Ex.prec] at h
  | .nd kd os, p, n, i, j, k, h1, h2 => by
    have r1 := prec_rng _ _ _ _ _ h1
    have r2 := prec_rng _ _ _ _ _ h2
    simp only [Ex.steps] at r1 r2
    simp only [Ex.prec, bor, band, inR_iff, decide_eq_true_eq] at h1 h2 ⊢
    rcases h2 with ⟨⟨h2, h3⟩, h4⟩ | h2
    · exact .inl ⟨⟨by omega, by omega⟩, by omega⟩
    · have r3 := precs_rng _ _ _ _ _ _ h2
      rcases h1 with ⟨⟨h1, h5⟩, h6⟩ | h1
      · omega
      · exact .inr (precs_trans os p 0 n i j k h1 h2)
theorem precs_trans {mk : List (List Nat)} {fx g : Bool} : ∀ (os : List Ex) (p : List Nat) (a n i j k : Nat), Ex.precs mk fx g os p a n i j = true → Ex.precs mk fx g os p a n j k = true → Ex.precs mk fx g os p a n i k = true
  | [], p, a, n, i, j, k, h, _ => by simp [Ex.precs] at h
  | e :: r, p, a, n, i, j, k, h1, h2 => by
    simp only [Ex.precs, bor, band, inR_iff] at h1 h2 ⊢
    rcases h1 with (h1 | ⟨⟨f1, h1⟩, h3⟩) | h1
    · have r1 := prec_rng _ _ _ _ _ h1
      rcases h2 with (h2 | ⟨⟨f2, h2⟩, h4⟩) | h2
      · exact .inl (.inl (prec_trans e _ n i j k h1 h2))
      · exact .inl (.inr ⟨⟨f2, by omega⟩, h4⟩)
      · have := precs_rng _ _ _ _ _ _ h2
        omega
    · rcases h2 with (h2 | ⟨⟨f2, h2⟩, h4⟩) | h2
      · have := prec_rng _ _ _ _ _ h2
        omega
      · omega
      · have := precs_rng _ _ _ _ _ _ h2
        exact .inl (.inr ⟨⟨f1, h1⟩, by omega⟩)
    · have r1 := precs_rng _ _ _ _ _ _ h1
      rcases h2 with (h2 | ⟨⟨f2, h2⟩, h4⟩) | h2
      · have := prec_rng _ _ _ _ _ h2
        omega
      · omega
      · exact .inr (precs_trans r p (a + 1) _ i j k h1 h2)
end
mutual
theorem opn_prec {mk : List (List Nat)} : ∀ (e : Ex) (p : List Nat) (n i j : Nat), e.opn mk p n j i = true → e.prec mk p n i j = false
  | .num _, p, n, i, j, h => by simp [Ex.opn] at h
  | .nd k os, p, n, i, j, h => by
    have r := opn_rng _ _ _ _ _ h
    simp only [Ex.opn] at h
    have r2 := opns_rng _ _ _ _ _ _ h
    simp only [Ex.prec]
    rw [opns_precs os p 0 n i j h, Bool.or_false, inR_not (n := n + Ex.stepss os) (i := j) (by omega), Bool.and_false, Bool.false_and]
theorem opns_precs {mk : List (List Nat)} {fx g : Bool} : ∀ (os : List Ex) (p : List Nat) (a n i j : Nat), Ex.opns mk fx os p a n j i = true → Ex.precs mk fx g os p a n i j = false
  | [], p, a, n, i, j, h => by simp [Ex.opns] at h
  | e :: r, p, a, n, i, j, h => by
    simp only [Ex.opns, bor, band, inR_iff] at h
    simp only [Ex.precs]
    rcases h with (h | ⟨hf, h⟩) | h
    · have r1 := opn_rng _ _ _ _ _ h
      rw [opn_prec e _ n i j h, precs_no (by omega), inR_not (n := n + e.steps) (i := j) (by omega), Bool.and_false]
      rfl
    · have hf : fx = false := by cases fx <;> simp at hf ⊢
      subst hf
      rw [prec_no (by omega), precs_no (by omega)]
      rfl
    · have r1 := opns_rng _ _ _ _ _ _ h
      rw [opns_precs r p (a + 1) _ i j h, prec_no (by omega), inR_not (n := n) (i := i) (by omega), Bool.and_false]
      rfl
end
mutual
theorem prec_mono {mk mk' : List (List Nat)} (hs : ∀ p ∈ mk, p ∈ mk') : ∀ (e : Ex) (p : List Nat) (n i j : Nat), e.prec mk p n i j = true → e.prec mk' p n i j = true
  | .num _, p, n, i, j, h => by simp [Ex.prec] at h
  | .nd k os, p, n, i, j, h => by
    simp only [Ex.prec, bor] at h ⊢
    refine h.imp id fun h => precs_mono hs (fun hf => ?_) os p 0 n i j h
    rw [bor] at hf ⊢
    exact hf.imp id fun h => decide_eq_true (hs _ (of_decide_eq_true h))
theorem precs_mono {mk mk' : List (List Nat)} {fx fx' g : Bool} (hs : ∀ p ∈ mk, p ∈ mk') (hf : fx = true → fx' = true) : ∀ (os : List Ex) (p : List Nat) (a n i j : Nat), Ex.precs mk fx g os p a n i j = true → Ex.precs mk' fx' g os p a n i j = true
  | [], p, a, n, i, j, h => by simp [Ex.precs] at h
  | e :: r, p, a, n, i, j, h => by
    simp only [Ex.precs, bor, band] at h ⊢
    rcases h with (h | ⟨⟨⟨h1, h2⟩, h3⟩, h4⟩) | h
    · exact .inl (.inl (prec_mono hs e _ n i j h))
    · exact .inl (.inr ⟨⟨⟨hf h1, h2⟩, h3⟩, h4⟩)
    · exact .inr (precs_mono hs hf r p (a + 1) _ i j h)
end
/-- all its open nodes are among the points -/
def AllIn (mk : List (List Nat)) (e : Ex) (p : List Nat) : Prop := ∀ q ∈ e.opens p, q ∈ mk
theorem allIn_kid {mk : List (List Nat)} {k : Kd} {os : List Ex} {p : List Nat} (h : AllIn mk (.nd k os) p) {a : Nat} (ha : a < os.length) : AllIn mk os[a] (p ++ [a]) := by
  intro q hq
  refine h q ?_
  unfold Ex.opens at hq ⊢
  obtain ⟨x, hx, rfl⟩ := List.mem_map.mp hq
  obtain ⟨h1, h2⟩ := List.mem_filter.mp hx
  refine List.mem_map.mpr ⟨x, List.mem_filter.mpr ⟨?_, h2⟩, rfl⟩
  simp only [Ex.pre]
  refine List.mem_cons_of_mem _ ?_
  have key : ∀ (os : List Ex) (j a : Nat) (ha : a < os.length), ∀ x ∈ os[a].pre (p ++ [j + a]), x ∈ Ex.pres os p j := by
    intro os
    induction os with
    | nil => intro j a ha; exact absurd ha (by simp)
    | cons e r ih =>
      intro j a ha x hx
      simp only [Ex.pres]
      cases a with
      | zero => exact List.mem_append_left _ hx
      | succ a =>
        refine List.mem_append_right _ (ih (j + 1) a (by simpa using ha) x ?_)
        rw [show j + 1 + a = j + (a + 1) by omega]
        exact hx
  have := key os 0 a ha x (by rw [Nat.zero_add]; exact h1)
  exact this
theorem grds_get : ∀ (os : List Ex), Ex.grds os = false → ∀ (a : Nat) (h : a < os.length), os[a].grd = false
  | [], _, a, h => absurd h (by simp)
  | e :: r, hg, a, h => by
    simp only [Ex.grds, Bool.or_eq_false_iff] at hg
    cases a with
    | zero => exact hg.1
    | succ a => exact grds_get r hg.2 a (by simpa using h)
mutual
theorem prec_all {mk : List (List Nat)} {ps : List Str} {fns : List Fn} : ∀ (e : Ex) (p : List Nat) (n i j : Nat), ExW ps fns e → e.grd = false → AllIn mk e p → n ≤ i → i < j → j < n + e.steps → e.prec mk p n i j = true
  | .num _, p, n, i, j, _, _, _, h1, h2, h3 => by simp only [Ex.steps] at h3; omega
  | .nd k os, p, n, i, j, hw, hg, ha, h1, h2, h3 => by
    unfold ExW at hw
    simp only [Ex.grd, Bool.or_eq_false_iff] at hg
    simp only [Ex.steps] at h3
    simp only [Ex.prec, bor, band, inR_iff, decide_eq_true_eq]
    by_cases hj : n + Ex.stepss os ≤ j
    · exact .inl ⟨⟨by omega, by omega⟩, h2⟩
    · refine .inr ?_
      rw [hg.1]
      refine precs_all os p 0 n i j hw.2 hg.2 (fun a h => by rw [Nat.zero_add]; exact allIn_kid ha h) ?_ h1 h2 (by omega)
      have hop : isOpenE (.nd k os) = true → decide (p ∈ mk) = true := fun ho => decide_eq_true (ha p (by
        unfold Ex.opens
        exact List.mem_map.mpr ⟨(p, .nd k os), List.mem_filter.mpr ⟨by simp [Ex.pre], ho⟩, rfl⟩))
      have hk := hw.1
      cases k with
      | read x => exact .inr (by cases os <;> simp [KdW] at hk ⊢)
      | store x => exact .inr (by match os, hk with | [_], _ => simp)
      | step x b wh => exact .inr (by cases os <;> simp [KdW] at hk ⊢)
      | op s => exact .inl (by rw [hop rfl, Bool.or_true])
      | call f =>
        by_cases hl : os.length ≤ 1
        · exact .inr hl
        · exact .inl (by rw [hop (by show decide (1 < os.length) = true; exact decide_eq_true (by omega)), Bool.or_true])
      | thn => exact .inl rfl
      | and_ => exact absurd hg.1 (by decide)
      | or_ => exact absurd hg.1 (by decide)
      | cho => exact absurd hg.1 (by decide)
theorem precs_all {mk : List (List Nat)} {ps : List Str} {fns : List Fn} {fx : Bool} : ∀ (os : List Ex) (p : List Nat) (a0 n i j : Nat), ExWs ps fns os → Ex.grds os = false → (∀ (a : Nat) (h : a < os.length), AllIn mk os[a] (p ++ [a0 + a])) → fx = true ∨ os.length ≤ 1 → n ≤ i → i < j → j < n + Ex.stepss os → Ex.precs mk fx false os p a0 n i j = true
  | [], p, a0, n, i, j, _, _, _, _, h1, h2, h3 => by simp only [Ex.stepss] at h3; omega
  | e :: r, p, a0, n, i, j, hw, hg, ha, hf, h1, h2, h3 => by
    unfold ExWs at hw
    simp only [Ex.grds, Bool.or_eq_false_iff] at hg
    simp only [Ex.stepss] at h3
    simp only [Ex.precs, bor, band, inR_iff, Bool.not_false, Bool.true_or]
    by_cases hj : j < n + e.steps
    · exact .inl (.inl (prec_all e _ n i j hw.1 hg.1 (ha 0 (by simp)) h1 h2 hj))
    · by_cases hi : i < n + e.steps
      · refine .inl (.inr ⟨⟨⟨?_, trivial⟩, by omega⟩, by omega⟩)
        rcases hf with hf | hf
        · exact hf
        · have : r = [] := List.eq_nil_of_length_eq_zero (by rw [List.length_cons] at hf; omega)
          subst this
          simp only [Ex.stepss] at h3
          omega
      · refine .inr (precs_all r p (a0 + 1) _ i j hw.2 hg.2 (fun a h => ?_) (hf.imp id fun h => by rw [List.length_cons] at h; omega) (by omega) h2 (by omega))
        have := ha (a + 1) (by simpa using h)
        rw [show a0 + 1 + a = a0 + (a + 1) by omega]
        exact this
end
/-! a step at a path that leads to another step's path -/
mutual
theorem stepL_pre (fns : List Fn) : ∀ (e : Ex) (p : List Nat), ∀ r ∈ e.stepL fns p, p <+: r.path
  | .num _, p, r, h => by simp [Ex.stepL] at h
  | .nd k os, p, r, h => by
    simp only [Ex.stepL] at h
    rcases List.mem_append.mp h with h | h
    · obtain ⟨a, ha⟩ := stepLs_pre fns os p 0 r h
      exact (List.prefix_append p [a]).trans ha.2
    · rw [own_path fns p k r h]
      exact List.prefix_rfl
theorem stepLs_pre (fns : List Fn) : ∀ (os : List Ex) (p : List Nat) (j : Nat), ∀ r ∈ Ex.stepLs fns os p j, ∃ a, j ≤ a ∧ p ++ [a] <+: r.path
  | [], p, j, r, h => by simp [Ex.stepLs] at h
  | e :: t, p, j, r, h => by
    simp only [Ex.stepLs] at h
    rcases List.mem_append.mp h with h | h
    · exact ⟨j, Nat.le_refl _, stepL_pre fns e _ r h⟩
    · obtain ⟨a, h1, h2⟩ := stepLs_pre fns t p (j + 1) r h
      exact ⟨a, by omega, h2⟩
theorem own_path (fns : List Fn) (p : List Nat) (k : Kd) (r : StepR) (h : r ∈ ownSteps fns p k) : r.path = p := by
  cases k with
  | call f =>
    simp only [ownSteps, List.mem_map] at h
    obtain ⟨fn, _, rfl⟩ := h
    rfl
  | read x => simp only [ownSteps, List.mem_singleton] at h; rw [h]
  | store x => simp only [ownSteps, List.mem_singleton] at h; rw [h]
  | step x b wh =>
    simp only [ownSteps, List.mem_cons, List.not_mem_nil, or_false] at h
    rcases h with h | h <;> rw [h]
  | _ => simp [ownSteps] at h
end
theorem pre_apart {p q : List Nat} {a b : Nat} (h : a ≠ b) (h1 : p ++ [a] <+: q) (h2 : p ++ [b] <+: q) : False := by
  rcases List.prefix_or_prefix_of_prefix h1 h2 with h3 | h3
  · rw [List.prefix_append_right_inj, List.cons_prefix_cons] at h3
    exact h h3.1
  · rw [List.prefix_append_right_inj, List.cons_prefix_cons] at h3
    exact h h3.1.symm
mutual
theorem prec_pre {mk : List (List Nat)} {ps : List Str} {fns : List Fn} (kw : KitW ps fns) : ∀ (e : Ex) (p : List Nat) (n i j : Nat) (r s : StepR), ExW ps fns e → (e.stepL fns p)[i]? = some r → (e.stepL fns p)[j]? = some s → i < j → s.path <+: r.path → e.prec mk p n (n + i) (n + j) = true
  | .num _, p, n, i, j, r, s, _, h, _, _, _ => by simp [Ex.stepL] at h
  | .nd k os, p, n, i, j, r, s, hw, h1, h2, hij, hp => by
    have hl := stepL_steps kw (.nd k os) p hw
    have hjl := (List.getElem?_eq_some_iff.mp h2).1
    unfold ExW at hw
    have hls := stepLs_steps kw os p 0 hw.2
    simp only [Ex.stepL] at h1 h2
    simp only [Ex.steps] at hl
    simp only [Ex.prec, bor, band, inR_iff, decide_eq_true_eq]
    by_cases hj : j < (Ex.stepLs fns os p 0).length
    · refine .inr ?_
      rw [List.getElem?_append_left hj] at h2
      rw [List.getElem?_append_left (by omega)] at h1
      exact precs_pre kw os p 0 n i j r s hw.2 h1 h2 hij hp
    · exact .inl ⟨⟨by omega, by omega⟩, by omega⟩
theorem precs_pre {mk : List (List Nat)} {ps : List Str} {fns : List Fn} (kw : KitW ps fns) {fx g : Bool} : ∀ (os : List Ex) (p : List Nat) (a n i j : Nat) (r s : StepR), ExWs ps fns os → (Ex.stepLs fns os p a)[i]? = some r → (Ex.stepLs fns os p a)[j]? = some s → i < j → s.path <+: r.path → Ex.precs mk fx g os p a n (n + i) (n + j) = true
  | [], p, a, n, i, j, r, s, _, h, _, _, _ => by simp [Ex.stepLs] at h
  | e :: t, p, a, n, i, j, r, s, hw, h1, h2, hij, hp => by
    unfold ExWs at hw
    have hl := stepL_steps kw e (p ++ [a]) hw.1
    simp only [Ex.stepLs] at h1 h2
    simp only [Ex.precs, bor]
    by_cases hj : j < (Ex.stepL fns e (p ++ [a])).length
    · rw [List.getElem?_append_left hj] at h2
      rw [List.getElem?_append_left (by omega)] at h1
      exact .inl (.inl (prec_pre kw e _ n i j r s hw.1 h1 h2 hij hp))
    · rw [List.getElem?_append_right (by omega)] at h2
      by_cases hi : i < (Ex.stepL fns e (p ++ [a])).length
      · rw [List.getElem?_append_left hi] at h1
        have g1 := stepL_pre fns e _ r (List.mem_of_getElem? h1)
        obtain ⟨b, hb, g2⟩ := stepLs_pre fns t p (a + 1) s (List.mem_of_getElem? h2)
        exact (pre_apart (show a ≠ b by omega) g1 (g2.trans hp)).elim
      · rw [List.getElem?_append_right (by omega)] at h1
        refine .inr ?_
        have := precs_pre (mk := mk) kw (fx := fx) (g := g) t p (a + 1) (n + e.steps) (i - (Ex.stepL fns e (p ++ [a])).length) (j - (Ex.stepL fns e (p ++ [a])).length) r s hw.2 h1 h2 (by omega) hp
        rw [show n + e.steps + (i - (Ex.stepL fns e (p ++ [a])).length) = n + i by omega, show n + e.steps + (j - (Ex.stepL fns e (p ++ [a])).length) = n + j by omega] at this
        exact this
end
end Oo
/-! orders in which two open steps are neighbours; preceding by all orders -/
namespace Oo
open PySem
/-- what is done once a row is -/
def putL (D : Dn) (o : List Nat) : Dn := fun x => D x || decide (x ∈ o)
theorem putL_cons (D : Dn) (s : Nat) (o : List Nat) : putL (D.put s) o = putL D (s :: o) := by
  funext x
  simp only [putL, Dn.put, List.mem_cons, Bool.decide_or]
  cases D x <;> simp
theorem goes_app {pr : Nat → Nat → Bool} {N : Nat} : ∀ {a b : List Nat} {D : Dn}, Goes pr N D a → Goes pr N (putL D a) b → Goes pr N D (a ++ b)
  | [], b, D, _, h => by
    have : putL D [] = D := by
      funext x
      simp [putL]
    rw [this] at h
    exact h
  | s :: a, b, D, h, k => ⟨h.1, h.2.1, goes_app h.2.2 (by rw [putL_cons]; exact k)⟩
theorem goes_split {pr : Nat → Nat → Bool} {N : Nat} : ∀ {a b : List Nat} {D : Dn}, Goes pr N D (a ++ b) → Goes pr N (putL D a) b
  | [], b, D, h => by
    have : putL D [] = D := by
      funext x
      simp [putL]
    rw [this]
    exact h
  | s :: a, b, D, h => by
    rw [← putL_cons]
    exact goes_split h.2.2
theorem goes_mem {pr : Nat → Nat → Bool} {N : Nat} : ∀ {o : List Nat} {D : Dn}, Goes pr N D o → o.Nodup ∧ ∀ x ∈ o, x < N ∧ D x = false
  | [], D, _ => ⟨List.nodup_nil, fun x h => by cases h⟩
  | s :: o, D, h => by
    obtain ⟨h1, h2, h3⟩ := h
    obtain ⟨k1, k2⟩ := goes_mem h3
    have hs := (rdy_iff.mp h2).1
    refine ⟨List.nodup_cons.mpr ⟨fun hm => ?_, k1⟩, fun x hx => ?_⟩
    · have := (k2 s hm).2
      rw [put_same] at this
      cases this
    · rcases List.mem_cons.mp hx with rfl | hx
      · exact ⟨h1, hs⟩
      · have := k2 x hx
        refine ⟨this.1, ?_⟩
        have h9 := this.2
        simp only [Dn.put, Bool.or_eq_false_iff] at h9
        exact h9.1
/-- a set of steps, ascending, each with all that precedes it within the set or done -/
theorem goes_filter {pr : Nat → Nat → Bool} {N : Nat} {S : Nat → Bool} (lt : ∀ i j, pr i j = true → i < j) : ∀ (m k : Nat) (D : Dn), k + m = N → (∀ x, S x = true → x < k → D x = true) → (∀ x, S x = true → k ≤ x → D x = false) → (∀ x y, S x = true → pr y x = true → D y = true ∨ S y = true) → Goes pr N D ((List.range' k m).filter S)
  | 0, k, D, _, _, _, _ => trivial
  | m + 1, k, D, e, h1, h2, h3 => by
    rw [List.range'_succ, List.filter_cons]
    cases hk : S k with
    | false =>
      rw [if_neg (by simp)]
      refine goes_filter lt m (k + 1) D (by omega) (fun x hx hl => ?_) (fun x hx hl => h2 x hx (by omega)) h3
      by_cases z : x = k
      · rw [z, hk] at hx
        cases hx
      · exact h1 x hx (by omega)
    | true =>
      rw [if_pos rfl]
      refine ⟨by omega, rdy_iff.mpr ⟨h2 k hk (Nat.le_refl _), fun i _ _ hp => ?_⟩, goes_filter lt m (k + 1) (D.put k) (by omega) (fun x hx hl => ?_) (fun x hx hl => ?_) fun x y hx hp => ?_⟩
      · rcases h3 k i hk hp with z | z
        · exact z
        · exact h1 i z (lt i k hp)
      · by_cases z : x = k
        · rw [z]
          exact put_same D k
        · rw [put_other D z]
          exact h1 x hx (by omega)
      · rw [put_other D (show x ≠ k by omega)]
        exact h2 x hx (by omega)
      · rcases h3 x y hx hp with z | z
        · refine .inl ?_
          simp only [Dn.put, z, Bool.true_or]
        · exact .inr z
/-- two open steps stand next to each other in some order -/
theorem next_to {pr : Nat → Nat → Bool} {N : Nat} (lt : ∀ i j, pr i j = true → i < j) (tr : ∀ i j k, pr i j = true → pr j k = true → pr i k = true) {i j : Nat} (hi : i < N) (hj : j < N) (hij : i ≠ j) (h1 : pr i j = false) (h2 : pr j i = false) :
    ∃ a b : List Nat, Goes pr N D0 (a ++ i :: j :: b) ∧ (a ++ i :: j :: b).length = N := by
  have irr : ∀ x, pr x x = false := fun x => by
    cases h : pr x x with
    | false => rfl
    | true => exact absurd (lt x x h) (Nat.lt_irrefl _)
  let S1 : Nat → Bool := fun x => pr x i || pr x j
  let S3 : Nat → Bool := fun x => !S1 x && !decide (x = i) && !decide (x = j)
  have s1i : S1 i = false := by simp only [S1, irr, h1, Bool.or_self]
  have s1j : S1 j = false := by simp only [S1, irr, h2, Bool.or_self]
  have hm1 : ∀ x, x < N → (x ∈ (List.range' 0 N).filter S1 ↔ S1 x = true) := fun x hx => by
    rw [List.mem_filter, List.mem_range'_1]
    exact ⟨fun z => z.2, fun z => ⟨by omega, z⟩⟩
  have g1 : Goes pr N D0 ((List.range' 0 N).filter S1) := goes_filter lt N 0 D0 (by omega) (fun x _ z => absurd z (Nat.not_lt_zero _)) (fun _ _ _ => rfl) fun x y hx hp => .inr (by
    simp only [S1, Bool.or_eq_true] at hx ⊢
    rcases hx with z | z
    · exact .inl (tr y x i hp z)
    · exact .inr (tr y x j hp z))
  generalize hA : (List.range' 0 N).filter S1 = A at g1 hm1
  have dA : ∀ x, x < N → putL D0 A x = S1 x := fun x hx => by
    simp only [putL, Bool.false_or]
    exact beq_of_iff (by rw [decide_eq_true_eq]; exact hm1 x hx)
  have g2 : Goes pr N (putL D0 A) [i, j] := by
    refine ⟨hi, rdy_iff.mpr ⟨by rw [dA i hi]; exact s1i, fun x _ hx hp => ?_⟩, hj, rdy_iff.mpr ⟨?_, fun x _ hx hp => ?_⟩, trivial⟩
    · rw [dA x (by omega)]
      simp only [S1, hp, Bool.true_or]
    · rw [put_other _ (Ne.symm hij), dA j hj]
      exact s1j
    · simp only [Dn.put, dA x (by omega), S1, hp, Bool.or_true, Bool.true_or]
  have d2 : ∀ x, x < N → putL (putL D0 A) [i, j] x = (S1 x || decide (x = i) || decide (x = j)) := fun x hx => by
    show (putL D0 A x || decide (x ∈ [i, j])) = _
    rw [dA x hx]
    simp only [List.mem_cons, List.not_mem_nil, or_false, Bool.decide_or, Bool.or_assoc]
  have g3 : Goes pr N (putL (putL D0 A) [i, j]) ((List.range' 0 N).filter S3) := by
    have hc : (List.range' 0 N).filter S3 = (List.range' 0 N).filter fun x => S3 x && decide (x < N) := List.filter_congr fun x hx => by
      rw [List.mem_range'_1] at hx
      rw [decide_eq_true (by omega), Bool.and_true]
    rw [hc]
    refine goes_filter lt N 0 _ (by omega) (fun x _ z => absurd z (Nat.not_lt_zero _)) (fun x hx _ => ?_) fun x y hx hp => ?_
    · rw [Bool.and_eq_true, decide_eq_true_eq] at hx
      rw [d2 x hx.2]
      have := hx.1
      simp only [S3, Bool.and_eq_true, Bool.not_eq_true'] at this
      rw [this.1.1, this.1.2, this.2]
      rfl
    · rw [Bool.and_eq_true, decide_eq_true_eq] at hx
      have hy : y < N := Nat.lt_trans (lt y x hp) hx.2
      rw [d2 y hy, decide_eq_true hy, Bool.and_true]
      cases z : (S1 y || decide (y = i) || decide (y = j)) with
      | true => exact .inl rfl
      | false =>
        refine .inr ?_
        simp only [Bool.or_eq_false_iff] at z
        simp only [S3, z.1.1, z.1.2, z.2]
        rfl
  refine ⟨A, (List.range' 0 N).filter S3, ?_, ?_⟩
  · have := goes_app (a := A ++ [i, j]) (b := (List.range' 0 N).filter S3) (goes_app g1 g2) (by
      have e : putL D0 (A ++ [i, j]) = putL (putL D0 A) [i, j] := by
        funext x
        simp only [putL, List.mem_append, Bool.decide_or, Bool.or_assoc]
      rw [e]
      exact g3)
    rw [List.append_assoc] at this
    exact this
  · have hg := goes_app (a := A ++ [i, j]) (b := (List.range' 0 N).filter S3) (goes_app g1 g2) (by
      have e : putL D0 (A ++ [i, j]) = putL (putL D0 A) [i, j] := by
        funext x
        simp only [putL, List.mem_append, Bool.decide_or, Bool.or_assoc]
      rw [e]
      exact g3)
    rw [List.append_assoc] at hg
    have hg : Goes pr N D0 (A ++ i :: j :: (List.range' 0 N).filter S3) := hg
    obtain ⟨n1, n2⟩ := goes_mem hg
    have hp : (A ++ i :: j :: (List.range' 0 N).filter S3).Perm (List.range N) := by
      refine (List.perm_ext_iff_of_nodup n1 List.nodup_range).mpr fun x => ⟨fun hx => List.mem_range.mpr (n2 x hx).1, fun hx => ?_⟩
      have hx' := List.mem_range.mp hx
      rw [List.mem_append, List.mem_cons, List.mem_cons, hm1 x hx', List.mem_filter, List.mem_range'_1]
      cases z1 : S1 x with
      | true => exact .inl rfl
      | false =>
        by_cases z2 : x = i
        · exact .inr (.inl z2)
        · by_cases z3 : x = j
          · exact .inr (.inr (.inl z3))
          · refine .inr (.inr (.inr ⟨by omega, ?_⟩))
            simp only [S3, z1, decide_eq_false z2, decide_eq_false z3]
            rfl
    rw [hp.length_eq, List.length_range]
end Oo
/-! two steps, found by their paths -/
namespace Oo
open PySem L2
theorem stepLs_get {ps : List Str} {fns : List Fn} (kw : KitW ps fns) (p : List Nat) : ∀ (os : List Ex) (j0 a i : Nat), ExWs ps fns os → ∀ (h : a < os.length), Ex.stepss (os.take a) ≤ i → i < Ex.stepss (os.take a) + os[a].steps →
    (Ex.stepLs fns os p j0)[i]? = (os[a].stepL fns (p ++ [j0 + a]))[i - Ex.stepss (os.take a)]?
  | [], j0, a, i, hw, h, h1, h2 => absurd h (by simp)
  | e :: t, j0, 0, i, hw, h, h1, h2 => by
    unfold ExWs at hw
    have hl := stepL_steps kw e (p ++ [j0]) hw.1
    simp only [List.take_zero, Ex.stepss, List.getElem_cons_zero, Nat.zero_add] at h2
    simp only [Ex.stepLs, List.take_zero, Ex.stepss, List.getElem_cons_zero, Nat.sub_zero, Nat.add_zero]
    rw [List.getElem?_append_left (by omega)]
  | e :: t, j0, a + 1, i, hw, h, h1, h2 => by
    unfold ExWs at hw
    have hl := stepL_steps kw e (p ++ [j0]) hw.1
    simp only [List.take_succ_cons, Ex.stepss, List.getElem_cons_succ] at h1 h2
    simp only [Ex.stepLs, List.take_succ_cons, Ex.stepss, List.getElem_cons_succ]
    rw [List.getElem?_append_right (by omega), stepLs_get kw p t (j0 + 1) a (i - (Ex.stepL fns e (p ++ [j0])).length) hw.2 (by simpa using h) (by omega) (by omega), hl]
    rw [show j0 + 1 + a = j0 + (a + 1) by omega, show i - e.steps - Ex.stepss (List.take a t) = i - (e.steps + Ex.stepss (List.take a t)) by omega]
theorem take_mono (os : List Ex) {a b : Nat} (h : a ≤ b) : Ex.stepss (os.take a) ≤ Ex.stepss (os.take b) := by
  have := stepss_take_le (os.take b) a
  rwa [List.take_take, Nat.min_eq_left h] at this
theorem child_one (os : List Ex) (n j : Nat) {x y : Nat} (hx : x < os.length) (hy : y < os.length) (x1 : n + Ex.stepss (os.take x) ≤ j) (x2 : j < n + Ex.stepss (os.take x) + os[x].steps) (y1 : n + Ex.stepss (os.take y) ≤ j) (y2 : j < n + Ex.stepss (os.take y) + os[y].steps) : x = y := by
  rcases Nat.lt_trichotomy x y with h | h | h
  · have h1 := take_mono os (show x + 1 ≤ y from h)
    rw [stepss_take_succ os x hx] at h1
    omega
  · exact h
  · have h1 := take_mono os (show y + 1 ≤ x from h)
    rw [stepss_take_succ os y hy] at h1
    omega
/-- the subtree d at c, in which both steps lie; n its first number -/
structure Both (ps : List Str) (fns : List Fn) (e : Ex) (mk : List (List Nat)) (i j : Nat) (r s : StepR) (c : List Nat) (d : Ex) (n : Nat) : Prop where
  w : ExW ps fns d
  ni : n ≤ i
  ij : i < j
  jn : j < n + d.steps
  ri : (d.stepL fns c)[i - n]? = some r
  sj : (d.stepL fns c)[j - n]? = some s
  o : e.opn mk [] 0 j i = d.opn mk c n j i
theorem Both.start {ps : List Str} {fns : List Fn} {e : Ex} {mk : List (List Nat)} {i j : Nat} {r s : StepR} (w : ExW ps fns e) (ij : i < j) (jn : j < e.steps) (ri : (e.stepL fns [])[i]? = some r) (sj : (e.stepL fns [])[j]? = some s) : Both ps fns e mk i j r s [] e 0 :=
  ⟨w, Nat.zero_le _, ij, by omega, ri, sj, rfl⟩
theorem Both.pre {ps : List Str} {fns : List Fn} {e : Ex} {mk : List (List Nat)} {i j : Nat} {r s : StepR} {c : List Nat} {d : Ex} {n : Nat} (b : Both ps fns e mk i j r s c d n) : c <+: r.path ∧ c <+: s.path :=
  ⟨stepL_pre fns d c r (List.mem_of_getElem? b.ri), stepL_pre fns d c s (List.mem_of_getElem? b.sj)⟩
/-- the later step is the node's own -/
theorem Both.own {ps : List Str} {fns : List Fn} {e : Ex} {mk : List (List Nat)} {i j : Nat} {r s : StepR} {c : List Nat} {d : Ex} {n : Nat} (kw : KitW ps fns) (b : Both ps fns e mk i j r s c d n) (h : s.path = c) : e.opn mk [] 0 j i = false := by
  rw [b.o]
  have jn := b.jn
  have ij := b.ij
  have ni := b.ni
  cases d with
  | num v => simp only [Ex.steps] at jn; omega
  | nd k os =>
    have w := b.w
    unfold ExW at w
    have hl := stepLs_steps kw os c 0 w.2
    simp only [Ex.steps] at jn
    by_cases hj : j < n + Ex.stepss os
    · exfalso
      have sj := b.sj
      simp only [Ex.stepL] at sj
      rw [List.getElem?_append_left (by omega)] at sj
      obtain ⟨a, _, ha⟩ := stepLs_pre fns os c 0 s (List.mem_of_getElem? sj)
      rw [h] at ha
      have := ha.length_le
      rw [List.length_append, List.length_singleton] at this
      omega
    · cases q : (Ex.nd k os).opn mk c n j i with
      | false => rfl
      | true =>
        have := opn_rng _ _ _ _ _ q
        simp only [Ex.opn] at q
        have := opns_rng _ _ _ _ _ _ q
        omega
theorem Both.down {ps : List Str} {fns : List Fn} {e : Ex} {mk : List (List Nat)} {i j : Nat} {r s : StepR} {c : List Nat} {d : Ex} {n : Nat} (kw : KitW ps fns) (b : Both ps fns e mk i j r s c d n) (h : s.path ≠ c) :
    ∃ k os, ∃ x y : Nat, d = .nd k os ∧ c ++ [x] <+: r.path ∧ c ++ [y] <+: s.path ∧ ∃ hx : x < os.length, ∃ hy : y < os.length, (x = y → Both ps fns e mk i j r s (c ++ [x]) os[x] (n + Ex.stepss (os.take x))) ∧ (x ≠ y → e.opn mk [] 0 j i = !(k.fixd || decide (c ∈ mk))) := by
  have jn := b.jn
  have ij := b.ij
  have ni := b.ni
  cases d with
  | num v => simp only [Ex.steps] at jn; omega
  | nd k os =>
    have w := b.w
    unfold ExW at w
    have hl := stepLs_steps kw os c 0 w.2
    simp only [Ex.steps] at jn
    have ri := b.ri
    have sj := b.sj
    simp only [Ex.stepL] at ri sj
    by_cases hj : j < n + Ex.stepss os
    · rw [List.getElem?_append_left (by omega)] at ri sj
      obtain ⟨x, hx, _, x1, x2⟩ := in_child os n 0 (Nat.zero_le _) i (by simp [Ex.stepss]; omega) (by omega)
      obtain ⟨y, hy, _, y1, y2⟩ := in_child os n 0 (Nat.zero_le _) j (by simp [Ex.stepss]; omega) (by omega)
      have gi := stepLs_get kw c os 0 x (i - n) w.2 hx (by omega) (by omega)
      have gj := stepLs_get kw c os 0 y (j - n) w.2 hy (by omega) (by omega)
      rw [gi, Nat.zero_add] at ri
      rw [gj, Nat.zero_add] at sj
      have cx := stepss_child os x hx
      have cy := stepss_child os y hy
      have oc := opn_child (mk := mk) (e := .nd k os) (p := c) (n := n) (a := x) (i := j) (j := i) hx x1 x2
      refine ⟨k, os, x, y, rfl, stepL_pre fns _ _ r (List.mem_of_getElem? ri), stepL_pre fns _ _ s (List.mem_of_getElem? sj), hx, hy, fun hxy => ?_, fun hxy => ?_⟩
      · subst hxy
        refine ⟨ExWs.get w.2 x hx, x1, ij, y2, ?_, ?_, ?_⟩
        · rw [← ri]; congr 1; omega
        · rw [← sj]; congr 1; omega
        · rw [b.o, oc]
          simp only [Ex.ops]
          rw [inR_iff.mpr (show n + Ex.stepss (os.take x) ≤ j ∧ j < n + Ex.stepss (os.take x) + os[x].steps by omega), Bool.not_true, Bool.and_false, Bool.and_false, Bool.or_false]
      · rw [b.o, oc]
        simp only [Ex.ops, Ex.fx]
        have out : ¬ (n + Ex.stepss (os.take x) ≤ j ∧ j < n + Ex.stepss (os.take x) + os[x].steps) := fun z => hxy (child_one os n j hx hy z.1 z.2 y1 y2)
        rw [opn_no (fun z => out ⟨z.1, z.2.1⟩), inR_not out, inR_iff.mpr (show n ≤ j ∧ j < n + Ex.stepss os by omega), Bool.false_or, Bool.not_false, Bool.and_true, Bool.and_true]
    · exfalso
      rw [List.getElem?_append_right (by omega)] at sj
      exact h (own_path fns c k s (List.mem_of_getElem? sj))
end Oo
/-! whether one step precedes another, seen from the node at which their paths part -/
namespace Oo
open PySem L2
section
variable {ps : List Str} {fns : List Fn} {e : Ex} {mk : List (List Nat)} {i j : Nat} {r s : StepR} {c : List Nat} {d : Ex} {n : Nat}
theorem Both.last (kw : KitW ps fns) (b : Both ps fns e mk i j r s c d n) (h : s.path = c) : d.prec mk c n i j = true := by
  have h1 := b.ni
  have h2 := b.ij
  have := prec_pre (mk := mk) kw d c n (i - n) (j - n) r s b.w b.ri b.sj (by omega) (by rw [h]; exact b.pre.1)
  rwa [show n + (i - n) = i by omega, show n + (j - n) = j by omega] at this
theorem Both.part {k : Kd} {os : List Ex} (kw : KitW ps fns) (b : Both ps fns e mk i j r s c (.nd k os) n) {x y : Nat} (hx : x < os.length) (hy : y < os.length) (px : c ++ [x] <+: r.path) (py : c ++ [y] <+: s.path) :
    (x = y → (Ex.nd k os).prec mk c n i j = os[x].prec mk (c ++ [x]) (n + Ex.stepss (os.take x)) i j) ∧ (x ≠ y → x < y ∧ (Ex.nd k os).prec mk c n i j = ((k.fixd || decide (c ∈ mk)) && (!k.grd || decide (x = 0)))) := by
  have jn := b.jn
  have ij := b.ij
  have ni := b.ni
  have w := b.w
  unfold ExW at w
  have hl := stepLs_steps kw os c 0 w.2
  simp only [Ex.steps] at jn
  have ri := b.ri
  have sj := b.sj
  simp only [Ex.stepL] at ri sj
  have hj : j < n + Ex.stepss os := by
    refine Nat.lt_of_not_le fun hj => ?_
    rw [List.getElem?_append_right (by omega)] at sj
    have e1 := own_path fns c k s (List.mem_of_getElem? sj)
    have := py.length_le
    rw [e1, List.length_append, List.length_singleton] at this
    omega
  rw [List.getElem?_append_left (by omega)] at ri sj
  obtain ⟨x', hx', _, x1, x2⟩ := in_child os n 0 (Nat.zero_le _) i (by simp [Ex.stepss]; omega) (by omega)
  obtain ⟨y', hy', _, y1, y2⟩ := in_child os n 0 (Nat.zero_le _) j (by simp [Ex.stepss]; omega) (by omega)
  have gi := stepLs_get kw c os 0 x' (i - n) w.2 hx' (by omega) (by omega)
  have gj := stepLs_get kw c os 0 y' (j - n) w.2 hy' (by omega) (by omega)
  rw [gi, Nat.zero_add] at ri
  rw [gj, Nat.zero_add] at sj
  have ex : x = x' := by
    refine Classical.byContradiction fun z => pre_apart z px (stepL_pre fns _ _ r (List.mem_of_getElem? ri))
  have ey : y = y' := by
    refine Classical.byContradiction fun z => pre_apart z py (stepL_pre fns _ _ s (List.mem_of_getElem? sj))
  subst ex
  subst ey
  have cx := stepss_child os x hx
  have cy := stepss_child os y hy
  have e0 : (Ex.nd k os).prec mk c n i j = Ex.precs mk (k.fixd || decide (c ∈ mk)) k.grd os c 0 n i j := by
    simp only [Ex.prec]
    rw [inR_not (n := n + Ex.stepss os) (i := j) (by omega), Bool.and_false, Bool.false_and, Bool.false_or]
  rw [e0, precs_at os c 0 n y i j hy y1 y2]
  simp only [Nat.zero_add, if_true]
  refine ⟨fun hxy => ?_, fun hxy => ?_⟩
  · subst hxy
    rw [inR_not, Bool.and_false, Bool.or_false]
    have h1 := take_mono os (show (if k.grd = true then min x 1 else x) ≤ x by split <;> omega)
    omega
  · have lt : x < y := by
      refine Nat.lt_of_not_le fun z => ?_
      have h1 := take_mono os (show y + 1 ≤ x by omega)
      rw [stepss_take_succ os y hy] at h1
      omega
    refine ⟨lt, ?_⟩
    have h1 := take_mono os (show x + 1 ≤ y by omega)
    rw [stepss_take_succ os x hx] at h1
    rw [prec_no (e := os[y]) (by omega), Bool.false_or]
    congr 1
    cases hg : k.grd with
    | false =>
      simp only [Bool.false_eq_true, if_false, Bool.not_false, Bool.true_or]
      exact inR_iff.mpr ⟨by omega, by omega⟩
    | true =>
      simp only [if_true, Bool.not_true, Bool.false_or]
      rw [show min y 1 = 1 by omega]
      by_cases h0 : x = 0
      · subst h0
        rw [decide_eq_true rfl]
        refine inR_iff.mpr ⟨by omega, ?_⟩
        rw [stepss_take_succ os 0 hx]
        omega
      · rw [decide_eq_false h0]
        refine inR_not ?_
        have h2 := take_mono os (show 1 ≤ x by omega)
        omega
end
end Oo
namespace Oo
open PySem L2 PyProof.Rows LamX StX ClX
abbrev sAskOf : Stmt := top 59
abbrev sUnask : Stmt := top 58
/-! which steps no guard asks: some set of steps -/
theorem slice_any {K : PySem.W.Frag} {H : Hp} {a : Addr} {xs : List V} {lo hi : Option Int} {Q : VK} (h : H a = some (.tup xs)) (k : ∀ t H', H' t = some (.tup (cutV xs lo hi)) → Same H H' → Q (.ref t) H') : rSlA K (.ref a) lo hi H Q := by
  refine ⟨a, xs, rfl, SqT.of h, fun hw => ?_, fun _ p np => k p _ upd_same (same_up np)⟩
  refine k a H ?_ (Same.refl _)
  rw [h]
  unfold cutV
  rw [hw.1, hw.2, List.drop_zero, Nat.sub_zero, List.take_length]
theorem cut_one (xs : List V) : cutV xs none (some 1) = xs.take 1 := by
  cases xs with
  | nil => simp [cutV]
  | cons x r =>
    have := cut_to (x :: r) (i := 1) (by simp)
    exact this
theorem take_one {xs : List V} {i : Nat} {z : V} (h : (xs.take 1)[i]? = some z) : i = 0 ∧ xs[0]? = some z := by
  have hi : i < (xs.take 1).length := (List.getElem?_eq_some_iff.mp h).1
  rw [List.length_take] at hi
  have h0 : i = 0 := by omega
  subst h0
  refine ⟨rfl, ?_⟩
  rw [List.getElem?_take] at h
  simpa using h
def spAskOf (CF CB : Addr) : Sp := fun vs H Q _ => ∃ (vb v : V) (a : Nat) (b : Bool) (ps : List Str) (fns : List Fn) (k : Kd) (os : List Ex), vs = [vb, v, .int (a : Int), .bl b] ∧ BookAt CF CB H vb fns ∧ KitW ps fns ∧ InE H (.nd k os) v ∧ KdW ps fns k os.length ∧ ∀ (c : Bool) H', Same H H' → Q (.bl c) H'
def spUnask (CF CB CS : Addr) (N : Nat) : Sp := fun vs H Q _ => ∃ (vb v : V) (b : Bool) (ps : List Str) (fns : List Fn) (mk : List (List Nat)) (e : Ex) (p : List Nat) (n : Nat), vs = [vb, v, .bl b] ∧ BookAt CF CB H vb fns ∧ KitW ps fns ∧ SpanAt CS mk H e p n v ∧ ExW ps fns e ∧ e.depth ≤ N ∧ n + e.steps ≤ 1900 ∧ ∀ (x : Int) H', Same H H' → Q (.int x) H'
theorem depth_pos1 (e : Ex) : 1 ≤ e.depth := by
  cases e <;> simp only [Ex.depth] <;> omega
theorem no_unask {CF CB CS : Addr} {N : Nat} (h : N = 0) : ∀ vs H Q E, ¬ spUnask CF CB CS N vs H Q E := fun vs H Q E q => by
  obtain ⟨_, _, _, _, _, _, e, _, _, _, _, _, _, _, hd, _⟩ := q
  have := depth_pos1 e
  omega
section
variable {P : Program} {w : World} {K : PySem.W.Frag} {mg : Str → Option Value} {base : Heap} {X : Cx}
theorem scAskOf : FnScope ["book", "form", "at", "is_asked"] ["book", "form", "at", "is_asked"] (defScope sAskOf) := ⟨rfl, rfl, rfl, by decide +kernel, rfl, by decide +kernel, by decide +kernel⟩
theorem ok_askof {CF CB f fi fg : Addr} {fd fdi fdg : FuncData} (F : Fun K "is_asked_of" "is_asked_of" sAskOf f fd) (TF' : TxF K CF) (ml : mg "len" = none)
    (GI : FnOk P w K mg base CX0 2 fi fdi ["node"] spIsGuard) (kI : PySem.W.keepIn K (.ref fi) = true) (bI : Binds K fdi ["node"] []) (mI : mg "is_guard" = some (.ref fi))
    (GG : FnOk P w K mg base CX0 6 fg fdg ["self", "at"] (spBGet CF CB)) (DG : Dun K CB "__getitem__" fg) (fnG : PySem.W.fnIn K fg = true) (bG : Binds K fdg ["self", "at"] []) : FnOk P w K mg base CX0 8 f fd ["book", "form", "at", "is_asked"] (spAskOf CF CB) := by
  refine F.ok scAskOf (fun vs H Q E h => ?_) (fun cdv A outer s H vs Q E hr h => ?_)
  · obtain ⟨vb, v, a, b, ps, fns, k, os, rfl, _⟩ := h
    rfl
  obtain ⟨vb, v, a, b, ps, fns, k, os, rfl, hB, kw, ie, hk, q⟩ := h
  have hr2 : Room 2 _ := hr.mono (by decide)
  refine ⟨_, (pss_cons (ps_if (PW.pt (pw_or (pt_cmpR op_eq (pe_ix ix_tup (pv 1) pe_int (fun _ _ => rfl)) pe_str (nomark _)) (pw_or1 (PW.pt (pw_and (pt_val (pe_call GI hr2 rfl mI kI bI .nil pass0 (pa_cons (pv 1) pa_nil))) (pw_and1 (pt_cmpR op_eq (pv 2) pe_int (nomark _)))))))) (pss_one (ps_ret pe_bl)) pss_nil)
    (pss_cons (ps_if (pt_cmpR op_eq (pe_ix ix_tup (pv 1) pe_int (fun _ _ => rfl)) pe_str (nomark _)) (pss_one (ps_ret (pe_and (pv 3) (pe_one (pe_cmpR op_eq (pv 2) pe_int (nomark _)))))) pss_nil)
    (pss_one (ps_ret (pe_or (pv 3) (pe_one (pe_and (pe_cmpR op_eq (pe_ix ix_tup (pv 1) pe_int (fun _ _ => rfl)) pe_str (nomark _)) (pe_one (pe_cmpR op_gt (pe_callB call_len_seq (by rfl) ml PySem.boot_len (pa_cons (pe_fld (pe_ixO GG hr DG fnG bG pass0 (pv 0) (pe_ix ix_tup (pv 1) pe_int (fun _ _ => rfl))) rfl) pa_nil)) pe_int (nomark _)))))))))), ?_⟩
  have ie0 := ie
  unfold InE at ie
  obtain ⟨pn, wf, rfl, ios, na⟩ := ie
  obtain ⟨tl, ht⟩ := na.tup
  refine ⟨_, rfl, pn, _, _, _, rfl, rfl, SqT.of ht, at0 _ _, rfl, _, rfl, ?_⟩
  by_cases h1 : V.str k.word = V.str "store"
  · exact iteYes h1 (q true H (Same.refl _))
  refine iteNo h1 ⟨_, rfl, _, _, rfl, ie0, _, rfl, ?_⟩
  cases hg : Ex.gd (.nd k os)
  case' true =>
    refine iteT ⟨_, rfl, rfl, _, rfl, ?_⟩
    by_cases h2 : V.int (a : Int) = V.int 0
    · exact iteYes h2 (q true H (Same.refl _))
    refine iteNo h2 ?_
  case' false => refine iteF ?_
  all_goals
    refine ⟨_, rfl, pn, _, _, _, rfl, rfl, SqT.of ht, at0 _ _, rfl, _, rfl, ?_⟩
    by_cases h3 : V.str k.word = V.str "then"
    · refine iteYes h3 ⟨_, rfl, ?_⟩
      cases b with
      | false => exact ⟨_, rfl, iteF (q false H (Same.refl _))⟩
      | true => exact ⟨_, rfl, iteT ⟨_, rfl, rfl, q _ H (Same.refl _)⟩⟩
    refine iteNo h3 ⟨_, rfl, ?_⟩
    cases b with
    | true => exact ⟨_, rfl, iteT (q true H (Same.refl _))⟩
    | false =>
      refine ⟨_, rfl, iteF ⟨_, rfl, pn, _, _, _, rfl, rfl, SqT.of ht, at0 _ _, rfl, _, rfl, ?_⟩⟩
      by_cases h4 : V.str k.word = V.str "call"
      · refine iteYes h4 ?_
        have hc : ∃ f, k = .call f := by
          cases k <;> first | exact ⟨_, rfl⟩ | (exfalso; revert h4; simp only [Kd.word]; decide +kernel)
        obtain ⟨fc, rfl⟩ := hc
        obtain ⟨fn, hfn, rfl, _⟩ := kdW_call hk
        obtain ⟨qa, hq1, _⟩ := na
        obtain ⟨b0, dxb, fsb, tf, rows, fns', rfl, g1, g2, g3, g4, g5⟩ := id hB
        refine ⟨_, rfl, _, rfl, pn, _, _, _, rfl, rfl, SqT.of hq1, at1 _ _ _, b0, dxb, fsb, rfl, g1, _, fn, fns, rfl, hB, Nat.le_trans kw.fl (by decide), hfn, kw.fnd, kw.fok, fun v' H2 hfa s2 => ?_⟩
        obtain ⟨pf, dxf, fsf, vr, vs', rfl, f1, f2, f3, f4, f5, f6, f7⟩ := hfa
        obtain ⟨qs, rfl, hqs⟩ := f7
        refine ⟨pf, CF, dxf, fsf, _, rfl, f1, TF'.cl, TF'.nS, f5, qs, _, rfl, .inr (SqT.of hqs), _, _, rfl, rfl, q _ H2 s2⟩
      · exact iteNo h4 (q false H (Same.refl _))
theorem scUnask : FnScope ["book", "span", "is_asked", "form", "found", "step", "at", "one"] ["book", "span", "is_asked"] (defScope sUnask) := ⟨rfl, rfl, rfl, by decide +kernel, rfl, by decide +kernel, by decide +kernel⟩
theorem ok_unask {CF CB CS f fa : Addr} {fd fda : FuncData} {N L : Nat} (F : Fun K "unasked_within" "unasked_within" sUnask f fd) (hL : 8 ≤ L) (T : TxS K CS) (men : mg "enumerate" = none)
    (GA : FnOk P w K mg base CX0 8 fa fda ["book", "form", "at", "is_asked"] (spAskOf CF CB)) (kA : PySem.W.keepIn K (.ref fa) = true) (bA : Binds K fda ["book", "form", "at", "is_asked"] []) (mA : mg "is_asked_of" = some (.ref fa))
    (GN : FnOk P w K mg base CX0 L f fd ["book", "span", "is_asked"] (spUnask CF CB CS N)) (kN : PySem.W.keepIn K (.ref f) = true) (bN : Binds K fd ["book", "span", "is_asked"] []) (mN : mg "unasked_within" = some (.ref f)) : FnOk P w K mg base CX0 (L + 1) f fd ["book", "span", "is_asked"] (spUnask CF CB CS (N + 1)) := by
  refine F.ok scUnask (fun vs H Q E h => ?_) (fun cdv A outer s H vs Q E hr h => ?_)
  · obtain ⟨vb, v, b, ps, fns, mk, e, p, n, rfl, _⟩ := h
    rfl
  obtain ⟨vb, v, b, ps, fns, mk, e, p, n, rfl, hB, kw, hs, ew, hd, hst, q⟩ := h
  have hr8 : Room 8 _ := hr.mono hL
  refine ⟨_, (pss_cons (ps_set (i := 3) scUnask.nd rfl (.inl rfl) (pe_fld (pv 1) rfl))
    (pss_cons (ps_set (i := 4) scUnask.nd rfl (.inl rfl) pe_int)
    (pss_cons (ps_for PassesOwn.never rfl (pi_tup (pe_slice sl_tupA (pe_fld (pv 1) rfl) po_none (po_some pe_int))) (pg_name (i := 5) scUnask.nd rfl (Or.inl rfl)) (pss_one (ps_if (PW.pt (pw_and (pt_not (pt_val (pv 2))) (pw_and1 (pt_cmpR op_ne (pe_ix ix_tup (pv 3) pe_int (fun _ _ => rfl)) pe_str (nomark _))))) (pss_one (ps_set (i := 4) scUnask.nd rfl (.inl rfl) (pe_op op_or (pv 4) (pe_op op_oneShl pe_int (pv 5))))) pss_nil)))
    (pss_cons (ps_for PassesOwn.never rfl (pi_enumT (by rfl) men (pa_cons (pe_fld (pv 1) rfl) pa_nil)) (pg_tup rfl (pgs_cons (pg_name (i := 6) scUnask.nd rfl (Or.inl rfl)) (pgs_cons (pg_name (i := 7) scUnask.nd rfl (Or.inl rfl)) pgs_nil))) (pss_one (ps_set (i := 4) scUnask.nd rfl (.inl rfl) (pe_op op_or (pv 4) (pe_call GN hr rfl mN kN bN .nil pass0 (pa_cons (pv 0) (pa_cons (pv 7) (pa_cons (pe_call GA hr8 rfl mA kA bA .nil pass0 (pa_cons (pv 0) (pa_cons (pv 3) (pa_cons (pv 6) (pa_cons (pv 2) pa_nil))))) pa_nil))))))))
    (pss_one (ps_ret (pv 4))))))), ?_⟩
  obtain ⟨ws, ⟨a0, dx, fs, vp, vf, tb, to, rfl, h1, hf, h2, h3, h4, h5⟩, hbs⟩ := hs.obj
  have hlen := hbs.length
  have hso := steps_own e
  have hol := own_steps_le e
  refine ⟨_, rfl, a0, CS, dx, fs, _, rfl, h1, T.cl, T.nF, hf.f, ?_⟩
  refine ⟨_, rfl, a0, CS, dx, fs, _, rfl, h1, T.cl, T.nO, hf.o, _, rfl, ?_⟩
  refine slice_any (K := K) h5 fun to1 H1 eo1 s1 => ?_
  rw [cut_one] at eo1
  refine ⟨to1, rfl, ⟨_, SqT.of eo1⟩, ?_⟩
  refine for_tup (K := K) (a := to1) (xs := (nv_ (e.owns n)).take 1) (fun i σ H' => ∃ (x : Int) (o5 : Option V), σ = [some vb, some (.ref a0), some (.bl b), some vf, some (.int x), o5, none, none] ∧ H' = H1) ⟨0, none, rfl, rfl⟩ (fun i σ H' _ ⟨_, _, _, e'⟩ => by rw [e']; exact SqT.of eo1) ?_ ?_
  · rintro i u σ H2 hi ⟨x, o5, rfl, rfl⟩
    obtain ⟨rfl, hu⟩ := take_one hi
    have hown : 0 < e.own := by
      have := (List.getElem?_eq_some_iff.mp hu).1
      rwa [owns_len] at this
    have hz : u = .int ((n + Ex.stepss e.ops + 0 : Nat) : Int) := Option.some.inj (hu.symm.trans (owns_get e n 0 hown))
    subst hz
    refine ⟨_, rfl, _, rfl, ?_⟩
    cases b with
    | true => exact iteF ⟨x, some (.int ((n + Ex.stepss e.ops + 0 : Nat) : Int)), rfl, rfl⟩
    | false =>
      refine iteT ?_
      have hnd : ∃ (k : Kd) (os : List Ex), e = .nd k os := by
        cases e with
        | num c => exact absurd hown (by simp [Ex.own])
        | nd k os => exact ⟨k, os, rfl⟩
      obtain ⟨k, os, rfl⟩ := hnd
      have h3' := h3.keep (same_t s1)
      unfold InE at h3'
      obtain ⟨pn, wf, rfl, ios, na⟩ := h3'
      obtain ⟨tl, ht⟩ := na.tup
      refine ⟨_, rfl, pn, _, _, _, rfl, rfl, SqT.of ht, at0 _ _, rfl, _, rfl, ?_⟩
      by_cases hw : V.str k.word = V.str "step"
      · rw [decide_eq_true hw]
        exact iteF ⟨x, some (.int ((n + Ex.stepss (Ex.ops (.nd k os)) + 0 : Nat) : Int)), rfl, rfl⟩
      · rw [decide_eq_false hw]
        refine iteT ⟨_, rfl, _, rfl, _, rfl, rfl, by omega, _, _, rfl, rfl, ?_⟩
        exact ⟨_, some (.int ((n + Ex.stepss (Ex.ops (.nd k os)) + 0 : Nat) : Int)), rfl, rfl⟩
  rintro σ H2 ⟨x, o5, rfl, rfl⟩
  have h11 := s1 _ _ h1
  have h41 := s1 _ _ h4
  refine ⟨_, rfl, a0, CS, dx, fs, _, rfl, h11, T.cl, T.nB, hf.b, tb, ws, rfl, SqT.of h41, ?_⟩
  refine for_it walk_enumU (fun i σ H' => ∃ (x : Int) (o6 o7 : Option V), σ = [some vb, some (.ref a0), some (.bl b), some vf, some (.int x), o5, o6, o7] ∧ Same H H') ⟨x, none, none, rfl, s1⟩ (fun i σ H' _ ⟨_, _, _, _, z⟩ => SqT.of (z _ _ h4)) ?_ ?_
  · rintro i u σ H3 H4 hi ⟨x, o6, o7, rfl, s3⟩ ⟨T0, x', y', rfl, nT, rfl, hx, hy⟩
    have hx' : x' = .int (i : Int) := (Option.some.inj hx).symm
    subst hx'
    have hio : i < e.ops.length := by omega
    obtain ⟨v', hv', sv'⟩ := hbs.get i hio
    have : y' = v' := Option.some.inj (hy.symm.trans hv')
    subst this
    have sT := same_up (o := .tup [V.int (i : Int), y']) nT
    have s4 := s3.trans sT
    have hnd : ∃ (k : Kd) (os : List Ex), e = .nd k os := by
      cases e with
      | num c => exact absurd hio (by simp [Ex.ops])
      | nd k os => exact ⟨k, os, rfl⟩
    obtain ⟨k, os, rfl⟩ := hnd
    have hk : KdW ps fns k os.length := by unfold ExW at ew; exact ew.1
    have hdi := depth_ops hio
    have hch := stepss_child (Ex.ops (.nd k os)) i hio
    have hoo := opsteps_le (.nd k os)
    refine ⟨T0, _, rfl, SqT.of upd_same, rfl, _, _, rfl, _, _, rfl, rfl, ?_⟩
    refine ⟨_, rfl, _, rfl, _, rfl, _, rfl, _, rfl, _, rfl, _, rfl, vb, vf, i, b, ps, fns, k, os, rfl, hB.keep s4, kw, h3.keep (same_t s4), hk, fun c H5 s5 => ?_⟩
    have s45 := s4.trans s5
    refine ⟨vb, y', c, ps, fns, mk, (Ex.ops (.nd k os))[i], p ++ [0 + i], n + Ex.stepss ((Ex.ops (.nd k os)).take i), rfl, hB.keep s45, kw, sv'.keep (KI.same s45) _ _ _ _, ?_, by omega, by omega, fun z H6 s6 => ?_⟩
    · unfold ExW at ew
      exact ExWs.get ew.2 i hio
    exact ⟨_, _, rfl, rfl, _, some (.int (i : Int)), some y', rfl, s45.trans s6⟩
  · rintro σ H3 ⟨x, o6, o7, rfl, s3⟩
    exact ⟨_, rfl, q x H3 s3⟩
end
end Oo
namespace Oo
open PySem L2 PyProof.Rows LamX StX ClX
abbrev sLay : Stmt := top 60
abbrev sLInit : Stmt := inClass sLay 0
theorem pi_as {X : Cx} {tg e : Expr} {wi wi' : TI} (h : PI X tg e wi) (i : ∀ σ H R, wi' σ H R → wi σ H R) : PI X tg e wi' := ⟨fun pins s σ H R I q => h.run pins s σ H R I (i σ H R q)⟩
theorem BookAt.but {CF CB C p dx0 : Addr} {H H' : Hp} {v : V} {fns : List Fn} (h : BookAt CF CB H v fns) (hp : H p = some (.ins C dx0 [])) (b : But p H H') : BookAt CF CB H' v fns := by
  obtain ⟨b0, dx, fs, tf, rows, fns', e, h1, h2, h3, h4, h5⟩ := h
  refine ⟨b0, dx, fs, tf, rows, fns', e, b _ _ (fun w => ?_) h1, h2, b _ _ (fun w => by rw [w, hp] at h3; cases h3) h3, L2.Paired.mapP h4 fun x y z => z.but hp b, h5⟩
  rw [w, hp] at h1
  cases h1
  cases h2
theorem But.tup {CT p dx0 : Addr} {H H' : Hp} (b : But p H H') {fs : List (Str × V)} (hp : H p = some (.ins CT dx0 fs)) : ∀ q xs, H q = some (.tup xs) → H' q = some (.tup xs) := fun q xs z => b _ _ (fun w => by rw [w, hp] at z; cases z) z
structure TxL (K : PySem.W.Frag) (C : Addr) : Prop where
  cl : Cls K C
  nR : NoAttr K C "root"
  nS : NoAttr K C "spans"
  nO : NoAttr K C "owners"
  nT : NoAttr K C "steps"
  nB : NoAttr K C "befores"
  nE : NoAttr K C "besides"
  nG : NoAttr K C "guard"
  nH : NoAttr K C "stored"
  nU : NoAttr K C "unasked"
structure LayFs (fs : List (Str × V)) (vr : V) (tsp tow tst tb te : Addr) (vg : V) : Prop where
  r : fs.lookup ("root" : Str) = some vr
  s : fs.lookup ("spans" : Str) = some (.ref tsp)
  o : fs.lookup ("owners" : Str) = some (.ref tow)
  t : fs.lookup ("steps" : Str) = some (.ref tst)
  b : fs.lookup ("befores" : Str) = some (.ref tb)
  e : fs.lookup ("besides" : Str) = some (.ref te)
  g : fs.lookup ("guard" : Str) = some vg
def OwnRow (CS : Addr) (mk : List (List Nat)) (H : Hp) (row : List V) (e : Ex) : Prop := row.length = e.steps ∧ ∀ j, j < e.steps → ∃ v x, row[j]? = some v ∧ x ∈ e.spn [] 0 ∧ SpanR CS mk H v x ∧ j ∈ x.own
def GuardV (H : Hp) (vg : V) : List (List Nat) → Prop
  | [] => vg = .non
  | p :: _ => PathAt H vg p
structure LayO (CS : Addr) (H : Hp) (fs : List (Str × V)) (fns : List Fn) (e : Ex) (mk : List (List Nat)) (vr : V) (tsp tow tst tb te : Addr) (vg : V) (rsp row rst rb re : List V) : Prop where
  f : LayFs fs vr tsp tow tst tb te vg
  r : SpanAt CS mk H e [] 0 vr
  s : H tsp = some (.tup rsp)
  sp : Paired (SpanR CS mk H) rsp (e.spn [] 0)
  o : H tow = some (.tup row)
  oo : OwnRow CS mk H row e
  t : H tst = some (.tup rst)
  tp : Paired (StepAt H) rst (e.stepL fns [])
  b : H tb = some (.tup rb)
  bs : SetRow rb e.steps (e.prec mk [] 0)
  be : H te = some (.tup re)
  es : SetRow re e.steps (e.opn mk [] 0)
  g : GuardV H vg e.guards
def LayAt (CS CL : Addr) (H : Hp) (v : V) (fns : List Fn) (e : Ex) (mk : List (List Nat)) : Prop := ∃ (a dx : Addr) (fs : List (Str × V)) (vr : V) (tsp tow tst tb te : Addr) (vg : V) (rsp row rst rb re : List V), v = .ref a ∧ H a = some (.ins CL dx fs) ∧ LayO CS H fs fns e mk vr tsp tow tst tb te vg rsp row rst rb re
theorem LayO.keep {CS : Addr} {H H' : Hp} {fs : List (Str × V)} {fns : List Fn} {e : Ex} {mk : List (List Nat)} {vr : V} {tsp tow tst tb te : Addr} {vg : V} {rsp row rst rb re : List V} (h : LayO CS H fs fns e mk vr tsp tow tst tb te vg rsp row rst rb re) (k : KI CS H H') : LayO CS H' fs fns e mk vr tsp tow tst tb te vg rsp row rst rb re :=
  ⟨h.f, h.r.keep k _ _ _ _, k.1 _ _ h.s, L2.Paired.mapP h.sp fun a b z => z.keep k, k.1 _ _ h.o, ⟨h.oo.1, fun j hj => let ⟨v, x, h1, h2, h3, h4⟩ := h.oo.2 j hj; ⟨v, x, h1, h2, h3.keep k, h4⟩⟩, k.1 _ _ h.t, L2.Paired.mapP h.tp fun a b z => z.keep k.1, k.1 _ _ h.b, h.bs, k.1 _ _ h.be, h.es, by
    have := h.g
    generalize e.guards = gs at this ⊢
    cases gs with
    | nil => exact this
    | cons p r => exact PathAt.keep k.1 this⟩
/-- layouts stay -/
def KL (CL : Addr) (H H' : Hp) : Prop := ∀ q dx fs v, fs.lookup ("root" : Str) = some v → H q = some (.ins CL dx fs) → H' q = some (.ins CL dx fs)
theorem KL.but {CL C p dx0 : Addr} {fs0 : List (Str × V)} {H H' : Hp} (hp : H p = some (.ins C dx0 fs0)) (b : But p H H') (h0 : fs0.lookup ("root" : Str) = none := by rfl) : KL CL H H' :=
  fun q dx fs v y z => b _ _ (fun w => by rw [w, hp] at z; cases z; rw [h0] at y; cases y) z
theorem LayAt.keepN {CS CL : Addr} {H H' : Hp} {v : V} {fns : List Fn} {e : Ex} {mk : List (List Nat)} (h : LayAt CS CL H v fns e mk) (k : KI CS H H') (k2 : KL CL H H') : LayAt CS CL H' v fns e mk := by
  obtain ⟨a, dx, fs, vr, tsp, tow, tst, tb, te, vg, rsp, row, rst, rb, re, rfl, h1, h2⟩ := h
  exact ⟨a, dx, fs, vr, tsp, tow, tst, tb, te, vg, rsp, row, rst, rb, re, rfl, k2 _ _ _ _ h2.f.r h1, h2.keep k⟩
def iOwnS (CS : Addr) (mk : List (List Nat)) (K : PySem.W.Frag) : TI := fun σ H R => ∃ v x, σ[6]? = some (some v) ∧ SpanR CS mk H v x ∧ ∀ q, H q = some (.tup (nv_ x.own)) → R (Itt K q) H
def ttGd (CS : Addr) (mk : List (List Nat)) : TT := fun σ H Q => ∃ v x, σ[6]? = some (some v) ∧ SpanR CS mk H v x ∧ Q x.2.1.gd H
def tePath (CS : Addr) (mk : List (List Nat)) : TE := fun σ H Q => ∃ v x, σ[6]? = some (some v) ∧ SpanR CS mk H v x ∧ ∀ vp, PathAt H vp x.1 → Q vp H
def teOwner : TE := fun σ H Q => ∃ (d : Addr) (kvs : List (Key × V)) (j : Nat) (v : V), σ[5]? = some (some (.ref d)) ∧ σ[7]? = some (some (.int (0 + (j : Int)))) ∧ H d = some (.dK kvs) ∧ valV kvs (Sum.inl (j : Int)) = some v ∧ Q v H
def teStep (CF CB CS : Addr) (mk : List (List Nat)) (fns : List Fn) : TE := fun σ H Q => ∃ (vb v : V) (ps : List Str) (k : Kd) (os : List Ex) (p : List Nat) (n a : Nat) (r : StepR), σ[1]? = some (some vb) ∧ σ[6]? = some (some v) ∧ σ[7]? = some (some (.int ((n + Ex.stepss os + a : Nat) : Int))) ∧ BookAt CF CB H vb fns ∧ KitW ps fns ∧ SpanAt CS mk H (.nd k os) p n v ∧ ExW ps fns (.nd k os) ∧
  (ownSteps fns p k)[a]? = some r ∧ ∀ u H', StepAt H' u r → Same H H' → Q u H'
/-- the pairs that the comprehension has made so far -/
structure DictOk (CS : Addr) (mk : List (List Nat)) (H : Hp) (e : Ex) (kvs : List (Key × V)) (ks : List Nat) : Prop where
  k : kvs.map (·.1) = ks.map fun (k : Nat) => (Sum.inl (k : Int) : Key)
  v : ∀ q ∈ kvs, ∃ x ∈ e.spn [] 0, SpanR CS mk H q.2 x ∧ ∃ k ∈ x.own, q.1 = Sum.inl ((k : Nat) : Int)
theorem DictOk.fresh {CS : Addr} {mk : List (List Nat)} {H : Hp} {e : Ex} {kvs : List (Key × V)} {ks : List Nat} (d : DictOk CS mk H e kvs ks) {j : Nat} (h : j ∉ ks) : valV kvs (Sum.inl (j : Int)) = none := by
  unfold valV
  rw [Option.map_eq_none_iff, List.find?_eq_none]
  intro q hq hd
  have hd : q.1 = Sum.inl (j : Int) := of_decide_eq_true hd
  have : q.1 ∈ kvs.map (·.1) := List.mem_map.mpr ⟨q, hq, rfl⟩
  rw [d.k] at this
  obtain ⟨k, hk, e1⟩ := List.mem_map.mp this
  rw [hd] at e1
  injection e1 with e1
  have : k = j := by omega
  exact h (this ▸ hk)
theorem DictOk.get {CS : Addr} {mk : List (List Nat)} {H : Hp} {e : Ex} {kvs : List (Key × V)} {ks : List Nat} (d : DictOk CS mk H e kvs ks) {j : Nat} (h : j ∈ ks) : ∃ v x, valV kvs (Sum.inl (j : Int)) = some v ∧ x ∈ e.spn [] 0 ∧ SpanR CS mk H v x ∧ j ∈ x.own := by
  have h1 : (Sum.inl (j : Int) : Key) ∈ kvs.map (·.1) := by rw [d.k]; exact List.mem_map.mpr ⟨j, h, rfl⟩
  obtain ⟨q0, hq0, e0⟩ := List.mem_map.mp h1
  have h2 : (kvs.find? fun kv => decide (kv.1 = Sum.inl (j : Int))).isSome := by
    rw [List.find?_isSome]
    exact ⟨q0, hq0, decide_eq_true e0⟩
  obtain ⟨q, hq⟩ := Option.isSome_iff_exists.mp h2
  have hm := List.mem_of_find?_eq_some hq
  have hp : q.1 = Sum.inl (j : Int) := by
    have := List.find?_some hq
    exact of_decide_eq_true this
  obtain ⟨x, hx, hs, k, hk, e1⟩ := d.v q hm
  refine ⟨q.2, x, by unfold valV; rw [hq]; rfl, hx, hs, ?_⟩
  rw [hp] at e1
  injection e1 with e1
  have : j = k := by omega
  exact this ▸ hk
theorem DictOk.put {CS : Addr} {mk : List (List Nat)} {H : Hp} {e : Ex} {kvs : List (Key × V)} {ks : List Nat} (d : DictOk CS mk H e kvs ks) {j : Nat} (h : j ∉ ks) {v : V} {x : Trip} (hx : x ∈ e.spn [] 0) (hs : SpanR CS mk H v x) (hj : j ∈ x.own) : DictOk CS mk H e (putK kvs (Sum.inl (j : Int)) v) (ks ++ [j]) := by
  rw [putK_new v (d.fresh h)]
  refine ⟨by rw [List.map_append, List.map_append, d.k]; rfl, fun q hq => ?_⟩
  rcases List.mem_append.mp hq with hq | hq
  · exact d.v q hq
  · rw [List.mem_singleton.mp hq]
    exact ⟨x, hx, hs, j, hj, rfl⟩
theorem DictOk.len {CS : Addr} {mk : List (List Nat)} {H : Hp} {e : Ex} {kvs : List (Key × V)} {ks : List Nat} (d : DictOk CS mk H e kvs ks) : kvs.length = ks.length := by
  have := congrArg List.length d.k
  rwa [List.length_map, List.length_map] at this
def ttSto : TT := fun σ H Q => ∃ (v : V) (r : StepR), σ[9]? = some (some v) ∧ StepAt H v r ∧ ∀ b : Bool, Q b H
def teShl : TE := fun σ H Q => ∃ j : Nat, σ[7]? = some (some (.int (j : Int))) ∧ j ≤ 9000 ∧ Q (.int (2 ^ j)) H
def spLInit (K : PySem.W.Frag) (CF CB CS CL : Addr) (N : Nat) : Sp := fun vs H Q _ => ∃ (a dx : Addr) (vb ve : V) (tp : Addr) (rp : List V) (mk : List (List Nat)) (e : Ex) (ps : List Str) (fns : List Fn), vs = [.ref a, vb, ve, .ref tp] ∧ H a = some (.ins CL dx []) ∧ BookAt CF CB H vb fns ∧ KitW ps fns ∧ InE H e ve ∧ ExW ps fns e ∧ e.depth ≤ N ∧ e.depth ≤ 80 ∧ e.nodes ≤ 200 ∧ SqT K H tp rp ∧ Paired (PathAt H) rp mk ∧
  ∀ H', LayAt CS CL H' (.ref a) fns e mk → But a H H' → Q .non H'
section
variable {P : Program} {w : World} {K : PySem.W.Frag} {mg : Str → Option Value} {base : Heap} {X : Cx}
theorem scLInit : FnScope ["self", "book", "expression", "points", "spans", "owners", "span", "step", "guards", "row"] ["self", "book", "expression", "points"] (defScope sLInit) := ⟨rfl, rfl, rfl, by decide +kernel, rfl, by decide +kernel, by decide +kernel⟩
theorem ok_linit {N : Nat} {CF CB CS CL f fs_ fw fg ft fr : Addr} {fd fds fdw fdg fdt fdr fdu : FuncData} {fu : Addr} {dvs : List V} {kws : List (Str × V)} (F : FunD K "__init__" "Layout.__init__" (defArgs sLInit) (defBody sLInit) (defScope sLInit) dvs kws f fd) (T : TxS K CS) (L : TxL K CL) (ml : mg "len" = none) (mt : mg "tuple" = none) (mr : mg "range" = none) (men : mg "enumerate" = none)
    (GS : FnOk P w K mg base CX0 (N + 4) fs_ fds ["node", "path", "first", "points"] (spSpanOf K CS N)) (kS : PySem.W.keepIn K (.ref fs_) = true) (bS : Binds K fds ["node", "path", "first", "points"] []) (mS : mg "span_of" = some (.ref fs_))
    (GW : FnOk P w K mg base CX0 1 fw fdw ["root"] (spWithin CS)) (kW : PySem.W.keepIn K (.ref fw) = true) (bW : Binds K fdw ["root"] []) (mW : mg "spans_within" = some (.ref fw))
    (GG : FnOk P w K mg base CX0 2 fg fdg ["node"] spIsGuard) (kG : PySem.W.keepIn K (.ref fg) = true) (bG : Binds K fdg ["node"] []) (mG : mg "is_guard" = some (.ref fg))
    (GT : FnOk P w K mg base CX0 8 ft fdt ["book", "span", "step"] (spStepOf CF CB CS)) (kT : PySem.W.keepIn K (.ref ft) = true) (bT : Binds K fdt ["book", "span", "step"] []) (mT : mg "step_of" = some (.ref ft))
    (GR : FnOk P w K mg base CX0 4 fr fdr ["root"] (spRel CS)) (kR : PySem.W.keepIn K (.ref fr) = true) (bR : Binds K fdr ["root"] []) (mR : mg "relations" = some (.ref fr)) (msu : mg "sum" = none)
    (GU : FnOk P w K mg base CX0 (N + 8) fu fdu ["book", "span", "is_asked"] (spUnask CF CB CS N)) (kU : PySem.W.keepIn K (.ref fu) = true) (bU : Binds K fdu ["book", "span", "is_asked"] []) (mU : mg "unasked_within" = some (.ref fu)) :
    FnOk P w K mg base CX0 (N + 9) f fd ["self", "book", "expression", "points"] (spLInit K CF CB CS CL N) := by
  refine FunD.ok0 F scLInit (fun vs H Q E h => ?_) (fun cdv A outer s H vs Q E hr h => ?_)
  · obtain ⟨a, dx, vb, ve, tp, rp, mk, e, ps, fns, rfl, _⟩ := h
    rfl
  obtain ⟨a, dx, vb, ve, tp, rp, mk, e, ps, fns, rfl, ea, hB, kw, ie, ew, hd, hd80, hn, etp, pmk, q⟩ := h
  have hrS : Room (N + 4) _ := hr.mono (by omega)
  have hr8 : Room 8 _ := hr.mono (by omega)
  have hrU : Room (N + 8) _ := hr
  have hr4 : Room 4 _ := hr.mono (by omega)
  have hr2 : Room 2 _ := hr.mono (by omega)
  have hr1 : Room 1 _ := hr.mono (by omega)
  have hu := hu_of hr
  refine ⟨_, (pss_cons (ps_fld (pv 0) (pe_call GS hrS rfl mS kS bS .nil pass0 (pa_cons (pv 2) (pa_cons (pe_tup pa_nil) (pa_cons pe_int (pa_cons (pv 3) pa_nil))))) rfl)
    (pss_cons (ps_set (i := 4) scLInit.nd rfl (.inl rfl) (pe_call GW hr1 rfl mW kW bW .nil pass0 (pa_cons (pe_fld (pv 0) rfl) pa_nil)))
    (pss_cons (ps_set (i := 5) scLInit.nd rfl (.inr rfl) (pe_dc2 (own := [("span", 6), ("step", 7)]) (vs1 := [7]) (h0 := gName 6) (h1 := gName 7) (u0 := tYes) (u1 := tYes) (wi1 := iOwnS CS mk K) (tk := tVar 7) (tv := tVar 6) (by rfl) scLInit.nd (pi_list (pv 4)) (blkOk_by (own := [("span", 6), ("step", 7)]) (N := ["self", "book", "expression", "points", "spans", "owners", "span", "step", "guards", "row"]) (sc := defScope sLInit) (by decide +kernel)) (by decide) (fun _ _ _ _ _ => (pg_name (i := 6) scLInit.nd rfl (Or.inl rfl))) (fun _ _ _ _ _ => pts_nil) (fun _ _ _ _ _ => (pi_as (pi_tup (pe_fld (pv 6) rfl)) ?c1)) (fun _ _ _ _ _ => (pg_name (i := 7) scLInit.nd rfl (Or.inl rfl))) (fun _ _ _ _ _ => pts_nil) (fun _ _ _ _ _ => (pv 7)) (fun _ _ _ _ _ => (pv 6))))
    (pss_cons (ps_setLc (i := 8) (own := [("span", 6)]) (g := gName 6) (by rfl) scLInit.nd rfl rfl (sw_true rfl rfl rfl (by decide +kernel)) (pi_list (pv 4)) (blkOk_by (own := [("span", 6)]) (N := ["self", "book", "expression", "points", "spans", "owners", "span", "step", "guards", "row"]) (sc := defScope sLInit) (by decide +kernel)) (fun _ _ _ _ _ => (pg_name (i := 6) scLInit.nd rfl (Or.inl rfl))) (fun _ _ _ _ _ => (pts_one (pt_as (t' := ttGd CS mk) (pt_val (pe_call GG hr2 rfl mG kG bG .nil pass0 (pa_cons (pe_fld (pv 6) rfl) pa_nil))) ?c2))) (fun _ _ _ _ _ => (pe_as (t' := tePath CS mk) (pe_fld (pv 6) rfl) ?c3)))
    (pss_cons (ps_fld (pv 0) (pe_tupleOf (by rfl) mt (pv 4)) rfl)
    (pss_cons (ps_fld (pv 0) (pe_tupleOf (by rfl) mt (pe_lc (own := [("step", 7)]) (g := gName 7) (tt := tYes) (by rfl) scLInit.nd (pi_range1 (by rfl) mr (pa_cons (pe_callB call_lenD (by rfl) ml PySem.boot_len (pa_cons (pv 5) pa_nil)) pa_nil)) (blkOk_by (own := [("step", 7)]) (N := ["self", "book", "expression", "points", "spans", "owners", "span", "step", "guards", "row"]) (sc := defScope sLInit) (by decide +kernel)) (fun _ _ _ _ _ => (pg_name (i := 7) scLInit.nd rfl (Or.inl rfl))) (fun _ _ _ _ _ => pts_nil) (fun _ _ _ _ _ => (pe_as (t' := teOwner) (pe_dget hu (pv 5) (pv 7) (fun _ _ => rfl)) ?c4)))) rfl)
    (pss_cons (ps_fld (pv 0) (pe_tupleOf (by rfl) mt (pe_lc (own := [("step", 7), ("span", 6)]) (g := gTup K 2 (gCons (gName 7) (gCons (gName 6) gNil))) (tt := tYes) (by rfl) scLInit.nd (pi_enumT (by rfl) men (pa_cons (pe_fld (pv 0) rfl) pa_nil)) (blkOk_by (own := [("step", 7), ("span", 6)]) (N := ["self", "book", "expression", "points", "spans", "owners", "span", "step", "guards", "row"]) (sc := defScope sLInit) (by decide +kernel)) (fun _ _ _ _ _ => (pg_tup rfl (pgs_cons (pg_name (i := 7) scLInit.nd rfl (Or.inl rfl)) (pgs_cons (pg_name (i := 6) scLInit.nd rfl (Or.inl rfl)) pgs_nil)))) (fun _ _ _ _ _ => pts_nil) (fun _ _ _ _ _ => (pe_as (t' := teStep CF CB CS mk fns) (pe_call GT hr8 rfl mT kT bT .nil pass0 (pa_cons (pv 1) (pa_cons (pv 6) (pa_cons (pv 7) pa_nil)))) ?c5)))) rfl)
    (pss_cons (ps_asg (pe_call GR hr4 rfl mR kR bR .nil pass0 (pa_cons (pe_fld (pv 0) rfl) pa_nil)) (pg_tup rfl (pgs_cons (pg_fld (pv 0)) (pgs_cons (pg_fld (pv 0)) pgs_nil))))
    (pss_cons (ps_fld (pv 0) (pe_callB (cr_sum rfl) (by rfl) msu (by decide +kernel) (pa_cons (pe_lc (own := [("step", 7), ("row", 9)]) (g := gTup K 2 (gCons (gName 7) (gCons (gName 9) gNil))) (by rfl) scLInit.nd (pi_enumT (by rfl) men (pa_cons (pe_fld (pv 0) rfl) pa_nil)) (blkOk_by (own := [("step", 7), ("row", 9)]) (N := ["self", "book", "expression", "points", "spans", "owners", "span", "step", "guards", "row"]) (sc := defScope sLInit) (by decide +kernel)) (fun _ _ _ _ _ => (pg_tup rfl (pgs_cons (pg_name (i := 7) scLInit.nd rfl (Or.inl rfl)) (pgs_cons (pg_name (i := 9) scLInit.nd rfl (Or.inl rfl)) pgs_nil)))) (fun _ _ _ _ _ => (pts_one (pt_as (t' := ttSto) (pt_cmpR op_eq (pe_ix ix_tup (pv 9) pe_int (fun _ _ => rfl)) pe_str (nomark _)) ?c6))) (fun _ _ _ _ _ => (pe_as (t' := teShl) (pe_op op_oneShl pe_int (pv 7)) ?c7))) pa_nil)) rfl)
    (pss_cons (ps_fld (pv 0) (pe_op op_or (pe_fld (pv 0) rfl) (pe_call GU hrU rfl mU kU bU .nil pass0 (pa_cons (pv 1) (pa_cons (pe_fld (pv 0) rfl) (pa_cons pe_bl pa_nil))))) rfl)
    (pss_one (ps_fld (pv 0) (pe_ifExp (pt_cmpR op_gt (pe_callB call_len_seq (by rfl) ml PySem.boot_len (pa_cons (pv 8) pa_nil)) pe_int (nomark _)) (pe_ix ix_list (pv 8) pe_int (fun _ _ => rfl)) pe_non) rfl)))))))))))), ?_⟩
  case c1 =>
    rintro σ H R ⟨v, x, e6, hs, k⟩
    obtain ⟨ws, ⟨a1, dx1, fs, vp, vf, tb, to, rfl, h1, hf, _, _, _, h5⟩, _⟩ := SpanAt.obj hs
    exact ⟨_, e6, a1, CS, dx1, fs, _, rfl, h1, T.cl, T.nO, hf.o, to, rfl, ⟨_, SqT.of h5⟩, k to h5⟩
  case c2 =>
    rintro σ H Q ⟨v, x, e6, hs, k⟩
    obtain ⟨ws, ⟨a1, dx1, fs, vp, vf, tb, to, rfl, h1, hf, _, h3, _, _⟩, _⟩ := SpanAt.obj hs
    exact ⟨_, e6, a1, CS, dx1, fs, _, rfl, h1, T.cl, T.nF, hf.f, _, _, rfl, h3, _, rfl, k⟩
  case c3 =>
    rintro σ H Q ⟨v, x, e6, hs, k⟩
    obtain ⟨ws, ⟨a1, dx1, fs, vp, vf, tb, to, rfl, h1, hf, h2, _⟩, _⟩ := SpanAt.obj hs
    exact ⟨_, e6, a1, CS, dx1, fs, _, rfl, h1, T.cl, T.nP, hf.p, k vp h2⟩
  case c4 =>
    rintro σ H Q ⟨d, kvs, j, v, e5, e7, hd, hv, k⟩
    refine ⟨_, e5, _, e7, d, v, rfl, ?_, k⟩
    have := DGet.k (k := Sum.inl (0 + (j : Int))) hd
    rw [show (0 + (j : Int)) = (j : Int) by omega] at this ⊢
    rw [hv] at this
    exact this
  case c5 =>
    rintro σ H Q ⟨vb, v, ps, k, os, p, n, a, r, e1, e6, e7, hB, kw, hs, ew, hr, q⟩
    exact ⟨_, e1, _, e6, _, e7, vb, v, ps, fns, mk, k, os, p, n, a, r, rfl, hB, kw, hs, ew, hr, q⟩
  case c6 =>
    rintro σ H Q ⟨v, r, e9, hv, k⟩
    obtain ⟨qa, vp, vr, vs, rfl, h1, _⟩ := hv
    exact ⟨_, e9, qa, _, _, _, rfl, rfl, SqT.of h1, at0 _ _, rfl, _, rfl, k _⟩
  case c7 =>
    rintro σ H Q ⟨j, e7, hj, k⟩
    exact ⟨_, e7, j, rfl, rfl, by omega, k⟩
  have sh := ExW.shp _ ew
  have hst := steps_le e
  -- the root
  refine ⟨_, rfl, sz (by simp), fun t0 n0 => ⟨_, rfl, ve, .ref t0, 0, tp, rp, mk, e, [], rfl, ?_⟩⟩
  have s0 := same_up (o := .tup ([] : List V)) n0
  refine ⟨ie.keep (same_t s0), sh, ⟨t0, rfl, upd_same⟩, same_seqT s0 etp, L2.Paired.mapP pmk fun a b z => z.keep (same_t s0), hd, by simp; omega, by omega, by omega, fun vr H1 hv1 s1 => ?_⟩
  have s01 := s0.trans s1
  have ea1 := s01 _ _ ea
  refine ⟨_, rfl, a, CL, dx, _, rfl, ea1, L.cl, L.nR, by simp, ?_⟩
  have b1 : But a H1 (upd H1 a (.ins CL dx (putF "root" vr []))) := fun b o nb z => by rw [upd_ne nb]; exact z
  have k1 := KI.but (CS := CS) ea1 b1
  have hv2 := hv1.keep k1 _ _ _ _
  have ea2 : (upd H1 a (.ins CL dx (putF "root" vr []))) a = some (.ins CL dx (putF "root" vr [])) := upd_same
  generalize (upd H1 a (.ins CL dx (putF "root" vr []))) = H2 at b1 k1 hv2 ea2 ⊢
  -- the spans
  refine ⟨_, rfl, a, CL, dx, _, _, rfl, ea2, L.cl, L.nR, by ((repeat (first | (rw [lookup_putF, if_pos rfl]) | rw [lookup_putF, if_neg (by decide +kernel)]))), vr, e, [], 0, mk, rfl, hv2, by omega, fun l rows H3 nl el pr s3 => ?_⟩
  have hrl : rows.length = e.nodes := by rw [pr.length, spn_len]
  -- who owns a step
  refine ⟨_, rfl, l, rfl, ⟨_, SqL.of el⟩, fun D nD => ?_⟩
  have hok := okeys_nodup e [] 0
  have hkl := okeys_len e [] 0
  refine ⟨fun i m G => m = rows.length - i ∧ i ≤ rows.length ∧ Same H3 G ∧ ∃ kvs, G D = some (.dK kvs) ∧ DictOk CS mk H3 e kvs (okeys ((e.spn [] 0).take i)), ⟨_, rfl, Nat.zero_le _, same_up nD, [], upd_same, by simp [okeys], fun q hq => by cases hq⟩, ?_⟩
  rintro i m G ⟨rfl, hi, sG, kvs, eD, dk⟩
  have hS : SqL K G l rows := SqL.of (sG _ _ el)
  have hsub : ∀ i, ∃ z, okeys ((e.spn [] 0).take i) ++ z = okeys (e.spn [] 0) := fun i => ⟨okeys ((e.spn [] 0).drop i), by rw [← okeys_append, List.take_append_drop]⟩
  by_cases hlt : i < rows.length
  · refine .inr ⟨walk_list.goes i G hlt hS, fun G' => Same H3 G' ∧ ∃ kvs, G' D = some (.dK kvs) ∧ DictOk CS mk H3 e kvs (okeys ((e.spn [] 0).take (i + 1))), fun G' h => ⟨rows.length - (i + 1), by omega, rfl, hlt, h⟩, fun u G1 hy => ?_⟩
    obtain ⟨rfl, hu⟩ := walk_list.yields i G u G1 hlt hS hy
    obtain ⟨x, hx, rx⟩ := paired_get pr hu
    have hil : i < (e.spn [] 0).length := (List.getElem?_eq_some_iff.mp hx).1
    have ex : (e.spn [] 0)[i] = x := (List.getElem?_eq_some_iff.mp hx).2
    have hxm : x ∈ e.spn [] 0 := ex ▸ List.getElem_mem _
    have htk : okeys ((e.spn [] 0).take (i + 1)) = okeys ((e.spn [] 0).take i) ++ x.own := by
      rw [take_succ_get _ i hil, okeys_append, ex]
      simp [okeys]
    have hnod : (okeys ((e.spn [] 0).take i) ++ x.own).Nodup := by
      obtain ⟨z, hz⟩ := hsub (i + 1)
      rw [← hz, htk] at hok
      exact (List.nodup_append.mp hok).1
    have hll : (okeys ((e.spn [] 0).take i) ++ x.own).length ≤ e.steps := by
      obtain ⟨z, hz⟩ := hsub (i + 1)
      rw [← hkl, ← hz, htk, List.length_append (as := _ ++ _)]
      omega
    refine ⟨rfl, yes_i ⟨u, x, rfl, rx.keep (KI.same sG), fun qo eqo => ?_⟩⟩
    refine ⟨fun j k G' => k = x.own.length - j ∧ j ≤ x.own.length ∧ Same H3 G' ∧ G' qo = some (.tup (nv_ x.own)) ∧ ∃ kvs, G' D = some (.dK kvs) ∧ DictOk CS mk H3 e kvs (okeys ((e.spn [] 0).take i) ++ x.own.take j), ⟨_, rfl, Nat.zero_le _, sG, eqo, kvs, eD, by rw [List.take_zero, List.append_nil]; exact dk⟩, ?_⟩
    rintro j k G2 ⟨rfl, hj, sG2, eq2, kvs2, eD2, dk2⟩
    have hS2 : SqT K G2 qo (nv_ x.own) := SqT.of eq2
    have hnl : (nv_ x.own).length = x.own.length := by simp [nv_]
    by_cases hlj : j < x.own.length
    · refine .inr ⟨walk_tup.goes j G2 (by rw [hnl]; exact hlj) hS2, fun G' => Same H3 G' ∧ G' qo = some (.tup (nv_ x.own)) ∧ ∃ kvs, G' D = some (.dK kvs) ∧ DictOk CS mk H3 e kvs (okeys ((e.spn [] 0).take i) ++ x.own.take (j + 1)), fun G' h => ⟨x.own.length - (j + 1), by omega, rfl, hlj, h⟩, fun u2 G3 hy2 => ?_⟩
      obtain ⟨rfl, hu2⟩ := walk_tup.yields j G2 u2 G3 (by rw [hnl]; exact hlj) hS2 hy2
      have eu2 : u2 = .int ((x.own[j] : Nat) : Int) := by
        unfold nv_ at hu2
        rw [List.getElem?_map, List.getElem?_eq_getElem hlj] at hu2
        exact (Option.some.inj hu2).symm
      subst eu2
      have hno : x.own[j] ∉ okeys ((e.spn [] 0).take i) ++ x.own.take j := by
        intro hc
        rcases List.mem_append.mp hc with h | h
        · exact (List.nodup_append.mp hnod).2.2 _ h _ (List.getElem_mem hlj) rfl
        · obtain ⟨j', h1, h2⟩ := List.mem_take_iff_getElem.mp h
          have hnx := (List.nodup_append.mp hnod).2.1
          have := (List.nodup_iff_pairwise_ne.mp hnx)
          rw [List.pairwise_iff_getElem] at this
          exact this j' j (by omega) hlj (by omega) h2
      refine ⟨rfl, yes_i ⟨_, rfl, _, rfl, kvs2, Sum.inl ((x.own[j] : Nat) : Int), rfl, eD2, ?_, fun b o z => ?_, ?_, _, upd_same, ?_⟩⟩
      · rw [dk2.len, List.length_append, List.length_take]
        rw [List.length_append] at hll
        refine Nat.lt_of_le_of_lt (m := 900) (by omega) ?_
        rw [sizeLine_eq]; decide
      · rw [upd_ne (ne_of_none z nD)]; exact sG2 _ _ z
      · rw [upd_ne (fun w => by rw [w, eD2] at eq2; cases eq2)]; exact eq2
      · have := dk2.put hno hxm rx (List.getElem_mem hlj)
        rwa [List.append_assoc, ← take_succ_get _ j hlj] at this
    · have ej : j = x.own.length := by omega
      subst ej
      refine .inl ⟨?_, sG2, kvs2, eD2, ?_⟩
      · have := walk_tup.stops G2 hS2
        rwa [hnl] at this
      · rw [List.take_length] at dk2
        rw [htk]
        exact dk2
  have ei : i = rows.length := by omega
  subst ei
  refine .inl ⟨walk_list.stops G hS, ?_⟩
  rw [pr.length, List.take_length] at dk
  have prG := L2.Paired.mapP pr fun a b z => z.keep (KI.same sG)
  have elG := sG _ _ el
  -- the guards
  refine ⟨_, rfl, l, rfl, ⟨_, SqL.of elG⟩, fun Dg nDg => ?_⟩
  refine lc_list (K := K) (a := l) (xs := rows) (fun i H' => ∃ acc, H' Dg = some (.lst acc) ∧ Paired (PathAt H') acc ((((e.spn [] 0).take i).filter fun x => x.2.1.gd).map (·.1)) ∧ Same G H') ⟨[], upd_same, .nil, same_up nDg⟩ (fun i H' _ ⟨_, _, _, z⟩ => SqL.of (z _ _ elG)) ?_ ?_
  · rintro i u H4 hi ⟨acc, eA, pa, s4⟩
    obtain ⟨x, hx, rx⟩ := paired_get prG hi
    have hil : i < (e.spn [] 0).length := (List.getElem?_eq_some_iff.mp hx).1
    have ex : (e.spn [] 0)[i] = x := (List.getElem?_eq_some_iff.mp hx).2
    refine ⟨rfl, u, x, rfl, rx.keep (KI.same s4), ?_⟩
    rw [take_succ_get _ i hil, ex, List.filter_append, List.map_append]
    cases hg : x.2.1.gd with
    | false =>
      refine iteF ⟨acc, eA, ?_, s4⟩
      rw [List.filter_cons_of_neg (by simp [hg])]
      simpa using pa
    | true =>
      rw [List.filter_cons_of_pos (by simp [hg])]
      refine iteT ⟨u, x, rfl, rx.keep (KI.same s4), fun vp hvp => ?_⟩
      have hal : acc.length ≤ 200 := by
        rw [pa.length, List.length_map]
        refine Nat.le_trans (List.length_filter_le _ _) ?_
        rw [List.length_take, spn_len]
        omega
      have ku : ∀ q xs, H4 q = some (.tup xs) → (upd H4 Dg (.lst (acc ++ [vp]))) q = some (.tup xs) := fun q xs z => by
        rw [upd_ne (fun w => by rw [w, eA] at z; cases z)]; exact z
      exact ⟨acc, eA, small1000 (by omega), acc ++ [vp], upd_same, paired_append (L2.Paired.mapP pa fun a b z => z.keep ku) (.cons (hvp.keep ku) .nil), fun b o z => by rw [upd_ne (ne_of_none z nDg)]; exact s4 _ _ z⟩
  rintro H4 ⟨accg, eAg, pag, s4⟩
  rw [hrl, ← spn_len e [] 0, List.take_length] at pag
  have s24 := s3.trans (sG.trans s4)
  have ea4 := s24 _ _ ea2
  have el4 := s4 _ _ elG
  have pr4 := L2.Paired.mapP prG fun a b z => z.keep (KI.same s4)
  have eD4 := s4 _ _ eD
  have dk4 : DictOk CS mk H4 e kvs (okeys (e.spn [] 0)) := ⟨dk.k, fun q hq => let ⟨x, h1, h2, h3⟩ := dk.v q hq; ⟨x, h1, h2.keep (KI.same (sG.trans s4)), h3⟩⟩
  -- spans
  refine ⟨_, rfl, .inl ⟨l, rows, rfl, SqL.of el4, fun tsp nsp => ?_⟩⟩
  have sp5 := same_up (o := .tup rows) nsp
  refine ⟨_, rfl, a, CL, dx, _, rfl, sp5 _ _ ea4, L.cl, L.nS, by ((refine Nat.lt_of_le_of_lt (m := 40) ?_ (by decide); repeat (first | exact Nat.zero_le _ | refine putF_len _ _ _ ?_))), ?_⟩
  have b5 : But a H4 (upd (upd H4 tsp (.tup rows)) a (.ins CL dx (putF "spans" (.ref tsp) (putF "root" vr [])))) := fun b o nb z => by rw [upd_ne nb]; exact sp5 _ _ z
  have k5 := KI.but (CS := CS) ea4 b5
  have ea5 : (upd (upd H4 tsp (.tup rows)) a (.ins CL dx (putF "spans" (.ref tsp) (putF "root" vr [])))) a = some (.ins CL dx (putF "spans" (.ref tsp) (putF "root" vr []))) := upd_same
  have et5 : (upd (upd H4 tsp (.tup rows)) a (.ins CL dx (putF "spans" (.ref tsp) (putF "root" vr [])))) tsp = some (.tup rows) := by
    rw [upd_ne (fun w => by rw [← w, nsp] at ea4; cases ea4)]; exact upd_same
  generalize (upd (upd H4 tsp (.tup rows)) a (.ins CL dx (putF "spans" (.ref tsp) (putF "root" vr [])))) = H5 at b5 k5 ea5 et5 ⊢
  have nDa : D ≠ a := fun w => by rw [w, ea4] at eD4; cases eD4
  have nga : Dg ≠ a := fun w => by rw [w, ea4] at eAg; cases eAg
  have eD5 := b5 _ _ nDa eD4
  have eg5 := b5 _ _ nga eAg
  -- the owners
  refine ⟨_, rfl, D, kvs, rfl, eD5, ?_⟩
  refine ⟨_, rfl, by rw [dk.len]; omega, by rw [dk.len]; omega, fun D2 nD2 => ?_⟩
  have hkk : kvs.length = e.steps := by rw [dk.len, hkl]
  refine lc_range (lo := 0) (n := kvs.length) (fun i H' => Same H5 H' ∧ ∃ acc, H' D2 = some (.lst acc) ∧ acc.length = i ∧ ∀ j, j < i → ∃ v x, acc[j]? = some v ∧ x ∈ e.spn [] 0 ∧ SpanR CS mk H4 v x ∧ j ∈ x.own) ?_ ?_ ?_
  · exact ⟨same_up nD2, [], upd_same, rfl, fun j hj => by omega⟩
  · rintro i H6 hi ⟨s6, acc, eA, hal, hrow⟩
    obtain ⟨v, x, h1, h2, h3, h4⟩ := dk4.get ((okeys_mem e [] 0 i).mpr ⟨by omega, by omega⟩)
    refine ⟨rfl, yes_i ⟨D, kvs, i, v, rfl, rfl, s6 _ _ eD5, h1, acc, eA, small1000 (by omega), fun b o z => by rw [upd_ne (ne_of_none z nD2)]; exact s6 _ _ z, acc ++ [v], upd_same, by simp [hal], fun j hj => ?_⟩⟩
    by_cases hji : j < i
    · obtain ⟨v', x', g1, g2, g3, g4⟩ := hrow j hji
      exact ⟨v', x', by rw [List.getElem?_append_left (by omega)]; exact g1, g2, g3, g4⟩
    · have : j = i := by omega
      subst this
      exact ⟨v, x, by rw [List.getElem?_append_right (by omega), hal, Nat.sub_self]; rfl, h2, h3, h4⟩
  rintro H6 ⟨s6, acco, eA6, hal6, hrow6⟩
  refine .inl ⟨D2, acco, rfl, SqL.of eA6, fun tow now => ?_⟩
  have sp6 := same_up (o := .tup acco) now
  have s56 := s6.trans sp6
  have ea6 := s56 _ _ ea5
  refine ⟨_, rfl, a, CL, dx, _, rfl, ea6, L.cl, L.nO, by ((refine Nat.lt_of_le_of_lt (m := 40) ?_ (by decide); repeat (first | exact Nat.zero_le _ | refine putF_len _ _ _ ?_))), ?_⟩
  have b7 : But a H5 (upd (upd H6 tow (.tup acco)) a (.ins CL dx (putF "owners" (.ref tow) (putF "spans" (.ref tsp) (putF "root" vr []))))) := fun b o nb z => by rw [upd_ne nb]; exact s56 _ _ z
  have k7 := k5.trans (KI.but (CS := CS) ea5 b7)
  have ea7 : (upd (upd H6 tow (.tup acco)) a (.ins CL dx (putF "owners" (.ref tow) (putF "spans" (.ref tsp) (putF "root" vr []))))) a = some (.ins CL dx (putF "owners" (.ref tow) (putF "spans" (.ref tsp) (putF "root" vr [])))) := upd_same
  have et7 : (upd (upd H6 tow (.tup acco)) a (.ins CL dx (putF "owners" (.ref tow) (putF "spans" (.ref tsp) (putF "root" vr []))))) tow = some (.tup acco) := by
    rw [upd_ne (fun w => by rw [← w, upd_same] at ea6; cases ea6)]; exact upd_same
  have eg7 := b7 _ _ nga eg5
  have hrow7 : ∀ j, j < e.steps → ∃ v x, acco[j]? = some v ∧ x ∈ e.spn [] 0 ∧ SpanR CS mk (upd (upd H6 tow (.tup acco)) a (.ins CL dx (putF "owners" (.ref tow) (putF "spans" (.ref tsp) (putF "root" vr []))))) v x ∧ j ∈ x.own := fun j hj => let ⟨v, x, h1, h2, h3, h4⟩ := hrow6 j (by omega); ⟨v, x, h1, h2, h3.keep k7, h4⟩
  have b17 : But a H1 (upd (upd H6 tow (.tup acco)) a (.ins CL dx (putF "owners" (.ref tow) (putF "spans" (.ref tsp) (putF "root" vr []))))) := fun b o nb z => b7 b o nb (b5 b o nb (s24 _ _ (b1 b o nb z)))
  generalize (upd (upd H6 tow (.tup acco)) a (.ins CL dx (putF "owners" (.ref tow) (putF "spans" (.ref tsp) (putF "root" vr []))))) = H7 at b7 k7 ea7 et7 eg7 hrow7 b17 ⊢
  have hB7 : BookAt CF CB H7 vb fns := (hB.keep s01).but ea1 b17
  -- the steps
  refine ⟨_, rfl, a, CL, dx, _, _, rfl, ea7, L.cl, L.nO, by ((repeat (first | (rw [lookup_putF, if_pos rfl]) | rw [lookup_putF, if_neg (by decide +kernel)]))), tow, acco, rfl, SqT.of et7, fun D3 nD3 => ?_⟩
  have hsl := stepL_steps kw e [] ew
  refine lc_it walk_enumU (fun i H' => Same H7 H' ∧ ∃ acc, H' D3 = some (.lst acc) ∧ Paired (StepAt H') acc ((e.stepL fns []).take i)) ⟨same_up nD3, [], upd_same, .nil⟩ (fun i H' _ h => SqT.of (h.1 _ _ et7)) ?_ ?_
  · rintro i x H8 H9 hi ⟨s8, acc, eA, pa⟩ ⟨T0, x', y', rfl, nT, rfl, hx, hy⟩
    have hx' : x' = .int (i : Int) := (Option.some.inj hx).symm
    subst hx'
    have hie : i < e.steps := by omega
    obtain ⟨v, ⟨px, exx, nx⟩, h1, h2, h3, h4⟩ := hrow7 i hie
    have : y' = v := Option.some.inj (hy.symm.trans h1)
    subst this
    have sT := same_up (o := .tup [V.int (i : Int), y']) nT
    have s9 := s8.trans sT
    have h4' := mem_owns.mp h4
    cases exx with
    | num c => simp [Ex.ops, Ex.stepss, Ex.steps] at h4'; omega
    | nd k os =>
      simp only [Ex.ops, Ex.steps] at h4'
      obtain ⟨g1, g2, g3⟩ := stepL_at kw e [] 0 ew px k os nx (i - (nx + Ex.stepss os)) h2 (by omega)
      have ei : nx + Ex.stepss os + (i - (nx + Ex.stepss os)) = i := by omega
      rw [ei, Nat.sub_zero] at g3
      have hil : i < (e.stepL fns []).length := by omega
      rw [List.getElem?_eq_getElem hil] at g3
      refine ⟨T0, _, rfl, SqT.of upd_same, rfl, _, _, rfl, _, _, rfl, rfl, rfl, yes_i ⟨vb, y', ps, k, os, px, nx, i - (nx + Ex.stepss os), _, rfl, rfl, by rw [ei]; rfl, hB7.keep s9, kw, SpanAt.keep (KI.same s9) _ _ _ _ h3, g2, g3.symm, fun u H10 hu s10 => ?_⟩⟩
      have s79 := sT.trans s10
      have eA10 := s79 _ _ eA
      have hal : acc.length ≤ 900 := by rw [pa.length, List.length_take]; omega
      have ku : ∀ q xs, H10 q = some (.tup xs) → (upd H10 D3 (.lst (acc ++ [u]))) q = some (.tup xs) := fun q xs z => by
        rw [upd_ne (fun w => by rw [w, eA10] at z; cases z)]; exact z
      refine ⟨acc, eA10, small1000 (by omega), fun b o z => by rw [upd_ne (ne_of_none z nD3)]; exact s79 _ _ (s8 _ _ z), acc ++ [u], upd_same, ?_⟩
      rw [take_succ_get _ i hil]
      exact paired_append (L2.Paired.mapP pa fun a b z => (z.keep (same_t s79)).keep ku) (.cons (hu.keep ku) .nil)
  rintro H8 ⟨s8, accs, eA8, pa8⟩
  rw [hal6, hkk, ← hsl, List.take_length] at pa8
  refine .inl ⟨D3, accs, rfl, SqL.of eA8, fun tst nst => ?_⟩
  have sp8 := same_up (o := .tup accs) nst
  have s78 := s8.trans sp8
  have ea8 := s78 _ _ ea7
  refine ⟨_, rfl, a, CL, dx, _, rfl, ea8, L.cl, L.nT, by ((refine Nat.lt_of_le_of_lt (m := 40) ?_ (by decide); repeat (first | exact Nat.zero_le _ | refine putF_len _ _ _ ?_))), ?_⟩
  have b9 : But a H7 (upd (upd H8 tst (.tup accs)) a (.ins CL dx (putF "steps" (.ref tst) (putF "owners" (.ref tow) (putF "spans" (.ref tsp) (putF "root" vr [])))))) := fun b o nb z => by rw [upd_ne nb]; exact s78 _ _ z
  have ea9 : (upd (upd H8 tst (.tup accs)) a (.ins CL dx (putF "steps" (.ref tst) (putF "owners" (.ref tow) (putF "spans" (.ref tsp) (putF "root" vr [])))))) a = some (.ins CL dx (putF "steps" (.ref tst) (putF "owners" (.ref tow) (putF "spans" (.ref tsp) (putF "root" vr []))))) := upd_same
  have et9 : (upd (upd H8 tst (.tup accs)) a (.ins CL dx (putF "steps" (.ref tst) (putF "owners" (.ref tow) (putF "spans" (.ref tsp) (putF "root" vr [])))))) tst = some (.tup accs) := by
    rw [upd_ne (fun w => by rw [← w, upd_same] at ea8; cases ea8)]; exact upd_same
  have b19 : But a H1 (upd (upd H8 tst (.tup accs)) a (.ins CL dx (putF "steps" (.ref tst) (putF "owners" (.ref tow) (putF "spans" (.ref tsp) (putF "root" vr [])))))) := fun b o nb z => b9 b o nb (b17 b o nb z)
  have k9 := KI.but (CS := CS) ea7 b9
  have pa9 : Paired (StepAt (upd (upd H8 tst (.tup accs)) a (.ins CL dx (putF "steps" (.ref tst) (putF "owners" (.ref tow) (putF "spans" (.ref tsp) (putF "root" vr []))))))) accs (e.stepL fns []) := L2.Paired.mapP pa8 fun u r z => z.keep fun q xs y => by
    rw [upd_ne (fun w => by rw [w] at y; have := sp8 _ _ y; rw [this] at ea8; cases ea8)]
    exact sp8 _ _ y
  have eg9 := b9 _ _ nga eg7
  generalize (upd (upd H8 tst (.tup accs)) a (.ins CL dx (putF "steps" (.ref tst) (putF "owners" (.ref tow) (putF "spans" (.ref tsp) (putF "root" vr [])))))) = H9 at b9 ea9 et9 b19 k9 pa9 eg9 ⊢
  -- the relations
  have hv9 : SpanAt CS mk H9 e [] 0 vr := hv1.keep (KI.but (CS := CS) ea1 b19) _ _ _ _
  refine ⟨_, rfl, a, CL, dx, _, _, rfl, ea9, L.cl, L.nR, by ((repeat (first | (rw [lookup_putF, if_pos rfl]) | rw [lookup_putF, if_neg (by decide +kernel)]))), vr, e, [], mk, rfl, hv9, by omega, fun t tb te bl el H10 et etb ete hbl hel s10 => ?_⟩
  have ea10 := s10 _ _ ea9
  refine ⟨t, _, rfl, SqT.of et, rfl, _, _, rfl, _, rfl, a, CL, dx, _, rfl, ea10, L.cl, L.nB, by ((refine Nat.lt_of_le_of_lt (m := 40) ?_ (by decide); repeat (first | exact Nat.zero_le _ | refine putF_len _ _ _ ?_))), _, _, rfl, _, rfl, a, CL, dx, _, rfl, upd_same, L.cl, L.nE, by ((refine Nat.lt_of_le_of_lt (m := 40) ?_ (by decide); repeat (first | exact Nat.zero_le _ | refine putF_len _ _ _ ?_))), rfl, ?_⟩
  have nea : te ≠ a := fun w => by rw [w, ea10] at ete; cases ete
  have nba : tb ≠ a := fun w => by rw [w, ea10] at etb; cases etb
  have b11 : But a H9 (upd (upd H10 a (.ins CL dx (putF "befores" (.ref tb) (putF "steps" (.ref tst) (putF "owners" (.ref tow) (putF "spans" (.ref tsp) (putF "root" vr []))))))) a (.ins CL dx (putF "besides" (.ref te) (putF "befores" (.ref tb) (putF "steps" (.ref tst) (putF "owners" (.ref tow) (putF "spans" (.ref tsp) (putF "root" vr [])))))))) := fun b o nb z => by rw [upd_ne nb, upd_ne nb]; exact s10 _ _ z
  have ea11 : (upd (upd H10 a (.ins CL dx (putF "befores" (.ref tb) (putF "steps" (.ref tst) (putF "owners" (.ref tow) (putF "spans" (.ref tsp) (putF "root" vr []))))))) a (.ins CL dx (putF "besides" (.ref te) (putF "befores" (.ref tb) (putF "steps" (.ref tst) (putF "owners" (.ref tow) (putF "spans" (.ref tsp) (putF "root" vr [])))))))) a = some (.ins CL dx (putF "besides" (.ref te) (putF "befores" (.ref tb) (putF "steps" (.ref tst) (putF "owners" (.ref tow) (putF "spans" (.ref tsp) (putF "root" vr []))))))) := upd_same
  have etb11 : (upd (upd H10 a (.ins CL dx (putF "befores" (.ref tb) (putF "steps" (.ref tst) (putF "owners" (.ref tow) (putF "spans" (.ref tsp) (putF "root" vr []))))))) a (.ins CL dx (putF "besides" (.ref te) (putF "befores" (.ref tb) (putF "steps" (.ref tst) (putF "owners" (.ref tow) (putF "spans" (.ref tsp) (putF "root" vr [])))))))) tb = some (.tup bl) := by rw [upd_ne nba, upd_ne nba]; exact etb
  have ete11 : (upd (upd H10 a (.ins CL dx (putF "befores" (.ref tb) (putF "steps" (.ref tst) (putF "owners" (.ref tow) (putF "spans" (.ref tsp) (putF "root" vr []))))))) a (.ins CL dx (putF "besides" (.ref te) (putF "befores" (.ref tb) (putF "steps" (.ref tst) (putF "owners" (.ref tow) (putF "spans" (.ref tsp) (putF "root" vr [])))))))) te = some (.tup el) := by rw [upd_ne nea, upd_ne nea]; exact ete
  generalize (upd (upd H10 a (.ins CL dx (putF "befores" (.ref tb) (putF "steps" (.ref tst) (putF "owners" (.ref tow) (putF "spans" (.ref tsp) (putF "root" vr []))))))) a (.ins CL dx (putF "besides" (.ref te) (putF "befores" (.ref tb) (putF "steps" (.ref tst) (putF "owners" (.ref tow) (putF "spans" (.ref tsp) (putF "root" vr [])))))))) = H11 at b11 ea11 etb11 ete11 ⊢
  -- the steps that store
  have nta : tst ≠ a := fun w => by rw [w, ea9] at et9; cases et9
  have et11 := b11 _ _ nta et9
  have pa11 : Paired (StepAt H11) accs (e.stepL fns []) := L2.Paired.mapP pa9 fun u r z => z.keep fun q xs y => b11 _ _ (fun w => by rw [w, ea9] at y; cases y) y
  refine ⟨_, rfl, a, CL, dx, _, _, rfl, ea11, L.cl, L.nT, by ((repeat (first | (rw [lookup_putF, if_pos rfl]) | rw [lookup_putF, if_neg (by decide +kernel)]))), tst, accs, rfl, SqT.of et11, fun D4 nD4 => ?_⟩
  refine lc_it walk_enumU (fun i H' => Same H11 H' ∧ ∃ acc : List Int, H' D4 = some (.lst (acc.map V.int)) ∧ acc.length ≤ i) ⟨same_up nD4, [], upd_same, Nat.zero_le _⟩ (fun i H' _ h => SqT.of (h.1 _ _ et11)) ?_ ?_
  · rintro i x H12 H13 hi ⟨s12, acc, eA, hla⟩ ⟨T0, x', y', rfl, nT, rfl, hx, hy⟩
    have hx' : x' = .int (i : Int) := (Option.some.inj hx).symm
    subst hx'
    obtain ⟨r, hr0, hrow⟩ := paired_get pa11 hy
    have hie : i < (e.stepL fns []).length := (List.getElem?_eq_some_iff.mp hr0).1
    have sT := same_up (o := .tup [V.int (i : Int), y']) nT
    have s13 := s12.trans sT
    refine ⟨T0, _, rfl, SqT.of upd_same, rfl, _, _, rfl, _, _, rfl, rfl, rfl, y', r, rfl, hrow.keep (same_t s13), fun b => ?_⟩
    have eA13 := sT _ _ eA
    cases b with
    | false => exact iteF ⟨s13, acc, eA13, by omega⟩
    | true =>
      refine iteT ⟨i, rfl, by omega, acc.map V.int, eA13, small1000 (by rw [List.length_map]; omega), fun b o z => ?_, acc ++ [2 ^ i], ?_, ?_⟩
      · rw [upd_ne (ne_of_none z nD4)]
        exact s13 _ _ z
      · rw [List.map_append]
        exact upd_same
      · rw [List.length_append, List.length_singleton]
        omega
  rintro H12 ⟨s12, acc4, eA4, _⟩
  refine ⟨D4, acc4, rfl, SqL.of eA4, ?_⟩
  generalize acc4.sum = xs
  have ea12 := s12 _ _ ea11
  refine ⟨_, rfl, a, CL, dx, _, rfl, ea12, L.cl, L.nH, by ((refine Nat.lt_of_le_of_lt (m := 40) ?_ (by decide); repeat (first | exact Nat.zero_le _ | refine putF_len _ _ _ ?_))), ?_⟩
  have b13 : But a H11 (upd H12 a (.ins CL dx (putF "stored" (.int xs) (putF "besides" (.ref te) (putF "befores" (.ref tb) (putF "steps" (.ref tst) (putF "owners" (.ref tow) (putF "spans" (.ref tsp) (putF "root" vr []))))))))) := fun b o nb z => by rw [upd_ne nb]; exact s12 _ _ z
  have ea13 : (upd H12 a (.ins CL dx (putF "stored" (.int xs) (putF "besides" (.ref te) (putF "befores" (.ref tb) (putF "steps" (.ref tst) (putF "owners" (.ref tow) (putF "spans" (.ref tsp) (putF "root" vr []))))))))) a = some (.ins CL dx (putF "stored" (.int xs) (putF "besides" (.ref te) (putF "befores" (.ref tb) (putF "steps" (.ref tst) (putF "owners" (.ref tow) (putF "spans" (.ref tsp) (putF "root" vr [])))))))) := upd_same
  generalize (upd H12 a (.ins CL dx (putF "stored" (.int xs) (putF "besides" (.ref te) (putF "befores" (.ref tb) (putF "steps" (.ref tst) (putF "owners" (.ref tow) (putF "spans" (.ref tsp) (putF "root" vr []))))))))) = H13 at b13 ea13 ⊢
  have b113 : But a H1 H13 := fun b o nb z => b13 b o nb (b11 b o nb (b19 b o nb z))
  have hB13 : BookAt CF CB H13 vb fns := (hB.keep s01).but ea1 b113
  have hv13 : SpanAt CS mk H13 e [] 0 vr := hv1.keep (KI.but (CS := CS) ea1 b113) _ _ _ _
  refine ⟨_, rfl, a, CL, dx, _, _, rfl, ea13, L.cl, L.nH, by ((repeat (first | (rw [lookup_putF, if_pos rfl]) | rw [lookup_putF, if_neg (by decide +kernel)]))), _, rfl, _, rfl, a, CL, dx, _, _, rfl, ea13, L.cl, L.nR, by ((repeat (first | (rw [lookup_putF, if_pos rfl]) | rw [lookup_putF, if_neg (by decide +kernel)]))), vb, vr, false, ps, fns, mk, e, [], 0, rfl, hB13, kw, hv13, ew, hd, by omega, fun xu0 H14 s14 => ?_⟩
  have ea14 := s14 _ _ ea13
  refine ⟨_, _, rfl, rfl, _, rfl, a, CL, dx, _, rfl, ea14, L.cl, L.nU, by ((refine Nat.lt_of_le_of_lt (m := 40) ?_ (by decide); repeat (first | exact Nat.zero_le _ | refine putF_len _ _ _ ?_))), ?_⟩
  generalize hxu : (fun i j => V.int (Builtin.bitOr i j)) xs xu0 = vxu
  obtain ⟨xu, rfl⟩ : ∃ xu : Int, vxu = .int xu := ⟨_, hxu.symm⟩
  clear hxu
  have etb12 := b13 _ _ nba etb11
  have ete12 := b13 _ _ nea ete11
  have b15 : But a H13 (upd H14 a (.ins CL dx (putF "unasked" (.int xu) (putF "stored" (.int xs) (putF "besides" (.ref te) (putF "befores" (.ref tb) (putF "steps" (.ref tst) (putF "owners" (.ref tow) (putF "spans" (.ref tsp) (putF "root" vr [])))))))))) := fun b o nb z => by rw [upd_ne nb]; exact s14 _ _ z
  have etb15 := b15 _ _ nba etb12
  have ete15 := b15 _ _ nea ete12
  have b915 : But a H9 (upd H14 a (.ins CL dx (putF "unasked" (.int xu) (putF "stored" (.int xs) (putF "besides" (.ref te) (putF "befores" (.ref tb) (putF "steps" (.ref tst) (putF "owners" (.ref tow) (putF "spans" (.ref tsp) (putF "root" vr [])))))))))) := fun b o nb z => b15 b o nb (b13 b o nb (b11 b o nb z))
  have ea15 : (upd H14 a (.ins CL dx (putF "unasked" (.int xu) (putF "stored" (.int xs) (putF "besides" (.ref te) (putF "befores" (.ref tb) (putF "steps" (.ref tst) (putF "owners" (.ref tow) (putF "spans" (.ref tsp) (putF "root" vr [])))))))))) a = some (.ins CL dx (putF "unasked" (.int xu) (putF "stored" (.int xs) (putF "besides" (.ref te) (putF "befores" (.ref tb) (putF "steps" (.ref tst) (putF "owners" (.ref tow) (putF "spans" (.ref tsp) (putF "root" vr []))))))))) := upd_same
  generalize (upd H14 a (.ins CL dx (putF "unasked" (.int xu) (putF "stored" (.int xs) (putF "besides" (.ref te) (putF "befores" (.ref tb) (putF "steps" (.ref tst) (putF "owners" (.ref tow) (putF "spans" (.ref tsp) (putF "root" vr [])))))))))) = H15 at b915 ea15 etb15 ete15 ⊢
  clear etb12 ete12
  replace b11 := b915
  clear b915
  replace ea11 := ea15
  replace etb11 := etb15
  replace ete11 := ete15
  have eg11 := b11 _ _ nga eg9
  have k4b : KI CS H4 H15 := k7.trans (k9.trans (KI.but (CS := CS) ea9 b11))
  have b111 : But a H1 H15 := fun b o nb z => b11 b o nb (b19 b o nb z)
  have bH : But a H H15 := fun b o nb z => b111 b o nb (s01 _ _ z)
  have kt : ∀ (H' : Hp) q xs, H' q = some (.tup xs) → But a H' H15 → (∃ fs, H' a = some (.ins CL dx fs)) → H15 q = some (.tup xs) := fun H' q xs z b ⟨fs, y⟩ => b _ _ (fun w => by rw [w, y] at z; cases z) z
  have b511 : But a H5 H15 := fun b o nb z => b11 b o nb (b9 b o nb (b7 b o nb z))
  have b711 : But a H7 H15 := fun b o nb z => b11 b o nb (b9 b o nb z)
  have fin : ∀ vg, GuardV H15 vg e.guards → LayO CS (upd H15 a (.ins CL dx (putF "guard" vg (putF "unasked" (.int xu) (putF "stored" (.int xs) (putF "besides" (.ref te) (putF "befores" (.ref tb) (putF "steps" (.ref tst) (putF "owners" (.ref tow) (putF "spans" (.ref tsp) (putF "root" vr []))))))))))) (putF "guard" vg (putF "unasked" (.int xu) (putF "stored" (.int xs) (putF "besides" (.ref te) (putF "befores" (.ref tb) (putF "steps" (.ref tst) (putF "owners" (.ref tow) (putF "spans" (.ref tsp) (putF "root" vr []))))))))) fns e mk vr tsp tow tst tb te vg rows acco accs bl el := fun vg hg => by
    have b12 : But a H15 (upd H15 a (.ins CL dx (putF "guard" vg (putF "unasked" (.int xu) (putF "stored" (.int xs) (putF "besides" (.ref te) (putF "befores" (.ref tb) (putF "steps" (.ref tst) (putF "owners" (.ref tow) (putF "spans" (.ref tsp) (putF "root" vr []))))))))))) := fun b o nb z => by rw [upd_ne nb]; exact z
    have k12 := KI.but (CS := CS) ea11 b12
    have kt12 := k12.1
    refine ⟨⟨by ((repeat (first | (rw [lookup_putF, if_pos rfl]) | rw [lookup_putF, if_neg (by decide +kernel)]))), by ((repeat (first | (rw [lookup_putF, if_pos rfl]) | rw [lookup_putF, if_neg (by decide +kernel)]))), by ((repeat (first | (rw [lookup_putF, if_pos rfl]) | rw [lookup_putF, if_neg (by decide +kernel)]))), by ((repeat (first | (rw [lookup_putF, if_pos rfl]) | rw [lookup_putF, if_neg (by decide +kernel)]))), by ((repeat (first | (rw [lookup_putF, if_pos rfl]) | rw [lookup_putF, if_neg (by decide +kernel)]))), by ((repeat (first | (rw [lookup_putF, if_pos rfl]) | rw [lookup_putF, if_neg (by decide +kernel)]))), by ((repeat (first | (rw [lookup_putF, if_pos rfl]) | rw [lookup_putF, if_neg (by decide +kernel)])))⟩, hv1.keep (KI.but (CS := CS) ea1 fun b o nb z => b12 b o nb (b111 b o nb z)) _ _ _ _, kt12 _ _ (kt H5 _ _ et5 b511 ⟨_, ea5⟩), L2.Paired.mapP pr4 fun a b z => z.keep (k4b.trans k12), kt12 _ _ (kt H7 _ _ et7 b711 ⟨_, ea7⟩), ⟨by rw [hal6, hkk], fun j hj => ?_⟩, kt12 _ _ (kt H9 _ _ et9 b11 ⟨_, ea9⟩), L2.Paired.mapP pa9 fun u r z => (z.keep fun q xs y => kt H9 q xs y b11 ⟨_, ea9⟩).keep kt12, kt12 _ _ etb11, hbl, kt12 _ _ ete11, hel, ?_⟩
    · obtain ⟨v, x, h1, h2, h3, h4⟩ := hrow6 j (by omega)
      exact ⟨v, x, h1, h2, h3.keep (k4b.trans k12), h4⟩
    · generalize e.guards = gs at hg ⊢
      cases gs with
      | nil => exact hg
      | cons p r => exact PathAt.keep kt12 hg
  have pag11 : Paired (PathAt H15) accg e.guards := L2.Paired.mapP pag fun u p z => z.keep fun q xs y => kt H4 q xs y (fun b o nb z => b511 b o nb (b5 b o nb z)) ⟨_, ea4⟩
  refine ⟨_, rfl, Dg, _, rfl, .inl (SqL.of eg11), _, _, rfl, rfl, _, rfl, ?_⟩
  have endq : ∀ vg, GuardV H15 vg e.guards → Q .non (upd H15 a (.ins CL dx (putF "guard" vg (putF "unasked" (.int xu) (putF "stored" (.int xs) (putF "besides" (.ref te) (putF "befores" (.ref tb) (putF "steps" (.ref tst) (putF "owners" (.ref tow) (putF "spans" (.ref tsp) (putF "root" vr []))))))))))) := fun vg hg =>
    q _ ⟨a, dx, _, vr, tsp, tow, tst, tb, te, vg, rows, acco, accs, bl, el, rfl, upd_same, fin vg hg⟩ fun b o nb z => by rw [upd_ne nb]; exact bH b o nb z
  cases hgs : e.guards with
  | nil =>
    rw [hgs] at pag11
    cases pag11
    refine iteNo (by simp) ?_
    refine ⟨_, rfl, a, CL, dx, _, rfl, ea11, L.cl, L.nG, by ((refine Nat.lt_of_le_of_lt (m := 40) ?_ (by decide); repeat (first | exact Nat.zero_le _ | refine putF_len _ _ _ ?_))), ?_⟩
    exact endq .non (by rw [hgs]; rfl)
  | cons p r =>
    rw [hgs] at pag11
    cases pag11 with
    | cons hp hr' =>
      rename_i vp accr
      refine iteYes (by simp) ?_
      refine ⟨_, rfl, Dg, _, _, _, rfl, rfl, SqL.of eg11, at0 _ _, ?_⟩
      refine ⟨_, rfl, a, CL, dx, _, rfl, ea11, L.cl, L.nG, by ((refine Nat.lt_of_le_of_lt (m := 40) ?_ (by decide); repeat (first | exact Nat.zero_le _ | refine putF_len _ _ _ ?_))), ?_⟩
      exact endq vp (by rw [hgs]; exact hp)
end
end Oo
/-! sorted of tuples of ints, whatever their order -/
namespace Oo
open PySem PySem.SeqAt PySem.W PySem.Calls PyProof.Rows
section
variable {prog : Program} {w : World} {A : Around} {E : Value → Shared → Prop} {s : Shared}
theorem firsts_at2 : ∀ {vs : List Value} {ds : List (List PyData)} {Q : List (Option Value) → Shared → Prop}, EachIs (fun v d => ∃ as, Reads s.heap v (.tuple d) as) vs ds →
    (∀ fs : List (Option Value), fs.length = vs.length → (∀ i : Nat, ds[i]? = some [] → fs[i]? = some none) → (∀ (i : Nat) d r, ds[i]? = some (d :: r) → ∃ u, fs[i]? = some (some u)) → Q fs s) → wpAny (model prog w) A (vs.mapM firstOfTuple') Q E s
  | _, _, Q, .nil, h => by
    rw [List.mapM_nil]
    exact wpAny_pure (h [] rfl (fun i z => by simp at z) fun i d r z => by simp at z)
  | v :: vs, d :: ds, Q, .cons ⟨as, r⟩ t, h => by
    rw [List.mapM_cons]
    cases r with
    | @tuple a o xs n _ _ ho hc hd hr =>
      refine wpAny_bind ?_
      rw [kas_first_eq]
      refine wpAny_bind (Looks.here (show Looks (model prog w) s.heap (typeOf (.ref a)) o.cls from (Looks.ld ho).andThen .now) ?_)
      rw [hc, if_neg (by first | decide | simp)]
      refine wpAny_bind (listItems_at ho hd (wpAny_pure (wpAny_bind (firsts_at2 t (Q := fun bs s' => wpAny (model prog w) A (pure (xs[0]? :: bs)) Q E s') fun fs hl hf hg => wpAny_pure (h _ (by simp [hl]) (fun i hi => ?_) fun i d' r' hi => ?_)))))
      · cases i with
        | zero =>
          have e : d = [] := by simpa using hi
          subst e
          have hz := ReadsAll.length _ _ _ hr
          have : xs.size = 0 := by simpa using hz
          simp [this]
        | succ i => simpa using hf i (by simpa using hi)
      · cases i with
        | zero =>
          have e : d = d' :: r' := by simpa using hi
          subst e
          have hz := ReadsAll.length _ _ _ hr
          have : 0 < xs.size := by
            have h2 : xs.size = r'.length + 1 := by simpa using hz
            omega
          exact ⟨xs[0], by simp [this]⟩
        | succ i => simpa using hg i d' r' (by simpa using hi)
theorem kind_mid {vs : List Value} {ds : List (List PyData)} {Q : SortKind → Shared → Prop} (e : EachIs (fun v d => ∃ as, Reads s.heap v (.tuple d) as) vs ds) (h0 : ∃ d r, ds[0]? = some (d :: r)) (h1 : ∃ i : Nat, ds[i]? = some []) (h : Q general' s) : wpAny (model prog w) A (keyKind' vs.toArray) Q E s := by
  rw [kat_kind_eq, List.mapM_toArray, map_eq_pure_bind]
  refine wpAny_bind (wpAny_bind (firsts_at2 e fun fs hlen hf hg => wpAny_pure ?_))
  obtain ⟨i, hi⟩ := h1
  obtain ⟨d, r, hd⟩ := h0
  have hn := hf i hi
  obtain ⟨u, hu⟩ := hg 0 d r hd
  have hno : ¬ ((fs.toArray.all fun x => x.isSome) = true) := by
    simp only [List.all_toArray, List.all_eq_true]
    intro z
    have := z none (List.mem_of_getElem? hn)
    cases this
  have hf0 : (fs.toArray[0]?.bind id).isSome = true := by
    rw [List.getElem?_toArray, hu]
    rfl
  rw [if_neg hno, if_pos hf0]
  exact wpAny_pure h
theorem keyLt'_general (x y : Value) : keyLt' general' x y = oneLt' false x y := rfl
theorem sorts_mid {vs : List Value} {ds : List (List PyData)} (e : EachIs (fun v d => ∃ as, Reads s.heap v (.tuple d) as) vs ds) (e2 : EachIs (fun v d => ∃ as, Reads s.heap v d as) vs (ds.map PyData.tuple)) (h0 : ∃ d r, ds[0]? = some (d :: r)) (h1 : ∃ i : Nat, ds[i]? = some []) (hal : AllAlike (ds.map PyData.tuple))
    (hu : ∀ d, d ∈ ds.map PyData.tuple → A.units + d.depth < cLine) : SortsAt prog w A s (dataKind s.heap (ds.map PyData.tuple)) vs := by
  refine ⟨fun v hv => ?_, general', ?_, fun _ E Q hq => kind_mid e h0 h1 hq⟩
  · obtain ⟨d, hd, as, r⟩ := e2.left v hv
    exact ⟨_, dataKind_some hal hd r⟩
  · intro E x y a b Q ha hb hq
    obtain ⟨d, as, hd, ra, rfl⟩ := dataKind_inv ha
    obtain ⟨d', as', hd', rb, rfl⟩ := dataKind_inv hb
    obtain ⟨xs, _, rfl⟩ := List.mem_map.mp hd
    obtain ⟨ys, _, rfl⟩ := List.mem_map.mp hd'
    rw [keyLt'_general]
    exact kat_one _ _ (lt_data ra rb (hal _ hd _ hd') (fun z => by cases z) (Nat.lt_of_le_of_lt (Nat.add_le_add_left (Nat.min_le_left _ _) _) (hu _ hd)) hq)
end
end Oo
namespace Oo
open PySem L2 PyProof.Rows
def rSortedP2 (K : PySem.W.Frag) : List V → Hp → VK → Prop := fun vs H Q => ∃ (a : Addr) (rows : List V) (ps : List (List Nat)), vs = [.ref a] ∧ SqL K H a rows ∧ Paired (PathAt H) rows ps ∧ ps.length ≤ 1000 ∧
  ∀ (q : Addr) (bs : List (V × List Nat)), H q = none → bs.Perm (rows.zip ps) → bs.Pairwise (fun x y => ¬ pathLt y.2 x.2) → Q (.ref q) (upd H q (.lst (bs.map (·.1))))
theorem cr_sortedP2 {X : Cx} (hu : X.A.units + 64 < cLine) : CallR X (.builtin "sorted") (rSortedP2 X.K) := by
  intro pins s σ H vs us Q I r h
  obtain ⟨a, rows, ps, rfl, hs, pr, hlen, q⟩ := h
  obtain ⟨its, rv, hl, _⟩ := I.list hs
  rw [Vals.ref1 r]
  have hrl : rows.length = ps.length := pr.length
  have hil : its.length = ps.length := by rw [← rv.length]; exact hrl
  let bs := rows.zip ps
  have ebs2 : bs.map (·.2) = ps := zip_snd hrl
  have ebs1 : bs.map (·.1) = rows := zip_fst hrl
  have bl : bs.length = ps.length := by rw [← ebs2, List.length_map]
  let enc : V × List Nat → PyData := fun b => dP b.2
  have emap : bs.map enc = ps.map dP := by rw [← ebs2, List.map_map]; rfl
  have e : PySem.W.EachIs (fun u (b : V × List Nat) => RelV b.1 u) its bs := each_zip (fun u v p x _ => x) rv pr
  have er : PySem.W.EachIs (fun u (b : V × List Nat) => ∃ as, Reads s.heap u (enc b) as) its bs := each_zip (F := PathAt H) (fun u v p x y => Dp.reads I (dP p) v u y.dp x) rv pr
  have hal : PySem.W.AllAlike (bs.map enc) := by rw [emap]; exact alike_paths ps
  have hd1 : ∀ b ∈ bs, X.A.units + 2 + (enc b).depth < cLine := fun b _ => by
    show X.A.units + 2 + (dP b.2).depth < cLine
    rw [depth_path]
    omega
  have hL : its.length ≤ sizeLine := sz (by omega)
  have er' : PySem.W.EachIs (fun v b => ∃ as, Reads (PySem.W.sortingHeap (PySem.W.copyHeap s.heap its) (s.heap.objs.size + 1) its) v (enc b) as) its bs := er.mono fun _ _ ⟨as, r⟩ => ⟨as, PyProof.Rows.Reads.keeps (fun _ _ => PySem.W.sorting_copy_old) r⟩
  let hS := PySem.W.sortingHeap (PySem.W.copyHeap s.heap its) (s.heap.objs.size + 1) its
  have hd2 : ∀ d, d ∈ bs.map enc → X.A.in1.in1.units + d.depth < cLine := fun d hd => by
    obtain ⟨b, hb, rfl⟩ := List.mem_map.mp hd
    have := hd1 b hb
    show X.A.units + 1 + 1 + (enc b).depth < cLine
    omega
  have S : PySem.W.SortsAt X.prog X.w X.A.in1.in1 { s with heap := hS } (PySem.W.dataKind hS (bs.map enc)) its := by
    by_cases hz : ∀ p ∈ ps, p ≠ []
    · refine PySem.W.SortsAt.data (s := { s with heap := hS }) (PySem.W.each_map (R := fun v d => ∃ as, Reads hS v d as) enc er') hal (.inl fun d hd => ?_) hd2
      rw [emap] at hd
      obtain ⟨p, hp, rfl⟩ := List.mem_map.mp hd
      cases p with
      | nil => exact absurd rfl (hz _ hp)
      | cons i p => exact ⟨_, _, rfl⟩
    · have hex : ∃ p, p ∈ ps ∧ p = [] := Classical.byContradiction fun z => hz fun p hp e => z ⟨p, hp, e⟩
      have er2 := PySem.W.each_map (R := fun v d => ∃ as, Reads hS v d as) enc er'
      cases hps : ps with
      | nil => rw [hps] at hex; obtain ⟨p, h, _⟩ := hex; cases h
      | cons p0 t =>
        cases p0 with
        | nil =>
          have em2 : bs.map enc = (([] : List PyData) :: t.map dI).map PyData.tuple := by
            rw [emap, hps]
            simp [dP, dI]
          rw [em2] at er2 hal hd2 ⊢
          exact sorts_first (s := { s with heap := hS }) (each_unmap er2) er2 hal hd2
        | cons i0 r0 =>
          have em2 : bs.map enc = ((dI (i0 :: r0)) :: t.map dI).map PyData.tuple := by
            rw [emap, hps]
            simp [dP, dI]
          rw [em2] at er2 hal hd2 ⊢
          refine sorts_mid (s := { s with heap := hS }) (each_unmap er2) er2 ⟨_, _, rfl⟩ ?_ hal hd2
          obtain ⟨p, hp, rfl⟩ := hex
          rw [hps] at hp
          rcases List.mem_cons.mp hp with h | h
          · cases h
          · obtain ⟨j, hj, ej⟩ := List.getElem_of_mem h
            refine ⟨j + 1, ?_⟩
            rw [List.getElem?_cons_succ, List.getElem?_map, List.getElem?_eq_getElem hj, ej]
            rfl
  have eo := PySem.W.sortVals_data (h' := hS) false e er' hal
  have hv := vals_of_each (fun u b x => x) eo
  have perm := List.mergeSort_perm bs (PySem.W.dataLe false enc)
  have TL := PySem.W.sortLe_total (listOrd itemOrd) false (fun b => PySem.W.keyToks (enc b))
  have pw := List.pairwise_mergeSort (le := PySem.W.dataLe false enc) (fun a b c h1 h2 => TL.trans a b c h1 h2) (fun a b => by
    rcases TL.total a b with h | h
    · exact Bool.or_eq_true_iff.mpr (.inl h)
    · exact Bool.or_eq_true_iff.mpr (.inr h)) bs
  refine PySem.W.sorted_vals hl.isList S hL ?_
  obtain ⟨ep, he'⟩ := PyProof.Rows.sortedAll_at s.heap its (PySem.W.sortVals (PySem.W.dataKind hS (bs.map enc)) false its its).toArray
  refine ⟨.ref _, upd H (s.heap.objs.size + 1) (.lst _), I.laid (t' := s.toks) (fun _ _ => PyProof.Rows.sortedAll_old) (Nat.le_succ _) ⟨?_, _, ep, by simpa using hv, he'⟩, rfl, q _ _ (I.hok.fresh (Nat.le_succ _)) perm ?_⟩
  · rw [List.length_map, perm.length_eq, bl]
    exact sz (by omega)
  · refine pw.imp fun {x y} hxy => ?_
    have h2 : (!PySem.W.dataLt (dP y.2) (dP x.2)) = true := hxy
    intro z
    have z' : PySem.W.dataLt (dP y.2) (dP x.2) = true := z
    rw [z'] at h2
    cases h2
end Oo
namespace Oo
open PySem L2 PyProof.Rows LamX StX ClX
abbrev sTask : Stmt := top 74
abbrev sTInit : Stmt := inClass sTask 2
abbrev sTOpen : Stmt := inClass sTask 5
abbrev sTWith : Stmt := inClass sTask 6
abbrev sTLen : Stmt := inClass sTask 8
abbrev sTStr : Stmt := inClass sTask 9
abbrev sTRepr : Stmt := inClass sTask 10
structure TxT (K : PySem.W.Frag) (C : Addr) (mc : Value) : Prop where
  cl : Cls K C
  nB : NoAttr K C "book"
  nE : NoAttr K C "expression"
  nP : NoAttr K C "points"
  nR : NoAttr K C "rows"
  nL : NoAttr K C "layout"
  rd : CRead K C mc
/-- a task as an object -/
structure TaskFs (fs : List (Str × V)) (vb ve : V) (tp tr : Addr) : Prop where
  b : fs.lookup ("book" : Str) = some vb
  e : fs.lookup ("expression" : Str) = some ve
  p : fs.lookup ("points" : Str) = some (.ref tp)
  r : fs.lookup ("rows" : Str) = some (.ref tr)
  n1 : fs.lookup ("open_nodes" : Str) = none
  n2 : fs.lookup ("with_points" : Str) = none
  n3 : fs.lookup ("nodes" : Str) = none
  n4 : fs.lookup ("node" : Str) = none
  n5 : fs.lookup ("put" : Str) = none
theorem seqT_ext {K : PySem.W.Frag} {H H' : Hp} {a : Addr} {xs : List V} (h : SqT K H a xs) (e : ExtN H H') : SqT K H' a xs := by
  rcases h with (h | ⟨o, h⟩) | h
  · exact .inl (.inl (e _ _ h not_tbl_tup))
  · exact .inl (.inr ⟨o, e _ _ h fun ps z => by cases z⟩)
  · exact .inr h
theorem seqT_but {K : PySem.W.Frag} {CT p dx0 : Addr} {H H' : Hp} (b : But p H H') {fs : List (Str × V)} (hp : H p = some (.ins CT dx0 fs)) {a : Addr} {xs : List V} (h : SqT K H a xs) : SqT K H' a xs := by
  rcases h with (h | ⟨o, h⟩) | h
  · exact .inl (.inl (b _ _ (fun w => by rw [w, hp] at h; cases h) h))
  · exact .inl (.inr ⟨o, b _ _ (fun w => by rw [w, hp] at h; cases h) h⟩)
  · exact .inr h
def TaskAt (K : PySem.W.Frag) (CF CB CT CS CL : Addr) (H : Hp) (v : V) (fns : List Fn) (e : Ex) (mk : List (List Nat)) : Prop := ∃ (p dx : Addr) (fs : List (Str × V)) (vb ve : V) (tp tr : Addr) (rp rr : List V), v = .ref p ∧ H p = some (.ins CT dx fs) ∧ TaskFs fs vb ve tp tr ∧ BookAt CF CB H vb fns ∧ InE H e ve ∧ SqT K H tp rp ∧ Paired (PathAt H) rp mk ∧ H tr = some (.tup rr) ∧ Paired (RowN H) rr (e.pre []) ∧ ∃ vl, fs.lookup ("layout" : Str) = some vl ∧ LayAt CS CL H vl fns e mk
theorem InE.keepN {H H' : Hp} {e : Ex} {v : V} (h : InE H e v) (s : ExtN H H') : InE H' e v := h.keep (fun p xs z => s _ _ z not_tbl_tup) e v
theorem TaskAt.keepN {K : PySem.W.Frag} {CF CB CT CS CL : Addr} {H H' : Hp} {v : V} {fns : List Fn} {e : Ex} {mk : List (List Nat)} (h : TaskAt K CF CB CT CS CL H v fns e mk) (s : ExtN H H') : TaskAt K CF CB CT CS CL H' v fns e mk := by
  obtain ⟨p, dx, fs, vb, ve, tp, tr, rp, rr, e1, h1, hf, h2, h3, h4, h5, h6, h7, hL⟩ := h
  have kt : ∀ q xs, H q = some (.tup xs) → H' q = some (.tup xs) := fun q xs z => s _ _ z not_tbl_tup
  exact ⟨p, dx, fs, vb, ve, tp, tr, rp, rr, e1, s _ _ h1 not_tbl_ins, hf, h2.keepN s, h3.keepN s, seqT_ext h4 s, L2.Paired.mapP h5 fun a b z => z.keep kt, kt _ _ h6, L2.Paired.mapP h7 fun a b z => z.keep kt, let ⟨vl, l1, l2⟩ := hL; ⟨vl, l1, l2.keepN ⟨kt, fun q dx fs v _ z => s _ _ z not_tbl_ins⟩ fun q dx fs v _ z => s _ _ z not_tbl_ins⟩⟩
theorem TaskAt.keep {K : PySem.W.Frag} {CF CB CT CS CL : Addr} {H H' : Hp} {v : V} {fns : List Fn} {e : Ex} {mk : List (List Nat)} (h : TaskAt K CF CB CT CS CL H v fns e mk) (s : Same H H') : TaskAt K CF CB CT CS CL H' v fns e mk := h.keepN (same_extN s)
def teLen1 (i : Nat) : TE := fun σ H Q => ∃ (vp : V) (p : List Nat), σ[i]? = some (some vp) ∧ PathAt H vp p ∧ Q (.int ((p.length + 1 : Nat) : Int)) H
structure PtsOk (K : PySem.W.Frag) (H : Hp) (e : Ex) (tp : Addr) (rp : List V) (mk : List (List Nat)) : Prop where
  tp : SqT K H tp rp
  pr : Paired (PathAt H) rp mk
  op : ∀ p ∈ mk, p ∈ e.opens []
  asc : mk.Pairwise pathLt
def spTInit (K : PySem.W.Frag) (CF CB CT CS CL : Addr) : Sp := fun vs H Q _ => ∃ (p dx : Addr) (vb ve : V) (tp : Addr) (rp : List V) (mk : List (List Nat)) (e : Ex) (ps : List Str) (fns : List Fn), vs = [.ref p, vb, ve, .ref tp] ∧ H p = some (.ins CT dx []) ∧ BookAt CF CB H vb fns ∧ KitW ps fns ∧ InE H e ve ∧ ExW ps fns e ∧ e.depth ≤ 25 ∧ e.nodes ≤ 200 ∧ PtsOk K H e tp rp mk ∧
  ∀ H', TaskAt K CF CB CT CS CL H' (.ref p) fns e mk → But p H H' → Q .non H'
theorem pairwise_nodup {ps : List (List Nat)} (h : ps.Pairwise pathLt) : ps.Nodup := by
  refine List.nodup_iff_pairwise_ne.mpr (h.imp fun {a b} z w => ?_)
  subst w
  have z' : PySem.W.dataLt (dP a) (dP a) = true := z
  have h1 : (listOrd itemOrd).blt (PySem.W.keyToks (dP a)) (PySem.W.keyToks (dP a)) = true := z'
  rw [(listOrd itemOrd).irrefl] at h1
  cases h1
theorem nodup_le {α : Type} [DecidableEq α] : ∀ (l l' : List α), l.Nodup → (∀ a ∈ l, a ∈ l') → l.length ≤ l'.length
  | [], _, _, _ => Nat.zero_le _
  | a :: r, l', nd, h => by
    rw [List.nodup_cons] at nd
    have ha := h a List.mem_cons_self
    have := nodup_le r (l'.erase a) nd.2 fun b hb => (List.mem_erase_of_ne (fun z => nd.1 (by rw [← z]; exact hb))).mpr (h b (List.mem_cons_of_mem _ hb))
    rw [List.length_erase_of_mem ha] at this
    have : 0 < l'.length := List.length_pos_of_mem ha
    rw [List.length_cons]
    omega
theorem opens_le (e : Ex) {mk : List (List Nat)} (nd : mk.Nodup) (h : ∀ p ∈ mk, p ∈ e.opens []) : mk.length ≤ e.nodes :=
  Nat.le_trans (nodup_le mk _ nd h) (opens_len e)
section
variable {P : Program} {w : World} {K : PySem.W.Frag} {mg : Str → Option Value} {base : Heap} {X : Cx}
theorem scTInit : FnScope ["self", "book", "expression", "points", "rows", "path", "node"] ["self", "book", "expression", "points"] (defScope sTInit) := ⟨rfl, rfl, rfl, by decide +kernel, rfl, by decide +kernel, by decide +kernel⟩
theorem ok_tinit {CF CB CT CS CL f fn fp fl : Addr} {fd fdn fdp fdl : FuncData} {mc u200 u30 : Value} {dvs : List V} {kws : List (Str × V)} (F : FunD K "__init__" "Task.__init__" (defArgs sTInit) (defBody sTInit) (defScope sTInit) dvs kws f fd) (T : TxT K CT mc) (mT : mg "Task" = some (.ref CT))
    (cN : CVal K CT mc "MOST_NODES" (.int 200) u200) (cD : CVal K CT mc "MOST_DEPTH" (.int 30) u30) (ml : mg "len" = none) (mx : mg "max" = none) (mt : mg "tuple" = none)
    (GN : FnOk P w K mg base CX0 10 fn fdn ["book", "value"] (spNodesOf CF CB)) (kN : PySem.W.keepIn K (.ref fn) = true) (bN : Binds K fdn ["book", "value"] []) (mN : mg "nodes_of" = some (.ref fn))
    (GP : FnOk P w K mg base CX0 5 fp fdp ["expression", "value"] (spArePoints K)) (kP : PySem.W.keepIn K (.ref fp) = true) (bP : Binds K fdp ["expression", "value"] []) (mP : mg "are_points" = some (.ref fp))
    (ML : Mk K CL fl) (mL : mg "Layout" = some (.ref CL)) (GL : FnOk P w K mg base CX0 34 fl fdl ["self", "book", "expression", "points"] (spLInit K CF CB CS CL 25)) (bL : Binds K fdl ["self", "book", "expression", "points"] []) :
    FnOk P w K mg base CX0 36 f fd ["self", "book", "expression", "points"] (spTInit K CF CB CT CS CL) := by
  refine FunD.ok0 F scTInit (fun vs H Q E h => ?_) (fun cdv A outer s H vs Q E hr h => ?_)
  · obtain ⟨p, dx, vb, ve, tp, rp, mk, e, ps, fns, rfl, _⟩ := h
    rfl
  obtain ⟨p, dx, vb, ve, tp, rp, mk, e, ps, fns, rfl, ep, hB, kw, ie, ew, hd, hn, ⟨etp, pmk, hop, asc⟩, q⟩ := h
  have hr5 : Room 5 _ := hr.mono (by decide)
  have hr10 : Room 10 _ := hr.mono (by decide)
  refine ⟨_, (pss_cons (ps_set (i := 4) scTInit.nd rfl (.inl rfl) (pe_call GN hr10 rfl mN kN bN .nil pass0 (pa_cons (pv 1) (pa_cons (pv 2) pa_nil))))
    (pss_cons (ps_if (pt_cmpR op_gt (pe_callB call_len_seq (by rfl) ml PySem.boot_len (pa_cons (pv 4) pa_nil)) (pe_cval (pe_globD rfl mT)) (nomark _)) (pss_one ps_never) pss_nil)
    (pss_cons (ps_if (pt_cmpR op_gt (pe_callB (cr_max rfl) (by rfl) mx PyProof.Rows.boot_max (pa_cons (pe_lc (own := [("path", 5), ("node", 6)]) (g := gTup K 2 (gCons (gName 5) (gCons (gName 6) gNil))) (tt := tYes) (by rfl) scTInit.nd (pi_list (pv 4)) (blkOk_by (own := [("path", 5), ("node", 6)]) (N := ["self", "book", "expression", "points", "rows", "path", "node"]) (sc := defScope sTInit) (by decide +kernel)) (fun _ _ _ _ _ => (pg_tup rfl (pgs_cons (pg_name (i := 5) scTInit.nd rfl (Or.inl rfl)) (pgs_cons (pg_name (i := 6) scTInit.nd rfl (Or.inl rfl)) pgs_nil)))) (fun _ _ _ _ _ => pts_nil) (fun _ _ _ _ _ => (pe_as (t' := teLen1 5) (pe_op op_add (pe_callB call_len_seq (by rfl) ml PySem.boot_len (pa_cons (pv 5) pa_nil)) pe_int) ?c1))) pa_nil)) (pe_cval (pe_globD rfl mT)) (nomark _)) (pss_one ps_never) pss_nil)
    (pss_cons (ps_if (pt_not (pt_val (pe_call GP hr5 rfl mP kP bP .nil pass0 (pa_cons (pv 2) (pa_cons (pv 3) pa_nil))))) (pss_one ps_never) pss_nil)
    (pss_cons (ps_fld (pv 0) (pv 1) rfl)
    (pss_cons (ps_fld (pv 0) (pv 2) rfl)
    (pss_cons (ps_fld (pv 0) (pv 3) rfl)
    (pss_cons (ps_fld (pv 0) (pe_tupleOf (by rfl) mt (pv 4)) rfl)
    (pss_one (ps_fld (pv 0) (pe_make ML GL hr rfl mL bL .nil pass0 (pa_cons (pv 1) (pa_cons (pv 2) (pa_cons (pv 3) pa_nil)))) rfl)))))))))), ?_⟩
  case c1 =>
    rintro σ H Q ⟨vp, p, e5, ⟨pa, rfl, epa⟩, q⟩
    refine ⟨_, e5, pa, _, rfl, .inr (SqT.of epa), _, _, rfl, rfl, ?_⟩
    have : ((pv_ p).length : Int) + 1 = ((p.length + 1 : Nat) : Int) := by simp [pv_]
    show Q (V.int (((pv_ p).length : Int) + 1)) H
    rw [this]
    exact q
  refine ⟨_, rfl, _, rfl, vb, ve, e, ps, fns, rfl, hB, kw, ie, ew, by omega, by omega, fun lr rr H1 nlr er pr s1 => ?_⟩
  have hrl : rr.length = e.nodes := by rw [pr.length, pre_len]
  refine ⟨_, rfl, lr, _, rfl, .inl (SqL.of er), CT, mc, _, u200, rfl, T.rd, cN, _, _, rfl, rfl, _, rfl, iteNo (by omega) ?_⟩
  refine ⟨_, rfl, lr, rfl, ⟨_, SqL.of er⟩, fun D nD => ?_⟩
  have sD := same_up (o := .lst []) nD
  refine lc_list (K := K) (a := lr) (xs := rr) (fun i H' => H' D = some (.lst ((((e.pre []).take i).map fun x => ((x.1.length + 1 : Nat) : Int)).map V.int)) ∧ Same H1 H') ⟨upd_same, sD⟩ (fun i H' _ h => SqL.of (h.2 _ _ er)) ?_ ?_
  · rintro i u H2 hi ⟨eD, s2⟩
    obtain ⟨x, hx, rx⟩ := paired_get pr hi
    have hil : i < (e.pre []).length := (List.getElem?_eq_some_iff.mp hx).1
    have ex : (e.pre [])[i] = x := (List.getElem?_eq_some_iff.mp hx).2
    obtain ⟨qd, vp, ve', rfl, eq, hp', ie'⟩ := rx.keep (same_t s2)
    refine ⟨qd, _, rfl, SqT.of eq, rfl, _, _, rfl, _, _, rfl, rfl, rfl, yes_i ⟨vp, x.1, rfl, hp', _, eD, small1000 ?_, ?_, fun b o z => by rw [upd_ne (ne_of_none z nD)]; exact s2 b o z⟩⟩
    · rw [List.length_map, List.length_map, List.length_take]
      rw [pre_len] at hil ⊢
      omega
    · rw [take_succ_get _ i hil, List.map_append, List.map_append, ex]
      exact upd_same
  · rintro H2 ⟨eD, s2⟩
    rw [hrl, ← pre_len e [], List.take_length] at eD
    refine ⟨D, _, rfl, SqL.of eD, ?_, fun m hm hle => ?_⟩
    · rw [List.length_map, pre_len]
      exact nodes_pos e
    · obtain ⟨x, hx, rfl⟩ := List.mem_map.mp hm
      have hsh := pre_short e [] x hx
      rw [List.length_nil] at hsh
      refine ⟨CT, mc, _, u30, rfl, T.rd, cD, _, _, rfl, rfl, _, rfl, iteNo (by omega) ?_⟩
      have s12 := s1.trans s2
      refine ⟨_, rfl, _, rfl, ve, e, tp, rp, mk, rfl, ie.keep (same_t s12), ExW.shp _ ew, by omega, same_seqT s12 etp, L2.Paired.mapP pmk fun a b z => z.keep (same_t s12), ?_, hop, asc, fun H3 s3 => ⟨true, rfl, iteF ?_⟩⟩
      · exact Nat.le_trans (opens_le e (pairwise_nodup asc) hop) (by omega)
      have s13 := s12.trans s3
      have ep3 := s13 _ _ ep
      refine ⟨_, rfl, _, rfl, p, CT, dx, _, rfl, ep3, T.cl, T.nB, by simp, ?_⟩
      refine ⟨_, rfl, _, rfl, p, CT, dx, _, rfl, upd_same, T.cl, T.nE, by simp [putF], ?_⟩
      refine ⟨_, rfl, _, rfl, p, CT, dx, _, rfl, upd_same, T.cl, T.nP, Nat.lt_of_le_of_lt (plen2 _ _ _ _) (by decide), ?_⟩
      have nlp : lr ≠ p := fun z => by rw [z, ep] at nlr; cases nlr
      have er3 : H3 lr = some (.lst rr) := s3 _ _ (s2 _ _ er)
      refine ⟨_, rfl, .inl ⟨lr, rr, rfl, SqL.of (by rw [upd_ne nlp, upd_ne nlp, upd_ne nlp]; exact er3), fun tr ntr => ?_⟩⟩
      have npt : p ≠ tr := ne_of_none (o := .ins CT dx (putF "points" (.ref tp) (putF "expression" ve (putF "book" vb [])))) upd_same ntr
      refine ⟨_, rfl, p, CT, dx, _, rfl, by rw [upd_ne npt]; exact upd_same, T.cl, T.nR, Nat.lt_of_le_of_lt (plen3 _ _ _ _ _ _) (by decide), ?_⟩
      have e4 : (upd (upd (upd (upd (upd H3 p (.ins CT dx (putF "book" vb []))) p (.ins CT dx (putF "expression" ve (putF "book" vb [])))) p (.ins CT dx (putF "points" (.ref tp) (putF "expression" ve (putF "book" vb []))))) tr (.tup rr)) p (.ins CT dx (putF "rows" (.ref tr) (putF "points" (.ref tp) (putF "expression" ve (putF "book" vb [])))))) p = some (.ins CT dx (putF "rows" (.ref tr) (putF "points" (.ref tp) (putF "expression" ve (putF "book" vb []))))) := upd_same
      have bB : But p H3 (upd (upd (upd (upd (upd H3 p (.ins CT dx (putF "book" vb []))) p (.ins CT dx (putF "expression" ve (putF "book" vb [])))) p (.ins CT dx (putF "points" (.ref tp) (putF "expression" ve (putF "book" vb []))))) tr (.tup rr)) p (.ins CT dx (putF "rows" (.ref tr) (putF "points" (.ref tp) (putF "expression" ve (putF "book" vb [])))))) := fun b o n z => by
        have nt : b ≠ tr := fun w => by
          rw [upd_ne npt.symm, upd_ne npt.symm, upd_ne npt.symm] at ntr
          rw [w, ntr] at z
          cases z
        rw [upd_ne n, upd_ne nt, upd_ne n, upd_ne n, upd_ne n]
        exact z
      have etr : (upd (upd (upd (upd (upd H3 p (.ins CT dx (putF "book" vb []))) p (.ins CT dx (putF "expression" ve (putF "book" vb [])))) p (.ins CT dx (putF "points" (.ref tp) (putF "expression" ve (putF "book" vb []))))) tr (.tup rr)) p (.ins CT dx (putF "rows" (.ref tr) (putF "points" (.ref tp) (putF "expression" ve (putF "book" vb [])))))) tr = some (.tup rr) := by rw [upd_ne npt.symm]; exact upd_same
      generalize (upd (upd (upd (upd (upd H3 p (.ins CT dx (putF "book" vb []))) p (.ins CT dx (putF "expression" ve (putF "book" vb [])))) p (.ins CT dx (putF "points" (.ref tp) (putF "expression" ve (putF "book" vb []))))) tr (.tup rr)) p (.ins CT dx (putF "rows" (.ref tr) (putF "points" (.ref tp) (putF "expression" ve (putF "book" vb [])))))) = H4 at e4 bB etr ⊢
      have kt := bB.tup ep3
      -- the layout
      refine ⟨_, rfl, _, rfl, _, rfl, fun x dxl hx hdx hne => ?_⟩
      have sm := made_same (C := CL) hx hdx
      have hB4 := (hB.keep s13).but ep3 bB
      have ie4 := (ie.keep (same_t s13)).keep kt
      have et4 := seqT_but bB ep3 (same_seqT s13 etp)
      have pm4 : Paired (PathAt H4) rp mk := L2.Paired.mapP pmk fun a b z => (z.keep (same_t s13)).keep kt
      refine ⟨x, dxl, vb, ve, tp, rp, mk, e, ps, fns, rfl, upd_same, hB4.keep sm, kw, ie4.keep (same_t sm), ew, hd, by omega, hn, same_seqT sm et4, L2.Paired.mapP pm4 fun a b z => z.keep (same_t sm), fun H5 hL hBx => ⟨rfl, ?_⟩⟩
      have s45 := but_same sm hx hBx
      have e5 := s45 _ _ e4
      refine ⟨_, rfl, p, CT, dx, _, rfl, e5, T.cl, T.nL, by ((refine Nat.lt_of_le_of_lt (m := 40) ?_ (by decide); repeat (first | exact Nat.zero_le _ | refine putF_len _ _ _ ?_))), ?_⟩
      have b56 : But p H5 (upd H5 p (.ins CT dx (putF "layout" (.ref x) (putF "rows" (.ref tr) (putF "points" (.ref tp) (putF "expression" ve (putF "book" vb []))))))) := fun b o n z => by rw [upd_ne n]; exact z
      have b36 : But p H3 (upd H5 p (.ins CT dx (putF "layout" (.ref x) (putF "rows" (.ref tr) (putF "points" (.ref tp) (putF "expression" ve (putF "book" vb []))))))) := fun b o n z => b56 b o n (s45 _ _ (bB b o n z))
      have kt6 := b36.tup ep3
      refine q _ ⟨p, dx, _, vb, ve, tp, tr, rp, rr, rfl, upd_same, ?_, (hB.keep s13).but ep3 b36, (ie.keep (same_t s13)).keep kt6, seqT_but b36 ep3 (same_seqT s13 etp), L2.Paired.mapP pmk fun a b z => (z.keep (same_t s13)).keep kt6, ?_, L2.Paired.mapP pr fun a b z => (z.keep (same_t (s2.trans s3))).keep kt6, .ref x, by ((repeat (first | (rw [lookup_putF, if_pos rfl]) | rw [lookup_putF, if_neg (by decide +kernel)]))), hL.keepN (KI.but e5 b56 (by ((repeat (first | (rw [lookup_putF, if_pos rfl]) | rw [lookup_putF, if_neg (by decide +kernel)]))); rfl)) (KL.but e5 b56 (by ((repeat (first | (rw [lookup_putF, if_pos rfl]) | rw [lookup_putF, if_neg (by decide +kernel)]))); rfl))⟩ (fun b o n z => b36 b o n (s13 _ _ z))
      · exact ⟨by ((repeat (first | (rw [lookup_putF, if_pos rfl]) | rw [lookup_putF, if_neg (by decide +kernel)]))), by ((repeat (first | (rw [lookup_putF, if_pos rfl]) | rw [lookup_putF, if_neg (by decide +kernel)]))), by ((repeat (first | (rw [lookup_putF, if_pos rfl]) | rw [lookup_putF, if_neg (by decide +kernel)]))), by ((repeat (first | (rw [lookup_putF, if_pos rfl]) | rw [lookup_putF, if_neg (by decide +kernel)]))), by ((repeat (first | (rw [lookup_putF, if_pos rfl]) | rw [lookup_putF, if_neg (by decide +kernel)]))); rfl, by ((repeat (first | (rw [lookup_putF, if_pos rfl]) | rw [lookup_putF, if_neg (by decide +kernel)]))); rfl, by ((repeat (first | (rw [lookup_putF, if_pos rfl]) | rw [lookup_putF, if_neg (by decide +kernel)]))); rfl, by ((repeat (first | (rw [lookup_putF, if_pos rfl]) | rw [lookup_putF, if_neg (by decide +kernel)]))); rfl, by ((repeat (first | (rw [lookup_putF, if_pos rfl]) | rw [lookup_putF, if_neg (by decide +kernel)]))); rfl⟩
      · rw [upd_ne npt.symm]; exact s45 _ _ etr
end
end Oo
/-! places of steps in orders -/
namespace Oo
open PySem L2
theorem idx_app {a b : List Nat} {x : Nat} (h : x ∉ a) : (a ++ x :: b).idxOf x = a.length := by
  rw [List.idxOf_append, if_neg h, List.idxOf_cons_self]
  omega
theorem goes_full {pr : Nat → Nat → Bool} {N : Nat} {o : List Nat} (h : Goes pr N D0 o) (hl : o.length = N) {x : Nat} (hx : x < N) : x ∈ o := by
  obtain ⟨n1, n2⟩ := goes_mem h
  refine Classical.byContradiction fun hn => ?_
  have : (x :: o).length ≤ (List.range N).length := by
    refine nodup_le _ _ (List.nodup_cons.mpr ⟨hn, n1⟩) fun y hy => ?_
    rcases List.mem_cons.mp hy with rfl | hy
    · exact List.mem_range.mpr hx
    · exact List.mem_range.mpr (n2 y hy).1
  rw [List.length_cons, List.length_range] at this
  omega
/-- what precedes stands ahead, in each order -/
theorem pos_lt {pr : Nat → Nat → Bool} {N : Nat} {o : List Nat} (h : Goes pr N D0 o) (hl : o.length = N) {i j : Nat} (hi : i < N) (hj : j < N) (hp : pr i j = true) : o.idxOf i < o.idxOf j := by
  obtain ⟨a, b, rfl⟩ := List.append_of_mem (goes_full h hl hj)
  have hs := goes_split h
  have ha := (rdy_iff.mp hs.2.1).2 i (Nat.zero_le _) (by omega) hp
  have hi' : i ∈ a := by
    simp only [putL, Bool.false_or, decide_eq_true_eq] at ha
    exact ha
  have hj' : j ∉ a := by
    have := (rdy_iff.mp hs.2.1).1
    simp only [putL, Bool.false_or, decide_eq_false_iff_not] at this
    exact this
  rw [idx_app hj', List.idxOf_append, if_pos hi']
  exact List.idxOf_lt_length_of_mem hi'
theorem pos_next {a b : List Nat} {i j : Nat} (h : (a ++ i :: j :: b).Nodup) : (a ++ i :: j :: b).idxOf i + 1 = (a ++ i :: j :: b).idxOf j := by
  rw [List.nodup_append] at h
  obtain ⟨_, h2, h3⟩ := h
  have hi : i ∉ a := fun z => h3 i z i (List.mem_cons_self ..) rfl
  have hj : j ∉ a := fun z => h3 j z j (List.mem_cons_of_mem _ (List.mem_cons_self ..)) rfl
  have hij : i ≠ j := fun z => (List.nodup_cons.mp h2).1 (z ▸ List.mem_cons_self ..)
  rw [idx_app hi]
  have e : a ++ i :: j :: b = (a ++ [i]) ++ j :: b := by simp
  rw [e, idx_app (by simp [hj, Ne.symm hij]), List.length_append, List.length_singleton]
/-- whether one step stands ahead of the other in a row -/
def ahd (i j : Nat) (o : List Nat) : Bool := decide (o.idxOf i < o.idxOf j)
def nxt (i j : Nat) (o : List Nat) : Bool := decide (o.idxOf i + 1 = o.idxOf j)
section
variable {e : Ex} {mk : List (List Nat)}
theorem all_goes (g : e.grd = false) {o : List Nat} : o ∈ ords e.steps (e.res mk D0 [] 0) ↔ o.length = e.steps ∧ Goes (e.prec mk [] 0) e.steps D0 o := by
  have hd : Down (e.prec mk [] 0) D0 := fun i j _ h => by cases h
  rw [ords_res g _ _ hd]
  refine ⟨fun h => ?_, fun h => (ordsD_goes _ _ _ h.1).mpr h.2⟩
  have := (ordsD_mem _ _ _ h).1
  exact ⟨this, (ordsD_goes _ _ _ this).mp h⟩
theorem prec_ltN (i j : Nat) (h : e.prec mk [] 0 i j = true) : i < j := (prec_rng _ _ _ _ _ h).2.1
/-- two open steps are neighbours in some order -/
theorem some_next (g : e.grd = false) {i j : Nat} (hi : i < e.steps) (hj : j < e.steps) (hij : i ≠ j) (h1 : e.prec mk [] 0 i j = false) (h2 : e.prec mk [] 0 j i = false) : ∃ o ∈ ords e.steps (e.res mk D0 [] 0), nxt i j o = true := by
  obtain ⟨a, b, hg, hl⟩ := next_to (pr := e.prec mk [] 0) prec_ltN (fun i j k => prec_trans e [] 0 i j k) hi hj hij h1 h2
  exact ⟨_, (all_goes g).mpr ⟨hl, hg⟩, decide_eq_true (pos_next (goes_mem hg).1)⟩
/-- a step precedes another just if it stands ahead of it in all orders -/
theorem prec_all_iff (g : e.grd = false) {i j : Nat} (hi : i < e.steps) (hj : j < e.steps) (hne : 0 < (ords e.steps (e.res mk D0 [] 0)).length) : (∀ o ∈ ords e.steps (e.res mk D0 [] 0), ahd i j o = true) ↔ e.prec mk [] 0 i j = true := by
  constructor
  · intro h
    obtain ⟨o0, h0⟩ := List.exists_mem_of_length_pos hne
    have hij : i ≠ j := fun z => by
      have := h o0 h0
      rw [z] at this
      exact absurd (of_decide_eq_true this) (Nat.lt_irrefl _)
    cases h1 : e.prec mk [] 0 i j with
    | true => rfl
    | false =>
      cases h2 : e.prec mk [] 0 j i with
      | true =>
        obtain ⟨hl, hg⟩ := (all_goes g).mp h0
        have := pos_lt hg hl hj hi h2
        have := of_decide_eq_true (h o0 h0)
        omega
      | false =>
        obtain ⟨o, ho, hn⟩ := some_next g hj hi (Ne.symm hij) h2 h1
        have := of_decide_eq_true (h o ho)
        have := of_decide_eq_true hn
        omega
  · intro hp o ho
    obtain ⟨hl, hg⟩ := (all_goes g).mp ho
    exact decide_eq_true (pos_lt hg hl hi hj hp)
end
/-! a dict of places -/
def posK (o : List Nat) : List (Key × V) := o.zipIdx.map fun z => (.inl (z.1 : Int), .int ((z.2 : Nat) : Int))
theorem pos_merge : ∀ (o : List Nat) (n : Nat) (acc : List (Key × V)), o.Nodup → ∀ x, valV (mergeK acc ((o.zipIdx n).map fun z => ((.inl (z.1 : Int) : Key), V.int ((z.2 : Nat) : Int)))) (.inl ((x : Nat) : Int)) = if x ∈ o then some (.int ((n + o.idxOf x : Nat) : Int)) else valV acc (.inl (x : Int))
  | [], n, acc, _, x => by simp [mergeK]
  | y :: r, n, acc, h, x => by
    obtain ⟨h1, h2⟩ := List.nodup_cons.mp h
    have ih := pos_merge r (n + 1) (putK acc (.inl (y : Int)) (.int (n : Int))) h2 x
    rw [List.zipIdx_cons, List.map_cons]
    show valV (mergeK (putK acc (.inl (y : Int)) (.int (n : Int))) _) _ = _
    rw [ih]
    by_cases hx : x ∈ r
    · have hne : x ≠ y := fun z => h1 (z ▸ hx)
      have hb : (y == x) = false := beq_eq_false_iff_ne.mpr (Ne.symm hne)
      rw [if_pos hx, if_pos (List.mem_cons_of_mem _ hx), List.idxOf_cons, hb]
      congr 3
      simp only [cond_false]
      omega
    · rw [if_neg hx, valV_put]
      by_cases hxy : x = y
      · subst hxy
        rw [if_pos rfl, if_pos (List.mem_cons_self ..), List.idxOf_cons_self]
        rfl
      · have hn : ¬ (Sum.inl (x : Int) : Key) = Sum.inl (y : Int) := fun z => hxy (by have := Sum.inl.inj z; omega)
        have hm : ¬ x ∈ y :: r := fun z => (List.mem_cons.mp z).elim hxy hx
        rw [if_neg hn, if_neg hm]
end Oo
/-! exchanges of neighbours lead from the first order to all; orders ascend -/
namespace Oo
open PySem L2 PyProof.Rows
theorem path_tot : ∀ p q : List Nat, p ≠ q → pathLt p q ∨ pathLt q p
  | [], [], h => absurd rfl h
  | [], j :: q, _ => .inl (nil_lt j q)
  | i :: p, [], _ => .inr (nil_lt i p)
  | i :: p, j :: q, h => by
    rcases Nat.lt_trichotomy i j with h1 | h1 | h1
    · exact .inl (cons_lt h1 p q)
    · subst h1
      have h2 : p ≠ q := fun z => h (by rw [z])
      rcases path_tot p q h2 with h3 | h3
      · exact .inl (h3.pre (p := [i]))
      · exact .inr (h3.pre (p := [i]))
    · exact .inr (cons_lt h1 q p)
theorem asc_sorted {ps : List (List Nat)} (h : ps.Pairwise fun x y => ¬ pathLt y x) (nd : ps.Nodup) : ps.Pairwise pathLt := by
  have h2 := List.nodup_iff_pairwise_ne.mp nd
  refine (h.and h2).imp fun {a b} ⟨h3, h4⟩ => ?_
  exact (path_tot a b h4).elim id fun z => absurd z h3
theorem path_asym {p q : List Nat} (h : pathLt p q) : ¬ pathLt q p := fun k => by
  have h1 : (listOrd itemOrd).blt (PySem.W.keyToks (dP p)) (PySem.W.keyToks (dP q)) = true := h
  have h2 : (listOrd itemOrd).blt (PySem.W.keyToks (dP q)) (PySem.W.keyToks (dP p)) = true := k
  have h3 := (listOrd itemOrd).trans _ _ _ h1 h2
  rw [(listOrd itemOrd).irrefl] at h3
  cases h3
/-- two ascending rows with the same paths are the same -/
theorem asc_unique {ps qs : List (List Nat)} (h1 : ps.Pairwise pathLt) (h2 : qs.Pairwise pathLt) (h : ps.Perm qs) : ps = qs :=
  List.Perm.eq_of_pairwise (fun a b _ _ x y => absurd y (path_asym x)) h1 h2 h
section
variable {pr : Nat → Nat → Bool} {N : Nat}
theorem put_swap (D : Dn) (x y : Nat) : (D.put x).put y = (D.put y).put x := by
  funext z
  simp only [Dn.put, Bool.or_assoc]
  congr 1
  exact Bool.or_comm _ _
/-- neighbours that can be exchanged -/
theorem swap_goes {a b : List Nat} {x y : Nat} {D : Dn} (h : Goes pr N D (a ++ x :: y :: b)) (hp : pr x y = false) : Goes pr N D (a ++ y :: x :: b) := by
  have hpre : Goes pr N D a := by
    clear hp
    induction a generalizing D with
    | nil => exact trivial
    | cons s r ih => exact ⟨h.1, h.2.1, ih h.2.2⟩
  refine goes_app hpre ?_
  have h := goes_split h
  generalize putL D a = D1 at h ⊢
  obtain ⟨hx, hrx, hy, hry, hb⟩ := h
  have hxy : x ≠ y := fun z => by
    have := (rdy_iff.mp hry).1
    rw [z, put_same] at this
    cases this
  obtain ⟨x1, x2⟩ := rdy_iff.mp hrx
  obtain ⟨y1, y2⟩ := rdy_iff.mp hry
  refine ⟨hy, rdy_iff.mpr ⟨?_, fun i h1 h2 h3 => ?_⟩, hx, rdy_iff.mpr ⟨?_, fun i h1 h2 h3 => ?_⟩, ?_⟩
  · rwa [put_other D1 (Ne.symm hxy)] at y1
  · have := y2 i h1 h2 h3
    by_cases z : i = x
    · rw [z, hp] at h3
      cases h3
    · rwa [put_other D1 z] at this
  · rw [put_other D1 hxy]
    exact x1
  · have := x2 i h1 h2 h3
    simp only [Dn.put, this, Bool.true_or]
  · rw [put_swap]
    exact hb
/-- neighbours of which one precedes the other can't -/
theorem swap_not {a b : List Nat} {x y : Nat} {D : Dn} (h : Goes pr N D (a ++ x :: y :: b)) (h2 : Goes pr N D (a ++ y :: x :: b)) : pr x y = false := by
  cases hp : pr x y with
  | false => rfl
  | true =>
    have g1 := goes_split h
    have g2 := goes_split h2
    have hx := (rdy_iff.mp g1.2.1).1
    have := (rdy_iff.mp g2.2.1).2 x (Nat.zero_le _) (by have := g1.1; omega) hp
    rw [this] at hx
    cases hx
/-- a weight that grows when a greater number goes back -/
def wsum : Nat → List Nat → Nat
  | _, [] => 0
  | k, x :: r => k * x + wsum (k + 1) r
theorem wsum_app : ∀ (a b : List Nat) (k : Nat), wsum k (a ++ b) = wsum k a + wsum (k + a.length) b
  | [], b, k => by simp [wsum]
  | x :: r, b, k => by
    simp only [List.cons_append, wsum, wsum_app r b (k + 1), List.length_cons]
    rw [show k + 1 + r.length = k + (r.length + 1) by omega]
    omega
theorem wsum_swap {a b : List Nat} {x y : Nat} (h : y < x) : wsum 0 (a ++ x :: y :: b) < wsum 0 (a ++ y :: x :: b) := by
  simp only [wsum_app, wsum, Nat.add_mul, Nat.one_mul]
  omega
theorem wsum_le {M : Nat} : ∀ (o : List Nat) (k : Nat), (∀ x ∈ o, x ≤ M) → wsum k o ≤ o.length * ((k + o.length) * M)
  | [], k, _ => by simp [wsum]
  | x :: r, k, h => by
    have ih := wsum_le r (k + 1) fun y hy => h y (List.mem_cons_of_mem _ hy)
    have hx : k * x ≤ (k + (r.length + 1)) * M := Nat.mul_le_mul (by omega) (h x (List.mem_cons_self ..))
    simp only [wsum, List.length_cons]
    rw [show k + 1 + r.length = k + (r.length + 1) by omega] at ih
    rw [Nat.succ_mul]
    omega
/-- a row of all numbers without a descent is 0, 1, 2, .. -/
theorem asc_range : ∀ (o : List Nat) (k : Nat), o.Nodup → (∀ x ∈ o, k ≤ x ∧ x < k + o.length) → (∀ a x y b, o = a ++ x :: y :: b → x < y) → o = List.range' k o.length
  | [], k, _, _, _ => rfl
  | x :: r, k, nd, hb, hd => by
    obtain ⟨n1, n2⟩ := List.nodup_cons.mp nd
    have hd' : ∀ a u v b, r = a ++ u :: v :: b → u < v := fun a u v b e => hd (x :: a) u v b (by rw [e]; rfl)
    have hgt : ∀ (r : List Nat) (x : Nat), (∀ a u v b, x :: r = a ++ u :: v :: b → u < v) → ∀ z ∈ r, x < z := by
      intro r
      induction r with
      | nil => intro x _ z hz; cases hz
      | cons u r ih =>
        intro x hd z hz
        have hxu := hd [] x u r rfl
        rcases List.mem_cons.mp hz with rfl | hz
        · exact hxu
        · exact Nat.lt_trans hxu (ih u (fun a p q b e => hd (x :: a) p q b (by rw [e]; rfl)) z hz)
    have hxr := hgt r x hd
    have hxk : x = k := by
      have h1 := (hb x (List.mem_cons_self ..)).1
      rcases Nat.eq_or_lt_of_le h1 with h | h
      · exact h.symm
      · exfalso
        have : (x :: r).length ≤ (List.range' (k + 1) r.length).length := nodup_le _ _ nd fun z hz => by
          have h3 := (hb z hz).2
          rw [List.length_cons] at h3
          rw [List.mem_range'_1]
          rcases List.mem_cons.mp hz with rfl | hz
          · omega
          · have := hxr z hz
            omega
        rw [List.length_cons, List.length_range'] at this
        omega
    subst hxk
    have ih := asc_range r (x + 1) n2 (fun z hz => by
      have h1 := hxr z hz
      have h2 := (hb z (List.mem_cons_of_mem _ hz)).2
      rw [List.length_cons] at h2
      omega) hd'
    rw [List.length_cons, List.range'_succ, ← ih]
theorem descent {o : List Nat} (nd : o.Nodup) (hb : ∀ x ∈ o, x < o.length) (hne : o ≠ List.range o.length) : ∃ a x y b, o = a ++ x :: y :: b ∧ y < x := by
  refine Classical.byContradiction fun hn => hne ?_
  rw [List.range_eq_range']
  refine asc_range o 0 nd (fun x hx => ⟨Nat.zero_le _, by rw [Nat.zero_add]; exact hb x hx⟩) fun a x y b e => ?_
  have hxy : x ≠ y := fun z => by
    rw [e, z, List.nodup_append] at nd
    exact (List.nodup_cons.mp nd.2.1).1 (List.mem_cons_self ..)
  rcases Nat.lt_or_ge x y with h | h
  · exact h
  · exact absurd ⟨a, x, y, b, e, by omega⟩ hn
/-- all orders are reached from the first one -/
theorem reach_all (lt : ∀ i j, pr i j = true → i < j) (S : List Nat → Prop) (h0 : S (List.range N)) (hs : ∀ a x y b, S (a ++ x :: y :: b) → pr x y = false → S (a ++ y :: x :: b)) : ∀ (m : Nat) (o : List Nat), Goes pr N D0 o → o.length = N → N * (N * N) - wsum 0 o ≤ m → S o := by
  intro m
  induction m with
  | zero =>
    intro o hg hl hm
    by_cases he : o = List.range N
    · rw [he]; exact h0
    · obtain ⟨n1, n2⟩ := goes_mem hg
      obtain ⟨a, x, y, b, rfl, hxy⟩ := descent n1 (fun x hx => by rw [hl]; exact (n2 x hx).1) (by rw [hl]; exact he)
      have hw := wsum_swap (a := a) (b := b) hxy
      have hp : pr x y = false := by
        cases h : pr x y with
        | false => rfl
        | true => have := lt x y h; omega
      have hg2 := swap_goes hg hp
      have hl2 : (a ++ y :: x :: b).length = N := by rw [← hl]; simp
      have hb := wsum_le (M := N) (a ++ y :: x :: b) 0 fun z hz => Nat.le_of_lt ((goes_mem hg2).2 z hz).1
      rw [hl2, Nat.zero_add] at hb
      omega
  | succ m ih =>
    intro o hg hl hm
    by_cases he : o = List.range N
    · rw [he]; exact h0
    · obtain ⟨n1, n2⟩ := goes_mem hg
      obtain ⟨a, x, y, b, rfl, hxy⟩ := descent n1 (fun x hx => by rw [hl]; exact (n2 x hx).1) (by rw [hl]; exact he)
      have hw := wsum_swap (a := a) (b := b) hxy
      have hp : pr x y = false := by
        cases h : pr x y with
        | false => rfl
        | true => have := lt x y h; omega
      have hg2 := swap_goes hg hp
      have hl2 : (a ++ y :: x :: b).length = N := by rw [← hl]; simp
      have hp2 : pr y x = false := swap_not hg2 hg
      exact hs a y x b (ih _ hg2 hl2 (by omega)) hp2
/-- the orders ascend -/
theorem ords_asc : ∀ (t : Nat) (D : Dn), (ordsD pr N t D).Pairwise pathLt
  | 0, D => by simp [ordsD]
  | t + 1, D => by
    simp only [ordsD]
    have hsrt : (rdy pr D 0 N).Pairwise (· < ·) := List.Pairwise.sublist List.filter_sublist List.pairwise_lt_range'
    generalize rdy pr D 0 N = l at hsrt ⊢
    induction l with
    | nil => simp
    | cons s r ih =>
      obtain ⟨h1, h2⟩ := List.pairwise_cons.mp hsrt
      rw [List.flatMap_cons]
      refine List.pairwise_append.mpr ⟨?_, ih h2, ?_⟩
      · refine List.Pairwise.map _ (fun a b hab => ?_) (ords_asc t (D.put s))
        exact pathLt.pre (p := [s]) hab
      · intro a ha b hb
        obtain ⟨o, _, rfl⟩ := List.mem_map.mp ha
        obtain ⟨u, hu, hb⟩ := List.mem_flatMap.mp hb
        obtain ⟨o2, _, rfl⟩ := List.mem_map.mp hb
        exact cons_lt (h1 u hu) o o2
end
end Oo
/-! own rule: a dict comprehension whose keys are tuples -/
namespace StX
open PySem PySem.Spec PyProof.Rows L2
/-- d[t] = z by a comprehension, t a tuple of numbers and texts -/
theorem dT_set {X : Cx} {pins : List (Addr × Obj)} {σ : L2.St} {G : Hp} {s : Shared} {E : Value → Shared → Prop} {D b : Addr} {kvs : List (List Key × V)} {ks : List Key} {z : V} {r : Value} {Q : Unit → Shared → Prop} (hu : X.A.units + 1 < cLine) (I : Inv X pins σ G s) (eD : G D = some (.dT kvs)) (eb : G b = some (.tup (ks.map kV))) (room : kvs.length < sizeLine)
    (rz : RelV z r) (fin : ∀ s', Inv X pins σ (upd G D (.dT (putK kvs ks z))) s' → Q () s') : wpAny (model X.prog X.w) X.A (dictSet D (.ref b) r) Q E s := by
  obtain ⟨y1, y2, ws, rel, dd⟩ := dt_of I.hok eD
  have len1 : ws.length ≤ sizeLine := Paired.length rel ▸ y1
  have len2 : (putK kvs ks z).length ≤ sizeLine := Nat.le_trans (length_putK kvs ks z) room
  refine wpAny_dictSet_heap (hsz := len1) (show (tupleKind (mixKind X.prog X.w)).room X.A from Nat.lt_of_succ_lt hu) (key_of I.hok eb) dd fun g dd' same => fin _ ?_
  obtain ⟨ob, es, ep, g1, g2, g3, g4, _, g5⟩ := dd'
  refine d_write I (eD ▸ True.intro) same ⟨ob, g1⟩ ⟨len2, y2, _, (rel.put ks eb rz).keeps fun c ys ec => ?_, ob, es, ep, g1, g2, g3, g4, g5⟩
  have ne : c ≠ D := ne_of ec eD fun k => nomatch k
  rwa [upd_ne ne]
/-- {key: worth for g0 in j0 if ..}, the keys tuples: D the new dict -/
def tDcT (wi : TI) (h0 : TG) (u0 : TT) (tk tv : TE) (vs : List Nat) : TE := fun σ H Q => wi σ H fun J G => ∀ D, G D = none → ∃ W : Nat → Nat → Hp → Prop, (∃ m, W 0 m (upd G D (.dT []))) ∧ ∀ i m G, W i m G →
  (J.stop i G ∧ Q (.ref D) G) ∨ (J.go i G ∧ ∃ N : Hp → Prop, (∀ G', N G' → ∃ m', m' < m ∧ W (i + 1) m' G') ∧ ∀ x G', J.yld i G x G' → h0 x (wipe σ vs) G' fun τ G1 => wipe τ vs = wipe σ vs ∧ u0 τ G1 fun b G2 =>
    if b = true then tk τ G2 fun y G3 => tv τ G3 fun z G4 => ∃ kvs ks q, y = .ref q ∧ G4 q = some (.tup (ks.map kV)) ∧ G4 D = some (.dT kvs) ∧ kvs.length < sizeLine ∧ N (upd G4 D (.dT (putK kvs ks z))) else N G2)
section
variable {X : Cx}
theorem dcT_core {pins : List (Addr × Obj)} {s : Shared} {σ : L2.St} {H : Hp} {Q : VK} {use : Option (Value → Sem Unit)} {Qf : Value → Shared → Prop} {pp : Pos} {ek ev g0 j0 : Expr} {ts0 : List Expr} {sc : Scope} {own : List (Str × Nat)} {po : Pos} {wi : TI} {h0 : TG} {u0 : TT} {tk tv : TE} (hu : X.A.units + 1 < cLine) (calm : X.calm = true) (nd : X.N.Nodup) (pi : PI X g0 j0 wi) (ok : BlkOk X.N X.env.scope sc own)
    (pg : ∀ (s : Shared) (H : Hp) (C : Addr) (cl : List (Str × Addr)) (fp : List Addr), PG (X.blk s H sc (compEnvC sc cl C X.env) fp) g0 h0) (pt : ∀ (s : Shared) (H : Hp) (C : Addr) (cl : List (Str × Addr)) (fp : List Addr), PTs (X.blk s H sc (compEnvC sc cl C X.env) fp) ts0 u0)
    (pk : ∀ (s : Shared) (H : Hp) (C : Addr) (cl : List (Str × Addr)) (fp : List Addr), PE (X.blk s H sc (compEnvC sc cl C X.env) fp) ek tk) (pv : ∀ (s : Shared) (H : Hp) (C : Addr) (cl : List (Str × Addr)) (fp : List Addr), PE (X.blk s H sc (compEnvC sc cl C X.env) fp) ev tv)
    (fold0 : ∀ x, foldedSetIterable j0 X.env x = pure x) (I : Inv X pins σ H s) (h : tDcT wi h0 u0 tk tv (own.map (·.2)) σ H Q)
    (after : ∀ D C t m G, Inv X pins σ G t → Q (.ref D) G → t.heap.Ns C m → FpOk X pins G C → compPost (model X.prog X.w) X.A X.xe use Qf (.ref D) C (.ok .next) t) :
    wpAny (model X.prog X.w) X.A (comprehension (.DictComp ek ev [⟨g0, j0, ts0, 0⟩] sc po) sc X.env pp newDict false (eval j0 X.env) use) Qf X.xe s := by
  have cells : ∀ y ∈ sc.names, y.2 = .free → ∃ c, X.env.cells.lookup y.1 = some c := fun y hy e => (ok.free y hy e).elim (fun k => I.ok.has _ (.inl k)) fun k => I.ok.has _ (.inr k)
  refine wpAny_comprehension_free (use := use) rfl fold0 (closure_ok cells) ok.kind (fun y hy e => by rw [ok.uniq y hy, e]) (thn (pi.run pins s σ H _ I h) fun src s1 hsrc => thn hsrc fun itv s2 walk => ?_)
  obtain ⟨it, fp, tn, J, G, e, I2, T, t2, f2, q⟩ := walk
  subst e
  refine wpAny_newObj_type (newEnv_comp ?_)
  generalize eD : s2.heap.objs.size = D
  obtain ⟨W, ⟨m0, w0⟩, turn⟩ := q D (I2.hok.fresh (Nat.le_of_eq eD))
  generalize e3 : ({ s2 with heap := s2.heap.push { cls := .type "dict", data := .dict #[] } } : Shared) = s3
  have hp3 : s3.heap = s2.heap.push { cls := .type "dict", data := .dict #[] } := by rw [← e3]
  have I3 : Inv X pins σ (upd G D (.dT [])) s3 := by
    rw [← e3]
    refine I2.laid (t' := s2.toks) (fun b o z => Heap.get?_push_of_some _ z) (Nat.le_of_eq eD) ?_
    rw [← eD]
    exact dt_empty s2.heap I2.big
  have low : ∀ b ∈ fp, b < s2.heap.objs.size := fun b hb => let ⟨o, z, _⟩ := T.obj _ _ t2 b hb; Heap.lt_size z
  have f3 : ∀ b ∈ fp, FpOk X pins (upd G D (.dT [])) b ∧ b < s3.heap.objs.size := fun b hb => by
    have lt := low b hb
    refine ⟨⟨?_, (f2 b hb).2⟩, by rw [hp3, Heap.size_push]; exact Nat.lt_succ_of_lt lt⟩
    rw [upd_ne (by rw [← eD]; exact Nat.ne_of_lt lt)]
    exact (f2 b hb).1
  have t3 : tn 0 s3.heap := T.keep _ _ _ t2 fun b _ o z => by rw [hp3]; exact Heap.get?_push_of_some _ z
  have I4 := block_start I3 ok nd f3
  have qg := pg s3 (upd G D (.dT [])) s3.heap.objs.size (cellsFrom (s3.heap.objs.size + 1) sc.names (cloFrom X.env.cells sc.names [])) fp
  have qt := pt s3 (upd G D (.dT [])) s3.heap.objs.size (cellsFrom (s3.heap.objs.size + 1) sc.names (cloFrom X.env.cells sc.names [])) fp
  have qk := pk s3 (upd G D (.dT [])) s3.heap.objs.size (cellsFrom (s3.heap.objs.size + 1) sc.names (cloFrom X.env.cells sc.names [])) fp
  have qv := pv s3 (upd G D (.dT [])) s3.heap.objs.size (cellsFrom (s3.heap.objs.size + 1) sc.names (cloFrom X.env.cells sc.names [])) fp
  show codeAny _ _ (.compStart (.DictComp ek ev [⟨g0, j0, ts0, 0⟩] sc po) 0 (.ref it) (.ref D) (compEnvC sc (cellsFrom (s3.heap.objs.size + 1) sc.names (cloFrom X.env.cells sc.names [])) s3.heap.objs.size X.env)) (compPost (model X.prog X.w) X.A X.xe use Qf (.ref D) s3.heap.objs.size) { s3 with heap := pushCells (s3.heap.push { cls := .type "dict", data := .dict #[] }) sc.names }
  have n3 : ∀ b ∈ fp, (upd G D (.dT [])) b = none := fun b hb => (f3 b hb).1.1
  generalize ece : compEnvC sc (cellsFrom (s3.heap.objs.size + 1) sc.names (cloFrom X.env.cells sc.names [])) s3.heap.objs.size X.env = ce at I4 qg qt qk qv ⊢
  have cl : ce.locals = s3.heap.objs.size := by subst ece; rfl
  generalize eG : upd G D (.dT []) = G3 at I3 I4 qg qt qk qv w0 n3 f3
  generalize e4 : ({ s3 with heap := pushCells (s3.heap.push { cls := .type "dict", data := .dict #[] }) sc.names } : Shared) = s4 at I4 ⊢
  have t4 : tn 0 s4.heap := T.keep _ _ _ t3 fun b _ o z => by rw [← e4]; exact pushCells_keeps _ _ _ _ (Heap.get?_push_of_some _ z)
  have own0 : ∀ {τ : L2.St} {G' : Hp} {t : Shared}, Inv (X.blk s3 G3 sc ce fp) [] τ G' t → (∀ b ∈ fp, G' b = none) → ∀ b ∈ fp, FpOk (X.blk s3 G3 sc ce fp) [] G' b := fun {τ G' t} K hn b hb =>
    ⟨hn b hb, (K.ok.exf b hb).1, K.ok.exfs b hb, .inl hb, fun x c z => (K.ok.exf b hb).2 x c z, fun p hp => absurd (show p ∈ ([] : List (Addr × Obj)) ++ [] from hp) (by simp)⟩
  refine codeAny_compStart_dict ?loop (T.self X.A 0 _ _ _ t4 ?loop)
  refine compLoop_anyD (fun n t => ∃ i G', Inv (X.blk s3 G3 sc ce fp) [] (wipe σ (own.map (·.2))) G' t ∧ tn i t.heap ∧ (∀ b ∈ fp, G' b = none) ∧ W i n G') ?_ m0 ⟨0, G3, I4, t4, n3, w0⟩
  rintro n s5 ⟨i, G5, I5, t5, n5, w5⟩
  rcases turn i n G5 w5 with ⟨stop, qq⟩ | ⟨go, N, hN, step⟩
  · refine thnF (T.done (X.blk s3 G3 sc ce fp) rfl rfl rfl calm i [] s5 _ G5 (fun _ _ => False) I5 (own0 I5 n5) t5 stop) fun r s6 ⟨er, I6⟩ => ?_
    subst er
    have I7 : Inv X pins σ G5 s6 := I3.call' (ch := fp) I6.os I6.base I6.hok I6.bare fun b hb => ⟨(f3 b hb).1.2.2.2.1, (f3 b hb).1.2.1, (f3 b hb).1.2.2.2.2.1, (f3 b hb).1.2.2.2.2.2⟩
    have none5 : G5 s3.heap.objs.size = none := by
      have z : G5 ce.locals = none := I6.free
      rwa [cl] at z
    obtain ⟨m, ns, _⟩ := I6.loc
    have ns : s6.heap.Ns ce.locals m := ns
    rw [cl] at ns
    exact after D s3.heap.objs.size s6 m G5 I7 qq ns (I3.fpOk (pins := pins) (Nat.le_refl _) none5)
  refine thnF (T.item (X.blk s3 G3 sc ce fp) rfl rfl rfl calm i [] s5 _ G5 (fun _ _ => False) I5 (own0 I5 n5) t5 go) fun r s6 ⟨u, er, q6⟩ => ?_
  subst er
  refine thnF q6 fun _ s7 ⟨x, G7, I7, r7, y7, t7, n7⟩ => ?_
  refine thnF (qg.run _ s7 _ G7 x u _ (I7.pinned (own0 I7 n7) (T.obj _ _ t7)) r7 (step x G7 y7)) fun _ s8 ⟨τ, G8, I8, w8, q8⟩ => ?_
  refine thnF (qt.run _ s8 τ G8 _ I8 q8) fun b s9 ⟨G9, I9, q9⟩ => ?_
  have back : ∀ {t : Shared} {G' : Hp}, Inv (X.blk s3 G3 sc ce fp) ([] ++ pinsAt fp s7.heap) τ G' t → N G' →
      ∃ m, m < n ∧ ∃ i G', Inv (X.blk s3 G3 sc ce fp) [] (wipe σ (own.map (·.2))) G' t ∧ tn i t.heap ∧ (∀ b ∈ fp, G' b = none) ∧ W i m G' := fun {t G'} K hz => by
    obtain ⟨m', lt, w'⟩ := hN G' hz
    have pinned : ∀ b ∈ fp, ∀ o, s7.heap.get? b = some o → t.heap.get? b = some o ∧ G' b = none := fun b hb o z =>
      let k := K.pin (b, o) (List.mem_append_right _ (List.mem_append_right _ (mem_pinsAt hb z)))
      ⟨k.1, k.2.1⟩
    have hl : (wipe σ (own.map (·.2))).length = τ.length := by rw [← w8, wipe_length]
    exact ⟨m', lt, i + 1, G', (K.unpinned (pins := [])).weak hl (fun j v z => by rw [← w8] at z; exact (wipe_some z).1), T.keep _ _ _ t7 fun b hb o z => (pinned b hb o z).1, fun b hb => let ⟨o, z, _⟩ := T.obj _ _ t7 b hb; (pinned b hb o z).2, w'⟩
  cases b
  · simp only [Bool.false_eq_true, if_false] at q9 ⊢
    exact back I9 q9
  simp only [if_true] at q9 ⊢
  refine thnF (qk.run _ s9 τ G9 _ I9 q9) fun y17 s17 ⟨yk, G17, I17, r17, q17⟩ => ?_
  refine thnF (qv.run _ s17 τ G17 _ I17 q17) fun y18 s18 ⟨yv, G18, I18, r18, kvs, ks, qa, eq', hq, hD, room, q18⟩ => ?_
  subst eq'
  cases (show y17 = Value.ref qa from r17)
  exact dT_set (X := X.blk s3 G3 sc ce fp) hu I18 hD hq room r18 fun s19 I19 => back I19 q18
theorem pe_dcT {ek ev g0 j0 : Expr} {ts0 : List Expr} {sc : Scope} {own : List (Str × Nat)} {po : Pos} {wi : TI} {h0 : TG} {u0 : TT} {tk tv : TE} (hu : X.A.units + 1 < cLine) (calm : X.calm = true) (nd : X.N.Nodup) (pi : PI X g0 j0 wi) (ok : BlkOk X.N X.env.scope sc own)
    (pg : ∀ (s : Shared) (H : Hp) (C : Addr) (cl : List (Str × Addr)) (fp : List Addr), PG (X.blk s H sc (compEnvC sc cl C X.env) fp) g0 h0) (pt : ∀ (s : Shared) (H : Hp) (C : Addr) (cl : List (Str × Addr)) (fp : List Addr), PTs (X.blk s H sc (compEnvC sc cl C X.env) fp) ts0 u0)
    (pk : ∀ (s : Shared) (H : Hp) (C : Addr) (cl : List (Str × Addr)) (fp : List Addr), PE (X.blk s H sc (compEnvC sc cl C X.env) fp) ek tk) (pv : ∀ (s : Shared) (H : Hp) (C : Addr) (cl : List (Str × Addr)) (fp : List Addr), PE (X.blk s H sc (compEnvC sc cl C X.env) fp) ev tv)
    (fold0 : ∀ x, foldedSetIterable j0 X.env x = pure x := by intro _; rfl) :
    PE X (.DictComp ek ev [⟨g0, j0, ts0, 0⟩] sc po) (tDcT wi h0 u0 tk tv (own.map (·.2))) := ⟨fun pins s σ H Q I h => by
  rw [arm_eval_DictComp]
  refine dcT_core hu calm nd pi ok pg pt pk pv fold0 I h fun D C t m G J q ns fp => ⟨m, ns, fun h'' sb => ?_⟩
  obtain ⟨a0, a1, a2, a3, a4, a5⟩ := fp
  exact ⟨.ref D, G, J.turned (t' := t.toks) (fun b o hb z => (sb.2 b hb).trans z) a0 a1 a3 a4 a5, rfl, q⟩⟩
/-- a local name made a dict by a comprehension alone -/
theorem ps_setDcT {i : Nat} {y : Str} {py sp : Pos} {ek ev g0 j0 : Expr} {ts0 : List Expr} {sc : Scope} {own : List (Str × Nat)} {po : Pos} {wi : TI} {h0 : TG} {u0 : TT} {tk tv : TE} (at_ : X.N[i]? = some y) (loc : X.env.scope.names.lookup y = some .local)
    (sw : swapsWith (.DictComp ek ev [⟨g0, j0, ts0, 0⟩] sc po) (some (.Name y py)) sp.line X.env = pure true) (hu : X.A.units + 1 < cLine) (calm : X.calm = true) (nd : X.N.Nodup) (pi : PI X g0 j0 wi) (ok : BlkOk X.N X.env.scope sc own)
    (pg : ∀ (s : Shared) (H : Hp) (C : Addr) (cl : List (Str × Addr)) (fp : List Addr), PG (X.blk s H sc (compEnvC sc cl C X.env) fp) g0 h0) (pt : ∀ (s : Shared) (H : Hp) (C : Addr) (cl : List (Str × Addr)) (fp : List Addr), PTs (X.blk s H sc (compEnvC sc cl C X.env) fp) ts0 u0)
    (pk : ∀ (s : Shared) (H : Hp) (C : Addr) (cl : List (Str × Addr)) (fp : List Addr), PE (X.blk s H sc (compEnvC sc cl C X.env) fp) ek tk) (pv : ∀ (s : Shared) (H : Hp) (C : Addr) (cl : List (Str × Addr)) (fp : List Addr), PE (X.blk s H sc (compEnvC sc cl C X.env) fp) ev tv)
    (fold0 : ∀ x, foldedSetIterable j0 X.env x = pure x := by intro _; rfl) :
    PS X (.Assign [.Name y py] (.DictComp ek ev [⟨g0, j0, ts0, 0⟩] sc po) sp) (tAsg (tDcT wi h0 u0 tk tv (own.map (·.2))) (gName i)) := ⟨fun pins s σ H D I h => by
  rw [exec_Assign_Name_used _ _ _ _ sw]
  refine wpAny_bind (wpAny_standAt (wpAny_bind ?_))
  have h : tDcT wi h0 u0 tk tv (own.map (·.2)) σ H (fun x G => gName i x σ G D.nx) := h
  refine wpAny_bind (thn (dcT_core (Qf := fun _ t => SP X pins D .next t) (use := some (assign (.Name y py) X.env)) (pp := firstIterPos [⟨g0, j0, ts0, 0⟩] po) hu calm nd pi ok pg pt pk pv fold0 I h fun L C t m G J q ns fp => ?_) fun _ t hq => wpAny_pure (wpAny_pure hq))
  refine wpAny_assign_Name (store_ok2 (v := V.ref L) J nd at_ (.inl loc) rfl (fun s2 I2 ⟨a, sb, ha⟩ => ?_) (.inr loc))
  obtain ⟨a0, a1, a2, a3, a4, a5⟩ := fp
  have away : C ≠ a := ha.elim (fun z => by rw [z]; exact a1) fun z e => a4 y a z e.symm
  exact ⟨m, ns.sameBut sb away, fun h3 sb3 => ⟨_, G, I2.turned (t' := s2.toks) (fun b o hb z => (sb3.2 b hb).trans z) a0 a1 a3 a4 a5, q⟩⟩⟩
theorem swDc_true {ek ev : Expr} {gs : List Comprehension} {sc : Scope} {po py : Pos} {y : Str} {l : Nat} {env : Env} (hk : env.scope.kind = .function) (hy : env.scope.names.lookup y = some .local) (hl : (py.line == po.line) = true)
    (ha : (sc.names.any fun (n, k) => n == y && (k == .local || k == .cell)) = false) : swapsWith (.DictComp ek ev gs sc po) (some (.Name y py)) l env = pure true := by
  have ky : env.kindOf y = some .local := hy
  have kb : env.blockKind = .function := by unfold Env.blockKind; rw [hk]; rfl
  unfold swapsWith
  simp only [kb, ky, ha, Expr.pos, hl]
  rfl
/-- a dict comprehension with tuple keys over a tuple that stays -/
theorem dcT_tup {K : PySem.W.Frag} {a : Addr} {xs : List V} {g : TG} {tt : TT} {tk tv : TE} {vs : List Nat} {σ : L2.St} {G : Hp} {D : Addr} {Z : Hp → Prop} (Pv : Nat → Hp → Prop) (h0 : Pv 0 (upd G D (.dT []))) (stay : ∀ i H, i ≤ xs.length → Pv i H → SqT K H a xs)
    (step : ∀ i x H, xs[i]? = some x → Pv i H → g x (wipe σ vs) H fun τ G1 => wipe τ vs = wipe σ vs ∧ tt τ G1 fun b G2 =>
      if b = true then tk τ G2 fun y G3 => tv τ G3 fun z G4 => ∃ kvs ks q, y = .ref q ∧ G4 q = some (.tup (ks.map kV)) ∧ G4 D = some (.dT kvs) ∧ kvs.length < sizeLine ∧ Pv (i + 1) (upd G4 D (.dT (putK kvs ks z))) else Pv (i + 1) G2) (last : ∀ H, Pv xs.length H → Z H) :
    ∃ W : Nat → Nat → Hp → Prop, (∃ m, W 0 m (upd G D (.dT []))) ∧ ∀ i m G, W i m G →
      ((Itt K a).stop i G ∧ Z G) ∨ ((Itt K a).go i G ∧ ∃ N : Hp → Prop, (∀ G', N G' → ∃ m', m' < m ∧ W (i + 1) m' G') ∧ ∀ x G', (Itt K a).yld i G x G' → g x (wipe σ vs) G' fun τ G1 => wipe τ vs = wipe σ vs ∧ tt τ G1 fun b G2 =>
        if b = true then tk τ G2 fun y G3 => tv τ G3 fun z G4 => ∃ kvs ks q, y = .ref q ∧ G4 q = some (.tup (ks.map kV)) ∧ G4 D = some (.dT kvs) ∧ kvs.length < sizeLine ∧ N (upd G4 D (.dT (putK kvs ks z))) else N G2) := by
  refine ⟨fun i m H => m + i = xs.length ∧ Pv i H, ⟨xs.length, rfl, h0⟩, ?_⟩
  rintro i m H ⟨em, p⟩
  have sq := stay i H (by omega) p
  rcases Nat.lt_or_ge i xs.length with lt | ge
  · refine .inr ⟨⟨xs, xs[i], sq, List.getElem?_eq_getElem lt⟩, Pv (i + 1), fun G' p' => ⟨m - 1, by omega, by omega, p'⟩, ?_⟩
    rintro x G' ⟨e, y⟩
    subst e
    exact step i x _ (y xs sq) p
  · have e : i = xs.length := by omega
    exact .inl ⟨⟨xs, sq, ge⟩, last H (e ▸ p)⟩
end
end StX
/-! own rule: a dict display with one pair, its key a tuple -/
namespace StX
open PySem PySem.Spec PyProof.Rows L2
def tDT1 (tk tv : TE) : TE := fun σ G Q => ∀ D, G D = none → tk σ (upd G D (.dT [])) fun x G1 => tv σ G1 fun z G2 => ∃ b ks, x = .ref b ∧ G2 b = some (.tup (ks.map kV)) ∧ G2 D = some (.dT []) ∧ Q (.ref D) (upd G2 D (.dT (putK [] ks z)))
theorem pe_dT1 {X : Cx} {pos : Pos} {k v : Expr} {tk tv : TE} (hu : X.A.units + 1 < cLine) (hk : PE X k tk) (hv : PE X v tv) : PE X (.Dict [some k] [v] pos) (tDT1 tk tv) := by
  refine ⟨fun pins s σ G Q I h => ?_⟩
  have fresh := I.hok.fresh (Nat.le_refl s.heap.objs.size)
  have I1 := I.laid (a := s.heap.objs.size) (o := .dT []) (h' := s.heap.push { cls := .type "dict", data := .dict #[] }) (t' := s.toks) (fun _ _ q => Heap.get?_push_of_some _ q) (Nat.le_refl _) (dt_empty s.heap I.big)
  have run := h s.heap.objs.size fresh
  have len := pairTrees_length [some k] [v] X.env pos rfl rfl
  rw [arm_eval_Dict, zip_pairTrees [some k] [v] X.env pos rfl rfl, dictDisplay_pairs (pairTrees [some k] [v] X.env pos) (fun e => by rw [e] at len; cases len) (by rw [len, List.length_singleton]; decide)]
  refine wpAny_bind (wpAny_standAt (wpAny_bind ?_))
  unfold subDict
  refine wpAny_bind (wpAny_alloc ?_)
  refine wpAny_bind (wpAny_holding ?_)
  rw [if_pos (show (pairTrees [some k] [v] X.env pos).length ≤ 15 by rw [len, List.length_singleton]; decide)]
  refine wpAny_bind ?_
  refine wpAny_mono (pairTrees_cons_walk (Q := fun vs s' => ∃ kv vv, vs = [(kv, vv)] ∧ ∃ x z G2, Inv X pins σ G2 s' ∧ RelV x kv ∧ RelV z vv ∧ ∃ b ks, x = .ref b ∧ G2 b = some (.tup (ks.map kV)) ∧ G2 s.heap.objs.size = some (.dT []) ∧ Q (.ref s.heap.objs.size) (upd G2 s.heap.objs.size (.dT (putK [] ks z))))
    (thn (hk.run pins _ σ _ _ I1 run) fun u s1 ⟨x, G1, J1, rx, q1⟩ => thn (hv.run pins s1 σ G1 _ J1 q1) fun u2 s2 ⟨z, G2, J2, rz, q2⟩ => pairTrees_nil_walk ⟨u, u2, rfl, x, z, G2, J2, rx, rz, q2⟩)) (fun vs s2 h2 => ?_) (fun _ _ e => e)
  obtain ⟨kv, vv, rfl, x, z, G2, J2, rx, rz, b, ks, rfl, eb, eD, q⟩ := h2
  cases (show kv = Value.ref b from rx)
  refine wpAny_holding ?_
  rw [List.forIn_cons]
  refine wpAny_bind (wpAny_bind (wpAny_bind (dT_set hu J2 eD eb (by decide) rz fun s3 J3 => wpAny_pure ?_)))
  show wpAny _ _ (forIn [] PUnit.unit _) _ _ _
  rw [List.forIn_nil]
  exact wpAny_pure (wpAny_pure (wpAny_pure (wpAny_pure ⟨.ref s.heap.objs.size, _, J3, rfl, q⟩)))
end StX
namespace Oo
open PySem L2 PyProof.Rows LamX StX ClX
def ttOpenN (K : PySem.W.Frag) (CF CB CT CS CL : Addr) : TT := fun σ H Q => ∃ (t vp ve : V) (fns : List Fn) (e e' : Ex) (mk : List (List Nat)) (p : List Nat), σ[0]? = some (some t) ∧ σ[1]? = some (some vp) ∧ σ[2]? = some (some ve) ∧ TaskAt K CF CB CT CS CL H t fns e mk ∧ PathAt H vp p ∧ InE H e' ve ∧ Q (isOpenE e' && !decide (p ∈ mk)) H
def spTOpen (K : PySem.W.Frag) (CF CB CT CS CL : Addr) : Sp := fun vs H Q _ => ∃ v fns e mk, vs = [v] ∧ TaskAt K CF CB CT CS CL H v fns e mk ∧ e.nodes ≤ 900 ∧ ∀ (l : Addr) (rows : List V) (H' : Hp), H' l = some (.lst rows) → Paired (PathAt H') rows ((e.opens []).filter fun p => !decide (p ∈ mk)) → H l = none → Same H H' → Q (.ref l) H'
def spTLen (K : PySem.W.Frag) (CF CB CT CS CL : Addr) : Sp := fun vs H Q _ => ∃ v fns e mk ps, vs = [v] ∧ TaskAt K CF CB CT CS CL H v fns e mk ∧ KitW ps fns ∧ ExW ps fns e ∧ Q (.int (e.steps : Int)) H
mutual
theorem own_sum : ∀ (e : Ex) (p : List Nat), ((e.pre p).map fun x => x.2.own).sum = e.steps
  | .num n, p => by simp [Ex.pre, Ex.own, Ex.steps]
  | .nd k os, p => by
    have := owns_sum os p 0
    simp only [Ex.pre, List.map_cons, List.sum_cons, this, Ex.steps]
    rfl
theorem owns_sum : ∀ (os : List Ex) (p : List Nat) (j : Nat), ((Ex.pres os p j).map fun x => x.2.own).sum = Ex.stepss os
  | [], p, j => by simp [Ex.pres, Ex.stepss]
  | e :: r, p, j => by
    have h1 := own_sum e (p ++ [j])
    have h2 := owns_sum r p (j + 1)
    simp only [Ex.pres, List.map_append, List.sum_append, h1, h2, Ex.stepss]
end
end Oo
namespace Oo
open PySem L2 PyProof.Rows LamX StX ClX
section
variable {P : Program} {w : World} {K : PySem.W.Frag} {mg : Str → Option Value} {base : Heap} {X : Cx}
theorem scTLen : FnScope ["self"] ["self"] (defScope sTLen) := ⟨rfl, rfl, rfl, by decide +kernel, rfl, by decide +kernel, by decide +kernel⟩
theorem ok_tlen {CF CB CT CS CL f : Addr} {fd : FuncData} {mc : Value} (F : Fun K "__len__" "Task.__len__" sTLen f fd) (T : TxT K CT mc) (L : TxL K CL) (ml : mg "len" = none) : FnOk P w K mg base CX0 1 f fd ["self"] (spTLen K CF CB CT CS CL) := by
  refine F.ok scTLen (fun vs H Q E h => ?_) (fun cdv A outer s H vs Q E hr h => ?_)
  · obtain ⟨v, fns, e, mk, ps, rfl, _⟩ := h
    rfl
  obtain ⟨v, fns, e, mk, ps, rfl, hT, kw, ew, q⟩ := h
  refine ⟨_, (pss_one (ps_ret (pe_callB call_len_seq (by rfl) ml PySem.boot_len (pa_cons (pe_fld (pe_fld (pv 0) rfl) rfl) pa_nil)))), ?_⟩
  obtain ⟨pt, dx, fs, vb, ve0, tp, tr, rp, rr, rfl, h1, hf, h2, h3, h4, h5, h6, h7, vl, l1, l2⟩ := id hT
  obtain ⟨a, dxl, fsl, vr, tsp, tow, tst, tb, te, vg, rsp, row, rst, rb, re, rfl, g1, g2⟩ := l2
  refine ⟨_, rfl, pt, CT, dx, fs, _, rfl, h1, T.cl, T.nL, l1, a, CL, dxl, fsl, _, rfl, g1, L.cl, L.nT, g2.f.t, tst, rst, rfl, .inr (SqT.of g2.t), ?_⟩
  have : rst.length = e.steps := by rw [g2.tp.length, stepL_steps kw e [] ew]
  show Q (V.int (rst.length : Int)) H
  rw [this]
  exact q
end
end Oo
namespace Oo
open PySem L2 PyProof.Rows LamX StX ClX
theorem TaskAt.lay {K : PySem.W.Frag} {CF CB CT CS CL : Addr} {H : Hp} {v : V} {fns : List Fn} {e : Ex} {mk : List (List Nat)} (h : TaskAt K CF CB CT CS CL H v fns e mk) : ∃ (p dx : Addr) (fs : List (Str × V)) (a dxl : Addr) (fsl : List (Str × V)) (vr : V) (tsp tow tst tb te : Addr) (vg : V) (rsp row rst rb re : List V),
    v = .ref p ∧ H p = some (.ins CT dx fs) ∧ fs.lookup ("layout" : Str) = some (.ref a) ∧ H a = some (.ins CL dxl fsl) ∧ LayO CS H fsl fns e mk vr tsp tow tst tb te vg rsp row rst rb re := by
  obtain ⟨p, dx, fs, vb, ve, tp, tr, rp, rr, e1, h1, hf, h2, h3, h4, h5, h6, h7, vl, l1, l2⟩ := h
  obtain ⟨a, dxl, fsl, vr, tsp, tow, tst, tb, te, vg, rsp, row, rst, rb, re, rfl, g1, g2⟩ := l2
  exact ⟨p, dx, fs, a, dxl, fsl, vr, tsp, tow, tst, tb, te, vg, rsp, row, rst, rb, re, e1, h1, l1, g1, g2⟩
end Oo
/-! orders: refuse_guards, shuffles, count_orders -/
namespace Oo
open PySem L2 PyProof.Rows LamX StX ClX
abbrev sRefG : Stmt := top 61
abbrev sShuf : Stmt := top 65
abbrev sCount : Stmt := top 64
theorem fact_le : ∀ n, n ≤ 2048 → fact n ≤ 2 ^ (11 * n)
  | 0, _ => Nat.le_refl _
  | n + 1, h => by
    have ih := fact_le n (by omega)
    have e : 2 ^ (11 * (n + 1)) = 2048 * 2 ^ (11 * n) := by
      rw [Nat.mul_add, Nat.mul_one, Nat.pow_add, Nat.mul_comm]
    rw [e]
    exact Nat.mul_le_mul h ih
mutual
theorem cnt_le : ∀ T : SP, T.cnt ≤ fact T.sz
  | .nd fx ks own lab => by
    have h1 := cnts_le ks
    have h2 := mlt_fact (SP.szs ks)
    have h3 : fact (SP.szs ks).sum ≤ fact ((SP.szs ks).sum + own) := by
      induction own with
      | zero => exact Nat.le_refl _
      | succ o ih => exact Nat.le_trans ih (Nat.le_mul_of_pos_left _ (Nat.succ_pos _))
    have h4 : (if fx = true then 1 else mlt (SP.szs ks)) * SP.cnts ks ≤ mlt (SP.szs ks) * pf (SP.szs ks) := by
      refine Nat.mul_le_mul ?_ h1
      split
      · exact multi_pos _ _
      · exact Nat.le_refl _
    simp only [SP.cnt, SP.sz]
    omega
theorem cnts_le : ∀ ks : List SP, SP.cnts ks ≤ pf (SP.szs ks)
  | [] => Nat.le_refl _
  | k :: r => Nat.mul_le_mul (cnt_le k) (cnts_le r)
end
mutual
theorem cnt_pos : ∀ T : SP, 0 < T.cnt
  | .nd fx ks own lab => by
    simp only [SP.cnt]
    refine Nat.mul_pos ?_ (cnts_pos ks)
    split
    · exact Nat.one_pos
    · exact multi_pos _ _
theorem cnts_pos : ∀ ks : List SP, 0 < SP.cnts ks
  | [] => Nat.one_pos
  | k :: r => Nat.mul_pos (cnt_pos k) (cnts_pos r)
end
theorem mlt_le (l : List Nat) : mlt l ≤ fact l.sum := by
  rw [← mlt_fact l]
  exact Nat.le_mul_of_pos_right _ (pf_pos l)
theorem bits_nat {x m : Nat} (h : x ≤ 2 ^ m) : Builtin.Int.intBits (x : Int) ≤ m + 1 := by
  refine intBits_le_iff.mpr ?_
  rw [Int.natAbs_natCast]
  exact Nat.lt_of_le_of_lt h (Nat.pow_lt_pow_right (by decide) (Nat.lt_succ_self m))
@[irreducible] def bigE : Nat := 19800
@[irreducible] def bigN : Nat := 2 ^ bigE
theorem le_bigE {k : Nat} (h : k ≤ 19800) : k ≤ bigE := by
  unfold bigE
  exact h
theorem le_big {k : Nat} (h : k ≤ bigE) : 2 ^ k ≤ bigN := by
  unfold bigN
  exact Nat.pow_le_pow_right (by decide) h
theorem bits_big {x : Nat} (h : x ≤ bigN) : Builtin.Int.intBits (x : Int) ≤ 19801 := by
  unfold bigN bigE at h
  exact bits_nat h
theorem mul_small {x y : Nat} (hx : x ≤ bigN) (hy : y ≤ bigN) : IntMulOk (x : Int) (y : Int) := .of_le (bits_big hx) (bits_big hy) (by decide)
theorem fact_mono {a b : Nat} (h : a ≤ b) : fact a ≤ fact b := by
  induction b with
  | zero => rw [Nat.le_zero.mp h]; exact Nat.le_refl _
  | succ b ih =>
    rcases Nat.eq_or_lt_of_le h with rfl | h
    · exact Nat.le_refl _
    · exact Nat.le_trans (ih (by omega)) (Nat.le_mul_of_pos_left _ (Nat.succ_pos _))
theorem fact_small {n : Nat} (h : n ≤ 1800) : fact n ≤ bigN := by
  refine Nat.le_trans (fact_mono h) (Nat.le_trans (fact_le 1800 (by decide)) ?_)
  exact le_big (le_bigE (by decide))
theorem mlt_small {l : List Nat} (h : l.sum ≤ 1800) : mlt l ≤ bigN := Nat.le_trans (mlt_le l) (fact_small h)
theorem small_nat {x : Nat} (h : x ≤ 2048) : x ≤ bigN := by
  have e : (2 : Nat) ^ 11 ≤ bigN := le_big (le_bigE (by decide))
  have e2 : (2 : Nat) ^ 11 = 2048 := by decide
  omega
theorem multi_app : ∀ (l : List Nat) (acc s : Nat), multi acc (l ++ [s]) = multi acc l * ways (acc + l.sum) s
  | [], acc, s => by simp [multi]
  | a :: r, acc, s => by
    simp only [List.cons_append, multi, multi_app r (acc + a) s, List.sum_cons, Nat.mul_assoc]
    rw [Nat.add_assoc]
theorem sum_take_le : ∀ (l : List Nat) (i : Nat), (l.take i).sum ≤ l.sum
  | [], i => by simp
  | a :: r, 0 => by simp
  | a :: r, i + 1 => by
    have := sum_take_le r i
    simp only [List.take_succ_cons, List.sum_cons]
    omega
section
variable {P : Program} {w : World} {K : PySem.W.Frag} {mg : Str → Option Value} {base : Heap} {X : Cx}
theorem op_mulL : OpR X (binaryOp .Mult) (rI IntMulOk fun i j => .int (i * j)) := opI fun _ _ _ _ _ _ _ hc q => mul_int q hc
def spRefG (K : PySem.W.Frag) (CF CB CT CS CL : Addr) : Sp := fun vs H Q _ => ∃ (v : V) (fns : List Fn) (e : Ex) (mk : List (List Nat)), vs = [v] ∧ TaskAt K CF CB CT CS CL H v fns e mk ∧ e.grd = false ∧ Q .non H
def spShuf : Sp := fun vs H Q _ => ∃ (a : Addr) (l : List Nat), vs = [.ref a] ∧ H a = some (.lst (nv_ l)) ∧ l.sum ≤ 1800 ∧ Q (.int (mlt l : Nat)) H
def spCount (K : PySem.W.Frag) (CF CB CT CS CL : Addr) : Sp := fun vs H Q _ => ∃ (v : V) (fns : List Fn) (e : Ex) (mk : List (List Nat)), vs = [v] ∧ TaskAt K CF CB CT CS CL H v fns e mk ∧ e.grd = false ∧ e.nodes ≤ 900 ∧ ∀ H', Same H H' → Q (.int ((e.res mk D0 [] 0).cnt : Nat)) H'
theorem scRefG : FnScope ["task"] ["task"] (defScope sRefG) := ⟨rfl, rfl, rfl, by decide +kernel, rfl, by decide +kernel, by decide +kernel⟩
theorem ok_refg {CF CB CT CS CL f : Addr} {fd : FuncData} {mc : Value} (F : Fun K "refuse_guards" "refuse_guards" sRefG f fd) (T : TxT K CT mc) (L : TxL K CL) : FnOk P w K mg base CX0 1 f fd ["task"] (spRefG K CF CB CT CS CL) := by
  refine F.ok scRefG (fun vs H Q E h => ?_) (fun cdv A outer s H vs Q E hr h => ?_)
  · obtain ⟨v, fns, e, mk, rfl, _⟩ := h
    rfl
  obtain ⟨v, fns, e, mk, rfl, hT, g, q⟩ := h
  refine ⟨_, (pss_one (ps_if (pt_cmpR op_notN (pe_fld (pe_fld (pv 0) rfl) rfl) pe_non (nomark _)) (pss_one ps_never) pss_nil)), ?_⟩
  obtain ⟨p, dx, fs, a, dxl, fsl, vr, tsp, tow, tst, tb, te, vg, rsp, row, rst, rb, re, rfl, h1, l1, g1, g2⟩ := hT.lay
  have hg : vg = .non := by
    have := g2.g
    rw [no_guards g] at this
    exact this
  subst hg
  refine ⟨_, rfl, p, CT, dx, fs, _, rfl, h1, T.cl, T.nL, l1, a, CL, dxl, fsl, _, rfl, g1, L.cl, L.nG, g2.f.g, rfl, _, rfl, iteF q⟩
theorem scShuf : FnScope ["sizes", "total", "length", "size", "at"] ["sizes"] (defScope sShuf) := ⟨rfl, rfl, rfl, by decide +kernel, rfl, by decide +kernel, by decide +kernel⟩
theorem ok_shuf {f : Addr} {fd : FuncData} (F : Fun K "shuffles" "shuffles" sShuf f fd) (mr : mg "range" = none) : FnOk P w K mg base CX0 1 f fd ["sizes"] spShuf := by
  refine F.ok scShuf (fun vs H Q E h => ?_) (fun cdv A outer s H vs Q E hr h => ?_)
  · obtain ⟨a, l, rfl, _⟩ := h
    rfl
  obtain ⟨a, l, rfl, ea, hl, q⟩ := h
  refine ⟨_, (pss_cons (ps_set (i := 1) scShuf.nd rfl (.inl rfl) pe_int)
    (pss_cons (ps_set (i := 2) scShuf.nd rfl (.inl rfl) pe_int)
    (pss_cons (ps_for PassesOwn.never rfl (pi_list (pv 0)) (pg_name (i := 3) scShuf.nd rfl (Or.inl rfl)) (pss_one (ps_for PassesOwn.never rfl (pi_range2 (by rfl) mr (pa_cons pe_int (pa_cons (pe_op op_add (pv 3) pe_int) pa_nil))) (pg_name (i := 4) scShuf.nd rfl (Or.inl rfl)) (pss_cons (ps_aug (i := 2) scShuf.nd rfl (.inl rfl) pe_int iop_add)
    (pss_one (ps_set (i := 1) scShuf.nd rfl (.inl rfl) (pe_op op_fdiv (pe_op op_mulL (pv 1) (pv 2)) (pv 4))))))))
    (pss_one (ps_ret (pv 1)))))), ?_⟩
  refine ⟨_, rfl, _, rfl, ⟨_, SqL.of ea⟩, ?_⟩
  refine for_list (K := K) (a := a) (xs := nv_ l) (fun i σ H' => ∃ x3 x4, σ = [some (.ref a), some (.int ((multi 0 (l.take i) : Nat) : Int)), some (.int (((l.take i).sum : Nat) : Int)), x3, x4] ∧ H' = H) ⟨none, none, rfl, rfl⟩ (fun i σ H' _ ⟨_, _, _, z⟩ => by rw [z]; exact SqL.of ea) ?_ ?_
  · rintro i u σ H1 hi ⟨x3, x4, rfl, rfl⟩
    have hil : i < l.length := by
      have := (List.getElem?_eq_some_iff.mp hi).1
      rwa [nv_, List.length_map] at this
    have : u = .int ((l[i] : Nat) : Int) := by
      rw [nv_, List.getElem?_map, List.getElem?_eq_getElem hil] at hi
      exact (Option.some.inj hi).symm
    subst this
    have ht := sum_take_le l (i + 1)
    rw [take_succ_get l i hil, List.sum_append, List.sum_singleton] at ht
    refine ⟨_, rfl, _, _, rfl, rfl, _, _, rfl, ⟨by omega, by omega, by omega, by omega⟩, ?_⟩
    have en : (((l[i] : Nat) : Int) + 1 - 1).toNat = l[i] := by omega
    rw [en]
    refine for_range (lo := 1) (n := l[i]) (fun j σ H' => ∃ x4, σ = [some (.ref a), some (.int ((multi 0 (l.take i ++ [j]) : Nat) : Int)), some (.int (((l.take i).sum + j : Nat) : Int)), some (.int ((l[i] : Nat) : Int)), x4] ∧ H' = H1) ⟨x4, ?_, rfl⟩ ?_ ?_
    · rw [multi_app]
      simp [ways]
      trace_state
    · rintro j σ H2 hj ⟨x4, rfl, rfl⟩
      have hsm : (l.take i ++ [j]).sum ≤ 1800 := by
        rw [List.sum_append, List.sum_singleton]
        omega
      have hms := mlt_small hsm
      have e1 : (((l.take i).sum + j : Nat) : Int) + 1 = (((l.take i).sum + j + 1 : Nat) : Int) := by omega
      have e2 : (1 : Int) + (j : Int) = ((j + 1 : Nat) : Int) := by omega
      refine ⟨_, rfl, _, _, rfl, rfl, _, rfl, _, rfl, _, _, rfl, rfl, ?_, _, rfl, _, _, rfl, rfl, ?_, ?_⟩
      · rw [e1]
        exact mul_small hms (small_nat (by omega))
      · rw [e2]
        exact ⟨by omega, by omega⟩
      · have key : ((multi 0 (l.take i ++ [j]) : Nat) : Int) * ((((l.take i).sum + j : Nat) : Int) + 1) / (1 + (j : Int)) = ((multi 0 (l.take i ++ [j + 1]) : Nat) : Int) := by
          rw [e1, e2, ← Int.natCast_mul, ← Int.natCast_ediv, multi_app, multi_app, Nat.zero_add, ways_step]
        refine ⟨some (.int (1 + (j : Int))), ?_, rfl⟩
        show [some (V.ref a), some (V.int (((multi 0 (l.take i ++ [j]) : Nat) : Int) * ((((l.take i).sum + j : Nat) : Int) + 1) / (1 + (j : Int)))), some (V.int ((((l.take i).sum + j : Nat) : Int) + 1)), some (V.int ((l[i] : Nat) : Int)), some (V.int (1 + (j : Int)))] = _
        rw [key, e1]
        rfl
    · rintro σ H2 ⟨x4, rfl, rfl⟩
      refine ⟨some (.int ((l[i] : Nat) : Int)), x4, ?_, rfl⟩
      rw [take_succ_get l i hil, List.sum_append, List.sum_singleton]
  · rintro σ H1 ⟨x3, x4, rfl, rfl⟩
    have e : (nv_ l).length = l.length := List.length_map ..
    rw [e, List.take_length]
    exact ⟨_, rfl, q⟩
def teSizeJ (CS : Addr) : TE := fun σ H Q => ∃ v e mk p n, σ[3]? = some (some v) ∧ SpanAt CS mk H e p n v ∧ Q (.int (e.steps : Int)) H
theorem scCount : FnScope ["task", "total", "span", "one"] ["task"] (defScope sCount) := ⟨rfl, rfl, rfl, by decide +kernel, rfl, by decide +kernel, by decide +kernel⟩
theorem ok_count {CF CB CT CS CL f fr fs_ : Addr} {fd fdr fds : FuncData} {mc : Value} (F : Fun K "count_orders" "count_orders" sCount f fd) (T : TxT K CT mc) (L : TxL K CL) (S : TxS K CS)
    (GR : FnOk P w K mg base CX0 1 fr fdr ["task"] (spRefG K CF CB CT CS CL)) (kR : PySem.W.keepIn K (.ref fr) = true) (bR : Binds K fdr ["task"] []) (mR : mg "refuse_guards" = some (.ref fr))
    (GS : FnOk P w K mg base CX0 1 fs_ fds ["sizes"] spShuf) (kS : PySem.W.keepIn K (.ref fs_) = true) (bS : Binds K fds ["sizes"] []) (mS : mg "shuffles" = some (.ref fs_)) : FnOk P w K mg base CX0 2 f fd ["task"] (spCount K CF CB CT CS CL) := by
  refine F.ok scCount (fun vs H Q E h => ?_) (fun cdv A outer s H vs Q E hr h => ?_)
  · obtain ⟨v, fns, e, mk, rfl, _⟩ := h
    rfl
  obtain ⟨v, fns, e, mk, rfl, hT, g, hn, q⟩ := h
  have hr1 : Room 1 _ := hr.mono (by decide)
  refine ⟨_, (pss_cons (ps_expr (pe_call GR hr1 rfl mR kR bR .nil pass0 (pa_cons (pv 0) pa_nil)))
    (pss_cons (ps_set (i := 1) scCount.nd rfl (.inl rfl) pe_int)
    (pss_cons (ps_for PassesOwn.never rfl (pi_tup (pe_fld (pe_fld (pv 0) rfl) rfl)) (pg_name (i := 2) scCount.nd rfl (Or.inl rfl)) (pss_one (ps_if (pt_not (pt_val (pe_fld (pv 2) rfl))) (pss_one (ps_set (i := 1) scCount.nd rfl (.inl rfl) (pe_op op_mulL (pv 1) (pe_call GS hr rfl mS kS bS .nil pass0 (pa_cons (pe_lc (own := [("one", 3)]) (g := gName 3) (tt := tYes) (by rfl) scCount.nd (pi_tup (pe_fld (pv 2) rfl)) (blkOk_by (own := [("one", 3)]) (N := ["task", "total", "span", "one"]) (sc := defScope sCount) (by decide +kernel)) (fun _ _ _ _ _ => (pg_name (i := 3) scCount.nd rfl (Or.inl rfl))) (fun _ _ _ _ _ => pts_nil) (fun _ _ _ _ _ => (pe_as (t' := teSizeJ CS) (pe_fld (pv 3) rfl) ?c1))) pa_nil))))) pss_nil)))
    (pss_one (ps_ret (pv 1)))))), ?_⟩
  case c1 =>
    rintro σ H Q ⟨v, e, mk, p, n, e3, hv, q⟩
    obtain ⟨ws, ⟨a1, dx, fs, vp, vf, tb, to, rfl, h1, hf, _⟩, _⟩ := hv.obj
    exact ⟨_, e3, a1, CS, dx, fs, _, rfl, h1, S.cl, S.nS, hf.s, q⟩
  have hst := steps_le e
  refine ⟨_, rfl, v, fns, e, mk, rfl, hT, g, ?_⟩
  obtain ⟨p, dx, fs, a, dxl, fsl, vr, tsp, tow, tst, tb, te, vg, rsp, row, rst, rb, re, rfl, h1, l1, g1, g2⟩ := hT.lay
  refine ⟨_, rfl, p, CT, dx, fs, _, rfl, h1, T.cl, T.nL, l1, a, CL, dxl, fsl, _, rfl, g1, L.cl, L.nS, g2.f.s, tsp, rfl, ⟨_, SqT.of g2.s⟩, ?_⟩
  have hlen := g2.sp.length
  have hpos : ∀ x ∈ (e.spn [] 0).map (shf mk), 0 < x := fun x hx => by
    obtain ⟨y, _, rfl⟩ := List.mem_map.mp hx
    exact shf_pos mk y
  refine for_tup (K := K) (a := tsp) (xs := rsp) (fun i σ H' => ∃ x2 x3, σ = [some (.ref p), some (.int ((mulN (((e.spn [] 0).map (shf mk)).take i) : Nat) : Int)), x2, x3] ∧ Same H H') ⟨none, none, rfl, Same.refl H⟩ (fun i σ H' _ ⟨_, _, _, z⟩ => SqT.of (z _ _ g2.s)) ?_ ?_
  · rintro i u σ H1 hi ⟨x2, x3, rfl, s1⟩
    have hil : i < (e.spn [] 0).length := by
      rw [← hlen]
      exact (List.getElem?_eq_some_iff.mp hi).1
    obtain ⟨⟨px, ex, nx⟩, hx, sx⟩ := paired_get g2.sp hi
    have hmem := List.mem_of_getElem? hx
    have hin := spn_in e [] 0 _ hmem
    have hop := opsteps_le ex
    obtain ⟨ws, ⟨b, dxb, fsb, vp, vf, tw, to, rfl, b1, bf, b2, b3, b4, b5⟩, hws⟩ := (sx.keep (KI.same s1) : SpanAt CS mk H1 ex px nx u).obj
    have enext : ((e.spn [] 0).map (shf mk)).take (i + 1) = ((e.spn [] 0).map (shf mk)).take i ++ [shf mk (px, ex, nx)] := by
      rw [take_succ_get _ i (by rw [List.length_map]; exact hil), List.getElem_map]
      congr 3
      exact (List.getElem?_eq_some_iff.mp hx).2
    rw [enext, mulN_app]
    refine ⟨_, rfl, b, CS, dxb, fsb, _, rfl, b1, S.cl, S.nX, bf.x, _, rfl, ?_⟩
    have hwl := hws.length
    cases hfx : ex.fx mk px with
    | true =>
      refine iteF ?_
      have es : shf mk (px, ex, nx) = 1 := if_pos hfx
      rw [es]
      simp only [mulN, Nat.mul_one]
      exact ⟨_, _, rfl, s1⟩
    | false =>
      refine iteT ⟨_, rfl, _, rfl, b, CS, dxb, fsb, _, rfl, b1, S.cl, S.nB, bf.b, tw, rfl, ⟨_, SqT.of b4⟩, fun D nD => ?_⟩
      have es : shf mk (px, ex, nx) = mlt (ex.ops.map Ex.steps) := if_neg (by rw [show (px, ex, nx).2.1.fx mk (px, ex, nx).1 = false from hfx]; exact Bool.noConfusion)
      rw [es]
      refine lc_tup (K := K) (a := tw) (xs := ws) (fun k H' => H' D = some (.lst (nv_ ((ex.ops.map Ex.steps).take k))) ∧ Same H1 H') ⟨upd_same, same_up nD⟩ (fun k H' _ z => SqT.of (z.2 _ _ b4)) ?_ ?_
      · rintro k y H2 hk ⟨eD, s2⟩
        have hkl : k < ex.ops.length := by
          rw [← hwl]
          exact (List.getElem?_eq_some_iff.mp hk).1
        obtain ⟨y', hy', sy⟩ := hws.get k hkl
        have : y = y' := Option.some.inj (hk.symm.trans hy')
        subst this
        have hsz : (nv_ ((ex.ops.map Ex.steps).take k)).length ≤ 900 := by
          have := len_ops ex
          have := spn_nodes e [] 0 _ hmem
          simp only [nv_, List.length_map, List.length_take] at this ⊢
          omega
        refine ⟨rfl, yes_i ⟨_, ex.ops[k], mk, _, _, rfl, sy.keep (KI.same s2) _ _ _ _, _, eD, small1000 (by omega), ?_, fun b' o z => by rw [upd_ne (ne_of_none z nD)]; exact s2 _ _ z⟩⟩
        rw [take_succ_get _ k (by rw [List.length_map]; exact hkl), List.getElem_map]
        simp only [nv_, List.map_append, List.map_cons, List.map_nil]
        exact upd_same
      · rintro H2 ⟨eD, s2⟩
        rw [hwl, ← List.length_map (f := Ex.steps), List.take_length] at eD
        have hms : (ex.ops.map Ex.steps).sum ≤ 1800 := by
          rw [stepss_map]
          simp only at hin
          omega
        refine ⟨D, _, rfl, eD, hms, ?_⟩
        have hT1 : mulN (((e.spn [] 0).map (shf mk)).take i) ≤ bigN := by
          have b1 := mulN_take hpos i
          rw [spn_cnt] at b1
          have b2 := cnt_le (e.res mk D0 [] 0)
          rw [res_sz, und_D0] at b2
          exact Nat.le_trans b1 (Nat.le_trans b2 (fact_small (by omega)))
        refine ⟨_, _, rfl, rfl, mul_small hT1 (mlt_small hms), some (.ref b), x3, ?_, s1.trans s2⟩
        simp only [mulN, Nat.mul_one]
        rw [← Int.natCast_mul]
        rfl
  · rintro σ H1 ⟨x2, x3, rfl, s1⟩
    rw [hlen, ← List.length_map (f := shf mk), List.take_length, spn_cnt]
    exact ⟨_, rfl, q H1 s1⟩
end
end Oo
/-! orders: is_order of a tuple of numbers -/
namespace Oo
open PySem L2 PyProof.Rows LamX StX ClX
abbrev sIsOrd : Stmt := top 63
theorem Bits.one (s : Nat) : Bits (2 ^ s) (fun i => decide (i = s)) := by
  have h := (Bits.low 1).shl s
  refine (show Bits (2 ^ s) _ from by simpa using h).congr fun i => ?_
  by_cases hi : i = s
  · simp [hi]
  · rw [decide_eq_false hi]
    by_cases h1 : s ≤ i
    · rw [decide_eq_true h1, decide_eq_false (by omega)]
      rfl
    · rw [decide_eq_false h1]
      rfl
section
variable {P : Program} {w : World} {K : PySem.W.Frag} {mg : Str → Option Value} {base : Heap} {X : Cx}
def spIsOrd (K : PySem.W.Frag) (CF CB CT CS CL : Addr) : Sp := fun vs H Q _ => ∃ (v : V) (t : Addr) (fns : List Fn) (e : Ex) (mk : List (List Nat)) (o : List Nat), vs = [v, .ref t] ∧ TaskAt K CF CB CT CS CL H v fns e mk ∧ H t = some (.tup (pv_ o)) ∧ e.grd = false ∧ e.nodes ≤ 900 ∧ ∀ b : Bool, (b = true ↔ o.length = e.steps ∧ Goes (e.prec mk [] 0) e.steps D0 o) → Q (.bl b) H
theorem scIsOrd : FnScope ["task", "value", "befores", "done", "step"] ["task", "value"] (defScope sIsOrd) := ⟨rfl, rfl, rfl, by decide +kernel, rfl, by decide +kernel, by decide +kernel⟩
theorem ok_isord {CF CB CT CS CL f fr fi : Addr} {fd fdr fdi : FuncData} {mc : Value} (F : Fun K "is_order" "is_order" sIsOrd f fd) (T : TxT K CT mc) (L : TxL K CL) (ml : mg "len" = none) (mt : mg "tuple" = none) (mis : mg "isinstance" = none)
    (GI : FnOk P w K mg base CX0 1 fi fdi ["value"] spIsInt) (kI : PySem.W.keepIn K (.ref fi) = true) (bI : Binds K fdi ["value"] []) (mI : mg "is_integer" = some (.ref fi))
    (GR : FnOk P w K mg base CX0 1 fr fdr ["task"] (spRefG K CF CB CT CS CL)) (kR : PySem.W.keepIn K (.ref fr) = true) (bR : Binds K fdr ["task"] []) (mR : mg "refuse_guards" = some (.ref fr)) : FnOk P w K mg base CX0 2 f fd ["task", "value"] (spIsOrd K CF CB CT CS CL) := by
  refine F.ok scIsOrd (fun vs H Q E h => ?_) (fun cdv A outer s H vs Q E hr h => ?_)
  · obtain ⟨v, t, fns, e, mk, o, rfl, _⟩ := h
    rfl
  obtain ⟨v, t, fns, e, mk, o, rfl, hT, ht, g, hn, q⟩ := h
  have hr1 : Room 1 _ := hr.mono (by decide)
  refine ⟨_, (pss_cons (ps_expr (pe_call GR hr1 rfl mR kR bR .nil pass0 (pa_cons (pv 0) pa_nil)))
    (pss_cons (ps_set (i := 2) scIsOrd.nd rfl (.inl rfl) (pe_fld (pe_fld (pv 0) rfl) rfl))
    (pss_cons (ps_if (PW.pt (pw_or (pt_not (pt_val (pe_callB call_isi (by rfl) mis boot_isinstance (pa_cons (pv 1) (pa_cons (pe_bltn (v := .ty "tuple") (by rfl) mt (by decide +kernel) rfl) pa_nil))))) (pw_or1 (pt_cmpR op_ne (pe_callB call_len_seq (by rfl) ml PySem.boot_len (pa_cons (pv 1) pa_nil)) (pe_callB call_len_seq (by rfl) ml PySem.boot_len (pa_cons (pv 2) pa_nil)) (nomark _))))) (pss_one (ps_ret pe_bl)) pss_nil)
    (pss_cons (ps_set (i := 3) scIsOrd.nd rfl (.inl rfl) pe_int)
    (pss_cons (ps_for PassesOwn.never rfl (pi_tup (pv 1)) (pg_name (i := 4) scIsOrd.nd rfl (Or.inl rfl)) (pss_cons (ps_if (PW.pt (pw_or (pt_not (pt_val (pe_call GI hr1 rfl mI kI bI .nil pass0 (pa_cons (pv 4) pa_nil)))) (pw_or1 (pt_not (pt_chain op_le op_lt pe_int (pv 4) (pe_callB call_len_seq (by rfl) ml PySem.boot_len (pa_cons (pv 2) pa_nil))))))) (pss_one (ps_ret pe_bl)) pss_nil)
    (pss_cons (ps_if (PW.pt (pw_or (pt_truth (pe_op op_and (pe_op op_shrN (pv 3) (pv 4)) pe_int) (by intro _; rfl)) (pw_or1 (pt_truth (pe_op op_and (pe_ix ix_tup (pv 2) (pv 4) (fun _ _ => rfl)) (pe_un un_inv (pv 3))) (by intro _; rfl))))) (pss_one (ps_ret pe_bl)) pss_nil)
    (pss_one (ps_set (i := 3) scIsOrd.nd rfl (.inl rfl) (pe_op op_or (pv 3) (pe_op op_oneShl pe_int (pv 4))))))))
    (pss_one (ps_ret pe_bl))))))), ?_⟩
  have hst := steps_le e
  refine ⟨_, rfl, v, fns, e, mk, rfl, hT, g, ?_⟩
  obtain ⟨p, dx, fs, a, dxl, fsl, vr, tsp, tow, tst, tb, te, vg, rsp, row, rst, rb, re, rfl, h1, l1, g1, g2⟩ := hT.lay
  refine ⟨_, rfl, p, CT, dx, fs, _, rfl, h1, T.cl, T.nL, l1, a, CL, dxl, fsl, _, rfl, g1, L.cl, L.nB, g2.f.b, ?_⟩
  refine ⟨_, rfl, _, _, _, _, true, rfl, .ty "tuple", .base (.tup ht), kit_ty (by decide +kernel), true, rfl, iteF ?_⟩
  have hpv : (pv_ o).length = o.length := List.length_map ..
  have hbl : rb.length = e.steps := g2.bs.1
  refine ⟨_, rfl, t, _, rfl, .inr (SqT.of ht), _, rfl, tb, _, rfl, .inr (SqT.of g2.b), rfl, ?_⟩
  rw [hpv, hbl]
  by_cases hlen : o.length = e.steps
  · rw [show decide (V.int ((o.length : Nat) : Int) = V.int ((e.steps : Nat) : Int)) = true from decide_eq_true (by rw [hlen])]
    refine ⟨_, rfl, iteF ?_⟩
    refine ⟨_, rfl, t, rfl, ⟨_, SqT.of ht⟩, ?_⟩
    refine for_tup (K := K) (a := t) (xs := pv_ o) (fun k σ H' => ∃ (x : Int) (D : Dn) (x4 : Option V), σ = [some (.ref p), some (.ref t), some (.ref tb), some (.int x), x4] ∧ Bits x D ∧ H' = H ∧ (Goes (e.prec mk [] 0) e.steps D0 o ↔ Goes (e.prec mk [] 0) e.steps D (o.drop k))) ⟨0, D0, none, rfl, Bits.zero, rfl, Iff.rfl⟩ (fun k σ H' _ ⟨_, _, _, _, _, z, _⟩ => by rw [z]; exact SqT.of ht) ?_ ?_
    · rintro k u σ H1 hk ⟨x, D, x4, rfl, hx, rfl, hg⟩
      have hkl : k < o.length := by
        have := (List.getElem?_eq_some_iff.mp hk).1
        rwa [hpv] at this
      have hu : u = .int ((o[k] : Nat) : Int) := by
        rw [pv_, List.getElem?_map, List.getElem?_eq_getElem hkl] at hk
        exact (Option.some.inj hk).symm
      subst hu
      rw [List.drop_eq_getElem_cons hkl] at hg
      have bad : ¬ (o[k] < e.steps ∧ rdyB (e.prec mk [] 0) D 0 e.steps o[k] = true) → Q (.bl false) H1 := fun h => q false ⟨fun z => Bool.noConfusion z, fun z => absurd ⟨(hg.mp z.2).1, (hg.mp z.2).2.1⟩ h⟩
      generalize o[k] = st at hg bad hk ⊢
      refine ⟨_, rfl, .inl ⟨(st : Int), rfl, true, rfl, iteF ?_⟩⟩
      refine ⟨_, rfl, _, _, rfl, rfl, _, rfl, iteYes (by omega) ⟨_, rfl, tb, _, rfl, .inr (SqT.of g2.b), _, _, rfl, rfl, _, rfl, ?_⟩⟩
      rw [hbl]
      by_cases hs : st < e.steps
      · rw [decide_eq_true (show (st : Int) < (e.steps : Int) by omega)]
        refine iteF ?_
        refine ⟨_, rfl, _, rfl, x, st, rfl, rfl, _, _, rfl, rfl, ?_⟩
        have htest := hx.test st
        by_cases hD : D st = true
        · rw [if_pos hD] at htest
          refine ⟨true, ?_, iteT (bad fun h => by rw [(rdy_iff.mp h.2).1] at hD; cases hD)⟩
          show TruV _ (V.int (Builtin.bitAnd (x / 2 ^ st) 1)) H1 true
          rw [htest]
          exact rfl
        · rw [if_neg hD] at htest
          refine ⟨false, ?_, iteF ?_⟩
          · show TruV _ (V.int (Builtin.bitAnd (x / 2 ^ st) 1)) H1 false
            rw [htest]
            exact rfl
          · obtain ⟨b, hb, hbits⟩ := g2.bs.2 st hs
            have hAB := hbits.andNot hx
            refine ⟨_, rfl, _, rfl, tb, _, _, _, rfl, rfl, SqT.of g2.b, at_nat hb, _, rfl, _, rfl, _, _, rfl, rfl, ?_⟩
            by_cases hz : Builtin.bitAnd (b : Int) (Builtin.bitNot x) = 0
            · have hall : ∀ i, e.prec mk [] 0 i st = true → D i = true := fun i hi => by
                have hz2 : Bits 0 (fun i => e.prec mk [] 0 i st && !D i) := hz ▸ hAB
                obtain ⟨z, hz3, hz4⟩ := hz2
                have hz0 : z = 0 := by omega
                have h9 : z.testBit i = (e.prec mk [] 0 i st && !D i) := hz4 i
                have this : false = (e.prec mk [] 0 i st && !D i) := by rw [← h9, hz0, Nat.zero_testBit]
                rw [hi, Bool.true_and] at this
                cases hd : D i with
                | true => rfl
                | false => rw [hd] at this; cases this
              refine ⟨false, ?_, iteF ?_⟩
              · show false = (Builtin.bitAnd (b : Int) (Builtin.bitNot x) != 0)
                rw [hz]
                rfl
              · refine ⟨_, rfl, _, rfl, st, rfl, rfl, by omega, _, _, rfl, rfl, ?_⟩
                have hfD : D st = false := by
                  cases hd : D st with
                  | false => rfl
                  | true => exact absurd hd hD
                refine ⟨_, D.put st, some (.int (st : Int)), rfl, hx.or (Bits.one st), rfl, hg.trans ⟨fun h => h.2.2, fun h => ⟨hs, rdy_iff.mpr ⟨hfD, fun i _ _ hi => hall i hi⟩, h⟩⟩⟩
            · refine ⟨true, ?_, iteT (bad fun h => hz ?_)⟩
              · show true = (Builtin.bitAnd (b : Int) (Builtin.bitNot x) != 0)
                exact (bne_iff_ne.mpr hz).symm
              · refine Bits.uniq hAB Bits.zero fun i => ?_
                cases hi : e.prec mk [] 0 i st with
                | false => rfl
                | true =>
                  have h3 := (prec_rng _ _ _ _ _ hi)
                  rw [(rdy_iff.mp h.2).2 i (Nat.zero_le _) (by omega) hi]
                  rfl
      · rw [decide_eq_false (show ¬ (st : Int) < (e.steps : Int) by omega)]
        exact iteT (bad fun h => hs h.1)
    · rintro σ H1 ⟨x, D, x4, rfl, hx, rfl, hg⟩
      rw [hpv, List.drop_length] at hg
      exact q true ⟨fun _ => ⟨hlen, hg.mpr trivial⟩, fun _ => rfl⟩
  · rw [show decide (V.int ((o.length : Nat) : Int) = V.int ((e.steps : Nat) : Int)) = false from decide_eq_false (fun z => hlen (by have := V.int.inj z; omega))]
    refine ⟨_, rfl, iteT ?_⟩
    exact q false ⟨fun z => Bool.noConfusion z, fun z => absurd z.1 hlen⟩
end
end Oo
namespace Oo
open PySem L2 PyProof.Rows LamX StX ClX
abbrev sPrec : Stmt := top 72
def spPrec (K : PySem.W.Frag) (CF CB CT CS CL : Addr) : Sp := fun vs H Q _ => ∃ (v : V) (fns : List Fn) (e : Ex) (mk : List (List Nat)) (ps : List Str) (i j : Nat), vs = [v, .int (i : Int), .int (j : Int)] ∧ TaskAt K CF CB CT CS CL H v fns e mk ∧ KitW ps fns ∧ ExW ps fns e ∧ i < e.steps ∧ j < e.steps ∧ e.nodes ≤ 900 ∧ ∀ H', Same H H' → Q (.bl (e.prec mk [] 0 i j)) H'
section
variable {P : Program} {w : World} {K : PySem.W.Frag} {mg : Str → Option Value} {base : Heap} {X : Cx}
theorem scPrec : FnScope ["task", "one", "other", "step"] ["task", "one", "other"] (defScope sPrec) := ⟨rfl, rfl, rfl, by decide +kernel, rfl, by decide +kernel, by decide +kernel⟩
theorem ok_prec {CF CB CT CS CL f fi fl : Addr} {fd fdi fdl : FuncData} {mc : Value} (F : Fun K "precedes" "precedes" sPrec f fd) (T : TxT K CT mc) (L : TxL K CL) (ml : mg "len" = none)
    (GI : FnOk P w K mg base CX0 1 fi fdi ["value"] spIsInt) (kI : PySem.W.keepIn K (.ref fi) = true) (bI : Binds K fdi ["value"] []) (mI : mg "is_integer" = some (.ref fi))
    (GLen : FnOk P w K mg base CX0 1 fl fdl ["self"] (spTLen K CF CB CT CS CL)) (DLen : Dun K CT "__len__" fl) (bLen : Binds K fdl ["self"] []) : FnOk P w K mg base CX0 3 f fd ["task", "one", "other"] (spPrec K CF CB CT CS CL) := by
  refine F.ok scPrec (fun vs H Q E h => ?_) (fun cdv A outer s H vs Q E hr h => ?_)
  · obtain ⟨v, fns, e, mk, ps, i, j, rfl, _⟩ := h
    rfl
  obtain ⟨v, fns, e, mk, ps, i, j, rfl, hT, kw, ew, hi, hj, hn, q⟩ := h
  have hr1 : Room 1 _ := hr.mono (by decide)
  refine ⟨_, (pss_cons (ps_for PassesOwn.never rfl (pi_tup (pe_tup (pa_cons (pv 1) (pa_cons (pv 2) pa_nil)))) (pg_name (i := 3) scPrec.nd rfl (Or.inl rfl)) (pss_one (ps_if (PW.pt (pw_or (pt_not (pt_val (pe_call GI hr1 rfl mI kI bI .nil pass0 (pa_cons (pv 3) pa_nil)))) (pw_or1 (pt_not (pt_chain op_le op_lt pe_int (pv 3) (pe_callB (call_lenO GLen hr DLen bLen pass0) (by rfl) ml PySem.boot_len (pa_cons (pv 0) pa_nil))))))) (pss_one ps_never) pss_nil)))
    (pss_one (ps_ret (pe_cmpR op_eq (pe_op op_and (pe_op op_shrN (pe_ix ix_tup (pe_fld (pe_fld (pv 0) rfl) rfl) (pv 2) (fun _ _ => rfl)) (pv 1)) pe_int) pe_int (nomark _))))), ?_⟩
  obtain ⟨p, dx, fs, a, dxl, fsl, vr, tsp, tow, tst, tb, te, vg, rsp, row, rst, rb, re, rfl, h1, l1, g1, g2⟩ := hT.lay
  refine ⟨_, rfl, _, rfl, sz (by simp), fun t nt => ⟨t, rfl, ⟨_, SqT.of upd_same⟩, ?_⟩⟩
  have s1 := same_up (o := .tup [V.int (i : Int), .int (j : Int)]) nt
  have hT1 := hT.keep s1
  refine for_tup (K := K) (a := t) (xs := [V.int (i : Int), .int (j : Int)]) (fun k σ H' => ∃ x : Option V, σ = [some (.ref p), some (.int (i : Int)), some (.int (j : Int)), x] ∧ Same H H' ∧ H' t = some (.tup [V.int (i : Int), .int (j : Int)])) ⟨none, rfl, s1, upd_same⟩ (fun k σ H' _ ⟨_, _, _, z⟩ => SqT.of z) ?_ ?_
  · rintro k u σ H1 hk ⟨x, rfl, s2, et⟩
    have hu' : ∃ m : Nat, u = .int (m : Int) ∧ m < e.steps := by
      match k, hk with
      | 0, hk => exact ⟨i, (Option.some.inj hk).symm, hi⟩
      | 1, hk => exact ⟨j, (Option.some.inj hk).symm, hj⟩
      | k + 2, hk => cases hk
    obtain ⟨m, rfl, hm⟩ := hu'
    have hst := steps_le e
    refine ⟨_, rfl, .inl ⟨(m : Int), rfl, true, rfl, iteF ?_⟩⟩
    refine ⟨_, rfl, _, _, rfl, rfl, _, rfl, iteYes (by omega) ⟨_, rfl, p, dx, fs, rfl, s2 _ _ h1, _, fns, e, mk, ps, rfl, hT.keep s2, kw, ew, e.steps, rfl, by omega, _, _, rfl, rfl, _, rfl, ?_⟩⟩
    rw [decide_eq_true (show (m : Int) < (e.steps : Int) by omega)]
    exact iteF ⟨_, rfl, s2, et⟩
  · rintro σ H1 ⟨x, rfl, s2, et⟩
    obtain ⟨b, hb, hbits⟩ := g2.bs.2 j hj
    refine ⟨_, rfl, p, CT, dx, fs, _, rfl, s2 _ _ h1, T.cl, T.nL, l1, a, CL, dxl, fsl, _, rfl, s2 _ _ g1, L.cl, L.nB, g2.f.b, _, rfl, tb, rb, _, _, rfl, rfl, SqT.of (s2 _ _ g2.b), at_nat hb, _, rfl, b, i, rfl, rfl, _, _, rfl, rfl, rfl, ?_⟩
    have ht := hbits.test i
    show Q (.bl (decide (V.int (Builtin.bitAnd (b / 2 ^ i) 1) = .int 1))) H1
    rw [ht]
    have := q H1 s2
    cases hp : e.prec mk [] 0 i j with
    | true => rw [hp] at this; exact this
    | false => rw [hp] at this; exact this
end
end Oo
namespace Oo
open PySem L2 PyProof.Rows LamX StX ClX
/-- the sum of two tuples -/
theorem sum_any {K : PySem.W.Frag} {H : Hp} {a b : Addr} {xs ys : List V} {Q : VK} (ha : H a = some (.tup xs)) (hb : H b = some (.tup ys)) (hl : xs.length + ys.length ≤ 1000) (k : ∀ t H', H' t = some (.tup (xs ++ ys)) → Same H H' → Q (.ref t) H') : rCatA K (.ref a) (.ref b) H Q := by
  refine ⟨a, b, xs, ys, rfl, rfl, SqT.of ha, SqT.of hb, sz hl, fun z => ?_, fun _ z => ?_, fun _ _ p np => k p _ upd_same (same_up np)⟩
  · subst z
    exact k b H (by rw [hb, List.nil_append]) (Same.refl _)
  · subst z
    exact k a H (by rw [ha, List.append_nil]) (Same.refl _)
end Oo
/-! the nodes' paths: each node has its own; a step's owner lies within just the nodes whose steps it is among -/
namespace Oo
open PySem
mutual
theorem spn_ext : ∀ (e : Ex) (p : List Nat) (n : Nat), ∀ x ∈ e.spn p n, p <+: x.1
  | .num c, p, n, x, hx => by
    simp only [Ex.spn, List.mem_singleton] at hx
    subst hx
    exact List.prefix_rfl
  | .nd k os, p, n, x, hx => by
    rcases List.mem_cons.mp (show x ∈ (p, Ex.nd k os, n) :: Ex.spns os p 0 n from hx) with rfl | hx
    · exact List.prefix_rfl
    · obtain ⟨b, _, h⟩ := spns_ext os p 0 n x hx
      exact (List.prefix_append p [b]).trans h
theorem spns_ext : ∀ (os : List Ex) (p : List Nat) (a n : Nat), ∀ x ∈ Ex.spns os p a n, ∃ b, a ≤ b ∧ p ++ [b] <+: x.1
  | [], p, a, n, x, hx => by cases hx
  | e :: r, p, a, n, x, hx => by
    rcases List.mem_append.mp (show x ∈ e.spn (p ++ [a]) n ++ Ex.spns r p (a + 1) (n + e.steps) from hx) with hx | hx
    · exact ⟨a, Nat.le_refl _, spn_ext e (p ++ [a]) n x hx⟩
    · obtain ⟨b, hb, h⟩ := spns_ext r p (a + 1) (n + e.steps) x hx
      exact ⟨b, by omega, h⟩
end
theorem not_ext {p : List Nat} {b : Nat} {q : List Nat} (h : p ++ [b] <+: q) : ¬ q <+: p := fun k => by
  have := (h.trans k).length_le
  simp only [List.length_append, List.length_singleton] at this
  omega
mutual
/-- no two nodes have the same path -/
theorem spn_uniq : ∀ (e : Ex) (p : List Nat) (n : Nat), ∀ x ∈ e.spn p n, ∀ y ∈ e.spn p n, x.1 = y.1 → x = y
  | .num c, p, n, x, hx, y, hy, _ => by
    simp only [Ex.spn, List.mem_singleton] at hx hy
    rw [hx, hy]
  | .nd k os, p, n, x, hx, y, hy, h => by
    rcases List.mem_cons.mp (show x ∈ (p, Ex.nd k os, n) :: Ex.spns os p 0 n from hx) with rfl | hx
    · rcases List.mem_cons.mp (show y ∈ (p, Ex.nd k os, n) :: Ex.spns os p 0 n from hy) with rfl | hy
      · rfl
      · obtain ⟨b, _, hb⟩ := spns_ext os p 0 n y hy
        exact absurd (show y.1 <+: p from h ▸ List.prefix_rfl) (not_ext hb)
    · rcases List.mem_cons.mp (show y ∈ (p, Ex.nd k os, n) :: Ex.spns os p 0 n from hy) with rfl | hy
      · obtain ⟨b, _, hb⟩ := spns_ext os p 0 n x hx
        exact absurd (show x.1 <+: p from h ▸ List.prefix_rfl) (not_ext hb)
      · exact spns_uniq os p 0 n x hx y hy h
theorem spns_uniq : ∀ (os : List Ex) (p : List Nat) (a n : Nat), ∀ x ∈ Ex.spns os p a n, ∀ y ∈ Ex.spns os p a n, x.1 = y.1 → x = y
  | [], p, a, n, x, hx, _, _, _ => by cases hx
  | e :: r, p, a, n, x, hx, y, hy, h => by
    rcases List.mem_append.mp (show x ∈ e.spn (p ++ [a]) n ++ Ex.spns r p (a + 1) (n + e.steps) from hx) with hx | hx
    · rcases List.mem_append.mp (show y ∈ e.spn (p ++ [a]) n ++ Ex.spns r p (a + 1) (n + e.steps) from hy) with hy | hy
      · exact spn_uniq e (p ++ [a]) n x hx y hy h
      · obtain ⟨b, hb, h2⟩ := spns_ext r p (a + 1) (n + e.steps) y hy
        exact absurd h2 fun h2 => pre_apart (by omega) (spn_ext e (p ++ [a]) n x hx) (h ▸ h2)
    · rcases List.mem_append.mp (show y ∈ e.spn (p ++ [a]) n ++ Ex.spns r p (a + 1) (n + e.steps) from hy) with hy | hy
      · obtain ⟨b, hb, h2⟩ := spns_ext r p (a + 1) (n + e.steps) x hx
        exact absurd h2 fun h2 => pre_apart (by omega) (spn_ext e (p ++ [a]) n y hy) (h ▸ h2)
      · exact spns_uniq r p (a + 1) (n + e.steps) x hx y hy h
end
mutual
/-- each begin of a node's path leads to a node -/
theorem spn_take : ∀ (e : Ex) (p : List Nat) (n : Nat), ∀ x ∈ e.spn p n, ∀ k, p.length ≤ k → ∃ y ∈ e.spn p n, y.1 = x.1.take k
  | .num c, p, n, x, hx, k, hk => by
    refine ⟨x, hx, ?_⟩
    simp only [Ex.spn, List.mem_singleton] at hx
    subst hx
    exact (List.take_of_length_le hk).symm
  | .nd kd os, p, n, x, hx, k, hk => by
    have hr : (p, Ex.nd kd os, n) ∈ (Ex.nd kd os).spn p n := List.mem_cons_self ..
    rcases Nat.eq_or_lt_of_le hk with rfl | hk
    · refine ⟨_, hr, ?_⟩
      exact List.prefix_iff_eq_take.mp (spn_ext _ p n x hx)
    · rcases List.mem_cons.mp (show x ∈ (p, Ex.nd kd os, n) :: Ex.spns os p 0 n from hx) with rfl | hx
      · exact ⟨_, hr, (List.take_of_length_le (Nat.le_of_lt hk)).symm⟩
      · obtain ⟨y, hy, e⟩ := spns_take os p 0 n x hx k hk
        exact ⟨y, List.mem_cons_of_mem _ hy, e⟩
theorem spns_take : ∀ (os : List Ex) (p : List Nat) (a n : Nat), ∀ x ∈ Ex.spns os p a n, ∀ k, p.length < k → ∃ y ∈ Ex.spns os p a n, y.1 = x.1.take k
  | [], p, a, n, x, hx, _, _ => by cases hx
  | e :: r, p, a, n, x, hx, k, hk => by
    rcases List.mem_append.mp (show x ∈ e.spn (p ++ [a]) n ++ Ex.spns r p (a + 1) (n + e.steps) from hx) with hx | hx
    · obtain ⟨y, hy, h⟩ := spn_take e (p ++ [a]) n x hx k (by simp only [List.length_append, List.length_singleton]; omega)
      exact ⟨y, List.mem_append_left _ hy, h⟩
    · obtain ⟨y, hy, h⟩ := spns_take r p (a + 1) (n + e.steps) x hx k hk
      exact ⟨y, List.mem_append_right _ hy, h⟩
end
theorem pref_take {p q : List Nat} (h : p <+: q) {k : Nat} (hk : p.length = k) : p = q.take k := by
  rw [← hk]
  exact List.prefix_iff_eq_take.mp h
mutual
theorem spn_plen : ∀ (e : Ex) (p : List Nat) (n : Nat), ∀ x ∈ e.spn p n, x.1.length + 1 ≤ p.length + e.nodes
  | .num c, p, n, x, hx => by
    simp only [Ex.spn, List.mem_singleton] at hx
    subst hx
    exact Nat.le_refl _
  | .nd kd os, p, n, x, hx => by
    rcases List.mem_cons.mp (show x ∈ (p, Ex.nd kd os, n) :: Ex.spns os p 0 n from hx) with rfl | hx
    · have := nodes_one (Ex.nd kd os)
      show p.length + 1 ≤ _
      omega
    · have := spns_plen os p 0 n x hx
      simp only [Ex.nodes]
      omega
theorem spns_plen : ∀ (os : List Ex) (p : List Nat) (a n : Nat), ∀ x ∈ Ex.spns os p a n, x.1.length ≤ p.length + Ex.nodess os
  | [], p, a, n, x, hx => by cases hx
  | e :: r, p, a, n, x, hx => by
    simp only [Ex.nodess]
    rcases List.mem_append.mp (show x ∈ e.spn (p ++ [a]) n ++ Ex.spns r p (a + 1) (n + e.steps) from hx) with hx | hx
    · have := spn_plen e (p ++ [a]) n x hx
      simp only [List.length_append, List.length_singleton] at this
      omega
    · have := spns_plen r p (a + 1) (n + e.steps) x hx
      omega
end
def InT (y : Trip) (s : Nat) : Prop := y.2.2 ≤ s ∧ s < y.2.2 + y.2.1.steps
mutual
/-- a step lies within a node just if its owner's path goes through it -/
theorem spn_pref : ∀ (e : Ex) (p : List Nat) (n : Nat), ∀ x ∈ e.spn p n, ∀ y ∈ e.spn p n, ∀ s ∈ x.own, (y.1 <+: x.1 ↔ InT y s)
  | .num c, p, n, x, hx, y, hy, s, hs => by
    simp only [Ex.spn, List.mem_singleton] at hx
    subst hx
    have := mem_owns.mp (show s ∈ (Ex.num c).owns n from hs)
    simp only [Ex.steps] at this
    omega
  | .nd k os, p, n, x, hx, y, hy, s, hs => by
    have xin := spn_in (.nd k os) p n x hx
    have sin := mem_owns.mp (show s ∈ x.2.1.owns x.2.2 from hs)
    rcases List.mem_cons.mp (show y ∈ (p, Ex.nd k os, n) :: Ex.spns os p 0 n from hy) with rfl | hy
    · exact ⟨fun _ => ⟨by show n ≤ s; omega, by show s < n + (Ex.nd k os).steps; omega⟩, fun _ => spn_ext _ p n x hx⟩
    · rcases List.mem_cons.mp (show x ∈ (p, Ex.nd k os, n) :: Ex.spns os p 0 n from hx) with rfl | hx
      · obtain ⟨b, _, hb⟩ := spns_ext os p 0 n y hy
        have yin := spns_in os p 0 n y hy
        refine ⟨fun h => absurd h (not_ext hb), fun h => ?_⟩
        have h1 : n + Ex.stepss os ≤ s := sin.1
        have h2 := h.2
        omega
      · exact spns_pref os p 0 n x hx y hy s hs
theorem spns_pref : ∀ (os : List Ex) (p : List Nat) (a n : Nat), ∀ x ∈ Ex.spns os p a n, ∀ y ∈ Ex.spns os p a n, ∀ s ∈ x.own, (y.1 <+: x.1 ↔ InT y s)
  | [], p, a, n, x, hx, _, _, _, _ => by cases hx
  | e :: r, p, a, n, x, hx, y, hy, s, hs => by
    have sin := mem_owns.mp (show s ∈ x.2.1.owns x.2.2 from hs)
    rcases List.mem_append.mp (show x ∈ e.spn (p ++ [a]) n ++ Ex.spns r p (a + 1) (n + e.steps) from hx) with hx | hx
    · rcases List.mem_append.mp (show y ∈ e.spn (p ++ [a]) n ++ Ex.spns r p (a + 1) (n + e.steps) from hy) with hy | hy
      · exact spn_pref e (p ++ [a]) n x hx y hy s hs
      · obtain ⟨b, hb, h2⟩ := spns_ext r p (a + 1) (n + e.steps) y hy
        have xin := spn_in e (p ++ [a]) n x hx
        have yin := spns_in r p (a + 1) (n + e.steps) y hy
        refine ⟨fun h => absurd (h2.trans h) fun h3 => pre_apart (by omega) (spn_ext e (p ++ [a]) n x hx) h3, fun h => ?_⟩
        have h1 := h.1
        omega
    · rcases List.mem_append.mp (show y ∈ e.spn (p ++ [a]) n ++ Ex.spns r p (a + 1) (n + e.steps) from hy) with hy | hy
      · obtain ⟨b, hb, h2⟩ := spns_ext r p (a + 1) (n + e.steps) x hx
        have xin := spns_in r p (a + 1) (n + e.steps) x hx
        have yin := spn_in e (p ++ [a]) n y hy
        refine ⟨fun h => absurd ((spn_ext e (p ++ [a]) n y hy).trans h) fun h3 => pre_apart (by omega) h3 h2, fun h => ?_⟩
        have h1 := h.2
        omega
      · exact spns_pref r p (a + 1) (n + e.steps) x hx y hy s hs
end
end Oo
namespace Oo
open PySem L2 PyProof.Rows LamX StX ClX
abbrev sLBook : Stmt := top 81
/-- xs == [], a list -/
def rEqNil (K : PySem.W.Frag) : R2 := fun x y H Q => ∃ a b xs, x = .ref a ∧ y = .ref b ∧ SqL K H a xs ∧ SqL K H b [] ∧ Q (.bl xs.isEmpty) H
theorem op_eqNil {X : Cx} (hu : X.A.units < cLine) : OpR X (compareOp .Eq) (rEqNil X.K) := by
  intro pins s σ H x y v u Q I rx ry h
  obtain ⟨a, b, xs, rfl, rfl, ha, hb, q⟩ := h
  cases rx
  cases ry
  obtain ⟨its, rv, l1, _⟩ := I.list ha
  obtain ⟨its2, rv2, l2, _⟩ := I.list hb
  have e2 : its2 = [] := List.eq_nil_of_length_eq_zero (by rw [← rv2.length]; rfl)
  subst e2
  cases xs with
  | nil =>
    have e1 : its = [] := List.eq_nil_of_length_eq_zero (by rw [← rv.length]; rfl)
    subst e1
    exact SeqAt.eq_listAt (e := fun _ => true) l1.isList l2.isList rfl hu (fun j h1 h2 => absurd h1 (by simp)) ⟨.bl true, H, I, rfl, q⟩
  | cons z r =>
    have hl := rv.length
    refine SeqAt.eq_list_lengthsAt l1.isList l2.isList ?_ hu ⟨.bl false, H, I, rfl, q⟩
    have : its.toArray.size ≠ (([] : List Value).toArray).size := by
      rw [List.size_toArray, ← hl]
      simp
    simpa using this
theorem pe_makeR0 {X : Cx} {CX : CXT} {k : Nat} {f C : Addr} {sp : Sp} {E : XK} {x : Str} {p pos : Pos} (M : Mk X.K C f) (F : FnR X.prog X.w X.K X.mg X.base CX k f sp) (hr : Room (k + 1) X.A) (hg : Gl X x) (hm : X.mg x = some (.ref C)) (hx : Passes CX X E) (hdb : (x == ("__debug__" : Str)) = false := by decide) :
    PE X (.Call (.Name x p) [] [] pos) (tMakeR C sp E tNil) := by
  refine ⟨fun pins s σ H Q I h => ?_⟩
  refine wpAny_Call_Name_kw (ld_glob I hg hm ?_ hdb)
  exact PySem.W.callWith_K0 I.kIn M.kp (run_makeR (us := []) (vs := []) M F hr hx I .nil h)
def teMkFn (CF : Addr) : TE := fun σ H Q => ∃ v fn, σ[2]? = some (some v) ∧ RowAt H v fn ∧ FnW fn ∧ ∀ v' H', FunAt CF H' v' fn → Same H H' → Q v' H'
def spLBook (K : PySem.W.Frag) (T : List (Addr × Str)) (CF CB : Addr) : Sp := fun vs H Q _ => ∃ (fl : Addr) (fns : List Fn), vs = [.ref fl] ∧ FnsAt K H fl fns ∧ BkW fns ∧ Tabs T H ∧ ∀ v H', BookAt CF CB H' v fns → Tabs T H' → ExtN H H' → Q v H'
theorem made_book {T : List (Addr × Str)} {CF CB : Addr} {H1 : Hp} {rs : List V} {fns : List Fn} {Q : VK} {E : XK} (pr : Paired (FunAt CF H1) rs fns) (hW : BkW fns) (hT : Tabs T H1) (q : ∀ v H', BookAt CF CB H' v fns → Tabs T H' → ExtN H1 H' → Q v H') :
    ∀ x dx, H1 x = Option.none → H1 dx = Option.none → dx ≠ x → spStar1 (spBInit T CF CB) (V.ref x :: rs) (upd (upd H1 dx (.own x)) x (.ins CB dx [])) (fun v H2 => v = .non ∧ Q (.ref x) H2) E := by
  intro x dx hx hdx hne
  have s1 := made_same (C := CB) hx hdx
  have hl : rs.length ≤ 3 := by rw [pr.length]; exact hW.l
  refine ⟨[.ref x], rs, rfl, rfl, sz (by omega), fun t ht => ?_⟩
  have s2 := s1.trans (same_up (o := .tup rs) ht)
  have nxt : x ≠ t := ne_of_none (o := .ins CB dx []) upd_same ht
  refine ⟨x, dx, t, rs, fns, rfl, by rw [upd_ne nxt]; exact upd_same, upd_same, L2.Paired.mapP pr fun a b z => z.keep s2, hW.ok, hW.nd, Nat.le_trans hW.l (by decide), Tabs.ext hT s2, fun H' hB hT' hk => ⟨rfl, ?_⟩⟩
  exact q _ _ hB hT' fun b o z nt => hk b o (fun w => by rw [w, hx] at z; cases z) (s2 _ _ z) nt
section
variable {P : Program} {w : World} {K : PySem.W.Frag} {mg : Str → Option Value} {base : Heap} {X : Cx}
theorem scLBook : FnScope ["_law_functions", "_law_made", "_law_row"] ["_law_functions"] (defScope sLBook) := ⟨rfl, rfl, rfl, by decide +kernel, rfl, by decide +kernel, by decide +kernel⟩
theorem ok_lbook {T : List (Addr × Str)} {CF CB f fI fB : Addr} {fd fdI : FuncData} (F : Fun K "_law_book" "_law_book" sLBook f fd) (TF' : TxF K CF) (MF : Mk K CF fI) (mF : mg "Function" = some (.ref CF)) (MB : Mk K CB fB) (mB : mg "Book" = some (.ref CB)) (ml : mg "len" = none)
    (GI : FnOk P w K mg base CX0 3 fI fdI pF (spFInit CF)) (bI : KBn K fdI pF 3 kF2 (fun us ws => us ++ ws) (fun vs zs => vs ++ zs))
    (GB : FnR P w K mg base CX0 6 fB (spStar1 (spBInit T CF CB))) : FnOk P w K mg base CX0 8 f fd ["_law_functions"] (spLBook K T CF CB) := by
  refine F.ok scLBook (fun vs H Q E h => ?_) (fun cdv A outer s H vs Q E hr h => ?_)
  · obtain ⟨fl, fns, rfl, _⟩ := h
    rfl
  obtain ⟨fl, fns, rfl, ⟨rows, hfl, pr⟩, hW, hT, q⟩ := h
  have hr4 : Room 4 _ := hr.mono (by decide)
  refine ⟨_, (pss_cons (ps_setLc (i := 1) (own := [("_law_row", 2)]) (g := gName 2) (tt := tYes) (by rfl) scLBook.nd rfl rfl (sw_true rfl rfl rfl (by decide +kernel)) (pi_list (pv 0)) (blkOk_by (own := [("_law_row", 2)]) (N := ["_law_functions", "_law_made", "_law_row"]) (sc := defScope sLBook) (by decide +kernel)) (fun _ _ _ _ _ => (pg_name (i := 2) scLBook.nd rfl (Or.inl rfl))) (fun _ _ _ _ _ => pts_nil) (fun _ _ _ _ _ => (pe_as (t' := teMkFn CF) (pe_makeK MF GI hr4 rfl mF bI pass0 (pa_cons (pe_ix ix_tup (pv 2) pe_int (fun _ _ => rfl)) (pa_cons (pe_ix ix_tup (pv 2) pe_int (fun _ _ => rfl)) pa_nil)) (pk_cons (pe_ix ix_tup (pv 2) pe_int (fun _ _ => rfl)) (pk_cons (pe_ix ix_tup (pv 2) pe_int (fun _ _ => rfl)) pk_nil))) ?c1)))
    (pss_cons (ps_if (pt_cmpR op_lt (pe_callB call_len_seq (by rfl) ml PySem.boot_len (pa_cons (pv 1) pa_nil)) pe_int (nomark _)) (pss_one (ps_ret (pe_ifExp (pt_cmpR (op_eqNil hr.units0) (pv 1) (pe_lst pa_nil) (nomark _)) (pe_makeR0 MB GB hr (by rfl) mB pass0) (pe_makeR MB GB hr (by rfl) mB pass0 (pa_cons (pe_ix ix_list (pv 1) pe_int (fun _ _ => rfl)) pa_nil))))) pss_nil)
    (pss_one (ps_ret (pe_ifExp (pt_cmpR op_eq (pe_callB call_len_seq (by rfl) ml PySem.boot_len (pa_cons (pv 1) pa_nil)) pe_int (nomark _)) (pe_makeR MB GB hr (by rfl) mB pass0 (pa_cons (pe_ix ix_list (pv 1) pe_int (fun _ _ => rfl)) (pa_cons (pe_ix ix_list (pv 1) pe_int (fun _ _ => rfl)) pa_nil))) (pe_makeR MB GB hr (by rfl) mB pass0 (pa_cons (pe_ix ix_list (pv 1) pe_int (fun _ _ => rfl)) (pa_cons (pe_ix ix_list (pv 1) pe_int (fun _ _ => rfl)) (pa_cons (pe_ix ix_list (pv 1) pe_int (fun _ _ => rfl)) pa_nil))))))))), ?_⟩
  case c1 =>
    rintro σ H Q ⟨v, fn, e2, ⟨p, r, st, rfl, h1, h2, h3⟩, hw, q⟩
    refine ⟨_, e2, p, _, _, _, rfl, rfl, SqT.of h1, (rfl : atI [V.str fn.name, .int fn.ar, .ref r, .ref st] 0 = some (.str fn.name)), _, e2, p, _, _, _, rfl, rfl, SqT.of h1, (rfl : atI [V.str fn.name, .int fn.ar, .ref r, .ref st] 1 = some (.int fn.ar)),
      _, e2, p, _, _, _, rfl, rfl, SqT.of h1, (rfl : atI [V.str fn.name, .int fn.ar, .ref r, .ref st] 2 = some (.ref r)), _, e2, p, _, _, _, rfl, rfl, SqT.of h1, (rfl : atI [V.str fn.name, .int fn.ar, .ref r, .ref st] 3 = some (.ref st)), rfl, rfl, fun x dx hx hdx hne => ?_⟩
    have s1 := made_same (C := CF) hx hdx
    exact ⟨x, dx, fn, _, _, rfl, upd_same, ⟨r, rfl, s1 _ _ h2⟩, ⟨st, rfl, s1 _ _ h3⟩, hw, fun H' hF hB => ⟨rfl, q _ _ hF (but_same s1 hx hB)⟩⟩
  have hrl : rows.length = fns.length := pr.length
  have hf3 := hW.l
  refine ⟨_, rfl, fl, rfl, ⟨_, hfl⟩, fun D nD => ?_⟩
  refine lc_list (K := K) (a := fl) (xs := rows) (fun i H' => ∃ acc, H' D = some (.lst acc) ∧ Paired (FunAt CF H') acc (fns.take i) ∧ Same H H') ⟨[], upd_same, .nil, same_up nD⟩ (fun i H' _ ⟨_, _, _, z⟩ => z.seq hfl) ?_ ?_
  · rintro i u H1 hi ⟨acc, eD, pa, s1⟩
    obtain ⟨fn, hfn, ru⟩ := paired_get pr hi
    have hil : i < fns.length := (List.getElem?_eq_some_iff.mp hfn).1
    have efn : fns[i] = fn := (List.getElem?_eq_some_iff.mp hfn).2
    refine ⟨rfl, yes_i ⟨u, fn, rfl, ru.keep (same_t s1), hW.ok fn (List.mem_of_getElem? hfn), fun v' H2 hF s2 => ?_⟩⟩
    have hacc : acc.length ≤ 3 := by rw [pa.length, List.length_take]; omega
    have eD2 := s2 _ _ eD
    have kf : ∀ u g, FunAt CF H2 u g → FunAt CF (upd H2 D (.lst (acc ++ [v']))) u g := fun u g z => z.keepB (fun b o e n1 => by
      rw [upd_ne (fun w => by rw [w, eD2] at e; exact n1 _ (Option.some.inj e).symm)]; exact e)
    refine ⟨acc, eD2, small1000 (by omega), acc ++ [v'], upd_same, ?_, fun b o z => by rw [upd_ne (ne_of_none z nD)]; exact s2 _ _ (s1 _ _ z)⟩
    rw [take_succ_get fns i hil, efn]
    exact paired_append (L2.Paired.mapP pa fun a b z => kf a b (z.keep s2)) (.cons (kf _ _ hF) .nil)
  · rintro H1 ⟨acc, eD, pa, s1⟩
    rw [hrl, List.take_length] at pa
    have hal : acc.length = fns.length := pa.length
    have hT1 := Tabs.ext hT s1
    have q1 : ∀ v H', BookAt CF CB H' v fns → Tabs T H' → ExtN H1 H' → Q v H' := fun v H' a b c => q v H' a b ((same_extN s1).trans c)
    refine ⟨_, rfl, D, _, rfl, .inl (SqL.of eD), _, _, rfl, rfl, _, rfl, ?_⟩
    match acc, fns, eD, pa, hal, hW, q1 with
    | [], [], eD, pa, hal, hW, q1 =>
      refine iteYes (by show ((0:Nat):Int) < 2; decide) ⟨_, rfl, sz (by show 0 ≤ 1000; decide), fun l nl => ?_⟩
      have s2 := same_up (o := .lst []) nl
      refine ⟨D, l, [], rfl, rfl, SqL.of (s2 _ _ eD), SqL.of upd_same, _, rfl, iteT ?_⟩
      exact made_book (Q := Q) .nil hW (Tabs.ext hT1 s2) fun v H' a b c => q1 v H' a b ((same_extN s2).trans c)
    | [u], [f1], eD, pa, hal, hW, q1 =>
      refine iteYes (by show ((1:Nat):Int) < 2; decide) ⟨_, rfl, sz (by show 0 ≤ 1000; decide), fun l nl => ?_⟩
      have s2 := same_up (o := .lst []) nl
      refine ⟨D, l, [u], rfl, rfl, SqL.of (s2 _ _ eD), SqL.of upd_same, _, rfl, iteF ?_⟩
      refine ⟨_, rfl, D, _, _, _, rfl, rfl, SqL.of (s2 _ _ eD), (rfl : atI [u] 0 = some u), ?_⟩
      exact made_book (Q := Q) (L2.Paired.mapP pa fun a b z => z.keep s2) hW (Tabs.ext hT1 s2) fun v H' a b c => q1 v H' a b ((same_extN s2).trans c)
    | [u, v], [f1, f2], eD, pa, hal, hW, q1 =>
      refine iteNo (by show ¬ (((2:Nat):Int) < 2); decide) ⟨_, rfl, D, _, rfl, .inl (SqL.of eD), rfl, _, rfl, iteYes rfl ?_⟩
      refine ⟨_, rfl, D, _, _, _, rfl, rfl, SqL.of eD, (rfl : atI [u, v] 0 = some u), _, rfl, D, _, _, _, rfl, rfl, SqL.of eD, (rfl : atI [u, v] 1 = some v), ?_⟩
      exact made_book (Q := Q) pa hW hT1 q1
    | [u, v, z], [f1, f2, f3], eD, pa, hal, hW, q1 =>
      refine iteNo (by show ¬ (((3:Nat):Int) < 2); decide) ⟨_, rfl, D, _, rfl, .inl (SqL.of eD), rfl, _, rfl, iteNo (fun z => absurd (V.int.inj z) (by show ¬ (((3:Nat):Int) = 2); decide)) ?_⟩
      refine ⟨_, rfl, D, _, _, _, rfl, rfl, SqL.of eD, (rfl : atI [u, v, z] 0 = some u), _, rfl, D, _, _, _, rfl, rfl, SqL.of eD, (rfl : atI [u, v, z] 1 = some v), _, rfl, D, _, _, _, rfl, rfl, SqL.of eD, (rfl : atI [u, v, z] 2 = some z), ?_⟩
      exact made_book (Q := Q) pa hW hT1 q1
    | _ :: _ :: _ :: _ :: _, fns, eD, pa, hal, hW, q1 =>
      have := hW.l
      rw [← hal] at this
      simp at this
end
end Oo
namespace Oo
open PySem L2 PyProof.Rows LamX StX ClX
/-! ### the script beside the bag -/
def Scr (K : PySem.W.Frag) (a : Addr) (xs : List V) (p : Addr) (H : Hp) : Prop := (∀ H1, SqL K H1 a xs) ∨ (p ≠ a ∧ SqL K H a xs)
section
variable {K : PySem.W.Frag} {a p : Addr} {xs : List V} {H H' : Hp}
theorem seq_ext (h : SqL K H a xs) (e : ExtN H H') : SqL K H' a xs := by
  rcases h with (h | ⟨o, h⟩) | h
  · exact .inl (.inl (e _ _ h not_tbl_lst))
  · exact .inl (.inr ⟨o, e _ _ h fun ps z => by cases z⟩)
  · exact .inr h
theorem Scr.seq (h : Scr K a xs p H) : SqL K H a xs := h.elim (fun z => z H) fun z => z.2
theorem Scr.mk_ (h : SqL K H a xs) (np : H p = none) (s : Same H H') : Scr K a xs p H' := by
  rcases h with (h | ⟨o, h⟩) | h
  · exact .inr ⟨fun z => (by rw [z, h] at np; cases np), .inl (.inl (s _ _ h))⟩
  · exact .inr ⟨fun z => (by rw [z, h] at np; cases np), .inl (.inr ⟨o, s _ _ h⟩)⟩
  · exact .inl fun _ => .inr h
theorem Scr.kq (h : Scr K a xs p H) (q : Kq [p] H H') : Scr K a xs p H' := h.elim .inl fun ⟨n, z⟩ => .inr ⟨n, q.seqL (by simp [n.symm]) z⟩
theorem Scr.ext (h : Scr K a xs p H) (e : ExtN H H') : Scr K a xs p H' := h.elim .inl fun ⟨n, z⟩ => .inr ⟨n, seq_ext z e⟩
theorem bag_ext {n : Nat} (b : BagAt H p n) (e : ExtN H H') : BagAt H' p n := by
  obtain ⟨d, x, c, z, r⟩ := b
  exact ⟨d, x, c, e _ _ z not_tbl_lst, r⟩
theorem tabs_kq {T : List (Addr × Str)} {S : List Addr} (t : Tabs T H) (q : Kq S H H') (m : Mut H S) : Tabs T H' := fun r hr => by
  obtain ⟨ps, h1, h2, h3⟩ := t r hr
  have no : ∀ b o, H b = some o → (∀ ys, o ≠ .lst ys) → H' b = some o := fun b o z n => q b o (fun hb => by
    obtain ⟨ys, e⟩ := m b hb
    rw [e] at z
    exact n ys (Option.some.inj z).symm) z
  refine ⟨ps, no _ _ h1 (fun ys z => by cases z), h2, fun pos cv hc => ?_⟩
  obtain ⟨c, e1, e2⟩ := h3 pos cv hc
  exact ⟨c, e1, no _ _ e2 fun ys z => by unfold CodeO at z; cases z⟩
theorem KitAt.ext {kd pl fl : Addr} {ps : List Str} {fns : List Fn} {g : Bool} (k : KitAt H kd pl fl ps fns g) (e : ExtN H H') : KitAt H' kd pl fl ps fns g := by
  obtain ⟨h1, h2, rows, h3, h4⟩ := k
  exact ⟨e _ _ h1 (fun ps z => by cases z), e _ _ h2 not_tbl_lst, rows, e _ _ h3 not_tbl_lst, L2.Paired.mapP h4 fun a b r => r.keep fun p xs z => e _ _ z not_tbl_tup⟩
theorem KitAt.fns {kd pl fl : Addr} {ps : List Str} {fns : List Fn} {g : Bool} (k : KitAt H kd pl fl ps fns g) : FnsAt K H fl fns := by
  obtain ⟨h1, h2, rows, h3, h4⟩ := k
  exact ⟨rows, SqL.of h3, h4⟩
end
theorem opens_asc (e : Ex) : (e.opens []).Pairwise pathLt := by
  unfold Ex.opens
  rw [List.pairwise_map]
  exact List.Pairwise.sublist (by first | exact List.filter_sublist | exact List.filter_sublist _) (pre_asc e [])
theorem TaskAt.ins_ {K : PySem.W.Frag} {CF CB CT CS CL x : Addr} {H : Hp} {fns : List Fn} {e : Ex} {mk : List (List Nat)} (h : TaskAt K CF CB CT CS CL H (.ref x) fns e mk) : ∃ dx fs, H x = some (.ins CT dx fs) ∧ fs.lookup ("open_nodes" : Str) = none ∧ fs.lookup ("with_points" : Str) = none := by
  obtain ⟨p, dx, fs, vb, ve, tp, tr, rp, rr, e1, h1, hf, _⟩ := h
  cases e1
  exact ⟨dx, fs, h1, hf.n1, hf.n2⟩
theorem TaskAt.ref_ {K : PySem.W.Frag} {CF CB CT CS CL : Addr} {H : Hp} {v : V} {fns : List Fn} {e : Ex} {mk : List (List Nat)} (h : TaskAt K CF CB CT CS CL H v fns e mk) : ∃ x, v = .ref x := by
  obtain ⟨p, dx, fs, vb, ve, tp, tr, rp, rr, e1, _⟩ := h
  exact ⟨p, e1⟩
theorem cat_rows {K : PySem.W.Frag} {H : Hp} {a b : Addr} {xs : List V} {y : V} {Q : VK} (ha : H a = some (.tup xs)) (hb : H b = some (.tup [y])) (hl : xs.length ≤ 900) (q : ∀ t H', H' t = some (.tup (xs ++ [y])) → Same H H' → Q (.ref t) H') : rCatA K (.ref a) (.ref b) H Q := by
  refine ⟨a, b, _, _, rfl, rfl, SqT.of ha, SqT.of hb, sz (by simp; omega), fun z => ?_, fun _ z => by simp at z, fun _ _ t ht => ?_⟩
  · subst z
    exact q b H hb (Same.refl _)
  · exact q t _ upd_same (same_up ht)
theorem cut3_mem {xs : List V} {i : Nat} {y : V} (h : (cutV xs none (some 3))[i]? = some y) : y ∈ xs := (cutV_sub xs none (some 3)).subset (List.mem_of_getElem? h)
/-- what a turn has at hand -/
structure Hand (K : PySem.W.Frag) (CF CB CT CS CL : Addr) (H : Hp) (kd pl fl x t : Addr) (ps : List Str) (fns : List Fn) (e : Ex) (mk : List (List Nat)) (rows : List V) (ve : V) : Prop where
  kit : KitAt H kd pl fl ps fns true
  ie : InE H e ve
  et : H t = some (.tup rows)
  pm : Paired (PathAt H) rows mk
  ta : TaskAt K CF CB CT CS CL H (.ref x) fns e mk
theorem Hand.keep {K : PySem.W.Frag} {CF CB CT CS CL : Addr} {H H' : Hp} {kd pl fl x t : Addr} {ps : List Str} {fns : List Fn} {e : Ex} {mk : List (List Nat)} {rows : List V} {ve : V} (h : Hand K CF CB CT CS CL H kd pl fl x t ps fns e mk rows ve) (s : Same H H') : Hand K CF CB CT CS CL H' kd pl fl x t ps fns e mk rows ve :=
  ⟨h.kit.ext (same_extN s), h.ie.keep (same_t s), s _ _ h.et, L2.Paired.mapP h.pm fun a b z => z.keep (same_t s), h.ta.keep s⟩
theorem BookAt.kq {CF CB : Addr} {S : List Addr} {H H' : Hp} {v : V} {fns : List Fn} (h : BookAt CF CB H v fns) (q : Kq S H H') (m : Mut H S) : BookAt CF CB H' v fns := by
  have no : ∀ b o, H b = some o → (∀ ys, o ≠ .lst ys) → H' b = some o := fun b o z n => q b o (fun hb => by
    obtain ⟨ys, e⟩ := m b hb
    rw [e] at z
    exact n ys (Option.some.inj z).symm) z
  obtain ⟨b, dx, fs, tf, rows, fns', e, h1, h2, h3, h4, h5⟩ := h
  exact ⟨b, dx, fs, tf, rows, fns', e, no _ _ h1 (fun ys z => by cases z), h2, no _ _ h3 (fun ys z => by cases z), L2.Paired.mapP h4 fun a b z => z.keepB no, h5⟩
theorem pv_len (p : List Nat) : (pv_ p).length = p.length := by unfold pv_; rw [List.length_map]
theorem cut_path {K : PySem.W.Frag} {H : Hp} {q : Addr} {p : List Nat} {m : Nat} {Q : VK} (h : H q = some (.tup (pv_ p))) (k : ∀ x H', PathAt H' x (p.take m) → Same H H' → Q x H') : rSlA K (.ref q) none (some (m : Int)) H Q := by
  refine ⟨q, _, rfl, SqT.of h, fun hw => ?_, fun hw p' np => ?_⟩
  · have h2 := hw.2
    rw [HT.sIx_nat, pv_len] at h2
    refine k _ _ ⟨q, rfl, ?_⟩ (Same.refl _)
    rw [List.take_of_length_le (by omega)]
    exact h
  · refine k _ _ ⟨p', rfl, ?_⟩ (same_up np)
    rw [upd_same]
    unfold cutV
    rw [HT.sIx_nat, HT.sIx_none, pv_len, List.drop_zero, Nat.sub_zero]
    unfold pv_
    rw [List.map_take, List.take_eq_take_iff.mpr]
    rw [List.length_map]
    omega
end Oo
/-! orders: steps_left, own_left, take -/
namespace Oo
open PySem L2 PyProof.Rows LamX StX ClX
abbrev sLeft : Stmt := top 67
abbrev sOwnL : Stmt := top 69
abbrev sTakeS : Stmt := top 70
/-- a path as a key -/
def kp (p : List Nat) : List Key := p.map fun (i : Nat) => .inl (i : Int)
theorem kp_val (p : List Nat) : (kp p).map kV = pv_ p := by
  unfold kp pv_
  rw [List.map_map]
  rfl
theorem kp_inj : ∀ {p q : List Nat}, kp p = kp q → p = q
  | [], [], _ => rfl
  | [], b :: q, h => by simp [kp] at h
  | a :: p, [], h => by simp [kp] at h
  | a :: p, b :: q, h => by
    have h1 := List.cons.inj h
    have h2 : (a : Int) = (b : Int) := Sum.inl.inj h1.1
    rw [show a = b by omega, kp_inj (p := p) (q := q) h1.2]
theorem putK_old {κ : Type} [DecidableEq κ] {kvs : List (κ × V)} {k : κ} {u v : V} (h : valV kvs k = some u) : (putK kvs k v).length = kvs.length := by
  unfold putK
  split
  · exact List.length_map ..
  · rename_i n
    refine absurd ?_ n
    unfold valV at h
    obtain ⟨x, hx, _⟩ := Option.map_eq_some_iff.mp h
    exact List.any_eq_true.mpr ⟨x, List.mem_of_find?_eq_some hx, List.find?_some (p := fun kv : κ × V => decide (kv.1 = k)) hx⟩
/-- the dict of what is left in the nodes, by their paths -/
def LeftAt (H : Hp) (d : Addr) (e : Ex) (f : Trip → Nat) : Prop := ∃ kvs : List (List Key × V), H d = some (.dT kvs) ∧ kvs.length ≤ e.nodes ∧ ∀ x ∈ e.spn [] 0, valV kvs (kp x.1) = some (.int (f x : Nat))
def undT (D : Dn) (x : Trip) : Nat := und D x.2.2 x.2.1.steps
theorem LeftAt.keep {H H' : Hp} {d : Addr} {e : Ex} {f : Trip → Nat} (h : LeftAt H d e f) (s : Same H H') : LeftAt H' d e f := by
  obtain ⟨kvs, h1, h2, h3⟩ := h
  exact ⟨kvs, s _ _ h1, h2, h3⟩
theorem LeftAt.congr {H : Hp} {d : Addr} {e : Ex} {f g : Trip → Nat} (h : LeftAt H d e f) (s : ∀ x ∈ e.spn [] 0, f x = g x) : LeftAt H d e g := by
  obtain ⟨kvs, h1, h2, h3⟩ := h
  exact ⟨kvs, h1, h2, fun x hx => by rw [← s x hx]; exact h3 x hx⟩
section
variable {P : Program} {w : World} {K : PySem.W.Frag} {mg : Str → Option Value} {base : Heap} {X : Cx}
def spLeft (K : PySem.W.Frag) (CF CB CT CS CL : Addr) : Sp := fun vs H Q _ => ∃ (v : V) (fns : List Fn) (e : Ex) (mk : List (List Nat)), vs = [v] ∧ TaskAt K CF CB CT CS CL H v fns e mk ∧ e.nodes ≤ 900 ∧ ∀ (d : Addr) (H' : Hp), H d = none → LeftAt H' d e (undT D0) → Same H H' → Q (.ref d) H'
/-- the path of the span in a slot; its size -/
def tePathJ (CS : Addr) (j : Nat) : TE := fun σ H Q => ∃ v e mk p n, σ[j]? = some (some v) ∧ SpanAt CS mk H e p n v ∧ ∀ q : Addr, H q = some (.tup (pv_ p)) → Q (.ref q) H
def teSizeN (CS : Addr) (j : Nat) : TE := fun σ H Q => ∃ v e mk p n, σ[j]? = some (some v) ∧ SpanAt CS mk H e p n v ∧ Q (.int (e.steps : Int)) H
theorem scLeft : FnScope ["task", "span"] ["task"] (defScope sLeft) := ⟨rfl, rfl, rfl, by decide +kernel, rfl, by decide +kernel, by decide +kernel⟩
theorem ok_left {CF CB CT CS CL f : Addr} {fd : FuncData} {mc : Value} (F : Fun K "steps_left" "steps_left" sLeft f fd) (T : TxT K CT mc) (L : TxL K CL) (S : TxS K CS) : FnOk P w K mg base CX0 1 f fd ["task"] (spLeft K CF CB CT CS CL) := by
  refine F.ok scLeft (fun vs H Q E h => ?_) (fun cdv A outer s H vs Q E hr h => ?_)
  · obtain ⟨v, fns, e, mk, rfl, _⟩ := h
    rfl
  obtain ⟨v, fns, e, mk, rfl, hT, hn, q⟩ := h
  have hu := hu_of hr
  refine ⟨_, (pss_one (ps_ret (pe_dcT (own := [("span", 1)]) (h0 := gName 1) (u0 := tYes) hu (by rfl) scLeft.nd (pi_tup (pe_fld (pe_fld (pv 0) rfl) rfl)) (blkOk_by (own := [("span", 1)]) (N := ["task", "span"]) (sc := defScope sLeft) (by decide +kernel)) (fun _ _ _ _ _ => (pg_name (i := 1) scLeft.nd rfl (Or.inl rfl))) (fun _ _ _ _ _ => pts_nil) (fun _ _ _ _ _ => (pe_as (t' := tePathJ CS 1) (pe_fld (pv 1) rfl) ?c1)) (fun _ _ _ _ _ => (pe_as (t' := teSizeN CS 1) (pe_fld (pv 1) rfl) ?c2))))), ?_⟩
  case c1 =>
    rintro σ H Q ⟨v, e, mk, p, n, e1, hv, q⟩
    obtain ⟨ws, ⟨a1, dx, fs, vp, vf, tb, to, rfl, h1, hf, ⟨qp, rfl, h2⟩, _⟩, _⟩ := hv.obj
    exact ⟨_, e1, a1, CS, dx, fs, _, rfl, h1, S.cl, S.nP, hf.p, q qp h2⟩
  case c2 =>
    rintro σ H Q ⟨v, e, mk, p, n, e1, hv, q⟩
    obtain ⟨ws, ⟨a1, dx, fs, vp, vf, tb, to, rfl, h1, hf, _⟩, _⟩ := hv.obj
    exact ⟨_, e1, a1, CS, dx, fs, _, rfl, h1, S.cl, S.nS, hf.s, q⟩
  obtain ⟨p, dx, fs, a, dxl, fsl, vr, tsp, tow, tst, tb, te, vg, rsp, row, rst, rb, re, rfl, h1, l1, g1, g2⟩ := hT.lay
  have hlen := g2.sp.length
  refine ⟨_, rfl, p, CT, dx, fs, _, rfl, h1, T.cl, T.nL, l1, a, CL, dxl, fsl, _, rfl, g1, L.cl, L.nS, g2.f.s, tsp, rfl, ⟨_, SqT.of g2.s⟩, fun D nD => ?_⟩
  refine dcT_tup (K := K) (a := tsp) (xs := rsp) (fun i H' => Same H H' ∧ ∃ kvs : List (List Key × V), H' D = some (.dT kvs) ∧ kvs.length ≤ i ∧ ∀ x ∈ (e.spn [] 0).take i, valV kvs (kp x.1) = some (.int (undT D0 x : Nat))) ⟨same_up nD, [], upd_same, Nat.le_refl _, fun x hx => by simp at hx⟩ (fun i H' _ z => SqT.of (z.1 _ _ g2.s)) ?_ ?_
  · rintro i u H1 hi ⟨s1, kvs, eD, hk, hv⟩
    have hil : i < (e.spn [] 0).length := by
      rw [← hlen]
      exact (List.getElem?_eq_some_iff.mp hi).1
    obtain ⟨⟨px, ex, nx⟩, hx, sx⟩ := paired_get g2.sp hi
    have sx1 : SpanAt CS mk H1 ex px nx u := sx.keep (KI.same s1)
    have hmem := List.mem_of_getElem? hx
    refine ⟨rfl, yes_i ⟨u, ex, mk, px, nx, rfl, sx1, fun qp hq => ⟨u, ex, mk, px, nx, rfl, sx1, kvs, kp px, qp, rfl, by rw [kp_val]; exact hq, eD, ?_, ?_, ?_⟩⟩⟩
    · refine Nat.lt_of_le_of_lt (Nat.le_trans hk (Nat.le_of_lt hil)) ?_
      rw [spn_len]
      exact Nat.lt_of_le_of_lt hn (by decide)
    · exact fun b o z => by rw [upd_ne (ne_of_none z nD)]; exact s1 _ _ z
    · refine ⟨_, upd_same, Nat.le_trans (length_putK ..) (Nat.succ_le_succ hk), fun x hx' => ?_⟩
      rw [valV_put]
      rw [take_succ_get _ i hil, List.mem_append, List.mem_singleton] at hx'
      have e1 : (e.spn [] 0)[i] = (px, ex, nx) := (List.getElem?_eq_some_iff.mp hx).2
      rw [e1] at hx'
      split
      · rename_i hk
        have hxm : x ∈ e.spn [] 0 := by
          rcases hx' with h | h
          · exact List.mem_of_mem_take h
          · rw [h]; exact hmem
        have := spn_uniq e [] 0 x hxm _ hmem (kp_inj hk)
        rw [this]
        simp only [undT, und_D0]
      · rename_i hk
        rcases hx' with h | h
        · exact hv x h
        · rw [h] at hk
          exact absurd rfl hk
  · rintro H1 ⟨s1, kvs, eD, hk, hv⟩
    rw [hlen, List.take_length] at hv
    exact q D H1 nD ⟨kvs, eD, by rw [← spn_len e [] 0, ← hlen]; exact hk, hv⟩ s1
def spOwnL (CS : Addr) : Sp := fun vs H Q _ => ∃ (v : V) (d : Addr) (e : Ex) (mk : List (List Nat)) (p : List Nat) (n t : Nat) (kvs : List (List Key × V)), vs = [v, .ref d] ∧ SpanAt CS mk H e p n v ∧ H d = some (.dT kvs) ∧ valV kvs (kp p) = some (.int (t : Int)) ∧ 1 ≤ t ∧ t ≤ e.own ∧ Q (.int ((n + Ex.stepss e.ops + (e.own - t) : Nat) : Int)) H
theorem scOwnL : FnScope ["span", "left"] ["span", "left"] (defScope sOwnL) := ⟨rfl, rfl, rfl, by decide +kernel, rfl, by decide +kernel, by decide +kernel⟩
theorem ok_ownl {CS f : Addr} {fd : FuncData} (F : Fun K "own_left" "own_left" sOwnL f fd) (S : TxS K CS) : FnOk P w K mg base CX0 1 f fd ["span", "left"] (spOwnL CS) := by
  refine F.ok scOwnL (fun vs H Q E h => ?_) (fun cdv A outer s H vs Q E hr h => ?_)
  · obtain ⟨v, d, e, mk, p, n, t, kvs, rfl, _⟩ := h
    rfl
  obtain ⟨v, d, e, mk, p, n, t, kvs, rfl, hv, hd, hk, ht, ho, q⟩ := h
  have hu := hu_of hr
  refine ⟨_, (pss_one (ps_ret (pe_ix ix_tup (pe_fld (pv 0) rfl) (pe_un un_neg (pe_dget hu (pv 1) (pe_fld (pv 0) rfl) (fun _ _ => rfl))) (fun _ _ => rfl)))), ?_⟩
  obtain ⟨ws, ⟨a, dx, fs, vp, vf, tb, to, rfl, h1, hf, ⟨qp, rfl, h2⟩, h3, h4, h5⟩, _⟩ := hv.obj
  have hix : atI (nv_ (e.owns n)) (-(t : Int)) = some (.int ((n + Ex.stepss e.ops + (e.own - t) : Nat) : Int)) := by
    have hlen := owns_len e n
    have e1 : ixN (nv_ (e.owns n)).length (-(t : Int)) = some (e.own - t) := by
      rw [hlen]
      unfold ixN
      rw [if_neg (by omega), if_pos (by omega)]
      congr 1
      omega
    unfold atI
    rw [e1]
    exact owns_get e n (e.own - t) (by omega)
  refine ⟨_, rfl, a, CS, dx, fs, _, rfl, h1, S.cl, S.nO, hf.o, _, rfl, _, rfl, a, CS, dx, fs, _, rfl, h1, S.cl, S.nP, hf.p, d, .int (t : Int), rfl, ?_, _, rfl, to, _, _, _, rfl, rfl, SqT.of h5, hix, q⟩
  have := DGet.t (a := d) (b := qp) (k := kp p) hd (by rw [kp_val]; exact h2)
  rwa [hk] at this
def spTakeS (K : PySem.W.Frag) (CF CB CT CS CL : Addr) : Sp := fun vs H Q _ => ∃ (v : V) (fns : List Fn) (e : Ex) (mk : List (List Nat)) (s : Nat) (d : Addr) (D : Dn), vs = [v, .int (s : Int), .ref d] ∧ TaskAt K CF CB CT CS CL H v fns e mk ∧ e.nodes ≤ 900 ∧ s < e.steps ∧ D s = false ∧ LeftAt H d e (undT D) ∧ ∀ H', LeftAt H' d e (undT (D.put s)) → But d H H' → Q .non H'
theorem scTakeS : FnScope ["task", "step", "left", "path", "depth"] ["task", "step", "left"] (defScope sTakeS) := ⟨rfl, rfl, rfl, by decide +kernel, rfl, by decide +kernel, by decide +kernel⟩
theorem ok_takes {CF CB CT CS CL f : Addr} {fd : FuncData} {mc : Value} (F : Fun K "take" "take" sTakeS f fd) (T : TxT K CT mc) (L : TxL K CL) (S : TxS K CS) (ml : mg "len" = none) (mr : mg "range" = none) : FnOk P w K mg base CX0 1 f fd ["task", "step", "left"] (spTakeS K CF CB CT CS CL) := by
  refine F.ok scTakeS (fun vs H Q E h => ?_) (fun cdv A outer s H vs Q E hr h => ?_)
  · obtain ⟨v, fns, e, mk, s, d, D, rfl, _⟩ := h
    rfl
  obtain ⟨v, fns, e, mk, st, d, D, rfl, hT, hn, hs, hD, hl, q⟩ := h
  have hu := hu_of hr
  refine ⟨_, (pss_cons (ps_set (i := 3) scTakeS.nd rfl (.inl rfl) (pe_fld (pe_ix ix_tup (pe_fld (pe_fld (pv 0) rfl) rfl) (pv 1) (fun _ _ => rfl)) rfl))
    (pss_one (ps_for PassesOwn.never rfl (pi_range1 (by rfl) mr (pa_cons (pe_op op_add (pe_callB call_len_seq (by rfl) ml PySem.boot_len (pa_cons (pv 3) pa_nil)) pe_int) pa_nil)) (pg_name (i := 4) scTakeS.nd rfl (Or.inl rfl)) (pss_one (ps_daug hu (pv 2) (pe_slice sl_tupA (pv 3) po_none (po_some (pv 4))) pe_int iop_sub (by intros; rfl)))))), ?_⟩
  obtain ⟨p, dx, fs, a, dxl, fsl, vr, tsp, tow, tst, tb, te, vg, rsp, row, rst, rb, re, rfl, h1, l1, g1, g2⟩ := hT.lay
  obtain ⟨vo, ⟨po, eo, no⟩, ho, hmem, so, hown⟩ := g2.oo.2 st hs
  obtain ⟨ws, ⟨b, dxb, fsb, vp, vf, tw, to, rfl, b1, bf, ⟨qp, rfl, b2⟩, b3, b4, b5⟩, hws⟩ := (show SpanAt CS mk H eo po no vo from so).obj
  refine ⟨_, rfl, p, CT, dx, fs, _, rfl, h1, T.cl, T.nL, l1, a, CL, dxl, fsl, _, rfl, g1, L.cl, L.nO, g2.f.o, _, rfl, tow, row, _, _, rfl, rfl, SqT.of g2.o, at_nat ho, b, CS, dxb, fsb, _, rfl, b1, S.cl, S.nP, bf.p, ?_⟩
  have hpl : po.length ≤ 900 := by
    have := spn_plen e [] 0 _ hmem
    simp only [List.length_nil, Nat.zero_add] at this
    omega
  have hpv : (pv_ po).length = po.length := List.length_map ..
  refine ⟨_, rfl, qp, _, rfl, .inr (SqT.of b2), _, _, rfl, rfl, _, rfl, by rw [hpv]; omega, by rw [hpv]; omega, ?_⟩
  have en : (((pv_ po).length : Nat) : Int) + 1 = ((po.length + 1 : Nat) : Int) := by rw [hpv]; omega
  rw [en, Int.toNat_natCast]
  have hone : ∀ y ∈ e.spn [] 0, y.1 <+: po → undT D y = undT (D.put st) y + 1 := fun y hy hp => by
    have := (spn_pref e [] 0 _ hmem y hy st hown).mp hp
    exact und_put this.1 this.2 hD
  have hnot : ∀ y ∈ e.spn [] 0, ¬ y.1 <+: po → undT D y = undT (D.put st) y := fun y hy hp => by
    refine (und_out fun h => hp ?_).symm
    exact (spn_pref e [] 0 _ hmem y hy st hown).mpr h
  refine for_range (lo := 0) (fun k σ H' => ∃ x4, σ = [some (.ref p), some (.int (st : Int)), some (.ref d), some (.ref qp), x4] ∧ But d H H' ∧ LeftAt H' d e (fun y => undT D y - (if y.1 <+: po ∧ y.1.length < k then 1 else 0))) ⟨none, rfl, fun b o _ z => z, hl.congr fun y _ => by simp⟩ ?_ ?_
  · rintro k σ H1 hk ⟨x4, rfl, s1, hl1⟩
    have hdq : qp ≠ d := by
      obtain ⟨kvs, z, _⟩ := hl
      exact ne_of b2 z fun k => nomatch k
    have b2' := s1 _ _ hdq b2
    have ez : (0 : Int) + (k : Int) = (k : Int) := by omega
    rw [ez]
    have hkl : k ≤ po.length := by omega
    dsimp only [tNoPart]
    refine ⟨_, rfl, _, rfl, ⟨_, rfl, (k : Int), rfl, ?_⟩⟩
    refine cut_path b2' fun x H2 hx s2 => ?_
    obtain ⟨qx, rfl, hq⟩ := hx
    obtain ⟨kvs, eD, hlen, hv⟩ := hl1.keep s2
    obtain ⟨y, hy, ey⟩ := spn_take e [] 0 _ hmem k (Nat.zero_le _)
    have ey : y.1 = po.take k := ey
    have yl : y.1.length = k := by rw [ey, List.length_take]; omega
    have yp : y.1 <+: po := ey ▸ List.take_prefix k po
    have vy := hv y hy
    simp only [yl, Nat.lt_irrefl, and_false, if_false, Nat.sub_zero] at vy
    rw [ey] at vy
    have h1u := hone y hy yp
    refine ⟨d, .int (undT D y : Nat), rfl, ?_, _, _, rfl, rfl, ?_⟩
    · have := DGet.t (a := d) (b := qx) (k := kp (po.take k)) eD (by rw [kp_val]; exact hq)
      rwa [vy] at this
    · refine ⟨_, DPut.t (k := kp (po.take k)) eD (by rw [kp_val]; exact hq) (Nat.lt_of_le_of_lt hlen (Nat.lt_of_le_of_lt hn (by decide))), some (.int (k : Int)), rfl, fun b o ne z => ?_, _, upd_same, by rw [putK_old vy]; exact hlen, fun z hz => ?_⟩
      · rw [upd_ne ne]
        exact s2 _ _ (s1 b o ne z)
      · rw [valV_put]
        split
        · rename_i hk2
          have ez2 : z.1 = po.take k := kp_inj hk2
          have : z = y := spn_uniq e [] 0 z hz y hy (ez2.trans ey.symm)
          subst this
          show some (V.int ((undT D z : Nat) - 1)) = some (V.int ((undT D z - (if z.1 <+: po ∧ z.1.length < k + 1 then 1 else 0) : Nat) : Int))
          rw [if_pos ⟨yp, by omega⟩]
          congr 2
          omega
        · rename_i hk2
          rw [hv z hz]
          have hne : ¬ (z.1 <+: po ∧ z.1.length = k) := fun h => hk2 (by rw [pref_take h.1 h.2])
          have : (z.1 <+: po ∧ z.1.length < k) ↔ (z.1 <+: po ∧ z.1.length < k + 1) := ⟨fun h => ⟨h.1, by omega⟩, fun h => ⟨h.1, by have : z.1.length ≠ k := fun e => hne ⟨h.1, e⟩; omega⟩⟩
          simp only [this]
  · rintro σ H1 ⟨x4, rfl, s1, hl1⟩
    refine q H1 (hl1.congr fun y hy => ?_) s1
    by_cases hp : y.1 <+: po
    · have := hp.length_le
      rw [if_pos ⟨hp, by omega⟩, hone y hy hp]
      omega
    · rw [if_neg fun h => hp h.1, hnot y hy hp]
      omega
end
end Oo
/-! the law of joined orders: all that exchanges of neighbours lead to -/
namespace Oo
open PySem L2 PyProof.Rows LamX StX ClX
abbrev sReach : Stmt := top 90
abbrev nv (ns : List Nat) : List V := ns.map fun (n : Nat) => V.int (n : Int)
def NumsAt (H : Hp) (v : V) (ns : List Nat) : Prop := ∃ q : Addr, v = .ref q ∧ H q = some (.lst (nv ns))
theorem NumsAt.keep {H H' : Hp} {v : V} {ns : List Nat} (h : NumsAt H v ns) (s : Same H H') : NumsAt H' v ns := by
  obtain ⟨q, e, z⟩ := h
  exact ⟨q, e, s _ _ z⟩
def RowsAt (H : Hp) (v : V) (L : List (List Nat)) : Prop := ∃ (a : Addr) (rows : List V), v = .ref a ∧ H a = some (.lst rows) ∧ Paired (NumsAt H) rows L
theorem RowsAt.keep {H H' : Hp} {v : V} {L : List (List Nat)} (h : RowsAt H v L) (s : Same H H') : RowsAt H' v L := by
  obtain ⟨a, rows, e, z, p⟩ := h
  exact ⟨a, rows, e, s _ _ z, L2.Paired.mapP p fun x y z => z.keep s⟩
theorem RowsAt.get {H : Hp} {v : V} {L : List (List Nat)} {i : Nat} {r : List Nat} (h : RowsAt H v L) (hi : L[i]? = some r) : ∃ (a q : Addr) (rows : List V), v = .ref a ∧ H a = some (.lst rows) ∧ rows[i]? = some (.ref q) ∧ H q = some (.lst (nv r)) := by
  obtain ⟨a, rows, e, z, p⟩ := h
  have hl : i < rows.length := by rw [p.length]; exact (List.getElem?_eq_some_iff.mp hi).1
  obtain ⟨b, hb, q, e2, e3⟩ := paired_get p (List.getElem?_eq_getElem hl)
  rw [hi] at hb
  cases hb
  exact ⟨a, q, rows, e, z, by rw [List.getElem?_eq_getElem hl, e2], e3⟩
theorem flat_nv (ns : List Nat) : (nv ns).all flatV = true := by
  rw [List.all_eq_true]
  intro v hv
  obtain ⟨n, _, rfl⟩ := List.mem_map.mp hv
  rfl
theorem in_nv (k : Nat) (ns : List Nat) : inV (.int (k : Int)) (nv ns) = decide (k ∈ ns) := by
  unfold inV nv
  rw [List.any_map]
  induction ns with
  | nil => rfl
  | cons a r ih =>
    rw [List.any_cons, ih]
    by_cases h : a = k
    · subst h
      simp [eqV]
    · have h2 : ¬ k = a := fun z => h z.symm
      have h3 : ¬ ((a : Int) = (k : Int)) := fun z => h (by omega)
      simp [eqV, h2, h3]
/-- what a step precedes -/
def tellR (pr : Nat → Nat → Bool) (N i : Nat) : List Nat := (List.range N).filter fun j => pr i j
def tells (pr : Nat → Nat → Bool) (N : Nat) : List (List Nat) := (List.range N).map (tellR pr N)
theorem tells_get {pr : Nat → Nat → Bool} {N i : Nat} (h : i < N) : (tells pr N)[i]? = some (tellR pr N i) := by
  unfold tells
  rw [List.getElem?_map, List.getElem?_range h]
  rfl
theorem in_tellR {pr : Nat → Nat → Bool} {N i j : Nat} (h : j < N) : decide (j ∈ tellR pr N i) = pr i j := by
  unfold tellR
  refine beq_of_iff ?_
  rw [decide_eq_true_eq, List.mem_filter, List.mem_range]
  exact ⟨fun z => z.2, fun z => ⟨h, z⟩⟩
theorem rgV_pv' (n : Nat) : rgV 0 (n : Int) = pv_ (List.range n) := by
  unfold rgV pv_
  rw [show ((n : Int) - 0).toNat = n by omega]
  refine List.map_congr_left fun i _ => ?_
  rw [Int.zero_add]
theorem row_at' {H : Hp} {rows : List V} {L : List (List Nat)} (p : Paired (PathAt H) rows L) {i : Nat} (h : i < L.length) : ∃ v o, rows[i]? = some v ∧ L[i]? = some o ∧ PathAt H v o := by
  have hl : i < rows.length := by rw [p.length]; exact h
  obtain ⟨o, ho, hv⟩ := paired_get p (List.getElem?_eq_getElem hl)
  exact ⟨_, o, List.getElem?_eq_getElem hl, ho, hv⟩
theorem split_two {o : List Nat} {k : Nat} (h : k + 1 < o.length) : ∃ a x y b, o = a ++ x :: y :: b ∧ a.length = k := by
  refine ⟨o.take k, o[k], o[k + 1], o.drop (k + 2), ?_, by rw [List.length_take]; omega⟩
  conv => lhs; rw [← List.take_append_drop k o]
  congr 1
  rw [List.drop_eq_getElem_cons (show k < o.length by omega), List.drop_eq_getElem_cons (show k + 1 < o.length by omega)]
/-- two neighbours exchanged -/
def teSwap (K : PySem.W.Frag) : TE := fun σ H Q => ∃ (q : Addr) (a b : List Nat) (x y : Nat), σ[5]? = some (some (.ref q)) ∧ σ[6]? = some (some (.int (a.length : Nat))) ∧ H q = some (.tup (pv_ (a ++ x :: y :: b))) ∧ (a ++ x :: y :: b).length ≤ 900 ∧ ∀ t H', H' t = some (.tup (pv_ (a ++ y :: x :: b))) → Same H H' → Q (.ref t) H'
def spReach (K : PySem.W.Frag) (CF CB CT CS CL : Addr) : Sp := fun vs H Q _ => ∃ (v u : V) (fns : List Fn) (e : Ex) (mk : List (List Nat)), vs = [v, u] ∧ TaskAt K CF CB CT CS CL H v fns e mk ∧ e.grd = false ∧ e.nodes ≤ 900 ∧ e.steps ≤ 30 ∧ (ords e.steps (e.res mk D0 [] 0)).length ≤ 60 ∧ RowsAt H u (tells (e.prec mk [] 0) e.steps) ∧ ∀ (l : Addr) (rows : List V) (fl : List (List Nat)) (H' : Hp), H' l = some (.lst rows) → Paired (PathAt H') rows fl → fl.Perm (ords e.steps (e.res mk D0 [] 0)) → Same H H' → Q (.ref l) H'
section
variable {P : Program} {w : World} {K : PySem.W.Frag} {mg : Str → Option Value} {base : Heap} {X : Cx}
theorem scReach : FnScope ["_law_task", "_law_told", "_law_found", "_law_at", "_law_seen", "_law_row", "_law_k", "_law_other"] ["_law_task", "_law_told"] (defScope sReach) := ⟨rfl, rfl, rfl, by decide +kernel, rfl, by decide +kernel, by decide +kernel⟩
theorem ok_reach {CF CB CT CS CL f fIs : Addr} {fd fdIs : FuncData} (F : Fun K "_law_reached" "_law_reached" sReach f fd) (ml : mg "len" = none) (mr : mg "range" = none) (mt : mg "tuple" = none)
    (GIs : FnOk P w K mg base CX0 2 fIs fdIs ["task", "value"] (spIsOrd K CF CB CT CS CL)) (kIs : PySem.W.keepIn K (.ref fIs) = true) (bIs : Binds K fdIs ["task", "value"] []) (mIs : mg "is_order" = some (.ref fIs)) :
    FnOk P w K mg base CX0 3 f fd ["_law_task", "_law_told"] (spReach K CF CB CT CS CL) := by
  refine F.ok scReach (fun vs H Q E h => ?_) (fun cdv A outer s H vs Q E hr h => ?_)
  · obtain ⟨v, u, fns, e, mk, rfl, _⟩ := h
    rfl
  obtain ⟨v, u, fns, e, mk, rfl, hT, g, hn, hN, hL, hU, q⟩ := h
  have hu := hu_of hr
  refine ⟨_, (pss_cons (ps_par (i := 2) (j := 3) (by rfl) scReach.nd rfl rfl (by decide) rfl rfl (pa_cons (pe_lst (pa_cons (pe_tupRg (by rfl) (by rfl) mt (prg_1 (by rfl) mr (pe_callB call_len_seq (by rfl) ml PySem.boot_len (pa_cons (pv 1) pa_nil)))) pa_nil)) (pa_cons pe_int pa_nil)) (by rfl))
    (pss_cons (ps_set (i := 4) scReach.nd rfl (.inl rfl) (pe_dT1 hu (pe_ix ix_list (pv 2) pe_int (fun _ _ => rfl)) pe_bl))
    (pss_cons (ps_while PassesOwn.never (pt_cmpR op_lt (pv 3) (pe_callB call_len_seq (by rfl) ml PySem.boot_len (pa_cons (pv 2) pa_nil)) (nomark _)) (pss_cons (ps_set (i := 5) scReach.nd rfl (.inl rfl) (pe_ix ix_list (pv 2) (pv 3) (fun _ _ => rfl)))
    (pss_cons (ps_for PassesOwn.never rfl (pi_range1 (by rfl) mr (pa_cons (pe_op op_sub (pe_callB call_len_seq (by rfl) ml PySem.boot_len (pa_cons (pv 5) pa_nil)) pe_int) pa_nil)) (pg_name (i := 6) scReach.nd rfl (Or.inl rfl)) (pss_cons (ps_set (i := 7) scReach.nd rfl (.inl rfl) (pe_as (t' := teSwap K) (pe_op op_catA (pe_op op_catA (pe_slice sl_tupA (pv 5) po_none (po_some (pv 6))) (pe_tup (pa_cons (pe_ix ix_tup (pv 5) (pe_op op_add (pv 6) pe_int) (fun _ _ => rfl)) (pa_cons (pe_ix ix_tup (pv 5) (pv 6) (fun _ _ => rfl)) pa_nil)))) (pe_slice sl_tupA (pv 5) (po_some (pe_op op_add (pv 6) pe_int)) po_none)) ?c1))
    (pss_cons (ps_if (pt_cmpR op_eq (pe_call GIs hr rfl mIs kIs bIs .nil pass0 (pa_cons (pv 0) (pa_cons (pv 7) pa_nil))) (pe_cmpR op_in_seq (pe_ix ix_tup (pv 5) (pe_op op_add (pv 6) pe_int) (fun _ _ => rfl)) (pe_ix ix_list (pv 1) (pe_ix ix_tup (pv 5) (pv 6) (fun _ _ => rfl)) (fun _ _ => rfl)) (by rfl)) (nomark _)) (pss_one (ps_ret pe_non)) pss_nil)
    (pss_one (ps_if (PW.pt (pw_and (pt_cmpR op_notIn_seq (pe_ix ix_tup (pv 5) (pe_op op_add (pv 6) pe_int) (fun _ _ => rfl)) (pe_ix ix_list (pv 1) (pe_ix ix_tup (pv 5) (pv 6) (fun _ _ => rfl)) (fun _ _ => rfl)) (by rfl)) (pw_and1 (pt_cmp (pc_dnotin hu (pv 7) (pv 4)))))) (pss_cons (ps_dput hu (pv 4) (pv 7) pe_bl (by rfl))
    (pss_one (ps_expr (pe_bm PySem.F.plainAttrs_list PySem.F.slot_list_append PySem.F.type_list_append mt_append (pv 2) (pa_cons (pv 7) pa_nil))))) pss_nil)))))
    (pss_one (ps_set (i := 3) scReach.nd rfl (.inl rfl) (pe_op op_add (pv 3) pe_int))))))
    (pss_one (ps_ret (pv 2)))))), ?_⟩
  case c1 =>
    rintro σ H Q ⟨qr, a, b, x, y, e5, e6, eq, hl, q⟩
    have hal : a.length + b.length ≤ 900 := by
      simp only [List.length_append, List.length_cons] at hl
      omega
    have gx : (pv_ (a ++ x :: y :: b))[a.length]? = some (V.int (x : Int)) := by
      rw [pv_, List.getElem?_map, List.getElem?_append_right (Nat.le_refl _), Nat.sub_self]
      rfl
    have gy : (pv_ (a ++ x :: y :: b))[a.length + 1]? = some (V.int (y : Int)) := by
      rw [pv_, List.getElem?_map, List.getElem?_append_right (by omega), show a.length + 1 - a.length = 1 by omega]
      rfl
    dsimp only [tNoPart]
    refine ⟨_, e5, _, e6, ((a.length : Nat) : Int), rfl, ?_⟩
    refine cut_path eq fun z1 H1 hz1 s1 => ?_
    rw [List.take_left] at hz1
    obtain ⟨q1, rfl, hq1⟩ := hz1
    refine ⟨_, e5, _, e6, _, _, rfl, rfl, qr, _, _, _, rfl, rfl, SqT.of (s1 _ _ eq), at_nat gy, _, e5, _, e6, qr, _, _, _, rfl, rfl, SqT.of (s1 _ _ eq), at_nat gx, sz (by simp), fun q2 nq2 => ?_⟩
    have s2 := same_up (o := .tup [V.int (y : Int), .int (x : Int)]) nq2
    refine sum_any (s2 _ _ hq1) upd_same (by rw [pv_len]; simp; omega) fun q3 H3 hq3 s3 => ?_
    have s13 := s1.trans (s2.trans s3)
    refine ⟨_, e5, _, e6, _, _, rfl, rfl, _, rfl, ?_⟩
    dsimp only [tNoPart]
    refine slice_any (K := K) (s13 _ _ eq) fun q4 H4 hq4 s4 => ?_
    have hcut : cutV (pv_ (a ++ x :: y :: b)) (some (((a.length : Nat) : Int) + 2)) none = pv_ b := by
      unfold cutV
      rw [show ((a.length : Nat) : Int) + 2 = ((a.length + 2 : Nat) : Int) by omega, HT.sIx_nat, HT.sIx_none, pv_len]
      have hm : min (a.length + 2) (a ++ x :: y :: b).length = a.length + 2 := by
        simp only [List.length_append, List.length_cons]
        omega
      rw [hm]
      have hd : (pv_ (a ++ x :: y :: b)).drop (a.length + 2) = pv_ b := by
        unfold pv_
        rw [← List.map_drop, List.drop_append]
        simp
      rw [hd, List.take_of_length_le]
      rw [pv_len]
      simp only [List.length_append, List.length_cons]
      omega
    rw [hcut] at hq4
    refine sum_any (s4 _ _ hq3) hq4 (by rw [List.length_append, pv_len, pv_len]; simp; omega) fun q5 H5 hq5 s5 => ?_
    refine q q5 H5 ?_ (s13.trans (s4.trans s5))
    rw [hq5]
    simp [pv_]
  have hgoes : ∀ o, o ∈ ords e.steps (e.res mk D0 [] 0) ↔ o.length = e.steps ∧ Goes (e.prec mk [] 0) e.steps D0 o := fun o => all_goes g
  have hLnd : (ords e.steps (e.res mk D0 [] 0)).Nodup := by
    rw [ords_res g _ _ (fun i j _ h => by cases h)]
    exact ordsD_nodup _ _
  have hLh : List.range e.steps ∈ ords e.steps (e.res mk D0 [] 0) := by
    rw [ords_res g _ _ (fun i j _ h => by cases h), List.range_eq_range']
    exact List.mem_of_getElem? (ordsD_head (N := e.steps) (pr := e.prec mk [] 0) (fun i j h => (prec_rng _ _ _ _ _ h).2.1) e.steps 0 D0 (fun x _ => by simp) (by omega))
  have hreach := fun S h0 hs => reach_all (pr := e.prec mk [] 0) (N := e.steps) (fun i j h => (prec_rng _ _ _ _ _ h).2.1) S h0 hs
  generalize ords e.steps (e.res mk D0 [] 0) = L at hgoes hLnd hLh hL q
  have hprr := fun i j (h : e.prec mk [] 0 i j = true) => (prec_rng _ _ _ _ _ h).2.1
  obtain ⟨aU, rowsU, rfl, eU, pU⟩ := id hU
  have hUl : rowsU.length = e.steps := by rw [pU.length, tells, List.length_map, List.length_range]
  refine ⟨_, rfl, aU, _, rfl, .inl (SqL.of eU), _, rfl, RgOk.of_le (by omega) (by omega) (by omega) (by omega), fun t0 nt0 => ?_⟩
  rw [hUl, rgV_pv']
  have s1 := same_up (o := .tup (pv_ (List.range e.steps))) nt0
  refine ⟨sz (by simp), fun F0 nF0 => ?_⟩
  have s2 := same_up (o := .lst [V.ref t0]) nF0
  have s12 := s1.trans s2
  have hF0H : H F0 = none := s1.free nF0
  refine ⟨_, _, rfl, ?_⟩
  refine fun D nD => ?_
  have s3 := same_up (o := .dT []) nD
  refine ⟨_, rfl, F0, _, _, _, rfl, rfl, SqL.of (s3 _ _ upd_same), at0 _ _, t0, kp (List.range e.steps), rfl, ?_, upd_same, ?_⟩
  · rw [kp_val]
    exact s3 _ _ (s2 _ _ upd_same)
  have hDH : H D = none := s12.free nD
  have hDF : D ≠ F0 := fun z => by
    rw [z, upd_same] at nD
    cases nD
  have hkp : ∀ {o o' : List Nat}, kp o = kp o' ↔ o = o' := fun {o o'} => ⟨kp_inj, fun z => by rw [z]⟩
  have ginit : ∀ G : Hp, G = upd (upd (upd (upd H t0 (.tup (pv_ (List.range e.steps)))) F0 (.lst [V.ref t0])) D (.dT [])) D (.dT (putK [] (kp (List.range e.steps)) (V.bl true))) → Same H G ∧ G F0 = some (.lst [V.ref t0]) ∧ Paired (PathAt G) [V.ref t0] [List.range e.steps] ∧ G D = some (.dT (putK [] (kp (List.range e.steps)) (V.bl true))) := fun G eG => by
    subst eG
    have ht0 : t0 ≠ D := ne_of_none (s2 _ _ (upd_same (H := H) (a := t0) (o := .tup (pv_ (List.range e.steps))))) nD
    refine ⟨fun b o z => ?_, ?_, .cons ⟨t0, rfl, ?_⟩ .nil, upd_same⟩
    · rw [upd_ne (ne_of_none z hDH)]
      exact s3 _ _ (s12 _ _ z)
    · rw [upd_ne (Ne.symm hDF)]
      exact s3 _ _ upd_same
    · rw [upd_ne ht0]
      exact s3 _ _ (s2 _ _ upd_same)
  have ginit := ginit _ rfl
  generalize upd (upd (upd (upd H t0 (.tup (pv_ (List.range e.steps)))) F0 (.lst [V.ref t0])) D (.dT [])) D (.dT (putK [] (kp (List.range e.steps)) (V.bl true))) = G0 at ginit ⊢
  obtain ⟨sG, eG, pG, dG⟩ := ginit
  -- what holds of the rows found and those seen
  let Inv : List (List Nat) → Hp → Prop := fun fl H' => Same H H' ∧ (∃ rows, H' F0 = some (.lst rows) ∧ Paired (PathAt H') rows fl) ∧ (∃ kvs : List (List Key × V), H' D = some (.dT kvs) ∧ kvs.length ≤ fl.length ∧ ∀ o, (valV kvs (kp o)).isSome = decide (o ∈ fl)) ∧ fl.Nodup ∧ (∀ o ∈ fl, o ∈ L) ∧ List.range e.steps ∈ fl
  have iG : Inv [List.range e.steps] G0 := by
    refine ⟨sG, ⟨_, eG, pG⟩, ⟨_, dG, length_putK .., fun o => ?_⟩, by simp, fun o ho => ?_, List.mem_cons_self ..⟩
    · rw [valV_put, valV_nil]
      by_cases z : o = List.range e.steps
      · rw [if_pos (by rw [z]), decide_eq_true (by rw [z]; exact List.mem_cons_self ..)]
        rfl
      · rw [if_neg (fun w => z (kp_inj w)), decide_eq_false (by simpa using z)]
        rfl
    · rw [List.mem_singleton] at ho
      rw [ho]
      exact hLh
  have hlen60 : ∀ fl H', Inv fl H' → fl.length ≤ 60 := fun fl H' z => Nat.le_trans (nodup_le fl L z.2.2.2.1 z.2.2.2.2.1) hL
  let Clo : List (List Nat) → Nat → Prop := fun fl at_ => ∀ i, i < at_ → ∀ a x y b, fl[i]? = some (a ++ x :: y :: b) → e.prec mk [] 0 x y = false → (a ++ y :: x :: b) ∈ fl
  refine ⟨fun m σ H' => ∃ (fl : List (List Nat)) (at_ : Nat) (x5 x6 x7 : Option V), σ = [some v, some (.ref aU), some (.ref F0), some (.int (at_ : Int)), some (.ref D), x5, x6, x7] ∧ m = 61 - at_ ∧ at_ ≤ fl.length ∧ Inv fl H' ∧ Clo fl at_, ⟨_, [List.range e.steps], 0, none, none, none, rfl, rfl, Nat.zero_le _, iG, fun i hi => absurd hi (Nat.not_lt_zero _)⟩, ?_⟩
  rintro m σ H1 ⟨fl, at_, x5, x6, x7, rfl, rfl, hat, hI, hC⟩
  have hfl := hlen60 fl H1 hI
  obtain ⟨sI, ⟨rows, eF, pF⟩, ⟨kvs, eD, hkl, hk⟩, hnd, hin, hid⟩ := id hI
  have hrl := pF.length
  refine ⟨_, rfl, _, rfl, F0, _, rfl, .inl (SqL.of eF), _, _, rfl, rfl, _, rfl, ?_⟩
  rw [hrl]
  by_cases hlt : at_ < fl.length
  · refine iteYes (by omega) ?_
    refine ⟨fun σ' H' => ∃ m', m' < 61 - at_ ∧ ∃ (fl : List (List Nat)) (at_ : Nat) (x5 x6 x7 : Option V), σ' = [some v, some (.ref aU), some (.ref F0), some (.int (at_ : Int)), some (.ref D), x5, x6, x7] ∧ m' = 61 - at_ ∧ at_ ≤ fl.length ∧ Inv fl H' ∧ Clo fl at_, fun σ' H' h => h, ?_⟩
    obtain ⟨row, hrow⟩ : ∃ row, fl[at_]? = some row := ⟨_, List.getElem?_eq_getElem hlt⟩
    have hrowL := hin row (List.mem_of_getElem? hrow)
    obtain ⟨hrN, hrG⟩ := (hgoes row).mp hrowL
    obtain ⟨vr, o', hvr, ho', ⟨qr, rfl, hqr⟩⟩ := row_at' pF hlt
    have : o' = row := Option.some.inj (ho'.symm.trans hrow)
    subst this
    refine ⟨_, rfl, _, rfl, F0, _, _, _, rfl, rfl, SqL.of eF, at_nat hvr, ?_⟩
    refine ⟨_, rfl, qr, _, rfl, .inr (SqT.of hqr), _, _, rfl, rfl, _, rfl, by rw [pv_len]; omega, by rw [pv_len]; omega, ?_⟩
    rw [pv_len, hrN]
    refine for_range (lo := 0) (fun k σ H' => ∃ (fl2 : List (List Nat)) (x6 x7 : Option V), σ = [some v, some (.ref aU), some (.ref F0), some (.int (at_ : Int)), some (.ref D), some (.ref qr), x6, x7] ∧ fl2[at_]? = some o' ∧ Inv fl2 H' ∧ Clo fl2 at_ ∧ (∀ a x y b, o' = a ++ x :: y :: b → a.length < k → e.prec mk [] 0 x y = false → (a ++ y :: x :: b) ∈ fl2) ∧ H' qr = some (.tup (pv_ o'))) ⟨fl, x6, x7, rfl, hrow, hI, hC, fun _ _ _ _ _ h => absurd h (Nat.not_lt_zero _), hqr⟩ ?_ ?_
    · rintro k σ H2 hk ⟨fl2, x6, x7, rfl, hrow2, hI2, hC2, hD2, hq2⟩
      have hk' : k + 1 < o'.length := by omega
      have ez : (0 : Int) + (k : Int) = (k : Int) := by omega
      rw [ez]
      obtain ⟨a, x, y, b, rfl, rfl⟩ := split_two hk'
      obtain ⟨sI2, ⟨rows2, eF2, pF2⟩, ⟨kvs2, eD2, hkl2, hk2⟩, hnd2, hin2, hid2⟩ := id hI2
      have hfl2 := hlen60 fl2 H2 hI2
      have hrl2 := pF2.length
      obtain ⟨gn1, gn2⟩ := goes_mem hrG
      have hxN : x < e.steps := (gn2 x (by simp)).1
      have hyN : y < e.steps := (gn2 y (by simp)).1
      have gx : (pv_ (a ++ x :: y :: b))[a.length]? = some (V.int (x : Int)) := by
        rw [pv_, List.getElem?_map, List.getElem?_append_right (Nat.le_refl _), Nat.sub_self]
        rfl
      have gy : (pv_ (a ++ x :: y :: b))[a.length + 1]? = some (V.int (y : Int)) := by
        rw [pv_, List.getElem?_map, List.getElem?_append_right (by omega), show a.length + 1 - a.length = 1 by omega]
        rfl
      have hsl : (a ++ y :: x :: b).length = e.steps := by rw [← hrN]; simp
      have hsw : Goes (e.prec mk [] 0) e.steps D0 (a ++ y :: x :: b) ↔ e.prec mk [] 0 x y = false := ⟨fun z => swap_not hrG z, fun z => swap_goes hrG z⟩
      refine ⟨qr, a, b, x, y, rfl, rfl, hq2, by omega, fun t H3 et s3 => ?_⟩
      have sI3 := sI2.trans s3
      have hT3 := hT.keep sI3
      obtain ⟨aU', qx, rowsU', e1, e2, e3, e4⟩ := (hU.keep sI3).get (tells_get (pr := e.prec mk [] 0) hxN)
      cases e1
      refine ⟨_, rfl, _, rfl, v, t, fns, e, mk, _, rfl, hT3, et, g, hn, fun bo hbo => ?_⟩
      have hbo2 : bo = !e.prec mk [] 0 x y := beq_of_iff (by
        rw [hbo, Bool.not_eq_true']
        exact ⟨fun z => hsw.mp z.2, fun z => ⟨hsl, hsw.mpr z⟩⟩)
      subst hbo2
      refine ⟨_, rfl, _, rfl, _, _, rfl, rfl, qr, _, _, _, rfl, rfl, SqT.of (s3 _ _ hq2), at_nat gy, ?_⟩
      refine ⟨_, rfl, _, rfl, _, rfl, qr, _, _, _, rfl, rfl, SqT.of (s3 _ _ hq2), at_nat gx, aU, _, _, _, rfl, rfl, SqL.of e2, at_nat e3, ?_⟩
      refine ⟨qx, _, rfl, .inl (SqL.of e4), rfl, flat_nv _, ?_⟩
      rw [if_neg (by simp), in_nv, in_tellR hyN]
      refine ⟨rfl, _, rfl, ?_⟩
      have hd : decide (V.bl (!e.prec mk [] 0 x y) = V.bl (e.prec mk [] 0 x y)) = false := by
        cases e.prec mk [] 0 x y <;> rfl
      rw [hd]
      refine iteF ?_
      refine ⟨_, rfl, _, rfl, _, _, rfl, rfl, qr, _, _, _, rfl, rfl, SqT.of (s3 _ _ hq2), at_nat gy, ?_⟩
      refine ⟨_, rfl, _, rfl, _, rfl, qr, _, _, _, rfl, rfl, SqT.of (s3 _ _ hq2), at_nat gx, aU, _, _, _, rfl, rfl, SqL.of e2, at_nat e3, ?_⟩
      refine ⟨qx, _, rfl, .inl (SqL.of e4), rfl, flat_nv _, ?_⟩
      rw [if_pos rfl, in_nv, in_tellR hyN]
      have eF3 := s3 _ _ eF2
      have eD3 := s3 _ _ eD2
      have pF3 := L2.Paired.mapP pF2 fun p q z => z.keep (same_t s3)
      have hI3 : Inv fl2 H3 := ⟨sI3, ⟨rows2, eF3, pF3⟩, ⟨kvs2, eD3, hkl2, hk2⟩, hnd2, hin2, hid2⟩
      have same : ∀ a' x' y' b', a ++ x :: y :: b = a' ++ x' :: y' :: b' → a'.length = a.length → a' = a ∧ x' = x ∧ y' = y ∧ b' = b := fun a' x' y' b' he hl => by
        obtain ⟨h1, h2⟩ := List.append_inj he hl.symm
        obtain ⟨h3, h4⟩ := List.cons.inj h2
        obtain ⟨h5, h6⟩ := List.cons.inj h4
        exact ⟨h1.symm, h3.symm, h5.symm, h6.symm⟩
      cases hp : e.prec mk [] 0 x y with
      | true =>
        refine ⟨_, rfl, iteF ?_⟩
        refine ⟨fl2, _, _, rfl, hrow2, hI3, hC2, fun a' x' y' b' he hl' hp' => ?_, s3 _ _ hq2⟩
        by_cases z : a'.length = a.length
        · obtain ⟨rfl, rfl, rfl, rfl⟩ := same a' x' y' b' he z
          rw [hp] at hp'
          cases hp'
        · exact hD2 a' x' y' b' he (by omega) hp'
      | false =>
        refine ⟨_, rfl, iteT ?_⟩
        have hget := DGet.t (H := H3) (a := D) (b := t) (k := kp (a ++ y :: x :: b)) eD3 (by rw [kp_val]; exact et)
        refine ⟨_, rfl, _, rfl, D, _, rfl, hget, ?_⟩
        rw [hk2]
        by_cases hm : (a ++ y :: x :: b) ∈ fl2
        · rw [decide_eq_true hm]
          refine ⟨_, rfl, iteF ?_⟩
          refine ⟨fl2, _, _, rfl, hrow2, hI3, hC2, fun a' x' y' b' he hl' hp' => ?_, s3 _ _ hq2⟩
          by_cases z : a'.length = a.length
          · obtain ⟨rfl, rfl, rfl, rfl⟩ := same a' x' y' b' he z
            exact hm
          · exact hD2 a' x' y' b' he (by omega) hp'
        · rw [decide_eq_false hm]
          refine ⟨_, rfl, iteT ?_⟩
          have hput := DPut.t (v := V.bl true) (k := kp (a ++ y :: x :: b)) eD3 (by rw [kp_val]; exact et) (Nat.lt_of_le_of_lt hkl2 (Nat.lt_of_le_of_lt hfl2 (by decide)))
          refine ⟨_, rfl, _, rfl, D, _, rfl, hput, ?_⟩
          have eF4 : (upd H3 D (.dT (putK kvs2 (kp (a ++ y :: x :: b)) (V.bl true)))) F0 = some (.lst rows2) := by
            rw [upd_ne (Ne.symm hDF)]
            exact eF3
          have hFD : D ≠ F0 := hDF
          refine ⟨_, rfl, .inl ⟨rfl, _, SqL.of eF4⟩, _, rfl, F0, _, _, rfl, rfl, eF4, small1000 (by omega), ?_⟩
          have kt : ∀ q xs, H3 q = some (.tup xs) → (upd (upd H3 D (.dT (putK kvs2 (kp (a ++ y :: x :: b)) (V.bl true)))) F0 (.lst (rows2 ++ [.ref t]))) q = some (.tup xs) := fun q xs z => by
            rw [upd_ne (ne_of z eF3 fun h => nomatch h), upd_ne (ne_of z eD3 fun h => nomatch h)]
            exact z
          refine ⟨fl2 ++ [a ++ y :: x :: b], _, _, rfl, ?_, ⟨fun b' o z => ?_, ⟨_, upd_same, ?_⟩, ⟨putK kvs2 (kp (a ++ y :: x :: b)) (V.bl true), ?_, Nat.le_trans (length_putK ..) ?_, fun o => ?_⟩, ?_, fun o ho => ?_, List.mem_append_left _ hid2⟩, fun i hi a' x' y' b' hi2 hp' => ?_, fun a' x' y' b' he hl' hp' => ?_, kt _ _ (s3 _ _ hq2)⟩
          · rw [List.getElem?_append_left (List.getElem?_eq_some_iff.mp hrow2).1]
            exact hrow2
          · rw [upd_ne (ne_of_none z hF0H), upd_ne (ne_of_none z hDH)]
            exact sI3 _ _ z
          · exact paired_append (L2.Paired.mapP pF3 fun p q z => z.keep fun q xs w => kt _ _ w) (.cons ⟨t, rfl, kt _ _ et⟩ .nil)
          · rw [upd_ne hFD]
            exact upd_same
          · rw [List.length_append, List.length_singleton]
            exact Nat.succ_le_succ hkl2
          · rw [valV_put]
            by_cases z : o = a ++ y :: x :: b
            · rw [if_pos (by rw [z]), decide_eq_true (by rw [z]; simp)]
              rfl
            · rw [if_neg fun w => z (kp_inj w), hk2]
              by_cases w : o ∈ fl2
              · rw [decide_eq_true w, decide_eq_true (List.mem_append_left _ w)]
              · rw [decide_eq_false w, decide_eq_false fun u => (List.mem_append.mp u).elim w fun u => z (List.mem_singleton.mp u)]
          · refine List.nodup_append.mpr ⟨hnd2, by simp, fun p hp q hq => ?_⟩
            rw [List.mem_singleton] at hq
            subst hq
            exact fun w => hm (w ▸ hp)
          · rcases List.mem_append.mp ho with ho | ho
            · exact hin2 o ho
            · rw [List.mem_singleton] at ho
              rw [ho]
              exact (hgoes _).mpr ⟨hsl, hsw.mpr hp⟩
          · rw [List.getElem?_append_left (by have := (List.getElem?_eq_some_iff.mp hrow2).1; omega)] at hi2
            exact List.mem_append_left _ (hC2 i hi a' x' y' b' hi2 hp')
          · by_cases z : a'.length = a.length
            · obtain ⟨rfl, rfl, rfl, rfl⟩ := same a' x' y' b' he z
              simp
            · exact List.mem_append_left _ (hD2 a' x' y' b' he (by omega) hp')
    · rintro σ H2 ⟨fl2, x6, x7, rfl, hrow2, hI2, hC2, hD2, hq2⟩
      have hal := (List.getElem?_eq_some_iff.mp hrow2).1
      have h60 := hlen60 fl2 H2 hI2
      refine ⟨_, rfl, _, _, rfl, rfl, 61 - (at_ + 1), by omega, fl2, at_ + 1, _, _, _, rfl, rfl, hal, hI2, fun i hi a x y b hi2 hp => ?_⟩
      by_cases z : i < at_
      · exact hC2 i z a x y b hi2 hp
      · have : i = at_ := by omega
        subst this
        rw [hrow2] at hi2
        have ho := Option.some.inj hi2
        refine hD2 a x y b ho ?_ hp
        rw [ho] at hrN
        simp only [List.length_append, List.length_cons] at hrN
        omega
  · refine iteNo (by omega) ?_
    have hfin : fl.Perm L := by
      refine (List.perm_ext_iff_of_nodup hnd hLnd).mpr fun o => ⟨hin o, fun ho => ?_⟩
      obtain ⟨h1, h2⟩ := (hgoes o).mp ho
      refine hreach (fun o => o ∈ fl) hid (fun a x y b hm hp => ?_) _ o h2 h1 (Nat.le_refl _)
      obtain ⟨i, hi⟩ := List.mem_iff_getElem?.mp hm
      exact hC i (by have := (List.getElem?_eq_some_iff.mp hi).1; omega) a x y b hi hp
    exact ⟨_, rfl, q F0 rows fl H1 eF pF hfin sI⟩
end
end Oo
/-! the operand that holds the next step, by its number among the orders (mathematics of the descent) -/
namespace Oo
open PySem
/-- the operands in which the next step can lie -/
def inL (fx : Bool) (sz : List Nat) : List Nat := let js := (List.range sz.length).filter fun i => decide (0 < sz.getD i 0)
  if fx = true then js.take 1 else js
def manyL (sz : List Nat) (js : List Nat) : Nat := (js.map fun i => sz.getD i 0).sum
/-- (operand, skipped, part) one after another -/
def rowsL (share many : Nat) (sz : List Nat) : List Nat → Nat → List (Nat × Nat × Nat)
  | [], _ => []
  | i :: r, sk => (i, sk, share * sz.getD i 0 / many) :: rowsL share many sz r (sk + share * sz.getD i 0 / many)
def partsL (share many : Nat) (sz : List Nat) (js : List Nat) : Nat := (js.map fun i => share * sz.getD i 0 / many).sum
theorem rowsL_low {share many : Nat} {sz : List Nat} {r : Nat} : ∀ (js : List Nat) (sk : Nat), r < sk → (rowsL share many sz js sk).filter (fun x => decide (x.2.1 ≤ r)) = []
  | [], _, _ => rfl
  | i :: js, sk, h => by
    have e := rowsL_low (share := share) (many := many) (sz := sz) js (sk + share * sz.getD i 0 / many) (Nat.lt_of_lt_of_le h (Nat.le_add_right _ _))
    simp only [rowsL, List.filter_cons, decide_eq_false (show ¬ sk ≤ r by omega), e]
    rfl
/-- the last row that is not skipped past -/
theorem rowsL_pick {share many : Nat} {sz : List Nat} {r : Nat} : ∀ (js : List Nat) (sk : Nat), sk ≤ r → r < sk + partsL share many sz js → ∃ pre i post, js = pre ++ i :: post ∧ sk + partsL share many sz pre ≤ r ∧ r < sk + partsL share many sz pre + share * sz.getD i 0 / many ∧
    ∃ q, (rowsL share many sz js sk).filter (fun x => decide (x.2.1 ≤ r)) = q ++ [(i, sk + partsL share many sz pre, share * sz.getD i 0 / many)]
  | [], sk, h1, h2 => by simp [partsL] at h2; omega
  | i :: js, sk, h1, h2 => by
    by_cases h : r < sk + share * sz.getD i 0 / many
    · refine ⟨[], i, js, rfl, by simpa [partsL] using h1, by simpa [partsL] using h, [], ?_⟩
      simp only [rowsL, List.filter_cons, decide_eq_true h1, if_true, rowsL_low js _ h]
      simp [partsL]
    · have h3 : partsL share many sz (i :: js) = share * sz.getD i 0 / many + partsL share many sz js := by simp [partsL]
      have h5 : sk + share * sz.getD i 0 / many ≤ r := Nat.not_lt.mp h
      have h6 : r < sk + share * sz.getD i 0 / many + partsL share many sz js := by
        rw [h3, ← Nat.add_assoc] at h2
        exact h2
      obtain ⟨pre, j, post, e, p1, p2, q, hq⟩ := rowsL_pick js (sk + share * sz.getD i 0 / many) h5 h6
      have h4 : partsL share many sz (i :: pre) = share * sz.getD i 0 / many + partsL share many sz pre := by simp [partsL]
      have h7 : sk + partsL share many sz (i :: pre) = sk + share * sz.getD i 0 / many + partsL share many sz pre := by rw [h4, Nat.add_assoc]
      refine ⟨i :: pre, j, post, by rw [e]; rfl, by rw [h7]; exact p1, by rw [h7]; exact p2, (i, sk, share * sz.getD i 0 / many) :: q, ?_⟩
      rw [h7]
      simp only [rowsL, List.filter_cons, decide_eq_true h1, if_true, hq, List.cons_append]
theorem szs_getD (ks : List SP) (i : Nat) (h : i < ks.length) : (SP.szs ks).getD i 0 = ks[i].sz := by
  induction ks generalizing i with
  | nil => cases h
  | cons k r ih =>
    cases i with
    | zero => rfl
    | succ i => exact ih i (by simpa using h)
theorem filt_prefix {P : Nat → Bool} : ∀ {n : Nat} {pre post : List Nat} {i : Nat}, (List.range n).filter P = pre ++ i :: post → pre = (List.range i).filter P ∧ i < n := by
  intro n pre post i h
  have hi : i ∈ (List.range n).filter P := h ▸ List.mem_append_right _ (List.mem_cons_self ..)
  obtain ⟨h1, h2⟩ := List.mem_filter.mp hi
  have hn := List.mem_range.mp h1
  refine ⟨?_, hn⟩
  have e : List.range n = List.range i ++ i :: (List.range' (i + 1) (n - i - 1)) := by
    rw [List.range_eq_range', List.range_eq_range']
    obtain ⟨m, rfl⟩ : ∃ m, n = i + (1 + m) := ⟨n - i - 1, by omega⟩
    rw [range_app, range_app]
    simp only [Nat.zero_add]
    congr 2
    rw [show i + (1 + m) - i - 1 = m by omega]
    rfl
  rw [e, List.filter_append, List.filter_cons, if_pos h2] at h
  have nd : ((List.range i).filter P ++ i :: (List.range' (i + 1) (n - i - 1)).filter P).Nodup := by
    have := (List.nodup_range (n := n)).filter P
    rw [e, List.filter_append, List.filter_cons, if_pos h2] at this
    exact this
  have hp : i ∉ (List.range i).filter P := fun z => by
    have := List.mem_range.mp (List.mem_filter.mp z).1
    omega
  have hq : i ∉ pre := fun z => by
    rw [h] at nd
    exact (List.nodup_append.mp nd).2.2 i z i (List.mem_cons_self ..) rfl
  have key : ∀ (a b c d : List Nat), a ++ i :: b = c ++ i :: d → i ∉ a → i ∉ c → a = c := by
    intro a
    induction a with
    | nil =>
      intro b c d e ha hc
      cases c with
      | nil => rfl
      | cons x c =>
        have := (List.cons.inj e).1
        exact absurd (this ▸ List.mem_cons_self ..) hc
    | cons x a ih =>
      intro b c d e ha hc
      cases c with
      | nil =>
        have := (List.cons.inj e).1
        exact absurd (this ▸ List.mem_cons_self ..) ha
      | cons y c =>
        obtain ⟨e1, e2⟩ := List.cons.inj e
        rw [e1, ih b c d e2 (fun z => ha (List.mem_cons_of_mem _ z)) (fun z => hc (List.mem_cons_of_mem _ z))]
  exact (key _ _ _ _ h hp hq).symm
end Oo
/-! orders: shares -/
namespace Oo
open PySem L2 PyProof.Rows LamX StX ClX
abbrev sShares : Stmt := top 68
def wv (ws : List V) (i : Nat) : V := (ws[i]?).getD .non
theorem rowsL_app (share many : Nat) (sz : List Nat) (i : Nat) : ∀ (js : List Nat) (sk : Nat), rowsL share many sz (js ++ [i]) sk = rowsL share many sz js sk ++ [(i, sk + partsL share many sz js, share * sz.getD i 0 / many)]
  | [], sk => by simp [rowsL, partsL]
  | j :: r, sk => by
    simp only [List.cons_append, rowsL, rowsL_app share many sz i r, partsL, List.map_cons, List.sum_cons]
    simp only [Nat.add_assoc]
theorem partsL_app (share many : Nat) (sz : List Nat) (i : Nat) (js : List Nat) : partsL share many sz (js ++ [i]) = partsL share many sz js + share * sz.getD i 0 / many := by
  simp [partsL]
theorem rowsL_len (share many : Nat) (sz : List Nat) : ∀ (js : List Nat) (sk : Nat), (rowsL share many sz js sk).length = js.length
  | [], _ => rfl
  | j :: r, sk => by simp only [rowsL, List.length_cons, rowsL_len share many sz r]
theorem sub_sum {a b : List Nat} (h : a.Sublist b) : a.sum ≤ b.sum := by
  induction h with
  | slnil => exact Nat.le_refl _
  | cons x _ ih => simp only [List.sum_cons]; omega
  | cons_cons x _ ih => simp only [List.sum_cons]; omega
theorem range_getD (sz : List Nat) : (List.range sz.length).map (fun i => sz.getD i 0) = sz := by
  refine List.ext_getElem (by simp) fun i h1 h2 => ?_
  simp only [List.getElem_map, List.getElem_range]
  rw [List.getD_eq_getElem?_getD, List.getElem?_eq_getElem h2]
  rfl
theorem inL_sub (fx : Bool) (sz : List Nat) : (inL fx sz).Sublist (List.range sz.length) := by
  unfold inL
  cases fx with
  | true => exact (List.take_sublist _ _).trans List.filter_sublist
  | false => exact List.filter_sublist
theorem inL_pos {fx : Bool} {sz : List Nat} {i : Nat} (h : i ∈ inL fx sz) : i < sz.length ∧ 0 < sz.getD i 0 := by
  have : i ∈ (List.range sz.length).filter fun i => decide (0 < sz.getD i 0) := by
    unfold inL at h
    cases fx with
    | true => exact List.mem_of_mem_take h
    | false => exact h
  obtain ⟨h1, h2⟩ := List.mem_filter.mp this
  exact ⟨List.mem_range.mp h1, of_decide_eq_true h2⟩
theorem manyL_le (fx : Bool) (sz : List Nat) : manyL sz (inL fx sz) ≤ sz.sum := by
  have := sub_sum ((inL_sub fx sz).map fun i => sz.getD i 0)
  rwa [range_getD] at this
theorem le_sum : ∀ {l : List Nat} {x : Nat}, x ∈ l → x ≤ l.sum
  | [], x, h => by cases h
  | a :: r, x, h => by
    rcases List.mem_cons.mp h with rfl | h
    · simp only [List.sum_cons]
      omega
    · have := le_sum h
      simp only [List.sum_cons]
      omega
theorem sum_cast (f : Nat → Nat) : ∀ js : List Nat, (js.map fun i => ((f i : Nat) : Int)).sum = (((js.map f).sum : Nat) : Int)
  | [] => rfl
  | j :: r => by simp only [List.map_cons, List.sum_cons, Int.natCast_add, sum_cast f r]
theorem manyL_pos {fx : Bool} {sz : List Nat} {i : Nat} (h : i ∈ inL fx sz) : 0 < manyL sz (inL fx sz) := by
  have h2 := (inL_pos h).2
  have : sz.getD i 0 ≤ manyL sz (inL fx sz) := by
    unfold manyL
    exact le_sum (List.mem_map.mpr ⟨i, h, rfl⟩)
  omega
def ShAt (ws : List V) (H : Hp) (u : V) (x : Nat × Nat × Nat) : Prop := ∃ q : Addr, u = .ref q ∧ H q = some (.tup [wv ws x.1, .int (x.2.1 : Int), .int (x.2.2 : Int)])
/-- the dict tells what is left in the operands -/
def KidsAt (kvs : List (List Key × V)) (p : List Nat) (sz : List Nat) : Prop := ∀ i, i < sz.length → valV kvs (kp (p ++ [i])) = some (.int (sz.getD i 0 : Nat))
section
variable {P : Program} {w : World} {K : PySem.W.Frag} {mg : Str → Option Value} {base : Heap} {X : Cx}
def spShares (CS : Addr) : Sp := fun vs H Q _ => ∃ (v : V) (d : Addr) (e : Ex) (mk : List (List Nat)) (p : List Nat) (n share : Nat) (kvs : List (List Key × V)) (sz : List Nat) (ws : List V), vs = [v, .ref d, .int (share : Int)] ∧ SpanObj CS mk H e p n v ws ∧ SpansAt CS mk H e.ops p 0 n ws ∧ H d = some (.dT kvs) ∧ sz.length = e.ops.length ∧ KidsAt kvs p sz ∧ sz.sum ≤ 1800 ∧ e.nodes ≤ 900 ∧ share ≤ bigN ∧
  ∀ (l : Addr) (acc : List V) (H' : Hp), H' l = some (.lst acc) → H l = none → Paired (ShAt ws H') acc (rowsL share (manyL sz (inL (e.fx mk p) sz)) sz (inL (e.fx mk p) sz) 0) → Same H H' → Q (.ref l) H'
def ttLeftJ (CS : Addr) : TT := fun σ H Q => ∃ (v : V) (e : Ex) (mk : List (List Nat)) (p : List Nat) (n : Nat) (d : Addr) (kvs : List (List Key × V)) (t : Nat), σ[4]? = some (some v) ∧ SpanAt CS mk H e p n v ∧ σ[1]? = some (some (.ref d)) ∧ H d = some (.dT kvs) ∧ valV kvs (kp p) = some (.int (t : Int)) ∧ Q (decide (0 < t)) H
def teLeftJ (CS : Addr) : TE := fun σ H Q => ∃ (v : V) (e : Ex) (mk : List (List Nat)) (p : List Nat) (n : Nat) (d : Addr) (kvs : List (List Key × V)) (t : Nat), σ[4]? = some (some v) ∧ SpanAt CS mk H e p n v ∧ σ[1]? = some (some (.ref d)) ∧ H d = some (.dT kvs) ∧ valV kvs (kp p) = some (.int (t : Int)) ∧ Q (.int (t : Int)) H
/-- what follows once the operands are listed -/
def tailB (K : PySem.W.Frag) (CS : Addr) : TS := tSeq (tAsg (tCB (rSum K) (tCons (tLc (iList K (tVar 3)) (gName 4) tYes (teLeftJ CS) [4]) tNil)) (gName 5))
  (tSeq (tAsg (tLst tNil) (gName 6)) (tSeq (tAsg (tC (V.int 0)) (gName 7)) (tSeq (tFor (iList K (tVar 3)) (gName 4)
    (tSeq (tAsg (tOp (rI CDiv fun i j => V.int (i / j)) (tOp (rI IntMulOk fun i j => V.int (i * j)) (tVar 2) (tDGet (tVar 1) (tFld K (tVar 4) "path"))) (tVar 5)) (gName 8))
      (tSeq (tDrop (tBM K "list" rAppend (tVar 6) (tCons (tTup (tCons (tVar 4) (tCons (tVar 7) (tCons (tVar 8) tNil)))) tNil))) (tAug 7 (tVar 8) (rI0 fun i j => V.int (i + j)))))) (tRet (tVar 6)))))
theorem scShares : FnScope ["span", "left", "share", "below", "one", "many", "rows", "skipped", "part"] ["span", "left", "share"] (defScope sShares) := ⟨rfl, rfl, rfl, by decide +kernel, rfl, by decide +kernel, by decide +kernel⟩
theorem ok_shares {CS f : Addr} {fd : FuncData} (F : Fun K "shares" "shares" sShares f fd) (S : TxS K CS) (msu : mg "sum" = none) : FnOk P w K mg base CX0 1 f fd ["span", "left", "share"] (spShares CS) := by
  refine F.ok scShares (fun vs H Q E h => ?_) (fun cdv A outer s H vs Q E hr h => ?_)
  · obtain ⟨v, d, e, mk, p, n, share, kvs, sz, ws, rfl, _⟩ := h
    rfl
  obtain ⟨v, d, e, mk, p, n, share, kvs, sz, ws, rfl, hv, hws, hd, hsl, hkids, hsum, hn, hb, q⟩ := h
  have hu := hu_of hr
  refine ⟨_, (pss_cons (ps_setLc (i := 3) (own := [("one", 4)]) (g := gName 4) (by rfl) scShares.nd rfl rfl (sw_true rfl rfl rfl (by decide +kernel)) (pi_tup (pe_fld (pv 0) rfl)) (blkOk_by (own := [("one", 4)]) (N := ["span", "left", "share", "below", "one", "many", "rows", "skipped", "part"]) (sc := defScope sShares) (by decide +kernel)) (fun _ _ _ _ _ => (pg_name (i := 4) scShares.nd rfl (Or.inl rfl))) (fun _ _ _ _ _ => (pts_one (pt_as (t' := ttLeftJ CS) (pt_cmpR op_gt (pe_dget hu (pv 1) (pe_fld (pv 4) rfl) (fun _ _ => rfl)) pe_int (nomark _)) ?c1))) (fun _ _ _ _ _ => (pv 4)))
    (pss_cons (ps_if (pt_val (pe_fld (pv 0) rfl)) (pss_one (ps_set (i := 3) scShares.nd rfl (.inl rfl) (pe_slice sl_list (pv 3) po_none (po_some pe_int)))) pss_nil)
    (pss_cons (ps_set (i := 5) scShares.nd rfl (.inl rfl) (pe_callB (cr_sum rfl) (by rfl) msu (by decide +kernel) (pa_cons (pe_lc (own := [("one", 4)]) (g := gName 4) (tt := tYes) (by rfl) scShares.nd (pi_list (pv 3)) (blkOk_by (own := [("one", 4)]) (N := ["span", "left", "share", "below", "one", "many", "rows", "skipped", "part"]) (sc := defScope sShares) (by decide +kernel)) (fun _ _ _ _ _ => (pg_name (i := 4) scShares.nd rfl (Or.inl rfl))) (fun _ _ _ _ _ => pts_nil) (fun _ _ _ _ _ => (pe_as (t' := teLeftJ CS) (pe_dget hu (pv 1) (pe_fld (pv 4) rfl) (fun _ _ => rfl)) ?c2))) pa_nil)))
    (pss_cons (ps_set (i := 6) scShares.nd rfl (.inl rfl) (pe_lst pa_nil))
    (pss_cons (ps_set (i := 7) scShares.nd rfl (.inl rfl) pe_int)
    (pss_cons (ps_for PassesOwn.never rfl (pi_list (pv 3)) (pg_name (i := 4) scShares.nd rfl (Or.inl rfl)) (pss_cons (ps_set (i := 8) scShares.nd rfl (.inl rfl) (pe_op op_fdiv (pe_op op_mulL (pv 2) (pe_dget hu (pv 1) (pe_fld (pv 4) rfl) (fun _ _ => rfl))) (pv 5)))
    (pss_cons (ps_expr (pe_bm PySem.F.plainAttrs_list PySem.F.slot_list_append PySem.F.type_list_append mt_append (pv 6) (pa_cons (pe_tup (pa_cons (pv 4) (pa_cons (pv 7) (pa_cons (pv 8) pa_nil)))) pa_nil)))
    (pss_one (ps_aug (i := 7) scShares.nd rfl (.inl rfl) (pv 8) iop_add)))))
    (pss_one (ps_ret (pv 6))))))))), ?_⟩
  case c1 =>
    rintro σ H Q ⟨v, e, mk, p, n, d, kvs, t, e4, hv, e1, hd, hk, q⟩
    obtain ⟨ws, ⟨a, dx, fs, vp, vf, tb, to, rfl, h1, hf, ⟨qp, rfl, h2⟩, _⟩, _⟩ := hv.obj
    refine ⟨_, e1, _, e4, a, CS, dx, fs, _, rfl, h1, S.cl, S.nP, hf.p, d, .int (t : Int), rfl, ?_, ?_⟩
    · have := DGet.t (a := d) (b := qp) (k := kp p) hd (by rw [kp_val]; exact h2)
      rwa [hk] at this
    · refine ⟨_, _, rfl, rfl, _, rfl, ?_⟩
      have e : decide ((0 : Int) < (t : Int)) = decide (0 < t) := by
        by_cases h : 0 < t
        · rw [decide_eq_true h, decide_eq_true (by omega)]
        · rw [decide_eq_false h, decide_eq_false (by omega)]
      rw [e]
      exact q
  case c2 =>
    rintro σ H Q ⟨v, e, mk, p, n, d, kvs, t, e4, hv, e1, hd, hk, q⟩
    obtain ⟨ws, ⟨a, dx, fs, vp, vf, tb, to, rfl, h1, hf, ⟨qp, rfl, h2⟩, _⟩, _⟩ := hv.obj
    refine ⟨_, e1, _, e4, a, CS, dx, fs, _, rfl, h1, S.cl, S.nP, hf.p, d, .int (t : Int), rfl, ?_, q⟩
    have := DGet.t (a := d) (b := qp) (k := kp p) hd (by rw [kp_val]; exact h2)
    rwa [hk] at this
  obtain ⟨a, dx, fs, vp, vf, tb, to, rfl, h1, hf, hpa, h3, h4, h5⟩ := id hv
  have hwl := hws.length
  have hol := len_ops e
  refine ⟨_, rfl, a, CS, dx, fs, _, rfl, h1, S.cl, S.nB, hf.b, tb, rfl, ⟨_, SqT.of h4⟩, fun D nD => ?_⟩
  have kid : ∀ {H' : Hp}, Same H H' → ∀ i, i < sz.length → ∃ ex m, ws[i]? = some (wv ws i) ∧ SpanAt CS mk H' ex (p ++ [i]) m (wv ws i) ∧ H' d = some (.dT kvs) ∧ valV kvs (kp (p ++ [i])) = some (.int (sz.getD i 0 : Nat)) := fun {H'} s' i hi => by
    obtain ⟨y, hy, sy⟩ := hws.get i (by omega)
    have ew : wv ws i = y := by
      unfold wv
      rw [hy]
      rfl
    rw [ew]
    rw [Nat.zero_add] at sy
    exact ⟨_, _, hy, sy.keep (KI.same s') _ _ _ _, s' _ _ hd, hkids i hi⟩
  refine lc_tup (K := K) (a := tb) (xs := ws) (fun k H' => H' D = some (.lst (((List.range k).filter fun i => decide (0 < sz.getD i 0)).map (wv ws))) ∧ Same H H') ⟨upd_same, same_up nD⟩ (fun k H' _ z => SqT.of (z.2 _ _ h4)) ?_ ?_
  · rintro k y H1 hk ⟨eD, s1⟩
    have hkl : k < sz.length := by
      have := (List.getElem?_eq_some_iff.mp hk).1
      omega
    obtain ⟨ex, m, hw, sw, hd1, hv1⟩ := kid s1 k hkl
    have : y = wv ws k := Option.some.inj (hk.symm.trans hw)
    subst this
    refine ⟨rfl, _, ex, mk, _, m, d, kvs, _, rfl, sw, rfl, hd1, hv1, ?_⟩
    rw [List.range_succ, List.filter_append, List.map_append]
    by_cases hz : 0 < sz.getD k 0
    · rw [decide_eq_true hz]
      refine iteT ⟨_, rfl, _, eD, small1000 ?_, ?_, fun b o z => by rw [upd_ne (ne_of_none z nD)]; exact s1 _ _ z⟩
      · have := List.length_filter_le (fun i => decide (0 < sz.getD i 0)) (List.range k)
        rw [List.length_range] at this
        rw [List.length_map]
        omega
      · have : [k].filter (fun i => decide (0 < sz.getD i 0)) = [k] := by simp only [List.filter_cons, decide_eq_true hz, if_true, List.filter_nil]
        rw [this]
        exact upd_same
    · rw [decide_eq_false hz]
      have : [k].filter (fun i => decide (0 < sz.getD i 0)) = [] := by
        simp only [List.filter_cons, decide_eq_false hz, List.filter_nil]
        exact if_neg fun z => Bool.noConfusion z
      rw [this, List.map_nil, List.append_nil]
      exact iteF ⟨eD, s1⟩
  · rintro H1 ⟨eD, s1⟩
    rw [hwl, ← hsl] at eD
    have hjlen : ((List.range sz.length).filter fun i => decide (0 < sz.getD i 0)).length ≤ 900 := by
      have := List.length_filter_le (fun i => decide (0 < sz.getD i 0)) (List.range sz.length)
      rw [List.length_range] at this
      omega
    have hjlt : ∀ i ∈ inL (e.fx mk p) sz, i < sz.length := fun i hi => by
      have : i ∈ (List.range sz.length).filter fun i => decide (0 < sz.getD i 0) := by
        unfold inL at hi
        cases hfx : e.fx mk p with
        | true => rw [hfx] at hi; exact List.mem_of_mem_take hi
        | false => rw [hfx] at hi; exact hi
      exact List.mem_range.mp (List.mem_filter.mp this).1
    have hjl : (inL (e.fx mk p) sz).length ≤ 900 := by
      unfold inL
      cases hfx : e.fx mk p with
      | true => exact Nat.le_trans (by simp only [if_true, List.length_take]; omega) hjlen
      | false => exact hjlen
    refine ⟨_, rfl, a, CS, dx, fs, _, rfl, s1 _ _ h1, S.cl, S.nX, hf.x, _, rfl, ?_⟩
    have tail : ∀ {L : Addr} {H2 : Hp}, Same H H2 → H2 L = some (.lst ((inL (e.fx mk p) sz).map (wv ws))) → tailB K CS { nx := fun x H' => Q .non H', rt := Q } [some (.ref a), some (.ref d), some (.int (share : Int)), some (.ref L), none, none, none, none, none] H2 := fun {L H2} s2 eL => by
      have hmany := manyL_le (e.fx mk p) sz
      have hpos : ∀ i ∈ inL (e.fx mk p) sz, 0 < manyL sz (inL (e.fx mk p) sz) := fun i hi => manyL_pos hi
      generalize ejs : inL (e.fx mk p) sz = js at eL hjlt hjl q hmany hpos
      have hxl : (js.map (wv ws)).length = js.length := List.length_map ..
      refine ⟨_, rfl, L, rfl, ⟨_, SqL.of eL⟩, fun D2 nD2 => ?_⟩
      refine lc_list (K := K) (a := L) (xs := js.map (wv ws)) (fun k H' => H' D2 = some (.lst (nv_ ((js.take k).map fun i => sz.getD i 0))) ∧ Same H2 H') ⟨upd_same, same_up nD2⟩ (fun k H' _ z => SqL.of (z.2 _ _ eL)) ?_ ?_
      · rintro k y H3 hk ⟨eD2, s3⟩
        have hkl : k < js.length := by
          rw [← hxl]
          exact (List.getElem?_eq_some_iff.mp hk).1
        have hy : y = wv ws js[k] := by
          rw [List.getElem?_map, List.getElem?_eq_getElem hkl] at hk
          exact (Option.some.inj hk).symm
        subst hy
        obtain ⟨ex, m, hw, sw, hd1, hv1⟩ := kid (s2.trans s3) js[k] (hjlt _ (List.getElem_mem hkl))
        refine ⟨rfl, yes_i ⟨_, ex, mk, _, m, d, kvs, _, rfl, sw, rfl, hd1, hv1, _, eD2, small1000 ?_, ?_, fun b o z => by rw [upd_ne (ne_of_none z nD2)]; exact s3 _ _ z⟩⟩
        · simp only [nv_, List.length_map, List.length_take]
          omega
        · rw [take_succ_get _ k hkl]
          simp only [nv_, List.map_append, List.map_cons, List.map_nil]
          exact upd_same
      · rintro H3 ⟨eD2, s3⟩
        rw [hxl, List.take_length] at eD2
        have hmn : (js.map fun i => ((sz.getD i 0 : Nat) : Int)).sum = ((manyL sz js : Nat) : Int) := sum_cast _ js
        refine ⟨D2, js.map fun i => ((sz.getD i 0 : Nat) : Int), rfl, SqL.of (by rw [eD2, nv_, List.map_map, List.map_map]; rfl), ?_⟩
        rw [hmn]
        refine ⟨Oo.sz (by simp), fun R nR => ?_⟩
        refine ⟨_, rfl, L, rfl, ⟨_, SqL.of (by rw [upd_ne (ne_of_none (s3 _ _ eL) nR)]; exact s3 _ _ eL)⟩, ?_⟩
        have s4 : Same H3 (upd H3 R (.lst [])) := same_up nR
        have sR : Same H (upd H3 R (.lst [])) := (s2.trans s3).trans s4
        have nR0 : H R = none := (s2.trans s3).free nR
        refine for_list (K := K) (a := L) (xs := js.map (wv ws)) (fun k σ H' => ∃ x4 x8 acc, σ = [some (.ref a), some (.ref d), some (.int (share : Int)), some (.ref L), x4, some (.int ((manyL sz js : Nat) : Int)), some (.ref R), some (.int ((partsL share (manyL sz js) sz (js.take k) : Nat) : Int)), x8] ∧ Same H3 H' ∧ H' R = some (.lst acc) ∧ Paired (ShAt ws H') acc (rowsL share (manyL sz js) sz (js.take k) 0)) ⟨none, none, [], rfl, s4, upd_same, .nil⟩ (fun k σ H' _ ⟨_, _, _, _, z, _⟩ => SqL.of (z _ _ (s3 _ _ eL))) ?_ ?_
        · rintro k y σ H4 hk ⟨x4, x8, acc, rfl, s5, eR, pa⟩
          have hkl : k < js.length := by
            rw [← hxl]
            exact (List.getElem?_eq_some_iff.mp hk).1
          have hy : y = wv ws js[k] := by
            rw [List.getElem?_map, List.getElem?_eq_getElem hkl] at hk
            exact (Option.some.inj hk).symm
          subst hy
          have s05 := (s2.trans s3).trans s5
          obtain ⟨ex, m, hw, sw, hd1, hv1⟩ := kid s05 js[k] (hjlt _ (List.getElem_mem hkl))
          obtain ⟨ws', ⟨b, dxb, fsb, vpb, vfb, tw, to', eb, b1, bf, ⟨qp, rfl, b2⟩, b3, b4, b5⟩, hws'⟩ := sw.obj
          have hmp := hpos _ (List.getElem_mem hkl)
          rw [eb] at hw
          have hsz1 : sz.getD js[k] 0 ≤ 1800 := by
            have : sz.getD js[k] 0 ≤ manyL sz js := le_sum (List.mem_map.mpr ⟨_, List.getElem_mem hkl, rfl⟩)
            omega
          rw [eb]
          refine ⟨_, rfl, _, rfl, _, rfl, b, CS, dxb, fsb, _, rfl, b1, S.cl, S.nP, bf.p, d, .int (sz.getD js[k] 0 : Nat), rfl, ?_, _, _, rfl, rfl, mul_small hb (small_nat (by omega)), _, rfl, _, _, rfl, rfl, ⟨by omega, by omega⟩, ?_⟩
          · have := DGet.t (a := d) (b := qp) (k := kp (p ++ [js[k]])) hd1 (by rw [kp_val]; exact b2)
            rwa [hv1] at this
          · have hal : acc.length ≤ 900 := by
              rw [pa.length, rowsL_len, List.length_take]
              omega
            refine ⟨_, rfl, .inl ⟨rfl, _, SqL.of eR⟩, _, rfl, _, rfl, _, rfl, Oo.sz (by simp), fun t nt => ?_⟩
            have st := same_up (o := .tup [V.ref b, .int ((partsL share (manyL sz js) sz (js.take k) : Nat) : Int), .int ((share : Int) * ((sz.getD js[k] 0 : Nat) : Int) / ((manyL sz js : Nat) : Int))]) nt
            have epart : (share : Int) * ((sz.getD js[k] 0 : Nat) : Int) / ((manyL sz js : Nat) : Int) = ((share * sz.getD js[k] 0 / manyL sz js : Nat) : Int) := by
              rw [← Int.natCast_mul, ← Int.natCast_ediv]
            refine ⟨R, acc, _, rfl, rfl, st _ _ eR, small1000 (by omega), ?_⟩
            refine ⟨_, rfl, _, rfl, _, _, rfl, rfl, ?_⟩
            refine ⟨some (.ref b), some (.int ((share : Int) * ((sz.getD js[k] 0 : Nat) : Int) / ((manyL sz js : Nat) : Int))), acc ++ [.ref t], ?_, fun q o z => ?_, upd_same, ?_⟩
            · show [some (V.ref a), some (V.ref d), some (V.int (share : Int)), some (V.ref L), some (V.ref b), some (V.int ((manyL sz js : Nat) : Int)), some (V.ref R), some (V.int (((partsL share (manyL sz js) sz (js.take k) : Nat) : Int) + (share : Int) * ((sz.getD js[k] 0 : Nat) : Int) / ((manyL sz js : Nat) : Int))), some (V.int ((share : Int) * ((sz.getD js[k] 0 : Nat) : Int) / ((manyL sz js : Nat) : Int)))] = _
              rw [take_succ_get _ k hkl, partsL_app, Int.natCast_add, epart]
            · rw [upd_ne (ne_of_none z nR)]
              exact st _ _ (s5 _ _ z)
            · have htR : t ≠ R := fun h => by
                rw [h, eR] at nt
                cases nt
              have keepT : ∀ q xs, H4 q = some (.tup xs) → (upd (upd H4 t (.tup [V.ref b, .int ((partsL share (manyL sz js) sz (js.take k) : Nat) : Int), .int ((share : Int) * ((sz.getD js[k] 0 : Nat) : Int) / ((manyL sz js : Nat) : Int))])) R (.lst (acc ++ [.ref t]))) q = some (.tup xs) := fun q xs z => by
                rw [upd_ne (ne_of z eR fun h => nomatch h)]
                exact st _ _ z
              rw [take_succ_get _ k hkl, rowsL_app]
              refine paired_append (L2.Paired.mapP pa fun u r ⟨q, e1, e2⟩ => ⟨q, e1, keepT _ _ e2⟩) (.cons ⟨t, rfl, ?_⟩ .nil)
              rw [upd_ne htR, Nat.zero_add, eb, ← epart]
              exact upd_same
        · rintro σ H4 ⟨x4, x8, acc, rfl, s5, eR, pa⟩
          rw [hxl, List.take_length] at pa
          exact ⟨_, rfl, q R acc H4 eR nR0 pa ((s2.trans s3).trans s5)⟩
    cases hfx : e.fx mk p with
    | true =>
      refine iteT ?_
      dsimp only [tNoPart]
      refine ⟨_, rfl, 1, rfl, D, _, rfl, SqL.of eD, fun L nL => ?_⟩
      have s2 := s1.trans (same_up (o := .lst (cutV (((List.range sz.length).filter fun i => decide (0 < sz.getD i 0)).map (wv ws)) none (some 1))) nL)
      have eL : upd H1 L (.lst (cutV (((List.range sz.length).filter fun i => decide (0 < sz.getD i 0)).map (wv ws)) none (some 1))) L = some (.lst ((inL (e.fx mk p) sz).map (wv ws))) := by
        rw [upd_same, cut_one, hfx, ← List.map_take]
        rfl
      generalize upd H1 L (.lst (cutV (((List.range sz.length).filter fun i => decide (0 < sz.getD i 0)).map (wv ws)) none (some 1))) = H2 at s2 eL ⊢
      refine tail s2 eL
    | false =>
      refine iteF ?_
      have eL : H1 D = some (.lst ((inL (e.fx mk p) sz).map (wv ws))) := by
        rw [eD, hfx]
        rfl
      refine tail s1 eL
end
end Oo
/-! one level of the descent: the operand that is picked, its part, and the blocks within it -/
namespace Oo
open PySem
theorem range_sz (sz : List Nat) : (List.range sz.length).map (fun i => sz.getD i 0) = sz := by
  refine List.ext_getElem (by simp) fun i h1 h2 => ?_
  simp only [List.getElem_map, List.getElem_range]
  rw [List.getD_eq_getElem?_getD, List.getElem?_eq_getElem h2]
  rfl
theorem sum_pos (f : Nat → Nat) : ∀ l : List Nat, ((l.filter fun i => decide (0 < f i)).map f).sum = (l.map f).sum
  | [] => rfl
  | a :: r => by
    by_cases h : 0 < f a
    · simp only [List.filter_cons, decide_eq_true h, if_true, List.map_cons, List.sum_cons, sum_pos f r]
    · have h0 : f a = 0 := by omega
      rw [List.filter_cons, decide_eq_false h, if_neg (fun z => Bool.noConfusion z : ¬ (false = true)), sum_pos f r, List.map_cons, List.sum_cons, h0, Nat.zero_add]
theorem manyL_all (sz : List Nat) : manyL sz (inL false sz) = sz.sum := by
  unfold manyL inL
  simp only [if_neg (fun z => Bool.noConfusion z : ¬ (false = true))]
  rw [sum_pos, range_sz]
theorem decs_snoc : ∀ (l : List Nat) (f : List Nat → Nat) (p : List Nat) (s : Nat), decs f p (l ++ [s]) = decs (fun x => f (x ++ [s])) p l + (match s with
      | 0 => 0
      | t + 1 => f (p ++ l ++ [t]))
  | [], f, p, 0 => by simp [decs]
  | [], f, p, t + 1 => by simp [decs]
  | 0 :: r, f, p, s => by
    simp only [List.cons_append, decs, decs_snoc r f (p ++ [0]) s, List.append_assoc, List.nil_append]
  | (a + 1) :: r, f, p, s => by
    simp only [List.cons_append, decs, decs_snoc r f (p ++ [a + 1]) s, List.append_assoc, List.nil_append, Nat.add_assoc]
theorem getD_app (a : List Nat) (x : Nat) (b : List Nat) : (a ++ x :: b).getD a.length 0 = x := by
  rw [List.getD_eq_getElem?_getD, get_mid]
  rfl
/-- what is skipped ahead of an operand -/
theorem parts_decs {c own lab : Nat} : ∀ (n : Nat) (a b : List SP), a.length = n → partsL (c * (SP.nd false (a ++ b) own lab).cnt) (SP.szs (a ++ b)).sum (SP.szs (a ++ b)) ((List.range n).filter fun i => decide (0 < (SP.szs (a ++ b)).getD i 0)) = c * SP.cnts (a ++ b) * decs (fun x => mlt (x ++ SP.szs b)) [] (SP.szs a)
  | 0, a, b, h => by
    rw [List.length_eq_zero_iff.mp h]
    simp [partsL, SP.szs, decs]
  | n + 1, a, b, h => by
    rcases List.eq_nil_or_concat a with rfl | ⟨a', k, rfl⟩
    · cases h
    rw [List.concat_eq_append] at h ⊢
    have hl : a'.length = n := by simpa using h
    have ea : a' ++ [k] ++ b = a' ++ k :: b := by simp
    rw [ea]
    have ih := parts_decs (c := c) (own := own) (lab := lab) n a' (k :: b) hl
    have ez : SP.szs (a' ++ k :: b) = SP.szs a' ++ k.sz :: SP.szs b := by rw [SP.szs_app]; simp only [SP.szs]
    have eg : (SP.szs (a' ++ k :: b)).getD n 0 = k.sz := by
      rw [ez]
      have := getD_app (SP.szs a') k.sz (SP.szs b)
      rwa [SP.szs_len, hl] at this
    have es : SP.szs (a' ++ [k]) = SP.szs a' ++ [k.sz] := by rw [SP.szs_app]; simp only [SP.szs]
    rw [List.range_succ, List.filter_append]
    unfold partsL at ih ⊢
    rw [List.map_append, List.sum_append, ih, es, decs_snoc, Nat.mul_add]
    congr 1
    · congr 2
      funext x
      simp only [SP.szs, List.append_assoc, List.singleton_append]
    · cases hk : k.sz with
      | zero =>
        rw [hk] at eg
        simp only [List.filter_cons, eg, Nat.lt_irrefl, decide_false, List.filter_nil]
        simp
      | succ t =>
        rw [hk] at eg
        simp only [List.filter_cons, eg, Nat.succ_pos, decide_true, if_true, List.filter_nil, List.map_cons, List.map_nil, List.sum_cons, List.sum_nil, Nat.add_zero, List.nil_append, List.append_assoc, List.singleton_append]
        have := part_mid (c := c) (a := a') (b := b) (own := own) (lab := lab) hk
        rw [this, Nat.mul_assoc, Nat.mul_assoc, Nat.mul_comm (mlt _)]
/-- one level down -/
theorem desc {c r own lab : Nat} {fx : Bool} {ks : List SP} (h0 : 0 < (SP.szs ks).sum) (hr : r < c * (SP.nd fx ks own lab).cnt) :
    ∃ (i sk part c' : Nat) (h : i < ks.length), (∃ q, (rowsL (c * (SP.nd fx ks own lab).cnt) (manyL (SP.szs ks) (inL fx (SP.szs ks))) (SP.szs ks) (inL fx (SP.szs ks)) 0).filter (fun x => decide (x.2.1 ≤ r)) = q ++ [(i, sk, part)]) ∧ sk ≤ r ∧ r - sk < part ∧ part = c' * ks[i].cnt ∧ 0 < ks[i].sz ∧
      ∀ s k' sk2 sh, Blk c' ks[i] s k' sk2 sh → Blk c (.nd fx ks own lab) s (.nd fx (ks.set i k') own lab) (sk + sk2) sh := by
  have hlen := SP.szs_len ks
  have split : ∀ i, i < ks.length → ∃ a b k, ks = a ++ k :: b ∧ a.length = i := fun i hi => ⟨ks.take i, ks.drop (i + 1), ks[i], by rw [List.getElem_cons_drop, List.take_append_drop], by rw [List.length_take]; omega⟩
  cases fx with
  | false =>
    have ht : partsL (c * (SP.nd false ks own lab).cnt) (manyL (SP.szs ks) (inL false (SP.szs ks))) (SP.szs ks) (inL false (SP.szs ks)) = c * (SP.nd false ks own lab).cnt := by
      have e := parts_decs (c := c) (own := own) (lab := lab) ks.length ks [] rfl
      simp only [List.append_nil, SP.szs] at e
      rw [decs_all h0] at e
      rw [manyL_all]
      have ej : inL false (SP.szs ks) = (List.range ks.length).filter fun i => decide (0 < (SP.szs ks).getD i 0) := by
        unfold inL
        rw [hlen]
        rfl
      rw [ej, e]
      simp only [SP.cnt, if_neg (fun z => Bool.noConfusion z : ¬ (false = true)), Nat.mul_assoc]
      rw [Nat.mul_comm (SP.cnts ks)]
    obtain ⟨pre, i, post, ej, p1, p2, q, hq⟩ := rowsL_pick (share := c * (SP.nd false ks own lab).cnt) (many := manyL (SP.szs ks) (inL false (SP.szs ks))) (sz := SP.szs ks) (r := r) (inL false (SP.szs ks)) 0 (Nat.zero_le _) (by rw [ht, Nat.zero_add]; exact hr)
    have ej2 : (List.range (SP.szs ks).length).filter (fun i => decide (0 < (SP.szs ks).getD i 0)) = pre ++ i :: post := ej
    obtain ⟨hpre, hin⟩ := filt_prefix ej2
    have hpos : 0 < (SP.szs ks).getD i 0 := by
      have : i ∈ (List.range (SP.szs ks).length).filter (fun i => decide (0 < (SP.szs ks).getD i 0)) := ej2 ▸ List.mem_append_right _ (List.mem_cons_self ..)
      exact of_decide_eq_true (List.mem_filter.mp this).2
    rw [hlen] at hin
    obtain ⟨a, b, k, rfl, rfl⟩ := split i hin
    have eg : (SP.szs (a ++ k :: b)).getD a.length 0 = k.sz := by
      have := getD_app (SP.szs a) k.sz (SP.szs b)
      rw [SP.szs_len] at this
      rw [SP.szs_app]
      exact this
    obtain ⟨t, ht2⟩ : ∃ t, k.sz = t + 1 := ⟨k.sz - 1, by omega⟩
    have ek : (a ++ k :: b)[a.length] = k := by simp
    have hsk := parts_decs (c := c) (own := own) (lab := lab) a.length a (k :: b) rfl
    rw [← hpre] at hsk
    rw [manyL_all] at p1 p2 hq ⊢
    rw [eg, ht2] at p2 hq
    rw [part_mid ht2] at p2 hq
    refine ⟨a.length, _, _, c * mlt (SP.szs a ++ t :: SP.szs b) * (SP.cnts a * SP.cnts b), hin, ⟨q, hq⟩, p1, by omega, ?_, by rw [ek]; omega, fun s k' sk2 sh B => ?_⟩
    · rw [ek, SP.cnts_app]
      simp only [SP.cnts, Nat.mul_assoc]
      congr 2
      rw [Nat.mul_comm k.cnt]
    · rw [ek] at B
      have := Blk.open_ (c := c) (own := own) (lab := lab) ht2 B
      rw [Nat.zero_add, hsk]
      have es : (a ++ k :: b).set a.length k' = a ++ k' :: b := by simp
      rw [es]
      have ef : (fun x => mlt (x ++ SP.szs (k :: b))) = fun x => mlt (x ++ (t + 1) :: SP.szs b) := by
        funext x
        simp only [SP.szs, ht2]
      rw [ef]
      exact this
  | true =>
    cases ef : (List.range (SP.szs ks).length).filter (fun i => decide (0 < (SP.szs ks).getD i 0)) with
    | nil =>
      have := manyL_all (SP.szs ks)
      have ej : inL false (SP.szs ks) = [] := ef
      rw [ej] at this
      simp [manyL] at this
      omega
    | cons i post =>
      obtain ⟨hpre, hin⟩ := filt_prefix (pre := []) ef
      have hpos : 0 < (SP.szs ks).getD i 0 := by
        have : i ∈ (List.range (SP.szs ks).length).filter (fun i => decide (0 < (SP.szs ks).getD i 0)) := ef ▸ List.mem_cons_self ..
        exact of_decide_eq_true (List.mem_filter.mp this).2
      have ej : inL true (SP.szs ks) = [i] := by
        unfold inL
        simp only [if_true]
        rw [ef]
        rfl
      rw [hlen] at hin
      obtain ⟨a, b, k, rfl, rfl⟩ := split i hin
      have eg : (SP.szs (a ++ k :: b)).getD a.length 0 = k.sz := by
        have := getD_app (SP.szs a) k.sz (SP.szs b)
        rw [SP.szs_len] at this
        rw [SP.szs_app]
        exact this
      have hk : 0 < k.sz := by omega
      have ek : (a ++ k :: b)[a.length] = k := by simp
      have hz : (SP.szs a).sum = 0 := by
        have e1 := range_sz (SP.szs a)
        rw [← e1]
        have h1 : ∀ j ∈ List.range (SP.szs a).length, (SP.szs a).getD j 0 = 0 := fun j hj => by
          have hj2 := List.mem_range.mp hj
          rw [SP.szs_len] at hj2
          have hn : j ∉ (List.range a.length).filter (fun i => decide (0 < (SP.szs (a ++ k :: b)).getD i 0)) := by
            rw [← hpre]
            exact List.not_mem_nil
          have h2 : (SP.szs (a ++ k :: b)).getD j 0 = (SP.szs a).getD j 0 := by
            rw [SP.szs_app, List.getD_eq_getElem?_getD, List.getElem?_append_left (by rw [SP.szs_len]; exact hj2), ← List.getD_eq_getElem?_getD]
          rw [← h2]
          refine Nat.eq_zero_of_not_pos fun h3 => hn (List.mem_filter.mpr ⟨List.mem_range.mpr hj2, decide_eq_true h3⟩)
        rw [List.map_congr_left h1]
        generalize List.range (SP.szs a).length = l
        induction l with
        | nil => rfl
        | cons x l ih => simp only [List.map_cons, List.sum_cons, ih]
      have hs : c * (SP.nd true (a ++ k :: b) own lab).cnt * k.sz / k.sz = c * (SP.nd true (a ++ k :: b) own lab).cnt := Nat.mul_div_cancel _ hk
      have hc : c * (SP.nd true (a ++ k :: b) own lab).cnt = c * SP.cnts b * k.cnt := by
        obtain ⟨z1, _⟩ := SP.zeros a hz
        simp only [SP.cnt, if_true, Nat.one_mul, SP.cnts_app, z1, SP.cnts, Nat.mul_assoc]
        rw [Nat.mul_comm k.cnt]
      have hm : manyL (SP.szs (a ++ k :: b)) [a.length] = k.sz := by
        simp only [manyL, List.map_cons, List.map_nil, List.sum_cons, List.sum_nil, Nat.add_zero, eg]
      refine ⟨a.length, 0, c * (SP.nd true (a ++ k :: b) own lab).cnt, c * SP.cnts b, hin, ⟨[], ?_⟩, Nat.zero_le _, by omega, by rw [ek]; exact hc, by rw [ek]; exact hk, fun s k' sk2 sh B => ?_⟩
      · rw [ej, hm]
        simp only [rowsL, eg, hs, List.filter_cons, Nat.zero_le, decide_true, if_true, List.filter_nil, List.nil_append]
      · rw [ek] at B
        have es : (a ++ k :: b).set a.length k' = a ++ k' :: b := by simp
        rw [es, Nat.zero_add]
        exact (Blk.fix hz hk B).1
end Oo
/-! the descent over a task's nodes -/
namespace Oo
open PySem
def kidsT (x : Trip) : List Trip := skids x.2.1.ops x.1 0 x.2.2
def resT (mk : List (List Nat)) (D : Dn) (x : Trip) : SP := x.2.1.res mk D x.1 x.2.2
abbrev undX (D : Dn) (x : Trip) : Nat := und D x.2.2 x.2.1.steps
theorem skids_spns : ∀ (os : List Ex) (p : List Nat) (a n : Nat), ∀ y ∈ skids os p a n, y ∈ Ex.spns os p a n
  | [], p, a, n, y, h => by cases h
  | e :: r, p, a, n, y, h => by
    rcases List.mem_cons.mp (show y ∈ (p ++ [a], e, n) :: skids r p (a + 1) (n + e.steps) from h) with rfl | h
    · refine List.mem_append_left _ ?_
      cases e with
      | num c => exact List.mem_cons_self ..
      | nd k os => exact List.mem_cons_self ..
    · exact List.mem_append_right _ (skids_spns r p (a + 1) (n + e.steps) y h)
theorem kids_sub (x : Trip) : ∀ y ∈ kidsT x, y ∈ x.2.1.spn x.1 x.2.2 := by
  obtain ⟨p, e, n⟩ := x
  cases e with
  | num c => exact fun y h => by cases h
  | nd k os => exact fun y h => List.mem_cons_of_mem _ (skids_spns os p 0 n y h)
mutual
theorem spn_sub : ∀ (e : Ex) (p : List Nat) (n : Nat), ∀ x ∈ e.spn p n, ∀ y ∈ x.2.1.spn x.1 x.2.2, y ∈ e.spn p n
  | .num c, p, n, x, hx, y, hy => by
    simp only [Ex.spn, List.mem_singleton] at hx
    subst hx
    exact hy
  | .nd k os, p, n, x, hx, y, hy => by
    rcases List.mem_cons.mp (show x ∈ (p, Ex.nd k os, n) :: Ex.spns os p 0 n from hx) with rfl | hx
    · exact hy
    · exact List.mem_cons_of_mem _ (spns_sub os p 0 n x hx y hy)
theorem spns_sub : ∀ (os : List Ex) (p : List Nat) (a n : Nat), ∀ x ∈ Ex.spns os p a n, ∀ y ∈ x.2.1.spn x.1 x.2.2, y ∈ Ex.spns os p a n
  | [], p, a, n, x, hx, _, _ => by cases hx
  | e :: r, p, a, n, x, hx, y, hy => by
    rcases List.mem_append.mp (show x ∈ e.spn (p ++ [a]) n ++ Ex.spns r p (a + 1) (n + e.steps) from hx) with hx | hx
    · exact List.mem_append_left _ (spn_sub e (p ++ [a]) n x hx y hy)
    · exact List.mem_append_right _ (spns_sub r p (a + 1) (n + e.steps) x hx y hy)
end
theorem kid_mem {e : Ex} {p : List Nat} {n : Nat} {x y : Trip} (hx : x ∈ e.spn p n) (hy : y ∈ kidsT x) : y ∈ e.spn p n := spn_sub e p n x hx y (kids_sub x y hy)
theorem ress_kids (mk : List (List Nat)) (D : Dn) : ∀ (os : List Ex) (p : List Nat) (a n : Nat), Ex.ress mk D os p a n = (skids os p a n).map (resT mk D)
  | [], p, a, n => rfl
  | e :: r, p, a, n => by
    simp only [Ex.ress, skids, List.map_cons, ress_kids mk D r p (a + 1) (n + e.steps)]
    rfl
theorem kids_szs (mk : List (List Nat)) (D : Dn) (x : Trip) : SP.szs ((kidsT x).map (resT mk D)) = (kidsT x).map (undX D) := by
  unfold kidsT
  rw [← ress_kids, ress_szs]
theorem skids_get : ∀ (os : List Ex) (p : List Nat) (a n i : Nat) (h : i < os.length), (skids os p a n)[i]? = some (p ++ [a + i], os[i], n + Ex.stepss (os.take i))
  | [], p, a, n, i, h => by cases h
  | e :: r, p, a, n, 0, h => by simp [skids, Ex.stepss]
  | e :: r, p, a, n, i + 1, h => by
    have := skids_get r p (a + 1) (n + e.steps) i (by simpa using h)
    simp only [skids, List.getElem?_cons_succ, this, List.getElem_cons_succ, List.take_succ_cons, Ex.stepss]
    rw [Nat.add_assoc a, Nat.add_comm 1 i, Nat.add_assoc n]
/-- one level down, among the nodes -/
theorem descT {mk : List (List Nat)} {D : Dn} {x : Trip} {c r : Nat} (h0 : 0 < ((kidsT x).map (undX D)).sum) (hr : r < c * (resT mk D x).cnt) :
    ∃ (i sk part c' : Nat) (y : Trip), (kidsT x)[i]? = some y ∧ (∃ q, (rowsL (c * (resT mk D x).cnt) (manyL ((kidsT x).map (undX D)) (inL (x.2.1.fx mk x.1) ((kidsT x).map (undX D)))) ((kidsT x).map (undX D)) (inL (x.2.1.fx mk x.1) ((kidsT x).map (undX D))) 0).filter (fun z => decide (z.2.1 ≤ r)) = q ++ [(i, sk, part)]) ∧ sk ≤ r ∧ r - sk < part ∧ part = c' * (resT mk D y).cnt ∧ 0 < undX D y ∧
      ∀ s T' sk2 sh, Blk c' (resT mk D y) s T' sk2 sh → ∃ T'', Blk c (resT mk D x) s T'' (sk + sk2) sh := by
  obtain ⟨p, e, n⟩ := x
  cases e with
  | num v => simp [kidsT, skids, Ex.ops] at h0
  | nd k os =>
    have ek : Ex.ress mk D os p 0 n = (kidsT (p, .nd k os, n)).map (resT mk D) := ress_kids mk D os p 0 n
    have e1 : resT mk D (p, .nd k os, n) = .nd (k.fixd || decide (p ∈ mk)) ((kidsT (p, .nd k os, n)).map (resT mk D)) (und D (n + Ex.stepss os) k.steps) (n + Ex.stepss os + (k.steps - und D (n + Ex.stepss os) k.steps)) := by
      rw [← ek]
      rfl
    rw [e1] at hr
    rw [← kids_szs mk] at h0
    obtain ⟨i, sk, part, c', h, hq, h1, h2, h3, h4, h5⟩ := desc h0 hr
    rw [List.length_map] at h
    refine ⟨i, sk, part, c', (kidsT (p, .nd k os, n))[i], List.getElem?_eq_getElem h, ?_, h1, h2, ?_⟩
    · rw [e1, ← kids_szs mk]
      exact hq
    · refine ⟨by rw [h3, List.getElem_map], ?_, fun s T' sk2 sh B => ?_⟩
      · rw [List.getElem_map] at h4
        have : (resT mk D (kidsT (p, .nd k os, n))[i]).sz = undX D (kidsT (p, .nd k os, n))[i] := res_sz ..
        omega
      rw [e1]
      refine ⟨_, h5 s T' sk2 sh ?_⟩
      rw [List.getElem_map]
      exact B
theorem rowsL_part {share many : Nat} {sz : List Nat} {x : Nat × Nat × Nat} : ∀ {js : List Nat} {sk : Nat}, x ∈ rowsL share many sz js sk → x.1 ∈ js ∧ x.2.2 = share * sz.getD x.1 0 / many
  | [], sk, h => by cases h
  | i :: r, sk, h => by
    rcases List.mem_cons.mp (show x ∈ (i, sk, share * sz.getD i 0 / many) :: rowsL share many sz r (sk + share * sz.getD i 0 / many) from h) with rfl | h
    · exact ⟨List.mem_cons_self .., rfl⟩
    · obtain ⟨h1, h2⟩ := rowsL_part h
      exact ⟨List.mem_cons_of_mem _ h1, h2⟩
theorem mem_le_sum : ∀ {l : List Nat} {x : Nat}, x ∈ l → x ≤ l.sum
  | [], x, h => by cases h
  | a :: r, x, h => by
    rcases List.mem_cons.mp h with rfl | h
    · simp only [List.sum_cons]
      omega
    · have := mem_le_sum h
      simp only [List.sum_cons]
      omega
theorem part_le {share : Nat} {sz : List Nat} {js : List Nat} {x : Nat × Nat × Nat} {sk : Nat} (h : x ∈ rowsL share (manyL sz js) sz js sk) : x.2.2 ≤ share := by
  obtain ⟨h1, h2⟩ := rowsL_part h
  rw [h2]
  refine Nat.div_le_of_le_mul ?_
  rw [Nat.mul_comm]
  exact Nat.mul_le_mul_right _ (mem_le_sum (List.mem_map.mpr ⟨_, h1, rfl⟩))
theorem rows_none {fx : Bool} {sz : List Nat} (h : sz.sum = 0) : inL fx sz = [] := by
  have e : (List.range sz.length).filter (fun i => decide (0 < sz.getD i 0)) = [] := by
    refine List.filter_eq_nil_iff.mpr fun i hi => ?_
    have : sz.getD i 0 ≤ sz.sum := by
      conv => rhs; rw [← range_sz sz]
      exact mem_le_sum (List.mem_map.mpr ⟨i, hi, rfl⟩)
    rw [decide_eq_false (by omega)]
    exact Bool.noConfusion
  unfold inL
  rw [e]
  cases fx <;> rfl
theorem kids_sum (D : Dn) (x : Trip) : ((kidsT x).map (undX D)).sum ≤ x.2.1.steps := by
  have h := ress_sz [] D x.2.1.ops x.1 0 x.2.2
  rw [ress_kids] at h
  have h2 := kids_szs [] D x
  unfold kidsT at h2 ⊢
  rw [← h2, h]
  have := und_le D x.2.2 (Ex.stepss x.2.1.ops)
  have := opsteps_le x.2.1
  omega
/-- the bottom: only own steps are left -/
theorem baseT {mk : List (List Nat)} {D : Dn} {x : Trip} {c : Nat} (h0 : ((kidsT x).map (undX D)).sum = 0) (hp : 0 < undX D x) : undX D x ≤ x.2.1.own ∧ (∃ T', Blk c (resT mk D x) (x.2.2 + Ex.stepss x.2.1.ops + (x.2.1.own - undX D x)) T' 0 c) ∧ (resT mk D x).cnt = 1 := by
  obtain ⟨p, e, n⟩ := x
  cases e with
  | num v => simp [Ex.steps, und] at hp
  | nd k os =>
    have ek : Ex.ress mk D os p 0 n = (kidsT (p, .nd k os, n)).map (resT mk D) := ress_kids mk D os p 0 n
    have hz : (SP.szs (Ex.ress mk D os p 0 n)).sum = 0 := by
      rw [ek, kids_szs]
      exact h0
    have hz2 : und D n (Ex.stepss os) = 0 := by rw [← ress_sz mk D os p 0 n]; exact hz
    have hu : undX D (p, Ex.nd k os, n) = und D (n + Ex.stepss os) k.steps := by
      simp only [undX, Ex.steps]
      rw [Nat.add_comm k.steps, und_add, hz2, Nat.zero_add]
    have hown : (Ex.nd k os).own = k.steps := rfl
    rw [hu] at hp ⊢
    obtain ⟨o, ho⟩ : ∃ o, und D (n + Ex.stepss os) k.steps = o + 1 := ⟨und D (n + Ex.stepss os) k.steps - 1, by omega⟩
    have hle := und_le D (n + Ex.stepss os) k.steps
    have B := Blk.own c (k.fixd || decide (p ∈ mk)) (Ex.ress mk D os p 0 n) o (n + Ex.stepss os + (k.steps - (o + 1))) hz
    have e1 : resT mk D (p, .nd k os, n) = .nd (k.fixd || decide (p ∈ mk)) (Ex.ress mk D os p 0 n) (o + 1) (n + Ex.stepss os + (k.steps - (o + 1))) := by
      show Ex.res mk D (.nd k os) p n = _
      simp only [Ex.res, ho]
    rw [e1]
    rw [ho] at hle
    refine ⟨by rw [ho]; exact hle, ⟨.nd (k.fixd || decide (p ∈ mk)) (Ex.ress mk D os p 0 n) o (n + Ex.stepss os + (k.steps - (o + 1)) + 1), ?_⟩, B.2⟩
    rw [hown, ho]
    exact B.1
/-- what is left once the step at the bottom is done -/
theorem rootT {mk : List (List Nat)} {D : Dn} {e : Ex} {s sk sh : Nat} {T' : SP} (g : e.grd = false) (hd : Down (e.prec mk [] 0) D) (B : Blk 1 (e.res mk D [] 0) s T' sk sh) : T' = e.res mk (D.put s) [] 0 ∧ s < e.steps ∧ D s = false ∧ Down (e.prec mk [] 0) (D.put s) := by
  obtain ⟨pre, post, e1, _, _⟩ := B
  rw [res_nxt e [] 0 g hd] at e1
  have hm : (s, T') ∈ (rdy (e.prec mk [] 0) D 0 e.steps).map fun s => (s, e.res mk (D.put s) [] 0) := e1 ▸ List.mem_append_right _ (List.mem_cons_self ..)
  obtain ⟨s', hs, h⟩ := List.mem_map.mp hm
  obtain ⟨rfl, rfl⟩ := Prod.mk.inj h
  obtain ⟨h1, h2⟩ := List.mem_filter.mp hs
  rw [List.mem_range'_1] at h1
  exact ⟨rfl, by omega, (rdy_iff.mp h2).1, down_put (n := 0) (m := e.steps) (fun i j hp => by have := prec_rng _ _ _ _ _ hp; omega) hd h2⟩
end Oo
/-! orders: order_at -/
namespace Oo
open PySem L2 PyProof.Rows LamX StX ClX
abbrev sOrdAt : Stmt := top 66
section
variable {P : Program} {w : World} {K : PySem.W.Frag} {mg : Str → Option Value} {base : Heap} {X : Cx}
def spOrdAt (K : PySem.W.Frag) (CF CB CT CS CL : Addr) : Sp := fun vs H Q _ => ∃ (v : V) (fns : List Fn) (e : Ex) (mk : List (List Nat)) (ps : List Str) (n : Nat) (o : List Nat), vs = [v, .int (n : Int)] ∧ TaskAt K CF CB CT CS CL H v fns e mk ∧ KitW ps fns ∧ ExW ps fns e ∧ e.grd = false ∧ e.nodes ≤ 900 ∧ (ords e.steps (e.res mk D0 [] 0))[n]? = some o ∧ ∀ (t : Addr) (H' : Hp), H' t = some (.tup (pv_ o)) → H t = none → Same H H' → Q (.ref t) H'
def ttRowO : TT := fun σ H Q => ∃ (q : Addr) (u : V) (sk part r : Nat), σ[9]? = some (some (.ref q)) ∧ H q = some (.tup [u, .int (sk : Int), .int (part : Int)]) ∧ σ[5]? = some (some (.int (r : Int))) ∧ Q (decide (sk ≤ r)) H
theorem scOrdAt : FnScope ["task", "number", "total", "left", "share", "rest", "order", "span", "below", "row", "skipped"] ["task", "number"] (defScope sOrdAt) := ⟨rfl, rfl, rfl, by decide +kernel, rfl, by decide +kernel, by decide +kernel⟩
theorem ok_ordat {CF CB CT CS CL f fi fc ff fs_ fo ft fl : Addr} {fd fdi fdc fdf fds fdo fdt fdl : FuncData} {mc : Value} (F : Fun K "order_at" "order_at" sOrdAt f fd) (T : TxT K CT mc) (L : TxL K CL) (S : TxS K CS) (ml : mg "len" = none) (mt : mg "tuple" = none)
    (GI : FnOk P w K mg base CX0 1 fi fdi ["value"] spIsInt) (kI : PySem.W.keepIn K (.ref fi) = true) (bI : Binds K fdi ["value"] []) (mI : mg "is_integer" = some (.ref fi))
    (GC : FnOk P w K mg base CX0 2 fc fdc ["task"] (spCount K CF CB CT CS CL)) (kC : PySem.W.keepIn K (.ref fc) = true) (bC : Binds K fdc ["task"] []) (mC : mg "count_orders" = some (.ref fc))
    (GF : FnOk P w K mg base CX0 1 ff fdf ["task"] (spLeft K CF CB CT CS CL)) (kF : PySem.W.keepIn K (.ref ff) = true) (bF : Binds K fdf ["task"] []) (mF : mg "steps_left" = some (.ref ff))
    (GSh : FnOk P w K mg base CX0 1 fs_ fds ["span", "left", "share"] (spShares CS)) (kSh : PySem.W.keepIn K (.ref fs_) = true) (bSh : Binds K fds ["span", "left", "share"] []) (mSh : mg "shares" = some (.ref fs_))
    (GO : FnOk P w K mg base CX0 1 fo fdo ["span", "left"] (spOwnL CS)) (kO : PySem.W.keepIn K (.ref fo) = true) (bO : Binds K fdo ["span", "left"] []) (mO : mg "own_left" = some (.ref fo))
    (GT : FnOk P w K mg base CX0 1 ft fdt ["task", "step", "left"] (spTakeS K CF CB CT CS CL)) (kT : PySem.W.keepIn K (.ref ft) = true) (bT : Binds K fdt ["task", "step", "left"] []) (mT : mg "take" = some (.ref ft))
    (GLen : FnOk P w K mg base CX0 1 fl fdl ["self"] (spTLen K CF CB CT CS CL)) (DLen : Dun K CT "__len__" fl) (bLen : Binds K fdl ["self"] []) : FnOk P w K mg base CX0 3 f fd ["task", "number"] (spOrdAt K CF CB CT CS CL) := by
  refine F.ok scOrdAt (fun vs H Q E h => ?_) (fun cdv A outer s H vs Q E hr h => ?_)
  · obtain ⟨v, fns, e, mk, ps, n, o, rfl, _⟩ := h
    rfl
  obtain ⟨v, fns, e, mk, ps, n, o, rfl, hT, kw, ew, g, hn, ho, q⟩ := h
  have hr3 : Room 1 _ := hr.mono (by decide)
  refine ⟨_, (pss_cons (ps_set (i := 2) scOrdAt.nd rfl (.inl rfl) (pe_call GC hr rfl mC kC bC .nil pass0 (pa_cons (pv 0) pa_nil)))
    (pss_cons (ps_if (PW.pt (pw_or (pt_not (pt_val (pe_call GI hr3 rfl mI kI bI .nil pass0 (pa_cons (pv 1) pa_nil)))) (pw_or1 (pt_not (pt_chain op_le op_lt pe_int (pv 1) (pv 2)))))) (pss_one ps_never) pss_nil)
    (pss_cons (ps_set (i := 3) scOrdAt.nd rfl (.inl rfl) (pe_call GF hr3 rfl mF kF bF .nil pass0 (pa_cons (pv 0) pa_nil)))
    (pss_cons (ps_asg (pe_tup (pa_cons (pv 2) (pa_cons (pv 1) pa_nil))) (pg_tup rfl (pgs_cons (pg_name (i := 4) scOrdAt.nd rfl (Or.inl rfl)) (pgs_cons (pg_name (i := 5) scOrdAt.nd rfl (Or.inr rfl)) pgs_nil))))
    (pss_cons (ps_set (i := 6) scOrdAt.nd rfl (.inl rfl) (pe_lst pa_nil))
    (pss_cons (ps_while PassesOwn.never (pt_cmpR op_lt (pe_callB call_len_seq (by rfl) ml PySem.boot_len (pa_cons (pv 6) pa_nil)) (pe_callB (call_lenO GLen hr DLen bLen pass0) (by rfl) ml PySem.boot_len (pa_cons (pv 0) pa_nil)) (nomark _)) (pss_cons (ps_set (i := 7) scOrdAt.nd rfl (.inl rfl) (pe_fld (pe_fld (pv 0) rfl) rfl))
    (pss_cons (ps_set (i := 8) scOrdAt.nd rfl (.inl rfl) (pe_call GSh hr3 rfl mSh kSh bSh .nil pass0 (pa_cons (pv 7) (pa_cons (pv 3) (pa_cons (pv 4) pa_nil)))))
    (pss_cons (ps_while PassesOwn.never (pt_cmpR op_gt (pe_callB call_len_seq (by rfl) ml PySem.boot_len (pa_cons (pv 8) pa_nil)) pe_int (nomark _)) (pss_cons (ps_asg (pe_ix ix_list (pe_lc (own := [("row", 9)]) (g := gName 9) (by rfl) scOrdAt.nd (pi_list (pv 8)) (blkOk_by (own := [("row", 9)]) (N := ["task", "number", "total", "left", "share", "rest", "order", "span", "below", "row", "skipped"]) (sc := defScope sOrdAt) (by decide +kernel)) (fun _ _ _ _ _ => (pg_name (i := 9) scOrdAt.nd rfl (Or.inl rfl))) (fun _ _ _ _ _ => (pts_one (pt_as (t' := ttRowO) (pt_cmpR op_le (pe_ix ix_tup (pv 9) pe_int (fun _ _ => rfl)) (pv 5) (nomark _)) ?c1))) (fun _ _ _ _ _ => (pv 9))) (pe_un un_neg pe_int) (fun _ _ => rfl)) (pg_tup rfl (pgs_cons (pg_name (i := 7) scOrdAt.nd rfl (Or.inl rfl)) (pgs_cons (pg_name (i := 10) scOrdAt.nd rfl (Or.inl rfl)) (pgs_cons (pg_name (i := 4) scOrdAt.nd rfl (Or.inl rfl)) pgs_nil)))))
    (pss_cons (ps_aug (i := 5) scOrdAt.nd rfl (.inr rfl) (pv 10) iop_sub)
    (pss_one (ps_set (i := 8) scOrdAt.nd rfl (.inl rfl) (pe_call GSh hr3 rfl mSh kSh bSh .nil pass0 (pa_cons (pv 7) (pa_cons (pv 3) (pa_cons (pv 4) pa_nil)))))))))
    (pss_cons (ps_expr (pe_bm PySem.F.plainAttrs_list PySem.F.slot_list_append PySem.F.type_list_append mt_append (pv 6) (pa_cons (pe_call GO hr3 rfl mO kO bO .nil pass0 (pa_cons (pv 7) (pa_cons (pv 3) pa_nil))) pa_nil)))
    (pss_one (ps_expr (pe_call GT hr3 rfl mT kT bT .nil pass0 (pa_cons (pv 0) (pa_cons (pe_ix ix_list (pv 6) (pe_un un_neg pe_int) (fun _ _ => rfl)) (pa_cons (pv 3) pa_nil)))))))))))
    (pss_one (ps_ret (pe_tupleOf (by rfl) mt (pv 6)))))))))), ?_⟩
  case c1 =>
    rintro σ H Q ⟨q0, u, sk, part, r, e9, hq, e5, q⟩
    refine ⟨_, e9, q0, _, _, _, rfl, rfl, SqT.of hq, (rfl : atI [u, .int (sk : Int), .int (part : Int)] 1 = some (.int (sk : Int))), _, e5, _, _, rfl, rfl, _, rfl, ?_⟩
    have e : decide ((sk : Int) ≤ (r : Int)) = decide (sk ≤ r) := by
      by_cases h : sk ≤ r
      · rw [decide_eq_true h, decide_eq_true (by omega)]
      · rw [decide_eq_false h, decide_eq_false (by omega)]
    rw [e]
    exact q
  have hst := steps_le e
  have hsz : (e.res mk D0 [] 0).sz = e.steps := by rw [res_sz, und_D0]
  have hlen := ords_len e.steps (e.res mk D0 [] 0) hsz
  have hnlt : n < (e.res mk D0 [] 0).cnt := by
    have := (List.getElem?_eq_some_iff.mp ho).1
    omega
  have hcb : ∀ D, (e.res mk D [] 0).cnt ≤ bigN := fun D => by
    have h1 := cnt_le (e.res mk D [] 0)
    rw [res_sz] at h1
    have h2 := und_le D 0 e.steps
    exact Nat.le_trans h1 (fact_small (by omega))
  have hdown0 : Down (e.prec mk [] 0) D0 := fun i j _ h => by cases h
  obtain ⟨p, dx, fs, a, dxl, fsl, vr, tsp, tow, tst, tb, te, vg, rsp, row, rst, rb, re, rfl, h1, l1, g1, g2⟩ := hT.lay
  refine ⟨_, rfl, _, fns, e, mk, rfl, hT, g, hn, fun H1 s1 => ?_⟩
  refine ⟨_, rfl, .inl ⟨(n : Int), rfl, true, rfl, iteF ?_⟩⟩
  refine ⟨_, rfl, _, _, rfl, rfl, _, rfl, iteYes (by omega) ⟨_, rfl, _, _, rfl, rfl, _, rfl, ?_⟩⟩
  rw [decide_eq_true (show (n : Int) < (((e.res mk D0 [] 0).cnt : Nat) : Int) by omega)]
  refine iteF ⟨_, rfl, _, fns, e, mk, rfl, hT.keep s1, hn, fun d H2 nd hl2 s2 => ?_⟩
  have s02 := s1.trans s2
  refine ⟨_, rfl, _, rfl, Oo.sz (by simp), fun t0 nt0 => ?_⟩
  have s3 := same_up (o := .tup [V.int (((e.res mk D0 [] 0).cnt : Nat) : Int), .int (n : Int)]) nt0
  have s03 := s02.trans s3
  refine ⟨t0, _, rfl, SqT.of upd_same, rfl, _, _, rfl, _, _, rfl, rfl, ?_⟩
  generalize upd H2 t0 (.tup [V.int (((e.res mk D0 [] 0).cnt : Nat) : Int), .int (n : Int)]) = H3 at s3 s03 ⊢
  refine ⟨Oo.sz (by simp), fun R nR => ?_⟩
  have s4 := same_up (o := .lst []) nR
  have hol : o.length = e.steps := by
    have := List.mem_of_getElem? ho
    rw [ords_res g _ _ hdown0] at this
    exact (ordsD_mem _ _ _ this).1
  refine ⟨fun m σ H' => ∃ (D : Dn) (o1 o2 : List Nat) (x7 x8 x9 x10 : Option V) (r : Nat), σ = [some (.ref p), some (.int (n : Int)), some (.int (((e.res mk D0 [] 0).cnt : Nat) : Int)), some (.ref d), some (.int (((e.res mk D [] 0).cnt : Nat) : Int)), some (.int (r : Int)), some (.ref R), x7, x8, x9, x10] ∧ m = o2.length ∧ o = o1 ++ o2 ∧ und D 0 e.steps = o2.length ∧ Down (e.prec mk [] 0) D ∧ (ords o2.length (e.res mk D [] 0))[r]? = some o2 ∧ H' R = some (.lst (nv_ o1)) ∧ LeftAt H' d e (undT D) ∧ Same H H',
    ⟨_, D0, [], o, none, none, none, none, n, rfl, rfl, rfl, by rw [und_D0, hol], hdown0, by rw [hol]; exact ho, upd_same, (hl2.keep s3).keep s4, s03.trans s4⟩, ?_⟩
  rintro m σ H4 ⟨D, o1, o2, x7, x8, x9, x10, r, rfl, rfl, eo, hund, hdown, hor, eR, hl4, s04⟩
  have ho1 : o1.length + o2.length = e.steps := by rw [← hol, eo, List.length_append]
  have h1' := s04 _ _ h1
  have hT4 := hT.keep s04
  refine ⟨_, rfl, R, _, rfl, .inl (SqL.of eR), _, rfl, p, dx, fs, rfl, h1', _, fns, e, mk, ps, rfl, hT4, kw, ew, e.steps, rfl, by omega, _, _, rfl, rfl, _, rfl, ?_⟩
  have hnv : (nv_ o1).length = o1.length := List.length_map ..
  by_cases hk : o2.length = 0
  · have : o2 = [] := List.length_eq_zero_iff.mp hk
    subst this
    rw [List.append_nil] at eo
    subst eo
    refine iteNo (by rw [hnv]; omega) ⟨_, rfl, .inl ⟨R, _, rfl, SqL.of eR, fun t nt => ?_⟩⟩
    exact q t _ upd_same (s04.free nt) (s04.trans (same_up nt))
  refine iteYes (by rw [hnv]; omega) ?_
  refine ⟨fun σ' H' => ∃ m', m' < o2.length ∧ ∃ (D : Dn) (o1 o2 : List Nat) (x7 x8 x9 x10 : Option V) (r : Nat), σ' = [some (.ref p), some (.int (n : Int)), some (.int (((e.res mk D0 [] 0).cnt : Nat) : Int)), some (.ref d), some (.int (((e.res mk D [] 0).cnt : Nat) : Int)), some (.int (r : Int)), some (.ref R), x7, x8, x9, x10] ∧ m' = o2.length ∧ o = o1 ++ o2 ∧ und D 0 e.steps = o2.length ∧ Down (e.prec mk [] 0) D ∧ (ords o2.length (e.res mk D [] 0))[r]? = some o2 ∧ H' R = some (.lst (nv_ o1)) ∧ LeftAt H' d e (undT D) ∧ Same H H', fun σ' H' h => h, ?_⟩
  have hroot : ([], e, 0) ∈ e.spn [] 0 := by
    cases e with
    | num c => exact List.mem_cons_self ..
    | nd k os => exact List.mem_cons_self ..
  have hs4 : SpanAt CS mk H4 e [] 0 vr := g2.r.keep (KI.same s04) _ _ _ _
  have kidsAt : ∀ {H' : Hp} {x : Trip}, LeftAt H' d e (undT D) → x ∈ e.spn [] 0 → ∃ kvs, H' d = some (.dT kvs) ∧ KidsAt kvs x.1 ((kidsT x).map (undX D)) ∧ valV kvs (kp x.1) = some (.int (undX D x : Nat)) := fun {H' x} hl hx => by
    obtain ⟨kvs, z1, z2, z3⟩ := hl
    refine ⟨kvs, z1, fun i hi => ?_, z3 x hx⟩
    rw [List.length_map] at hi
    have hop : i < x.2.1.ops.length := by
      have : (kidsT x).length = x.2.1.ops.length := skids_len ..
      omega
    have hy := skids_get x.2.1.ops x.1 0 x.2.2 i hop
    have hm := kid_mem hx (List.mem_of_getElem? hy)
    have := z3 _ hm
    rw [Nat.zero_add] at this
    rw [List.getD_eq_getElem?_getD, List.getElem?_map, show (kidsT x)[i]? = _ from hy]
    rw [Nat.zero_add]
    exact this
  refine ⟨_, rfl, p, CT, dx, fs, _, rfl, h1', T.cl, T.nL, l1, a, CL, dxl, fsl, _, rfl, s04 _ _ g1, L.cl, L.nR, g2.f.r, ?_⟩
  have hnd : ∀ x ∈ e.spn [] 0, x.2.1.nodes ≤ 900 := fun x hx => Nat.le_trans (spn_nodes e [] 0 x hx) hn
  have hkl : ∀ x : Trip, ((kidsT x).map (undX D)).length = x.2.1.ops.length := fun x => by rw [List.length_map]; exact skids_len ..
  have hks : ∀ x ∈ e.spn [] 0, ((kidsT x).map (undX D)).sum ≤ 1800 := fun x hx => by
    have h1 := kids_sum D x
    have h2 := (spn_in e [] 0 x hx).2
    omega
  obtain ⟨ws, hob, hsp⟩ := hs4.obj
  obtain ⟨kvs, hd1, hk1, _⟩ := kidsAt hl4 hroot
  refine ⟨_, rfl, _, rfl, _, rfl, vr, d, e, mk, [], 0, _, kvs, _, ws, rfl, hob, hsp, hd1, hkl ([], e, 0), hk1, hks _ hroot, hn, hcb D, fun l acc H5 el nl pa s5 => ?_⟩
  have hrlt : r < (e.res mk D [] 0).cnt := by
    have h1 := (List.getElem?_eq_some_iff.mp hor).1
    have h2 := ords_len o2.length (e.res mk D [] 0) (by rw [res_sz]; exact hund)
    omega
  refine ⟨fun m σ H' => ∃ (x : Trip) (vx : V) (c r' A : Nat) (x9 x10 : Option V) (l : Addr) (acc ws : List V), σ = [some (.ref p), some (.int (n : Int)), some (.int (((e.res mk D0 [] 0).cnt : Nat) : Int)), some (.ref d), some (.int ((c * (resT mk D x).cnt : Nat) : Int)), some (.int (r' : Int)), some (.ref R), some vx, some (.ref l), x9, x10] ∧ m = x.2.1.nodes ∧ x ∈ e.spn [] 0 ∧ 0 < undX D x ∧ r = A + r' ∧ r' < c * (resT mk D x).cnt ∧ c * (resT mk D x).cnt ≤ bigN ∧
      (∀ s T' sk sh, Blk c (resT mk D x) s T' sk sh → ∃ T'', Blk 1 (e.res mk D [] 0) s T'' (A + sk) sh) ∧ SpanObj CS mk H' x.2.1 x.1 x.2.2 vx ws ∧ SpansAt CS mk H' x.2.1.ops x.1 0 x.2.2 ws ∧ H' l = some (.lst acc) ∧ Paired (ShAt ws H') acc (rowsL (c * (resT mk D x).cnt) (manyL ((kidsT x).map (undX D)) (inL (x.2.1.fx mk x.1) ((kidsT x).map (undX D)))) ((kidsT x).map (undX D)) (inL (x.2.1.fx mk x.1) ((kidsT x).map (undX D))) 0) ∧ Same H4 H',
    ⟨_, ([], e, 0), vr, 1, r, 0, x9, x10, l, acc, ws, ?_, rfl, hroot, by show 0 < und D 0 e.steps; omega, by omega, by rw [Nat.one_mul]; exact hrlt, by rw [Nat.one_mul]; exact hcb D, fun s T' sk sh B => ⟨T', by rw [Nat.zero_add]; exact B⟩, hob.keep (KI.same s5), SpansAt.keep (KI.same s5) _ _ _ _ _ hsp, el, by rw [Nat.one_mul]; exact pa, s5⟩, ?_⟩
  · rw [Nat.one_mul]
    rfl
  rintro m σ H6 ⟨x, vx, c, r', A', x9, x10, l, acc, ws, rfl, rfl, hx, hux, hA, hr', hbig, lift, hob, hsp, el, pa, s6⟩
  refine ⟨_, rfl, l, _, rfl, .inl (SqL.of el), _, _, rfl, rfl, _, rfl, ?_⟩
  have hpl := pa.length
  rw [rowsL_len] at hpl
  by_cases hsum : ((kidsT x).map (undX D)).sum = 0
  · rw [rows_none hsum, List.length_nil] at hpl
    refine iteNo (by omega) ?_
    obtain ⟨hown, ⟨T1, hB1⟩, hcnt⟩ := baseT (mk := mk) (c := c) hsum hux
    obtain ⟨T2, hB2⟩ := lift _ _ _ _ hB1
    obtain ⟨hT2, hs1, hDs, hdn⟩ := rootT g hdown hB2
    have hse : ∀ z, z = x.2.2 + Ex.stepss x.2.1.ops + (x.2.1.own - undX D x) → z < e.steps := fun z hz => hz ▸ hs1
    generalize est : x.2.2 + Ex.stepss x.2.1.ops + (x.2.1.own - undX D x) = st at hB2 hT2 hs1 hDs hdn
    have hl6 : LeftAt H6 d e (undT D) := hl4.keep s6
    obtain ⟨kvs6, hd6, _, hk6⟩ := kidsAt hl6 hx
    have eR6 : H6 R = some (.lst (nv_ o1)) := s6 _ _ eR
    have hRH : H R = none := s03.free nR
    have hdH : H d = none := s1.free nd
    have hRd : R ≠ d := fun z => by
      rw [z, hd6] at eR6
      cases eR6
    have hsN : st ≤ 1800 := by omega
    refine ⟨_, rfl, .inl ⟨rfl, _, SqL.of eR6⟩, _, rfl, _, rfl, vx, d, x.2.1, mk, x.1, x.2.2, undX D x, kvs6, rfl, SpanAt.of hob hsp, hd6, hk6, hux, hown, ?_⟩
    rw [est]
    refine ⟨R, _, _, rfl, rfl, eR6, Nat.lt_of_le_of_lt (show (nv_ o1).length ≤ 1800 by rw [hnv]; omega) (by decide), ?_⟩
    have eR7 : upd H6 R (.lst (nv_ o1 ++ [V.int (st : Int)])) R = some (.lst (nv_ (o1 ++ [st]))) := by
      rw [upd_same]
      simp [nv_]
    have s7 : Same H (upd H6 R (.lst (nv_ o1 ++ [V.int (st : Int)]))) := fun b o' z => by
      rw [upd_ne (ne_of_none z hRH)]
      exact s6 _ _ (s04 _ _ z)
    have hl7 : LeftAt (upd H6 R (.lst (nv_ o1 ++ [V.int (st : Int)]))) d e (undT D) := by
      obtain ⟨kv, z1, z2, z3⟩ := hl6
      exact ⟨kv, by rw [upd_ne (Ne.symm hRd)]; exact z1, z2, z3⟩
    generalize upd H6 R (.lst (nv_ o1 ++ [V.int (st : Int)])) = H7 at eR7 s7 hl7 ⊢
    have hat : atI (nv_ (o1 ++ [st])) (-1) = some (.int (st : Int)) := by
      have e1 : ixN (nv_ (o1 ++ [st])).length (-1) = some o1.length := by
        have : (nv_ (o1 ++ [st])).length = o1.length + 1 := by simp [nv_]
        rw [this]
        unfold ixN
        rw [if_neg (by omega), if_pos (by omega)]
        congr 1
        omega
      unfold atI
      rw [e1]
      simp [nv_]
    refine ⟨_, rfl, _, rfl, _, rfl, R, _, _, _, rfl, rfl, SqL.of eR7, hat, _, rfl, _, fns, e, mk, st, d, D, rfl, hT.keep s7, hn, hs1, hDs, hl7, fun H8 hl8 b8 => ?_⟩
    obtain ⟨N, hN⟩ : ∃ N, o2.length = N + 1 := ⟨o2.length - 1, by omega⟩
    rw [hcnt, Nat.mul_one] at hr'
    have hszD : (e.res mk D [] 0).sz = N + 1 := by
      rw [res_sz]
      show und D 0 e.steps = N + 1
      rw [hund, hN]
    have hbk := ords_blk hszD hB2 hr'
    rw [show A' + 0 + r' = r by omega, ← hN, hor] at hbk
    obtain ⟨o3, h3, e3⟩ := Option.map_eq_some_iff.mp hbk.symm
    have hl3 : o3.length + 1 = o2.length := by rw [← e3, List.length_cons]
    have hN3 : o3.length = N := by omega
    have hcc : c = (e.res mk (D.put st) [] 0).cnt := by
      obtain ⟨_, _, _, _, z⟩ := hB2
      rw [hT2, Nat.one_mul] at z
      exact z
    refine ⟨o3.length, by omega, D.put st, o1 ++ [st], o3, some vx, some (.ref l), x9, x10, r', ?_, rfl, ?_, ?_, hdn, ?_, b8 _ _ hRd eR7, hl8, fun b o' z => b8 _ _ (ne_of_none z hdH) (s7 _ _ z)⟩
    · rw [hcnt, Nat.mul_one, ← hcc]
    · rw [eo, ← e3, List.append_assoc]
      rfl
    · have := und_put (D := D) (a := 0) (m := e.steps) (s := st) (Nat.zero_le _) (by omega) hDs
      omega
    · rw [hN3, ← hT2]
      exact h3
  · obtain ⟨i, sk, part, c', y, hy, ⟨qq, hq⟩, hsk, hpart, hpc, huy, hB⟩ := descT (mk := mk) (Nat.pos_of_ne_zero hsum) hr'
    have hne : inL (x.2.1.fx mk x.1) ((kidsT x).map (undX D)) ≠ [] := fun z => by
      rw [z] at hq
      simp [rowsL] at hq
    refine iteYes (by have := List.length_pos_iff.mpr hne; omega) ?_
    have hop : i < x.2.1.ops.length := by
      have h1 := (List.getElem?_eq_some_iff.mp hy).1
      have h2 : (kidsT x).length = x.2.1.ops.length := skids_len ..
      omega
    have hyy := skids_get x.2.1.ops x.1 0 x.2.2 i hop
    have hye : y = (x.1 ++ [0 + i], x.2.1.ops[i], x.2.2 + Ex.stepss (x.2.1.ops.take i)) := Option.some.inj (hy.symm.trans hyy)
    have hym : y ∈ e.spn [] 0 := kid_mem hx (List.mem_of_getElem? hy)
    have hyn : y.2.1.nodes < x.2.1.nodes := by
      have h1 := nodes_get x.2.1.ops i hop
      have h2 := nodes_ops x.2.1
      rw [hye]
      show x.2.1.ops[i].nodes < _
      omega
    obtain ⟨vy, hvy, sy⟩ := hsp.get i hop
    have hwv : wv ws i = vy := by
      unfold wv
      rw [hvy]
      rfl
    have hpb : part ≤ bigN := by
      have hin : (i, sk, part) ∈ rowsL (c * (resT mk D x).cnt) (manyL ((kidsT x).map (undX D)) (inL (x.2.1.fx mk x.1) ((kidsT x).map (undX D)))) ((kidsT x).map (undX D)) (inL (x.2.1.fx mk x.1) ((kidsT x).map (undX D))) 0 := by
        have : (i, sk, part) ∈ (qq ++ [(i, sk, part)]) := List.mem_append_right _ (List.mem_cons_self ..)
        rw [← hq] at this
        exact (List.mem_filter.mp this).1
      exact Nat.le_trans (part_le hin) hbig
    generalize erows : rowsL (c * (resT mk D x).cnt) (manyL ((kidsT x).map (undX D)) (inL (x.2.1.fx mk x.1) ((kidsT x).map (undX D)))) ((kidsT x).map (undX D)) (inL (x.2.1.fx mk x.1) ((kidsT x).map (undX D))) 0 = rows at hq pa
    have hrl : rows.length ≤ 900 := by
      rw [← erows, rowsL_len]
      have h1 := (inL_sub (x.2.1.fx mk x.1) ((kidsT x).map (undX D))).length_le
      rw [List.length_range, hkl x] at h1
      have h2 := len_ops x.2.1
      have h3 := hnd x hx
      omega
    refine ⟨fun σ' H' => ∃ m', m' < x.2.1.nodes ∧ ∃ (x : Trip) (vx : V) (c r' A : Nat) (x9 x10 : Option V) (l : Addr) (acc ws : List V), σ' = [some (.ref p), some (.int (n : Int)), some (.int (((e.res mk D0 [] 0).cnt : Nat) : Int)), some (.ref d), some (.int ((c * (resT mk D x).cnt : Nat) : Int)), some (.int (r' : Int)), some (.ref R), some vx, some (.ref l), x9, x10] ∧ m' = x.2.1.nodes ∧ x ∈ e.spn [] 0 ∧ 0 < undX D x ∧ r = A + r' ∧ r' < c * (resT mk D x).cnt ∧ c * (resT mk D x).cnt ≤ bigN ∧
      (∀ s T' sk sh, Blk c (resT mk D x) s T' sk sh → ∃ T'', Blk 1 (e.res mk D [] 0) s T'' (A + sk) sh) ∧ SpanObj CS mk H' x.2.1 x.1 x.2.2 vx ws ∧ SpansAt CS mk H' x.2.1.ops x.1 0 x.2.2 ws ∧ H' l = some (.lst acc) ∧ Paired (ShAt ws H') acc (rowsL (c * (resT mk D x).cnt) (manyL ((kidsT x).map (undX D)) (inL (x.2.1.fx mk x.1) ((kidsT x).map (undX D)))) ((kidsT x).map (undX D)) (inL (x.2.1.fx mk x.1) ((kidsT x).map (undX D))) 0) ∧ Same H4 H', fun σ' H' h => h, ?_⟩
    refine ⟨_, rfl, l, rfl, ⟨_, SqL.of el⟩, fun D2 nD2 => ?_⟩
    refine lc_list (K := K) (a := l) (xs := acc) (fun k H' => Same H6 H' ∧ ∃ fl, H' D2 = some (.lst fl) ∧ Paired (ShAt ws H') fl ((rows.take k).filter fun z => decide (z.2.1 ≤ r'))) ⟨same_up nD2, [], upd_same, .nil⟩ (fun k H' _ z => SqL.of (z.1 _ _ el)) ?_ ?_
    · rintro k u H7 hk ⟨s7, fl, eD2, pf⟩
      obtain ⟨⟨j, sj, pj⟩, hj, ⟨q0, rfl, hq0⟩⟩ := paired_get pa hk
      have hjl : k < rows.length := (List.getElem?_eq_some_iff.mp hj).1
      have ej : rows[k] = (j, sj, pj) := (List.getElem?_eq_some_iff.mp hj).2
      refine ⟨rfl, q0, _, sj, pj, r', rfl, s7 _ _ hq0, rfl, ?_⟩
      rw [take_succ_get _ k hjl, List.filter_append, ej]
      by_cases hle : sj ≤ r'
      · rw [decide_eq_true hle]
        have hfl : fl.length ≤ 900 := by
          rw [pf.length]
          have := List.length_filter_le (fun z : Nat × Nat × Nat => decide (z.2.1 ≤ r')) (rows.take k)
          rw [List.length_take] at this
          omega
        have keepT : ∀ q xs, H7 q = some (.tup xs) → (upd H7 D2 (.lst (fl ++ [.ref q0]))) q = some (.tup xs) := fun q xs z => by
          rw [upd_ne (ne_of z eD2 fun h => nomatch h)]
          exact z
        refine iteT ⟨_, rfl, fl, eD2, small1000 (by omega), fun b o' z => by rw [upd_ne (ne_of_none z nD2)]; exact s7 _ _ z, _, upd_same, ?_⟩
        have e1 : [(j, sj, pj)].filter (fun z : Nat × Nat × Nat => decide (z.2.1 ≤ r')) = [(j, sj, pj)] := by simp only [List.filter_cons, decide_eq_true hle, if_true, List.filter_nil]
        rw [e1]
        exact paired_append (L2.Paired.mapP pf fun u r ⟨q, z1, z2⟩ => ⟨q, z1, keepT _ _ z2⟩) (.cons ⟨q0, rfl, keepT _ _ (s7 _ _ hq0)⟩ .nil)
      · rw [decide_eq_false hle]
        have e1 : [(j, sj, pj)].filter (fun z : Nat × Nat × Nat => decide (z.2.1 ≤ r')) = [] := by
          simp only [List.filter_cons, decide_eq_false hle, List.filter_nil]
          exact if_neg fun z => Bool.noConfusion z
        rw [e1, List.append_nil]
        exact iteF ⟨s7, fl, eD2, pf⟩
    · rintro H7 ⟨s7, fl, eD2, pf⟩
      rw [pa.length, List.take_length, hq] at pf
      obtain ⟨fl', u, rfl, _, ⟨qa, rfl, hqa⟩⟩ := paired_snoc_inv pf
      rw [hwv] at hqa
      have hat : atI (fl' ++ [V.ref qa]) (-1) = some (.ref qa) := by
        have e1 : ixN (fl' ++ [V.ref qa]).length (-1) = some fl'.length := by
          rw [List.length_append, List.length_singleton]
          unfold ixN
          rw [if_neg (by omega), if_pos (by omega)]
          congr 1
          omega
        unfold atI
        rw [e1]
        simp
      have sy7 : SpanAt CS mk H7 y.2.1 y.1 y.2.2 vy := by
        rw [hye]
        exact sy.keep (KI.same s7) _ _ _ _
      obtain ⟨wy, hoy, hspy⟩ := sy7.obj
      obtain ⟨kvy, hdy, hky, _⟩ := kidsAt (hl4.keep (s6.trans s7)) hym
      refine ⟨1, rfl, D2, _, _, _, rfl, rfl, SqL.of eD2, hat, qa, _, rfl, SqT.of hqa, rfl, _, _, rfl, _, _, rfl, _, _, rfl, rfl, _, rfl, _, rfl, _, _, rfl, rfl, ?_⟩
      refine ⟨_, rfl, _, rfl, _, rfl, vy, d, y.2.1, mk, y.1, y.2.2, part, kvy, _, wy, rfl, hoy, hspy, hdy, hkl y, hky, hks y hym, hnd y hym, hpb, fun l' acc' H8 el' nl' pa' s8 => ?_⟩
      refine ⟨y.2.1.nodes, hyn, y, vy, c', r' - sk, A' + sk, x9, some (.int (sk : Int)), l', acc', wy, ?_, rfl, hym, huy, by omega, by rw [← hpc]; exact hpart, by rw [← hpc]; exact hpb, fun s T' sk2 sh B => ?_, hoy.keep (KI.same s8), SpansAt.keep (KI.same s8) _ _ _ _ _ hspy, el', by rw [← hpc]; exact pa', s6.trans (s7.trans s8)⟩
      · rw [← hpc, show ((r' - sk : Nat) : Int) = (r' : Int) - (sk : Int) by omega]
        rfl
      · obtain ⟨T3, B3⟩ := hB s T' sk2 sh B
        obtain ⟨T4, B4⟩ := lift s T3 (sk + sk2) sh B3
        exact ⟨T4, by rw [Nat.add_assoc]; exact B4⟩
end
end Oo
/-! a task when a list is changed beside it -/
namespace Oo
open PySem PySem.Spec L2 PyProof.Rows LamX StX ClX
theorem seqT_kq {K : PySem.W.Frag} {S : List Addr} {H H' : Hp} {a : Addr} {xs : List V} (h : SqT K H a xs) (q : Kq S H H') (m : Mut H S) : SqT K H' a xs := by
  rcases h with (h | ⟨o, h⟩) | h
  · exact .inl (.inl (q.tup m.notup h))
  · refine .inl (.inr ⟨o, q _ _ (fun z => ?_) h⟩)
    obtain ⟨ys, e⟩ := m _ z
    rw [e] at h
    cases h
  · exact .inr h
theorem TaskAt.kq {K : PySem.W.Frag} {CF CB CT CS CL : Addr} {S : List Addr} {H H' : Hp} {v : V} {fns : List Fn} {e : Ex} {mk : List (List Nat)} (h : TaskAt K CF CB CT CS CL H v fns e mk) (q : Kq S H H') (m : Mut H S) : TaskAt K CF CB CT CS CL H' v fns e mk := by
  obtain ⟨p, dx, fs, vb, ve, tp, tr, rp, rr, e1, h1, hf, h2, h3, h4, h5, h6, h7, hL⟩ := h
  have no : ∀ b o, H b = some o → (∀ ys, o ≠ .lst ys) → H' b = some o := fun b o z n => q b o (fun hb => by
    obtain ⟨ys, w⟩ := m b hb
    rw [w] at z
    exact n ys (Option.some.inj z).symm) z
  have kt : ∀ q xs, H q = some (.tup xs) → H' q = some (.tup xs) := fun q xs z => no _ _ z fun ys w => by cases w
  have ki : ∀ q C dx fs, H q = some (.ins C dx fs) → H' q = some (.ins C dx fs) := fun q C dx fs z => no _ _ z fun ys w => by cases w
  obtain ⟨vl, l1, l2⟩ := hL
  exact ⟨p, dx, fs, vb, ve, tp, tr, rp, rr, e1, ki _ _ _ _ h1, hf, h2.kq q m, h3.sit q m, seqT_kq h4 q m, L2.Paired.mapP h5 fun a b z => z.keep kt, kt _ _ h6, L2.Paired.mapP h7 fun a b z => z.keep kt, vl, l1, l2.keepN ⟨kt, fun q dx fs v _ z => ki _ _ _ _ z⟩ fun q dx fs v _ z => ki _ _ _ _ z⟩
end Oo
/-! the law of joined orders -/
namespace Oo
open PySem PySem.Spec L2 PyProof.Rows LamX StX ClX
abbrev sLaw : Stmt := top 91
def spLaw (K : PySem.W.Frag) (T : List (Addr × Str)) : Sp := fun vs H Q _ => ∃ (a : Addr) (ns : List Int), vs = [.ref a] ∧ SqL K H a (ns.map V.int) ∧ ns.length ≤ 63 ∧ Tabs T H ∧ ∀ H', Q (.bl true) H'
def tellScope : Scope := ⟨.function, [(".0", .local), ("_law_one", .cell), ("range", .globalImplicit), ("_law_many", .cell), ("_law_task", .cell)], false, false, []⟩
theorem eqv_rows : ∀ L : List (List Nat), PyData.eqvAll (L.map dP) (L.map dP) = true
  | [] => by simp [PyData.eqvAll]
  | p :: r => by
    simp only [List.map_cons, PyData.eqvAll, eqv_path, eqv_rows r, decide_true, Bool.and_self]
theorem shaped_rows (L : List (List Nat)) : SeqAt.shaped (.list (L.map dP)) = true := by
  have h : PyData.depthAll (L.map dP) ≤ 3 := by
    induction L with
    | nil => simp [PyData.depthAll]
    | cons p r ih =>
      have := depth_path p
      simp only [List.map_cons, PyData.depthAll] at ih ⊢
      omega
  unfold SeqAt.shaped
  rw [Bool.and_eq_true, decide_eq_true_eq]
  refine ⟨?_, ?_⟩
  · simp only [PyData.canLay0]
    exact canLay_paths L
  · simp only [PyData.depth]
    omega
/-- what is told of one step -/
def teTell (K : PySem.W.Frag) (CF CB CT CS CL : Addr) : TE := fun σ H Q => ∃ (v : V) (fns : List Fn) (e : Ex) (mk : List (List Nat)) (ps : List Str) (i : Nat) (x0 x1 x2 x3 x4 x5 x8 x9 x11 x12 : Option V), σ = [x0, x1, x2, x3, x4, x5, some v, some (.int ((e.steps : Nat) : Int)), x8, x9, some (.int (i : Int)), x11, x12] ∧ TaskAt K CF CB CT CS CL H v fns e mk ∧ KitW ps fns ∧ ExW ps fns e ∧ e.nodes ≤ 900 ∧ e.steps ≤ 900 ∧ i < e.steps ∧ ∀ q H', H q = none → H' q = some (.lst (nv (tellR (e.prec mk [] 0) e.steps i))) → Same H H' → Q (.ref q) H'
def ttPr (K : PySem.W.Frag) (CF CB CT CS CL : Addr) : TT := fun σ H Q => ∃ (v : V) (fns : List Fn) (e : Ex) (mk : List (List Nat)) (ps : List Str) (i j : Nat), σ[6]? = some (some v) ∧ σ[10]? = some (some (.int (i : Int))) ∧ σ[11]? = some (some (.int (j : Int))) ∧ TaskAt K CF CB CT CS CL H v fns e mk ∧ KitW ps fns ∧ ExW ps fns e ∧ i < e.steps ∧ j < e.steps ∧ e.nodes ≤ 900 ∧ ∀ H', Same H H' → Q (e.prec mk [] 0 i j) H'
/-- the order with a number -/
def teOrd (K : PySem.W.Frag) (CF CB CT CS CL : Addr) : TE := fun σ H Q => ∃ (v : V) (fns : List Fn) (e : Ex) (mk : List (List Nat)) (ps : List Str) (n : Nat) (o : List Nat), σ[6]? = some (some v) ∧ σ[12]? = some (some (.int (n : Int))) ∧ TaskAt K CF CB CT CS CL H v fns e mk ∧ KitW ps fns ∧ ExW ps fns e ∧ e.grd = false ∧ e.nodes ≤ 900 ∧ (ords e.steps (e.res mk D0 [] 0))[n]? = some o ∧ ∀ (t : Addr) (H' : Hp), H' t = some (.tup (pv_ o)) → Same H H' → Q (.ref t) H'
section
variable {P : Program} {w : World} {K : PySem.W.Frag} {mg : Str → Option Value} {base : Heap} {X : Cx}
theorem scLaw : FnScope ["_law_script", "_law_at", "_law_bag_here", "_law_turn", "_law_kit_here", "_law_expr_here", "_law_task", "_law_many", "_law_told", "_law_found", "_law_one", "_law_other", "_law_number"] ["_law_script"] (defScope sLaw) := ⟨rfl, rfl, rfl, by decide +kernel, rfl, by decide +kernel, by decide +kernel⟩
theorem ok_law {T : List (Addr × Str)} {CF CB CT CS CL f fBg fK fR fT fP fLB fRe fPr fL fCo fOA fTa : Addr} {fd fdBg fdK fdR fdT fdP fdLB fdRe fdPr fdL fdCo fdOA fdTa : FuncData} (F : Fun K "law" "law" sLaw f fd)
    (mr : mg "range" = none) (mx : mg "max" = none) (mn : mg "min" = none) (ml : mg "len" = none) (ms : mg "sorted" = none)
    (GBg : FnOk P w K mg base CX0 1 fBg fdBg ["_law_script", "_law_at"] (spBag K)) (kBg : PySem.W.keepIn K (.ref fBg) = true) (bBg : Binds K fdBg ["_law_script", "_law_at"] []) (mBg : mg "_law_bag" = some (.ref fBg))
    (GT : FnOk P w K mg base CX0 1 fT fdT ["_law_bag_here", "_law_many"] spTake) (kT : PySem.W.keepIn K (.ref fT) = true) (bT : Binds K fdT ["_law_bag_here", "_law_many"] []) (mT : mg "_law_take" = some (.ref fT))
    (GK : FnOk P w K mg base CX0 3 fK fdK ["_law_bag_here", "_law_guards"] spKit) (kK : PySem.W.keepIn K (.ref fK) = true) (bK : Binds K fdK ["_law_bag_here", "_law_guards"] []) (mK : mg "_law_kit" = some (.ref fK))
    (GR : FnOk P w K mg base CX0 14 fR fdR ["_law_bag_here", "_law_kit_here", "_law_most"] spRoot) (kR : PySem.W.keepIn K (.ref fR) = true) (bR : Binds K fdR ["_law_bag_here", "_law_kit_here", "_law_most"] []) (mR : mg "_law_root" = some (.ref fR))
    (GP : FnOk P w K mg base CX0 83 fP fdP ["_law_bag_here", "_law_expr_here"] spPoints) (kP : PySem.W.keepIn K (.ref fP) = true) (bP : Binds K fdP ["_law_bag_here", "_law_expr_here"] []) (mP : mg "_law_points" = some (.ref fP))
    (GLB : FnOk P w K mg base CX0 8 fLB fdLB ["_law_functions"] (spLBook K T CF CB)) (kLB : PySem.W.keepIn K (.ref fLB) = true) (bLB : Binds K fdLB ["_law_functions"] []) (mLB : mg "_law_book" = some (.ref fLB))
    (GRe : FnOk P w K mg base CX0 3 fRe fdRe ["_law_task", "_law_told"] (spReach K CF CB CT CS CL)) (kRe : PySem.W.keepIn K (.ref fRe) = true) (bRe : Binds K fdRe ["_law_task", "_law_told"] []) (mRe : mg "_law_reached" = some (.ref fRe))
    (GPr : FnOk P w K mg base CX0 3 fPr fdPr ["task", "one", "other"] (spPrec K CF CB CT CS CL)) (kPr : PySem.W.keepIn K (.ref fPr) = true) (bPr : Binds K fdPr ["task", "one", "other"] []) (mPr : mg "precedes" = some (.ref fPr))
    (GLen : FnOk P w K mg base CX0 1 fL fdL ["self"] (spTLen K CF CB CT CS CL)) (DLen : Dun K CT "__len__" fL) (bLen : Binds K fdL ["self"] [])
    (GCo : FnOk P w K mg base CX0 2 fCo fdCo ["task"] (spCount K CF CB CT CS CL)) (kCo : PySem.W.keepIn K (.ref fCo) = true) (bCo : Binds K fdCo ["task"] []) (mCo : mg "count_orders" = some (.ref fCo))
    (GOA : FnOk P w K mg base CX0 3 fOA fdOA ["task", "number"] (spOrdAt K CF CB CT CS CL)) (kOA : PySem.W.keepIn K (.ref fOA) = true) (bOA : Binds K fdOA ["task", "number"] []) (mOA : mg "order_at" = some (.ref fOA))
    (MTa : Mk K CT fTa) (mTa : mg "Task" = some (.ref CT)) (GTa : FnOk P w K mg base CX0 36 fTa fdTa ["self", "book", "expression", "points"] (spTInit K CF CB CT CS CL)) (bTa : KBn K fdTa ["self", "book", "expression", "points"] 3 ["points"] (fun us ws => us ++ ws) (fun vs zs => vs ++ zs)) :
    FnOk P w K mg base CX0 84 f fd ["_law_script"] (spLaw K T) := by
  refine F.ok scLaw (fun vs H Q E h => ?_) (fun cdv A outer s H vs Q E hr h => ?_)
  · obtain ⟨a, ns, rfl, _⟩ := h
    rfl
  obtain ⟨a, ns, rfl, hS, hl, hT, q⟩ := h
  have hr1 : Room 1 _ := hr.mono (by decide)
  have hr2 : Room 2 _ := hr.mono (by decide)
  have hr3 : Room 3 _ := hr.mono (by decide)
  have hr8 : Room 8 _ := hr.mono (by decide)
  have hr14 : Room 14 _ := hr.mono (by decide)
  have hr37 : Room 37 _ := hr.mono (by decide)
  have hr83 : Room 83 _ := hr.mono (by decide)
  have hu := hu_of hr
  refine ⟨_, (pss_cons (ps_for PassesOwn.never rfl (pi_range1 (by rfl) mr (pa_cons (pe_callB (call_max2 rfl) (by rfl) mx PyProof.Rows.boot_max (pa_cons pe_int (pa_cons (pe_callB (call_min2 rfl) (by rfl) mn PyProof.Rows.boot_min (pa_cons pe_int (pa_cons (pe_callB call_len_seq (by rfl) ml PySem.boot_len (pa_cons (pv 0) pa_nil)) pa_nil))) pa_nil))) pa_nil)) (pg_name (i := 1) scLaw.nd rfl (Or.inl rfl)) (pss_cons (ps_set (i := 2) scLaw.nd rfl (.inl rfl) (pe_call GBg hr1 rfl mBg kBg bBg .nil pass0 (pa_cons (pv 0) (pa_cons (pv 1) pa_nil))))
    (pss_one (ps_for PassesOwn.never rfl (pi_range1 (by rfl) mr (pa_cons pe_int pa_nil)) (pg_name (i := 3) scLaw.nd rfl (Or.inl rfl)) (pss_cons (ps_set (i := 4) scLaw.nd rfl (.inl rfl) (pe_call GK hr3 rfl mK kK bK .nil pass0 (pa_cons (pv 2) (pa_cons pe_bl pa_nil))))
    (pss_cons (ps_set (i := 5) scLaw.nd rfl (.inl rfl) (pe_call GR hr14 rfl mR kR bR .nil pass0 (pa_cons (pv 2) (pa_cons (pv 4) (pa_cons (pe_op op_add pe_int (pe_call GT hr1 rfl mT kT bT .nil pass0 (pa_cons (pv 2) (pa_cons pe_int pa_nil)))) pa_nil)))))
    (pss_cons (ps_set (i := 6) scLaw.nd rfl (.inr rfl) (pe_makeK MTa GTa hr37 rfl mTa bTa pass0 (pa_cons (pe_call GLB hr8 rfl mLB kLB bLB .nil pass0 (pa_cons (pe_dget hu (pv 4) pe_str (fun _ _ => rfl)) pa_nil)) (pa_cons (pv 5) pa_nil)) (pk_cons (pe_call GP hr83 rfl mP kP bP .nil pass0 (pa_cons (pv 2) (pa_cons (pv 5) pa_nil))) pk_nil)))
    (pss_one (ps_if (pt_cmpR op_lt (pe_call GCo hr2 rfl mCo kCo bCo .nil pass0 (pa_cons (pv 6) pa_nil)) pe_int (nomark _)) (pss_cons (ps_set (i := 7) scLaw.nd rfl (.inr rfl) (pe_callB (call_lenO GLen hr2 DLen bLen pass0) (by rfl) ml PySem.boot_len (pa_cons (pv 6) pa_nil)))
    (pss_cons (ps_setLc (i := 8) (own := [("_law_one", 10)]) (g := gName 10) (tt := tYes) (by rfl) scLaw.nd rfl rfl (sw_true rfl rfl rfl (by decide +kernel)) (pi_range1 (by rfl) mr (pa_cons (pv 7) pa_nil)) (blkOk_by (own := [("_law_one", 10)]) (N := ["_law_script", "_law_at", "_law_bag_here", "_law_turn", "_law_kit_here", "_law_expr_here", "_law_task", "_law_many", "_law_told", "_law_found", "_law_one", "_law_other", "_law_number"]) (sc := defScope sLaw) (by decide +kernel)) (fun _ _ _ _ _ => (pg_name (i := 10) scLaw.nd rfl (Or.inr rfl))) (fun _ _ _ _ _ => pts_nil) (fun _ _ _ _ _ => (pe_as (t' := teTell K CF CB CT CS CL) (pe_lc (own := [("_law_other", 11)]) (g := gName 11) (by rfl) scLaw.nd (pi_range1 (by rfl) mr (pa_cons (pv 7) pa_nil)) (blkOk_by (own := [("_law_other", 11)]) (N := ["_law_script", "_law_at", "_law_bag_here", "_law_turn", "_law_kit_here", "_law_expr_here", "_law_task", "_law_many", "_law_told", "_law_found", "_law_one", "_law_other", "_law_number"]) (sc := tellScope) (by decide +kernel)) (fun _ _ _ _ _ => (pg_name (i := 11) scLaw.nd rfl (Or.inl rfl))) (fun _ _ _ _ _ => (pts_one (pt_as (t' := ttPr K CF CB CT CS CL) (pt_val (pe_call GPr hr3 rfl mPr kPr bPr .nil pass0 (pa_cons (pv 6) (pa_cons (pv 10) (pa_cons (pv 11) pa_nil))))) ?c3))) (fun _ _ _ _ _ => (pv 11))) ?c2)))
    (pss_cons (ps_set (i := 9) scLaw.nd rfl (.inl rfl) (pe_call GRe hr3 rfl mRe kRe bRe .nil pass0 (pa_cons (pv 6) (pa_cons (pv 8) pa_nil))))
    (pss_cons (ps_if (PW.pt (pw_or (pt_cmpR op_isN (pv 9) pe_non (nomark _)) (pw_or1 (pt_cmpR op_ne (pe_callB call_len_seq (by rfl) ml PySem.boot_len (pa_cons (pv 9) pa_nil)) (pe_call GCo hr2 rfl mCo kCo bCo .nil pass0 (pa_cons (pv 6) pa_nil)) (nomark _))))) (pss_one (ps_ret pe_bl)) pss_nil)
    (pss_one (ps_if (pt_cmpR (op_neD hr.units) (pe_callB (cr_sortedP2 hr.units) (by rfl) ms (by decide +kernel) (pa_cons (pv 9) pa_nil)) (pe_lc (own := [("_law_number", 12)]) (g := gName 12) (tt := tYes) (by rfl) scLaw.nd (pi_range1 (by rfl) mr (pa_cons (pe_callB call_len_seq (by rfl) ml PySem.boot_len (pa_cons (pv 9) pa_nil)) pa_nil)) (blkOk_by (own := [("_law_number", 12)]) (N := ["_law_script", "_law_at", "_law_bag_here", "_law_turn", "_law_kit_here", "_law_expr_here", "_law_task", "_law_many", "_law_told", "_law_found", "_law_one", "_law_other", "_law_number"]) (sc := defScope sLaw) (by decide +kernel)) (fun _ _ _ _ _ => (pg_name (i := 12) scLaw.nd rfl (Or.inl rfl))) (fun _ _ _ _ _ => pts_nil) (fun _ _ _ _ _ => (pe_as (t' := teOrd K CF CB CT CS CL) (pe_call GOA hr3 rfl mOA kOA bOA .nil pass0 (pa_cons (pv 6) (pa_cons (pv 12) pa_nil))) ?c1))) (nomark _)) (pss_one (ps_ret pe_bl)) pss_nil)))))) pss_nil)))))))))
    (pss_one (ps_ret pe_bl))), ?_⟩
  case c1 =>
    rintro σ H Q ⟨v, fns, e, mk, ps, n, o, e6, e7, hT, kw, ew, g, hn, ho, q⟩
    exact ⟨_, e6, _, e7, v, fns, e, mk, ps, n, o, rfl, hT, kw, ew, g, hn, ho, fun t H' et nt s => q t H' et s⟩
  case c2 =>
    rintro σ H Q ⟨v, fns, e, mk, ps, i, x0, x1, x2, x3, x4, x5, x8, x9, x11, x12, rfl, hT, kw, ew, hn, hN, hi, q⟩
    refine ⟨_, rfl, _, rfl, by omega, by omega, fun D nD => ?_⟩
    refine lc_range (lo := 0) (n := e.steps) (fun j H' => H' D = some (.lst (nv ((List.range j).filter fun j => e.prec mk [] 0 i j))) ∧ Same H H') ⟨upd_same, same_up nD⟩ ?_ ?_
    · rintro j H1 hj ⟨eD, s1⟩
      have hj' : j < e.steps := hj
      have ez : (0 : Int) + (j : Int) = (j : Int) := by omega
      rw [ez]
      refine ⟨rfl, v, fns, e, mk, ps, i, j, rfl, rfl, rfl, hT.keep s1, kw, ew, hi, hj', hn, fun H2 s2 => ?_⟩
      have hlen : (nv ((List.range j).filter fun j => e.prec mk [] 0 i j)).length ≤ 900 := by
        rw [List.length_map]
        refine Nat.le_trans (List.length_filter_le _ _) ?_
        rw [List.length_range]
        omega
      rw [List.range_succ, List.filter_append]
      cases hp : e.prec mk [] 0 i j with
      | true =>
        refine iteT ⟨_, rfl, _, s2 _ _ eD, small1000 (by omega), ?_, fun b o z => by rw [upd_ne (ne_of_none z nD)]; exact s2 _ _ (s1 b o z)⟩
        rw [upd_same, List.filter_cons_of_pos hp, List.filter_nil]
        simp only [nv, List.map_append, List.map_cons, List.map_nil]
      | false =>
        refine iteF ⟨?_, s1.trans s2⟩
        rw [List.filter_cons_of_neg (by simp [hp])]
        simpa using s2 _ _ eD
    · rintro H1 ⟨eD, s1⟩
      exact q D H1 nD eD s1
  case c3 =>
    rintro σ H Q ⟨v, fns, e, mk, ps, i, j, e6, e10, e11, hT, kw, ew, hi, hj, hn, q⟩
    exact ⟨_, e6, _, e10, _, e11, v, fns, e, mk, ps, i, j, rfl, hT, kw, ew, hi, hj, hn, fun H' s' => ⟨_, rfl, q H' s'⟩⟩
  have hlen : (ns.map V.int).length = ns.length := List.length_map _
  refine ⟨_, rfl, a, _, rfl, .inl hS, _, _, rfl, _, _, rfl, _, rfl, ?_, ?_, ?_⟩
  · split <;> split <;> omega
  · split <;> split <;> omega
  have hn5 : ∀ z : Int, z = (if (if ((ns.map V.int).length : Int) < 4 then ((ns.map V.int).length : Int) else 4) > 2 then (if ((ns.map V.int).length : Int) < 4 then ((ns.map V.int).length : Int) else 4) else 2) → z.toNat ≤ 4 := fun z e => by
    rw [e]
    split <;> split <;> omega
  have hn5' := hn5 _ rfl
  refine for_range (lo := 0) (fun i σ H' => ∃ x1 x2 x3 x4 x5 x6 x7 x8 x9 x10 x11 x12, σ = [some (.ref a), x1, x2, x3, x4, x5, x6, x7, x8, x9, x10, x11, x12] ∧ SqL K H' a (ns.map V.int) ∧ Tabs T H') ⟨none, none, none, none, none, none, none, none, none, none, none, none, rfl, hS, hT⟩ ?_ ?_
  · rintro i σ H0 hi ⟨x1, x2, x3, x4, x5, x6, x7, x8, x9, x10, x11, x12, rfl, hS0, hT0⟩
    refine ⟨_, rfl, _, rfl, a, ns, _, rfl, hS0, hl, by omega, by omega, fun p H1 np s1 hB1 => ?_⟩
    have hSc := Scr.mk_ hS0 np s1
    have hT1 := Tabs.ext hT0 s1
    refine ⟨2, rfl, by decide, by decide, ?_⟩
    refine for_range (lo := 0) (n := 2) (fun j σ H' => ∃ x3 x4 x5 x6 x7 x8 x9 x10 x11 x12, σ = [some (.ref a), some (.int (0 + (i : Int))), some (.ref p), x3, x4, x5, x6, x7, x8, x9, x10, x11, x12] ∧ Scr K a (ns.map V.int) p H' ∧ Tabs T H' ∧ BagAt H' p (j * 2000)) ⟨_, _, _, _, _, _, _, _, _, _, rfl, hSc, hT1, hB1⟩ ?_ ?_
    · rintro j σ H2 hj ⟨x3, x4, x5, x6, x7, x8, x9, x10, x11, x12, rfl, hSc2, hT2, hB2⟩
      -- kit, root
      refine ⟨_, rfl, p, false, _, rfl, hB2, by omega, fun kd pl fl ps fns H4 KA4 KW npl nfl hB4 q4 => ?_⟩
      have hSc4 := hSc2.kq q4
      have hT4 := tabs_kq hT2 q4 hB2.mut
      refine ⟨_, rfl, _, rfl, _, rfl, p, 5, _, rfl, hB4, by omega, by decide, by decide, fun m H6 m0 m1 hB6 kp6 => ⟨_, _, rfl, rfl, ?_⟩⟩
      have KA6 := KA4.kq kp6.kq hB4.mut (by simp [npl]) (by simp [nfl])
      refine ⟨p, kd, pl, fl, ps, fns, false, _, 2 + m, rfl, hB6, KA6, KW, npl, nfl, by omega, by omega, fun ve e k' H7 ie7 de k0 KA7 hB7 q7 => ?_⟩
      have hnb : nbd 4 = 121 := rfl
      have hdep := de.dep
      have hnod := de.nod
      have hstp := de.stp
      have ew := de.w
      have g := de.gd rfl
      have sh := ExW.shp _ ew
      have hN : e.steps ≤ 6 := by omega
      -- book
      have q47 : Kq [p] H4 H7 := kp6.kq.trans q7
      have hT7 := tabs_kq hT4 q47 hB4.mut
      refine ⟨_, rfl, kd, _, rfl, KA7.getF, fl, fns, rfl, KA7.fns, KW.bk, hT7, fun vb H8 hBk8 hT8 x8 => ?_⟩
      have hB8 := bag_ext hB7 x8
      have ie8 := ie7.keepN x8
      refine ⟨_, rfl, _, rfl, _, rfl, p, ve, e, _, rfl, hB8, by omega, ie8, sh, by omega, by omega, fun t mrows mk H9 sub et9 pm9 hB9 q9 => ⟨rfl, rfl, fun x dx hx hdx hne => ?_⟩⟩
      have ie9 := ie8.sit q9 hB8.mut
      have hBk9 := hBk8.kq q9 hB8.mut
      have asc := (opens_asc e).sublist sub
      have hop : ∀ z ∈ mk, z ∈ e.opens [] := fun z hz => sub.subset hz
      have hSc9 := ((hSc4.kq q47).ext x8).kq q9
      have hT9 := tabs_kq hT8 q9 hB8.mut
      have s9 := made_same (C := CT) hx hdx
      refine ⟨x, dx, vb, ve, t, mrows, mk, e, ps, fns, rfl, upd_same, hBk9.keep s9, KW, ie9.keep (same_t s9), ew, by omega, by omega, ⟨SqT.of (s9 _ _ et9), L2.Paired.mapP pm9 fun a b z => z.keep (same_t s9), hop, asc⟩, fun H10 hTA10 hBut => ⟨rfl, ?_⟩⟩
      have s10 : Same H9 H10 := but_same s9 hx hBut
      refine ⟨_, rfl, .ref x, fns, e, mk, rfl, hTA10, g, by omega, fun H11 s11 => ?_⟩
      have hTA11 := hTA10.keep s11
      have s911 := s10.trans s11
      have fin : ∀ H', Same H11 H' → ∀ y7 y8 y9 y10 y11 y12, ∃ z3 z4 z5 z6 z7 z8 z9 z10 z11 z12, [some (.ref a), some (.int (0 + (i : Int))), some (.ref p), some (.int (0 + (j : Int))), some (.ref kd), some ve, some (.ref x), y7, y8, y9, y10, y11, y12] = [some (V.ref a), some (.int (0 + (i : Int))), some (.ref p), z3, z4, z5, z6, z7, z8, z9, z10, z11, z12] ∧ Scr K a (ns.map V.int) p H' ∧ Tabs T H' ∧ BagAt H' p ((j + 1) * 2000) := fun H' s _ _ _ _ _ _ =>
        ⟨_, _, _, _, _, _, _, _, _, _, rfl, hSc9.ext (same_extN (s911.trans s)), Tabs.ext hT9 (s911.trans s), (bag_ext hB9 (same_extN (s911.trans s))).mono (by omega)⟩
      refine ⟨_, _, rfl, rfl, _, rfl, ?_⟩
      have hOlen : (ords e.steps (e.res mk D0 [] 0)).length = (e.res mk D0 [] 0).cnt := ords_len _ _ (by rw [res_sz, und_D0])
      by_cases hc : (((e.res mk D0 [] 0).cnt : Nat) : Int) < 61
      · refine iteYes hc ?_
        obtain ⟨dxb, fsb, eb, _, _⟩ := hTA11.ins_
        refine ⟨_, rfl, x, dxb, fsb, rfl, eb, .ref x, fns, e, mk, ps, rfl, hTA11, KW, ew, e.steps, rfl, by omega, ?_⟩
        refine ⟨_, rfl, _, rfl, by omega, by omega, fun D nD => ?_⟩
        refine lc_range (lo := 0) (n := e.steps) (fun k H' => Same H11 H' ∧ ∃ acc, H' D = some (.lst acc) ∧ Paired (fun u ns => NumsAt H' u ns ∧ u ≠ .ref D) acc ((List.range k).map (tellR (e.prec mk [] 0) e.steps))) ⟨same_up nD, [], upd_same, .nil⟩ ?_ ?_
        · rintro k H12 hk ⟨s12, acc, eD, pa⟩
          have hk' : k < e.steps := hk
          have ez : (0 : Int) + (k : Int) = (k : Int) := by omega
          rw [ez]
          refine ⟨rfl, yes_i ⟨.ref x, fns, e, mk, ps, k, _, _, _, _, _, _, _, _, _, _, rfl, hTA11.keep s12, KW, ew, by omega, by omega, hk', fun q5 H13 nq5 eq5 s13 => ?_⟩⟩
          have hal : acc.length ≤ 900 := by
            rw [pa.length, List.length_map, List.length_range]
            omega
          have hDq : D ≠ q5 := fun z => by rw [z, nq5] at eD; cases eD
          have ku : ∀ b xs, H13 b = some (.lst xs) → b ≠ D → (upd H13 D (.lst (acc ++ [.ref q5]))) b = some (.lst xs) := fun b xs z n => by
            rw [upd_ne n]
            exact z
          refine ⟨acc, s13 _ _ eD, small1000 (by omega), fun b o' z => by rw [upd_ne (ne_of_none z nD)]; exact s13 _ _ (s12 b o' z), _, upd_same, ?_⟩
          rw [List.range_succ, List.map_append, List.map_cons, List.map_nil]
          refine paired_append (L2.Paired.mapP pa ?_) (.cons ⟨⟨q5, rfl, ku _ _ eq5 (Ne.symm hDq)⟩, fun z => hDq (by cases z; rfl)⟩ .nil)
          rintro u ns' ⟨⟨b, rfl, hb⟩, hne⟩
          exact ⟨⟨b, rfl, ku _ _ (s13 _ _ hb) (fun z => hne (by rw [z]))⟩, hne⟩
        · rintro H12 ⟨s12, acc, eD, pa⟩
          have hU : RowsAt H12 (.ref D) (tells (e.prec mk [] 0) e.steps) := ⟨D, acc, rfl, eD, L2.Paired.mapP pa fun u ns z => z.1⟩
          have hTA12 := hTA11.keep s12
          refine ⟨_, rfl, _, rfl, .ref x, .ref D, fns, e, mk, rfl, hTA12, g, by omega, by omega, by omega, hU, fun l rows fl H13 el pl perm s13 => ?_⟩
          have hTA13 := hTA12.keep s13
          have hrl := pl.length
          have hfl : fl.length = (e.res mk D0 [] 0).cnt := by rw [← hOlen]; exact perm.length_eq
          refine ⟨_, rfl, rfl, _, rfl, iteNo (fun z => nomatch z) ?_⟩
          refine ⟨_, rfl, l, _, rfl, .inl (SqL.of el), _, rfl, .ref x, fns, e, mk, rfl, hTA13, g, by omega, fun H14 s14 => ⟨rfl, _, rfl, iteNS (by rw [hrl, hfl]) ?_⟩⟩
          have hTA14 := hTA13.keep s14
          have el14 := s14 _ _ el
          have pl14 := L2.Paired.mapP pl fun u o z => z.keep (same_t s14)
          refine ⟨_, rfl, l, rows, fl, rfl, SqL.of el14, pl14, by omega, fun q6 bs nq6 hperm hasc => ?_⟩
          have s15 := same_up (o := .lst (bs.map (·.1))) nq6
          have hTA15 := hTA14.keep s15
          have ebs2 : (rows.zip fl).map (·.2) = fl := zip_snd hrl
          have hbp : (bs.map (·.2)).Perm fl := by
            have := hperm.map (·.2)
            rwa [ebs2] at this
          have hbl : bs.map (·.2) = ords e.steps (e.res mk D0 [] 0) := by
            have hnd : (ords e.steps (e.res mk D0 [] 0)).Nodup := by
              rw [ords_res g _ _ (fun i j _ h => by cases h)]
              exact ordsD_nodup _ _
            have hp2 := hbp.trans perm
            refine asc_unique (asc_sorted ?_ (hp2.nodup_iff.mpr hnd)) ?_ hp2
            · rw [List.pairwise_map]
              exact hasc
            · rw [ords_res g _ _ (fun i j _ h => by cases h)]
              exact ords_asc _ _
          have hbP : Paired (PathAt H14) (bs.map (·.1)) (ords e.steps (e.res mk D0 [] 0)) := by
            rw [← hbl]
            have hall : ∀ b ∈ bs, PathAt H14 b.1 b.2 := fun b hb => by
              have hz := hperm.mem_iff.mp hb
              obtain ⟨k, hk⟩ := List.mem_iff_getElem?.mp hz
              rw [List.getElem?_zip_eq_some] at hk
              obtain ⟨o, ho, hp⟩ := paired_get pl14 hk.1
              rw [hk.2] at ho
              cases ho
              exact hp
            clear hbl hbp hasc hperm nq6 s15 hTA15
            induction bs with
            | nil => exact .nil
            | cons b r ih => exact .cons (hall b (List.mem_cons_self ..)) (ih fun z hz => hall z (List.mem_cons_of_mem _ hz))
          have eq15 : (upd H14 q6 (.lst (bs.map (·.1)))) q6 = some (.lst (bs.map (·.1))) := upd_same
          have hbP15 := L2.Paired.mapP hbP fun u o z => z.keep (same_t s15)
          generalize bs.map (·.1) = rows2 at eq15 s15 hTA15 hbP15 hbP ⊢
          generalize upd H14 q6 (.lst rows2) = H15 at eq15 s15 hTA15 hbP15 ⊢
          refine ⟨_, rfl, l, _, rfl, .inl (SqL.of (s15 _ _ el14)), _, rfl, by omega, by omega, fun DC nDC => ?_⟩
          refine lc_range (lo := 0) (n := rows.length) (fun k H' => Same H15 H' ∧ ∃ acc, H' DC = some (.lst acc) ∧ Paired (PathAt H') acc ((ords e.steps (e.res mk D0 [] 0)).take k)) ⟨same_up nDC, [], upd_same, by rw [List.take_zero]; exact .nil⟩ ?_ ?_
          · rintro k H16 hk ⟨s16, acc2, eD2, pa2⟩
            have hk' : k < (ords e.steps (e.res mk D0 [] 0)).length := by
              have : k < rows.length := hk
              omega
            have ez : (0 : Int) + (k : Int) = (k : Int) := by omega
            rw [ez]
            refine ⟨rfl, yes_i ⟨.ref x, fns, e, mk, ps, k, _, rfl, rfl, hTA15.keep s16, KW, ew, g, by omega, List.getElem?_eq_getElem hk', fun to H17 eto s17 => ⟨acc2, s17 _ _ eD2, small1000 ?_, fun b o' z => by rw [upd_ne (ne_of_none z nDC)]; exact s17 _ _ (s16 b o' z), _, upd_same, ?_⟩⟩⟩
            · rw [pa2.length, List.length_take]
              omega
            · have ku : ∀ q xs, H17 q = some (.tup xs) → (upd H17 DC (.lst (acc2 ++ [.ref to]))) q = some (.tup xs) := fun q xs z => by
                rw [upd_ne (ne_of z (s17 _ _ eD2) fun h => nomatch h)]
                exact z
              rw [take_succ_get _ k hk']
              exact paired_append (L2.Paired.mapP pa2 fun a b z => z.keep fun q xs w => ku _ _ (s17 _ _ w)) (.cons ⟨to, rfl, ku _ _ eto⟩ .nil)
          · rintro H16 ⟨s16, acc2, eD2, pa2⟩
            have pa2 : Paired (PathAt H16) acc2 ((ords e.steps (e.res mk D0 [] 0)).take rows.length) := pa2
            rw [hrl, hfl, ← hOlen, List.take_length] at pa2
            refine ⟨.list ((ords e.steps (e.res mk D0 [] 0)).map dP), .list ((ords e.steps (e.res mk D0 [] 0)).map dP), .lst (SqL.of (s16 _ _ eq15)) (dpAll_paths (L2.Paired.mapP hbP15 fun u o z => z.keep (same_t s16))), .lst (SqL.of eD2) (dpAll_paths pa2), shaped_rows _, shaped_rows _, ?_⟩
            have e1 : PyData.eqv (.list ((ords e.steps (e.res mk D0 [] 0)).map dP)) (.list ((ords e.steps (e.res mk D0 [] 0)).map dP)) = true := by
              simp only [PyData.eqv]
              exact eqv_rows _
            rw [e1]
            refine ⟨_, rfl, iteF ?_⟩
            exact fin _ (s12.trans (s13.trans (s14.trans (s15.trans s16)))) _ _ _ _ _ _
      · refine iteNo hc ?_
        exact fin _ (Same.refl _) _ _ _ _ _ _
    · rintro σ H2 ⟨x3, x4, x5, x6, x7, x8, x9, x10, x11, x12, rfl, hSc2, hT2, hB2⟩
      exact ⟨_, _, _, _, _, _, _, _, _, _, _, _, rfl, hSc2.seq, hT2⟩
  · rintro σ H0 ⟨x1, x2, x3, x4, x5, x6, x7, x8, x9, x10, x11, x12, rfl, hS0, hT0⟩
    exact q H0
end
end Oo
namespace Oh
open PySem PySem.Spec PyProof.Rows L2 He
section
variable {K : PySem.W.Frag} {w : World} {H : Hp}
theorem readB_ok {C : Str} (h : readB C K = true) : ClX.CRead K (ga K C) (.type "type") := by
  obtain ⟨h1, h2⟩ := ba h
  exact ⟨h1, eqO_ok h2⟩
theorem conCB_ok {C f : Str} {v : V} (h : conCB C f v K = true) : ∃ u, ClX.CVal K (ga K C) (.type "type") f v u := by
  unfold conCB at h
  split at h
  · rename_i u e
    exact ⟨u, e, relB_ok h⟩
  · cases h
theorem propB_ok {C m : Str} (h : propB C m K = true) : PropOf K (ga K C) m (ma K (ga K C) m) (getterOf K C m) := by
  obtain ⟨h1, h⟩ := ba h
  obtain ⟨h2, h⟩ := ba h
  obtain ⟨h3, h4⟩ := ba h
  refine ⟨eqO_ok h1, eqO_ok h2, of_decide_eq_true h3, ?_⟩
  unfold getterOf
  split at h4
  · rename_i g r e
    rw [e]
    exact ⟨r, rfl⟩
  · cases h4
theorem tupAB_ok {a : PySem.W.Frag → Addr} {vs : List V} (h : tupAB a vs K = true) : SqT K H (a K) vs := by
  unfold tupAB at h
  cases q : K.lookup (a K) with
  | none =>
    rw [q] at h
    cases h
  | some o =>
    obtain ⟨oc, od, dt, osl⟩ := o
    rw [q] at h
    cases oc with
    | type c =>
      cases dt with
      | seq its n =>
        obtain ⟨h1, h2⟩ := ba (show (decide (c = "tuple") && (decide (its.size ≤ sizeLine) && relAll vs its.toList)) = true from h)
        obtain ⟨h3, h4⟩ := ba h2
        exact .inr ⟨_, its, n, q, congrArg Value.type (of_decide_eq_true h1), rfl, of_decide_eq_true h3, relAll_ok h4⟩
      | _ => cases h
    | _ => cases dt <;> cases h
theorem kdct_ok {d x : Str} {v : PySem.W.Frag → V} (t : ∃ es n, KDict K w (ga K d) es n) (h : dValB d x v K = true) : KDct K w (ga K d) x (v K) := by
  obtain ⟨es, n, t⟩ := t
  unfold dValB at h
  split at h
  · rename_i u e
    exact ⟨es, n, u, t.at_, t.lit, e, relB_ok h⟩
  · cases h
theorem kmiss_ok {d x : Str} (t : ∃ es n, KDict K w (ga K d) es n) (h : dMissB d x K = true) : KMiss K w (ga K d) x := by
  obtain ⟨es, n, t⟩ := t
  exact ⟨es, n, t.at_, t.lit, t.low, eqO_ok h⟩
end
end Oh
namespace Oo
open PySem L2 PyProof.Rows LamX StX ClX
theorem depth_pos (e : Ex) : 1 ≤ e.depth := by
  cases e <;> simp [Ex.depth]
section
variable {P : Program} {w : World} {K : PySem.W.Frag} {mg : Str → Option Value} {base h : Heap}
theorem fn_none {L : Nat} {f : Addr} {fd : FuncData} {ps : List Str} {sp : Sp} (no : ∀ vs H Q E, ¬ sp vs H Q E) : FnOk P w K mg base CX0 L f fd ps sp :=
  ⟨fun vs H Q E h => absurd h (no vs H Q E), fun A outer s H args us vs Q E _ _ _ _ h => absurd h (no vs H Q E)⟩
theorem no_nodes {N : Nat} (h : N = 0) : ∀ vs H Q E, ¬ spNodes N vs H Q E := fun vs H Q E q => by
  obtain ⟨_, _, e, _, _, _, _, _, hd, _⟩ := q
  have := depth_pos e
  omega
theorem kbn_finit {f : Addr} {fd : FuncData} {kws : List (Str × V)} (D : FunD K "__init__" "Function.__init__" (defArgs sFInit) (defBody sFInit) (defScope sFInit) [.int 0] kws f fd) : KBn K fd pF 3 kF2 (fun us ws => us ++ ws) (fun vs zs => vs ++ zs) := by
  obtain ⟨its, k⟩ := D.kbindsD (ps := pF) 3 kF2 (fun us _ ws => us ++ ws) (by simp) (fun r1 _ r3 => r1.append r3) (fun T kV doc pm an cdv ct us its ws l1 l2 l3 => match us, l1, its, l2, ws, l3 with | [_, _, _], _, [_], _, [_, _], _ => ⟨_, rfl, rfl⟩)
  exact k
theorem kbn_tinit {f : Addr} {fd : FuncData} {kws : List (Str × V)} (D : FunD K "__init__" "Task.__init__" (defArgs sTInit) (defBody sTInit) (defScope sTInit) [] kws f fd) : KBn K fd ["self", "book", "expression", "points"] 3 ["points"] (fun us ws => us ++ ws) (fun vs zs => vs ++ zs) := by
  obtain ⟨oc, od, dV, kV, doc, pm, an, cdv, ct, osl, rfl, lk, hcd, hD, hK⟩ := D.ex
  rcases hD with ⟨_, rfl⟩ | ⟨e, _⟩
  · exact ⟨fun s us ws X l1 l2 => match us, l1, ws, l2 with | [_, _, _], _, [_], _ => .of_eq rfl, fun r1 r2 => r1.append r2⟩
  · exact absurd rfl e
theorem funC_of {fd : FuncData} {kws : List (Str × V)} (D : FunD K "__init__" "Book.__init__" (defArgs sBInit) (defBody sBInit) (defScope sBInit) [] kws (He.fAd K ("Book", some "__init__")) fd) : FunC K "__init__" "Book.__init__" sBInit (He.ma K (He.ga K "Book") "__init__") (He.cT K ("Book", some "__init__")).1 := by
  obtain ⟨oc, od, dV, kV, doc, pm, an, cdv, ct, osl, rfl, lk, hcd, hD, hK⟩ := D.ex
  rcases hD with ⟨_, rfl⟩ | ⟨e, _⟩
  · obtain ⟨cc, rfl⟩ := He.codeIn_ref hcd
    have ec : (He.cT K ("Book", some "__init__")).1 = cc := He.codeOf_eq lk rfl
    rw [ec]
    exact ⟨oc, od, kV, doc, pm, an, ct, osl, lk, hcd⟩
  · exact absurd rfl e
theorem isi_ok (h : Oh.isiB "Function" K = true) : TxI K (He.ga K "Function") := by
  obtain ⟨h1, h⟩ := He.ba h
  obtain ⟨h2, h⟩ := He.ba h
  obtain ⟨h3, h4⟩ := He.ba h
  exact ⟨He.eqO_ok h1, He.eqO_ok h2, of_decide_eq_true h3, of_decide_eq_true h4⟩
theorem no_spanof {CS : Addr} {N : Nat} (h : N = 0) : ∀ vs H Q E, ¬ spSpanOf K CS N vs H Q E := fun vs H Q E q => by
  obtain ⟨_, _, _, _, _, _, e, _, _, _, _, _, _, _, hd, _⟩ := q
  have := depth_pos e
  omega
theorem all_ok (X : K.In h) (G : h.Ns mainGlobals mg) (c : Oh.SaysO Oh.fn Oh.ts Oh.tf Oh.fc w h K) (hTB : LamX.TabB base mg (He.cT K ("Book", some "__init__")).1 (He.cT K ("Book", some "__init__")).2) {fd_law : FuncData} (F_law : Fun K "law" "law" sLaw (He.ga K "law") fd_law) :
    FnOk P w K mg base CX0 84 (He.ga K "law") fd_law ["_law_script"] (spLaw K [((He.cT K ("Book", some "__init__")).2, ("Book.__init__" : Str) ++ ".<locals>." ++ "<lambda>")]) := by
  obtain ⟨fd_is_integer, D_is_integer⟩ := c.def_ 0 (d := Oh.dG "is_integer" 2) rfl
  have F_is_integer : Fun K "is_integer" "is_integer" (top 2) (He.ga K "is_integer") fd_is_integer := He5.fun_of D_is_integer
  have b_is_integer : Binds K fd_is_integer ["value"] [] := F_is_integer.binds (ps := ["value"]) fun _ _ _ _ _ _ us hl => match us, hl with | [_], _ => rfl
  obtain ⟨fd_is_ascending, D_is_ascending⟩ := c.def_ 1 (d := Oh.dG "is_ascending" 3) rfl
  have F_is_ascending : Fun K "is_ascending" "is_ascending" (top 3) (He.ga K "is_ascending") fd_is_ascending := He5.fun_of D_is_ascending
  have b_is_ascending : Binds K fd_is_ascending ["items"] [] := F_is_ascending.binds (ps := ["items"]) fun _ _ _ _ _ _ us hl => match us, hl with | [_], _ => rfl
  obtain ⟨fd_precedes, D_precedes⟩ := c.def_ 2 (d := Oh.dG "precedes" 72) rfl
  have F_precedes : Fun K "precedes" "precedes" (top 72) (He.ga K "precedes") fd_precedes := He5.fun_of D_precedes
  have b_precedes : Binds K fd_precedes ["task", "one", "other"] [] := F_precedes.binds (ps := ["task", "one", "other"]) fun _ _ _ _ _ _ us hl => match us, hl with | [_, _, _], _ => rfl
  obtain ⟨fd_is_name, D_is_name⟩ := c.def_ 3 (d := Oh.dG "is_name" 22) rfl
  have F_is_name : Fun K "is_name" "is_name" (top 22) (He.ga K "is_name") fd_is_name := He5.fun_of D_is_name
  have b_is_name : Binds K fd_is_name ["value"] [] := F_is_name.binds (ps := ["value"]) fun _ _ _ _ _ _ us hl => match us, hl with | [_], _ => rfl
  obtain ⟨fd_are_places, D_are_places⟩ := c.def_ 4 (d := Oh.dG "are_places" 23) rfl
  have F_are_places : Fun K "are_places" "are_places" (top 23) (He.ga K "are_places") fd_are_places := He5.fun_of D_are_places
  have b_are_places : Binds K fd_are_places ["value"] [] := F_are_places.binds (ps := ["value"]) fun _ _ _ _ _ _ us hl => match us, hl with | [_], _ => rfl
  obtain ⟨fd_same_function, D_same_function⟩ := c.def_ 5 (d := Oh.dG "same_function" 25) rfl
  have F_same_function : Fun K "same_function" "same_function" (top 25) (He.ga K "same_function") fd_same_function := He5.fun_of D_same_function
  have b_same_function : Binds K fd_same_function ["function"] [] := F_same_function.binds (ps := ["function"]) fun _ _ _ _ _ _ us hl => match us, hl with | [_], _ => rfl
  obtain ⟨fd_is_form, D_is_form⟩ := c.def_ 6 (d := Oh.dG "is_form" 34) rfl
  have F_is_form : Fun K "is_form" "is_form" (top 34) (He.ga K "is_form") fd_is_form := He5.fun_of D_is_form
  have b_is_form : Binds K fd_is_form ["book", "value"] [] := F_is_form.binds (ps := ["book", "value"]) fun _ _ _ _ _ _ us hl => match us, hl with | [_, _], _ => rfl
  obtain ⟨fd_is_change, D_is_change⟩ := c.def_ 7 (d := Oh.dG "is_change" 35) rfl
  have F_is_change : Fun K "is_change" "is_change" (top 35) (He.ga K "is_change") fd_is_change := He5.fun_of D_is_change
  have b_is_change : Binds K fd_is_change ["value"] [] := F_is_change.binds (ps := ["value"]) fun _ _ _ _ _ _ us hl => match us, hl with | [_], _ => rfl
  obtain ⟨fd_is_call, D_is_call⟩ := c.def_ 8 (d := Oh.dG "is_call" 36) rfl
  have F_is_call : Fun K "is_call" "is_call" (top 36) (He.ga K "is_call") fd_is_call := He5.fun_of D_is_call
  have b_is_call : Binds K fd_is_call ["book", "name", "arguments"] [] := F_is_call.binds (ps := ["book", "name", "arguments"]) fun _ _ _ _ _ _ us hl => match us, hl with | [_, _, _], _ => rfl
  obtain ⟨fd_operands, D_operands⟩ := c.def_ 9 (d := Oh.dG "operands" 37) rfl
  have F_operands : Fun K "operands" "operands" (top 37) (He.ga K "operands") fd_operands := He5.fun_of D_operands
  have b_operands : Binds K fd_operands ["node"] [] := F_operands.binds (ps := ["node"]) fun _ _ _ _ _ _ us hl => match us, hl with | [_], _ => rfl
  obtain ⟨fd_nodes_of, D_nodes_of⟩ := c.def_ 10 (d := Oh.dG "nodes_of" 38) rfl
  have F_nodes_of : Fun K "nodes_of" "nodes_of" (top 38) (He.ga K "nodes_of") fd_nodes_of := He5.fun_of D_nodes_of
  have b_nodes_of : Binds K fd_nodes_of ["book", "value"] [] := F_nodes_of.binds (ps := ["book", "value"]) fun _ _ _ _ _ _ us hl => match us, hl with | [_, _], _ => rfl
  obtain ⟨fd_node_at, D_node_at⟩ := c.def_ 11 (d := Oh.dG "node_at" 39) rfl
  have F_node_at : Fun K "node_at" "node_at" (top 39) (He.ga K "node_at") fd_node_at := He5.fun_of D_node_at
  have b_node_at : Binds K fd_node_at ["expression", "path"] [] := F_node_at.binds (ps := ["expression", "path"]) fun _ _ _ _ _ _ us hl => match us, hl with | [_, _], _ => rfl
  obtain ⟨fd_is_open, D_is_open⟩ := c.def_ 12 (d := Oh.dG "is_open" 40) rfl
  have F_is_open : Fun K "is_open" "is_open" (top 40) (He.ga K "is_open") fd_is_open := He5.fun_of D_is_open
  have b_is_open : Binds K fd_is_open ["node"] [] := F_is_open.binds (ps := ["node"]) fun _ _ _ _ _ _ us hl => match us, hl with | [_], _ => rfl
  obtain ⟨fd_is_guard, D_is_guard⟩ := c.def_ 13 (d := Oh.dG "is_guard" 41) rfl
  have F_is_guard : Fun K "is_guard" "is_guard" (top 41) (He.ga K "is_guard") fd_is_guard := He5.fun_of D_is_guard
  have b_is_guard : Binds K fd_is_guard ["node"] [] := F_is_guard.binds (ps := ["node"]) fun _ _ _ _ _ _ us hl => match us, hl with | [_], _ => rfl
  obtain ⟨fd_is_open_path, D_is_open_path⟩ := c.def_ 14 (d := Oh.dG "is_open_path" 42) rfl
  have F_is_open_path : Fun K "is_open_path" "is_open_path" (top 42) (He.ga K "is_open_path") fd_is_open_path := He5.fun_of D_is_open_path
  have b_is_open_path : Binds K fd_is_open_path ["expression", "value"] [] := F_is_open_path.binds (ps := ["expression", "value"]) fun _ _ _ _ _ _ us hl => match us, hl with | [_, _], _ => rfl
  obtain ⟨fd_are_points, D_are_points⟩ := c.def_ 15 (d := Oh.dG "are_points" 43) rfl
  have F_are_points : Fun K "are_points" "are_points" (top 43) (He.ga K "are_points") fd_are_points := He5.fun_of D_are_points
  have b_are_points : Binds K fd_are_points ["expression", "value"] [] := F_are_points.binds (ps := ["expression", "value"]) fun _ _ _ _ _ _ us hl => match us, hl with | [_, _], _ => rfl
  obtain ⟨fd_own_steps, D_own_steps⟩ := c.def_ 16 (d := Oh.dG "own_steps" 44) rfl
  have F_own_steps : Fun K "own_steps" "own_steps" (top 44) (He.ga K "own_steps") fd_own_steps := He5.fun_of D_own_steps
  have b_own_steps : Binds K fd_own_steps ["node"] [] := F_own_steps.binds (ps := ["node"]) fun _ _ _ _ _ _ us hl => match us, hl with | [_], _ => rfl
  obtain ⟨fd_span_of, D_span_of⟩ := c.def_ 17 (d := Oh.dG "span_of" 51) rfl
  have F_span_of : Fun K "span_of" "span_of" (top 51) (He.ga K "span_of") fd_span_of := He5.fun_of D_span_of
  have b_span_of : Binds K fd_span_of ["node", "path", "first", "points"] [] := F_span_of.binds (ps := ["node", "path", "first", "points"]) fun _ _ _ _ _ _ us hl => match us, hl with | [_, _, _, _], _ => rfl
  obtain ⟨fd_is_in_order, D_is_in_order⟩ := c.def_ 18 (d := Oh.dG "is_in_order" 52) rfl
  have F_is_in_order : Fun K "is_in_order" "is_in_order" (top 52) (He.ga K "is_in_order") fd_is_in_order := He5.fun_of D_is_in_order
  have b_is_in_order : Binds K fd_is_in_order ["node"] [] := F_is_in_order.binds (ps := ["node"]) fun _ _ _ _ _ _ us hl => match us, hl with | [_], _ => rfl
  obtain ⟨fd_spans_within, D_spans_within⟩ := c.def_ 19 (d := Oh.dG "spans_within" 53) rfl
  have F_spans_within : Fun K "spans_within" "spans_within" (top 53) (He.ga K "spans_within") fd_spans_within := He5.fun_of D_spans_within
  have b_spans_within : Binds K fd_spans_within ["root"] [] := F_spans_within.binds (ps := ["root"]) fun _ _ _ _ _ _ us hl => match us, hl with | [_], _ => rfl
  obtain ⟨fd_step_of, D_step_of⟩ := c.def_ 20 (d := Oh.dG "step_of" 54) rfl
  have F_step_of : Fun K "step_of" "step_of" (top 54) (He.ga K "step_of") fd_step_of := He5.fun_of D_step_of
  have b_step_of : Binds K fd_step_of ["book", "span", "step"] [] := F_step_of.binds (ps := ["book", "span", "step"]) fun _ _ _ _ _ _ us hl => match us, hl with | [_, _, _], _ => rfl
  obtain ⟨fd_below_ahead, D_below_ahead⟩ := c.def_ 21 (d := Oh.dG "below_ahead" 55) rfl
  have F_below_ahead : Fun K "below_ahead" "below_ahead" (top 55) (He.ga K "below_ahead") fd_below_ahead := He5.fun_of D_below_ahead
  have b_below_ahead : Binds K fd_below_ahead ["span", "at"] [] := F_below_ahead.binds (ps := ["span", "at"]) fun _ _ _ _ _ _ us hl => match us, hl with | [_, _], _ => rfl
  obtain ⟨fd_joined, D_joined⟩ := c.def_ 22 (d := Oh.dG "joined" 56) rfl
  have F_joined : Fun K "joined" "joined" (top 56) (He.ga K "joined") fd_joined := He5.fun_of D_joined
  have b_joined : Binds K fd_joined ["spans"] [] := F_joined.binds (ps := ["spans"]) fun _ _ _ _ _ _ us hl => match us, hl with | [_], _ => rfl
  obtain ⟨fd_relations, D_relations⟩ := c.def_ 23 (d := Oh.dG "relations" 57) rfl
  have F_relations : Fun K "relations" "relations" (top 57) (He.ga K "relations") fd_relations := He5.fun_of D_relations
  have b_relations : Binds K fd_relations ["root"] [] := F_relations.binds (ps := ["root"]) fun _ _ _ _ _ _ us hl => match us, hl with | [_], _ => rfl
  obtain ⟨fd_unasked_within, D_unasked_within⟩ := c.def_ 24 (d := Oh.dG "unasked_within" 58) rfl
  have F_unasked_within : Fun K "unasked_within" "unasked_within" (top 58) (He.ga K "unasked_within") fd_unasked_within := He5.fun_of D_unasked_within
  have b_unasked_within : Binds K fd_unasked_within ["book", "span", "is_asked"] [] := F_unasked_within.binds (ps := ["book", "span", "is_asked"]) fun _ _ _ _ _ _ us hl => match us, hl with | [_, _, _], _ => rfl
  obtain ⟨fd_is_asked_of, D_is_asked_of⟩ := c.def_ 25 (d := Oh.dG "is_asked_of" 59) rfl
  have F_is_asked_of : Fun K "is_asked_of" "is_asked_of" (top 59) (He.ga K "is_asked_of") fd_is_asked_of := He5.fun_of D_is_asked_of
  have b_is_asked_of : Binds K fd_is_asked_of ["book", "form", "at", "is_asked"] [] := F_is_asked_of.binds (ps := ["book", "form", "at", "is_asked"]) fun _ _ _ _ _ _ us hl => match us, hl with | [_, _, _, _], _ => rfl
  obtain ⟨fd_refuse_guards, D_refuse_guards⟩ := c.def_ 26 (d := Oh.dG "refuse_guards" 61) rfl
  have F_refuse_guards : Fun K "refuse_guards" "refuse_guards" (top 61) (He.ga K "refuse_guards") fd_refuse_guards := He5.fun_of D_refuse_guards
  have b_refuse_guards : Binds K fd_refuse_guards ["task"] [] := F_refuse_guards.binds (ps := ["task"]) fun _ _ _ _ _ _ us hl => match us, hl with | [_], _ => rfl
  obtain ⟨fd_shuffles, D_shuffles⟩ := c.def_ 27 (d := Oh.dG "shuffles" 65) rfl
  have F_shuffles : Fun K "shuffles" "shuffles" (top 65) (He.ga K "shuffles") fd_shuffles := He5.fun_of D_shuffles
  have b_shuffles : Binds K fd_shuffles ["sizes"] [] := F_shuffles.binds (ps := ["sizes"]) fun _ _ _ _ _ _ us hl => match us, hl with | [_], _ => rfl
  obtain ⟨fd_count_orders, D_count_orders⟩ := c.def_ 28 (d := Oh.dG "count_orders" 64) rfl
  have F_count_orders : Fun K "count_orders" "count_orders" (top 64) (He.ga K "count_orders") fd_count_orders := He5.fun_of D_count_orders
  have b_count_orders : Binds K fd_count_orders ["task"] [] := F_count_orders.binds (ps := ["task"]) fun _ _ _ _ _ _ us hl => match us, hl with | [_], _ => rfl
  obtain ⟨fd_steps_left, D_steps_left⟩ := c.def_ 29 (d := Oh.dG "steps_left" 67) rfl
  have F_steps_left : Fun K "steps_left" "steps_left" (top 67) (He.ga K "steps_left") fd_steps_left := He5.fun_of D_steps_left
  have b_steps_left : Binds K fd_steps_left ["task"] [] := F_steps_left.binds (ps := ["task"]) fun _ _ _ _ _ _ us hl => match us, hl with | [_], _ => rfl
  obtain ⟨fd_shares, D_shares⟩ := c.def_ 30 (d := Oh.dG "shares" 68) rfl
  have F_shares : Fun K "shares" "shares" (top 68) (He.ga K "shares") fd_shares := He5.fun_of D_shares
  have b_shares : Binds K fd_shares ["span", "left", "share"] [] := F_shares.binds (ps := ["span", "left", "share"]) fun _ _ _ _ _ _ us hl => match us, hl with | [_, _, _], _ => rfl
  obtain ⟨fd_own_left, D_own_left⟩ := c.def_ 31 (d := Oh.dG "own_left" 69) rfl
  have F_own_left : Fun K "own_left" "own_left" (top 69) (He.ga K "own_left") fd_own_left := He5.fun_of D_own_left
  have b_own_left : Binds K fd_own_left ["span", "left"] [] := F_own_left.binds (ps := ["span", "left"]) fun _ _ _ _ _ _ us hl => match us, hl with | [_, _], _ => rfl
  obtain ⟨fd_take, D_take⟩ := c.def_ 32 (d := Oh.dG "take" 70) rfl
  have F_take : Fun K "take" "take" (top 70) (He.ga K "take") fd_take := He5.fun_of D_take
  have b_take : Binds K fd_take ["task", "step", "left"] [] := F_take.binds (ps := ["task", "step", "left"]) fun _ _ _ _ _ _ us hl => match us, hl with | [_, _, _], _ => rfl
  obtain ⟨fd_order_at, D_order_at⟩ := c.def_ 33 (d := Oh.dG "order_at" 66) rfl
  have F_order_at : Fun K "order_at" "order_at" (top 66) (He.ga K "order_at") fd_order_at := He5.fun_of D_order_at
  have b_order_at : Binds K fd_order_at ["task", "number"] [] := F_order_at.binds (ps := ["task", "number"]) fun _ _ _ _ _ _ us hl => match us, hl with | [_, _], _ => rfl
  obtain ⟨fd_is_order, D_is_order⟩ := c.def_ 34 (d := Oh.dG "is_order" 63) rfl
  have F_is_order : Fun K "is_order" "is_order" (top 63) (He.ga K "is_order") fd_is_order := He5.fun_of D_is_order
  have b_is_order : Binds K fd_is_order ["task", "value"] [] := F_is_order.binds (ps := ["task", "value"]) fun _ _ _ _ _ _ us hl => match us, hl with | [_, _], _ => rfl
  obtain ⟨fd__law_bag, D__law_bag⟩ := c.def_ 35 (d := Oh.dG "_law_bag" 76) rfl
  have F__law_bag : Fun K "_law_bag" "_law_bag" (top 76) (He.ga K "_law_bag") fd__law_bag := He5.fun_of D__law_bag
  have b__law_bag : Binds K fd__law_bag ["_law_script", "_law_at"] [] := F__law_bag.binds (ps := ["_law_script", "_law_at"]) fun _ _ _ _ _ _ us hl => match us, hl with | [_, _], _ => rfl
  obtain ⟨fd__law_take, D__law_take⟩ := c.def_ 36 (d := Oh.dG "_law_take" 77) rfl
  have F__law_take : Fun K "_law_take" "_law_take" (top 77) (He.ga K "_law_take") fd__law_take := He5.fun_of D__law_take
  have b__law_take : Binds K fd__law_take ["_law_bag_here", "_law_many"] [] := F__law_take.binds (ps := ["_law_bag_here", "_law_many"]) fun _ _ _ _ _ _ us hl => match us, hl with | [_, _], _ => rfl
  obtain ⟨fd__law_of, D__law_of⟩ := c.def_ 37 (d := Oh.dG "_law_of" 78) rfl
  have F__law_of : Fun K "_law_of" "_law_of" (top 78) (He.ga K "_law_of") fd__law_of := He5.fun_of D__law_of
  have b__law_of : Binds K fd__law_of ["_law_bag_here", "_law_items"] [] := F__law_of.binds (ps := ["_law_bag_here", "_law_items"]) fun _ _ _ _ _ _ us hl => match us, hl with | [_, _], _ => rfl
  obtain ⟨fd__law_some, D__law_some⟩ := c.def_ 38 (d := Oh.dG "_law_some" 79) rfl
  have F__law_some : Fun K "_law_some" "_law_some" (top 79) (He.ga K "_law_some") fd__law_some := He5.fun_of D__law_some
  have b__law_some : Binds K fd__law_some ["_law_bag_here", "_law_items"] [] := F__law_some.binds (ps := ["_law_bag_here", "_law_items"]) fun _ _ _ _ _ _ us hl => match us, hl with | [_, _], _ => rfl
  obtain ⟨fd__law_kit, D__law_kit⟩ := c.def_ 39 (d := Oh.dG "_law_kit" 80) rfl
  have F__law_kit : Fun K "_law_kit" "_law_kit" (top 80) (He.ga K "_law_kit") fd__law_kit := He5.fun_of D__law_kit
  have b__law_kit : Binds K fd__law_kit ["_law_bag_here", "_law_guards"] [] := F__law_kit.binds (ps := ["_law_bag_here", "_law_guards"]) fun _ _ _ _ _ _ us hl => match us, hl with | [_, _], _ => rfl
  obtain ⟨fd__law_book, D__law_book⟩ := c.def_ 40 (d := Oh.dG "_law_book" 81) rfl
  have F__law_book : Fun K "_law_book" "_law_book" (top 81) (He.ga K "_law_book") fd__law_book := He5.fun_of D__law_book
  have b__law_book : Binds K fd__law_book ["_law_functions"] [] := F__law_book.binds (ps := ["_law_functions"]) fun _ _ _ _ _ _ us hl => match us, hl with | [_], _ => rfl
  obtain ⟨fd__law_leaf, D__law_leaf⟩ := c.def_ 41 (d := Oh.dG "_law_leaf" 82) rfl
  have F__law_leaf : Fun K "_law_leaf" "_law_leaf" (top 82) (He.ga K "_law_leaf") fd__law_leaf := He5.fun_of D__law_leaf
  have b__law_leaf : Binds K fd__law_leaf ["_law_bag_here", "_law_kit_here", "_law_left"] [] := F__law_leaf.binds (ps := ["_law_bag_here", "_law_kit_here", "_law_left"]) fun _ _ _ _ _ _ us hl => match us, hl with | [_, _, _], _ => rfl
  obtain ⟨fd__law_guard, D__law_guard⟩ := c.def_ 42 (d := Oh.dG "_law_guard" 83) rfl
  have F__law_guard : Fun K "_law_guard" "_law_guard" (top 83) (He.ga K "_law_guard") fd__law_guard := He5.fun_of D__law_guard
  have b__law_guard : Binds K fd__law_guard ["_law_bag_here", "_law_kit_here", "_law_left", "_law_depth"] [] := F__law_guard.binds (ps := ["_law_bag_here", "_law_kit_here", "_law_left", "_law_depth"]) fun _ _ _ _ _ _ us hl => match us, hl with | [_, _, _, _], _ => rfl
  obtain ⟨fd__law_expr, D__law_expr⟩ := c.def_ 43 (d := Oh.dG "_law_expr" 84) rfl
  have F__law_expr : Fun K "_law_expr" "_law_expr" (top 84) (He.ga K "_law_expr") fd__law_expr := He5.fun_of D__law_expr
  have b__law_expr : Binds K fd__law_expr ["_law_bag_here", "_law_kit_here", "_law_left", "_law_depth"] [] := F__law_expr.binds (ps := ["_law_bag_here", "_law_kit_here", "_law_left", "_law_depth"]) fun _ _ _ _ _ _ us hl => match us, hl with | [_, _, _, _], _ => rfl
  obtain ⟨fd__law_root, D__law_root⟩ := c.def_ 44 (d := Oh.dG "_law_root" 85) rfl
  have F__law_root : Fun K "_law_root" "_law_root" (top 85) (He.ga K "_law_root") fd__law_root := He5.fun_of D__law_root
  have b__law_root : Binds K fd__law_root ["_law_bag_here", "_law_kit_here", "_law_most"] [] := F__law_root.binds (ps := ["_law_bag_here", "_law_kit_here", "_law_most"]) fun _ _ _ _ _ _ us hl => match us, hl with | [_, _, _], _ => rfl
  obtain ⟨fd__law_operands, D__law_operands⟩ := c.def_ 45 (d := Oh.dG "_law_operands" 86) rfl
  have F__law_operands : Fun K "_law_operands" "_law_operands" (top 86) (He.ga K "_law_operands") fd__law_operands := He5.fun_of D__law_operands
  have b__law_operands : Binds K fd__law_operands ["_law_node"] [] := F__law_operands.binds (ps := ["_law_node"]) fun _ _ _ _ _ _ us hl => match us, hl with | [_], _ => rfl
  obtain ⟨fd__law_nodes, D__law_nodes⟩ := c.def_ 46 (d := Oh.dG "_law_nodes" 87) rfl
  have F__law_nodes : Fun K "_law_nodes" "_law_nodes" (top 87) (He.ga K "_law_nodes") fd__law_nodes := He5.fun_of D__law_nodes
  have b__law_nodes : Binds K fd__law_nodes ["_law_node", "_law_path"] [] := F__law_nodes.binds (ps := ["_law_node", "_law_path"]) fun _ _ _ _ _ _ us hl => match us, hl with | [_, _], _ => rfl
  obtain ⟨fd__law_open, D__law_open⟩ := c.def_ 47 (d := Oh.dG "_law_open" 88) rfl
  have F__law_open : Fun K "_law_open" "_law_open" (top 88) (He.ga K "_law_open") fd__law_open := He5.fun_of D__law_open
  have b__law_open : Binds K fd__law_open ["_law_expr_here"] [] := F__law_open.binds (ps := ["_law_expr_here"]) fun _ _ _ _ _ _ us hl => match us, hl with | [_], _ => rfl
  obtain ⟨fd__law_points, D__law_points⟩ := c.def_ 48 (d := Oh.dG "_law_points" 89) rfl
  have F__law_points : Fun K "_law_points" "_law_points" (top 89) (He.ga K "_law_points") fd__law_points := He5.fun_of D__law_points
  have b__law_points : Binds K fd__law_points ["_law_bag_here", "_law_expr_here"] [] := F__law_points.binds (ps := ["_law_bag_here", "_law_expr_here"]) fun _ _ _ _ _ _ us hl => match us, hl with | [_, _], _ => rfl
  obtain ⟨fd__law_reached, D__law_reached⟩ := c.def_ 49 (d := Oh.dG "_law_reached" 90) rfl
  have F__law_reached : Fun K "_law_reached" "_law_reached" (top 90) (He.ga K "_law_reached") fd__law_reached := He5.fun_of D__law_reached
  have b__law_reached : Binds K fd__law_reached ["_law_task", "_law_told"] [] := F__law_reached.binds (ps := ["_law_task", "_law_told"]) fun _ _ _ _ _ _ us hl => match us, hl with | [_, _], _ => rfl
  obtain ⟨fd_finit, D_finit⟩ := c.def_ 51 (d := Oh.dM "Function" "__init__" "Function.__init__" (inClass (top 24) 0) [.int 0]) rfl
  obtain ⟨fd_binit, D_binit⟩ := c.def_ 52 (d := Oh.dM "Book" "__init__" "Book.__init__" (inClass (top 26) 1) []) rfl
  obtain ⟨fd_bget, D_bget⟩ := c.def_ 53 (d := Oh.dM "Book" "__getitem__" "Book.__getitem__" (inClass (top 26) 3) []) rfl
  have F_bget : Fun K "__getitem__" "Book.__getitem__" (inClass (top 26) 3) (He.ma K (He.ga K "Book") "__getitem__") fd_bget := He5.fun_of D_bget
  have b_bget : Binds K fd_bget ["self", "at"] [] := F_bget.binds (ps := ["self", "at"]) fun _ _ _ _ _ _ us hl => match us, hl with | [_, _], _ => rfl
  obtain ⟨fd_bcont, D_bcont⟩ := c.def_ 54 (d := Oh.dM "Book" "__contains__" "Book.__contains__" (inClass (top 26) 4) []) rfl
  have F_bcont : Fun K "__contains__" "Book.__contains__" (inClass (top 26) 4) (He.ma K (He.ga K "Book") "__contains__") fd_bcont := He5.fun_of D_bcont
  have b_bcont : Binds K fd_bcont ["self", "x"] [] := F_bcont.binds (ps := ["self", "x"]) fun _ _ _ _ _ _ us hl => match us, hl with | [_, _], _ => rfl
  obtain ⟨fd_tinit, D_tinit⟩ := c.def_ 55 (d := Oh.dM "Task" "__init__" "Task.__init__" (inClass (top 74) 2) []) rfl
  obtain ⟨fd_tlen, D_tlen⟩ := c.def_ 56 (d := Oh.dM "Task" "__len__" "Task.__len__" (inClass (top 74) 8) []) rfl
  have F_tlen : Fun K "__len__" "Task.__len__" (inClass (top 74) 8) (He.ma K (He.ga K "Task") "__len__") fd_tlen := He5.fun_of D_tlen
  have b_tlen : Binds K fd_tlen ["self"] [] := F_tlen.binds (ps := ["self"]) fun _ _ _ _ _ _ us hl => match us, hl with | [_], _ => rfl
  obtain ⟨fd_sinit, D_sinit⟩ := c.def_ 57 (d := Oh.dM "Span" "__init__" "Span.__init__" (inClass (top 50) 0) []) rfl
  have F_sinit : Fun K "__init__" "Span.__init__" (inClass (top 50) 0) (He.ma K (He.ga K "Span") "__init__") fd_sinit := He5.fun_of D_sinit
  have b_sinit : Binds K fd_sinit ["self", "path", "form", "below", "first", "is_fixed"] [] := F_sinit.binds (ps := ["self", "path", "form", "below", "first", "is_fixed"]) fun _ _ _ _ _ _ us hl => match us, hl with | [_, _, _, _, _, _], _ => rfl
  obtain ⟨fd_linit, D_linit⟩ := c.def_ 58 (d := Oh.dM "Layout" "__init__" "Layout.__init__" (inClass (top 60) 0) []) rfl
  have F_linit : Fun K "__init__" "Layout.__init__" (inClass (top 60) 0) (He.ma K (He.ga K "Layout") "__init__") fd_linit := He5.fun_of D_linit
  have b_linit : Binds K fd_linit ["self", "book", "expression", "points"] [] := F_linit.binds (ps := ["self", "book", "expression", "points"]) fun _ _ _ _ _ _ us hl => match us, hl with | [_, _, _, _], _ => rfl
  obtain ⟨fd_bnames, D_bnames⟩ := c.def_ 59 (d := ⟨fun K => Oh.getterOf K "Book" "names", "names", "Book.names", defArgs (inClass (top 26) 2), defBody (inClass (top 26) 2), defScope (inClass (top 26) 2), [], []⟩) rfl
  have F_bnames : Fun K "names" "Book.names" (inClass (top 26) 2) (Oh.getterOf K "Book" "names") fd_bnames := He5.fun_of D_bnames
  have b_bnames : Binds K fd_bnames ["self"] [] := F_bnames.binds (ps := ["self"]) fun _ _ _ _ _ _ us hl => match us, hl with | [_], _ => rfl
  have k_finit := kbn_finit D_finit
  have C_binit := funC_of D_binit
  have k_tinit := kbn_tinit D_tinit
  have m_Function : mg "Function" = some (.ref (He.ga K "Function")) := He.glo_ok X G (c.fact 0 (f := Oh.faF (.glo "Function")) rfl)
  have m_Book : mg "Book" = some (.ref (He.ga K "Book")) := He.glo_ok X G (c.fact 1 (f := Oh.faF (.glo "Book")) rfl)
  have m_Task : mg "Task" = some (.ref (He.ga K "Task")) := He.glo_ok X G (c.fact 2 (f := Oh.faF (.glo "Task")) rfl)
  have m_Span : mg "Span" = some (.ref (He.ga K "Span")) := He.glo_ok X G (c.fact 3 (f := Oh.faF (.glo "Span")) rfl)
  have m_Layout : mg "Layout" = some (.ref (He.ga K "Layout")) := He.glo_ok X G (c.fact 4 (f := Oh.faF (.glo "Layout")) rfl)
  have m_SIGNS : mg "SIGNS" = some (.ref (He.ga K "SIGNS")) := He.glo_ok X G (c.fact 5 (f := Oh.faF (.glo "SIGNS")) rfl)
  have m_LENGTHS : mg "LENGTHS" = some (.ref (He.ga K "LENGTHS")) := He.glo_ok X G (c.fact 6 (f := Oh.faF (.glo "LENGTHS")) rfl)
  have m_FIRST_OPERANDS : mg "FIRST_OPERANDS" = some (.ref (He.ga K "FIRST_OPERANDS")) := He.glo_ok X G (c.fact 7 (f := Oh.faF (.glo "FIRST_OPERANDS")) rfl)
  have m_OWN_STEPS : mg "OWN_STEPS" = some (.ref (He.ga K "OWN_STEPS")) := He.glo_ok X G (c.fact 8 (f := Oh.faF (.glo "OWN_STEPS")) rfl)
  have m_GUARDS : mg "GUARDS" = some (.ref (He.ga K "GUARDS")) := He.glo_ok X G (c.fact 9 (f := Oh.faF (.glo "GUARDS")) rfl)
  have m_is_integer : mg "is_integer" = some (.ref (He.ga K "is_integer")) := He.glo_ok X G (c.fact 10 (f := Oh.faF (.glo "is_integer")) rfl)
  have m_is_ascending : mg "is_ascending" = some (.ref (He.ga K "is_ascending")) := He.glo_ok X G (c.fact 11 (f := Oh.faF (.glo "is_ascending")) rfl)
  have m_precedes : mg "precedes" = some (.ref (He.ga K "precedes")) := He.glo_ok X G (c.fact 12 (f := Oh.faF (.glo "precedes")) rfl)
  have m_is_name : mg "is_name" = some (.ref (He.ga K "is_name")) := He.glo_ok X G (c.fact 13 (f := Oh.faF (.glo "is_name")) rfl)
  have m_are_places : mg "are_places" = some (.ref (He.ga K "are_places")) := He.glo_ok X G (c.fact 14 (f := Oh.faF (.glo "are_places")) rfl)
  have m_same_function : mg "same_function" = some (.ref (He.ga K "same_function")) := He.glo_ok X G (c.fact 15 (f := Oh.faF (.glo "same_function")) rfl)
  have m_is_form : mg "is_form" = some (.ref (He.ga K "is_form")) := He.glo_ok X G (c.fact 16 (f := Oh.faF (.glo "is_form")) rfl)
  have m_is_change : mg "is_change" = some (.ref (He.ga K "is_change")) := He.glo_ok X G (c.fact 17 (f := Oh.faF (.glo "is_change")) rfl)
  have m_is_call : mg "is_call" = some (.ref (He.ga K "is_call")) := He.glo_ok X G (c.fact 18 (f := Oh.faF (.glo "is_call")) rfl)
  have m_operands : mg "operands" = some (.ref (He.ga K "operands")) := He.glo_ok X G (c.fact 19 (f := Oh.faF (.glo "operands")) rfl)
  have m_nodes_of : mg "nodes_of" = some (.ref (He.ga K "nodes_of")) := He.glo_ok X G (c.fact 20 (f := Oh.faF (.glo "nodes_of")) rfl)
  have m_node_at : mg "node_at" = some (.ref (He.ga K "node_at")) := He.glo_ok X G (c.fact 21 (f := Oh.faF (.glo "node_at")) rfl)
  have m_is_open : mg "is_open" = some (.ref (He.ga K "is_open")) := He.glo_ok X G (c.fact 22 (f := Oh.faF (.glo "is_open")) rfl)
  have m_is_guard : mg "is_guard" = some (.ref (He.ga K "is_guard")) := He.glo_ok X G (c.fact 23 (f := Oh.faF (.glo "is_guard")) rfl)
  have m_is_open_path : mg "is_open_path" = some (.ref (He.ga K "is_open_path")) := He.glo_ok X G (c.fact 24 (f := Oh.faF (.glo "is_open_path")) rfl)
  have m_are_points : mg "are_points" = some (.ref (He.ga K "are_points")) := He.glo_ok X G (c.fact 25 (f := Oh.faF (.glo "are_points")) rfl)
  have m_own_steps : mg "own_steps" = some (.ref (He.ga K "own_steps")) := He.glo_ok X G (c.fact 26 (f := Oh.faF (.glo "own_steps")) rfl)
  have m_span_of : mg "span_of" = some (.ref (He.ga K "span_of")) := He.glo_ok X G (c.fact 27 (f := Oh.faF (.glo "span_of")) rfl)
  have m_is_in_order : mg "is_in_order" = some (.ref (He.ga K "is_in_order")) := He.glo_ok X G (c.fact 28 (f := Oh.faF (.glo "is_in_order")) rfl)
  have m_spans_within : mg "spans_within" = some (.ref (He.ga K "spans_within")) := He.glo_ok X G (c.fact 29 (f := Oh.faF (.glo "spans_within")) rfl)
  have m_step_of : mg "step_of" = some (.ref (He.ga K "step_of")) := He.glo_ok X G (c.fact 30 (f := Oh.faF (.glo "step_of")) rfl)
  have m_below_ahead : mg "below_ahead" = some (.ref (He.ga K "below_ahead")) := He.glo_ok X G (c.fact 31 (f := Oh.faF (.glo "below_ahead")) rfl)
  have m_joined : mg "joined" = some (.ref (He.ga K "joined")) := He.glo_ok X G (c.fact 32 (f := Oh.faF (.glo "joined")) rfl)
  have m_relations : mg "relations" = some (.ref (He.ga K "relations")) := He.glo_ok X G (c.fact 33 (f := Oh.faF (.glo "relations")) rfl)
  have m_unasked_within : mg "unasked_within" = some (.ref (He.ga K "unasked_within")) := He.glo_ok X G (c.fact 34 (f := Oh.faF (.glo "unasked_within")) rfl)
  have m_is_asked_of : mg "is_asked_of" = some (.ref (He.ga K "is_asked_of")) := He.glo_ok X G (c.fact 35 (f := Oh.faF (.glo "is_asked_of")) rfl)
  have m_refuse_guards : mg "refuse_guards" = some (.ref (He.ga K "refuse_guards")) := He.glo_ok X G (c.fact 36 (f := Oh.faF (.glo "refuse_guards")) rfl)
  have m_shuffles : mg "shuffles" = some (.ref (He.ga K "shuffles")) := He.glo_ok X G (c.fact 37 (f := Oh.faF (.glo "shuffles")) rfl)
  have m_count_orders : mg "count_orders" = some (.ref (He.ga K "count_orders")) := He.glo_ok X G (c.fact 38 (f := Oh.faF (.glo "count_orders")) rfl)
  have m_steps_left : mg "steps_left" = some (.ref (He.ga K "steps_left")) := He.glo_ok X G (c.fact 39 (f := Oh.faF (.glo "steps_left")) rfl)
  have m_shares : mg "shares" = some (.ref (He.ga K "shares")) := He.glo_ok X G (c.fact 40 (f := Oh.faF (.glo "shares")) rfl)
  have m_own_left : mg "own_left" = some (.ref (He.ga K "own_left")) := He.glo_ok X G (c.fact 41 (f := Oh.faF (.glo "own_left")) rfl)
  have m_take : mg "take" = some (.ref (He.ga K "take")) := He.glo_ok X G (c.fact 42 (f := Oh.faF (.glo "take")) rfl)
  have m_order_at : mg "order_at" = some (.ref (He.ga K "order_at")) := He.glo_ok X G (c.fact 43 (f := Oh.faF (.glo "order_at")) rfl)
  have m_is_order : mg "is_order" = some (.ref (He.ga K "is_order")) := He.glo_ok X G (c.fact 44 (f := Oh.faF (.glo "is_order")) rfl)
  have m__law_bag : mg "_law_bag" = some (.ref (He.ga K "_law_bag")) := He.glo_ok X G (c.fact 45 (f := Oh.faF (.glo "_law_bag")) rfl)
  have m__law_take : mg "_law_take" = some (.ref (He.ga K "_law_take")) := He.glo_ok X G (c.fact 46 (f := Oh.faF (.glo "_law_take")) rfl)
  have m__law_of : mg "_law_of" = some (.ref (He.ga K "_law_of")) := He.glo_ok X G (c.fact 47 (f := Oh.faF (.glo "_law_of")) rfl)
  have m__law_some : mg "_law_some" = some (.ref (He.ga K "_law_some")) := He.glo_ok X G (c.fact 48 (f := Oh.faF (.glo "_law_some")) rfl)
  have m__law_kit : mg "_law_kit" = some (.ref (He.ga K "_law_kit")) := He.glo_ok X G (c.fact 49 (f := Oh.faF (.glo "_law_kit")) rfl)
  have m__law_book : mg "_law_book" = some (.ref (He.ga K "_law_book")) := He.glo_ok X G (c.fact 50 (f := Oh.faF (.glo "_law_book")) rfl)
  have m__law_leaf : mg "_law_leaf" = some (.ref (He.ga K "_law_leaf")) := He.glo_ok X G (c.fact 51 (f := Oh.faF (.glo "_law_leaf")) rfl)
  have m__law_guard : mg "_law_guard" = some (.ref (He.ga K "_law_guard")) := He.glo_ok X G (c.fact 52 (f := Oh.faF (.glo "_law_guard")) rfl)
  have m__law_expr : mg "_law_expr" = some (.ref (He.ga K "_law_expr")) := He.glo_ok X G (c.fact 53 (f := Oh.faF (.glo "_law_expr")) rfl)
  have m__law_root : mg "_law_root" = some (.ref (He.ga K "_law_root")) := He.glo_ok X G (c.fact 54 (f := Oh.faF (.glo "_law_root")) rfl)
  have m__law_operands : mg "_law_operands" = some (.ref (He.ga K "_law_operands")) := He.glo_ok X G (c.fact 55 (f := Oh.faF (.glo "_law_operands")) rfl)
  have m__law_nodes : mg "_law_nodes" = some (.ref (He.ga K "_law_nodes")) := He.glo_ok X G (c.fact 56 (f := Oh.faF (.glo "_law_nodes")) rfl)
  have m__law_open : mg "_law_open" = some (.ref (He.ga K "_law_open")) := He.glo_ok X G (c.fact 57 (f := Oh.faF (.glo "_law_open")) rfl)
  have m__law_points : mg "_law_points" = some (.ref (He.ga K "_law_points")) := He.glo_ok X G (c.fact 58 (f := Oh.faF (.glo "_law_points")) rfl)
  have m__law_reached : mg "_law_reached" = some (.ref (He.ga K "_law_reached")) := He.glo_ok X G (c.fact 59 (f := Oh.faF (.glo "_law_reached")) rfl)
  have m_law : mg "law" = some (.ref (He.ga K "law")) := He.glo_ok X G (c.fact 60 (f := Oh.faF (.glo "law")) rfl)
  have n_tuple : mg "tuple" = none := He.free_ok X G (c.fact 61 (f := Oh.faF (.free "tuple")) rfl)
  have n_sorted : mg "sorted" = none := He.free_ok X G (c.fact 62 (f := Oh.faF (.free "sorted")) rfl)
  have n_len : mg "len" = none := He.free_ok X G (c.fact 63 (f := Oh.faF (.free "len")) rfl)
  have n_isinstance : mg "isinstance" = none := He.free_ok X G (c.fact 64 (f := Oh.faF (.free "isinstance")) rfl)
  have n_int : mg "int" = none := He.free_ok X G (c.fact 65 (f := Oh.faF (.free "int")) rfl)
  have n_bool : mg "bool" = none := He.free_ok X G (c.fact 66 (f := Oh.faF (.free "bool")) rfl)
  have n_all : mg "all" = none := He.free_ok X G (c.fact 67 (f := Oh.faF (.free "all")) rfl)
  have n_range : mg "range" = none := He.free_ok X G (c.fact 68 (f := Oh.faF (.free "range")) rfl)
  have n_max : mg "max" = none := He.free_ok X G (c.fact 69 (f := Oh.faF (.free "max")) rfl)
  have n_min : mg "min" = none := He.free_ok X G (c.fact 70 (f := Oh.faF (.free "min")) rfl)
  have n_enumerate : mg "enumerate" = none := He.free_ok X G (c.fact 71 (f := Oh.faF (.free "enumerate")) rfl)
  have n_str : mg "str" = none := He.free_ok X G (c.fact 72 (f := Oh.faF (.free "str")) rfl)
  have n_abs : mg "abs" = none := He.free_ok X G (c.fact 73 (f := Oh.faF (.free "abs")) rfl)
  have n_sum : mg "sum" = none := He.free_ok X G (c.fact 74 (f := Oh.faF (.free "sum")) rfl)
  have n_list : mg "list" = none := He.free_ok X G (c.fact 75 (f := Oh.faF (.free "list")) rfl)
  obtain ⟨t_MOST_LETTERS, m_MOST_LETTERS⟩ := He.int_ok X G (c.fact 76 (f := Oh.faF (.int "MOST_LETTERS" 8)) rfl)
  obtain ⟨t_MOST_PLACES, m_MOST_PLACES⟩ := He.int_ok X G (c.fact 77 (f := Oh.faF (.int "MOST_PLACES" 4)) rfl)
  obtain ⟨t_MOST_ARGUMENTS, m_MOST_ARGUMENTS⟩ := He.int_ok X G (c.fact 78 (f := Oh.faF (.int "MOST_ARGUMENTS" 3)) rfl)
  obtain ⟨t_LARGEST, m_LARGEST⟩ := He.int_ok X G (c.fact 79 (f := Oh.faF (.int "LARGEST" 999999)) rfl)
  obtain ⟨t_LETTERS, m_LETTERS⟩ := He.str_ok X G (c.fact 80 (f := Oh.faF (.str "LETTERS" "abcdefghijklmnopqrstuvwxyz")) rfl)
  have cls_Function := He.cls_ok (c.fact 81 (f := Oh.faF (.cls "Function")) rfl)
  have mkr_Function := He.mkr_ok (c.fact 86 (f := Oh.faF (.mkr "Function")) rfl)
  have cls_Book := He.cls_ok (c.fact 82 (f := Oh.faF (.cls "Book")) rfl)
  have mkr_Book := He.mkr_ok (c.fact 87 (f := Oh.faF (.mkr "Book")) rfl)
  have cls_Task := He.cls_ok (c.fact 83 (f := Oh.faF (.cls "Task")) rfl)
  have mkr_Task := He.mkr_ok (c.fact 88 (f := Oh.faF (.mkr "Task")) rfl)
  have cls_Span := He.cls_ok (c.fact 84 (f := Oh.faF (.cls "Span")) rfl)
  have mkr_Span := He.mkr_ok (c.fact 89 (f := Oh.faF (.mkr "Span")) rfl)
  have cls_Layout := He.cls_ok (c.fact 85 (f := Oh.faF (.cls "Layout")) rfl)
  have mkr_Layout := He.mkr_ok (c.fact 90 (f := Oh.faF (.mkr "Layout")) rfl)
  have no_Function_name := He.noat_ok (c.fact 91 (f := Oh.faF (.noat "Function" "name")) rfl)
  have no_Function_arguments := He.noat_ok (c.fact 92 (f := Oh.faF (.noat "Function" "arguments")) rfl)
  have no_Function_reads := He.noat_ok (c.fact 93 (f := Oh.faF (.noat "Function" "reads")) rfl)
  have no_Function_stores := He.noat_ok (c.fact 94 (f := Oh.faF (.noat "Function" "stores")) rfl)
  have no_Book_functions := He.noat_ok (c.fact 95 (f := Oh.faF (.noat "Book" "functions")) rfl)
  have no_Task_book := He.noat_ok (c.fact 96 (f := Oh.faF (.noat "Task" "book")) rfl)
  have no_Task_expression := He.noat_ok (c.fact 97 (f := Oh.faF (.noat "Task" "expression")) rfl)
  have no_Task_points := He.noat_ok (c.fact 98 (f := Oh.faF (.noat "Task" "points")) rfl)
  have no_Task_rows := He.noat_ok (c.fact 99 (f := Oh.faF (.noat "Task" "rows")) rfl)
  have no_Task_layout := He.noat_ok (c.fact 100 (f := Oh.faF (.noat "Task" "layout")) rfl)
  have no_Task___bool__ := He.noat_ok (c.fact 101 (f := Oh.faF (.noat "Task" "__bool__")) rfl)
  have no_Span_path := He.noat_ok (c.fact 102 (f := Oh.faF (.noat "Span" "path")) rfl)
  have no_Span_form := He.noat_ok (c.fact 103 (f := Oh.faF (.noat "Span" "form")) rfl)
  have no_Span_below := He.noat_ok (c.fact 104 (f := Oh.faF (.noat "Span" "below")) rfl)
  have no_Span_is_fixed := He.noat_ok (c.fact 105 (f := Oh.faF (.noat "Span" "is_fixed")) rfl)
  have no_Span_size := He.noat_ok (c.fact 106 (f := Oh.faF (.noat "Span" "size")) rfl)
  have no_Span_own := He.noat_ok (c.fact 107 (f := Oh.faF (.noat "Span" "own")) rfl)
  have no_Span_inside := He.noat_ok (c.fact 108 (f := Oh.faF (.noat "Span" "inside")) rfl)
  have no_Span_is_idle := He.noat_ok (c.fact 109 (f := Oh.faF (.noat "Span" "is_idle")) rfl)
  have no_Layout_root := He.noat_ok (c.fact 110 (f := Oh.faF (.noat "Layout" "root")) rfl)
  have no_Layout_spans := He.noat_ok (c.fact 111 (f := Oh.faF (.noat "Layout" "spans")) rfl)
  have no_Layout_owners := He.noat_ok (c.fact 112 (f := Oh.faF (.noat "Layout" "owners")) rfl)
  have no_Layout_steps := He.noat_ok (c.fact 113 (f := Oh.faF (.noat "Layout" "steps")) rfl)
  have no_Layout_befores := He.noat_ok (c.fact 114 (f := Oh.faF (.noat "Layout" "befores")) rfl)
  have no_Layout_besides := He.noat_ok (c.fact 115 (f := Oh.faF (.noat "Layout" "besides")) rfl)
  have no_Layout_guard := He.noat_ok (c.fact 116 (f := Oh.faF (.noat "Layout" "guard")) rfl)
  have no_Layout_stored := He.noat_ok (c.fact 117 (f := Oh.faF (.noat "Layout" "stored")) rfl)
  have no_Layout_unasked := He.noat_ok (c.fact 118 (f := Oh.faF (.noat "Layout" "unasked")) rfl)
  have me_Book___contains__ := He.meth_ok (c.fact 119 (f := Oh.faF (.meth "Book" "__contains__")) rfl)
  have me_Book___getitem__ := He.meth_ok (c.fact 120 (f := Oh.faF (.meth "Book" "__getitem__")) rfl)
  have me_Task___len__ := He.meth_ok (c.fact 121 (f := Oh.faF (.meth "Task" "__len__")) rfl)
  have rd_Book := Oh.readB_ok (c.fact 122 (f := Oh.readB "Book") rfl)
  have rd_Task := Oh.readB_ok (c.fact 123 (f := Oh.readB "Task") rfl)
  obtain ⟨u6, c_MOST⟩ := Oh.conCB_ok (c.fact 124 (f := Oh.conCB "Book" "MOST" (.int 6)) rfl)
  obtain ⟨u200, c_NODES⟩ := Oh.conCB_ok (c.fact 125 (f := Oh.conCB "Task" "MOST_NODES" (.int 200)) rfl)
  obtain ⟨u30, c_DEPTH⟩ := Oh.conCB_ok (c.fact 126 (f := Oh.conCB "Task" "MOST_DEPTH" (.int 30)) rfl)
  have ti := isi_ok (c.fact 127 (f := Oh.isiB "Function") rfl)
  have pn := Oh.propB_ok (c.fact 128 (f := Oh.propB "Book" "names") rfl)
  have fg : PySem.W.fnIn K (He.ma K (He.ga K "Book") "__getitem__") = true := (c.fact 129 (f := Oh.fnInB "Book" "__getitem__") rfl)
  have sg := fun H => Oh.tupAB_ok (H := H) (c.fact 130 (f := Oh.tupAB (fun K => He.ga K "SIGNS") [.str "+", .str "-", .str "*", .str "<"]) rfl)
  have gg := fun H => Oh.tupAB_ok (H := H) (c.fact 131 (f := Oh.tupAB (fun K => He.ga K "GUARDS") [.str "and", .str "or", .str "choose"]) rfl)
  have tu_read := fun H => Oh.tupAB_ok (H := H) (c.fact 132 (f := Oh.tupAB (fun K => Oh.vAt K (He.ga K "OWN_STEPS") "read") [.str "read"]) rfl)
  have tu_store := fun H => Oh.tupAB_ok (H := H) (c.fact 133 (f := Oh.tupAB (fun K => Oh.vAt K (He.ga K "OWN_STEPS") "store") [.str "store"]) rfl)
  have tu_step := fun H => Oh.tupAB_ok (H := H) (c.fact 134 (f := Oh.tupAB (fun K => Oh.vAt K (He.ga K "OWN_STEPS") "step") [.str "read", .str "store"]) rfl)
  have tu_call := fun H => Oh.tupAB_ok (H := H) (c.fact 135 (f := Oh.tupAB (fun K => Oh.vAt K (He.ga K "OWN_STEPS") "call") [.str "call"]) rfl)
  have tab0 : ∃ es n, KDict K w (He.ga K "LENGTHS") es n := c.tab 0 (t := (fun K => He.ga K "LENGTHS", Oh.lens.map (·.1))) rfl
  have tab1 : ∃ es n, KDict K w (He.ga K "FIRST_OPERANDS") es n := c.tab 1 (t := (fun K => He.ga K "FIRST_OPERANDS", Oh.firsts.map (·.1))) rfl
  have tab2 : ∃ es n, KDict K w (He.ga K "OWN_STEPS") es n := c.tab 2 (t := (fun K => He.ga K "OWN_STEPS", Oh.owns)) rfl
  have l_read := Oh.kdct_ok tab0 (c.fact 136 (f := Oh.dValB "LENGTHS" "read" fun _ => .int 2) rfl)
  have l_store := Oh.kdct_ok tab0 (c.fact 137 (f := Oh.dValB "LENGTHS" "store" fun _ => .int 3) rfl)
  have l_step := Oh.kdct_ok tab0 (c.fact 138 (f := Oh.dValB "LENGTHS" "step" fun _ => .int 4) rfl)
  have l_op := Oh.kdct_ok tab0 (c.fact 139 (f := Oh.dValB "LENGTHS" "op" fun _ => .int 4) rfl)
  have l_call := Oh.kdct_ok tab0 (c.fact 140 (f := Oh.dValB "LENGTHS" "call" fun _ => .int 3) rfl)
  have l_then := Oh.kdct_ok tab0 (c.fact 141 (f := Oh.dValB "LENGTHS" "then" fun _ => .int 3) rfl)
  have l_and := Oh.kdct_ok tab0 (c.fact 142 (f := Oh.dValB "LENGTHS" "and" fun _ => .int 3) rfl)
  have l_or := Oh.kdct_ok tab0 (c.fact 143 (f := Oh.dValB "LENGTHS" "or" fun _ => .int 3) rfl)
  have l_choose := Oh.kdct_ok tab0 (c.fact 144 (f := Oh.dValB "LENGTHS" "choose" fun _ => .int 4) rfl)
  have f_read := Oh.kdct_ok tab1 (c.fact 145 (f := Oh.dValB "FIRST_OPERANDS" "read" fun _ => .int 2) rfl)
  have f_store := Oh.kdct_ok tab1 (c.fact 146 (f := Oh.dValB "FIRST_OPERANDS" "store" fun _ => .int 2) rfl)
  have f_step := Oh.kdct_ok tab1 (c.fact 147 (f := Oh.dValB "FIRST_OPERANDS" "step" fun _ => .int 4) rfl)
  have f_op := Oh.kdct_ok tab1 (c.fact 148 (f := Oh.dValB "FIRST_OPERANDS" "op" fun _ => .int 2) rfl)
  have f_then := Oh.kdct_ok tab1 (c.fact 149 (f := Oh.dValB "FIRST_OPERANDS" "then" fun _ => .int 1) rfl)
  have f_and := Oh.kdct_ok tab1 (c.fact 150 (f := Oh.dValB "FIRST_OPERANDS" "and" fun _ => .int 1) rfl)
  have f_or := Oh.kdct_ok tab1 (c.fact 151 (f := Oh.dValB "FIRST_OPERANDS" "or" fun _ => .int 1) rfl)
  have f_choose := Oh.kdct_ok tab1 (c.fact 152 (f := Oh.dValB "FIRST_OPERANDS" "choose" fun _ => .int 1) rfl)
  have o_read := Oh.kdct_ok tab2 (c.fact 153 (f := Oh.dValB "OWN_STEPS" "read" fun K => .ref (Oh.vAt K (He.ga K "OWN_STEPS") "read")) rfl)
  have o_store := Oh.kdct_ok tab2 (c.fact 154 (f := Oh.dValB "OWN_STEPS" "store" fun K => .ref (Oh.vAt K (He.ga K "OWN_STEPS") "store")) rfl)
  have o_step := Oh.kdct_ok tab2 (c.fact 155 (f := Oh.dValB "OWN_STEPS" "step" fun K => .ref (Oh.vAt K (He.ga K "OWN_STEPS") "step")) rfl)
  have o_call := Oh.kdct_ok tab2 (c.fact 156 (f := Oh.dValB "OWN_STEPS" "call" fun K => .ref (Oh.vAt K (He.ga K "OWN_STEPS") "call")) rfl)
  have z_op := Oh.kmiss_ok tab2 (c.fact 157 (f := Oh.dMissB "OWN_STEPS" "op") rfl)
  have z_then := Oh.kmiss_ok tab2 (c.fact 158 (f := Oh.dMissB "OWN_STEPS" "then") rfl)
  have z_and := Oh.kmiss_ok tab2 (c.fact 159 (f := Oh.dMissB "OWN_STEPS" "and") rfl)
  have z_or := Oh.kmiss_ok tab2 (c.fact 160 (f := Oh.dMissB "OWN_STEPS" "or") rfl)
  have z_choose := Oh.kmiss_ok tab2 (c.fact 161 (f := Oh.dMissB "OWN_STEPS" "choose") rfl)
  have G_is_integer := ok_isint (P := P) (w := w) (mg := mg) (base := base) F_is_integer n_int n_bool n_isinstance
  have G_is_ascending := ok_asc (P := P) (w := w) (mg := mg) (base := base) F_is_ascending n_all n_range n_len
  have G_is_name := ok_name (P := P) (w := w) (mg := mg) (base := base) F_is_name n_all n_len n_str n_isinstance m_MOST_LETTERS m_LETTERS
  have G_are_places := ok_places F_are_places n_all n_len n_tuple n_isinstance m_MOST_PLACES G_is_name F_is_name.kp b_is_name m_is_name G_is_ascending F_is_ascending.kp b_is_ascending m_is_ascending
  have TF : TxF K (He.ga K "Function") := ⟨cls_Function, no_Function_name, no_Function_arguments, no_Function_reads, no_Function_stores⟩
  have TB : TxB K (He.ga K "Book") (.type "type") := ⟨cls_Book, no_Book_functions, rd_Book⟩
  have TT : TxT K (He.ga K "Task") (.type "type") := ⟨cls_Task, no_Task_book, no_Task_expression, no_Task_points, no_Task_rows, no_Task_layout, rd_Task⟩
  have TS : TxS K (He.ga K "Span") := ⟨cls_Span, no_Span_path, no_Span_form, no_Span_below, no_Span_is_fixed, no_Span_size, no_Span_own, no_Span_inside, no_Span_is_idle⟩
  have TL : TxL K (He.ga K "Layout") := ⟨cls_Layout, no_Layout_root, no_Layout_spans, no_Layout_owners, no_Layout_steps, no_Layout_befores, no_Layout_besides, no_Layout_guard, no_Layout_stored, no_Layout_unasked⟩
  have TG : TxG K (He.ga K "GUARDS") := ⟨gg⟩
  have G_finit := ok_finit D_finit TF m_MOST_ARGUMENTS G_is_name F_is_name.kp b_is_name m_is_name G_is_integer F_is_integer.kp b_is_integer m_is_integer G_are_places F_are_places.kp b_are_places m_are_places
  have G_same_function := ok_same F_same_function TF mkr_Function m_Function G_finit k_finit
  have G_binit := ok_binit (T := [((He.cT K ("Book", some "__init__")).2, ("Book.__init__" : Str) ++ ".<locals>." ++ "<lambda>")]) C_binit TF ti TB m_Function m_Book c_MOST n_enumerate n_isinstance n_len n_sorted n_tuple hTB List.mem_cons_self (fun p hp _ => by rw [List.mem_singleton.mp hp]) G_same_function F_same_function.kp b_same_function m_same_function
  have G_bnames := ok_bnames (P := P) (w := w) (mg := mg) (base := base) F_bnames TF TB n_tuple
  have G_bcont := ok_bcont F_bcont TB pn G_bnames b_bnames
  have G_bget := ok_bget F_bget TF TB G_same_function F_same_function.kp b_same_function m_same_function
  have Dc : Dun K (He.ga K "Book") "__contains__" _ := ⟨me_Book___contains__.at_, me_Book___contains__.fn⟩
  have Dg : Dun K (He.ga K "Book") "__getitem__" _ := ⟨me_Book___getitem__.at_, me_Book___getitem__.fn⟩
  have G_is_change := ok_change F_is_change G_is_integer F_is_integer.kp b_is_integer m_is_integer
  have G_is_call := ok_iscall F_is_call TF n_tuple n_isinstance n_len G_bcont Dc b_bcont G_bget Dg fg b_bget
  have TE : TxE K w (He.ga K "LENGTHS") (He.ga K "FIRST_OPERANDS") (He.ga K "SIGNS") := by
    refine ⟨fun k => ?_, tab0.choose_spec.choose_spec.low, fun k hk => ?_, sg⟩
    · cases k
      · exact l_read
      · exact l_store
      · exact l_step
      · exact l_op
      · exact l_call
      · exact l_then
      · exact l_and
      · exact l_or
      · exact l_choose
    · cases k
      · exact f_read
      · exact f_store
      · exact f_step
      · exact f_op
      · cases hk
      · exact f_then
      · exact f_and
      · exact f_or
      · exact f_choose
  have TO2 : TxO2 K w (He.ga K "OWN_STEPS") := by
    refine ⟨tab2.choose_spec.choose_spec.low, fun k hk => ?_, fun k hk => ?_⟩
    · cases k
      · exact ⟨_, o_read, tu_read⟩
      · exact ⟨_, o_store, tu_store⟩
      · exact ⟨_, o_step, tu_step⟩
      · exact absurd rfl hk
      · exact ⟨_, o_call, tu_call⟩
      all_goals exact absurd rfl hk
    · cases k
      · cases hk
      · cases hk
      · cases hk
      · exact z_op
      · cases hk
      · exact z_then
      · exact z_and
      · exact z_or
      · exact z_choose
  have G_is_form := ok_form F_is_form TE n_tuple n_str n_isinstance n_len m_LARGEST m_LENGTHS m_SIGNS G_is_integer F_is_integer.kp b_is_integer m_is_integer G_is_name F_is_name.kp b_is_name m_is_name G_is_change F_is_change.kp b_is_change m_is_change G_is_call F_is_call.kp b_is_call m_is_call
  have G_operands := ok_ops F_operands TE m_FIRST_OPERANDS G_is_integer F_is_integer.kp b_is_integer m_is_integer
  have G_nodes_of := ok_nodesof F_nodes_of n_enumerate n_len G_is_form F_is_form.kp b_is_form m_is_form G_operands F_operands.kp b_operands m_operands
  have G_node_at := ok_nodeat F_node_at n_tuple n_isinstance n_len G_is_integer F_is_integer.kp b_is_integer m_is_integer G_operands F_operands.kp b_operands m_operands
  have G_is_open := ok_isopen F_is_open n_len G_is_integer F_is_integer.kp b_is_integer m_is_integer
  have G_is_open_path := ok_isopenpath F_is_open_path G_node_at F_node_at.kp b_node_at m_node_at G_is_open F_is_open.kp b_is_open m_is_open
  have G_are_points := ok_arepoints F_are_points n_all n_tuple n_isinstance G_is_open_path F_is_open_path.kp b_is_open_path m_is_open_path G_is_ascending F_is_ascending.kp b_is_ascending m_is_ascending
  have G_is_guard := ok_isguard F_is_guard TG m_GUARDS G_is_integer F_is_integer.kp b_is_integer m_is_integer
  have G_is_in_order := ok_isinorder F_is_in_order G_is_integer F_is_integer.kp b_is_integer m_is_integer G_is_guard F_is_guard.kp b_is_guard m_is_guard
  have G_kinds := ok_kinds F_own_steps TO2 m_OWN_STEPS G_is_integer F_is_integer.kp b_is_integer m_is_integer
  have G_sinit := fun mk => ok_sinit (mk := mk) D_sinit TS n_sum n_len n_tuple n_range G_kinds F_own_steps.kp b_own_steps m_own_steps n_all G_is_guard F_is_guard.kp b_is_guard m_is_guard
  have G_joined := fun mk => ok_joined (P := P) (w := w) (mg := mg) (base := base) (mk := mk) F_joined TS
  have G_below_ahead := fun mk => ok_below (mk := mk) F_below_ahead TS n_min G_is_guard F_is_guard.kp b_is_guard m_is_guard
  have G_span_of : ∀ N, FnOk P w K mg base CX0 (N + 4) (He.ga K "span_of") fd_span_of ["node", "path", "first", "points"] (spSpanOf K (He.ga K "Span") N) := by
    intro N
    induction N with
    | zero => exact fn_none (no_spanof rfl)
    | succ n ih => exact ok_spanof F_span_of (Nat.le_add_left _ _) TS n_enumerate n_tuple G_operands F_operands.kp b_operands m_operands ih F_span_of.kp b_span_of m_span_of G_is_in_order F_is_in_order.kp b_is_in_order m_is_in_order mkr_Span m_Span G_sinit b_sinit
  have G_spans_within := ok_within (P := P) (w := w) (mg := mg) (base := base) F_spans_within TS n_len
  have G_step_of := ok_stepof F_step_of TS TF G_kinds F_own_steps.kp b_own_steps m_own_steps G_bget Dg fg b_bget
  have G_relations := ok_rel F_relations TS n_len n_tuple n_enumerate G_joined F_joined.kp b_joined m_joined G_below_ahead F_below_ahead.kp b_below_ahead m_below_ahead
  have G_is_asked_of := ok_askof F_is_asked_of TF n_len G_is_guard F_is_guard.kp b_is_guard m_is_guard G_bget Dg fg b_bget
  have G_unasked_within : ∀ N, FnOk P w K mg base CX0 (N + 8) (He.ga K "unasked_within") fd_unasked_within ["book", "span", "is_asked"] (spUnask (He.ga K "Function") (He.ga K "Book") (He.ga K "Span") N) := by
    intro N
    induction N with
    | zero => exact fn_none (no_unask rfl)
    | succ n ih => exact ok_unask F_unasked_within (Nat.le_add_left _ _) TS n_enumerate G_is_asked_of F_is_asked_of.kp b_is_asked_of m_is_asked_of ih F_unasked_within.kp b_unasked_within m_unasked_within
  have G_linit := ok_linit D_linit TS TL n_len n_tuple n_range n_enumerate (G_span_of 25) F_span_of.kp b_span_of m_span_of G_spans_within F_spans_within.kp b_spans_within m_spans_within G_is_guard F_is_guard.kp b_is_guard m_is_guard G_step_of F_step_of.kp b_step_of m_step_of G_relations F_relations.kp b_relations m_relations n_sum (G_unasked_within 25) F_unasked_within.kp b_unasked_within m_unasked_within
  have G_tinit := ok_tinit D_tinit TT m_Task c_NODES c_DEPTH n_len n_max n_tuple G_nodes_of F_nodes_of.kp b_nodes_of m_nodes_of G_are_points F_are_points.kp b_are_points m_are_points mkr_Layout m_Layout G_linit b_linit
  have G_tlen := ok_tlen (P := P) (w := w) (mg := mg) (base := base) (CF := He.ga K "Function") (CB := He.ga K "Book") (CS := He.ga K "Span") (CL := He.ga K "Layout") F_tlen TT TL n_len
  have Dl : Dun K (He.ga K "Task") "__len__" _ := ⟨me_Task___len__.at_, me_Task___len__.fn⟩
  have G_precedes := ok_prec F_precedes TT TL n_len G_is_integer F_is_integer.kp b_is_integer m_is_integer G_tlen Dl b_tlen
  have G__law_take := ok_take (P := P) (w := w) (mg := mg) (base := base) F__law_take n_int
  have G__law_bag := ok_bag (P := P) (w := w) (mg := mg) (base := base) F__law_bag n_int n_abs n_len
  have G__law_of := ok_of F__law_of G__law_take F__law_take.kp b__law_take m__law_take n_len
  have G__law_some := ok_some F__law_some G__law_take F__law_take.kp b__law_take m__law_take n_tuple n_sorted
  have G__law_kit := ok_kit F__law_kit G__law_take F__law_take.kp b__law_take m__law_take G__law_of F__law_of.kp b__law_of m__law_of G__law_some F__law_some.kp b__law_some m__law_some
  have G__law_book := ok_lbook F__law_book TF mkr_Function m_Function mkr_Book m_Book n_len G_finit k_finit G_binit
  have G__law_leaf := ok_leaf F__law_leaf G__law_take F__law_take.kp b__law_take m__law_take G__law_of F__law_of.kp b__law_of m__law_of
  have G__law_expr : ∀ N, FnOk P w K mg base CX0 (3 + 2 * N) (He.ga K "_law_expr") fd__law_expr ["_law_bag_here", "_law_kit_here", "_law_left", "_law_depth"] (spExpr N) := by
    intro N
    induction N with
    | zero => exact expr_none rfl
    | succ n ih => exact ok_expr F__law_expr (Nat.le_add_right _ _) n_range n_tuple G__law_take F__law_take.kp b__law_take m__law_take G__law_of F__law_of.kp b__law_of m__law_of G__law_leaf F__law_leaf.kp b__law_leaf m__law_leaf ih F__law_expr.kp b__law_expr m__law_expr (ok_guard F__law_guard (Nat.le_trans (by decide) (Nat.le_add_right 3 _)) G__law_of F__law_of.kp b__law_of m__law_of ih F__law_expr.kp b__law_expr m__law_expr) F__law_guard.kp b__law_guard m__law_guard
  have G__law_root := ok_root F__law_root G__law_take F__law_take.kp b__law_take m__law_take G__law_of F__law_of.kp b__law_of m__law_of (G__law_expr 5) F__law_expr.kp b__law_expr m__law_expr
  have G__law_operands := ok_operands (P := P) (w := w) (mg := mg) (base := base) F__law_operands n_int n_isinstance
  have G__law_nodes : ∀ N, FnOk P w K mg base CX0 (1 + N) (He.ga K "_law_nodes") fd__law_nodes ["_law_node", "_law_path"] (spNodes N) := by
    intro N
    induction N with
    | zero => exact fn_none (no_nodes rfl)
    | succ n ih => exact ok_nodes F__law_nodes (Nat.le_add_right _ _) n_enumerate G__law_operands F__law_operands.kp b__law_operands m__law_operands ih F__law_nodes.kp b__law_nodes m__law_nodes
  have G__law_open := ok_open F__law_open (by decide) n_int n_isinstance n_len n_sorted (G__law_nodes 80) F__law_nodes.kp b__law_nodes m__law_nodes
  have G__law_points := ok_points F__law_points (by decide) n_tuple G__law_take F__law_take.kp b__law_take m__law_take G__law_open F__law_open.kp b__law_open m__law_open
  have G_refuse_guards := ok_refg (P := P) (w := w) (mg := mg) (base := base) (CF := He.ga K "Function") (CB := He.ga K "Book") (CS := He.ga K "Span") (CL := He.ga K "Layout") F_refuse_guards TT TL
  have G_shuffles := ok_shuf (P := P) (w := w) (mg := mg) (base := base) F_shuffles n_range
  have G_count_orders := ok_count F_count_orders TT TL TS G_refuse_guards F_refuse_guards.kp b_refuse_guards m_refuse_guards G_shuffles F_shuffles.kp b_shuffles m_shuffles
  have G_steps_left := ok_left (P := P) (w := w) (mg := mg) (base := base) (CF := He.ga K "Function") (CB := He.ga K "Book") (CS := He.ga K "Span") (CL := He.ga K "Layout") F_steps_left TT TL TS
  have G_own_left := ok_ownl (P := P) (w := w) (mg := mg) (base := base) F_own_left TS
  have G_take := ok_takes (P := P) (w := w) (mg := mg) (base := base) (CF := He.ga K "Function") (CB := He.ga K "Book") (CS := He.ga K "Span") (CL := He.ga K "Layout") F_take TT TL TS n_len n_range
  have G_shares := ok_shares (P := P) (w := w) (mg := mg) (base := base) F_shares TS n_sum
  have G_order_at := ok_ordat F_order_at TT TL TS n_len n_tuple G_is_integer F_is_integer.kp b_is_integer m_is_integer G_count_orders F_count_orders.kp b_count_orders m_count_orders G_steps_left F_steps_left.kp b_steps_left m_steps_left G_shares F_shares.kp b_shares m_shares G_own_left F_own_left.kp b_own_left m_own_left G_take F_take.kp b_take m_take G_tlen Dl b_tlen
  have G_is_order := ok_isord F_is_order TT TL n_len n_tuple n_isinstance G_is_integer F_is_integer.kp b_is_integer m_is_integer G_refuse_guards F_refuse_guards.kp b_refuse_guards m_refuse_guards
  have G__law_reached := ok_reach F__law_reached n_len n_range n_tuple G_is_order F_is_order.kp b_is_order m_is_order
  exact ok_law F_law n_range n_max n_min n_len n_sorted G__law_bag F__law_bag.kp b__law_bag m__law_bag G__law_take F__law_take.kp b__law_take m__law_take G__law_kit F__law_kit.kp b__law_kit m__law_kit G__law_root F__law_root.kp b__law_root m__law_root G__law_points F__law_points.kp b__law_points m__law_points G__law_book F__law_book.kp b__law_book m__law_book G__law_reached F__law_reached.kp b__law_reached m__law_reached G_precedes F_precedes.kp b_precedes m_precedes G_tlen Dl b_tlen G_count_orders F_count_orders.kp b_count_orders m_count_orders G_order_at F_order_at.kp b_order_at m_order_at mkr_Task m_Task G_tinit k_tinit
end
end Oo
namespace Oo
open PySem L2 PyProof.Rows LamX StX ClX
theorem law_at {P : Program} {w : World} {mg : Str → Option Value} {h : Heap} {fa : Addr} (Y : Oh.hk.says w h) (G : h.Ns mainGlobals mg) (hmg : mg "law" = some (.ref fa)) : ∃ K : PySem.W.Frag, K.In h ∧ LamX.LawAtS PySem.Challenge.rw_ordersopen_k20_whole_orders_joined w K CX0 84 63 "_law_script" mg fa h := by
  obtain ⟨K, X, c⟩ := Y
  obtain ⟨fd, D⟩ := c.def_ 50 (d := Oh.dG "law" 91) rfl
  have F : Fun K "law" "law" sLaw (He.ga K "law") fd := He5.fun_of D
  have e := hmg.symm.trans (He.glo_ok X G (c.fact 60 (f := Oh.faF (.glo "law")) rfl))
  cases e
  refine ⟨K, X, fd, [He.cT K ("Book", some "__init__")], spLaw K [((He.cT K ("Book", some "__init__")).2, ("Book.__init__" : Str) ++ ".<locals>." ++ "<lambda>")], ?_, ?_, ?_, ?_, ?_, ?_⟩
  · intro p hp
    rw [List.mem_singleton.mp hp]
    exact c.empty _ List.mem_cons_self
  · intro p hp
    rw [List.mem_singleton.mp hp]
    exact c.out _ List.mem_cons_self
  · intro p hp
    rw [List.mem_singleton.mp hp]
    exact PySem.W.codeHd_of_K X (c.hd _ List.mem_cons_self)
  · intro s u
    exact FunD.bindsA (ps := ["_law_script"]) D (fun _ _ _ _ _ _ us hl => match us, hl with | [_], _ => rfl) s [u] rfl
  · intro H a ns hl hbits hT hS
    exact ⟨a, ns, rfl, hS, hl, fun q hq => by rw [List.mem_singleton.mp hq]; exact LamX.TabS.nil (hT _ List.mem_cons_self), fun H' => rfl⟩
  · intro base hb hns hTB
    exact all_ok X G c (hTB _ List.mem_cons_self) F
end Oo
open PySem PySem.W PySem.Calls PyProof.Rows
theorem PySem.Challenge.cw_ordersopen_k20_whole_orders_joined_holds : PySem.Challenge.rw_ordersopen_k20_whole_orders_joined.Holds := by
  w_on; o_law
  refine HandSHeadRun.head_any (r := OpenLaw.row PySem.Challenge.rw_ordersopen_k20_whole_orders_joined) (q := view (OpenLaw.row PySem.Challenge.rw_ordersopen_k20_whole_orders_joined).prog [91]) (H := Oh.hk) (ob := Oh.ob) (M := 9000) (loose := Oh.names) (d := HandSHeadRun.topDef (OpenLaw.row PySem.Challenge.rw_ordersopen_k20_whole_orders_joined).prog 91) (kwd := []) Oh.ob_eq
    (by kernel_rfl) (fun s => by kernel_rfl) Oh.run (by kernel_rfl) (by kernel_rfl) (by kernel_rfl) (by rfl) (by first | assumption | decide +kernel) (by decide +kernel) ⟨rfl, rfl, rfl, rfl, rfl, by decide +kernel⟩ ?hw ?hc
  case hw => w_witness2
  case hc =>
    refine LamX.walk_ofTsE (l := PySem.Challenge.rw_ordersopen_k20_whole_orders_joined) (n := 63) (k := 84) (x := "_law_script") (CX := fun _ => L2.CX0) rfl (by decide) (by kernel_rfl) ⟨rfl, by decide, by decide⟩ ?F (fun _ _ _ _ _ z => z)
    intro w mg fa h Y G hmg0
    have hmg : mg ("law" : PySem.Str) = some (.ref fa) := by
      have e : (HandSHeadRun.topDef (OpenLaw.row PySem.Challenge.rw_ordersopen_k20_whole_orders_joined).prog 91).name = ("law" : PySem.Str) := by kernel_rfl
      rw [← e]
      exact hmg0
    exact Oo.law_at (P := (PySem.Challenge.rw_ordersopen_k20_whole_orders_joined).prog) Y G hmg
