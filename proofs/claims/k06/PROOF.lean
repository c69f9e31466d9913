import PyProof.Rows.All
import Wide.All
import OpenK.AllK
import Wide.FinOn
import HandS.ForMost
import HandS.Codes
import HandS.IsInst
import HandS.StrMore
import HandS.Evl
import HandS.Walk
import HandS.DictComp
import HandS.Strs
import HandS.SetKeys
import HandS.TupAny
import HandS.More
import HandS.ForExc
import HandS.ExcInit
import HandS.SetFor
import HandS.Conv
import HandS.ListItems
import HandS.Zip
import KE.KDictZip
import HandS.CallLocal
import KE.GoesEnum
import HandS.ExcField
import HandS.ExcOwn
import HandS.WordsExc
import HandS.DeepEq
import PySem.Challenge.RW_everyend_k06_fields_and_methods_by_paren
set_option Elab.async false
set_option linter.all false
set_option maxRecDepth 100000
set_option maxHeartbeats 4000000
namespace EE
open PySem L2 Evl
open C8 (Cal cal0 pe_c fnScope_by)
/-! what a pure def promises: a value, a new list, a new tuple -/
def PuV (R : List V → Hp → V → Prop) : Sp := fun vs H Q _ => ∃ z, R vs H z ∧ RetV z H Q
def PuL (R : List V → Hp → List V → Prop) : Sp := fun vs H Q _ => ∃ xs, R vs H xs ∧ RetL xs H Q
def RetU (xs : List V) (H : Hp) (Q : VK) : Prop := ∀ p H2, H p = none → Ex H H2 → H2 p = some (.tup xs) → Q (.ref p) H2
def PuU (R : List V → Hp → List V → Prop) : Sp := fun vs H Q _ => ∃ xs, R vs H xs ∧ RetU xs H Q
def SpU (sp : Sp) (vs : List V) (H : Hp) (xs : List V) : Prop := ∀ H1, Ex H H1 → ∀ Q : VK, (∀ p H2, H1 p = none → Ex H1 H2 → H2 p = some (.tup xs) → Q (.ref p) H2) → ∀ E : XK, sp vs H1 Q E
section
variable {K : PySem.W.Frag} {σ : L2.St} {H H' : Hp} {ta tb tc te : TE} {t u : TT} {x y z v : V}
theorem spv {R : List V → Hp → V → Prop} {vs : List V} (h : ∀ H1, Ex H H1 → R vs H1 z) : SpV (PuV R) vs H z := fun H1 e Q q _ => ⟨z, h H1 e, q⟩
theorem spl {R : List V → Hp → List V → Prop} {vs xs : List V} (h : ∀ H1, Ex H H1 → R vs H1 xs) : SpL (PuL R) vs H xs := fun H1 e Q q _ => ⟨xs, h H1 e, q⟩
theorem spu {R : List V → Hp → List V → Prop} {vs xs : List V} (h : ∀ H1, Ex H H1 → R vs H1 xs) : SpU (PuU R) vs H xs := fun H1 e Q q _ => ⟨xs, h H1 e, q⟩
theorem eu_call {sp : Sp} {dvs vs xs : List V} {E : XK} {ta : TA} (h : EvA ta σ H vs) (hs : SpU sp (vs ++ dvs) H xs) : EvU (tCall sp dvs E ta) σ H xs := fun H1 e Q q =>
  h H1 e _ fun H2 e2 => hs H2 (e.trans e2) Q (fun p H3 hp e3 h3 => q p H3 (fresh_back e2 hp) (e2.trans e3) h3) E
theorem ev_chain {r r' : R2} {a b : Bool} (ha : Ev ta σ H x) (hb : Ev tb σ H y) (h1 : RV r x y H (.bl a)) (h2 : a = true → ∃ z, Ev tc σ H z ∧ RV r' y z H (.bl b)) : Ev (tChain r r' ta tb tc) σ H (.bl (a && b)) := fun H1 e Q q =>
  ha H1 e _ fun H2 e2 => hb H2 (e.trans e2) _ fun H3 e3 => h1 H3 ((e.trans e2).trans e3) _ fun H4 e4 => ⟨a, rfl, by
    cases a with
    | true =>
      obtain ⟨z, hc, hr⟩ := h2 rfl
      refine iteT ?_
      exact hc H4 (((e.trans e2).trans e3).trans e4) _ fun H5 e5 => hr H5 ((((e.trans e2).trans e3).trans e4).trans e5) Q fun H6 e6 => q H6 ((((e2.trans e3).trans e4).trans e5).trans e6)
    | false => exact iteF (q H4 ((e2.trans e3).trans e4))⟩
theorem tyof_mono {t : Value} (e : Ex H H') (h : TyOf K H x t) : TyOf K H' x t := by
  cases h with
  | non => exact .non
  | bl b => exact .bl b
  | int i => exact .int i
  | str z => exact .str z
  | flt z => exact .flt z
  | lst h => exact .lst (e _ _ h)
  | frz h => exact .frz (e _ _ h)
  | tup h => exact .tup (e _ _ h)
  | dK h => exact .dK (e _ _ h)
  | dT h => exact .dT (e _ _ h)
  | ins h a b c d f => exact .ins (e _ _ h) a b c d f
theorem tyx_mono {t : Value} (e : Ex H H') (h : TyX K H x t) : TyX K H' x t := by
  cases h with
  | base h => exact .base (tyof_mono e h)
  | byt b => exact .byt b
  | set h => exact .set (e _ _ h)
  | kList h c => exact .kList h c
  | kTuple h c => exact .kTuple h c
  | kDict h c => exact .kDict h c
  | fTuple h => exact .fTuple (e _ _ h)
  | fDict h => exact .fDict (e _ _ h)
theorem rc_isi {c : V} {t u : Value} {b : Bool} (hc : ClsV c u) (ht : TyX K H x t) (hk : PySem.W.kitOne K t u = some b) : RC (rIsi K) [x, c] H (.bl b) := fun H1 e Q q =>
  ⟨x, c, t, u, b, rfl, hc, tyx_mono e ht, hk, q H1 (Ex.refl H1)⟩
theorem rc_lenstr {z : Str} (hz : z.length ≤ sizeLine) : RC (fun xs H Q => ∃ z, xs = [V.str z] ∧ z.length ≤ sizeLine ∧ Q (.int z.length) H) [.str z] H (.int z.length) := fun H1 e Q q =>
  ⟨z, rfl, hz, q H1 (Ex.refl H1)⟩
/-- a method of a text without arguments that answers a flag -/
theorem ev_bm0s {g : Str → Bool} {z : Str} (h : Ev te σ H (.str z)) : Ev (tBM0 K "str" (fun x xs H Q => ∃ a, x = V.str a ∧ xs = [] ∧ True ∧ Q (.bl (g a)) H) te) σ H (.bl (g z)) := fun H1 e Q q =>
  h H1 e _ fun H2 e2 => ⟨(show ("str" : String) = "str" from rfl), z, rfl, rfl, trivial, q H2 e2⟩
/-! ### what is walked -/
/-- J gives the items of xs in every later heap -/
def WalkX (J : It) (H : Hp) (xs : List V) : Prop := ∃ G : Hp → Prop, Walk J xs.length G (YAt xs) ∧ ∀ H1, Ex H H1 → G H1
def EvI (wi : TI) (σ : L2.St) (H : Hp) (xs : List V) : Prop := ∀ H1, Ex H H1 → ∀ R : It → Hp → Prop, (∀ J H2, Ex H1 H2 → WalkX J H2 xs → R J H2) → wi σ H1 R
theorem ei_list {a : Addr} {xs : List V} (h : Ev te σ H (.ref a)) (hx : SqL K H a xs) : EvI (iList K te) σ H xs := fun H1 e R q =>
  h H1 e _ fun H2 e2 => ⟨a, rfl, ⟨xs, ex_l (e.trans e2) hx⟩, q _ H2 e2 ⟨_, walk_list (K := K) (a := a) (xs := xs), fun H3 e3 => ex_l ((e.trans e2).trans e3) hx⟩⟩
theorem ei_listN {xs : List V} (h : EvL te σ H xs) : EvI (iList K te) σ H xs := fun H1 e R q =>
  h H1 e _ fun a H2 _ e2 hx => ⟨a, rfl, ⟨xs, sq_of hx⟩, q _ H2 e2 ⟨_, walk_list (K := K) (a := a) (xs := xs), fun H3 e3 => sq_of (e3 a _ hx)⟩⟩
theorem ei_tup {a : Addr} {xs : List V} (h : Ev te σ H (.ref a)) (hx : SqT K H a xs) : EvI (iTup K te) σ H xs := fun H1 e R q =>
  h H1 e _ fun H2 e2 => ⟨a, rfl, ⟨xs, ex_t (e.trans e2) hx⟩, q _ H2 e2 ⟨_, walk_tup (K := K) (a := a) (xs := xs), fun H3 e3 => ex_t ((e.trans e2).trans e3) hx⟩⟩
/-- the keys of a dict that stands locked -/
theorem ei_keys {d : Addr} {o : Obj} {kvs : List (Key × V)} (h : Ev te σ H (.ref d)) (hd : H d = some (.frz o (.dK kvs))) : EvI (iKeys te) σ H (kvs.map fun p => kV p.1) := fun H1 e R q =>
  h H1 e _ fun H2 e2 => ⟨d, o, rfl, .inl ⟨kvs, e2 _ _ (e _ _ hd), q _ H2 e2 ⟨fun H' => H' d = some (.frz o (.dK kvs)), by
    have w := walk_keys (d := d) (o := o) (kvs := kvs)
    refine ⟨fun i H hi g => w.goes i H (by simpa using hi) g, fun H g => by simpa using w.stops H g, fun i H x H' hi g y => ?_⟩
    obtain ⟨e1, k, v, h1, h2⟩ := w.yields i H x H' (by simpa using hi) g y
    exact ⟨e1, by simp [h1, h2]⟩, fun H3 e3 => e3 _ _ (e2 _ _ (e _ _ hd))⟩⟩⟩
theorem ei_vals {d : Addr} {o : Obj} {kvs : List (Key × V)} (h : Ev te σ H (.ref d)) (hd : H d = some (.frz o (.dK kvs))) : EvI (iVals te) σ H (kvs.map fun p => p.2) := fun H1 e R q =>
  h H1 e _ fun H2 e2 => ⟨d, o, kvs, rfl, e2 _ _ (e _ _ hd), q _ H2 e2 ⟨fun H' => H' d = some (.frz o (.dK kvs)), by
    have w := walk_values (d := d) (o := o) (kvs := kvs)
    refine ⟨fun i H hi g => w.goes i H (by simpa using hi) g, fun H g => by simpa using w.stops H g, fun i H x H' hi g y => ?_⟩
    obtain ⟨e1, k, h1⟩ := w.yields i H x H' (by simpa using hi) g y
    exact ⟨e1, by simp [h1]⟩, fun H3 e3 => e3 _ _ (e2 _ _ (e _ _ hd))⟩⟩
/-- a comprehension over it -/
theorem el_lcW {wi : TI} {xs : List V} {j : Nat} {vs : List Nat} (f : Nat → Bool) (v : Nat → V) (h : EvI wi σ H xs) (hz : xs.length ≤ 40000) (hw : ∀ x, wipe ((wipe σ vs).set j (some x)) vs = wipe σ vs)
    (ht : ∀ (i : Nat) (x : V) H1, Ex H H1 → xs[i]? = some x → EvT t ((wipe σ vs).set j (some x)) H1 (f i)) (he : ∀ (i : Nat) (x : V) H1, Ex H H1 → xs[i]? = some x → f i = true → Ev te ((wipe σ vs).set j (some x)) H1 (v i)) :
    EvL (tLc wi (gName j) t te vs) σ H (given xs.length f v) := fun H0 e Q q => h H0 e _ fun J H1 e1 ⟨G, w, hG⟩ Dl hD =>
  lc_it w (Cw H1 f v Dl) ⟨hD, Ex.new hD, upd_same⟩ (fun i H' _ p => hG H' p.2.1) (fun i x H' H'' hi p y => by
    obtain ⟨rfl, hy⟩ := y
    exact ⟨hw x, cw_turn p (by omega) (ht i x H1 (e.trans e1) hy) (fun hf => he i x H1 (e.trans e1) hy hf)⟩)
    (fun H' p => q Dl H' (fresh_back e1 p.1) (e1.trans p.2.1) p.2.2)
theorem et_yes : EvT tYes σ H true := fun H1 _ _ q => q H1 (Ex.refl H1)
theorem given_all {n : Nat} {bs : List V} (h : bs.length = n) : given n (fun _ => true) (fun i => bs.getD i .non) = bs := by
  subst h
  unfold given
  rw [List.filter_eq_self.mpr (fun _ _ => rfl)]
  apply List.ext_getElem?
  intro i
  by_cases hi : i < bs.length
  · simp [hi, List.getElem?_range hi]
  · simp [hi, List.getElem?_eq_none (Nat.le_of_not_lt hi)]
/-- all of it, each giving what bs says -/
theorem el_lcA {wi : TI} {xs : List V} {j : Nat} {vs : List Nat} (bs : List V) (hb : bs.length = xs.length) (h : EvI wi σ H xs) (hz : xs.length ≤ 40000) (hw : ∀ x, wipe ((wipe σ vs).set j (some x)) vs = wipe σ vs)
    (he : ∀ (i : Nat) (x y : V) H1, Ex H H1 → xs[i]? = some x → bs[i]? = some y → Ev te ((wipe σ vs).set j (some x)) H1 y) :
    EvL (tLc wi (gName j) tYes te vs) σ H bs := by
  have z := el_lcW (te := te) (t := tYes) (fun _ => true) (fun i => bs.getD i .non) h hz hw (fun _ _ _ _ _ => et_yes) (fun i x H1 e hx _ => he i x _ H1 e hx (by
    have hi : i < bs.length := by rw [hb]; exact (List.getElem?_eq_some_iff.mp hx).1
    rw [List.getElem?_eq_getElem hi, List.getD_eq_getElem?_getD, List.getElem?_eq_getElem hi] <;> rfl))
  rw [given_all hb] at z
  exact z
theorem rc_all {a : Addr} {bs : List Bool} (h : SqL K H a (bs.map V.bl)) : RC (rAll K) [.ref a] H (.bl (bs.all id)) := fun H1 e Q q => ⟨a, bs, rfl, ex_l e h, q H1 (Ex.refl H1)⟩
theorem rc_any {a : Addr} {bs : List Bool} (h : SqL K H a (bs.map V.bl)) : RC (rAny K) [.ref a] H (.bl (bs.any id)) := fun H1 e Q q => ⟨a, bs, rfl, ex_l e h, q H1 (Ex.refl H1)⟩
/-- f([..]) of a new list -/
theorem ev_cbL {r : List V → Hp → VK → Prop} {xs : List V} (h : EvL te σ H xs) (hr : ∀ p H1, Ex H H1 → H1 p = some (.lst xs) → RC r [.ref p] H1 z) : Ev (tCB r (tCons te tNil)) σ H z := fun H1 e Q q =>
  h H1 e _ fun p H2 _ e2 h2 => hr p H2 (e.trans e2) h2 H2 (Ex.refl H2) Q fun H3 e3 => q H3 (e2.trans e3)
/-- under a lock: the dict at d is locked meanwhile -/
theorem ev_lock {d : Addr} {kvs : List (Key × V)} (hd : H d = some (.dK kvs)) (h : ∀ od, Ev te σ (upd H d (.frz od (.dK kvs))) z) : Ev (tLockE te) σ H z := fun H1 e Q q =>
  ⟨d, .dK kvs, e _ _ hd, trivial, fun od => by
    have e1 : Ex (upd H d (.frz od (.dK kvs))) (upd H1 d (.frz od (.dK kvs))) := fun a o ha => by
      by_cases had : a = d
      · subst had; rw [upd_same] at ha ⊢; exact ha
      · rw [upd_ne had] at ha ⊢; exact e a o ha
    refine h od _ e1 _ fun H2 e2 => ⟨e2 _ _ upd_same, q _ fun a o ha => ?_⟩
    by_cases had : a = d
    · subst had; rw [e _ _ hd] at ha; rw [upd_same]; exact ha
    · rw [upd_ne had]; exact e2 a o (by rw [upd_ne had]; exact ha)⟩
theorem evl_lock {d : Addr} {kvs : List (Key × V)} {xs : List V} (hd : H d = some (.dK kvs)) (h : ∀ od, EvL te σ (upd H d (.frz od (.dK kvs))) xs) : EvL (tLockE te) σ H xs := fun H1 e Q q =>
  ⟨d, .dK kvs, e _ _ hd, trivial, fun od => by
    have e1 : Ex (upd H d (.frz od (.dK kvs))) (upd H1 d (.frz od (.dK kvs))) := fun a o ha => by
      by_cases had : a = d
      · subst had; rw [upd_same] at ha ⊢; exact ha
      · rw [upd_ne had] at ha ⊢; exact e a o ha
    refine h od _ e1 _ fun p H2 hp e2 hp2 => ⟨e2 _ _ upd_same, ?_⟩
    have hpd : p ≠ d := fun z => by subst z; rw [upd_same] at hp; cases hp
    refine q p _ (by rw [upd_ne hpd] at hp; exact hp) (fun a o ha => ?_) (by rw [upd_ne hpd]; exact hp2)
    by_cases had : a = d
    · subst had; rw [e _ _ hd] at ha; rw [upd_same]; exact ha
    · rw [upd_ne had]; exact e2 a o (by rw [upd_ne had]; exact ha)⟩
end
end EE
set_option Elab.async false
set_option linter.all false
set_option maxRecDepth 100000
set_option maxHeartbeats 4000000
namespace EE
open PySem L2 Evl
open C8 (Cal cal0 pe_c fnScope_by)
def topS (i : Nat) : Stmt := PySem.Challenge.pw_everyend_k06_fields_and_methods_by_paren.main.body.getD i (.Pass ⟨0, 0, 0, 0⟩)
abbrev s__wall : Stmt := topS 0
abbrev N__wall : List Str := ["k"]
abbrev P__wall : List Str := ["k"]
abbrev s_is_name : Stmt := topS 2
abbrev N_is_name : List Str := ["thing"]
abbrev P_is_name : List Str := ["thing"]
abbrev s_is_integer_between : Stmt := topS 3
abbrev N_is_integer_between : List Str := ["low", "high", "thing"]
abbrev P_is_integer_between : List Str := ["low", "high", "thing"]
abbrev s_are_names : Stmt := topS 4
abbrev N_are_names : List Str := ["things", "thing"]
abbrev P_are_names : List Str := ["things"]
abbrev s_is_tuple_of_names : Stmt := topS 5
abbrev N_is_tuple_of_names : List Str := ["most", "thing"]
abbrev P_is_tuple_of_names : List Str := ["most", "thing"]
abbrev s_is_tuple_of_unlike_names : Stmt := topS 6
abbrev N_is_tuple_of_unlike_names : List Str := ["most", "thing"]
abbrev P_is_tuple_of_unlike_names : List Str := ["most", "thing"]
abbrev s_is_dict_of_names : Stmt := topS 7
abbrev N_is_dict_of_names : List Str := ["thing"]
abbrev P_is_dict_of_names : List Str := ["thing"]
abbrev s_shape_of : Stmt := topS 11
abbrev N_shape_of : List Str := ["word"]
abbrev P_shape_of : List Str := ["word"]
abbrev s_parts_of : Stmt := topS 12
abbrev N_parts_of : List Str := ["statement"]
abbrev P_parts_of : List Str := ["statement"]
abbrev s_blocks_of : Stmt := topS 13
abbrev N_blocks_of : List Str := ["statement", "kind", "part"]
abbrev P_blocks_of : List Str := ["statement"]
abbrev s_statements_of : Stmt := topS 14
abbrev N_statements_of : List Str := ["block", "found", "statement", "inner"]
abbrev P_statements_of : List Str := ["block"]
abbrev s_size_of : Stmt := topS 15
abbrev N_size_of : List Str := ["block"]
abbrev P_size_of : List Str := ["block"]
abbrev s_nots_and_core : Stmt := topS 16
abbrev N_nots_and_core : List Str := ["test", "many"]
abbrev P_nots_and_core : List Str := ["test"]
abbrev s_expressions_of : Stmt := topS 17
abbrev N_expressions_of : List Str := ["statement", "found", "kind", "part"]
abbrev P_expressions_of : List Str := ["statement"]
abbrev s_expressions_of_test : Stmt := topS 18
abbrev N_expressions_of_test : List Str := ["test", "_", "core"]
abbrev P_expressions_of_test : List Str := ["test"]
abbrev s_is_block : Stmt := topS 26
abbrev N_is_block : List Str := ["known", "deep", "thing", "statement"]
abbrev P_is_block : List Str := ["known", "deep", "thing"]
abbrev s_is_statement : Stmt := topS 27
abbrev N_is_statement : List Str := ["known", "deep", "thing", "shape", "kind", "part"]
abbrev P_is_statement : List Str := ["known", "deep", "thing"]
abbrev s_is_part : Stmt := topS 28
abbrev N_is_part : List Str := ["known", "deep", "kind", "thing", "check"]
abbrev P_is_part : List Str := ["known", "deep", "kind", "thing"]
abbrev s_has_return : Stmt := topS 29
abbrev N_has_return : List Str := ["block", "statement"]
abbrev P_has_return : List Str := ["block"]
abbrev s_is_any_name : Stmt := topS 30
abbrev N_is_any_name : List Str := ["known", "thing"]
abbrev P_is_any_name : List Str := ["known", "thing"]
abbrev s_is_shared_name : Stmt := topS 31
abbrev N_is_shared_name : List Str := ["known", "thing"]
abbrev P_is_shared_name : List Str := ["known", "thing"]
abbrev s_is_class_name : Stmt := topS 32
abbrev N_is_class_name : List Str := ["known", "thing"]
abbrev P_is_class_name : List Str := ["known", "thing"]
abbrev s_is_function_name : Stmt := topS 33
abbrev N_is_function_name : List Str := ["known", "thing"]
abbrev P_is_function_name : List Str := ["known", "thing"]
abbrev s_is_price : Stmt := topS 34
abbrev N_is_price : List Str := ["known", "thing"]
abbrev P_is_price : List Str := ["known", "thing"]
abbrev s_are_words_to_ask : Stmt := topS 35
abbrev N_are_words_to_ask : List Str := ["known", "thing"]
abbrev P_are_words_to_ask : List Str := ["known", "thing"]
abbrev s_is_expression : Stmt := topS 36
abbrev N_is_expression : List Str := ["known", "thing"]
abbrev P_is_expression : List Str := ["known", "thing"]
abbrev s_are_expressions : Stmt := topS 37
abbrev N_are_expressions : List Str := ["known", "thing", "part"]
abbrev P_are_expressions : List Str := ["known", "thing"]
abbrev s_is_test : Stmt := topS 38
abbrev N_is_test : List Str := ["known", "thing", "_"]
abbrev P_is_test : List Str := ["known", "thing"]
abbrev s_is_kind : Stmt := topS 39
abbrev N_is_kind : List Str := ["known", "thing"]
abbrev P_is_kind : List Str := ["known", "thing"]
abbrev s_family_of : Stmt := topS 42
abbrev N_family_of : List Str := ["classes", "name", "family"]
abbrev P_family_of : List Str := ["classes", "name"]
abbrev s_goes_in_a_ring : Stmt := topS 43
abbrev N_goes_in_a_ring : List Str := ["classes", "name", "oldest"]
abbrev P_goes_in_a_ring : List Str := ["classes", "name"]
abbrev s_all_fields : Stmt := topS 44
abbrev N_all_fields : List Str := ["classes", "name", "fields", "ancestor"]
abbrev P_all_fields : List Str := ["classes", "name"]
abbrev s_all_methods : Stmt := topS 45
abbrev N_all_methods : List Str := ["classes", "name", "methods", "ancestor"]
abbrev P_all_methods : List Str := ["classes", "name"]
abbrev s_first_wrong_part : Stmt := topS 53
abbrev N_first_wrong_part : List Str := ["shared", "classes", "functions", "known", "name"]
abbrev P_first_wrong_part : List Str := ["shared", "classes", "functions"]
abbrev s_are_classes : Stmt := topS 54
abbrev N_are_classes : List Str := ["thing", "name", "told"]
abbrev P_are_classes : List Str := ["thing"]
abbrev s_is_class : Stmt := topS 55
abbrev N_is_class : List Str := ["classes", "thing", "parent", "rank", "fields", "methods"]
abbrev P_is_class : List Str := ["classes", "thing"]
abbrev s_has_right_family : Stmt := topS 56
abbrev N_has_right_family : List Str := ["classes", "name"]
abbrev P_has_right_family : List Str := ["classes", "name"]
abbrev s_are_functions : Stmt := topS 57
abbrev N_are_functions : List Str := ["thing", "told"]
abbrev P_are_functions : List Str := ["thing"]
abbrev s_is_function : Stmt := topS 58
abbrev N_is_function : List Str := ["thing", "parameters", "rank", "_"]
abbrev P_is_function : List Str := ["thing"]
abbrev s_are_methods_of : Stmt := topS 59
abbrev N_are_methods_of : List Str := ["classes", "functions", "_", "methods", "function"]
abbrev P_are_methods_of : List Str := ["classes", "functions"]
abbrev s_EndError_init : Stmt := inClass (topS 61) 0
abbrev N_EndError_init : List Str := ["self"]
abbrev P_EndError_init : List Str := ["self"]
abbrev s_BadProgram_init : Stmt := inClass (topS 62) 0
abbrev N_BadProgram_init : List Str := ["self", "part"]
abbrev P_BadProgram_init : List Str := ["self", "part"]
abbrev s_NoName_init : Stmt := inClass (topS 63) 0
abbrev N_NoName_init : List Str := ["self", "name"]
abbrev P_NoName_init : List Str := ["self", "name"]
abbrev s_plain_functions : Stmt := topS 66
abbrev N_plain_functions : List Str := ["functions", "plain", "name", "parameters", "rank", "block", "free"]
abbrev P_plain_functions : List Str := ["functions"]
abbrev s_count_lasts : Stmt := topS 67
abbrev N_count_lasts : List Str := ["block", "statement"]
abbrev P_count_lasts : List Str := ["block"]
abbrev s_free_names : Stmt := topS 68
abbrev N_free_names : List Str := ["thing", "standing", "names", "letter", "name"]
abbrev P_free_names : List Str := ["thing"]
abbrev s_strings_in : Stmt := topS 69
abbrev N_strings_in : List Str := ["thing", "found", "part"]
abbrev P_strings_in : List Str := ["thing"]
abbrev s_without_lasts : Stmt := topS 70
abbrev N_without_lasts : List Str := ["block", "free", "plain", "statement"]
abbrev P_without_lasts : List Str := ["block", "free"]
abbrev s_plain_statements : Stmt := topS 71
abbrev N_plain_statements : List Str := ["statement", "free", "name", "first", "second", "parts", "kind", "part"]
abbrev P_plain_statements : List Str := ["statement", "free"]
abbrev s_Spot_init : Stmt := inClass (topS 73) 0
abbrev N_Spot_init : List Str := ["self", "statement", "after", "catch"]
abbrev P_Spot_init : List Str := ["self", "statement", "after", "catch"]
abbrev s_spots_of : Stmt := topS 74
abbrev N_spots_of : List Str := ["block", "spots"]
abbrev P_spots_of : List Str := ["block"]
abbrev s_lay_block : Stmt := topS 75
abbrev N_lay_block : List Str := ["block", "after", "catch", "spots", "at", "statement", "behind", "follows"]
abbrev P_lay_block : List Str := ["block", "after", "catch", "spots"]
abbrev s_lay_statement : Stmt := topS 76
abbrev N_lay_statement : List Str := ["statement", "after", "catch", "spots", "spot", "place", "word"]
abbrev P_lay_statement : List Str := ["statement", "after", "catch", "spots"]
abbrev s_lay_try : Stmt := topS 77
abbrev N_lay_try : List Str := ["spot", "catch", "spots", "_", "first", "name", "second", "begin"]
abbrev P_lay_try : List Str := ["spot", "catch", "spots"]
abbrev s_lay_inner : Stmt := topS 78
abbrev N_lay_inner : List Str := ["block", "after", "catch", "spots", "begin"]
abbrev P_lay_inner : List Str := ["block", "after", "catch", "spots"]
abbrev s_Sheet_init : Stmt := inClass (topS 80) 0
abbrev N_Sheet_init : List Str := ["self", "shared", "classes", "functions", "name"]
abbrev P_Sheet_init : List Str := ["self", "shared", "classes", "functions"]
abbrev s_Program_init : Stmt := inClass (topS 82) 0
abbrev N_Program_init : List Str := ["self", "shared", "classes", "functions", "part", "plain"]
abbrev P_Program_init : List Str := ["self", "shared", "classes", "functions"]
abbrev s_Program_shared : Stmt := inClass (topS 82) 1
abbrev N_Program_shared : List Str := ["self"]
abbrev P_Program_shared : List Str := ["self"]
abbrev s_Program_classes : Stmt := inClass (topS 82) 2
abbrev N_Program_classes : List Str := ["self"]
abbrev P_Program_classes : List Str := ["self"]
abbrev s_Program_functions : Stmt := inClass (topS 82) 3
abbrev N_Program_functions : List Str := ["self"]
abbrev P_Program_functions : List Str := ["self"]
abbrev s_Program_eq : Stmt := inClass (topS 82) 4
abbrev N_Program_eq : List Str := ["self", "other"]
abbrev P_Program_eq : List Str := ["self", "other"]
abbrev s_Program_plain_copy : Stmt := inClass (topS 82) 5
abbrev N_Program_plain_copy : List Str := ["self"]
abbrev P_Program_plain_copy : List Str := ["self"]
abbrev s_copy_of_classes : Stmt := topS 83
abbrev N_copy_of_classes : List Str := ["classes", "name", "parent", "rank", "fields", "methods"]
abbrev P_copy_of_classes : List Str := ["classes"]
abbrev s_fields_of : Stmt := topS 84
abbrev N_fields_of : List Str := ["program", "name"]
abbrev P_fields_of : List Str := ["program", "name"]
abbrev s_method_of : Stmt := topS 85
abbrev N_method_of : List Str := ["program", "name", "method"]
abbrev P_method_of : List Str := ["program", "name", "method"]
abbrev s__law_pot : Stmt := topS 87
abbrev N__law_pot : List Str := ["script", "most", "great", "seed", "cell"]
abbrev P__law_pot : List Str := ["script", "most"]
abbrev s__law_take : Stmt := topS 88
abbrev N__law_take : List Str := ["pot", "many", "great", "number"]
abbrev P__law_take : List Str := ["pot", "many"]
abbrev s__law_name : Stmt := topS 89
abbrev N__law_name : List Str := ["pot", "menu", "at", "size", "k"]
abbrev P__law_name : List Str := ["pot"]
abbrev s__law_turned : Stmt := topS 90
abbrev N__law_turned : List Str := ["thing", "turned", "name", "row", "part"]
abbrev P__law_turned : List Str := ["thing"]
abbrev s__law_methods : Stmt := topS 91
abbrev N__law_methods : List Str := ["pot", "methods", "k", "name"]
abbrev P__law_methods : List Str := ["pot"]
abbrev s__law_classes : Stmt := topS 92
abbrev N__law_classes : List Str := ["pot", "classes", "order", "fields", "k", "name", "parent", "at", "had", "own", "j", "field"]
abbrev P__law_classes : List Str := ["pot"]
abbrev s__law_line : Stmt := topS 93
abbrev N__law_line : List Str := ["classes", "name", "line", "k"]
abbrev P__law_line : List Str := ["classes", "name"]
abbrev s__law_refused : Stmt := topS 94
abbrev N__law_refused : List Str := ["program", "thing", "told", "e"]
abbrev P__law_refused : List Str := ["program", "thing"]
abbrev s__law_right : Stmt := topS 95
abbrev N__law_right : List Str := ["program", "classes", "methods", "name", "line", "due", "above", "told", "method", "having"]
abbrev P__law_right : List Str := ["program", "classes", "methods"]
abbrev s_law : Stmt := topS 96
abbrev N_law : List Str := ["script", "pot", "way", "functions", "classes", "others", "methods", "name", "program", "other", "k", "odd", "thing", "told"]
abbrev P_law : List Str := ["script"]
end EE
set_option Elab.async false
set_option linter.all false
set_option maxRecDepth 100000
set_option maxHeartbeats 4000000
/-! len(set(t)) of a tuple of texts of any number -/
namespace EE
open PySem PySem.Spec PyProof.Rows L2
def emptySet (led : Bool) : Obj := { cls := .type "set", dict := none, data := .set #[] 0 (.fresh 0 0 led) }
/-- of the first i of xs the set S holds c -/
def Holds (P : Program) (w : World) (h : Heap) (S : Addr) (xs : List Str) (c : Nat) : Prop :=
  h.SetOf (PySem.strKind P w) S (fun z => decide (z ∈ xs)) c ∧ c ≤ xs.length ∧ (c = xs.length ↔ xs.Nodup)
theorem Holds.at {P : Program} {w : World} {h h' : Heap} {S : Addr} {xs : List Str} {c : Nat} (x : Holds P w h S xs c) (k : ∀ o, h.get? S = some o → h'.get? S = some o) : Holds P w h' S xs c := by
  obtain ⟨⟨o, es, ep, t, ho, r⟩, y⟩ := x
  exact ⟨⟨o, es, ep, t, k o ho, r⟩, y⟩
theorem nodup_snoc {xs : List Str} {z : Str} : (xs ++ [z]).Nodup ↔ (xs.Nodup ∧ z ∉ xs) := by
  rw [List.nodup_append]
  constructor
  · rintro ⟨h1, _, h3⟩
    exact ⟨h1, fun h => h3 z h z (by simp) rfl⟩
  · rintro ⟨h1, h2⟩
    exact ⟨h1, by simp, fun a ha b hb e => by
      have : b = z := by simpa using hb
      subst this; subst e; exact h2 ha⟩
theorem Holds.more {P : Program} {w : World} {h : Heap} {S : Addr} {xs : List Str} {c : Nat} {z : Str} (x : c ≤ xs.length ∧ (c = xs.length ↔ xs.Nodup))
    (hS : h.SetOf (PySem.strKind P w) S (fun k => decide (k ∈ xs) || decide (k = z)) (if decide (z ∈ xs) = true then c else c + 1)) : Holds P w h S (xs ++ [z]) (if decide (z ∈ xs) = true then c else c + 1) := by
  obtain ⟨x1, x2⟩ := x
  refine ⟨?_, ?_, ?_⟩
  · refine SetOf_congr hS (fun k => ?_) rfl
    by_cases a : k ∈ xs <;> by_cases b : k = z <;> simp [a, b]
  · rw [List.length_append]
    split <;> simp <;> omega
  · rw [nodup_snoc, List.length_append]
    by_cases a : z ∈ xs
    · simp [a]; omega
    · simp [a]; exact x2
section
variable {P : Program} {w : World} {A : Around} {E : Value → Shared → Prop} {s : Shared}
theorem set_turns {I : Addr} {fp wr : List Addr} {G : Array GenState → Array GenState → Prop} {n : Nat} {Pv : Nat → Value → Prop} {St : Nat → Shared → Prop} {R : Result → Shared → Prop}
    (W : WalksS P w A.in1 I fp wr G n Pv St) (S : Addr) (hSf : S ∉ fp) (xs : List Str) (hn : n = xs.length) (hb : n + 1 < scanBound) (hval : ∀ i v, Pv i v → ∃ z t, xs[i]? = some z ∧ v = .str z t) (m : Nat) :
    ∀ (i : Nat) (s : Shared), n - i = m → i ≤ n → St i s → (∃ c, Holds P w s.heap S (xs.take i) c) → (∀ s' c, Moved (S :: wr) G s s' → Holds P w s'.heap S xs c → R (.ok (.ret .none)) s') →
      codeAny (model P w) A (.builtin "set.update.loop" ⟨[.ref S, .ref I], []⟩) R s := by
  have hSw : S ∉ wr := fun h => hSf (W.sub _ h)
  have hsub : ∀ b ∈ wr, b ∈ S :: wr := fun b hb => List.mem_cons_of_mem _ hb
  induction m with
  | zero =>
    rintro i s hk hi hst ⟨c, hS⟩ hR
    obtain rfl : i = n := by omega
    refine codeAny_builtin F.entry_set_update_loop ?_; rw [Around.under_plainId F.plain_set_update_loop _]; show wpAny _ A.in1 (pyNext (.ref I) >>= _) _ _ s
    refine wpAny_bind ((W.done s _ _ hst fun s' hm => ?_))
    rw [List.take_of_length_le (by omega)] at hS
    show wpAny _ A.in1 (ret Value.none) _ _ s'; exact (wpAny_pure (hR s' c (hm.mono hsub) (hS.at fun o e => hm.heap S o hSw e)))
  | succ m ih =>
    rintro i s hk hi hst ⟨c, hS⟩ hR
    have hlt : i < n := by omega
    refine codeAny_builtin F.entry_set_update_loop ?_; rw [Around.under_plainId F.plain_set_update_loop _]; show wpAny _ A.in1 (pyNext (.ref I) >>= _) _ _ s
    refine wpAny_bind ((W.item i s _ _ hlt hst fun v s' hP hst' hm => ?_))
    obtain ⟨z, t, hz, rfl⟩ := hval i v hP
    have hS' := hS.at (h' := s'.heap) fun o e => hm.heap S o hSw e
    show wpAny _ A.in1 (holding [Value.str z t] (setAdd S (.str z t)) >>= _) _ _ s'; refine wpAny_bind (wpAny_holding ?_); unfold setAdd
    refine (wpAny_holding (wpAny_bind ((PySem.strKind P w).pyHash (k := z) (strKind_is _ _ _ _) ?_)))
    have small : c + 1 < scanBound := by have := hS'.2.1; rw [List.length_take] at this; omega
    refine wpAny_setAddHashed_of (knd := PySem.strKind P w) (s := { s' with toks := s'.toks + 1 }) (strKind_is _ _ _ _) rfl hS'.1 small fun h' sb h2 => ?_
    have h3 := Holds.more hS'.2 h2
    have e : xs.take i ++ [z] = xs.take (i + 1) := by rw [List.take_add_one, hz]; rfl
    rw [e] at h3
    refine wpAny_pure ⟨plainId_quiet F.plain_set_update_loop _, ih (i + 1) _ (by omega) hlt (W.frame _ s' _ _ hst' (Nat.le_succ _) fun b hb o e => by rw [sb.2 b (fun h : b = S => hSf (by rw [← h]; exact hb))]; exact e) ⟨_, h3⟩ fun s2 c2 m2 h4 => ?_⟩
    refine hR s2 c2 (Moved.trans W.gtrans ((hm.mono hsub).then_heap (Nat.le_succ _) fun b o hb e => by rw [sb.2 b (fun h : b = S => hb (by rw [h]; exact List.mem_cons_self))]; exact e) m2) h4
/-- what the call of set leaves: the set at S, all else as it was -/
def SetMade (P : Program) (w : World) (s : Shared) (xs : List Str) (h' : Heap) : Prop :=
  (∃ c, Holds P w h' s.heap.objs.size xs c) ∧ ∀ b o, s.heap.get? b = some o → h'.get? b = some o
theorem holds_nil {h : Heap} {S : Addr} {xs : List Str} {led : Bool} (ho : h.get? S = some (emptySet led)) : Holds P w h S (xs.take 0) 0 :=
  ⟨⟨_, #[], 0, _, ho, ⟨rfl, rfl, rfl⟩, rfl, (fun e he => by simp at he), (fun k => by simp), (by decide), (by rfl), rfl⟩, Nat.zero_le _, by simp⟩
theorem call_set_tup {l : Addr} {items : Array Value} {xs : List Str} {Q : Value → Shared → Prop} (hh : A.handled = none) (hl : s.heap.IsTuple l items) (hx : ∀ (i : Nat) (v : Value), items[i]? = some v → ∃ z t, xs[i]? = some z ∧ v = .str z t)
    (hn : items.size = xs.length) (hb : xs.length + 1 < scanBound) (h : ∀ h' tk, SetMade P w s xs h' → Q (.ref s.heap.objs.size) { s with heap := h', toks := tk }) : wpAny (model P w) A (call (.type "set") [.ref l]) Q E s := by
  obtain ⟨c, tl, hmro⟩ := F.called_set.mro
  have hmade := F.called_set.made; have hsub := F.called_set.sub
  refine wpAny_call (codeAny_of_tree ?_); show wpAny _ _ (callAny (.type "set") _) _ _ _
  refine wpAny_pure ⟨Code.quiet_builtin _ (by decide +kernel), codeAny_builtin F.entry_type_call ?_⟩; rw [Around.under_plain (weight_type_call_type "set" [.ref l] []) rfl]
  have h1 := F.called_set.notType; have h2 := F.called_set.canCreate; have hct := F.typeCall_set_1 (.ref l)
  repeat (any_goals (first | assumption | wp_step))
  refine codeAny_mono (code_set_new_1 (.ref l) (E := E) (Q₁ := fun v s1 => ∃ led : Bool, v = .ref s.heap.objs.size ∧ s1 = { s with heap := s.heap.push (emptySet led) }) fun led => ⟨led, rfl, rfl⟩) fun r s1 hr => ?_
  cases r with
  | error e => exact hr
  | ok fl =>
    cases fl with
    | ret obj =>
      obtain ⟨led, rfl, rfl⟩ := hr
      have hS : (s.heap.push (emptySet led)).get? s.heap.objs.size = some (emptySet led) := Heap.get?_push_size _ rfl
      have hT : Shared.TypeIs { s with heap := s.heap.push (emptySet led) } (.ref s.heap.objs.size) "set" := ⟨_, hS, rfl⟩
      have hli := F.called_set.init.lookup; have hbi := F.called_set.init.bind (.ref s.heap.objs.size)
      repeat (any_goals (first | assumption | wp_step))
      refine codeAny_mono (codeAny_call_builtin (R := wants (fun r s2 => r = .none ∧ ∃ h' tk, s2 = { s with heap := h', toks := tk } ∧ SetMade P w s xs h') E) F.called_set.init.plain F.entry_set_init (check_set_init_1 hT ?_)) fun r2 s2 hr2 => ?_
      · obtain ⟨⟨ocls, odict, odata, oslots⟩, hol, hcl, nl, hdl⟩ := hl
        simp only at hcl hdl
        subst hcl hdl
        have hlS : l < s.heap.objs.size := Heap.lt_size hol
        have hl1 : (s.heap.push (emptySet led)).IsTuple l items := ⟨_, Heap.get?_push_of_some _ hol, rfl, nl, rfl⟩
        have hol' := hl1.choose_spec.1
        have hsls := F.sub_tuple_set; have hslf := F.sub_tuple_frozenset
        have hne : (Value.type "tuple" == Value.type "dict") = false := by decide
        have hol2 : (s.heap.push (emptySet led)).get? l = some { cls := .type "tuple", dict := odict, data := .seq items nl, slots := oslots } := Heap.get?_push_of_some _ hol
        clear hol'
        unfold Builtin.«set.__init__» noKeywords Builtin.Frozenset.updateFrom; generalize hPI : pyIter = PI
        wp_walk
        subst hPI
        refine wpAny_pyIter_tuple hl1 ?_; refine wpAny_bind (wpAny_runValue ?_)
        have size1 : (s.heap.push (emptySet led)).objs.size = s.heap.objs.size + 1 := Heap.size_push ..
        have lI : l ≠ (s.heap.push (emptySet led)).objs.size := by rw [size1]; exact Nat.ne_of_lt (Nat.lt_succ_of_lt hlS)
        have apart : s.heap.objs.size ∉ [(s.heap.push (emptySet led)).objs.size, l] := by
          rw [size1]; simp only [List.mem_cons, List.not_mem_nil, or_false, not_or]
          exact ⟨Nat.ne_of_lt (Nat.lt_succ_self _), (Nat.ne_of_gt hlS)⟩
        have calm3 : A.in1.in1.in1.handled = none := by simp [hh]
        refine set_turns ((Walks.tuple calm3 _ l lI items).toS) s.heap.objs.size apart xs hn (by rw [hn]; exact hb) hx (items.size - 0) 0 _ rfl (Nat.zero_le _) ⟨⟨_, Heap.get?_push_size _ rfl, rfl, rfl⟩, (hl1.push _)⟩
          ⟨0, holds_nil (led := led) (Heap.get?_push_of_some _ hS)⟩ fun s' c' hm hS' => ?_
        obtain ⟨h', g2, d', tk', os'⟩ := s'
        obtain rfl : g2 = s.gens := hm.gens
        obtain rfl : d' = s.drawn := hm.drawn
        obtain rfl : os' = s.os := hm.os
        show wpAny _ _ _ _ _ _; refine wpAny_pure ?_; show wpAny _ _ (ret Value.none) _ _ _
        refine wpAny_pure ⟨rfl, h', tk', rfl, ⟨c', hS'⟩, fun b o e => hm.heap b o ?_ (Heap.get?_push_of_some _ (Heap.get?_push_of_some _ e))⟩
        have hb0 : b < s.heap.objs.size := Heap.lt_size e
        simp only [List.mem_cons, List.not_mem_nil, or_false, not_or, size1]
        exact ⟨Nat.ne_of_lt hb0, (Nat.ne_of_lt (Nat.lt_succ_of_lt hb0))⟩
      · cases r2 with
        | error e => exact hr2
        | ok fl2 =>
          cases fl2 with
          | ret r =>
            obtain ⟨rfl, h', tk, rfl, hM⟩ := hr2
            repeat (any_goals (first | assumption | wp_step))
            exact h _ _ hM
          | _ => exact hr2.elim
    | _ => exact hr.elim
end
section
variable {X : Cx}
theorem val_strs : ∀ {zs : List Str} {us : List Value} {i : Nat} {v : Value}, Vals (zs.map V.str) us → us[i]? = some v → ∃ z t, zs[i]? = some z ∧ v = .str z t
  | [], _, _, _, .nil, h => by simp at h
  | z :: zs, _, 0, v, .cons r _, h => by
    obtain ⟨t, rfl⟩ := r
    simp at h
    exact ⟨z, t, rfl, h.symm⟩
  | z :: zs, _, i + 1, v, .cons _ t, h => val_strs (i := i) t (by simpa using h)
/-- len(set(t)), t a tuple of texts: some number that is the tuple's length just if the texts are unlike -/
def tLenSetT (K : PySem.W.Frag) (ta : TE) : TE := fun σ H Q => ta σ H fun x H1 => ∃ (l : Addr) (zs : List Str), x = .ref l ∧ SqT K H1 l (zs.map V.str) ∧ zs.length ≤ 1000 ∧ ∀ c : Nat, c ≤ zs.length → (c = zs.length ↔ zs.Nodup) → Q (.int c) H1
theorem pe_lenSetT {a : Expr} {ta : TE} {p p2 q pos : Pos} (hc : X.calm = true) (hg : Gl X "len") (hm : X.mg "len" = none) (hg2 : Gl X "set") (hm2 : X.mg "set" = none) (ha : PE X a ta) (na : starEach [a] X.env = (false, eval a X.env) :: starEach [] X.env := by rfl) :
    PE X (.Call (.Name "len" p) [.Call (.Name "set" p2) [a] [] q] [] pos) (tLenSetT X.K ta) := by
  refine ⟨fun pins s σ H Q I h => Call_ (ld_blt I hg hm boot_len (callWith_builtin1 (args_cons ?_ rfl) rfl rfl))⟩
  refine Call_ (ld_blt I hg2 hm2 PyProof.Rows.boot_set (callWith_type1 (args_cons (thn (ha.run pins s σ H _ I h) fun v s1 ⟨x, H1, I1, r1, q1⟩ => args_nil ?_) na) na rfl))
  obtain ⟨l, zs, rfl, hq, hz, q1⟩ := q1
  cases r1
  obtain ⟨its, r, pl, _⟩ := I1.tuple hq
  have hlen : its.toArray.size = zs.length := by rw [List.size_toArray, ← r.length, List.length_map]
  refine call_set_tup (I1.ok.hd hc) pl (fun i v hv => val_strs r (by simpa using hv)) hlen (by unfold scanBound; omega) fun h' tk hM => args_nil ?_
  obtain ⟨⟨c, ⟨⟨o, es, ep, t, ho, hex, hd, _, _, _, hf, hn⟩, hc1, hc2⟩⟩, hk⟩ := hM
  have I2 : Inv X pins σ H1 { s1 with heap := h', toks := tk } := I1.kept hk
  exact call_len_set ho hex hd hf (by rw [hn]; omega) ⟨.int c, H1, I2.tok _, ⟨_, by rw [hn]⟩, q1 c hc1 hc2⟩
end
end EE
set_option Elab.async false
set_option linter.all false
set_option maxRecDepth 100000
set_option maxHeartbeats 4000000
/-! rules about dicts: list(d.values()), dict(d), d.update(e) -/
namespace EE
open PySem PySem.Spec PyProof.Rows L2
section
variable {X : Cx} {e : Expr} {te : TE} {p apos cpos pos : Pos}
/-- list(e.values()) -/
def tListVals (te : TE) : TE := fun σ H Q => te σ H fun x H1 => ∃ d kvs, x = .ref d ∧ H1 d = some (.dK kvs) ∧ ∀ q, H1 q = none → Q (.ref q) (upd H1 q (.lst (kvs.map fun kv => kv.2)))
theorem pe_listVals (hc : X.calm = true) (hg : Gl X "list") (hm : X.mg "list" = none) (he : PE X e te) (hv : bootBuiltins "list" = some (.type "list")) (hbase : attributeBase e "values" X.env (eval e X.env) = eval e X.env := by rfl) (hline : (apos.endLine == cpos.line) = true := by rfl)
    (hs : starEach [.Call (.Attribute e "values" apos) [] [] cpos] X.env = (false, eval (.Call (.Attribute e "values" apos) [] [] cpos) X.env) :: starEach [] X.env := by rfl) :
    PE X (.Call (.Name "list" p) [.Call (.Attribute e "values" apos) [] [] cpos] [] pos) (tListVals te) := by
  refine ⟨fun pins s σ H Q I hq => wpAny_Call_Name_kw (ld_blt I hg hm hv (PyProof.Rows.callWith_type1 ?_ hs rfl))⟩
  rw [hs]
  show wpAny _ _ (spliced ((false, eval (.Call (.Attribute e "values" apos) [] [] cpos) X.env) :: backTo pos (starEach [] X.env))) _ _ s
  refine Calls.spliced_cons (wpAny_Call_method (T := "dict") (id := "dict.values") hbase rfl hline F.plainAttrs_dict F.slot_dict_values F.type_dict_values (thn (he.run pins s σ H _ I hq) fun u s1 ⟨x, H1, I1, rx, d, kvs, ex, hd, q⟩ => ?_))
  subst ex
  obtain rfl : u = Value.ref d := rx
  have ⟨hz, hs0, vs, kv, hdo⟩ := I1.hok d _ hd
  have ⟨ep, hat⟩ := hdo.dictAt
  have lk : kvs.length = vs.length := Paired.length kv
  have I2 : Inv X pins σ H1 { s1 with heap := s1.heap.push { cls := .type "dict_values", data := .fields #[.ref d] } } := I1.kept (t' := s1.toks) fun b ob q => Heap.get?_push_of_some _ q
  refine ⟨hdo.typeIs, hdo.mapOf.noDict, ?_⟩
  show wpAny _ _ (callWith cpos (.builtin "dict.values") [.ref d] [] []) _ X.xe s1
  refine method_meetsIn F.slot_dict_values F.entry_dict_values rfl (PySem.evalArgs_none ⟨rfl, hdo.typeIs, F.args_dict_values_1 _, _, meets_dict_values (mixKind X.prog X.w) d hs0, ⟨vs, hdo⟩, Calls.spliced_nil ?_⟩)
  refine PySem.W.kdl_call (PySem.W.kdl_values (knd := mixKind X.prog X.w) (kvs := vs) (ep := ep)) (I1.ok.hd hc) ⟨⟨_, Heap.get?_push_size _ rfl, rfl, rfl⟩, hat.push _⟩ (by rw [← lk]; exact hz) fun h' tk acc c hk hS hacc => ?_
  refine ⟨.ref _, upd H1 _ (.lst (kvs.map fun kv => kv.2)), (I2.laid (o := .lst (kvs.map fun kv => kv.2)) (t' := tk) hk (Nat.le_refl _) ⟨by rw [List.length_map]; exact hz, acc.toList, c, ?_, by rw [Array.toArray_toList (xs := acc)]; exact hS⟩), rfl, q _ (I2.hok.fresh (Nat.le_refl _))⟩
  have el : acc.toList.length = acc.size := by simp
  refine vals_of_at (by rw [List.length_map, el, hacc.1, lk]) fun j x w h1 h2 => ?_
  obtain ⟨k, hv⟩ := hacc.2 j w (by rw [← Array.getElem?_toList]; exact h2)
  rw [List.getElem?_map] at h1
  cases hkv : kvs[j]? with
  | none => rw [hkv] at h1; cases h1
  | some y =>
    rw [hkv] at h1
    obtain rfl : y.2 = x := Option.some.inj h1
    obtain ⟨z, hz1, hz2⟩ := LiI.paired_get kv hkv
    rw [hv] at hz1
    cases hz1
    exact hz2.2
/-- dict(d), d a dict: a copy -/
def rCopyD : List V → Hp → VK → Prop := fun xs H Q => ∃ a kvs, xs = [V.ref a] ∧ Rd H a (.dK kvs) ∧ ∀ p, H p = none → Q (.ref p) (upd H p (.dK kvs))
theorem cr_copyD : CallR X (.type "dict") rCopyD := by
  intro pins s σ H xs us Q I r h
  obtain ⟨a, kvs, rfl, ha, q⟩ := h
  obtain ⟨u, rfl, ru⟩ := vals1 r
  cases ru
  exact d_copyOf I ha fun p s' hp I' => ⟨.ref p, _, I', rfl, q p hp⟩
/-- d.update(e), both dicts, not the same one -/
def rUpdD : V → List V → Hp → VK → Prop := fun x vs H Q => ∃ d o kvs more, x = .ref d ∧ vs = [.ref o] ∧ d ≠ o ∧ H d = some (.dK kvs) ∧ Rd H o (.dK more) ∧ kvs.length + more.length ≤ sizeLine ∧ Q .non (upd H d (.dK (mergeK kvs more)))
theorem mt_updD : MtR X "dict.update" rUpdD := by
  intro pins s σ H x vs v us Q I rx rv h
  obtain ⟨d, o, kvs, more, rfl, rfl, hne, hd, ho, hz, q⟩ := h
  cases rx
  obtain ⟨u, rfl, ru⟩ := rv.one
  cases ru
  have ⟨z1, s1, ws, k1, hd1⟩ := I.hok d _ hd
  have ⟨z2, s2, ms, k2, ho1⟩ := (show ObjOk X.prog X.w H s.heap o (.dK more) from ho.ok I.hok)
  have l1 : kvs.length = ws.length := Paired.length k1
  have l2 : more.length = ms.length := Paired.length k2
  refine call_meetsIn F.slot_dict_update hd1.typeIs F.entry_dict_update (F.args_dict_update_2 _ _) (meets_dict_update (mixKind X.prog X.w) d o hne s2) ⟨ws, ms, hd1, ho1, by rw [← l1, ← l2]; exact hz, fun h' n1 n2 sb => ?_⟩
  have ⟨od, hod⟩ : ∃ u, h'.get? d = some u := by
    obtain ⟨od, es, ep, e, _⟩ := n1
    exact ⟨od, e⟩
  exact ⟨.non, upd H d (.dK (mergeK kvs more)), I.write (e := d) (t' := s.toks) (by rw [hd]; trivial) (.inl rfl) (fun b u hb hu => (sb.2 b hb).trans hu) ⟨od, hod⟩ ⟨Nat.le_trans (length_mergeK more kvs) hz, s1, _, KV.merge k2 k1, n1⟩, rfl, q⟩
/-- l.extend(t), t a tuple -/
theorem ext_tuple (l : Addr) (items : Array Value) (n : Nat) (b : Addr) (items2 : Array Value) (n2 : Nat) (dd : Option Addr) (sl : Array (Option Value)) (h0 : ¬(!items.isEmpty && Builtin.List.listTooLong (items.size + items2.size)) = true) (h1 : items.size ≤ sizeLine) (h2 : items.size + items2.size ≤ sizeLine + 1) :
    Meets (Builtin.«list.extend» ⟨[.ref l, .ref b], []⟩) (fun _ R s => s.heap.get? l = some { cls := .type "list", dict := none, data := .seq items n, slots := #[] } ∧ s.heap.get? b = some ⟨.type "tuple", dd, .seq items2 n2, sl⟩ ∧
      R (.ok (.ret Value.none)) { s with heap := s.heap.update l (Obj.mapSeq fun x => x ++ items2), toks := s.toks }) :=
  .of_wp fun prog w A R s h => by
    obtain ⟨hp, g, d, tk, os⟩ := s
    obtain ⟨hl, hb, h⟩ := h
    have g1 := AutoSeq1.idx_int; have g2 := AutoSeq1.sub_tuple_tuple; have g3 := AutoSeq1.sub_list_list; have g4 := AutoSeq1.sub_tuple_list; have g5 := AutoSeq1.sub_list_tuple
    have hz : (items ++ items2).size ≤ sizeLine + 1 := by rw [Array.size_append]; exact h2
    wp_walk using (wpAny_updateSeq hl rfl (hz := h1) (_hz' := hz)), wpAny_loadPart' hl, wpAny_loadPart' hb
    exact ⟨_, rfl, h⟩
def rExtT (K : PySem.W.Frag) : V → List V → Hp → VK → Prop := fun x vs H Q => ∃ l b xs zs, x = .ref l ∧ vs = [.ref b] ∧ H l = some (.lst xs) ∧ SqT K H b zs ∧ xs.length + zs.length ≤ sizeLine ∧ Q .non (upd H l (.lst (xs ++ zs)))
theorem mt_extT : MtR X "list.extend" (rExtT X.K) := by
  intro pins s σ H x vs v us Q I rx rv h
  obtain ⟨l, b, xs, zs, rfl, rfl, hH, hB, hz, q⟩ := h
  cases rx
  obtain ⟨u, rfl, ru⟩ := rv.one
  cases ru
  obtain ⟨z, its, n, r, hl, e⟩ := I.lstM hH
  obtain ⟨its2, r2, ⟨⟨c2, dd, d2, sl⟩, e2, hc, n2, hd⟩, hz2⟩ := I.tuple hB
  simp only at hc hd
  subst hc hd
  have l1 := r.length
  have l2 := r2.length
  have small : its.toArray.size + its2.toArray.size ≤ sizeLine := by rw [List.size_toArray, List.size_toArray]; omega
  have short : ¬(!its.toArray.isEmpty && Builtin.List.listTooLong (its.toArray.size + its2.toArray.size)) = true := by rw [notLongL small, Bool.and_false]; exact Bool.false_ne_true
  refine call_meets F.slot_list_extend ⟨_, e, rfl⟩ F.entry_list_extend (F.args_list_extend_2 _ _) (ext_tuple l its.toArray n b its2.toArray n2 dd sl short (by rw [List.size_toArray]; omega) (by omega)) ⟨e, e2, ?_⟩
  exact ⟨.non, _, I.lset (its' := its ++ its2) hH e (by simp) (r.append r2) (by rw [List.length_append]; omega), rfl, q⟩
end
end EE
set_option Elab.async false
set_option linter.all false
set_option maxRecDepth 100000
set_option maxHeartbeats 4000000
namespace EE
open PySem L2 Evl
open C8 (Cal cal0 pe_c fnScope_by)
structure DefX (K : PySem.W.Frag) (mg : Str → Option Value) (x : Str) (st : Stmt) (ps : List Str) : Prop where
  ex : ∃ f fd, C8.Def K mg x st f fd ∧ Binds K fd ps []
/-- a dict that the top has written, its keys texts -/
def KD (K : PySem.W.Frag) (w : World) (a : Addr) : Prop := ∃ es n, K.lookup a = some ⟨.type "dict", none, .dict es n, #[]⟩ ∧ PySem.W.KeysLit w.params es.toList ∧ (a == sysModules) = false
structure Txt (w : World) (K : PySem.W.Frag) (mg : Str → Option Value) : Prop where
  isi : mg "isinstance" = none
  len : mg "len" = none
  all : mg "all" = none
  strT : mg "str" = none
  d_is_name : DefX K mg "is_name" s_is_name P_is_name
  d_are_names : DefX K mg "are_names" s_are_names P_are_names
  setT : mg "set" = none
  intT : mg "int" = none
  boolT : mg "bool" = none
  tupT : mg "tuple" = none
  dictT : mg "dict" = none
  listT : mg "list" = none
  d_is_integer_between : DefX K mg "is_integer_between" s_is_integer_between P_is_integer_between
  d_is_tuple_of_names : DefX K mg "is_tuple_of_names" s_is_tuple_of_names P_is_tuple_of_names
  d_is_tuple_of_unlike_names : DefX K mg "is_tuple_of_unlike_names" s_is_tuple_of_unlike_names P_is_tuple_of_unlike_names
  d_family_of : DefX K mg "family_of" s_family_of P_family_of
  d_goes_in_a_ring : DefX K mg "goes_in_a_ring" s_goes_in_a_ring P_goes_in_a_ring
  d_all_fields : DefX K mg "all_fields" s_all_fields P_all_fields
  d_all_methods : DefX K mg "all_methods" s_all_methods P_all_methods
  revT : mg "reversed" = none
  any : mg "any" = none
  zipT : mg "zip" = none
  sumT : mg "sum" = none
  sortedT : mg "sorted" = none
  d_is_block : DefX K mg "is_block" s_is_block P_is_block
  d_is_statement : DefX K mg "is_statement" s_is_statement P_is_statement
  d_shape_of : DefX K mg "shape_of" s_shape_of P_shape_of
  d_is_part : DefX K mg "is_part" s_is_part P_is_part
  d_has_return : DefX K mg "has_return" s_has_return P_has_return
  d_blocks_of : DefX K mg "blocks_of" s_blocks_of P_blocks_of
  d_parts_of : DefX K mg "parts_of" s_parts_of P_parts_of
  d_statements_of : DefX K mg "statements_of" s_statements_of P_statements_of
  d_size_of : DefX K mg "size_of" s_size_of P_size_of
  d_is_expression : DefX K mg "is_expression" s_is_expression P_is_expression
  d_plain_functions : DefX K mg "plain_functions" s_plain_functions P_plain_functions
  d_count_lasts : DefX K mg "count_lasts" s_count_lasts P_count_lasts
  d_free_names : DefX K mg "free_names" s_free_names P_free_names
  d_strings_in : DefX K mg "strings_in" s_strings_in P_strings_in
  d_without_lasts : DefX K mg "without_lasts" s_without_lasts P_without_lasts
  d_plain_statements : DefX K mg "plain_statements" s_plain_statements P_plain_statements
  d_spots_of : DefX K mg "spots_of" s_spots_of P_spots_of
  d_lay_block : DefX K mg "lay_block" s_lay_block P_lay_block
  d_lay_statement : DefX K mg "lay_statement" s_lay_statement P_lay_statement
  d_lay_inner : DefX K mg "lay_inner" s_lay_inner P_lay_inner
  d_expressions_of : DefX K mg "expressions_of" s_expressions_of P_expressions_of
  d_copy_of_classes : DefX K mg "copy_of_classes" s_copy_of_classes P_copy_of_classes
  d_are_classes : DefX K mg "are_classes" s_are_classes P_are_classes
  d_is_class : DefX K mg "is_class" s_is_class P_is_class
  d_has_right_family : DefX K mg "has_right_family" s_has_right_family P_has_right_family
  d_are_functions : DefX K mg "are_functions" s_are_functions P_are_functions
  d_is_function : DefX K mg "is_function" s_is_function P_is_function
  d_are_methods_of : DefX K mg "are_methods_of" s_are_methods_of P_are_methods_of
  d_first_wrong_part : DefX K mg "first_wrong_part" s_first_wrong_part P_first_wrong_part
  c_MOST_SHARED : ∃ u, mg "MOST_SHARED" = some u ∧ RelV (.int 4) u
  c_MOST_CLASSES : ∃ u, mg "MOST_CLASSES" = some u ∧ RelV (.int 6) u
  c_MOST_FUNCTIONS : ∃ u, mg "MOST_FUNCTIONS" = some u ∧ RelV (.int 12) u
  c_MOST_PARAMETERS : ∃ u, mg "MOST_PARAMETERS" = some u ∧ RelV (.int 4) u
  c_MOST_OWN_FIELDS : ∃ u, mg "MOST_OWN_FIELDS" = some u ∧ RelV (.int 3) u
  c_MOST_FIELDS : ∃ u, mg "MOST_FIELDS" = some u ∧ RelV (.int 4) u
  c_SHAPES : ∃ a r, mg "SHAPES" = some (.ref a) ∧ KD K w a ∧ PySem.W.nsIn K a "return" = some (some (.ref r)) ∧ ∀ H, SqT K H r [.str "expression"]
  c_CHECKS : ∃ a f, mg "CHECKS" = some (.ref a) ∧ KD K w a ∧ mg "is_expression" = some (.ref f) ∧ PySem.W.nsIn K a "expression" = some (some (.ref f))
  c_BLOCKS : ∃ a, mg "BLOCKS" = some (.ref a) ∧ ∀ H, SqT K H a [.str "block", .str "bare"]
  c_MOST_DEEP : ∃ u, mg "MOST_DEEP" = some u ∧ RelV (.int 6) u
  c_MOST_STATEMENTS : ∃ u, mg "MOST_STATEMENTS" = some u ∧ RelV (.int 12) u
  c_SECOND_LETTERS : ∃ u, mg "SECOND_LETTERS" = some u ∧ RelV (.str "abcdefghijklmnopqrstuvwxyz") u
  c_KINDS : ∃ a, mg "KINDS" = some (.ref a) ∧ ∀ H, SqT K H a [.str "word", .str "row", .str "kept"]
  d_is_dict_of_names : DefX K mg "is_dict_of_names" s_is_dict_of_names P_is_dict_of_names
section
variable {K : PySem.W.Frag} {σ : L2.St} {H H' : Hp} {te : TE} {z : V}
theorem el_listVals {d : Addr} {kvs : List (Key × V)} (h : Ev te σ H (.ref d)) (hd : H d = some (.dK kvs)) : EvL (tListVals te) σ H (kvs.map fun kv => kv.2) := fun H1 e Q q =>
  h H1 e _ fun H2 e2 => ⟨d, kvs, rfl, e2 _ _ (e _ _ hd), fun p hp => q p _ (fresh_back e2 hp) (e2.trans (Ex.new hp)) upd_same⟩
/-- f(xs), xs a new list -/
theorem ev_callL {sp : Sp} {xs : List V} {E : XK} (h : EvL te σ H xs) (hs : ∀ p H1, Ex H H1 → H1 p = some (.lst xs) → SpV sp [.ref p] H1 z) : Ev (tCall sp [] E (tCons te tNil)) σ H z := fun H1 e Q q =>
  h H1 e _ fun p H2 _ e2 h2 => hs p H2 (e.trans e2) h2 H2 (Ex.refl H2) Q (fun H3 e3 => q H3 (e2.trans e3)) E
end
section
variable {P : Program} {w : World} {K : PySem.W.Frag} {mg : Str → Option Value} {base : Heap}
theorem mk_cal {x : Str} {st : Stmt} {N ps : List Str} {k : Nat} {sp : Sp} (D : DefX K mg x st ps) (S : FnScope N ps (C8.fnScope st)) (len : ∀ vs H Q E, sp vs H Q E → vs.length = ps.length)
    (hbody : ∀ (f : Addr) (cdv : Value) (A : Around) (outer : List Env) (s : Shared) (H : Hp) (vs : List V) (Q : VK) (E : XK), Room k (A.deeper (PyProof.Rows.envOfC x (C8.fnScope st) s.heap.objs.size f cdv)) → sp vs H Q E →
      ∃ t, PSs (cxOf C8.CX0 P w K mg base N x (C8.fnScope st) f cdv A outer s H E).nox (C8.fnBody st) t ∧ t { nx := fun _ H' => Q .non H', rt := Q } (start N vs) H) : Cal P w K mg base (k + 1) x sp [] := by
  obtain ⟨f, fd, D, b⟩ := D.ex
  exact cal0 D b .nil S len (hbody f)
/-- a name's text -/
def isNm (z : Str) : Bool := (decide ((1 : Int) ≤ z.length) && decide ((z.length : Int) ≤ 8)) && (Txt.isascii z && (Txt.isalpha z && Txt.islower z))
def NmV (K : PySem.W.Frag) (H : Hp) (v : V) (b : Bool) : Prop :=
  (∃ z, v = .str z ∧ z.length ≤ sizeLine ∧ b = isNm z) ∨ (b = false ∧ ∃ t, TyX K H v t ∧ PySem.W.kitOne K t (.type "str") = some false)
theorem NmV.mono {H H' : Hp} {v : V} {b : Bool} (e : Ex H H') (h : NmV K H v b) : NmV K H' v b := by
  rcases h with h | ⟨h, t, ht, hk⟩
  · exact .inl h
  · exact .inr ⟨h, t, tyx_mono e ht, hk⟩
def sp_is_name (K : PySem.W.Frag) : Sp := PuV fun vs H z => ∃ v b, vs = [v] ∧ z = .bl b ∧ NmV K H v b
theorem v_is_name {H : Hp} {v : V} {b : Bool} (h : NmV K H v b) : SpV (sp_is_name K) [v] H (.bl b) := spv fun H1 e => ⟨v, b, rfl, rfl, h.mono e⟩
theorem sc_is_name : FnScope N_is_name P_is_name (C8.fnScope s_is_name) := fnScope_by (by decide +kernel)
theorem ok_is_name (T : Txt w K mg) : Cal P w K mg base 1 "is_name" (sp_is_name K) [] := by
  refine mk_cal T.d_is_name sc_is_name (fun vs H Q E h => ?_) (fun f cdv A outer s H vs Q E hr h => ?_)
  · obtain ⟨z, ⟨v, b, rfl, _⟩, _⟩ := h
    rfl
  · obtain ⟨z, ⟨v, b, rfl, rfl, hv⟩, k⟩ := h
    refine ⟨_, pss_one (ps_ret (pe_and (pe_callB call_isi (by rfl) T.isi (by decide +kernel) (pa_cons (pv 0) (pa_cons (pe_bltn (v := .ty "str") (by rfl) T.strT (u := .type "str") (by decide +kernel) (by rfl)) pa_nil)))
      (pe_and (pe_chain op_le op_le pe_int (pe_callB call_len_str (by rfl) T.len (by decide +kernel) (pa_cons (pv 0) pa_nil)) pe_int)
      (pe_and (pe_bm0 PySem.F.plainAttrs_str PySem.F.slot_str_isascii PySem.F.type_str_isascii mt_isascii (pv 0))
      (pe_and (pe_bm0 PySem.F.plainAttrs_str PySem.F.slot_str_isalpha PySem.F.type_str_isalpha mt_isalpha (pv 0))
      (pe_one (pe_bm0 PySem.F.plainAttrs_str PySem.F.slot_str_islower PySem.F.type_str_islower mt_islower (pv 0)))))))), ?_⟩
    refine s_ret (v := .bl b) ?_ fun H1 e => k H1 e
    have hx : ((start N_is_name [v])[0]? : Option (Option V)) = some (some v) := rfl
    rcases hv with ⟨z, rfl, hz, rfl⟩ | ⟨rfl, t, ht, hk⟩
    · refine ev_is (ev_andV (a := true) (b := isNm z) (ev_cb (ea_cons (ev_var hx) (ea_cons ev_c ea_nil)) (rc_isi (.ty "str") (.base (.str z)) (kit_ty (by decide +kernel)))) fun _ => ?_) rfl
      refine ev_andV (ev_chain ev_c (ev_cb (ea_cons (ev_var hx) ea_nil) (rc_lenstr hz)) rv_I0 fun _ => ⟨_, ev_c, rv_I0⟩) fun _ => ?_
      exact ev_andV (ev_bm0s (ev_var hx)) fun _ => ev_andV (ev_bm0s (ev_var hx)) fun _ => ev_bm0s (ev_var hx)
    · exact ev_is (ev_andV (a := false) (b := false) (ev_cb (ea_cons (ev_var hx) (ea_cons ev_c ea_nil)) (rc_isi (.ty "str") ht hk)) fun z => nomatch z) rfl
/-- these are names, or not, one by one -/
def NmVs (K : PySem.W.Frag) (H : Hp) (xs : List V) (bs : List Bool) : Prop := Paired (NmV K H) xs bs
theorem NmVs.len {H : Hp} : ∀ {xs : List V} {bs : List Bool}, NmVs K H xs bs → bs.length = xs.length
  | _, _, .nil => rfl
  | _, _, .cons _ t => congrArg (· + 1) (NmVs.len t)
theorem NmVs.mono {H H' : Hp} {xs : List V} {bs : List Bool} (e : Ex H H') (h : NmVs K H xs bs) : NmVs K H' xs bs := by
  induction h with
  | nil => exact .nil
  | cons h _ ih => exact .cons (h.mono e) ih
theorem NmVs.get {H : Hp} : ∀ {xs : List V} {bs : List Bool} {i : Nat} {x : V} {y : V}, NmVs K H xs bs → xs[i]? = some x → (bs.map V.bl)[i]? = some y → ∃ b, y = .bl b ∧ NmV K H x b
  | _, _, _, _, _, .nil, h, _ => by simp at h
  | _, _, 0, x, y, .cons h _, hx, hy => by
    simp at hx hy
    subst hx hy
    exact ⟨_, rfl, h⟩
  | _, _, i + 1, x, y, .cons _ t, hx, hy => NmVs.get (i := i) t (by simpa using hx) (by simpa using hy)
theorem NmVs.strs {H : Hp} : ∀ (zs : List Str), (∀ z ∈ zs, z.length ≤ sizeLine) → NmVs K H (zs.map V.str) (zs.map isNm)
  | [], _ => .nil
  | z :: zs, h => .cons (.inl ⟨z, rfl, h z List.mem_cons_self, rfl⟩) (NmVs.strs zs fun y hy => h y (List.mem_cons_of_mem _ hy))
/-- what are_names may be given: a tuple, a list, a dict -/
def Items (K : PySem.W.Frag) (H : Hp) (v : V) (xs : List V) : Prop :=
  ∃ a, v = .ref a ∧ (SqT K H a xs ∨ SqL K H a xs ∨ ∃ kvs : List (Key × V), H a = some (.dK kvs) ∧ xs = kvs.map fun p => kV p.1)
theorem Items.mono {H H' : Hp} {v : V} {xs : List V} (e : Ex H H') (h : Items K H v xs) : Items K H' v xs := by
  obtain ⟨a, rfl, h | h | ⟨kvs, h, h2⟩⟩ := h
  · exact ⟨a, rfl, .inl (ex_t e h)⟩
  · exact ⟨a, rfl, .inr (.inl (ex_l e h))⟩
  · exact ⟨a, rfl, .inr (.inr ⟨kvs, e _ _ h, h2⟩)⟩
def sp_are_names (K : PySem.W.Frag) : Sp := PuV fun vs H z => ∃ v xs bs, vs = [v] ∧ z = .bl (bs.all id) ∧ Items K H v xs ∧ NmVs K H xs bs ∧ xs.length ≤ 40000
theorem v_are_names {H : Hp} {v : V} {xs : List V} {bs : List Bool} (hi : Items K H v xs) (h : NmVs K H xs bs) (hz : xs.length ≤ 40000) : SpV (sp_are_names K) [v] H (.bl (bs.all id)) :=
  spv fun H1 e => ⟨v, xs, bs, rfl, rfl, hi.mono e, h.mono e, hz⟩
theorem sc_are_names : FnScope N_are_names P_are_names (C8.fnScope s_are_names) := fnScope_by (by decide +kernel)
theorem key_nm {H H' : Hp} {k : Key} {b : Bool} (h : NmV K H (kV k) b) : NmV K H' (kV k) b := by
  cases k with
  | inl i =>
    rcases h with ⟨z, h, _⟩ | ⟨h, _⟩
    · cases h
    · exact .inr ⟨h, _, .base (.int i), kit_ty (by decide +kernel)⟩
  | inr z =>
    rcases h with h | ⟨_, t, h, hk⟩
    · exact .inl h
    · cases h with
      | base h =>
        cases h
        rw [kit_ty (a := "str") (b := "str") (r := true) (by decide +kernel)] at hk
        cases hk
theorem keys_nm {H H' : Hp} : ∀ {ks : List (Key × V)} {bs : List Bool}, NmVs K H (ks.map fun p => kV p.1) bs → NmVs K H' (ks.map fun p => kV p.1) bs
  | [], _, .nil => .nil
  | _ :: _, _, .cons h t => .cons (key_nm h) (keys_nm t)
theorem ok_are_names (T : Txt w K mg) : Cal P w K mg base 2 "are_names" (sp_are_names K) [] := by
  refine mk_cal T.d_are_names sc_are_names (fun vs H Q E h => ?_) (fun f cdv A outer s H vs Q E hr h => ?_)
  · obtain ⟨z, ⟨v, xs, bs, rfl, _⟩, _⟩ := h
    rfl
  · obtain ⟨z, ⟨v, xs, bs, rfl, rfl, hi, hb, hz⟩, k⟩ := h
    obtain ⟨a, rfl, hi⟩ := hi
    have hx : ((start N_are_names [V.ref a])[0]? : Option (Option V)) = some (some (.ref a)) := rfl
    have turn : ∀ (H : Hp), NmVs K H xs bs → ∀ (i : Nat) (x y : V) (H1 : Hp), Ex H H1 → xs[i]? = some x → (bs.map V.bl)[i]? = some y →
        Ev (tCall (sp_is_name K) [] L2.E0 (tCons (tVar 1) tNil)) ((wipe (start N_are_names [V.ref a]) [1]).set 1 (some x)) H1 y := fun H hb i x y H1 e1 h1 h2 => by
      obtain ⟨b, rfl, hn⟩ := hb.get h1 h2
      exact ev_call (ea_cons (ev_var rfl) ea_nil) (v_is_name (hn.mono e1))
    rcases hi with hi | hi | ⟨kvs, hi, rfl⟩
    · refine ⟨_, pss_one (ps_ret (pe_callB (cr_all rfl) (by rfl) T.all (by decide +kernel) (pa_cons (pe_lc (own := [("thing", 1)]) (g := gName 1) (tt := tYes) rfl sc_are_names.nd (pi_tup (pv 0)) (blkOk_by (N := N_are_names) (sc := C8.fnScope s_are_names) (by decide +kernel))
        (fun _ _ _ _ _ => pg_name (i := 1) sc_are_names.nd rfl (Or.inl rfl)) (fun _ _ _ _ _ => pts_nil) (fun _ _ _ _ _ => pe_c (ok_is_name T) hr (Nat.le_refl _) (by rfl) (pa_cons (pv 1) pa_nil))) pa_nil))), ?_⟩
      refine s_ret (v := .bl (bs.all id)) ?_ fun H1 e => k H1 e
      refine ev_cbL (el_lcA (bs.map V.bl) (by rw [List.length_map]; exact hb.len) (ei_tup (ev_var hx) hi) hz (fun _ => rfl) (turn H hb)) fun p H1 _ hp => rc_all (sq_of hp)
    · refine ⟨_, pss_one (ps_ret (pe_callB (cr_all rfl) (by rfl) T.all (by decide +kernel) (pa_cons (pe_lc (own := [("thing", 1)]) (g := gName 1) (tt := tYes) rfl sc_are_names.nd (pi_list (pv 0)) (blkOk_by (N := N_are_names) (sc := C8.fnScope s_are_names) (by decide +kernel))
        (fun _ _ _ _ _ => pg_name (i := 1) sc_are_names.nd rfl (Or.inl rfl)) (fun _ _ _ _ _ => pts_nil) (fun _ _ _ _ _ => pe_c (ok_is_name T) hr (Nat.le_refl _) (by rfl) (pa_cons (pv 1) pa_nil))) pa_nil))), ?_⟩
      refine s_ret (v := .bl (bs.all id)) ?_ fun H1 e => k H1 e
      refine ev_cbL (el_lcA (bs.map V.bl) (by rw [List.length_map]; exact hb.len) (ei_list (ev_var hx) hi) hz (fun _ => rfl) (turn H hb)) fun p H1 _ hp => rc_all (sq_of hp)
    · refine ⟨_, pss_one (ps_ret (pe_callB (cr_all rfl) (by rfl) T.all (by decide +kernel) (pa_cons (pe_lock (pe_lc (own := [("thing", 1)]) (g := gName 1) (tt := tYes) rfl sc_are_names.nd (pi_keys (pv 0)) (blkOk_by (N := N_are_names) (sc := C8.fnScope s_are_names) (by decide +kernel))
        (fun _ _ _ _ _ => pg_name (i := 1) sc_are_names.nd rfl (Or.inl rfl)) (fun _ _ _ _ _ => pts_nil) (fun _ _ _ _ _ => pe_c (ok_is_name T) hr (Nat.le_refl _) (by rfl) (pa_cons (pv 1) pa_nil)))) pa_nil))), ?_⟩
      refine s_ret (v := .bl (bs.all id)) ?_ fun H1 e => k H1 e
      refine ev_cbL (evl_lock hi fun od => ?_) fun p H1 _ hp => rc_all (sq_of hp)
      exact el_lcA (bs.map V.bl) (by rw [List.length_map]; exact hb.len) (ei_keys (ev_var hx) upd_same) hz (fun _ => rfl) (turn _ (keys_nm hb))
/-- what stands in the place of a tuple: a tuple of these, or no tuple -/
def TupQ (K : PySem.W.Frag) (H : Hp) (v : V) (o : Option (List V)) : Prop :=
  (∃ a xs, v = .ref a ∧ SqT K H a xs ∧ o = some xs) ∨ (o = none ∧ ∃ t, TyX K H v t ∧ PySem.W.kitOne K t (.type "tuple") = some false)
theorem TupQ.mono {H H' : Hp} {v : V} {o : Option (List V)} (e : Ex H H') (h : TupQ K H v o) : TupQ K H' v o := by
  rcases h with ⟨a, xs, rfl, h, h2⟩ | ⟨h, t, ht, hk⟩
  · exact .inl ⟨a, xs, rfl, ex_t e h, h2⟩
  · exact .inr ⟨h, t, tyx_mono e ht, hk⟩
theorem tyx_sqT {H : Hp} {a : Addr} {xs : List V} (h : SqT K H a xs) : TyX K H (.ref a) (.type "tuple") := by
  rcases h with (h | ⟨o, h⟩) | h
  · exact .base (.tup h)
  · exact .fTuple h
  · obtain ⟨o, _, _, e, c, _⟩ := h
    exact .kTuple e c
theorem rc_lenS {H : Hp} {a : Addr} {xs : List V} (h : SqL K H a xs ∨ SqT K H a xs) : RC (fun xs H Q => ∃ p ys, xs = [.ref p] ∧ (SqL K H p ys ∨ SqT K H p ys) ∧ Q (.int ys.length) H) [.ref a] H (.int (xs.length : Nat)) :=
  fun H1 e Q q => ⟨a, xs, rfl, h.elim (fun h => .inl (ex_l e h)) (fun h => .inr (ex_t e h)), q H1 (Ex.refl H1)⟩
/-- isinstance(x, tuple) -/
theorem rc_isTup {H : Hp} {v : V} {o : Option (List V)} (h : TupQ K H v o) : RC (rIsi K) [v, .ty "tuple"] H (.bl o.isSome) := by
  rcases h with ⟨a, xs, rfl, h, rfl⟩ | ⟨rfl, t, ht, hk⟩
  · exact rc_isi (.ty "tuple") (tyx_sqT h) (show PySem.W.kitOne K (.type "tuple") (.type "tuple") = some true from kit_ty (by decide +kernel))
  · exact rc_isi (.ty "tuple") ht hk
theorem sc_is_tuple_of_names : FnScope N_is_tuple_of_names P_is_tuple_of_names (C8.fnScope s_is_tuple_of_names) := fnScope_by (by decide +kernel)
/-- the answer of is_tuple_of_names: bs of the items of a tuple -/
def tupNm (most : Int) (o : Option (List V)) (bs : List Bool) : Bool := o.isSome && (decide (((o.getD []).length : Int) ≤ most) && bs.all id)
def TupN (K : PySem.W.Frag) (H : Hp) (v : V) (o : Option (List V)) (bs : List Bool) : Prop := TupQ K H v o ∧ (∀ xs, o = some xs → NmVs K H xs bs ∧ xs.length ≤ 40000)
theorem TupN.mono {H H' : Hp} {v : V} {o : Option (List V)} {bs : List Bool} (e : Ex H H') (h : TupN K H v o bs) : TupN K H' v o bs := ⟨h.1.mono e, fun xs hx => ⟨(h.2 xs hx).1.mono e, (h.2 xs hx).2⟩⟩
def sp_is_tuple_of_names (K : PySem.W.Frag) : Sp := PuV fun vs H z => ∃ most v o bs, vs = [.int most, v] ∧ z = .bl (tupNm most o bs) ∧ TupN K H v o bs
theorem v_is_tuple_of_names {H : Hp} {most : Int} {v : V} {o : Option (List V)} {bs : List Bool} (h : TupN K H v o bs) : SpV (sp_is_tuple_of_names K) [.int most, v] H (.bl (tupNm most o bs)) :=
  spv fun H1 e => ⟨most, v, o, bs, rfl, rfl, h.mono e⟩
theorem ok_is_tuple_of_names (T : Txt w K mg) : Cal P w K mg base 3 "is_tuple_of_names" (sp_is_tuple_of_names K) [] := by
  refine mk_cal T.d_is_tuple_of_names sc_is_tuple_of_names (fun vs H Q E h => ?_) (fun f cdv A outer s H vs Q E hr h => ?_)
  · obtain ⟨z, ⟨_, _, _, _, rfl, _⟩, _⟩ := h
    rfl
  · obtain ⟨z, ⟨most, v, o, bs, rfl, rfl, hv⟩, k⟩ := h
    refine ⟨_, pss_one (ps_ret (pe_and (pe_callB call_isi (by rfl) T.isi (by decide +kernel) (pa_cons (pv 1) (pa_cons (pe_bltn (v := .ty "tuple") (by rfl) T.tupT (u := .type "tuple") (by decide +kernel) (by rfl)) pa_nil)))
      (pe_and (pe_cmpR op_le (pe_callB call_len_seq (by rfl) T.len (by decide +kernel) (pa_cons (pv 1) pa_nil)) (pv 0) (nomark _))
      (pe_one (pe_c (ok_are_names T) hr (by decide) (by rfl) (pa_cons (pv 1) pa_nil)))))), ?_⟩
    refine s_ret (v := .bl (tupNm most o bs)) ?_ fun H1 e => k H1 e
    have h0 : ((start N_is_tuple_of_names [V.int most, v])[0]? : Option (Option V)) = some (some (.int most)) := rfl
    have h1 : ((start N_is_tuple_of_names [V.int most, v])[1]? : Option (Option V)) = some (some v) := rfl
    refine ev_andV (ev_cb (ea_cons (ev_var h1) (ea_cons ev_c ea_nil)) (rc_isTup hv.1)) fun ho => ?_
    obtain ⟨hq, hn⟩ := hv
    rcases hq with ⟨a, xs, rfl, h, rfl⟩ | ⟨rfl, _⟩
    · obtain ⟨hb, hz⟩ := hn xs rfl
      refine ev_andV (ev_op (ev_cb (ea_cons (ev_var h1) ea_nil) (rc_lenS (.inr h))) (ev_var h0) rv_I0) fun _ => ?_
      exact ev_call (ea_cons (ev_var h1) ea_nil) (v_are_names ⟨a, rfl, .inl h⟩ hb hz)
    · cases ho
/-! is_tuple_of_unlike_names -/
theorem NmVs.all_strs {H : Hp} : ∀ {xs : List V} {bs : List Bool}, NmVs K H xs bs → bs.all id = true → ∃ zs : List Str, xs = zs.map V.str ∧ ∀ z ∈ zs, isNm z = true ∧ z.length ≤ sizeLine
  | _, _, .nil, _ => ⟨[], rfl, fun _ h => by simp at h⟩
  | _, _, .cons (a := x) (b := b) h t, hb => by
    rw [List.all_cons, Bool.and_eq_true] at hb
    obtain ⟨zs, rfl, hz⟩ := NmVs.all_strs t hb.2
    rcases h with ⟨z, rfl, hl, rfl⟩ | ⟨rfl, _⟩
    · exact ⟨z :: zs, rfl, fun y hy => by
        rcases List.mem_cons.mp hy with rfl | hy
        · exact ⟨hb.1, hl⟩
        · exact hz y hy⟩
    · exact absurd hb.1 (by simp)
def unV : V → Str
  | .str z => z
  | _ => Str.empty
def tupUn (most : Int) (o : Option (List V)) (bs : List Bool) : Bool := tupNm most o bs && decide (((o.getD []).map unV).Nodup)
theorem un_map (zs : List Str) : (zs.map V.str).map unV = zs := by
  rw [List.map_map]
  exact List.map_id'' (fun _ => rfl) zs
def sp_unlike (K : PySem.W.Frag) : Sp := PuV fun vs H z => ∃ most v o bs, vs = [.int most, v] ∧ most ≤ 900 ∧ z = .bl (tupUn most o bs) ∧ TupN K H v o bs
theorem v_unlike {H : Hp} {most : Int} {v : V} {o : Option (List V)} {bs : List Bool} (hm : most ≤ 900) (h : TupN K H v o bs) : SpV (sp_unlike K) [.int most, v] H (.bl (tupUn most o bs)) :=
  spv fun H1 e => ⟨most, v, o, bs, rfl, hm, rfl, h.mono e⟩
theorem ev_lenSetT {σ : L2.St} {H : Hp} {te : TE} {l : Addr} {zs : List Str} {z : V} {r : R2} {tb : TE} (h : Ev te σ H (.ref l)) (hz : SqT K H l (zs.map V.str)) (hn : zs.length ≤ 1000)
    (k : ∀ c : Nat, c ≤ zs.length → (c = zs.length ↔ zs.Nodup) → ∀ H1, Ex H H1 → ∀ Q : VK, (∀ H2, Ex H1 H2 → Q z H2) → tb σ H1 fun y H2 => r (.int c) y H2 Q) : Ev (tOp r (tLenSetT K te) tb) σ H z := fun H1 e Q q =>
  h H1 e _ fun H2 e2 => ⟨l, zs, rfl, ex_t (e.trans e2) hz, hn, fun c h1 h2 => k c h1 h2 H2 (e.trans e2) Q fun H3 e3 => q H3 (e2.trans e3)⟩
theorem sc_is_tuple_of_unlike_names : FnScope N_is_tuple_of_unlike_names P_is_tuple_of_unlike_names (C8.fnScope s_is_tuple_of_unlike_names) := fnScope_by (by decide +kernel)
theorem ok_unlike (T : Txt w K mg) : Cal P w K mg base 4 "is_tuple_of_unlike_names" (sp_unlike K) [] := by
  refine mk_cal T.d_is_tuple_of_unlike_names sc_is_tuple_of_unlike_names (fun vs H Q E h => ?_) (fun f cdv A outer s H vs Q E hr h => ?_)
  · obtain ⟨z, ⟨_, _, _, _, rfl, _⟩, _⟩ := h
    rfl
  · obtain ⟨z, ⟨most, v, o, bs, rfl, hm, rfl, hv⟩, k⟩ := h
    refine ⟨_, pss_one (ps_ret (pe_and (pe_c (ok_is_tuple_of_names T) hr (by decide) (by rfl) (pa_cons (pv 0) (pa_cons (pv 1) pa_nil)))
      (pe_one (pe_cmpR op_eq (pe_lenSetT rfl (by rfl) T.len (by rfl) T.setT (pv 1)) (pe_callB call_len_seq (by rfl) T.len (by decide +kernel) (pa_cons (pv 1) pa_nil)) (nomark _))))), ?_⟩
    refine s_ret (v := .bl (tupUn most o bs)) ?_ fun H1 e => k H1 e
    have h0 : ((start N_is_tuple_of_unlike_names [V.int most, v])[0]? : Option (Option V)) = some (some (.int most)) := rfl
    have h1 : ((start N_is_tuple_of_unlike_names [V.int most, v])[1]? : Option (Option V)) = some (some v) := rfl
    refine ev_andV (ev_call (ea_cons (ev_var h0) (ea_cons (ev_var h1) ea_nil)) (v_is_tuple_of_names hv)) fun ho => ?_
    obtain ⟨hq, hn⟩ := hv
    rcases hq with ⟨a, xs, rfl, h, rfl⟩ | ⟨rfl, _⟩
    · obtain ⟨hb, hz⟩ := hn xs rfl
      have ho2 : (decide ((xs.length : Int) ≤ most) && bs.all id) = true := ho
      rw [Bool.and_eq_true, decide_eq_true_eq] at ho2
      obtain ⟨zs, rfl, _⟩ := hb.all_strs ho2.2
      have hlen : (zs.map V.str).length = zs.length := List.length_map _
      rw [hlen] at ho2 hz
      refine ev_lenSetT (ev_var h1) h (by omega) fun c h1' h2' H1 e Q q => ?_
      refine (ev_cb (ea_cons (ev_var h1) ea_nil) (rc_lenS (.inr h))) H1 e _ fun H2 e2 => ⟨rfl, ?_⟩
      have er : V.bl (decide ((V.int (c : Nat)) = V.int ((zs.map V.str).length : Nat))) = V.bl (decide (((Option.getD (some (zs.map V.str)) []).map unV).Nodup)) := by
        congr 1
        rw [hlen, Option.getD_some, un_map]
        refine decide_eq_decide.mpr ⟨fun z => h2'.mp (by injection z with z; omega), fun z => by rw [h2'.mpr z]⟩
      rw [er]
      exact q H2 e2
    · cases ho
/-! is_dict_of_names -/
theorem sc_is_dict_of_names : FnScope N_is_dict_of_names P_is_dict_of_names (C8.fnScope s_is_dict_of_names) := fnScope_by (by decide +kernel)
/-- what stands in the place of a dict -/
def DictQ (K : PySem.W.Frag) (H : Hp) (v : V) (o : Option (List (Key × V))) : Prop :=
  (∃ a kvs, v = .ref a ∧ H a = some (.dK kvs) ∧ o = some kvs) ∨ (o = none ∧ ∃ t, TyX K H v t ∧ PySem.W.kitOne K t (.type "dict") = some false)
theorem DictQ.mono {H H' : Hp} {v : V} {o : Option (List (Key × V))} (e : Ex H H') (h : DictQ K H v o) : DictQ K H' v o := by
  rcases h with ⟨a, xs, rfl, h, h2⟩ | ⟨h, t, ht, hk⟩
  · exact .inl ⟨a, xs, rfl, e _ _ h, h2⟩
  · exact .inr ⟨h, t, tyx_mono e ht, hk⟩
theorem rc_isDict {H : Hp} {v : V} {o : Option (List (Key × V))} (h : DictQ K H v o) : RC (rIsi K) [v, .ty "dict"] H (.bl o.isSome) := by
  rcases h with ⟨a, xs, rfl, h, rfl⟩ | ⟨rfl, t, ht, hk⟩
  · exact rc_isi (.ty "dict") (.base (.dK h)) (show PySem.W.kitOne K (.type "dict") (.type "dict") = some true from kit_ty (by decide +kernel))
  · exact rc_isi (.ty "dict") ht hk
def dictNm (o : Option (List (Key × V))) (ks bs : List Bool) : Bool := o.isSome && (ks.all id && bs.all id)
def DictN (K : PySem.W.Frag) (H : Hp) (v : V) (o : Option (List (Key × V))) (ks bs : List Bool) : Prop :=
  DictQ K H v o ∧ ∀ kvs, o = some kvs → NmVs K H (kvs.map fun p => kV p.1) ks ∧ NmVs K H (kvs.map fun p => p.2) bs ∧ kvs.length ≤ 40000
theorem DictN.mono {H H' : Hp} {v : V} {o : Option (List (Key × V))} {ks bs : List Bool} (e : Ex H H') (h : DictN K H v o ks bs) : DictN K H' v o ks bs :=
  ⟨h.1.mono e, fun xs hx => ⟨(h.2 xs hx).1.mono e, (h.2 xs hx).2.1.mono e, (h.2 xs hx).2.2⟩⟩
def sp_is_dict_of_names (K : PySem.W.Frag) : Sp := PuV fun vs H z => ∃ v o ks bs, vs = [v] ∧ z = .bl (dictNm o ks bs) ∧ DictN K H v o ks bs
theorem v_is_dict_of_names {H : Hp} {v : V} {o : Option (List (Key × V))} {ks bs : List Bool} (h : DictN K H v o ks bs) : SpV (sp_is_dict_of_names K) [v] H (.bl (dictNm o ks bs)) :=
  spv fun H1 e => ⟨v, o, ks, bs, rfl, rfl, h.mono e⟩
theorem ok_is_dict_of_names (T : Txt w K mg) : Cal P w K mg base 3 "is_dict_of_names" (sp_is_dict_of_names K) [] := by
  refine mk_cal T.d_is_dict_of_names sc_is_dict_of_names (fun vs H Q E h => ?_) (fun f cdv A outer s H vs Q E hr h => ?_)
  · obtain ⟨z, ⟨_, _, _, _, rfl, _⟩, _⟩ := h
    rfl
  · obtain ⟨z, ⟨v, o, ks, bs, rfl, rfl, hv⟩, k⟩ := h
    refine ⟨_, pss_one (ps_ret (pe_and (pe_callB call_isi (by rfl) T.isi (by decide +kernel) (pa_cons (pv 0) (pa_cons (pe_bltn (v := .ty "dict") (by rfl) T.dictT (u := .type "dict") (by decide +kernel) (by rfl)) pa_nil)))
      (pe_and (pe_c (ok_are_names T) hr (by decide) (by rfl) (pa_cons (pv 0) pa_nil))
      (pe_one (pe_c (ok_are_names T) hr (by decide) (by rfl) (pa_cons (pe_listVals rfl (by rfl) T.listT (pv 0) (by decide +kernel)) pa_nil)))))), ?_⟩
    refine s_ret (v := .bl (dictNm o ks bs)) ?_ fun H1 e => k H1 e
    have h0 : ((start N_is_dict_of_names [v])[0]? : Option (Option V)) = some (some v) := rfl
    refine ev_andV (ev_cb (ea_cons (ev_var h0) (ea_cons ev_c ea_nil)) (rc_isDict hv.1)) fun ho => ?_
    obtain ⟨hq, hn⟩ := hv
    rcases hq with ⟨a, kvs, rfl, h, rfl⟩ | ⟨rfl, _⟩
    · obtain ⟨hk, hb, hz⟩ := hn kvs rfl
      refine ev_andV (ev_call (ea_cons (ev_var h0) ea_nil) (v_are_names ⟨a, rfl, .inr (.inr ⟨kvs, h, rfl⟩)⟩ hk (by rw [List.length_map]; exact hz))) fun _ => ?_
      refine ev_callL (el_listVals (ev_var h0) h) fun p H1 e hp => ?_
      exact v_are_names ⟨p, rfl, .inr (.inl (sq_of hp))⟩ (hb.mono e) (by rw [List.length_map]; exact hz)
    · cases ho
/-! is_integer_between -/
def IntQ (K : PySem.W.Frag) (H : Hp) (v : V) (o : Option Int) : Prop :=
  (∃ i, v = .int i ∧ o = some i) ∨ (o = none ∧ ((∃ b, v = .bl b) ∨ ∃ t, TyX K H v t ∧ PySem.W.kitOne K t (.type "int") = some false))
theorem IntQ.mono {H H' : Hp} {v : V} {o : Option Int} (e : Ex H H') (h : IntQ K H v o) : IntQ K H' v o := by
  rcases h with h | ⟨h, h2 | ⟨t, ht, hk⟩⟩
  · exact .inl h
  · exact .inr ⟨h, .inl h2⟩
  · exact .inr ⟨h, .inr ⟨t, tyx_mono e ht, hk⟩⟩
def intBt (low high : Int) (o : Option Int) : Bool := match o with
  | some i => decide (low ≤ i) && decide (i ≤ high)
  | none => false
def sp_between (K : PySem.W.Frag) : Sp := PuV fun vs H z => ∃ low high v o, vs = [.int low, .int high, v] ∧ z = .bl (intBt low high o) ∧ IntQ K H v o
theorem v_between {H : Hp} {low high : Int} {v : V} {o : Option Int} (h : IntQ K H v o) : SpV (sp_between K) [.int low, .int high, v] H (.bl (intBt low high o)) :=
  spv fun H1 e => ⟨low, high, v, o, rfl, rfl, h.mono e⟩
theorem sc_is_integer_between : FnScope N_is_integer_between P_is_integer_between (C8.fnScope s_is_integer_between) := fnScope_by (by decide +kernel)
theorem ok_between (T : Txt w K mg) : Cal P w K mg base 1 "is_integer_between" (sp_between K) [] := by
  refine mk_cal T.d_is_integer_between sc_is_integer_between (fun vs H Q E h => ?_) (fun f cdv A outer s H vs Q E hr h => ?_)
  · obtain ⟨z, ⟨_, _, _, _, rfl, _⟩, _⟩ := h
    rfl
  · obtain ⟨z, ⟨low, high, v, o, rfl, rfl, hv⟩, k⟩ := h
    refine ⟨_, pss_one (ps_ret (pe_and (pe_callB call_isi (by rfl) T.isi (by decide +kernel) (pa_cons (pv 2) (pa_cons (pe_bltn (v := .ty "int") (by rfl) T.intT (u := .type "int") (by decide +kernel) (by rfl)) pa_nil)))
      (pe_and (pe_not (pe_callB call_isi (by rfl) T.isi (by decide +kernel) (pa_cons (pv 2) (pa_cons (pe_bltn (v := .ty "bool") (by rfl) T.boolT (u := .type "bool") (by decide +kernel) (by rfl)) pa_nil))))
      (pe_one (pe_chain op_le op_le (pv 0) (pv 2) (pv 1)))))), ?_⟩
    refine s_ret (v := .bl (intBt low high o)) ?_ fun H1 e => k H1 e
    have h0 : ((start N_is_integer_between [V.int low, V.int high, v])[0]? : Option (Option V)) = some (some (.int low)) := rfl
    have h1 : ((start N_is_integer_between [V.int low, V.int high, v])[1]? : Option (Option V)) = some (some (.int high)) := rfl
    have h2 : ((start N_is_integer_between [V.int low, V.int high, v])[2]? : Option (Option V)) = some (some v) := rfl
    rcases hv with ⟨i, rfl, rfl⟩ | ⟨rfl, ⟨b, rfl⟩ | ⟨t, ht, hk⟩⟩
    · refine ev_is (ev_andV (a := true) (b := intBt low high (some i)) (ev_cb (ea_cons (ev_var h2) (ea_cons ev_c ea_nil)) (rc_isi (.ty "int") (.base (.int i)) (kit_ty (by decide +kernel)))) fun _ => ?_) rfl
      refine ev_is (ev_andV (a := true) (b := intBt low high (some i)) (ev_is (ev_notV (a := false) (ev_cb (ea_cons (ev_var h2) (ea_cons ev_c ea_nil)) (rc_isi (.ty "bool") (.base (.int i)) (kit_ty (by decide +kernel))))) rfl) fun _ => ?_) rfl
      exact ev_chain (ev_var h0) (ev_var h2) rv_I0 fun _ => ⟨_, ev_var h1, rv_I0⟩
    · refine ev_is (ev_andV (a := true) (b := false) (ev_cb (ea_cons (ev_var h2) (ea_cons ev_c ea_nil)) (rc_isi (.ty "int") (.base (.bl b)) (kit_ty (by decide +kernel)))) fun _ => ?_) rfl
      exact ev_is (ev_andV (a := false) (b := false) (ev_is (ev_notV (a := true) (ev_cb (ea_cons (ev_var h2) (ea_cons ev_c ea_nil)) (rc_isi (.ty "bool") (.base (.bl b)) (kit_ty (by decide +kernel))))) rfl) fun z => nomatch z) rfl
    · exact ev_is (ev_andV (a := false) (b := false) (ev_cb (ea_cons (ev_var h2) (ea_cons ev_c ea_nil)) (rc_isi (.ty "int") ht hk)) fun z => nomatch z) rfl
end
end EE
set_option Elab.async false
set_option linter.all false
set_option maxRecDepth 100000
set_option maxHeartbeats 4000000
namespace EE
open PySem L2 Evl
open C8 (Cal cal0 pe_c fnScope_by)
/-! ### reading facts that stay, also where a dict is locked -/
def Le (H H' : Hp) : Prop := ∀ b u, Rd H b u → Rd H' b u
theorem Le.of {H H' : Hp} (e : Ex H H') : Le H H' := fun _ _ h => ex_rd e h
theorem Le.trans {H H1 H2 : Hp} (a : Le H H1) (b : Le H1 H2) : Le H H2 := fun x u h => b x u (a x u h)
theorem Le.lock {H : Hp} {a : Addr} {kvs : List (Key × V)} {od : Obj} (h : H a = some (.dK kvs)) : Le H (upd H a (.frz od (.dK kvs))) := fun b u r => by
  by_cases e : b = a
  · subst e
    rcases r with r | ⟨o, r⟩
    · rw [h] at r; cases r; exact .inr ⟨od, upd_same⟩
    · rw [h] at r; cases r
  · rcases r with r | ⟨o, r⟩
    · exact .inl (by rw [upd_ne e]; exact r)
    · exact .inr ⟨o, by rw [upd_ne e]; exact r⟩
section
variable {K : PySem.W.Frag} {σ : L2.St} {H H' : Hp} {ta tb te td ty : TE} {x y z v : V}
theorem Le.t {a : Addr} {xs : List V} (e : Le H H') (h : SqT K H a xs) : SqT K H' a xs := by
  rcases h with h | h
  · exact .inl (e _ _ h)
  · exact .inr h
theorem Le.l {a : Addr} {xs : List V} (e : Le H H') (h : SqL K H a xs) : SqL K H' a xs := by
  rcases h with h | h
  · exact .inl (e _ _ h)
  · exact .inr h
/-- d[k] -/
theorem ev_dget {a : Addr} {kvs : List (Key × V)} {k : Key} (hd : Ev td σ H (.ref a)) (hy : Ev ty σ H (kV k)) (h : Rd H a (.dK kvs)) (hv : valV kvs k = some v) : Ev (tDGet td ty) σ H v := fun H1 e Q q =>
  hd H1 e _ fun H2 e2 => hy H2 (e.trans e2) _ fun H3 e3 => ⟨a, v, rfl, .inl ⟨kvs, k, ex_rd ((e.trans e2).trans e3) h, rfl, hv.symm⟩, q H3 (e2.trans e3)⟩
/-- k in d -/
theorem et_din {a : Addr} {kvs : List (Key × V)} {k : Key} (hy : Ev ty σ H (kV k)) (hd : Ev td σ H (.ref a)) (h : Rd H a (.dK kvs)) : Ev (tDIn ty td) σ H (.bl (valV kvs k).isSome) := fun H1 e Q q =>
  hy H1 e _ fun H2 e2 => hd H2 (e.trans e2) _ fun H3 e3 => ⟨a, valV kvs k, rfl, .inl ⟨kvs, k, ex_rd ((e.trans e2).trans e3) h, rfl, rfl⟩, q H3 (e2.trans e3)⟩
theorem et_dnotin {a : Addr} {kvs : List (Key × V)} {k : Key} (hy : Ev ty σ H (kV k)) (hd : Ev td σ H (.ref a)) (h : Rd H a (.dK kvs)) : Ev (tDNotIn ty td) σ H (.bl (!(valV kvs k).isSome)) := fun H1 e Q q =>
  hy H1 e _ fun H2 e2 => hd H2 (e.trans e2) _ fun H3 e3 => ⟨a, valV kvs k, rfl, .inl ⟨kvs, k, ex_rd ((e.trans e2).trans e3) h, rfl, rfl⟩, q H3 (e2.trans e3)⟩
theorem rv_notN : RV (fun x y H Q => y = .non ∧ Q (.bl (!decide (x = .non))) H) x .non H (.bl (!decide (x = .non))) := fun H1 _ _ q => ⟨rfl, q H1 (Ex.refl H1)⟩
theorem rv_isN : RV (fun x y H Q => y = .non ∧ Q (.bl (decide (x = .non))) H) x .non H (.bl (decide (x = .non))) := fun H1 _ _ q => ⟨rfl, q H1 (Ex.refl H1)⟩
theorem in_strs (z : Str) : ∀ zs : List Str, inV (.str z) (zs.map V.str) = decide (z ∈ zs)
  | [] => rfl
  | y :: ys => by
    have ih := in_strs z ys
    unfold inV at ih ⊢
    rw [List.map_cons, List.any_cons, ih]
    have e : eqV (.str y) (.str z) = decide (y = z) := by first | rfl | simp [eqV]
    rw [e]
    by_cases h : y = z
    · subst h; simp
    · simp [h, Ne.symm h, eq_comm]
theorem flat_strs (ys : List Str) : (ys.map V.str).all flatV = true := by
  rw [List.all_map]
  exact List.all_eq_true.mpr fun _ _ => rfl
end
/-! ### classes -/
structure Cl where
  par : Option Str
  lvl : Int
  own : List Str
  ms : List (Str × Str)
def optV : Option Str → V
  | none => .non
  | some z => .str z
def skv (l : List (Str × Str)) : List (Key × V) := l.map fun p => (Sum.inr p.1, V.str p.2)
def RepC (K : PySem.W.Frag) (H : Hp) (c : Str × Cl) (p : Key × V) : Prop :=
  p.1 = Sum.inr c.1 ∧ ∃ t f m, p.2 = .ref t ∧ SqT K H t [optV c.2.par, .int c.2.lvl, .ref f, .ref m] ∧ SqT K H f (c.2.own.map V.str) ∧ H m = some (.dK (skv c.2.ms))
def RepCs (K : PySem.W.Frag) (H : Hp) (a : Addr) (cs : List (Str × Cl)) : Prop := ∃ kvs, Rd H a (.dK kvs) ∧ Paired (RepC K H) cs kvs
theorem RepC.ex {K : PySem.W.Frag} {H H' : Hp} {c : Str × Cl} {p : Key × V} (e : Ex H H') (h : RepC K H c p) : RepC K H' c p := by
  obtain ⟨h0, t, f, m, h1, h2, h3, h4⟩ := h
  exact ⟨h0, t, f, m, h1, ex_t e h2, ex_t e h3, e _ _ h4⟩
theorem pairC_ex {K : PySem.W.Frag} {H H' : Hp} {cs : List (Str × Cl)} {kvs : List (Key × V)} (e : Ex H H') (h : Paired (RepC K H) cs kvs) : Paired (RepC K H') cs kvs := by
  induction h with
  | nil => exact .nil
  | cons h _ ih => exact .cons (h.ex e) ih
theorem RepCs.ex {K : PySem.W.Frag} {H H' : Hp} {a : Addr} {cs : List (Str × Cl)} (e : Ex H H') (h : RepCs K H a cs) : RepCs K H' a cs := by
  obtain ⟨kvs, h1, h2⟩ := h
  exact ⟨kvs, ex_rd e h1, pairC_ex e h2⟩
/-- .. where the dict of classes is locked -/
theorem pairC_lock {K : PySem.W.Frag} {H : Hp} {a : Addr} {kv0 : List (Key × V)} {od : Obj} (ha : H a = some (.dK kv0)) (hs : ∀ p ∈ kv0, ∃ t, p.2 = .ref t) (hn : kv0 ≠ []) : ∀ {cs : List (Str × Cl)} {kvs : List (Key × V)}, Paired (RepC K H) cs kvs →
    Paired (RepC K (upd H a (.frz od (.dK kv0)))) cs kvs
  | [], [], .nil => .nil
  | c :: cs, p0 :: kvs, .cons h t => .cons (by
      obtain ⟨h0, t, f, m, h1, h2, h3, h4⟩ := h
      have hm : m ≠ a := fun z => by
        subst z
        rw [ha] at h4
        have e : kv0 = skv c.2.ms := by injection h4 with h4; injection h4
        cases kv0 with
        | nil => exact hn rfl
        | cons p r =>
          obtain ⟨t, ht⟩ := hs p List.mem_cons_self
          have : p ∈ skv c.2.ms := by rw [← e]; exact List.mem_cons_self
          obtain ⟨q, _, hq⟩ := List.mem_map.mp this
          rw [← hq] at ht
          cases ht
      exact ⟨h0, t, f, m, h1, (Le.lock ha).t h2, (Le.lock ha).t h3, by rw [upd_ne hm]; exact h4⟩) (pairC_lock ha hs hn t)
theorem pairC_refs {K : PySem.W.Frag} {H : Hp} : ∀ {cs : List (Str × Cl)} {kvs : List (Key × V)}, Paired (RepC K H) cs kvs → ∀ p ∈ kvs, ∃ t, p.2 = .ref t
  | _, _, .nil, _, h => by simp at h
  | _, _, .cons h t, p, hp => by
    rcases List.mem_cons.mp hp with rfl | hp
    · obtain ⟨_, t, _, _, h1, _⟩ := h
      exact ⟨t, h1⟩
    · exact pairC_refs t p hp
theorem repCs_lock {K : PySem.W.Frag} {H : Hp} {a : Addr} {cs : List (Str × Cl)} {kvs : List (Key × V)} {od : Obj} (ha : H a = some (.dK kvs)) (h : Paired (RepC K H) cs kvs) : Paired (RepC K (upd H a (.frz od (.dK kvs)))) cs kvs := by
  cases h with
  | nil => exact .nil
  | cons h t => exact pairC_lock ha (pairC_refs (.cons h t)) (by simp) (.cons h t)
def look (cs : List (Str × Cl)) (n : Str) : Option Cl := (cs.find? fun c => decide (c.1 = n)).map (·.2)
theorem pairC_look {K : PySem.W.Frag} {H : Hp} {n : Str} : ∀ {cs : List (Str × Cl)} {kvs : List (Key × V)}, Paired (RepC K H) cs kvs →
    (look cs n = none ∧ valV kvs (Sum.inr n : Key) = none) ∨ ∃ c v, look cs n = some c ∧ valV kvs (Sum.inr n : Key) = some v ∧ RepC K H (n, c) (Sum.inr n, v)
  | [], [], .nil => .inl ⟨rfl, rfl⟩
  | c :: cs, p :: kvs, .cons h t => by
    have h0 := h.1
    by_cases e : c.1 = n
    · refine .inr ⟨c.2, p.2, ?_, ?_, ?_⟩
      · unfold look; rw [List.find?_cons_of_pos (by simp [e])]; rfl
      · unfold valV; rw [List.find?_cons_of_pos (by simp [h0, e])]; rfl
      · subst e
        obtain ⟨p1, p2⟩ := p
        simp only at h0
        subst h0
        exact h
    · have e2 : ¬ p.1 = (Sum.inr n : Key) := by rw [h0]; exact fun z => e (Sum.inr.inj z)
      have g1 : look (c :: cs) n = look cs n := by unfold look; rw [List.find?_cons_of_neg (by simp [e])]
      have g2 : valV (p :: kvs) (Sum.inr n : Key) = valV kvs (Sum.inr n : Key) := by unfold valV; rw [List.find?_cons_of_neg (by simp [e2])]
      rw [g1, g2]
      exact pairC_look t
/-- the classes as they may be when their families are looked at: each parent is one of them -/
structure Known (cs : List (Str × Cl)) : Prop where
  few : cs.length ≤ 100
  par : ∀ n c q, look cs n = some c → c.par = some q → (look cs q).isSome = true
theorem look_mem {cs : List (Str × Cl)} {n : Str} (h : (look cs n).isSome = true) : n ∈ cs.map (·.1) := by
  unfold look at h
  rw [Option.isSome_map, List.find?_isSome] at h
  obtain ⟨c, hc, e⟩ := h
  exact List.mem_map.mpr ⟨c, hc, of_decide_eq_true e⟩
def parOf (cs : List (Str × Cl)) (n : Str) : Option Str := (look cs n).bind (·.par)
/-- family_of's loop -/
def famGo (cs : List (Str × Cl)) : Nat → Option Str → List Str → List Str
  | 0, _, acc => acc
  | _ + 1, none, acc => acc
  | m + 1, some n, acc => if n ∈ acc then acc else famGo cs m (parOf cs n) (acc ++ [n])
def family (cs : List (Str × Cl)) (n : Str) : List Str := famGo cs (cs.length + 1) (some n) []
theorem nodup_sub : ∀ {xs ys : List Str}, xs.Nodup → (∀ x ∈ xs, x ∈ ys) → xs.length ≤ ys.length
  | [], _, _, _ => Nat.zero_le _
  | x :: xs, ys, h, s => by
    obtain ⟨h1, h2⟩ := List.nodup_cons.mp h
    have hx := s x List.mem_cons_self
    have ih := nodup_sub (ys := ys.erase x) h2 fun y hy => (List.mem_erase_of_ne (by rintro rfl; exact h1 hy)).mpr (s y (List.mem_cons_of_mem _ hy))
    rw [List.length_erase_of_mem hx] at ih
    have := List.length_pos_of_mem hx
    rw [List.length_cons]
    omega
section
variable {P : Program} {w : World} {K : PySem.W.Frag} {mg : Str → Option Value} {base : Heap}
def sp_family_of (K : PySem.W.Frag) : Sp := PuL fun vs H xs => ∃ a n cs, vs = [.ref a, .str n] ∧ xs = (family cs n).map V.str ∧ RepCs K H a cs ∧ Known cs ∧ (look cs n).isSome = true
theorem l_family_of {H : Hp} {a : Addr} {n : Str} {cs : List (Str × Cl)} (h : RepCs K H a cs) (hk : Known cs) (hn : (look cs n).isSome = true) : SpL (sp_family_of K) [.ref a, .str n] H ((family cs n).map V.str) :=
  spl fun H1 e => ⟨a, n, cs, rfl, rfl, h.ex e, hk, hn⟩
theorem sc_family_of : FnScope N_family_of P_family_of (C8.fnScope s_family_of) := fnScope_by (by decide +kernel)
theorem ok_family_of (T : Txt w K mg) : Cal P w K mg base 1 "family_of" (sp_family_of K) [] := by
  refine mk_cal T.d_family_of sc_family_of (fun vs H Q E h => ?_) (fun f cdv A outer s H vs Q E hr h => ?_)
  · obtain ⟨z, ⟨_, _, _, rfl, _⟩, _⟩ := h
    rfl
  · obtain ⟨z, ⟨a, n, cs, rfl, rfl, hc, hk, hn⟩, k⟩ := h
    have hu := hu_of hr
    refine ⟨_, pss_cons (ps_set (i := 2) sc_family_of.nd rfl (Or.inl rfl) (pe_lst pa_nil))
      (pss_cons (ps_while PassesOwn.never (PW.pt (pw_and (pt_cmpR op_notN (pv 1) pe_non (nomark _)) (pw_and1 (pt_cmpR op_notIn_seq (pv 1) (pv 2) (by rfl)))))
        (pss_cons (ps_expr (pe_bm PySem.F.plainAttrs_list PySem.F.slot_list_append PySem.F.type_list_append mt_append (pv 2) (pa_cons (pv 1) pa_nil)))
        (pss_one (ps_set (i := 1) sc_family_of.nd rfl (Or.inl rfl) (pe_ix ix_tup (pe_dget hu (pv 0) (pv 1) (fun _ _ => rfl)) pe_int (fun _ _ => rfl))))))
      (pss_one (ps_ret (pv 2)))), ?_⟩
    refine q_asgL (el_lst ea_nil (by decide)) fun l H1 hl e1 h1 => ?_
    refine q_while (fun m σ' H' => ∃ (x : Option Str) (fam : List Str), σ' = [some (.ref a), some (optV x), some (.ref l)] ∧ Ex H H' ∧ H' l = some (.lst (fam.map V.str)) ∧ famGo cs m x fam = family cs n ∧
        fam.length + m = cs.length + 1 ∧ fam.Nodup ∧ (∀ y ∈ fam, y ∈ cs.map (·.1)) ∧ ∀ y, x = some y → (look cs y).isSome = true) (cs.length + 1)
      ⟨some n, [], rfl, e1, h1, rfl, by simp, List.nodup_nil, by simp, fun y hy => by cases hy; exact hn⟩ ?_
    rintro m σ' H' ⟨x, fam, rfl, e, hl', hgo, hlen, hnd, hin, hx⟩
    have hx1 : (([some (.ref a), some (optV x), some (.ref l)] : L2.St)[1]? : Option (Option V)) = some (some (optV x)) := rfl
    have hx2 : (([some (.ref a), some (optV x), some (.ref l)] : L2.St)[2]? : Option (Option V)) = some (some (.ref l)) := rfl
    have hfl : fam.length ≤ cs.length := by
      have := nodup_sub hnd hin
      rwa [List.length_map] at this
    obtain ⟨m, rfl⟩ : ∃ m', m = m' + 1 := ⟨m - 1, by omega⟩
    refine ⟨x.isSome && !(decide (optV x ∈ fam.map V.str)), ?_, fun hb H2 e2 => ?_, fun hb H2 e2 => ?_⟩
    · refine et_and (et_test (ev_is (ev_op (ev_var hx1) ev_c rv_notN) ?_)) fun hs => ?_
      · cases x <;> rfl
      · obtain ⟨y, rfl⟩ := Option.isSome_iff_exists.mp hs
        refine et_test (ev_is (ev_op (ev_var hx1) (ev_var hx2) (rv_niL (sq_of hl') rfl (flat_strs fam))) ?_)
        rw [show optV (some y) = V.str y from rfl, in_strs]
        simp
    · rw [Bool.and_eq_true] at hb
      obtain ⟨y, rfl⟩ := Option.isSome_iff_exists.mp hb.1
      have hy : y ∉ fam := by have := hb.2; simpa [optV] using this
      have hl2 := e2 _ _ hl'
      refine ⟨_, fun σ2 H3 p => ⟨m, Nat.lt_succ_self m, p⟩, ?_⟩
      refine q_app hl2 (ev_var hx2) (ev_var hx1) (by rw [List.length_map]; have := hk.few; omega) fun H3 e3 => ?_
      have eAll : Ex H (upd H3 l (.lst (fam.map V.str ++ [optV (some y)]))) := Ex.mut ((e.trans e2).trans e3) hl
      obtain ⟨kvs, hr1, hr2⟩ := hc.ex eAll
      rcases pairC_look (n := y) hr2 with ⟨g, _⟩ | ⟨c, v, g1, g2, g3⟩
      · have := hx y rfl
        rw [g] at this; cases this
      · obtain ⟨_, t, f2, ms, rfl, g4, _⟩ := g3
        refine s_asg (v := optV c.par) (ev_op (ev_dget (ev_var rfl) (ev_var rfl) hr1 g2) ev_c (rv_ixT g4 (at_of (j := 0) rfl rfl))) fun H4 e4 => ?_
        refine ⟨c.par, fam ++ [y], rfl, eAll.trans e4, ?_, ?_, by rw [List.length_append, List.length_singleton]; omega, ?_, ?_, fun q hq => hk.par y c q g1 hq⟩
        · rw [e4 _ _ upd_same, List.map_append]; rfl
        · rw [← hgo, famGo, if_neg hy]
          have : parOf cs y = c.par := by unfold parOf; rw [g1]; rfl
          rw [this]
        · exact nodup_snoc.mpr ⟨hnd, hy⟩
        · intro q hq
          rcases List.mem_append.mp hq with h | h
          · exact hin q h
          · obtain rfl : q = y := by simpa using h
            exact look_mem (by rw [g1]; rfl)
    · refine s_ret (ev_var hx2) fun H3 e3 => ?_
      have eq : family cs n = fam := by
        rw [← hgo]
        cases x with
        | none => rfl
        | some y =>
          have hy : y ∈ fam := by
            have := hb
            simpa [optV] using this
          rw [famGo, if_pos hy]
      exact k l H3 hl ((e.trans e2).trans e3) (by rw [eq]; exact e3 _ _ (e2 _ _ hl'))
/-! ### rules used in loops -/
theorem s_extT {K : PySem.W.Frag} {σ : L2.St} {H : Hp} {ta te : TE} {D : Ends} {l b : Addr} {xs zs : List V} (hl : H l = some (.lst xs)) (ha : Ev ta σ H (.ref l)) (h : Ev te σ H (.ref b)) (hz : SqT K H b zs) (hn : xs.length + zs.length ≤ 100000)
    (k : ∀ H1, Ex H H1 → D.nx σ (upd H1 l (.lst (xs ++ zs)))) : tDrop (tBM K "list" (rExtT K) ta (tCons te tNil)) D σ H := ha H (Ex.refl H) _ fun H1 e1 =>
  ⟨Or.inl ⟨rfl, xs, sq_of (e1 l _ hl)⟩, h H1 e1 _ fun H2 e2 => ⟨l, b, xs, zs, rfl, rfl, e2 l _ (e1 l _ hl), ex_t (e1.trans e2) hz, sz_of hn, k H2 (e1.trans e2)⟩⟩
theorem s_updD {K : PySem.W.Frag} {σ : L2.St} {H : Hp} {ta te : TE} {D : Ends} {d o : Addr} {kvs more : List (Key × V)} (hd : H d = some (.dK kvs)) (ha : Ev ta σ H (.ref d)) (h : Ev te σ H (.ref o)) (ho : Rd H o (.dK more)) (hne : d ≠ o) (hn : kvs.length + more.length ≤ 100000)
    (k : ∀ H1, Ex H H1 → D.nx σ (upd H1 d (.dK (mergeK kvs more)))) : tDrop (tBM K "dict" rUpdD ta (tCons te tNil)) D σ H := ha H (Ex.refl H) _ fun H1 e1 =>
  ⟨Or.inr (Or.inr (Or.inl ⟨rfl, .inl ⟨kvs, e1 d _ hd⟩⟩)), h H1 e1 _ fun H2 e2 => ⟨d, o, kvs, more, rfl, rfl, hne, e2 d _ (e1 d _ hd), ex_rd (e1.trans e2) ho, sz_of hn, k H2 (e1.trans e2)⟩⟩
/-- for x in reversed(f(..)), a new list -/
theorem q_forRevN {K : PySem.W.Frag} {σ : L2.St} {H : Hp} {D : Ends} {tu tz : TS} {xs : List V} {tl : TE} {j : Nat} (h : EvL tl σ H xs) (Pv : Addr → Nat → L2.St → Hp → Prop) (h0 : ∀ p H1, H p = none → Ex H H1 → H1 p = some (.lst xs) → Pv p 0 σ H1)
    (hl : ∀ p i σ' H', Pv p i σ' H' → SqL K H' p xs) (hs : ∀ p i x σ' H', xs.reverse[i]? = some x → Pv p i σ' H' → tu { D with nx := Pv p (i + 1), ct := Pv p (i + 1), bk := tz D } (σ'.set j (some x)) H')
    (hd : ∀ p σ' H', Pv p xs.length σ' H' → tz D σ' H') : tSeq (tFor (iRev K (tCons tl tNil)) (gName j) tu) tz D σ H :=
  h H (Ex.refl H) _ fun p H1 hp e h1 => ⟨p, xs, rfl, sq_of h1, for_it (D := { D with nx := tz D }) (walk_rev (K := K) (a := p) (xs := xs)) (Pv p) (h0 p H1 hp e h1) (fun i σ' H' _ q => hl p i σ' H' q) (fun i x σ' H' H'' hi q y => by
    obtain ⟨rfl, hy⟩ := y
    exact hs p i x σ' _ (by rw [List.getElem?_reverse hi]; exact hy) q) (hd p)⟩
/-! ### what classes have from their families -/
theorem famGo_mem {cs : List (Str × Cl)} (hk : Known cs) : ∀ (m : Nat) (x : Option Str) (acc : List Str), (∀ y, x = some y → (look cs y).isSome = true) → (∀ y ∈ acc, (look cs y).isSome = true) → ∀ y ∈ famGo cs m x acc, (look cs y).isSome = true
  | 0, _, _, _, ha => ha
  | _ + 1, none, _, _, ha => ha
  | m + 1, some n, acc, hx, ha => by
    unfold famGo
    split
    · exact ha
    · have hn := hx n rfl
      refine famGo_mem hk m _ _ (fun y hy => ?_) (fun y hy => ?_)
      · obtain ⟨c, hc⟩ := Option.isSome_iff_exists.mp hn
        unfold parOf at hy
        rw [hc] at hy
        exact hk.par n c y hc hy
      · rcases List.mem_append.mp hy with h | h
        · exact ha y h
        · obtain rfl : y = n := by simpa using h
          exact hn
theorem famGo_pre {cs : List (Str × Cl)} : ∀ (m : Nat) (x : Option Str) (acc : List Str), ∃ r, famGo cs m x acc = acc ++ r
  | 0, _, acc => ⟨[], (List.append_nil acc).symm⟩
  | _ + 1, none, acc => ⟨[], (List.append_nil acc).symm⟩
  | m + 1, some n, acc => by
    unfold famGo
    split
    · exact ⟨[], (List.append_nil acc).symm⟩
    · obtain ⟨r, h⟩ := famGo_pre (cs := cs) m (parOf cs n) (acc ++ [n])
      exact ⟨n :: r, by rw [h]; simp⟩
theorem famGo_len {cs : List (Str × Cl)} : ∀ (m : Nat) (x : Option Str) (acc : List Str), (famGo cs m x acc).length ≤ acc.length + m
  | 0, _, acc => Nat.le_refl _
  | _ + 1, none, acc => Nat.le_add_right ..
  | m + 1, some n, acc => by
    unfold famGo
    split
    · omega
    · have := famGo_len (cs := cs) m (parOf cs n) (acc ++ [n])
      rw [List.length_append, List.length_singleton] at this
      omega
theorem family_mem {cs : List (Str × Cl)} {n : Str} (hk : Known cs) (hn : (look cs n).isSome = true) : ∀ y ∈ family cs n, (look cs y).isSome = true :=
  famGo_mem hk _ _ _ (fun y hy => by cases hy; exact hn) (by simp)
theorem family_len {cs : List (Str × Cl)} {n : Str} : (family cs n).length ≤ cs.length + 1 := by
  have := famGo_len (cs := cs) (cs.length + 1) (some n) []
  rw [List.length_nil, Nat.zero_add] at this
  exact this
theorem family_head {cs : List (Str × Cl)} {n : Str} : ∃ r, family cs n = n :: r := by
  unfold family famGo
  rw [if_neg (by simp)]
  obtain ⟨r, h⟩ := famGo_pre (cs := cs) cs.length (parOf cs n) ([] ++ [n])
  exact ⟨r, h⟩
def ownOf (cs : List (Str × Cl)) (n : Str) : List Str := ((look cs n).map (·.own)).getD []
def msOf (cs : List (Str × Cl)) (n : Str) : List (Str × Str) := ((look cs n).map (·.ms)).getD []
def allFields (cs : List (Str × Cl)) (n : Str) : List Str := ((family cs n).reverse.map (ownOf cs)).flatten
def allMs (cs : List (Str × Cl)) (n : Str) : List (Key × V) := (family cs n).reverse.foldl (fun acc y => mergeK acc (skv (msOf cs y))) []
def oldest (cs : List (Str × Cl)) (n : Str) : Str := ((family cs n).getLast?).getD n
/-- .. and each has few fields and methods of its own -/
structure Small (cs : List (Str × Cl)) : Prop extends Known cs where
  own : ∀ n c, look cs n = some c → c.own.length ≤ 300
  ms : ∀ n c, look cs n = some c → c.ms.length ≤ 300
theorem repC_at {H : Hp} {a : Addr} {cs : List (Str × Cl)} {n : Str} {c : Cl} (h : RepCs K H a cs) (hn : look cs n = some c) : ∃ kvs v, Rd H a (.dK kvs) ∧ valV kvs (Sum.inr n : Key) = some v ∧ RepC K H (n, c) (Sum.inr n, v) := by
  obtain ⟨kvs, h1, h2⟩ := h
  rcases pairC_look (n := n) h2 with ⟨g, _⟩ | ⟨c', v, g1, g2, g3⟩
  · rw [hn] at g; cases g
  · rw [hn] at g1; cases g1
    exact ⟨kvs, v, h1, g2, g3⟩
def sp_ring (K : PySem.W.Frag) : Sp := PuV fun vs H z => ∃ a n cs, vs = [.ref a, .str n] ∧ z = .bl (parOf cs (oldest cs n)).isSome ∧ RepCs K H a cs ∧ Known cs ∧ (look cs n).isSome = true
theorem v_ring {H : Hp} {a : Addr} {n : Str} {cs : List (Str × Cl)} (h : RepCs K H a cs) (hk : Known cs) (hn : (look cs n).isSome = true) : SpV (sp_ring K) [.ref a, .str n] H (.bl (parOf cs (oldest cs n)).isSome) :=
  spv fun H1 e => ⟨a, n, cs, rfl, rfl, h.ex e, hk, hn⟩
theorem sc_ring : FnScope N_goes_in_a_ring P_goes_in_a_ring (C8.fnScope s_goes_in_a_ring) := fnScope_by (by decide +kernel)
theorem ok_ring (T : Txt w K mg) : Cal P w K mg base 2 "goes_in_a_ring" (sp_ring K) [] := by
  refine mk_cal T.d_goes_in_a_ring sc_ring (fun vs H Q E h => ?_) (fun f cdv A outer s H vs Q E hr h => ?_)
  · obtain ⟨z, ⟨_, _, _, rfl, _⟩, _⟩ := h
    rfl
  · obtain ⟨z, ⟨a, n, cs, rfl, rfl, hc, hk, hn⟩, k⟩ := h
    have hu := hu_of hr
    refine ⟨_, pss_cons (ps_set (i := 2) sc_ring.nd rfl (Or.inl rfl) (pe_ix ix_list (pe_c (ok_family_of T) hr (by decide) (by rfl) (pa_cons (pv 0) (pa_cons (pv 1) pa_nil))) (pe_un un_neg pe_int) (fun _ _ => rfl)))
      (pss_one (ps_ret (pe_cmpR op_notN (pe_ix ix_tup (pe_dget hu (pv 0) (pv 2) (fun _ _ => rfl)) pe_int (fun _ _ => rfl)) pe_non (nomark _)))), ?_⟩
    obtain ⟨r, hf⟩ := family_head (cs := cs) (n := n)
    obtain ⟨o, ho⟩ : ∃ o, (family cs n).getLast? = some o := by rw [hf]; exact ⟨_, List.getLast?_cons⟩
    have eo : oldest cs n = o := by unfold oldest; rw [ho]; rfl
    have hmo : o ∈ family cs n := List.mem_of_getLast? ho
    obtain ⟨c, hco⟩ := Option.isSome_iff_exists.mp (family_mem hk hn o hmo)
    refine q_asg (v := .str o) (ev_opL1 (el_call (ea_cons (ev_var rfl) (ea_cons (ev_var rfl) ea_nil)) (l_family_of hc hk hn)) (fun H1 _ => ev_un ev_c ru_neg) fun p H1 hp _ => rv_ixL (sq_of hp) ?_) fun H1 e1 => ?_
    · obtain ⟨ys, hys⟩ := List.getLast?_eq_some_iff.mp ho
      rw [hys, List.map_append]
      exact atI_last _ _
    · obtain ⟨kvs, v, h1, h2, h3⟩ := repC_at (hc.ex e1) hco
      obtain ⟨_, t, f2, ms, rfl, g4, _⟩ := h3
      refine s_ret (v := .bl (parOf cs (oldest cs n)).isSome) (ev_is (ev_op (ev_op (ev_dget (ev_var rfl) (ev_var rfl) h1 h2) ev_c (rv_ixT g4 (at_of (j := 0) rfl rfl))) ev_c rv_notN) ?_) fun H2 e2 => k H2 (e1.trans e2)
      rw [eo]
      unfold parOf
      rw [hco]
      show V.bl (!decide (optV c.par = V.non)) = V.bl c.par.isSome
      cases c.par <;> rfl
/-! all_fields -/
theorem flat_len {cs : List (Str × Cl)} (hs : Small cs) : ∀ (l : List Str), ((l.map (ownOf cs)).flatten).length ≤ 300 * l.length
  | [] => Nat.le_refl _
  | y :: l => by
    have ih := flat_len hs l
    have h1 : (ownOf cs y).length ≤ 300 := by
      unfold ownOf
      cases h : look cs y with
      | none => exact Nat.zero_le _
      | some c => exact hs.own y c h
    rw [List.map_cons, List.flatten_cons, List.length_append, List.length_cons]
    omega
def sp_all_fields (K : PySem.W.Frag) : Sp := PuU fun vs H xs => ∃ a n cs, vs = [.ref a, .str n] ∧ xs = (allFields cs n).map V.str ∧ RepCs K H a cs ∧ Small cs ∧ (look cs n).isSome = true
theorem u_all_fields {H : Hp} {a : Addr} {n : Str} {cs : List (Str × Cl)} (h : RepCs K H a cs) (hk : Small cs) (hn : (look cs n).isSome = true) : SpU (sp_all_fields K) [.ref a, .str n] H ((allFields cs n).map V.str) :=
  spu fun H1 e => ⟨a, n, cs, rfl, rfl, h.ex e, hk, hn⟩
theorem sc_all_fields : FnScope N_all_fields P_all_fields (C8.fnScope s_all_fields) := fnScope_by (by decide +kernel)
theorem rcu_tupleOf {σ : L2.St} {H : Hp} {te : TE} {l : Addr} {xs : List V} (h : Ev te σ H (.ref l)) (hl : SqL K H l xs) :
    EvU (tCB (fun xs H Q => ∃ p ys, xs = [.ref p] ∧ ((SqL K H p ys ∧ ∀ l, H l = none → Q (.ref l) (upd H l (.tup ys))) ∨ (SqT K H p ys ∧ Q (.ref p) H))) (tCons te tNil)) σ H xs := fun H1 e Q q =>
  h H1 e _ fun H2 e2 => ⟨l, xs, rfl, .inl ⟨ex_l (e.trans e2) hl, fun p hp => q p _ (fresh_back e2 hp) (e2.trans (Ex.new hp)) upd_same⟩⟩
theorem ok_all_fields (T : Txt w K mg) : Cal P w K mg base 2 "all_fields" (sp_all_fields K) [] := by
  refine mk_cal T.d_all_fields sc_all_fields (fun vs H Q E h => ?_) (fun f cdv A outer s H vs Q E hr h => ?_)
  · obtain ⟨z, ⟨_, _, _, rfl, _⟩, _⟩ := h
    rfl
  · obtain ⟨z, ⟨a, n, cs, rfl, rfl, hc, hk, hn⟩, k⟩ := h
    have hu := hu_of hr
    refine ⟨_, pss_cons (ps_set (i := 2) sc_all_fields.nd rfl (Or.inl rfl) (pe_lst pa_nil))
      (pss_cons (ps_for PassesOwn.never rfl (pi_reversed (by rfl) T.revT (pa_cons (pe_c (ok_family_of T) hr (by decide) (by rfl) (pa_cons (pv 0) (pa_cons (pv 1) pa_nil))) pa_nil)) (pg_name (i := 3) sc_all_fields.nd rfl (Or.inl rfl))
        (pss_one (ps_expr (pe_bm PySem.F.plainAttrs_list PySem.F.slot_list_extend PySem.F.type_list_extend mt_extT (pv 2) (pa_cons (pe_ix ix_tup (pe_dget hu (pv 0) (pv 3) (fun _ _ => rfl)) pe_int (fun _ _ => rfl)) pa_nil)))))
      (pss_one (ps_ret (pe_callTy call_tuple_of (by rfl) T.tupT (by decide +kernel) (pa_cons (pv 2) pa_nil))))), ?_⟩
    refine q_asgL (el_lst ea_nil (by decide)) fun l H1 hl e1 h1 => ?_
    have hmem : ∀ y ∈ (family cs n).reverse, (look cs y).isSome = true := fun y hy => family_mem hk.toKnown hn y (List.mem_reverse.mp hy)
    refine q_forRevN (el_call (ea_cons (ev_var rfl) (ea_cons (ev_var rfl) ea_nil)) (l_family_of (hc.ex e1) hk.toKnown hn))
      (fun p i σ' H' => ∃ v, σ' = [some (.ref a), some (.str n), some (.ref l), v] ∧ Ex H H' ∧ p ≠ l ∧ H' p = some (.lst ((family cs n).map V.str)) ∧ H' l = some (.lst ((((family cs n).reverse.take i).map (ownOf cs)).flatten.map V.str)))
      (fun p H2 hp e2 h2 => ⟨none, rfl, e1.trans e2, (fun z => by subst z; rw [h1] at hp; cases hp), h2, e2 _ _ h1⟩) (fun p i σ' H' ⟨_, _, _, _, h, _⟩ => sq_of h) ?_ ?_
    · rintro p i x σ' H' hx ⟨v, rfl, e, hpl, hp, hl'⟩
      obtain ⟨y, hy, rfl⟩ : ∃ y, (family cs n).reverse[i]? = some y ∧ x = .str y := by
        rw [← List.map_reverse, List.getElem?_map] at hx
        cases hh : (family cs n).reverse[i]? with
        | none => rw [hh] at hx; cases hx
        | some y => rw [hh] at hx; exact ⟨y, rfl, (Option.some.inj hx).symm⟩
      obtain ⟨c, hcy⟩ := Option.isSome_iff_exists.mp (hmem y (List.mem_of_getElem? hy))
      obtain ⟨kvs, v2, g1, g2, g3⟩ := repC_at (hc.ex e) hcy
      obtain ⟨_, t, f2, ms, rfl, g4, g5, _⟩ := g3
      have own_y : ownOf cs y = c.own := by unfold ownOf; rw [hcy]; rfl
      refine s_extT hl' (ev_var rfl) (ev_op (ev_dget (ev_var rfl) (ev_var rfl) g1 g2) ev_c (rv_ixT g4 (at_of (j := 2) rfl rfl))) g5 ?_ fun H2 e2 => ?_
      · have a1 := flat_len hk ((family cs n).reverse.take i)
        have a2 : ((family cs n).reverse.take i).length ≤ (family cs n).length := by rw [List.length_take, List.length_reverse]; exact Nat.min_le_right ..
        have a3 := family_len (cs := cs) (n := n)
        have a4 := hk.few
        have a5 := hk.own y c hcy
        rw [List.length_map, List.length_map]
        show _ + c.own.length ≤ _
        omega
      · refine ⟨_, rfl, Ex.mut (e.trans e2) hl, hpl, by rw [upd_ne hpl]; exact e2 _ _ hp, ?_⟩
        rw [upd_same, List.take_add_one, hy, Option.toList_some, List.map_append, List.flatten_append, List.map_append, List.map_singleton, List.flatten_singleton, own_y]
    · rintro p σ' H' ⟨v, rfl, e, hpl, hp, hl'⟩
      refine s_retU (rcu_tupleOf (ev_var rfl) (sq_of hl')) fun q H2 hq e2 h2 => ?_
      rw [List.length_map, List.take_of_length_le (by rw [List.length_reverse]; exact Nat.le_refl _)] at h2
      exact k q H2 (fresh_back e hq) (e.trans e2) h2
/-! all_methods -/
theorem msOf_len {cs : List (Str × Cl)} (hs : Small cs) (y : Str) : (skv (msOf cs y)).length ≤ 300 := by
  unfold skv msOf
  rw [List.length_map]
  cases h : look cs y with
  | none => exact Nat.zero_le _
  | some c => exact hs.ms y c h
theorem foldMs_len {cs : List (Str × Cl)} (hs : Small cs) : ∀ (l : List Str) (acc : List (Key × V)), (l.foldl (fun acc y => mergeK acc (skv (msOf cs y))) acc).length ≤ acc.length + 300 * l.length
  | [], acc => Nat.le_refl _
  | y :: l, acc => by
    have ih := foldMs_len hs l (mergeK acc (skv (msOf cs y)))
    have h1 := length_mergeK (skv (msOf cs y)) acc
    have h2 := msOf_len hs y
    rw [List.foldl_cons, List.length_cons]
    omega
def RetD (kvs : List (Key × V)) (H : Hp) (Q : VK) : Prop := ∀ p H2, H p = none → Ex H H2 → H2 p = some (.dK kvs) → Q (.ref p) H2
def PuD (R : List V → Hp → List (Key × V) → Prop) : Sp := fun vs H Q _ => ∃ xs, R vs H xs ∧ RetD xs H Q
def EvD (te : TE) (σ : L2.St) (H : Hp) (kvs : List (Key × V)) : Prop := ∀ H1, Ex H H1 → ∀ Q : VK, (∀ p H2, H1 p = none → Ex H1 H2 → H2 p = some (.dK kvs) → Q (.ref p) H2) → te σ H1 Q
def SpD (sp : Sp) (vs : List V) (H : Hp) (kvs : List (Key × V)) : Prop := ∀ H1, Ex H H1 → ∀ Q : VK, (∀ p H2, H1 p = none → Ex H1 H2 → H2 p = some (.dK kvs) → Q (.ref p) H2) → ∀ E : XK, sp vs H1 Q E
theorem spd {R : List V → Hp → List (Key × V) → Prop} {vs : List V} {H : Hp} {kvs : List (Key × V)} (h : ∀ H1, Ex H H1 → R vs H1 kvs) : SpD (PuD R) vs H kvs := fun H1 e Q q _ => ⟨kvs, h H1 e, q⟩
theorem ed_call {σ : L2.St} {H : Hp} {sp : Sp} {dvs vs : List V} {kvs : List (Key × V)} {E : XK} {ta : TA} (h : EvA ta σ H vs) (hs : SpD sp (vs ++ dvs) H kvs) : EvD (tCall sp dvs E ta) σ H kvs := fun H1 e Q q =>
  h H1 e _ fun H2 e2 => hs H2 (e.trans e2) Q (fun p H3 hp e3 h3 => q p H3 (fresh_back e2 hp) (e2.trans e3) h3) E
theorem ed_new {σ : L2.St} {H : Hp} : EvD tDNewK σ H [] := fun H1 e Q q => fun p hp => q p _ hp (Ex.new hp) upd_same
theorem q_asgD {σ : L2.St} {H : Hp} {D : Ends} {te : TE} {tz : TS} {i : Nat} {kvs : List (Key × V)} (h : EvD te σ H kvs) (k : ∀ p H1, H p = none → Ex H H1 → H1 p = some (.dK kvs) → tz D (σ.set i (some (.ref p))) H1) : tSeq (tAsg te (gName i)) tz D σ H :=
  h H (Ex.refl H) _ fun p H1 hp e h1 => k p H1 hp e h1
def sp_all_methods (K : PySem.W.Frag) : Sp := PuD fun vs H kvs => ∃ a n cs, vs = [.ref a, .str n] ∧ kvs = allMs cs n ∧ RepCs K H a cs ∧ Small cs ∧ (look cs n).isSome = true
theorem d_all_methods {H : Hp} {a : Addr} {n : Str} {cs : List (Str × Cl)} (h : RepCs K H a cs) (hk : Small cs) (hn : (look cs n).isSome = true) : SpD (sp_all_methods K) [.ref a, .str n] H (allMs cs n) :=
  spd fun H1 e => ⟨a, n, cs, rfl, rfl, h.ex e, hk, hn⟩
theorem sc_all_methods : FnScope N_all_methods P_all_methods (C8.fnScope s_all_methods) := fnScope_by (by decide +kernel)
theorem ok_all_methods (T : Txt w K mg) : Cal P w K mg base 2 "all_methods" (sp_all_methods K) [] := by
  refine mk_cal T.d_all_methods sc_all_methods (fun vs H Q E h => ?_) (fun f cdv A outer s H vs Q E hr h => ?_)
  · obtain ⟨z, ⟨_, _, _, rfl, _⟩, _⟩ := h
    rfl
  · obtain ⟨z, ⟨a, n, cs, rfl, rfl, hc, hk, hn⟩, k⟩ := h
    have hu := hu_of hr
    refine ⟨_, pss_cons (ps_set (i := 2) sc_all_methods.nd rfl (Or.inl rfl) pe_dnewK)
      (pss_cons (ps_for PassesOwn.never rfl (pi_reversed (by rfl) T.revT (pa_cons (pe_c (ok_family_of T) hr (by decide) (by rfl) (pa_cons (pv 0) (pa_cons (pv 1) pa_nil))) pa_nil)) (pg_name (i := 3) sc_all_methods.nd rfl (Or.inl rfl))
        (pss_one (ps_expr (pe_bm PySem.F.plainAttrs_dict PySem.F.slot_dict_update F.type_dict_update mt_updD (pv 2) (pa_cons (pe_ix ix_tup (pe_dget hu (pv 0) (pv 3) (fun _ _ => rfl)) pe_int (fun _ _ => rfl)) pa_nil)))))
      (pss_one (ps_ret (pv 2)))), ?_⟩
    refine q_asgD ed_new fun l H1 hl e1 h1 => ?_
    have hmem : ∀ y ∈ (family cs n).reverse, (look cs y).isSome = true := fun y hy => family_mem hk.toKnown hn y (List.mem_reverse.mp hy)
    refine q_forRevN (el_call (ea_cons (ev_var rfl) (ea_cons (ev_var rfl) ea_nil)) (l_family_of (hc.ex e1) hk.toKnown hn))
      (fun p i σ' H' => ∃ v, σ' = [some (.ref a), some (.str n), some (.ref l), v] ∧ Ex H H' ∧ p ≠ l ∧ H' p = some (.lst ((family cs n).map V.str)) ∧ H' l = some (.dK (((family cs n).reverse.take i).foldl (fun acc y => mergeK acc (skv (msOf cs y))) [])))
      (fun p H2 hp e2 h2 => ⟨none, rfl, e1.trans e2, (fun z => by subst z; rw [h1] at hp; cases hp), h2, e2 _ _ h1⟩) (fun p i σ' H' ⟨_, _, _, _, h, _⟩ => sq_of h) ?_ ?_
    · rintro p i x σ' H' hx ⟨v, rfl, e, hpl, hp, hl'⟩
      obtain ⟨y, hy, rfl⟩ : ∃ y, (family cs n).reverse[i]? = some y ∧ x = .str y := by
        rw [← List.map_reverse, List.getElem?_map] at hx
        cases hh : (family cs n).reverse[i]? with
        | none => rw [hh] at hx; cases hx
        | some y => rw [hh] at hx; exact ⟨y, rfl, (Option.some.inj hx).symm⟩
      obtain ⟨c, hcy⟩ := Option.isSome_iff_exists.mp (hmem y (List.mem_of_getElem? hy))
      obtain ⟨kvs, v2, g1, g2, g3⟩ := repC_at hc hcy
      obtain ⟨_, t, f2, ms, rfl, g4, _, g6⟩ := g3
      have own_y : msOf cs y = c.ms := by unfold msOf; rw [hcy]; rfl
      have hne : l ≠ ms := fun z => by
        subst z
        rw [hl] at g6; cases g6
      replace g1 := ex_rd e g1
      replace g4 := ex_t e g4
      replace g6 := e _ _ g6
      refine s_updD hl' (ev_var rfl) (ev_op (ev_dget (ev_var rfl) (ev_var rfl) g1 g2) ev_c (rv_ixT g4 (at_of (j := 3) rfl rfl))) (.inl g6) hne ?_ fun H2 e2 => ?_
      · have a1 := foldMs_len hk ((family cs n).reverse.take i) []
        have a2 : ((family cs n).reverse.take i).length ≤ (family cs n).length := by rw [List.length_take, List.length_reverse]; exact Nat.min_le_right ..
        have a3 := family_len (cs := cs) (n := n)
        have a4 := hk.few
        have a5 := hk.ms y c hcy
        have a6 : (skv c.ms).length = c.ms.length := by unfold skv; rw [List.length_map]
        rw [List.length_nil] at a1
        show _ + (skv c.ms).length ≤ _
        omega
      · refine ⟨_, rfl, Ex.mut (e.trans e2) hl, hpl, by rw [upd_ne hpl]; exact e2 _ _ hp, ?_⟩
        rw [upd_same, List.take_add_one, hy, Option.toList_some, List.foldl_append, List.foldl_cons, List.foldl_nil, own_y]
    · rintro p σ' H' ⟨v, rfl, e, hpl, hp, hl'⟩
      refine s_ret (ev_var rfl) fun H2 e2 => ?_
      rw [List.length_map, List.take_of_length_le (by rw [List.length_reverse]; exact Nat.le_refl _)] at hl'
      exact k l H2 hl (e.trans e2) (e2 _ _ hl')
end
end EE
set_option Elab.async false
set_option linter.all false
set_option maxRecDepth 100000
set_option maxHeartbeats 4000000
namespace EE
open PySem L2 Evl
open C8 (Cal cal0 pe_c pe_gc fnScope_by)
def OkNm (z : Str) : Prop := isNm z = true ∧ z.length ≤ sizeLine
structure RightCl (cs : List (Str × Cl)) (c : Cl) : Prop where
  par : ∀ q, c.par = some q → OkNm q ∧ (look cs q).isSome = true
  lvl : 1 ≤ c.lvl ∧ c.lvl ≤ 2
  own : (∀ z ∈ c.own, OkNm z) ∧ c.own.Nodup ∧ c.own.length ≤ 3
  ms : (∀ p ∈ c.ms, OkNm p.1 ∧ OkNm p.2) ∧ c.ms.length ≤ 300
theorem NmVs.ok {K : PySem.W.Frag} {H : Hp} : ∀ {zs : List Str}, (∀ z ∈ zs, OkNm z) → NmVs K H (zs.map V.str) (zs.map fun _ => true)
  | [], _ => .nil
  | z :: zs, h => .cons (.inl ⟨z, rfl, (h z List.mem_cons_self).2, ((h z List.mem_cons_self).1).symm⟩) (NmVs.ok fun y hy => h y (List.mem_cons_of_mem _ hy))
theorem consts_bl {α : Type} (l : List α) (b : Bool) : (l.map fun _ => V.bl b) = (l.map fun _ => b).map V.bl := by rw [List.map_map]; rfl
theorem all_true {α : Type} : ∀ (l : List α), (l.map fun _ => true).all id = true
  | [] => rfl
  | _ :: l => by rw [List.map_cons, List.all_cons, all_true l]; rfl
section
variable {K : PySem.W.Frag} {σ : L2.St} {H H' : Hp} {ta tb te : TE} {t u : TT} {x y z v : V}
theorem et_orF (h1 : EvT t σ H false) (h2 : EvT u σ H false) : EvT (tOr t u) σ H false := et_or (a := false) (b := false) h1 fun _ => h2
theorem et_notT (h : EvT t σ H true) : EvT (tNot t) σ H false := et_not (a := true) h
theorem ev_andT (h1 : Ev ta σ H (.bl true)) (h2 : Ev tb σ H (.bl true)) : Ev (tAndV ta tb) σ H (.bl true) := ev_andV (a := true) (b := true) h1 fun _ => h2
theorem q_no {D : Ends} {tu tz : TS} (h : EvT t σ H false) (k : ∀ H1, Ex H H1 → tz D σ H1) : tSeq (tIfS t tu tNext) tz D σ H := q_when (b := false) h (fun z => nomatch z) fun _ => k
theorem rc_lenD {a : Addr} {kvs : List (Key × V)} (h : H a = some (.dK kvs)) : RC (fun xs H Q => ∃ a kvs, xs = [V.ref a] ∧ H a = some (.dK kvs) ∧ Q (.int kvs.length) H) [.ref a] H (.int (kvs.length : Nat)) :=
  fun H1 e Q q => ⟨a, kvs, rfl, e _ _ h, q H1 (Ex.refl H1)⟩
theorem q_asgT4 {D : Ends} {tz : TS} {a : Addr} {x1 x2 x3 x4 : V} {i1 i2 i3 i4 : Nat} (h : Ev te σ H (.ref a)) (ha : SqT K H a [x1, x2, x3, x4]) (k : ∀ H1, Ex H H1 → tz D ((((σ.set i1 (some x1)).set i2 (some x2)).set i3 (some x3)).set i4 (some x4)) H1) :
    tSeq (tAsg te (gTup K 4 (gCons (gName i1) (gCons (gName i2) (gCons (gName i3) (gCons (gName i4) gNil)))))) tz D σ H := h H (Ex.refl H) _ fun H1 e => ⟨a, _, rfl, ex_t e ha, rfl, _, _, rfl, _, _, rfl, _, _, rfl, _, _, rfl, rfl, k H1 e⟩
theorem q_asgT3 {D : Ends} {tz : TS} {a : Addr} {x1 x2 x3 : V} {i1 i2 i3 : Nat} (h : Ev te σ H (.ref a)) (ha : SqT K H a [x1, x2, x3]) (k : ∀ H1, Ex H H1 → tz D (((σ.set i1 (some x1)).set i2 (some x2)).set i3 (some x3)) H1) :
    tSeq (tAsg te (gTup K 3 (gCons (gName i1) (gCons (gName i2) (gCons (gName i3) gNil))))) tz D σ H := h H (Ex.refl H) _ fun H1 e => ⟨a, _, rfl, ex_t e ha, rfl, _, _, rfl, _, _, rfl, _, _, rfl, rfl, k H1 e⟩
theorem et_andF2 {b : Bool} (h1 : EvT t σ H b) (h2 : b = true → EvT u σ H false) : EvT (tAnd t u) σ H false := et_is (et_and h1 h2) (Bool.and_false _)
/-- f(x, t), t a new tuple -/
theorem ev_callU2 {sp : Sp} {xs : List V} {E : XK} (ha : Ev ta σ H x) (hb : EvU tb σ H xs) (hs : ∀ p H1, Ex H H1 → H1 p = some (.tup xs) → SpV sp [x, .ref p] H1 z) : Ev (tCall sp [] E (tCons ta (tCons tb tNil))) σ H z := fun H1 e Q q =>
  ha H1 e _ fun H2 e2 => hb H2 (e.trans e2) _ fun p H3 _ e3 h3 => hs p H3 ((e.trans e2).trans e3) h3 H3 (Ex.refl H3) Q (fun H4 e4 => q H4 ((e2.trans e3).trans e4)) E
theorem et_B' {b : Bool} (h : Ev te σ H (.bl b)) : EvT (tB te) σ H b := et_B h
theorem et_cmp {t : TE} {b : Bool} (h : Ev t σ H (.bl b)) : EvT (tB t) σ H b := et_B h
end
section
variable {P : Program} {w : World} {K : PySem.W.Frag} {mg : Str → Option Value} {base : Heap}
def sp_is_class (K : PySem.W.Frag) : Sp := PuV fun vs H z => ∃ a v n c cs, vs = [.ref a, v] ∧ z = .bl true ∧ RepCs K H a cs ∧ RepC K H (n, c) (Sum.inr n, v) ∧ RightCl cs c
theorem v_is_class {H : Hp} {a : Addr} {v : V} {n : Str} {c : Cl} {cs : List (Str × Cl)} (h : RepCs K H a cs) (hc : RepC K H (n, c) (Sum.inr n, v)) (hr : RightCl cs c) : SpV (sp_is_class K) [.ref a, v] H (.bl true) :=
  spv fun H1 e => ⟨a, v, n, c, cs, rfl, rfl, h.ex e, hc.ex e, hr⟩
theorem sc_is_class : FnScope N_is_class P_is_class (C8.fnScope s_is_class) := fnScope_by (by decide +kernel)
theorem ok_is_class (T : Txt w K mg) : Cal P w K mg base 5 "is_class" (sp_is_class K) [] := by
  refine mk_cal T.d_is_class sc_is_class (fun vs H Q E h => ?_) (fun f cdv A outer s H vs Q E hr h => ?_)
  · obtain ⟨z, ⟨_, _, _, _, _, rfl, _⟩, _⟩ := h
    rfl
  · obtain ⟨z, ⟨a, v, n, c, cs, rfl, rfl, hcs, hc, hok⟩, k⟩ := h
    have hu := hu_of hr
    obtain ⟨_, t, fl, m, rfl, g1, g2, g3⟩ := hc
    have nd := sc_is_class.nd
    refine ⟨_, pss_cons (ps_if (PW.pt (pw_or (pt_not (pt_val (pe_callB call_isi (by rfl) T.isi (by decide +kernel) (pa_cons (pv 1) (pa_cons (pe_bltn (v := .ty "tuple") (by rfl) T.tupT (u := .type "tuple") (by decide +kernel) (by rfl)) pa_nil)))))
        (pw_or1 (pt_cmpR op_ne (pe_callB call_len_seq (by rfl) T.len (by decide +kernel) (pa_cons (pv 1) pa_nil)) pe_int (nomark _))))) (pss_one (ps_ret pe_bl)) pss_nil)
      (pss_cons (ps_asg (pv 1) (pg_tup (by rfl) (pgs_cons (pg_name (i := 2) nd rfl (Or.inl rfl)) (pgs_cons (pg_name (i := 3) nd rfl (Or.inl rfl)) (pgs_cons (pg_name (i := 4) nd rfl (Or.inl rfl)) (pgs_cons (pg_name (i := 5) nd rfl (Or.inl rfl)) pgs_nil))))))
      (pss_cons (ps_if (PW.pt (pw_and (pt_cmpR op_notN (pv 2) pe_non (nomark _)) (pw_and1 (pt_not (PW.pt (pw_and (pt_val (pe_c (ok_is_name T) hr (by decide) (by rfl) (pa_cons (pv 2) pa_nil))) (pw_and1 (pt_cmp (pc_din hu (pv 2) (pv 0)))))))))) (pss_one (ps_ret pe_bl)) pss_nil)
      (pss_one (ps_ret (pe_and (pe_c (ok_between T) hr (by decide) (by rfl) (pa_cons pe_int (pa_cons pe_int (pa_cons (pv 3) pa_nil))))
        (pe_and (pe_c (ok_is_dict_of_names T) hr (by decide) (by rfl) (pa_cons (pv 5) pa_nil))
        (pe_one (pe_c (ok_unlike T) hr (by decide) (by rfl) (pa_cons (pe_gc (by rfl) T.c_MOST_OWN_FIELDS) (pa_cons (pv 4) pa_nil)))))))))), ?_⟩
    refine q_no (et_orF (et_notT (et_B (ev_cb (ea_cons (ev_var rfl) (ea_cons ev_c ea_nil)) (rc_isi (.ty "tuple") (tyx_sqT g1) (kit_ty (by decide +kernel)))))) (et_test (ev_is (ev_op (ev_cb (ea_cons (ev_var rfl) ea_nil) (rc_lenS (.inr g1))) ev_c (rv_ne rfl)) (by simp)))) fun H1 e1 => ?_
    replace g1 := ex_t e1 g1
    replace hcs := hcs.ex e1
    refine q_asgT4 (ev_var rfl) g1 fun H2 e2 => ?_
    replace g2 := ex_t (e1.trans e2) g2
    replace g3 := (e1.trans e2) _ _ g3
    replace hcs := hcs.ex e2
    refine q_no (et_andF2 (et_test (ev_op (ev_var rfl) ev_c rv_notN)) fun hp => et_notT ?_) fun H3 e3 => ?_
    · obtain ⟨q, hq⟩ : ∃ q, c.par = some q := by
        have hp : (!decide (optV c.par = V.non)) = true := hp
        cases h : c.par with
        | none => rw [h] at hp; cases hp
        | some q => exact ⟨q, rfl⟩
      have hv : optV c.par = .str q := by rw [hq]; rfl
      obtain ⟨⟨n1, n2⟩, n3⟩ := hok.par q hq
      refine et_and (a := true) (b := true) (et_B (ev_call (ea_cons (ev_var (show _ = some (some (V.str q)) by rw [← hv]; rfl)) ea_nil) (v_is_name (.inl ⟨q, rfl, n2, n1.symm⟩)))) fun _ => ?_
      obtain ⟨kvs, h1, h2⟩ := hcs
      rcases pairC_look (n := q) h2 with ⟨g, _⟩ | ⟨c', v', _, k2, _⟩
      · rw [g] at n3; cases n3
      · exact et_is (et_B (et_din (k := Sum.inr q) (ev_var (show _ = some (some (V.str q)) by rw [← hv]; rfl)) (ev_var rfl) h1)) (by rw [k2]; rfl)
    · refine s_ret (v := .bl true) (ev_andT ?_ (ev_andT ?_ ?_)) fun H4 e4 => k H4 (((e1.trans e2).trans e3).trans e4)
      · refine ev_is (ev_call (ea_cons ev_c (ea_cons ev_c (ea_cons (ev_var rfl) ea_nil))) (v_between (.inl ⟨c.lvl, rfl, rfl⟩))) ?_
        show V.bl (decide (1 ≤ c.lvl) && decide (c.lvl ≤ 2)) = .bl true
        simp [hok.lvl.1, hok.lvl.2]
      · refine ev_is (ev_call (ea_cons (ev_var rfl) ea_nil) (v_is_dict_of_names (o := some (skv c.ms)) (ks := c.ms.map fun _ => true) (bs := c.ms.map fun _ => true) ⟨.inl ⟨m, _, rfl, e3 _ _ g3, rfl⟩, fun kvs hk => ?_⟩)) ?_
        · cases hk
          have a1 : ((skv c.ms).map fun p => kV p.1) = (c.ms.map (·.1)).map V.str := by unfold skv; rw [List.map_map, List.map_map]; rfl
          have a2 : ((skv c.ms).map fun p => p.2) = (c.ms.map (·.2)).map V.str := by unfold skv; rw [List.map_map, List.map_map]; rfl
          rw [a1, a2]
          have b1 := NmVs.ok (K := K) (H := H3) (zs := c.ms.map (·.1)) fun z hz => by
            obtain ⟨p, hp, rfl⟩ := List.mem_map.mp hz
            exact (hok.ms.1 p hp).1
          have b2 := NmVs.ok (K := K) (H := H3) (zs := c.ms.map (·.2)) fun z hz => by
            obtain ⟨p, hp, rfl⟩ := List.mem_map.mp hz
            exact (hok.ms.1 p hp).2
          have c1 : ((c.ms.map (·.1)).map fun _ => true) = c.ms.map fun _ => true := by rw [List.map_map]; rfl
          have c2 : ((c.ms.map (·.2)).map fun _ => true) = c.ms.map fun _ => true := by rw [List.map_map]; rfl
          rw [c1] at b1
          rw [c2] at b2
          refine ⟨b1, b2, ?_⟩
          unfold skv; rw [List.length_map]; have := hok.ms.2; omega
        · show V.bl (true && ((c.ms.map fun _ => true).all id && (c.ms.map fun _ => true).all id)) = .bl true
          rw [all_true]; rfl
      · refine ev_is (ev_call (ea_cons ev_c (ea_cons (ev_var rfl) ea_nil)) (v_unlike (o := some (c.own.map V.str)) (bs := c.own.map fun _ => true) (by decide) ⟨.inl ⟨fl, _, rfl, ex_t e3 g2, rfl⟩, fun xs hx => ?_⟩)) ?_
        · cases hx
          exact ⟨NmVs.ok hok.own.1, by rw [List.length_map]; have := hok.own.2.2; omega⟩
        · show V.bl ((true && (decide (((c.own.map V.str).length : Int) ≤ 3) && (c.own.map fun _ => true).all id)) && decide (((c.own.map V.str).map unV).Nodup)) = .bl true
          rw [all_true, un_map, List.length_map]
          have := hok.own.2.2
          simp [hok.own.2.1, this]
          omega
/-! has_right_family -/
structure RightFam (cs : List (Str × Cl)) (n : Str) : Prop where
  ring : parOf cs (oldest cs n) = none
  nd : (allFields cs n).Nodup
  len : (allFields cs n).length ≤ 4
theorem allFields_ok {cs : List (Str × Cl)} {n : Str} (h : ∀ y c, look cs y = some c → ∀ z ∈ c.own, OkNm z) : ∀ z ∈ allFields cs n, OkNm z := fun z hz => by
  unfold allFields at hz
  obtain ⟨l, hl, hz⟩ := List.mem_flatten.mp hz
  obtain ⟨y, _, rfl⟩ := List.mem_map.mp hl
  unfold ownOf at hz
  cases g : look cs y with
  | none => rw [g] at hz; simp at hz
  | some c => rw [g] at hz; exact h y c g z hz
def sp_fam (K : PySem.W.Frag) : Sp := PuV fun vs H z => ∃ a n cs, vs = [.ref a, .str n] ∧ z = .bl true ∧ RepCs K H a cs ∧ Small cs ∧ (look cs n).isSome = true ∧ RightFam cs n ∧ ∀ y c, look cs y = some c → ∀ z ∈ c.own, OkNm z
theorem v_fam {H : Hp} {a : Addr} {n : Str} {cs : List (Str × Cl)} (h : RepCs K H a cs) (hs : Small cs) (hn : (look cs n).isSome = true) (hf : RightFam cs n) (ho : ∀ y c, look cs y = some c → ∀ z ∈ c.own, OkNm z) : SpV (sp_fam K) [.ref a, .str n] H (.bl true) :=
  spv fun H1 e => ⟨a, n, cs, rfl, rfl, h.ex e, hs, hn, hf, ho⟩
theorem sc_fam : FnScope N_has_right_family P_has_right_family (C8.fnScope s_has_right_family) := fnScope_by (by decide +kernel)
theorem ok_fam (T : Txt w K mg) : Cal P w K mg base 5 "has_right_family" (sp_fam K) [] := by
  refine mk_cal T.d_has_right_family sc_fam (fun vs H Q E h => ?_) (fun f cdv A outer s H vs Q E hr h => ?_)
  · obtain ⟨z, ⟨_, _, _, rfl, _⟩, _⟩ := h
    rfl
  · obtain ⟨z, ⟨a, n, cs, rfl, rfl, hc, hs, hn, hf, ho⟩, k⟩ := h
    refine ⟨_, pss_cons (ps_if (pt_val (pe_c (ok_ring T) hr (by decide) (by rfl) (pa_cons (pv 0) (pa_cons (pv 1) pa_nil)))) (pss_one (ps_ret pe_bl)) pss_nil)
      (pss_one (ps_ret (pe_c (ok_unlike T) hr (by decide) (by rfl) (pa_cons (pe_gc (by rfl) T.c_MOST_FIELDS) (pa_cons (pe_c (ok_all_fields T) hr (by decide) (by rfl) (pa_cons (pv 0) (pa_cons (pv 1) pa_nil))) pa_nil))))), ?_⟩
    refine q_no (et_is (et_B (ev_call (ea_cons (ev_var rfl) (ea_cons (ev_var rfl) ea_nil)) (v_ring hc hs.toKnown hn))) (by rw [hf.ring]; rfl)) fun H1 e1 => ?_
    replace hc := hc.ex e1
    refine s_ret (v := .bl true) ?_ fun H2 e2 => k H2 (e1.trans e2)
    refine ev_callU2 ev_c (eu_call (ea_cons (ev_var rfl) (ea_cons (ev_var rfl) ea_nil)) (u_all_fields hc hs hn)) fun p H2 e2 h2 => ?_
    have er : tupUn 4 (some ((allFields cs n).map V.str)) ((allFields cs n).map fun _ => true) = true := by
      show ((true && (decide ((((allFields cs n).map V.str).length : Int) ≤ 4) && ((allFields cs n).map fun _ => true).all id)) && decide ((((allFields cs n).map V.str).map unV).Nodup)) = true
      rw [all_true, un_map, List.length_map]
      have := hf.len
      simp [hf.nd]
      omega
    have z := v_unlike (K := K) (H := H2) (most := 4) (v := .ref p) (o := some ((allFields cs n).map V.str)) (bs := (allFields cs n).map fun _ => true) (by decide) ⟨.inl ⟨p, _, rfl, st_of h2, rfl⟩, fun xs hx => by
      cases hx
      exact ⟨NmVs.ok (allFields_ok ho), by rw [List.length_map]; have := hf.len; omega⟩⟩
    rw [er] at z
    exact z
/-! are_classes -/
structure Right (cs : List (Str × Cl)) : Prop where
  six : cs.length ≤ 6
  nm : ∀ c ∈ cs, OkNm c.1 ∧ c.1 ∉ (["word", "row", "kept"] : List Str)
  nd : (cs.map (·.1)).Nodup
  cl : ∀ c ∈ cs, RightCl cs c.2
  fam : ∀ c ∈ cs, RightFam cs c.1
theorem look_in {cs : List (Str × Cl)} {n : Str} {c : Cl} (h : look cs n = some c) : (n, c) ∈ cs := by
  unfold look at h
  cases g : cs.find? (fun c => decide (c.1 = n)) with
  | none => rw [g] at h; cases h
  | some p =>
    rw [g] at h
    have h1 := List.mem_of_find?_eq_some g
    have h2 : p.1 = n := by have := List.find?_some g; simpa using this
    cases h
    subst h2
    exact h1
theorem Right.small {cs : List (Str × Cl)} (h : Right cs) : Small cs where
  few := by have := h.six; omega
  par := fun n c q hn hq => ((h.cl _ (look_in hn)).par q hq).2
  own := fun n c hn => by have : c.own.length ≤ 3 := (h.cl _ (look_in hn)).own.2.2; omega
  ms := fun n c hn => (h.cl _ (look_in hn)).ms.2
theorem Right.owns {cs : List (Str × Cl)} (h : Right cs) : ∀ y c, look cs y = some c → ∀ z ∈ c.own, OkNm z := fun y c hy => (h.cl _ (look_in hy)).own.1
theorem look_some {cs : List (Str × Cl)} {n : Str} (h : n ∈ cs.map (·.1)) : (look cs n).isSome = true := by
  unfold look
  rw [Option.isSome_map, List.find?_isSome]
  obtain ⟨c, hc, e⟩ := List.mem_map.mp h
  exact ⟨c, hc, decide_eq_true e⟩
theorem pairC_keys {H : Hp} : ∀ {cs : List (Str × Cl)} {kvs : List (Key × V)}, Paired (RepC K H) cs kvs → (kvs.map fun p => kV p.1) = (cs.map (·.1)).map V.str
  | [], [], .nil => rfl
  | c :: cs, p :: kvs, .cons h t => by
    rw [List.map_cons, List.map_cons, List.map_cons, pairC_keys t, h.1]
    rfl
theorem pairC_get {H : Hp} : ∀ {cs : List (Str × Cl)} {kvs : List (Key × V)} {i : Nat} {v : V}, Paired (RepC K H) cs kvs → (kvs.map fun p => p.2)[i]? = some v → ∃ c, cs[i]? = some c ∧ RepC K H c (Sum.inr c.1, v)
  | [], [], _, _, .nil, h => by simp at h
  | c :: cs, p :: kvs, 0, v, .cons h t, hv => by
    simp at hv
    subst hv
    refine ⟨c, rfl, ?_⟩
    have := h.1
    obtain ⟨p1, p2⟩ := p
    simp only at this
    subst this
    exact h
  | c :: cs, p :: kvs, i + 1, v, .cons _ t, hv => by
    obtain ⟨c', h1, h2⟩ := pairC_get (i := i) t (by simpa using hv)
    exact ⟨c', by simpa using h1, h2⟩
def RepD (K : PySem.W.Frag) (H : Hp) (a : Addr) (cs : List (Str × Cl)) : Prop := ∃ kvs, H a = some (.dK kvs) ∧ Paired (RepC K H) cs kvs
theorem RepD.ex {H H' : Hp} {a : Addr} {cs : List (Str × Cl)} (e : Ex H H') (h : RepD K H a cs) : RepD K H' a cs := by
  obtain ⟨kvs, h1, h2⟩ := h
  exact ⟨kvs, e _ _ h1, pairC_ex e h2⟩
theorem RepD.rd {H : Hp} {a : Addr} {cs : List (Str × Cl)} (h : RepD K H a cs) : RepCs K H a cs := by
  obtain ⟨kvs, h1, h2⟩ := h
  exact ⟨kvs, .inl h1, h2⟩
def sp_are_classes (K : PySem.W.Frag) : Sp := PuV fun vs H z => ∃ a cs, vs = [.ref a] ∧ z = .bl true ∧ RepD K H a cs ∧ Right cs
theorem v_are_classes {H : Hp} {a : Addr} {cs : List (Str × Cl)} (h : RepD K H a cs) (hr : Right cs) : SpV (sp_are_classes K) [.ref a] H (.bl true) := spv fun H1 e => ⟨a, cs, rfl, rfl, h.ex e, hr⟩
theorem sc_are_classes : FnScope N_are_classes P_are_classes (C8.fnScope s_are_classes) := fnScope_by (by decide +kernel)
theorem len_keys {H : Hp} {cs : List (Str × Cl)} {kvs : List (Key × V)} (h : Paired (RepC K H) cs kvs) : kvs.length = cs.length := (Paired.length h).symm
theorem ok_are_classes (T : Txt w K mg) : Cal P w K mg base 6 "are_classes" (sp_are_classes K) [] := by
  refine mk_cal T.d_are_classes sc_are_classes (fun vs H Q E h => ?_) (fun f cdv A outer s H vs Q E hr h => ?_)
  · obtain ⟨z, ⟨_, _, rfl, _⟩, _⟩ := h
    rfl
  · obtain ⟨z, ⟨a, cs, rfl, rfl, hc, hok⟩, k⟩ := h
    have nd := sc_are_classes.nd
    obtain ⟨ka, mgk, hK⟩ := T.c_KINDS
    refine ⟨_, pss_cons (ps_if (PW.pt (pw_or (pt_not (pt_val (pe_callB call_isi (by rfl) T.isi (by decide +kernel) (pa_cons (pv 0) (pa_cons (pe_bltn (v := .ty "dict") (by rfl) T.dictT (u := .type "dict") (by decide +kernel) (by rfl)) pa_nil)))))
        (pw_or (pt_cmpR op_gt (pe_callB call_lenD (by rfl) T.len (by decide +kernel) (pa_cons (pv 0) pa_nil)) (pe_gc (by rfl) T.c_MOST_CLASSES) (nomark _)) (pw_or1 (pt_not (pt_val (pe_c (ok_are_names T) hr (by decide) (by rfl) (pa_cons (pv 0) pa_nil)))))))) (pss_one (ps_ret pe_bl)) pss_nil)
      (pss_cons (ps_if (pt_val (pe_callB (cr_any rfl) (by rfl) T.any (by decide +kernel) (pa_cons (pe_lock (pe_lc (own := [("name", 1)]) (g := gName 1) (tt := tYes) rfl nd (pi_keys (pv 0)) (blkOk_by (N := N_are_classes) (sc := C8.fnScope s_are_classes) (by decide +kernel))
        (fun _ _ _ _ _ => pg_name (i := 1) nd rfl (Or.inl rfl)) (fun _ _ _ _ _ => pts_nil) (fun _ _ _ _ _ => pe_cmpR (show OpR _ (compareOp .In) (rIn K false) from op_in_seq) (pv 1) (pe_gc (v := .ref ka) (by rfl) ⟨_, mgk, rfl⟩) (by rfl)))) pa_nil))) (pss_one (ps_ret pe_bl)) pss_nil)
      (pss_cons (ps_if (pt_not (pt_val (pe_callB (cr_all rfl) (by rfl) T.all (by decide +kernel) (pa_cons (pe_lock (pe_lc (own := [("told", 2)]) (g := gName 2) (tt := tYes) rfl nd (pi_values (pv 0)) (blkOk_by (N := N_are_classes) (sc := C8.fnScope s_are_classes) (by decide +kernel))
        (fun _ _ _ _ _ => pg_name (i := 2) nd rfl (Or.inl rfl)) (fun _ _ _ _ _ => pts_nil) (fun _ _ _ _ _ => pe_c (ok_is_class T) hr (by decide) (by rfl) (pa_cons (pv 0) (pa_cons (pv 2) pa_nil))))) pa_nil)))) (pss_one (ps_ret pe_bl)) pss_nil)
      (pss_one (ps_ret (pe_callB (cr_all rfl) (by rfl) T.all (by decide +kernel) (pa_cons (pe_lock (pe_lc (own := [("name", 1)]) (g := gName 1) (tt := tYes) rfl nd (pi_keys (pv 0)) (blkOk_by (N := N_are_classes) (sc := C8.fnScope s_are_classes) (by decide +kernel))
        (fun _ _ _ _ _ => pg_name (i := 1) nd rfl (Or.inl rfl)) (fun _ _ _ _ _ => pts_nil) (fun _ _ _ _ _ => pe_c (ok_fam T) hr (by decide) (by rfl) (pa_cons (pv 0) (pa_cons (pv 1) pa_nil))))) pa_nil)))))), ?_⟩
    obtain ⟨kvs, h1, h2⟩ := hc
    have hl : kvs.length = cs.length := len_keys h2
    have six := hok.six
    have keys := pairC_keys h2
    have nmk : ∀ H1 : Hp, NmVs K H1 ((cs.map (·.1)).map V.str) ((cs.map (·.1)).map fun _ => true) := fun H1 => NmVs.ok fun z hz => by
      obtain ⟨c, hc, rfl⟩ := List.mem_map.mp hz
      exact (hok.nm c hc).1
    refine q_no (et_orF (et_notT (et_B (ev_cb (ea_cons (ev_var rfl) (ea_cons ev_c ea_nil)) (rc_isi (.ty "dict") (.base (.dK h1)) (kit_ty (by decide +kernel)))))) (et_orF (et_test (ev_is (ev_op (ev_cb (ea_cons (ev_var rfl) ea_nil) (rc_lenD h1)) ev_c rv_I0) ?_)) (et_notT (et_B (ev_is (ev_call (ea_cons (ev_var rfl) ea_nil) (v_are_names ⟨a, rfl, .inr (.inr ⟨kvs, h1, rfl⟩)⟩ (by rw [keys]; exact nmk H) (by rw [List.length_map]; omega))) (by rw [all_true])))))) fun H1 e1 => ?_
    · show V.bl (decide ((6 : Int) < (kvs.length : Nat))) = .bl false
      rw [decide_eq_false (by omega)]
    have hx : ∀ {i : Nat} {x : V}, ((cs.map (·.1)).map V.str)[i]? = some x → ∃ c ∈ cs, x = .str c.1 := fun {i x} h => by
      obtain ⟨c, hc, rfl⟩ : ∃ c, c ∈ (cs.map (·.1)) ∧ V.str c = x := List.mem_map.mp (List.mem_of_getElem? h)
      obtain ⟨c', hc', rfl⟩ := List.mem_map.mp hc
      exact ⟨c', hc', rfl⟩
    refine q_no (et_B (ev_is (ev_cbL (evl_lock (e1 _ _ h1) fun od => el_lcA ((cs.map (·.1)).map fun _ => V.bl false) (by rw [List.length_map, List.length_map, List.length_map]; omega) (ei_keys (ev_var rfl) upd_same) (by rw [List.length_map]; omega) (fun _ => rfl) fun i x y H2 e2 hxi hy => ?_) fun p H2 e2 hp => rc_any (bs := (cs.map (·.1)).map fun _ => false) (sq_of (by rw [hp, consts_bl]))) ?_)) fun H2 e2 => ?_
    · rw [keys] at hxi
      obtain ⟨c, hc, rfl⟩ := hx hxi
      have : y = .bl false := by
        obtain ⟨_, _, rfl⟩ := List.mem_map.mp (List.mem_of_getElem? hy)
        rfl
      subst this
      refine ev_is (ev_op (ev_var rfl) ev_c (rv_isT (hK _) rfl rfl)) ?_
      have := in_strs c.1 ["word", "row", "kept"]
      rw [show ([V.str "word", V.str "row", V.str "kept"] : List V) = (["word", "row", "kept"] : List Str).map V.str from rfl, this, decide_eq_false (hok.nm c hc).2]
    · congr 1
      rw [List.any_map]
      exact List.any_eq_false.mpr fun _ _ => by simp
    · have h1' := e1 _ _ h1
      have h1'' := e2 _ _ h1'
      have h2'' := pairC_ex (e1.trans e2) h2
      refine q_no (et_notT (et_B (ev_is (ev_cbL (evl_lock h1'' fun od => el_lcA ((cs.map (·.1)).map fun _ => V.bl true) (by rw [List.length_map, List.length_map, List.length_map]; omega) (ei_vals (ev_var rfl) upd_same) (by rw [List.length_map]; omega) (fun _ => rfl) fun i x y H3 e3 hxi hy => ?_) fun p H3 e3 hp => rc_all (bs := (cs.map (·.1)).map fun _ => true) (sq_of (by rw [hp, consts_bl]))) (by rw [all_true])))) fun H3 e3 => ?_
      · obtain ⟨c, hc, hrep⟩ := pairC_get (repCs_lock (od := od) h1'' h2'') hxi
        have : y = .bl true := by
          obtain ⟨_, _, rfl⟩ := List.mem_map.mp (List.mem_of_getElem? hy)
          rfl
        subst this
        exact ev_call (ea_cons (ev_var rfl) (ea_cons (ev_var rfl) ea_nil)) (v_is_class (RepCs.ex e3 ⟨kvs, .inr ⟨od, upd_same⟩, repCs_lock h1'' h2''⟩) (hrep.ex e3) (hok.cl c (List.mem_of_getElem? hc)))
      · refine s_ret (v := .bl true) (ev_is (ev_cbL (evl_lock (e3 _ _ h1'') fun od => el_lcA ((cs.map (·.1)).map fun _ => V.bl true) (by rw [List.length_map, List.length_map, List.length_map]; omega) (ei_keys (ev_var rfl) upd_same) (by rw [List.length_map]; omega) (fun _ => rfl) fun i x y H4 e4 hxi hy => ?_) fun p H3 e3 hp => rc_all (bs := (cs.map (·.1)).map fun _ => true) (sq_of (by rw [hp, consts_bl]))) (by rw [all_true])) fun H4 e4 => k H4 (((e1.trans e2).trans e3).trans e4)
        rw [keys] at hxi
        obtain ⟨c, hc, rfl⟩ := hx hxi
        have : y = .bl true := by
          obtain ⟨_, _, rfl⟩ := List.mem_map.mp (List.mem_of_getElem? hy)
          rfl
        subst this
        exact ev_call (ea_cons (ev_var rfl) (ea_cons (ev_var rfl) ea_nil)) (v_fam (RepCs.ex e4 ⟨kvs, .inr ⟨od, upd_same⟩, repCs_lock (e3 _ _ h1'') (pairC_ex e3 h2'')⟩) hok.small (look_some (List.mem_map.mpr ⟨c, hc, rfl⟩)) (hok.fam c hc) hok.owns)
end
end EE
set_option Elab.async false
set_option linter.all false
set_option maxRecDepth 100000
set_option maxHeartbeats 4000000
namespace EE
open PySem L2 Evl
open C8 (Cal cal0 pe_c pe_gc fnScope_by)
/-! ### dicts by their keys -/
section
variable {α : Type} {R : Str × α → Key × V → Prop}
def lookA (cs : List (Str × α)) (n : Str) : Option α := (cs.find? fun c => decide (c.1 = n)).map (·.2)
theorem pairA_look (hk : ∀ c p, R c p → p.1 = Sum.inr c.1) (n : Str) : ∀ {cs : List (Str × α)} {kvs : List (Key × V)}, Paired R cs kvs →
    (lookA cs n = none ∧ valV kvs (Sum.inr n : Key) = none) ∨ ∃ c v, lookA cs n = some c ∧ valV kvs (Sum.inr n : Key) = some v ∧ R (n, c) (Sum.inr n, v)
  | [], [], .nil => .inl ⟨rfl, rfl⟩
  | (c1, c2) :: cs, (p1, p2) :: kvs, .cons h t => by
    have h0 : p1 = Sum.inr c1 := hk _ _ h
    subst h0
    by_cases e : c1 = n
    · subst e
      refine .inr ⟨c2, p2, ?_, ?_, h⟩
      · unfold lookA; rw [List.find?_cons_of_pos (by simp)]; rfl
      · unfold valV; rw [List.find?_cons_of_pos (by simp)]; rfl
    · have e2 : ¬ (Sum.inr c1 : Key) = Sum.inr n := fun z => e (Sum.inr.inj z)
      have g1 : lookA ((c1, c2) :: cs) n = lookA cs n := by unfold lookA; rw [List.find?_cons_of_neg (by simp [e])]
      have g2 : valV ((Sum.inr c1, p2) :: kvs) (Sum.inr n : Key) = valV kvs (Sum.inr n : Key) := by unfold valV; rw [List.find?_cons_of_neg (by simp [e2])]
      rw [g1, g2]
      exact pairA_look hk n t
theorem pairA_keys (hk : ∀ c p, R c p → p.1 = Sum.inr c.1) : ∀ {cs : List (Str × α)} {kvs : List (Key × V)}, Paired R cs kvs → (kvs.map fun p => kV p.1) = (cs.map (·.1)).map V.str
  | [], [], .nil => rfl
  | c :: cs, p :: kvs, .cons h t => by
    rw [List.map_cons, List.map_cons, List.map_cons, pairA_keys hk t, hk _ _ h]
    rfl
theorem pairA_get (hk : ∀ c p, R c p → p.1 = Sum.inr c.1) : ∀ {cs : List (Str × α)} {kvs : List (Key × V)} {i : Nat} {v : V}, Paired R cs kvs → (kvs.map fun p => p.2)[i]? = some v → ∃ c, cs[i]? = some c ∧ R c (Sum.inr c.1, v)
  | [], [], _, _, .nil, h => by simp at h
  | c :: cs, (p1, p2) :: kvs, 0, v, .cons h t, hv => by
    have h0 : p1 = Sum.inr c.1 := hk _ _ h
    subst h0
    simp at hv
    subst hv
    exact ⟨c, rfl, h⟩
  | c :: cs, p :: kvs, i + 1, v, .cons _ t, hv => by
    obtain ⟨c', h1, h2⟩ := pairA_get hk (i := i) t (by simpa using hv)
    exact ⟨c', by simpa using h1, h2⟩
theorem pairA_mono {R' : Str × α → Key × V → Prop} (h : ∀ c p, R c p → R' c p) : ∀ {cs : List (Str × α)} {kvs : List (Key × V)}, Paired R cs kvs → Paired R' cs kvs
  | [], [], .nil => .nil
  | _ :: _, _ :: _, .cons x t => .cons (h _ _ x) (pairA_mono h t)
theorem lookA_some {cs : List (Str × α)} {n : Str} (h : n ∈ cs.map (·.1)) : (lookA cs n).isSome = true := by
  unfold lookA
  rw [Option.isSome_map, List.find?_isSome]
  obtain ⟨c, hc, e⟩ := List.mem_map.mp h
  exact ⟨c, hc, decide_eq_true e⟩
theorem lookA_in {cs : List (Str × α)} {n : Str} {c : α} (h : lookA cs n = some c) : (n, c) ∈ cs := by
  unfold lookA at h
  cases g : cs.find? (fun c => decide (c.1 = n)) with
  | none => rw [g] at h; cases h
  | some p =>
    rw [g] at h
    have h1 := List.mem_of_find?_eq_some g
    have h2 : p.1 = n := by have := List.find?_some g; simpa using this
    cases h
    subst h2
    exact h1
end
/-! ### functions (their blocks: none, or one return) -/
inductive Blk where
  | nil
  | ret (x : Str)
def RepB (K : PySem.W.Frag) (H : Hp) (b : Addr) : Blk → Prop
  | .nil => SqT K H b []
  | .ret x => ∃ s, SqT K H b [.ref s] ∧ SqT K H s [.str "return", .str x]
structure Fn where
  ps : List Str
  lvl : Int
  blk : Blk
def RepF (K : PySem.W.Frag) (H : Hp) (c : Str × Fn) (p : Key × V) : Prop :=
  p.1 = Sum.inr c.1 ∧ ∃ t pt bt, p.2 = .ref t ∧ SqT K H t [.ref pt, .int c.2.lvl, .ref bt] ∧ SqT K H pt (c.2.ps.map V.str) ∧ RepB K H bt c.2.blk
def RepFs (K : PySem.W.Frag) (H : Hp) (a : Addr) (fs : List (Str × Fn)) : Prop := ∃ kvs, Rd H a (.dK kvs) ∧ Paired (RepF K H) fs kvs
def RepFD (K : PySem.W.Frag) (H : Hp) (a : Addr) (fs : List (Str × Fn)) : Prop := ∃ kvs, H a = some (.dK kvs) ∧ Paired (RepF K H) fs kvs
theorem RepB.le {K : PySem.W.Frag} {H H' : Hp} {b : Addr} {k : Blk} (e : Le H H') (h : RepB K H b k) : RepB K H' b k := by
  cases k with
  | nil => exact e.t h
  | ret x =>
    obtain ⟨s, h1, h2⟩ := h
    exact ⟨s, e.t h1, e.t h2⟩
theorem RepF.le {K : PySem.W.Frag} {H H' : Hp} {c : Str × Fn} {p : Key × V} (e : Le H H') (h : RepF K H c p) : RepF K H' c p := by
  obtain ⟨h0, t, pt, bt, h1, h2, h3, h4⟩ := h
  exact ⟨h0, t, pt, bt, h1, e.t h2, e.t h3, h4.le e⟩
theorem RepFs.le {K : PySem.W.Frag} {H H' : Hp} {a : Addr} {fs : List (Str × Fn)} (e : Le H H') (h : RepFs K H a fs) : RepFs K H' a fs := by
  obtain ⟨kvs, h1, h2⟩ := h
  exact ⟨kvs, e _ _ h1, pairA_mono (fun _ _ => RepF.le e) h2⟩
theorem RepFD.ex {K : PySem.W.Frag} {H H' : Hp} {a : Addr} {fs : List (Str × Fn)} (e : Ex H H') (h : RepFD K H a fs) : RepFD K H' a fs := by
  obtain ⟨kvs, h1, h2⟩ := h
  exact ⟨kvs, e _ _ h1, pairA_mono (fun _ _ => RepF.le (Le.of e)) h2⟩
theorem RepFD.rd {K : PySem.W.Frag} {H : Hp} {a : Addr} {fs : List (Str × Fn)} (h : RepFD K H a fs) : RepFs K H a fs := by
  obtain ⟨kvs, h1, h2⟩ := h
  exact ⟨kvs, .inl h1, h2⟩
structure RightFn (fn : Fn) : Prop where
  lvl : 1 ≤ fn.lvl ∧ fn.lvl ≤ 2
  ps : (∀ z ∈ fn.ps, OkNm z) ∧ fn.ps.Nodup ∧ fn.ps.length ≤ 4
  blk : ∀ x, fn.blk = .ret x → OkNm x
structure RightFs (fs : List (Str × Fn)) : Prop where
  len : 1 ≤ fs.length ∧ fs.length ≤ 12
  nm : ∀ c ∈ fs, OkNm c.1
  fn : ∀ c ∈ fs, RightFn c.2
  nd : (fs.map (·.1)).Nodup
section
variable {P : Program} {w : World} {K : PySem.W.Frag} {mg : Str → Option Value} {base : Heap}
theorem keyF {H : Hp} : ∀ c p, RepF K H c p → p.1 = Sum.inr c.1 := fun _ _ h => h.1
/-- unlike names, few of them -/
theorem v_unlikeT {H : Hp} {most : Int} {pt : Addr} {zs : List Str} (hm : most ≤ 900) (h : SqT K H pt (zs.map V.str)) (ok : ∀ z ∈ zs, OkNm z) (nd : zs.Nodup) (len : (zs.length : Int) ≤ most) : SpV (sp_unlike K) [.int most, .ref pt] H (.bl true) := by
  have er : tupUn most (some (zs.map V.str)) (zs.map fun _ => true) = true := by
    show ((true && (decide (((zs.map V.str).length : Int) ≤ most) && (zs.map fun _ => true).all id)) && decide (((zs.map V.str).map unV).Nodup)) = true
    rw [all_true, un_map, List.length_map]
    simp [nd, len]
  have z := v_unlike (K := K) (H := H) (most := most) (v := .ref pt) (o := some (zs.map V.str)) (bs := zs.map fun _ => true) hm ⟨.inl ⟨pt, _, rfl, h, rfl⟩, fun xs hx => by
    cases hx
    exact ⟨NmVs.ok ok, by rw [List.length_map]; omega⟩⟩
  rw [er] at z
  exact z
theorem v_lvl {H : Hp} {l : Int} (h : 1 ≤ l ∧ l ≤ 2) : SpV (sp_between K) [.int 1, .int 2, .int l] H (.bl true) := by
  have z := v_between (K := K) (H := H) (low := 1) (high := 2) (v := .int l) (o := some l) (.inl ⟨l, rfl, rfl⟩)
  have er : intBt 1 2 (some l) = true := by
    show (decide (1 ≤ l) && decide (l ≤ 2)) = true
    simp [h.1, h.2]
  rw [er] at z
  exact z
def sp_is_function (K : PySem.W.Frag) : Sp := PuV fun vs H z => ∃ v n fn, vs = [v] ∧ z = .bl true ∧ RepF K H (n, fn) (Sum.inr n, v) ∧ RightFn fn
theorem v_is_function {H : Hp} {v : V} {n : Str} {fn : Fn} (h : RepF K H (n, fn) (Sum.inr n, v)) (hr : RightFn fn) : SpV (sp_is_function K) [v] H (.bl true) := spv fun H1 e => ⟨v, n, fn, rfl, rfl, h.le (Le.of e), hr⟩
theorem sc_is_function : FnScope N_is_function P_is_function (C8.fnScope s_is_function) := fnScope_by (by decide +kernel)
theorem ok_is_function (T : Txt w K mg) : Cal P w K mg base 5 "is_function" (sp_is_function K) [] := by
  refine mk_cal T.d_is_function sc_is_function (fun vs H Q E h => ?_) (fun f cdv A outer s H vs Q E hr h => ?_)
  · obtain ⟨z, ⟨_, _, _, rfl, _⟩, _⟩ := h
    rfl
  · obtain ⟨z, ⟨v, n, fn, rfl, rfl, hc, hok⟩, k⟩ := h
    obtain ⟨_, t, pt, bt, rfl, g1, g2, g3⟩ := hc
    have nd := sc_is_function.nd
    refine ⟨_, pss_cons (ps_if (PW.pt (pw_or (pt_not (pt_val (pe_callB call_isi (by rfl) T.isi (by decide +kernel) (pa_cons (pv 0) (pa_cons (pe_bltn (v := .ty "tuple") (by rfl) T.tupT (u := .type "tuple") (by decide +kernel) (by rfl)) pa_nil)))))
        (pw_or1 (pt_cmpR op_ne (pe_callB call_len_seq (by rfl) T.len (by decide +kernel) (pa_cons (pv 0) pa_nil)) pe_int (nomark _))))) (pss_one (ps_ret pe_bl)) pss_nil)
      (pss_cons (ps_asg (pv 0) (pg_tup (by rfl) (pgs_cons (pg_name (i := 1) nd rfl (Or.inl rfl)) (pgs_cons (pg_name (i := 2) nd rfl (Or.inl rfl)) (pgs_cons (pg_name (i := 3) nd rfl (Or.inl rfl)) pgs_nil)))))
      (pss_one (ps_ret (pe_and (pe_c (ok_unlike T) hr (by decide) (by rfl) (pa_cons (pe_gc (by rfl) T.c_MOST_PARAMETERS) (pa_cons (pv 1) pa_nil)))
        (pe_one (pe_c (ok_between T) hr (by decide) (by rfl) (pa_cons pe_int (pa_cons pe_int (pa_cons (pv 2) pa_nil))))))))), ?_⟩
    refine q_no (et_orF (et_notT (et_B (ev_cb (ea_cons (ev_var rfl) (ea_cons ev_c ea_nil)) (rc_isi (.ty "tuple") (tyx_sqT g1) (kit_ty (by decide +kernel)))))) (et_test (ev_is (ev_op (ev_cb (ea_cons (ev_var rfl) ea_nil) (rc_lenS (.inr g1))) ev_c (rv_ne rfl)) (by simp)))) fun H1 e1 => ?_
    refine q_asgT3 (ev_var rfl) (ex_t e1 g1) fun H2 e2 => ?_
    refine s_ret (v := .bl true) (ev_andT ?_ ?_) fun H3 e3 => k H3 ((e1.trans e2).trans e3)
    · exact ev_call (ea_cons ev_c (ea_cons (ev_var rfl) ea_nil)) (v_unlikeT (by decide) (ex_t (e1.trans e2) g2) hok.ps.1 hok.ps.2.1 (by have := hok.ps.2.2; show (fn.ps.length : Int) ≤ 4; omega))
    · exact ev_call (ea_cons ev_c (ea_cons ev_c (ea_cons (ev_var rfl) ea_nil))) (v_lvl hok.lvl)
/-! are_functions -/
def sp_are_functions (K : PySem.W.Frag) : Sp := PuV fun vs H z => ∃ a fs, vs = [.ref a] ∧ z = .bl true ∧ RepFD K H a fs ∧ RightFs fs
theorem v_are_functions {H : Hp} {a : Addr} {fs : List (Str × Fn)} (h : RepFD K H a fs) (hr : RightFs fs) : SpV (sp_are_functions K) [.ref a] H (.bl true) := spv fun H1 e => ⟨a, fs, rfl, rfl, h.ex e, hr⟩
theorem sc_are_functions : FnScope N_are_functions P_are_functions (C8.fnScope s_are_functions) := fnScope_by (by decide +kernel)
theorem ok_are_functions (T : Txt w K mg) : Cal P w K mg base 6 "are_functions" (sp_are_functions K) [] := by
  refine mk_cal T.d_are_functions sc_are_functions (fun vs H Q E h => ?_) (fun f cdv A outer s H vs Q E hr h => ?_)
  · obtain ⟨z, ⟨_, _, rfl, _⟩, _⟩ := h
    rfl
  · obtain ⟨z, ⟨a, fs, rfl, rfl, hc, hok⟩, k⟩ := h
    have nd := sc_are_functions.nd
    refine ⟨_, pss_cons (ps_if (PW.pt (pw_or (pt_not (pt_val (pe_callB call_isi (by rfl) T.isi (by decide +kernel) (pa_cons (pv 0) (pa_cons (pe_bltn (v := .ty "dict") (by rfl) T.dictT (u := .type "dict") (by decide +kernel) (by rfl)) pa_nil)))))
        (pw_or1 (pt_not (pt_chain op_le op_le pe_int (pe_callB call_lenD (by rfl) T.len (by decide +kernel) (pa_cons (pv 0) pa_nil)) (pe_gc (by rfl) T.c_MOST_FUNCTIONS)))))) (pss_one (ps_ret pe_bl)) pss_nil)
      (pss_one (ps_ret (pe_and (pe_c (ok_are_names T) hr (by decide) (by rfl) (pa_cons (pv 0) pa_nil))
        (pe_one (pe_callB (cr_all rfl) (by rfl) T.all (by decide +kernel) (pa_cons (pe_lock (pe_lc (own := [("told", 1)]) (g := gName 1) (tt := tYes) rfl nd (pi_values (pv 0)) (blkOk_by (N := N_are_functions) (sc := C8.fnScope s_are_functions) (by decide +kernel))
          (fun _ _ _ _ _ => pg_name (i := 1) nd rfl (Or.inl rfl)) (fun _ _ _ _ _ => pts_nil) (fun _ _ _ _ _ => pe_c (ok_is_function T) hr (by decide) (by rfl) (pa_cons (pv 1) pa_nil)))) pa_nil)))))), ?_⟩
    obtain ⟨kvs, h1, h2⟩ := hc
    have hl : kvs.length = fs.length := (Paired.length h2).symm
    have keys := pairA_keys keyF h2
    obtain ⟨l1, l2⟩ := hok.len
    refine q_no (et_orF (et_notT (et_B (ev_cb (ea_cons (ev_var rfl) (ea_cons ev_c ea_nil)) (rc_isi (.ty "dict") (.base (.dK h1)) (kit_ty (by decide +kernel)))))) (et_notT ?_)) fun H1 e1 => ?_
    · refine et_test (ev_is (ev_chain ev_c (ev_cb (ea_cons (ev_var rfl) ea_nil) (rc_lenD h1)) rv_I0 fun _ => ⟨_, ev_c, rv_I0⟩) ?_)
      show V.bl (decide ((1 : Int) ≤ (kvs.length : Nat)) && decide (((kvs.length : Nat) : Int) ≤ 12)) = .bl true
      rw [decide_eq_true (by omega), decide_eq_true (by omega)]; rfl
    · replace h1 := e1 _ _ h1
      replace h2 := pairA_mono (fun _ _ => RepF.le (Le.of e1)) h2
      refine s_ret (v := .bl true) (ev_andT ?_ ?_) fun H3 e3 => k H3 (e1.trans e3)
      · refine ev_is (ev_call (ea_cons (ev_var rfl) ea_nil) (v_are_names (bs := (fs.map (·.1)).map fun _ => true) ⟨a, rfl, .inr (.inr ⟨kvs, h1, rfl⟩)⟩ ?_ (by rw [List.length_map]; omega))) (by rw [all_true])
        rw [keys]
        exact NmVs.ok fun z hz => by
          obtain ⟨c, hc, rfl⟩ := List.mem_map.mp hz
          exact hok.nm c hc
      · refine ev_is (ev_cbL (evl_lock h1 fun od => el_lcA ((fs.map (·.1)).map fun _ => V.bl true) (by rw [List.length_map, List.length_map, List.length_map]; omega) (ei_vals (ev_var rfl) upd_same) (by rw [List.length_map]; omega) (fun _ => rfl) fun i x y H3 e3 hxi hy => ?_) fun p H3 e3 hp => rc_all (bs := (fs.map (·.1)).map fun _ => true) (sq_of (by rw [hp, consts_bl]))) (by rw [all_true])
        obtain ⟨c, hc, hrep⟩ := pairA_get keyF h2 hxi
        have : y = .bl true := by
          obtain ⟨_, _, rfl⟩ := List.mem_map.mp (List.mem_of_getElem? hy)
          rfl
        subst this
        exact ev_call (ea_cons (ev_var rfl) ea_nil) (v_is_function (hrep.le ((Le.lock h1).trans (Le.of e3))) (hok.fn c (List.mem_of_getElem? hc)))
end
end EE
set_option Elab.async false
set_option linter.all false
set_option maxRecDepth 100000
set_option maxHeartbeats 4000000
namespace EE
open PySem L2 Evl
open C8 (Cal cal0 pe_c pe_gc fnScope_by)
section
variable {K : PySem.W.Frag} {σ : L2.St} {H H' : Hp} {ta tb te : TE} {t u : TT} {x y z v : V}
/-- locked at d -/
def Lk (H : Hp) (d : Addr) (kvs : List (Key × V)) (od : Obj) : Hp := upd H d (.frz od (.dK kvs))
theorem Lk.back {d : Addr} {kvs : List (Key × V)} {od : Obj} {H2 : Hp} (hd : H d = some (.dK kvs)) (e : Ex (Lk H d kvs od) H2) : Ex H (upd H2 d (.dK kvs)) := fun a o ha => by
  by_cases had : a = d
  · subst had; rw [hd] at ha; rw [upd_same]; exact ha
  · rw [upd_ne had]; exact e a o (by unfold Lk; rw [upd_ne had]; exact ha)
theorem Lk.at {d : Addr} {kvs : List (Key × V)} {od : Obj} {H2 : Hp} (e : Ex (Lk H d kvs od) H2) : H2 d = some (.frz od (.dK kvs)) := e _ _ upd_same
/-- for g in (what is walked of d): a body that makes new things alone; S tells the slots -/
theorem s_forLock {d : Addr} {kvs : List (Key × V)} {wi : TI} {xs : List V} {g : TG} {tu : TS} {D : Ends} (hd : H d = some (.dK kvs)) (hi : ∀ od, EvI wi σ (Lk H d kvs od) xs) (S : Nat → L2.St → Prop) (h0 : S 0 σ)
    (hs : ∀ od i x σ' H1, Ex (Lk H d kvs od) H1 → xs[i]? = some x → S i σ' → ∀ E : Ends, (∀ σ2 H2, S (i + 1) σ2 → Ex H1 H2 → E.nx σ2 H2) → g x σ' H1 fun σ2 H2 => tu E σ2 H2)
    (k : ∀ σ' H1, S xs.length σ' → Ex H H1 → D.nx σ' H1) : tLock (tFor wi g tu) D σ H :=
  ⟨d, .dK kvs, hd, trivial, fun od => hi od _ (Ex.refl _) _ fun J H2 e2 ⟨G, w, hG⟩ =>
    for_it w (fun i σ' H' => S i σ' ∧ Ex (Lk H d kvs od) H' ∧ Ex H2 H') ⟨h0, e2, Ex.refl H2⟩ (fun i σ' H' _ p => hG H' p.2.2) (fun i x σ' H' H'' hi' p y => by
      obtain ⟨rfl, hy⟩ := y
      obtain ⟨p1, p2, p3⟩ := p
      exact hs od i x σ' _ p2 hy p1 _ fun σ2 H3 q1 q2 => ⟨q1, p2.trans q2, p3.trans q2⟩) (fun σ' H' p => ⟨Lk.at p.2.1, k σ' _ p.1 (Lk.back hd p.2.1)⟩)⟩
theorem q_forLock {d : Addr} {kvs : List (Key × V)} {wi : TI} {xs : List V} {g : TG} {tu tz : TS} {D : Ends} (hd : H d = some (.dK kvs)) (hi : ∀ od, EvI wi σ (Lk H d kvs od) xs) (S : Nat → L2.St → Prop) (h0 : S 0 σ)
    (hs : ∀ od i x σ' H1, Ex (Lk H d kvs od) H1 → xs[i]? = some x → S i σ' → ∀ E : Ends, (∀ σ2 H2, S (i + 1) σ2 → Ex H1 H2 → E.nx σ2 H2) → g x σ' H1 fun σ2 H2 => tu E σ2 H2)
    (k : ∀ σ' H1, S xs.length σ' → Ex H H1 → tz D σ' H1) : tSeq (tLock (tFor wi g tu)) tz D σ H := s_forLock (D := { D with nx := tz D }) hd hi S h0 hs k
theorem et_truT {p : Addr} {xs : List V} (h : Ev te σ H (.ref p)) (hx : SqT K H p xs) : EvT (fun σ H Q => te σ H fun x H' => ∃ k, TruV K x H' k ∧ Q k H') σ H (!xs.isEmpty) := fun H1 e Q q =>
  h H1 e _ fun H2 e2 => ⟨_, .inr (.inl ⟨xs, ex_t (e.trans e2) hx, rfl⟩), q H2 e2⟩
end
section
variable {P : Program} {w : World} {K : PySem.W.Frag} {mg : Str → Option Value} {base : Heap}
/-- each method is a function that has a parameter -/
def MethOk (cs : List (Str × Cl)) (fs : List (Str × Fn)) : Prop := ∀ c ∈ cs, ∀ p ∈ c.2.ms, ∃ fn, lookA fs p.2 = some fn ∧ fn.ps ≠ []
def sp_are_methods_of (K : PySem.W.Frag) : Sp := PuV fun vs H z => ∃ a b cs fs, vs = [.ref a, .ref b] ∧ z = .bl true ∧ RepD K H a cs ∧ RepFD K H b fs ∧ MethOk cs fs ∧ a ≠ b
theorem v_are_methods_of {H : Hp} {a b : Addr} {cs : List (Str × Cl)} {fs : List (Str × Fn)} (h : RepD K H a cs) (hf : RepFD K H b fs) (hm : MethOk cs fs) (hne : a ≠ b) : SpV (sp_are_methods_of K) [.ref a, .ref b] H (.bl true) :=
  spv fun H1 e => ⟨a, b, cs, fs, rfl, rfl, h.ex e, hf.ex e, hm, hne⟩
theorem sc_are_methods_of : FnScope N_are_methods_of P_are_methods_of (C8.fnScope s_are_methods_of) := fnScope_by (by decide +kernel)
theorem skv_vals (l : List (Str × Str)) : ((skv l).map fun p => p.2) = (l.map (·.2)).map V.str := by unfold skv; rw [List.map_map, List.map_map]; rfl
theorem skv_keys (l : List (Str × Str)) : ((skv l).map fun p => kV p.1) = (l.map (·.1)).map V.str := by unfold skv; rw [List.map_map, List.map_map]; rfl
theorem ok_are_methods_of (T : Txt w K mg) : Cal P w K mg base 1 "are_methods_of" (sp_are_methods_of K) [] := by
  refine mk_cal T.d_are_methods_of sc_are_methods_of (fun vs H Q E h => ?_) (fun f cdv A outer s H vs Q E hr h => ?_)
  · obtain ⟨z, ⟨_, _, _, _, rfl, _⟩, _⟩ := h
    rfl
  · obtain ⟨z, ⟨a, b, cs, fs, rfl, rfl, hc, hf, hm, hne⟩, k⟩ := h
    have nd := sc_are_methods_of.nd
    have hu := hu_of hr
    refine ⟨_, pss_cons (ps_lock (ps_for PassesOwn.never rfl (pi_values (pv 0)) (pg_tup (by rfl) (pgs_cons (pg_name (i := 2) nd rfl (Or.inl rfl)) (pgs_cons (pg_name (i := 2) nd rfl (Or.inl rfl)) (pgs_cons (pg_name (i := 2) nd rfl (Or.inl rfl)) (pgs_cons (pg_name (i := 3) nd rfl (Or.inl rfl)) pgs_nil)))))
        (pss_one (ps_lock (ps_for PassesOwn.never rfl (pi_values (pv 3)) (pg_name (i := 4) nd rfl (Or.inl rfl))
          (pss_one (ps_if (PW.pt (pw_or (pt_cmp (pc_dnotin hu (pv 4) (pv 1))) (pw_or1 (pt_not (pt_truth (pe_ix ix_tup (pe_dget hu (pv 1) (pv 4) (fun _ _ => rfl)) pe_int (fun _ _ => rfl)) (by intro _; rfl)))))) (pss_one (ps_ret pe_bl)) pss_nil)))))))
      (pss_one (ps_ret pe_bl)), ?_⟩
    obtain ⟨kvs, h1, h2⟩ := hc
    obtain ⟨kf, f1, f2⟩ := hf
    refine q_forLock h1 (fun od => ei_vals (ev_var rfl) upd_same) (fun _ σ' => ∃ v1 v2 v3, σ' = [some (.ref a), some (.ref b), v1, v2, v3]) ⟨_, _, _, rfl⟩ ?_ ?_
    · rintro od i x σ' H1 e1 hx ⟨v1, v2, v3, rfl⟩ D hD
      obtain ⟨c, hcm, _, t, fl, m, hxt, g1, g2, g3⟩ := pairC_get (repCs_lock (od := od) h1 h2) hx
      obtain rfl : x = V.ref t := hxt
      replace g1 := ex_t e1 g1
      replace g3 := e1 _ _ g3
      have f1' : H1 b = some (.dK kf) := e1 _ _ (by unfold Lk; rw [upd_ne (Ne.symm hne)]; exact f1)
      have f2' : Paired (RepF K H1) fs kf := pairA_mono (fun _ _ => RepF.le ((Le.lock h1).trans (Le.of e1))) f2
      refine ⟨t, _, rfl, g1, rfl, _, _, rfl, _, _, rfl, _, _, rfl, _, _, rfl, rfl, ?_⟩
      refine s_forLock g3 (fun od2 => ei_vals (ev_var rfl) upd_same) (fun _ σ' => ∃ v1 v3, σ' = [some (.ref a), some (.ref b), v1, some (.ref m), v3]) ⟨_, _, rfl⟩ ?_ ?_
      · rintro od2 j y σ2 H2 e2 hy ⟨w1, w3, rfl⟩ D2 hD2
        rw [skv_vals] at hy
        obtain ⟨z, hz, rfl⟩ := List.mem_map.mp (List.mem_of_getElem? hy)
        obtain ⟨p, hp, rfl⟩ := List.mem_map.mp hz
        obtain ⟨fn, hfn, hps⟩ := hm c (List.mem_of_getElem? hcm) p hp
        have f1'' : Rd H2 b (.dK kf) := ((Le.lock g3).trans (Le.of e2)) _ _ (.inl f1')
        have f2'' : Paired (RepF K H2) fs kf := pairA_mono (fun _ _ => RepF.le ((Le.lock g3).trans (Le.of e2))) f2'
        rcases pairA_look keyF p.2 f2'' with ⟨q, _⟩ | ⟨fn', v', q1, q2, q3⟩
        · rw [hfn] at q; cases q
        · rw [hfn] at q1; cases q1
          obtain ⟨_, t2, pt, bt, rfl, r1, r2, _⟩ := q3
          refine s_when (b := false) (et_orF (et_is (et_B (et_dnotin (k := Sum.inr p.2) (ev_var rfl) (ev_var rfl) f1'')) (by rw [q2]; rfl)) (et_notT (et_is (et_truT (ev_op (ev_dget (k := Sum.inr p.2) (ev_var rfl) (ev_var rfl) f1'' q2) ev_c (rv_ixT r1 (at_of (j := 0) rfl rfl))) r2) ?_))) (fun z => nomatch z) fun _ H3 e3 => hD2 _ _ ⟨_, _, rfl⟩ e3
          have : fn.ps.map V.str ≠ [] := fun z => hps (List.map_eq_nil_iff.mp z)
          show (!(fn.ps.map V.str).isEmpty) = true
          cases hh : fn.ps.map V.str with
          | nil => exact absurd hh this
          | cons _ _ => rfl
      · rintro σ2 H2 ⟨w1, w3, rfl⟩ e2
        exact hD _ _ ⟨_, _, _, rfl⟩ e2
    · rintro σ' H1 ⟨v1, v2, v3, rfl⟩ e1
      exact s_ret (v := .bl true) ev_c fun H2 e2 => k H2 (e1.trans e2)
end
end EE
set_option Elab.async false
set_option linter.all false
set_option maxRecDepth 100000
set_option maxHeartbeats 4000000
/-! list(zip(a, b)), a and b tuples of one length -/
namespace EE
open PySem PySem.Spec PyProof.Rows L2 RZ
section
variable {X : Cx} {pins : List (Addr × Obj)} {σ : L2.St} {H H' : Hp} {s : Shared} {h' : Heap} {tk : Nat}
/-- new objects of any number are laid -/
theorem lay_many (I : Inv X pins σ H s) (hk : ∀ b o, s.heap.get? b = some o → h'.get? b = some o) (old : ∀ b u, H b = some u → H' b = some u) (new : ∀ b, b < s.heap.objs.size → H' b = H b)
    (ok : ∀ b u, H' b = some u → H b = none → ObjOk X.prog X.w H' h' b u) : Inv X pins σ H' { s with heap := h', toks := tk } := by
  refine I.call' (ch := []) rfl ⟨fun b o q _ _ _ => hk b o q, fun b o q _ _ _ => ⟨o.slots, hk b o q⟩, fun b o q n _ => by rw [new b (Heap.lt_size q)]; exact n, fun b o q _ => ⟨o, hk b o q⟩, fun b xs q => old b _ q, fun b o u q => old b _ q,
    fun b ps q => ⟨#[], by rw [old b _ q]; simp⟩⟩ (fun b u q => ?_) I.bare fun b z => by simp at z
  cases e : H b with
  | none => exact ok b u q e
  | some v =>
    have := old b v e
    rw [q] at this
    cases this
    exact (I.hok b u e).stay (fun d v _ y => hk d v y) (fun d y => old d _ y) fun d xs y => old d _ y
end
section
variable {prog : Program} {w : World} {A : Around} {E : Value → Shared → Prop} {s : Shared}
theorem zipT_item_held {z TI TO T i1 i2 l1 l2 : Addr} {f : Bool} {oT : Obj} {k1 k2 : Nat} {xs ys : Array Value} {x y : Value} {Q : Value → Shared → Prop} (D : ZipApart z TI TO i1 i2 l1 l2)
    (hz : PySem.IsZipHeld s.heap z TI TO T f) (hT : s.heap.get? T = some oT) (hTI : IsPair s.heap TI (.ref i1) (.ref i2)) (h1 : s.heap.IsTupleIter i1 l1 k1) (h2 : s.heap.IsTupleIter i2 l2 k2) (hl1 : s.heap.IsTuple l1 xs) (hl2 : s.heap.IsTuple l2 ys) (hx : xs[k1]? = some x) (hy : ys[k2]? = some y)
    (hQ : ∀ h', PySem.IsZipHeld h' z TI TO T true → h'.IsTupleIter i1 l1 (k1 + 1) → h'.IsTupleIter i2 l2 (k2 + 1) → IsPair h' s.heap.objs.size x y → h'.objs.size = s.heap.objs.size + 1 → (∀ c o, c ≠ z → c ≠ i1 → c ≠ i2 → s.heap.get? c = some o → h'.get? c = some o) → Q (.ref s.heap.objs.size) { s with heap := h' }) :
    wpAny (model prog w) A (Builtin.«zip.__next__» ⟨[.ref z], []⟩) (fun fin s' => ∃ v, fin = .done (.ret v) ∧ Q v s') E s := by
  show wpAny _ _ (field (.ref z) 2 >>= _) _ _ _; refine wpAny_bind (wpAny_field hz rfl (x := .bool false) rfl ?_)
  show wpAny _ _ (field (.ref z) 3 >>= _) _ _ _; refine wpAny_bind (wpAny_field hz rfl (x := .ref TI) rfl (wpAny_bind (wpAny_seqItems hTI rfl ?_)))
  show wpAny _ _ (Builtin.SmallTypes.ownedTupleIsFree (.ref z) >>= _) _ _ _; refine wpAny_bind (PySem.wpAny_tupleHeld_zip hz hT fun ha hza sa => ?_)
  simp only [Bool.false_eq_true, if_false]; refine wpAny_bind ?_; rw [← Array.forIn_toList]
  simp only [List.forIn_cons, List.forIn_nil]; refine wpAny_bind (wpAny_bind (wpAny_holding ?_))
  show wpAny _ _ (Builtin.SmallTypes.nextOf (.ref i1) >>= _) _ _ _
  refine wpAny_bind (nextOf_tuple_item (s := { s with heap := ha }) (h1.extBut sa.extBut D.i1z) (hl1.extBut sa.extBut D.l1z) hx fun hb h1b sb => wpAny_pure (wpAny_pure (wpAny_bind (wpAny_bind (wpAny_holding ?_)))))
  show wpAny _ _ (Builtin.SmallTypes.nextOf (.ref i2) >>= _) _ _ _
  refine wpAny_bind (nextOf_tuple_item (s := { s with heap := hb }) ((h2.extBut sa.extBut D.i2z).extBut sb.extBut D.i12.symm) ((hl2.extBut sa.extBut D.l2z).extBut sb.extBut D.l2i1) hy fun hc h2c sc => wpAny_pure (wpAny_pure (wpAny_pure ?_)))
  show wpAny _ _ (newTuple [x, y] >>= _) _ _ _; refine wpAny_bind (wpAny_newTuple (wpAny_pure ⟨_, rfl, ?_⟩))
  have size : hc.objs.size = s.heap.objs.size := by rw [sc.1, sb.1, sa.1]
  have hzc : PySem.IsZipHeld hc z TI TO T true := sc.extBut _ _ D.i2z.symm (sb.extBut _ _ D.i1z.symm hza)
  have keep : ∀ c o, c ≠ z → c ≠ i1 → c ≠ i2 → s.heap.get? c = some o → hc.get? c = some o := fun c o c1 c2 c3 e => sc.extBut _ _ c3 (sb.extBut _ _ c2 (sa.extBut _ _ c1 e))
  show Q (.ref hc.objs.size) _
  have pair : IsPair (hc.push { cls := .type "tuple", data := .seq #[x, y] }) hc.objs.size x y := Heap.get?_push_size _ rfl
  have size2 : (hc.push { cls := .type "tuple", data := .seq #[x, y] }).objs.size = hc.objs.size + 1 := Heap.size_push ..
  rw [size] at pair size2 ⊢
  exact hQ _ (Heap.get?_push_of_some _ hzc) ((h1b.extBut sc.extBut D.i12).at fun o e => Heap.get?_push_of_some _ e) (h2c.at fun o e => Heap.get?_push_of_some _ e) pair size2 fun c o c1 c2 c3 e => Heap.get?_push_of_some _ (keep c o c1 c2 c3 e)
theorem zipT_end_held {z TI TO T i1 i2 l1 l2 : Addr} {f : Bool} {oT : Obj} {k1 k2 : Nat} {xs : Array Value} {Q : Fin → Shared → Prop} (hh : A.handled = none) (D : ZipApart z TI TO i1 i2 l1 l2) (hz : PySem.IsZipHeld s.heap z TI TO T f) (hT : s.heap.get? T = some oT)
    (hTI : IsPair s.heap TI (.ref i1) (.ref i2)) (h1 : s.heap.IsTupleIter i1 l1 k1) (hl1 : s.heap.IsTuple l1 xs) (hx : xs[k1]? = none)
    (hE : ∀ h' e, (∀ c o, c ≠ z → c ≠ i1 → s.heap.get? c = some o → h'.get? c = some o) → (∃ o, h'.get? e = some o ∧ o.cls = .type "StopIteration") → E (.ref e) { s with heap := h' }) : wpAny (model prog w) A (Builtin.«zip.__next__» ⟨[.ref z], []⟩) Q E s := by
  show wpAny _ _ (field (.ref z) 2 >>= _) _ _ _; refine wpAny_bind (wpAny_field hz rfl (x := .bool false) rfl ?_)
  show wpAny _ _ (field (.ref z) 3 >>= _) _ _ _; refine wpAny_bind (wpAny_field hz rfl (x := .ref TI) rfl (wpAny_bind (wpAny_seqItems hTI rfl ?_)))
  show wpAny _ _ (Builtin.SmallTypes.ownedTupleIsFree (.ref z) >>= _) _ _ _; refine wpAny_bind (PySem.wpAny_tupleHeld_zip hz hT fun ha hza sa => ?_)
  simp only [Bool.false_eq_true, if_false]; refine wpAny_bind ?_; rw [← Array.forIn_toList]
  simp only [List.forIn_cons, List.forIn_nil]; refine wpAny_bind (wpAny_bind (wpAny_holding ?_))
  show wpAny _ _ (Builtin.SmallTypes.nextOf (.ref i1) >>= _) _ _ _
  exact wpAny_bind (nextOf_tuple_end (s := { s with heap := ha }) hh (h1.extBut sa.extBut D.i1z) (hl1.extBut sa.extBut D.l1z) hx fun hb e sb he => hE hb e (fun c o c1 c2 x => sb _ _ c2 (sa.extBut _ _ c1 x)) he)
theorem next_item_held {z TI TO T i1 i2 l1 l2 : Addr} {f : Bool} {oT : Obj} {k1 k2 : Nat} {xs ys : Array Value} {x y : Value} {Q : Option Value → Shared → Prop} (D : ZipApart z TI TO i1 i2 l1 l2)
    (hz : PySem.IsZipHeld s.heap z TI TO T f) (hT : s.heap.get? T = some oT) (hTI : IsPair s.heap TI (.ref i1) (.ref i2)) (h1 : s.heap.IsTupleIter i1 l1 k1) (h2 : s.heap.IsTupleIter i2 l2 k2) (hl1 : s.heap.IsTuple l1 xs) (hl2 : s.heap.IsTuple l2 ys) (hx : xs[k1]? = some x) (hy : ys[k2]? = some y)
    (hQ : ∀ h', PySem.IsZipHeld h' z TI TO T true → h'.IsTupleIter i1 l1 (k1 + 1) → h'.IsTupleIter i2 l2 (k2 + 1) → IsPair h' s.heap.objs.size x y → h'.objs.size = s.heap.objs.size + 1 → (∀ c o, c ≠ z → c ≠ i1 → c ≠ i2 → s.heap.get? c = some o → h'.get? c = some o) → Q (some (.ref s.heap.objs.size)) { s with heap := h' }) :
    wpAny (model prog w) A (pyNext (.ref z)) Q E s := by
  have hTy : s.TypeIs (.ref z) "zip" := ⟨_, hz, rfl⟩
  unfold pyNext
  refine wpAny_bind (wpAny_attempt (wpAny_callSpecial?_slot (name := Str.ofString "__next__") hTy F.slot_zip_next (wpAny_call_entry F.slot_zip_next hTy F.entry_zip_next (zipT_item_held D hz hT hTI h1 h2 hl1 hl2 hx hy fun h' a1 a3 a4 a5 a6 a7 => wpAny_pure (hQ h' a1 a3 a4 a5 a6 a7)) (F.args_zip_next_1 _))))
theorem next_end_held {z TI TO T i1 i2 l1 l2 : Addr} {f : Bool} {oT : Obj} {k1 k2 : Nat} {xs : Array Value} {Q : Option Value → Shared → Prop} (hh : A.handled = none) (D : ZipApart z TI TO i1 i2 l1 l2) (hz : PySem.IsZipHeld s.heap z TI TO T f) (hT : s.heap.get? T = some oT)
    (hTI : IsPair s.heap TI (.ref i1) (.ref i2)) (h1 : s.heap.IsTupleIter i1 l1 k1) (hl1 : s.heap.IsTuple l1 xs) (hx : xs[k1]? = none) (hQ : ∀ h', (∀ c o, c ≠ z → c ≠ i1 → s.heap.get? c = some o → h'.get? c = some o) → Q none { s with heap := h' }) : wpAny (model prog w) A (pyNext (.ref z)) Q E s := by
  have hTy : s.TypeIs (.ref z) "zip" := ⟨_, hz, rfl⟩
  unfold pyNext
  refine wpAny_bind (wpAny_attempt (wpAny_callSpecial?_slot (name := Str.ofString "__next__") hTy F.slot_zip_next (wpAny_call_entry F.slot_zip_next hTy F.entry_zip_next (zipT_end_held (k2 := k2) hh D hz hT hTI h1 hl1 hx fun h' e hk he => ?_) (F.args_zip_next_1 _))))
  obtain ⟨o, ho, hc⟩ := he
  exact wpAny_bind (wpAny_isInstance (T := "StopIteration") (b := true) ⟨o, ho, hc⟩ isSubtype_stop (wpAny_pure (hQ _ hk)))
/-- where a zip of the tuples xs, ys stands ahead of turn k; S: the list that is being made -/
structure ZipSt (z TI TO i1 i2 l1 l2 S : Addr) (xs ys : Array Value) (k : Nat) (h : Heap) : Prop where
  ti : IsPair h TI (.ref i1) (.ref i2)
  it1 : h.IsTupleIter i1 l1 k
  it2 : h.IsTupleIter i2 l2 k
  t1 : h.IsTuple l1 xs
  t2 : h.IsTuple l2 ys
  st : (IsZip h z TI TO .none ∧ ∃ a b, IsPair h TO a b) ∨ ∃ T f oT, PySem.IsZipHeld h z TI TO T f ∧ h.get? T = some oT ∧ T ≠ z ∧ T ≠ i1 ∧ T ≠ i2 ∧ T ≠ S
theorem ZipSt.at {z TI TO i1 i2 l1 l2 S : Addr} {xs ys : Array Value} {k : Nat} {h h' : Heap} (x : ZipSt z TI TO i1 i2 l1 l2 S xs ys k h) (hk : ∀ b o, b ≠ S → h.get? b = some o → h'.get? b = some o) (n : TI ≠ S ∧ i1 ≠ S ∧ i2 ≠ S ∧ l1 ≠ S ∧ l2 ≠ S ∧ z ≠ S ∧ TO ≠ S) :
    ZipSt z TI TO i1 i2 l1 l2 S xs ys k h' := by
  obtain ⟨n1, n2, n3, n4, n5, n6, n7⟩ := n
  obtain ⟨a1, a2, a3, a4, a5, a6⟩ := x
  refine ⟨hk _ _ n1 a1, a2.at fun o e => hk _ o n2 e, a3.at fun o e => hk _ o n3 e, a4.at fun o e => hk _ o n4 e, a5.at fun o e => hk _ o n5 e, ?_⟩
  rcases a6 with ⟨b1, b2, b3, b4⟩ | ⟨T, f, oT, c1, c2, c3, c4, c5, c6⟩
  · exact .inl ⟨hk _ _ n6 b1, b2, b3, hk _ _ n7 b4⟩
  · exact .inr ⟨T, f, oT, hk _ _ n6 c1, hk _ _ c6 c2, c3, c4, c5, c6⟩
/-- the pairs made so far: at ts, all of them new -/
def Made (base : Nat) (xs ys : Array Value) (ts : List Addr) (h : Heap) : Prop := ts.Nodup ∧ ∀ (j : Nat) (t : Addr), ts[j]? = some t → base ≤ t ∧ ∃ x y, xs[j]? = some x ∧ ys[j]? = some y ∧ IsPair h t x y
theorem list_turns {z TI TO i1 i2 l1 l2 S : Addr} {xs ys : Array Value} {res : Value} {base : Nat} {R : Result → Shared → Prop} (hh : A.in1.handled = none) (D : ZipApart z TI TO i1 i2 l1 l2) (hl : xs.size = ys.size) (hn : xs.size ≤ 1000) (ap : TI ≠ S ∧ i1 ≠ S ∧ i2 ≠ S ∧ l1 ≠ S ∧ l2 ≠ S ∧ z ≠ S ∧ TO ≠ S)
    (hb : z < base ∧ TO < base ∧ i1 < base ∧ i2 < base ∧ S < base) (m : Nat) : ∀ (k : Nat) (s : Shared) (ts : List Addr) (acc : Array Value) (c : Nat), xs.size - k = m → k ≤ xs.size → ZipSt z TI TO i1 i2 l1 l2 S xs ys k s.heap → ts.length = k → acc.toList = ts.map Value.ref →
      s.heap.get? S = some { cls := .type "list", dict := none, data := .seq acc c, slots := #[] } → Made base xs ys ts s.heap → base ≤ s.heap.objs.size →
      (∀ h' tk ts' acc' c', acc'.toList = ts'.map Value.ref → ts'.length = xs.size → h'.get? S = some { cls := .type "list", dict := none, data := .seq acc' c', slots := #[] } → Made base xs ys ts' h' → (∀ b o, b ≠ z → b ≠ TO → b ≠ i1 → b ≠ i2 → b ≠ S → s.heap.get? b = some o → h'.get? b = some o) → R (.ok (.ret res)) { s with heap := h', toks := tk }) →
      codeAny (model prog w) A (.builtin "list.extend.loop" ⟨[.ref S, .ref z, res], []⟩) R s := by
  induction m with
  | zero =>
    rintro k s ts acc c hm hk st hts hacc hS hM hbs hR
    obtain rfl : k = xs.size := by omega
    refine codeAny_builtin F.entry_extend_loop ?_; rw [Around.under_plainId F.plain_extend_loop _]; show wpAny _ A.in1 (pyNext (.ref z) >>= _) _ _ s
    have hx : xs[xs.size]? = none := Array.getElem?_eq_none (Nat.le_refl _)
    have fin : ∀ h', (∀ c o, c ≠ z → c ≠ TO → c ≠ i1 → c ≠ i2 → s.heap.get? c = some o → h'.get? c = some o) → R (.ok (.ret res)) { s with heap := h' } := fun h' hk' => by
      refine hR h' s.toks ts acc c hacc hts (hk' _ _ (Ne.symm ap.2.2.2.2.2.1) (Ne.symm ap.2.2.2.2.2.2) (Ne.symm ap.2.1) (Ne.symm ap.2.2.1) hS) ⟨hM.1, fun j t ht => ?_⟩ fun b o b1 b2 b3 b4 _ e => hk' b o b1 b2 b3 b4 e
      obtain ⟨g1, x, y, g2, g3, g4⟩ := hM.2 j t ht
      have lt : ∀ {q : Addr}, q < base → t ≠ q := fun hq e => absurd hq (Nat.not_lt.mpr (e ▸ g1))
      exact ⟨g1, x, y, g2, g3, hk' _ _ (lt hb.1) (lt hb.2.1) (lt hb.2.2.1) (lt hb.2.2.2.1) g4⟩
    rcases st.st with ⟨q1, a, b, q2⟩ | ⟨T, f, oT, q1, q2, q3, q4, q5, q6⟩
    · exact wpAny_bind (pyNext_zipT_end hh D q1 st.ti q2 st.it1 st.it2 st.t1 st.t2 (.inl hx) fun h' hk' => wpAny_pure (fin h' hk'))
    · exact wpAny_bind (next_end_held (k2 := xs.size) hh D q1 q2 st.ti st.it1 st.t1 hx fun h' hk' => wpAny_pure (fin h' fun c o c1 _ c3 _ e => hk' c o c1 c3 e))
  | succ m ih =>
    rintro k s ts acc c hm hk st hts hacc hS hM hbs hR
    have hlt : k < xs.size := by omega
    refine codeAny_builtin F.entry_extend_loop ?_; rw [Around.under_plainId F.plain_extend_loop _]; show wpAny _ A.in1 (pyNext (.ref z) >>= _) _ _ s
    have hx : xs[k]? = some xs[k] := Array.getElem?_eq_getElem hlt
    have hy : ys[k]? = some ys[k] := Array.getElem?_eq_getElem (by omega)
    have szl : acc.size = k := by
      have := congrArg List.length hacc
      rw [List.length_map, hts] at this
      rw [← this]; simp
    -- behind the next pair: it is pushed, and so on
    have go : ∀ h', ZipSt z TI TO i1 i2 l1 l2 S xs ys (k + 1) h' → IsPair h' s.heap.objs.size xs[k] ys[k] → h'.objs.size = s.heap.objs.size + 1 → (∀ c o, c ≠ z → c ≠ TO → c ≠ i1 → c ≠ i2 → s.heap.get? c = some o → h'.get? c = some o) →
        wpAny (model prog w) A.in1 (updateSeq S (·.push (Value.ref s.heap.objs.size)) >>= fun _ => again (.builtin "list.extend.loop" ⟨[.ref S, .ref z, res], []⟩)) (fun fin s' => match fin with | .done f => R (.ok f) s' | .again c' => c'.quiet = true ∧ codeAny (model prog w) A c' R s') (fun e s' => R (.error e) s') { s with heap := h' } := fun h' st' pr hsz hk' => by
      have hS' := hk' _ _ (Ne.symm ap.2.2.2.2.2.1) (Ne.symm ap.2.2.2.2.2.2) (Ne.symm ap.2.1) (Ne.symm ap.2.2.1) hS
      refine wpAny_bind (wpAny_updateSeq hS' rfl (wpAny_pure ⟨plainId_quiet F.plain_extend_loop _, ?_⟩) (by rw [szl, sizeLine_eq]; omega) (by show (acc.push _).size ≤ _; rw [Array.size_push, szl, sizeLine_eq]; omega))
      have oth : ∀ b o, b ≠ S → h'.get? b = some o → (h'.update S (Obj.mapSeq (·.push (Value.ref s.heap.objs.size)))).get? b = some o := fun b o hbS e => (Heap.get?_update_other _ _ (Ne.symm hbS)).trans e
      have neS : ∀ {t : Addr}, base ≤ t → t ≠ S := fun ht e => absurd hb.2.2.2.2 (Nat.not_lt.mpr (e ▸ ht))
      have nw : ∀ {q : Addr} {o : Obj}, s.heap.get? q = some o → s.heap.objs.size ≠ q := fun e => Nat.ne_of_gt (Heap.lt_size e)
      refine ih (k + 1) _ (ts ++ [s.heap.objs.size]) (acc.push (.ref s.heap.objs.size)) _ (by omega) hlt (st'.at oth ap) (by rw [List.length_append, hts]; rfl) (by rw [Array.toList_push, hacc, List.map_append]; rfl) (Heap.get?_update_self _ hS' rfl) ⟨?_, fun j t ht => ?_⟩ (by rw [Heap.size_update, hsz]; omega) fun h2 tk ts' acc' c' q1 q2 q3 q4 q5 => ?_
      · refine List.nodup_append.mpr ⟨hM.1, by simp, fun a ha b hb' e => ?_⟩
        obtain rfl : b = s.heap.objs.size := by simpa using hb'
        obtain ⟨j, hj⟩ := List.mem_iff_getElem?.mp ha
        obtain ⟨_, x, y, _, _, g4⟩ := hM.2 j a hj
        exact nw g4 e.symm
      · by_cases hj : j < ts.length
        · rw [List.getElem?_append_left hj] at ht
          obtain ⟨g1, x, y, g2, g3, g4⟩ := hM.2 j t ht
          have lt : ∀ {q : Addr}, q < base → t ≠ q := fun hq e => absurd hq (Nat.not_lt.mpr (e ▸ g1))
          exact ⟨g1, x, y, g2, g3, oth _ _ (neS g1) (hk' _ _ (lt hb.1) (lt hb.2.1) (lt hb.2.2.1) (lt hb.2.2.2.1) g4)⟩
        · have hj2 : j = ts.length := by
            have := (List.getElem?_eq_some_iff.mp ht).1
            rw [List.length_append, List.length_singleton] at this
            omega
          subst hj2
          rw [List.getElem?_append_right (Nat.le_refl _), Nat.sub_self] at ht
          obtain rfl : s.heap.objs.size = t := by simpa using ht
          rw [hts]
          exact ⟨hbs, _, _, hx, hy, oth _ _ (neS hbs) pr⟩
      · exact hR h2 tk ts' acc' c' q1 q2 q3 q4 fun b o b1 b2 b3 b4 b5 e => q5 b o b1 b2 b3 b4 b5 (oth b o b5 (hk' b o b1 b2 b3 b4 e))
    rcases st.st with ⟨q1, a, b, q2⟩ | ⟨T, f, oT, q1, q2, q3, q4, q5, q6⟩
    · refine wpAny_bind (pyNext_zipT_item D q1 st.ti q2 st.it1 st.it2 st.t1 st.t2 hx hy fun h' a1 a2 a3 a4 a5 a6 a7 => ?_)
      have nw : ∀ {q : Addr} {o : Obj}, s.heap.get? q = some o → s.heap.objs.size ≠ q := fun e => Nat.ne_of_gt (Heap.lt_size e)
      have n1 : s.heap.objs.size ≠ i1 := let ⟨_, e, _⟩ := st.it1; nw e
      have n2 : s.heap.objs.size ≠ i2 := let ⟨_, e, _⟩ := st.it2; nw e
      exact go h' ⟨a7 _ _ D.TIz D.TITO D.TIi1 D.TIi2 st.ti, a3, a4, st.t1.at fun o e => a7 _ o D.l1z D.l1TO D.l1i1 D.l1i2 e, st.t2.at fun o e => a7 _ o D.l2z D.l2TO D.l2i1 D.l2i2 e, .inr ⟨s.heap.objs.size, false, _, a1, a5, nw q1, n1, n2, nw hS⟩⟩ a5 a6 a7
    · refine wpAny_bind (next_item_held D q1 q2 st.ti st.it1 st.it2 st.t1 st.t2 hx hy fun h' a1 a3 a4 a5 a6 a7 => ?_)
      exact go h' ⟨a7 _ _ D.TIz D.TIi1 D.TIi2 st.ti, a3, a4, st.t1.at fun o e => a7 _ o D.l1z D.l1i1 D.l1i2 e, st.t2.at fun o e => a7 _ o D.l2z D.l2i1 D.l2i2 e, .inr ⟨T, true, oT, a1, a7 _ _ q3 q4 q5 q2, q3, q4, q5, q6⟩⟩ a5 a6 fun c o c1 _ c3 c4 e => a7 c o c1 c3 c4 e
theorem zip_no_len : typeLookup (.type "zip") "__len__" = pure none := am_miss_of_fast (by decide +kernel)
theorem zip_no_hint : typeLookup (.type "zip") "__length_hint__" = pure none := am_miss_of_fast (by decide +kernel)
/-- list(z), z a zip of two tuples that has not been asked -/
theorem call_list_zip {z TI TO i1 i2 l1 l2 : Addr} {xs ys : Array Value} {Q : Value → Shared → Prop} (hh : A.handled = none) (D : ZipApart z TI TO i1 i2 l1 l2) (hl : xs.size = ys.size) (hn : xs.size ≤ 1000) (st : ZipSt z TI TO i1 i2 l1 l2 s.heap.objs.size xs ys 0 s.heap) (hz : IsZip s.heap z TI TO .none) (hTO : ∃ a b, IsPair s.heap TO a b)
    (hQ : ∀ h' tk ts acc c, acc.toList = ts.map Value.ref → ts.length = xs.size → h'.get? s.heap.objs.size = some { cls := .type "list", dict := none, data := .seq acc c, slots := #[] } → Made (s.heap.objs.size + 1) xs ys ts h' → (∀ b o, b ≠ z → b ≠ TO → b ≠ i1 → b ≠ i2 → s.heap.get? b = some o → h'.get? b = some o) → Q (.ref s.heap.objs.size) { s with heap := h', toks := tk }) :
    wpAny (model prog w) A (call (.type "list") [.ref z]) Q E s := by
  have lt : ∀ {b o}, s.heap.get? b = some o → b < s.heap.objs.size := fun e => Heap.lt_size e
  have ltI : ∀ {b a i}, s.heap.IsTupleIter b a i → b < s.heap.objs.size := fun ⟨_, e, _⟩ => lt e
  have ltT : ∀ {b a}, s.heap.IsTuple b a → b < s.heap.objs.size := fun ⟨_, e, _⟩ => lt e
  have n := fun {b : Addr} (h : b < s.heap.objs.size) => Nat.ne_of_lt h
  obtain ⟨oa, ob, hTO⟩ := hTO
  have ap : TI ≠ s.heap.objs.size ∧ i1 ≠ s.heap.objs.size ∧ i2 ≠ s.heap.objs.size ∧ l1 ≠ s.heap.objs.size ∧ l2 ≠ s.heap.objs.size ∧ z ≠ s.heap.objs.size ∧ TO ≠ s.heap.objs.size :=
    ⟨n (lt st.ti), n (ltI st.it1), n (ltI st.it2), n (ltT st.t1), n (ltT st.t2), n (lt hz), n (lt hTO)⟩
  refine callType_codes (Q₁ := fun obj s1 => obj = .ref s.heap.objs.size ∧ s1 = { s with heap := s.heap.push { cls := .type "list", data := .seq #[] } }) F.called_list (F.typeCall_list_1 _) F.entry_list_init (code_list_new _ ⟨rfl, rfl⟩) fun obj s1 h1 => ?_
  obtain ⟨rfl, rfl⟩ := h1
  have hS : (s.heap.push { cls := .type "list", data := .seq #[] }).get? s.heap.objs.size = some { cls := .type "list", data := .seq #[] } := Heap.get?_push_size _ rfl
  refine ⟨⟨_, hS, rfl⟩, F.args_list_init_2 _ _, ?_⟩
  show wpAny _ A.in1.in1 (do let old ← Builtin.List.listItems (.ref s.heap.objs.size); Builtin.List.listUpdate (.ref s.heap.objs.size) (fun _ => #[]); letGo old.toList.reverse; Builtin.List.listExtendWith (.ref s.heap.objs.size) (.ref z) .none) _ _ _
  refine wpAny_bind ?_; unfold Builtin.List.listItems; refine wpAny_bind (wpAny_seqItems hS rfl (wpAny_pure ?_))
  show wpAny _ A.in1.in1 (updateSeq s.heap.objs.size (fun _ => #[]) >>= fun _ => letGo (#[] : Array Value).toList.reverse >>= fun _ => Builtin.List.listExtendWith (.ref s.heap.objs.size) (.ref z) .none) _ _ _
  refine wpAny_bind (wpAny_updateSeq hS rfl ?_)
  have hS2 := Heap.get?_update_self (Obj.mapSeq (fun _ => (#[] : Array Value))) hS rfl
  refine wpAny_bind (wpAny_letGo ?_)
  unfold Builtin.List.listExtendWith
  have oth2 : ∀ b o, b ≠ s.heap.objs.size → s.heap.get? b = some o → ((s.heap.push { cls := .type "list", data := .seq #[] }).update s.heap.objs.size (Obj.mapSeq (fun _ => (#[] : Array Value)))).get? b = some o := fun b o hb e => (Heap.get?_update_other _ _ (Ne.symm hb)).trans (Heap.get?_push_of_some _ e)
  have hz2 := oth2 _ _ ap.2.2.2.2.2.1 hz
  refine wpAny_bind (wpAny_typeOf (T := "zip") ⟨_, hz2, rfl⟩ ?_)
  have e1 : Builtin.List.listSameRef (.ref s.heap.objs.size) (.ref z) = false := by simp [Builtin.List.listSameRef, Ne.symm ap.2.2.2.2.2.1]
  have e2 : (Value.type "zip" == Value.type "list") = false := by decide
  have e3 : (Value.type "zip" == Value.type "tuple") = false := by decide
  simp only [e1, e2, e3, Bool.or_false, Bool.false_eq_true, if_false]
  refine wpAny_bind (wpAny_pyIter_zip hz2 (wpAny_bind (wpAny_holding ?_)))
  unfold Builtin.List.listLengthHint
  refine wpAny_bind (wpAny_specialOf (T := "zip") ⟨_, hz2, rfl⟩ zip_no_len ?_)
  show wpAny _ A.in1.in1 (specialOf (Value.ref z) (Str.ofString "__length_hint__") >>= _) _ _ _
  refine wpAny_bind (wpAny_specialOf (T := "zip") ⟨_, hz2, rfl⟩ zip_no_hint (wpAny_pure ?_))
  show wpAny _ A.in1.in1 (rule "list.extend.makes-room" >>= fun _ => Builtin.List.listTouch (.ref s.heap.objs.size) >>= fun _ => again (.builtin "list.extend.loop" ⟨[.ref s.heap.objs.size, .ref z, .none], []⟩)) _ _ _
  refine wpAny_bind (wpAny_rule (wpAny_bind ?_))
  show wpAny _ A.in1.in1 (updateSeq s.heap.objs.size (·.push .none) >>= fun _ => updateSeq s.heap.objs.size (·.pop)) _ _ _
  refine wpAny_bind (wpAny_updateSeq hS2 rfl ?_)
  have hS3 := Heap.get?_update_self (Obj.mapSeq (·.push Value.none)) hS2 rfl
  refine wpAny_updateSeq (hz := by seq_fits) hS3 rfl ?_
  have hS4 := Heap.get?_update_self (Obj.mapSeq (·.pop)) hS3 rfl
  have oth4 : ∀ b o, b ≠ s.heap.objs.size → s.heap.get? b = some o → ((((s.heap.push { cls := .type "list", data := .seq #[] }).update s.heap.objs.size (Obj.mapSeq (fun _ => (#[] : Array Value)))).update s.heap.objs.size (Obj.mapSeq (·.push Value.none))).update s.heap.objs.size (Obj.mapSeq (·.pop))).get? b = some o :=
    fun b o hb e => (Heap.get?_update_other _ _ (Ne.symm hb)).trans ((Heap.get?_update_other _ _ (Ne.symm hb)).trans (oth2 b o hb e))
  have up : ∀ {b : Addr}, b < s.heap.objs.size → b < s.heap.objs.size + 1 := fun h => Nat.lt_succ_of_lt h
  refine wpAny_pure ⟨plainId_quiet F.plain_extend_loop _, list_turns (base := s.heap.objs.size + 1) (by simp [hh]) D hl hn ap ⟨up (lt hz), up (lt hTO), up (ltI st.it1), up (ltI st.it2), Nat.lt_succ_self _⟩ (xs.size - 0) 0 _ [] _ _ rfl (Nat.zero_le _) (st.at oth4 ap) rfl rfl hS4 ⟨List.nodup_nil, fun j t h => by simp at h⟩ ?_ fun h' tk ts acc c q1 q2 q3 q4 q5 => ?_⟩
  · simp only [Heap.size_update, Heap.size_push]; exact Nat.le_refl _
  · exact ⟨rfl, hQ h' tk ts acc c q1 q2 q3 q4 fun b o b1 b2 b3 b4 e => q5 b o b1 b2 b3 b4 (n (lt e)) (oth4 b o (n (lt e)) e)⟩
end
section
variable {X : Cx} {e1 e2 : Expr} {ta : TA} {p p2 pos pos2 : Pos}
/-- list(zip(a, b)): a new list of new pairs -/
def tListZip (K : PySem.W.Frag) (ta : TA) : TE := fun σ H Q => ta σ H fun vs H1 => ∃ a b xs ys, vs = [V.ref a, V.ref b] ∧ SqT K H1 a xs ∧ SqT K H1 b ys ∧ xs.length = ys.length ∧ xs.length ≤ 1000 ∧
  ∀ (l : Addr) (ts : List Addr) (H2 : Hp), (∀ b u, H1 b = some u → H2 b = some u) → H1 l = none → (∀ t ∈ ts, H1 t = none) → H2 l = some (.lst (ts.map V.ref)) → ts.length = xs.length → (∀ (j : Nat) (t : Addr), ts[j]? = some t → ∃ x y, xs[j]? = some x ∧ ys[j]? = some y ∧ H2 t = some (.tup [x, y])) → Q (.ref l) H2
theorem vals_at : ∀ {xs : List V} {us : List Value} {j : Nat} {u : Value}, Vals xs us → us[j]? = some u → ∃ x, xs[j]? = some x ∧ RelV x u
  | [], [], _, _, .nil, h => by simp at h
  | x :: xs, v :: us, 0, u, .cons r _, h => by
    simp at h
    subst h
    exact ⟨x, rfl, r⟩
  | x :: xs, v :: us, j + 1, u, .cons _ t, h => vals_at (j := j) t (by simpa using h)
theorem pe_listZip (hc : X.calm = true) (hg : Gl X "list") (hm : X.mg "list" = none) (hg2 : Gl X "zip") (hm2 : X.mg "zip" = none) (ha : PA X [e1, e2] ta) (hv : bootBuiltins "list" = some (.type "list"))
    (hs : starEach [.Call (.Name "zip" p2) [e1, e2] [] pos2] X.env = (false, eval (.Call (.Name "zip" p2) [e1, e2] [] pos2) X.env) :: starEach [] X.env := by rfl) (hs2 : starEach [e1, e2] X.env = (false, eval e1 X.env) :: starEach [e2] X.env := by rfl) (hpl : (backTo pos2 (starEach [e2] X.env)).any (·.1) = false := by rfl) :
    PE X (.Call (.Name "list" p) [.Call (.Name "zip" p2) [e1, e2] [] pos2] [] pos) (tListZip X.K ta) := by
  refine ⟨fun pins s σ H Q I hq => wpAny_Call_Name_kw (ld_blt I hg hm hv (PyProof.Rows.callWith_type1 ?_ hs rfl))⟩
  rw [hs]
  show wpAny _ _ (spliced ((false, eval (.Call (.Name "zip" p2) [e1, e2] [] pos2) X.env) :: backTo pos (starEach [] X.env))) _ _ s
  refine Calls.spliced_cons (Call_ (ld_blt I hg2 hm2 PyProof.Rows.boot_zip (PyProof.Rows.callWith_type1 (thn (ha.run pos2 pins s σ H _ I hq) fun us s1 ⟨vs, H1, I1, r1, q1⟩ => ?_) hs2 hpl)))
  obtain ⟨a, b, xs, ys, rfl, ha1, hb1, hlen, hsm, q⟩ := q1
  cases r1 with
  | cons r rr =>
    cases rr with
    | cons r' rr =>
      cases rr; cases r; cases r'
      obtain ⟨its, rv, p1, _⟩ := I1.tuple ha1
      obtain ⟨its2, rv2, p2, _⟩ := I1.tuple hb1
      have ⟨o1, ho1, _⟩ := p1
      have ⟨o2, ho2, _⟩ := p2
      have l1 : its.toArray.size = xs.length := by rw [List.size_toArray, ← rv.length]
      have l2 : its2.toArray.size = ys.length := by rw [List.size_toArray, ← rv2.length]
      refine call_zipT (show s1.heap.IsTuple a its.toArray from p1) (show s1.heap.IsTuple b its2.toArray from p2) fun h' hz hTI hTO hi1 hi2 hsz hk => Calls.spliced_nil ?_
      have I2 : Inv X pins σ H1 { s1 with heap := h' } := I1.kept (t' := s1.toks) hk
      have D := PySem.W.ktu_apart s1.heap.objs.size a b (Heap.lt_size ho1) (Heap.lt_size ho2)
      refine call_list_zip (s := { s1 with heap := h' }) (I1.ok.hd hc) D (by rw [l1, l2]; exact hlen) (by rw [l1]; exact hsm) ⟨hTI, hi1, hi2, Heap.IsTuple.at p1 fun o e => hk _ o e, Heap.IsTuple.at p2 fun o e => hk _ o e, .inl ⟨hz, _, _, hTO⟩⟩ hz ⟨_, _, hTO⟩ fun h2 tk ts acc c q1 q2 q3 q4 q5 => ?_
      have l0 : h'.objs.size = s1.heap.objs.size + 5 := hsz
      have hts : ts.length = xs.length := by rw [q2, l1]
      have uniq : ∀ {i j : Nat} {t : Addr}, ts[i]? = some t → ts[j]? = some t → i = j := fun e1 e2 => nd_ix q4.1 e1 e2
      have big : ∀ {j : Nat} {t : Addr}, ts[j]? = some t → s1.heap.objs.size + 6 ≤ t := fun ht => by
        have := (q4.2 _ _ ht).1
        rw [show ({ s1 with heap := h' } : Shared).heap.objs.size = s1.heap.objs.size + 5 from hsz] at this
        exact this
      have pairOf : ∀ (j : Nat) (t : Addr), ts[j]? = some t → ∃ x y vx vy, xs[j]? = some x ∧ ys[j]? = some y ∧ RelV x vx ∧ RelV y vy ∧ IsPair h2 t vx vy := fun j t ht => by
        obtain ⟨_, vx, vy, g1, g2, g3⟩ := q4.2 j t ht
        obtain ⟨x, k1, k2⟩ := vals_at rv (by simpa using g1)
        obtain ⟨y, k3, k4⟩ := vals_at rv2 (by simpa using g2)
        exact ⟨x, y, vx, vy, k1, k3, k2, k4, g3⟩
      classical
      let l : Addr := h'.objs.size
      let H2 : Hp := fun b => if b = l then some (.lst (ts.map V.ref)) else if hb : ∃ j : Nat, ts[j]? = some b then some (.tup [xs.getD hb.choose .non, ys.getD hb.choose .non]) else H1 b
      have at_l : H2 l = some (.lst (ts.map V.ref)) := if_pos rfl
      have tl : ∀ {j : Nat} {t : Addr}, ts[j]? = some t → t ≠ l := fun {j t} ht e => by
        have := big ht
        have el : @Eq Nat t (s1.heap.objs.size + 5) := e.trans l0
        omega
      have at_t : ∀ (j : Nat) (t : Addr), ts[j]? = some t → ∃ x y vx vy, xs[j]? = some x ∧ ys[j]? = some y ∧ RelV x vx ∧ RelV y vy ∧ IsPair h2 t vx vy ∧ H2 t = some (.tup [x, y]) := fun j t ht => by
        obtain ⟨x, y, vx, vy, g1, g2, g3, g4, g5⟩ := pairOf j t ht
        refine ⟨x, y, vx, vy, g1, g2, g3, g4, g5, ?_⟩
        have hb : ∃ j : Nat, ts[j]? = some t := ⟨j, ht⟩
        have ej : hb.choose = j := uniq hb.choose_spec ht
        show (if t = l then _ else if hb : ∃ j : Nat, ts[j]? = some t then some (HO.tup [xs.getD hb.choose .non, ys.getD hb.choose .non]) else H1 t) = _
        rw [if_neg (tl ht), dif_pos hb, ej, List.getD_eq_getElem?_getD, List.getD_eq_getElem?_getD, g1, g2]
        rfl
      have low : ∀ b, b < s1.heap.objs.size → H2 b = H1 b := fun b hb => by
        have n1 : b ≠ l := fun e => by have : @Eq Nat b (s1.heap.objs.size + 5) := e.trans l0; omega
        have n2 : ¬ ∃ j : Nat, ts[j]? = some b := fun hx => by obtain ⟨j, hj⟩ := hx; have := big hj; omega
        show (if b = l then _ else if hb : ∃ j : Nat, ts[j]? = some b then some (HO.tup [xs.getD hb.choose .non, ys.getD hb.choose .non]) else H1 b) = _
        rw [if_neg n1, dif_neg n2]
      have old : ∀ b u, H1 b = some u → H2 b = some u := fun b u e => by rw [low b (I1.hok.lt e)]; exact e
      have kept : ∀ b o, s1.heap.get? b = some o → h2.get? b = some o := fun b o e => by
        have := Heap.lt_size e
        have up : ∀ m, b ≠ s1.heap.objs.size + m := fun m => Nat.ne_of_lt (Nat.lt_of_lt_of_le this (Nat.le_add_right _ m))
        exact q5 b o (up 4) (up 3) (up 0) (up 1) (hk b o e)
      have fresh : ∀ {b : Addr}, s1.heap.objs.size ≤ b → H1 b = none := fun hb => I1.hok.fresh hb
      have J : Inv X pins σ H2 { s1 with heap := h2, toks := tk } := lay_many I1 kept old low fun b u hu hn => by
        by_cases hb : b = l
        · subst hb
          rw [at_l] at hu
          cases hu
          exact ⟨by rw [List.length_map, sizeLine_eq]; omega, acc.toList, c, by rw [q1]; exact LiI.vals_refs ts, by rw [Array.toArray_toList (xs := acc)]; exact q3⟩
        · by_cases hj : ∃ j : Nat, ts[j]? = some b
          · obtain ⟨j, hj⟩ := hj
            obtain ⟨x, y, vx, vy, _, _, g3, g4, g5, g6⟩ := at_t j b hj
            rw [g6] at hu
            cases hu
            exact ⟨by show 2 ≤ sizeLine; decide, [vx, vy], .cons g3 (.cons g4 .nil), ⟨_, g5, rfl, _, rfl⟩⟩
          · have : H2 b = H1 b := by
              show (if b = l then _ else if hb : ∃ j : Nat, ts[j]? = some b then some (HO.tup [xs.getD hb.choose .non, ys.getD hb.choose .non]) else H1 b) = _
              rw [if_neg hb, dif_neg hj]
            rw [this, hn] at hu
            cases hu
      refine ⟨.ref l, H2, J, rfl, q l ts H2 old (fresh (by show s1.heap.objs.size ≤ h'.objs.size; omega)) (fun t ht => ?_) at_l hts fun j t ht => ?_⟩
      · obtain ⟨j, hj⟩ := (List.mem_iff_getElem? (a := t) (l := ts)).mp ht
        have hbig := big hj
        exact fresh (by omega)
      · obtain ⟨x, y, _, _, g1, g2, _, _, _, g6⟩ := at_t j t ht
        exact ⟨x, y, g1, g2, g6⟩
end
end EE
set_option Elab.async false
set_option linter.all false
set_option maxRecDepth 100000
set_option maxHeartbeats 4000000
namespace EE
open PySem L2 Evl
open C8 (Cal cal0 pe_c pe_gc fnScope_by)
section
variable {K : PySem.W.Frag} {σ : L2.St} {H H' : Hp} {ta tb tc te : TE} {t u : TT} {x y z v : V}
def WalkP (J : It) (H : Hp) (xs ys : List V) : Prop := ∃ G : Hp → Prop, Walk J xs.length G (YPair (fun i => xs[i]?) (fun i => ys[i]?)) ∧ ∀ H1, Ex H H1 → G H1
def EvIP (wi : TI) (σ : L2.St) (H : Hp) (xs ys : List V) : Prop := ∀ H1, Ex H H1 → ∀ R : It → Hp → Prop, (∀ J H2, Ex H1 H2 → WalkP J H2 xs ys → R J H2) → wi σ H1 R
theorem walk_zipT {a b : Addr} {xs ys : List V} (hn : xs.length = ys.length) : Walk (RZ.ItzT K a b) xs.length (fun H => SqT K H a xs ∧ SqT K H b ys) (YPair (fun i => xs[i]?) (fun i => ys[i]?)) := by
  refine ⟨fun i _ hi q => ?_, fun _ q => ⟨xs, ys, q.1, q.2, .inl (Nat.le_refl _)⟩, fun i H v H' _ q y => ?_⟩
  · have h2 : i < ys.length := by omega
    exact ⟨xs, ys, xs[i], ys[i], q.1, q.2, by simp [hi], by simp [h2]⟩
  · obtain ⟨T, x, z, h1, h2, h3, h4, h5⟩ := y
    exact ⟨T, x, z, h1, h2, h3, h4 xs q.1, h5 ys q.2⟩
/-- zip(t, u), u a new tuple -/
theorem eip_zipU {a : Addr} {xs ys : List V} (h : Ev ta σ H (.ref a)) (hx : SqT K H a xs) (hb : EvU tb σ H ys) (hn : xs.length = ys.length) : EvIP (RZ.iZipA K (tCons ta (tCons tb tNil))) σ H xs ys := fun H1 e R q =>
  h H1 e _ fun H2 e2 => hb H2 (e.trans e2) _ fun p H3 _ e3 h3 => ⟨a, p, xs, ys, rfl, .inr ⟨ex_t ((e.trans e2).trans e3) hx, st_of h3, q _ H3 (e2.trans e3) ⟨_, walk_zipT (K := K) hn, fun H4 e4 => ⟨ex_t (((e.trans e2).trans e3).trans e4) hx, ex_t e4 (st_of h3)⟩⟩⟩⟩
/-- a comprehension over pairs, both named -/
theorem el_lcP {wi : TI} {xs ys : List V} {j1 j2 : Nat} {vs : List Nat} (f : Nat → Bool) (v : Nat → V) (h : EvIP wi σ H xs ys) (hz : xs.length ≤ 40000) (hw : ∀ x y, wipe (((wipe σ vs).set j1 (some x)).set j2 (some y)) vs = wipe σ vs)
    (ht : ∀ (i : Nat) (x y : V) H1, Ex H H1 → xs[i]? = some x → ys[i]? = some y → EvT t (((wipe σ vs).set j1 (some x)).set j2 (some y)) H1 (f i)) (he : ∀ (i : Nat) (x y : V) H1, Ex H H1 → xs[i]? = some x → ys[i]? = some y → f i = true → Ev te (((wipe σ vs).set j1 (some x)).set j2 (some y)) H1 (v i)) :
    EvL (tLc wi (gTup K 2 (gCons (gName j1) (gCons (gName j2) gNil))) t te vs) σ H (given xs.length f v) := fun H0 e Q q => h H0 e _ fun J H1 e1 ⟨G, w, hG⟩ Dl hD =>
  lc_it w (Cw H1 f v Dl) ⟨hD, Ex.new hD, upd_same⟩ (fun i H' _ p => hG H' p.2.1) (fun i x H' H'' hi p y => by
    obtain ⟨T, x1, y1, rfl, hT, rfl, h1, h2⟩ := y
    have p' : Cw H1 f v Dl i (upd H' T (.tup [x1, y1])) := ⟨p.1, p.2.1.trans (Ex.new hT), by
      rw [upd_ne (fun z => by rw [← z] at hT; rw [p.2.2] at hT; cases hT)]; exact p.2.2⟩
    exact ⟨T, _, rfl, st_of upd_same, rfl, _, _, rfl, _, _, rfl, rfl, hw _ _, cw_turn p' (by omega) (ht i x1 y1 H1 (e.trans e1) h1 h2) (fun hf => he i x1 y1 H1 (e.trans e1) h1 h2 hf)⟩)
    (fun H' p => q Dl H' (fresh_back e1 p.1) (e1.trans p.2.1) p.2.2)
/-- all of them, each giving what bs says -/
theorem el_lcPA {wi : TI} {xs ys : List V} {j1 j2 : Nat} {vs : List Nat} (bs : List V) (hb : bs.length = xs.length) (h : EvIP wi σ H xs ys) (hz : xs.length ≤ 40000) (hw : ∀ x y, wipe (((wipe σ vs).set j1 (some x)).set j2 (some y)) vs = wipe σ vs)
    (he : ∀ (i : Nat) (x y b : V) H1, Ex H H1 → xs[i]? = some x → ys[i]? = some y → bs[i]? = some b → Ev te (((wipe σ vs).set j1 (some x)).set j2 (some y)) H1 b) :
    EvL (tLc wi (gTup K 2 (gCons (gName j1) (gCons (gName j2) gNil))) tYes te vs) σ H bs := by
  have z := el_lcP (K := K) (te := te) (t := tYes) (fun _ => true) (fun i => bs.getD i .non) h hz hw (fun _ _ _ _ _ _ _ => et_yes) (fun i x y H1 e hx hy _ => he i x y _ H1 e hx hy (by
    have hi : i < bs.length := by rw [hb]; exact (List.getElem?_eq_some_iff.mp hx).1
    rw [List.getElem?_eq_getElem hi, List.getD_eq_getElem?_getD, List.getElem?_eq_getElem hi] <;> rfl))
  rw [given_all hb] at z
  exact z
end
end EE
namespace EE
open PySem L2 Evl
section
variable {K : PySem.W.Frag} {σ : L2.St} {H : Hp} {te : TE}
theorem eu_sl {tl th : TO} {a : Addr} {xs : List V} {lo hi : Option Int} (h : Ev te σ H (.ref a)) (h1 : EvO tl σ H lo) (h2 : EvO th σ H hi) (hs : SqT K H a xs) (hc : ¬ (HT.sIx xs.length 0 lo = 0 ∧ HT.sIx xs.length xs.length hi = xs.length)) : EvU (tSl (rSlT K) te tl th) σ H (cutV xs lo hi) := fun H1 e Q q =>
  h H1 e _ fun H2 e2 => h1 H2 (e.trans e2) _ fun H3 e3 => h2 H3 ((e.trans e2).trans e3) _ fun H4 e4 => ⟨a, xs, rfl, ex_t (((e.trans e2).trans e3).trans e4) hs, hc, fun p hp => q p _ (fresh_back ((e2.trans e3).trans e4) hp) (((e2.trans e3).trans e4).trans (Ex.new hp)) upd_same⟩
end
end EE
set_option Elab.async false
set_option linter.all false
set_option maxRecDepth 100000
set_option maxHeartbeats 4000000
namespace EE
open PySem L2 Evl
open C8 (Cal cal0 pe_c pe_gc fnScope_by)
section
variable {X : Cx} {o e : Expr} {td ty : TE} {apos cpos : Pos}
/-- d.get(k), d a dict that the top has written -/
def KLook (K : PySem.W.Frag) (d : Addr) (z : Str) (v : V) : Prop := (∃ u, PySem.W.nsIn K d z = some (some u) ∧ RelV v u) ∨ (PySem.W.nsIn K d z = some none ∧ v = .non)
def tKGet (K : PySem.W.Frag) (w : World) (td ty : TE) : TE := fun σ H Q => td σ H fun x H1 => ∃ d, x = .ref d ∧ KD K w d ∧ ty σ H1 fun y H2 => ∃ z v, y = .str z ∧ KLook K d z v ∧ Q v H2
theorem pe_kget (ho : PE X o td) (he : PE X e ty) (m : M1 X o "get" apos e cpos) : PE X (.Call (.Attribute o "get" apos) [e] [] cpos) (tKGet X.K X.w td ty) := by
  refine ⟨fun pins s σ H Q I h => wpAny_Call_method m.base m.few m.line PySem.F.plainAttrs_dict PySem.F.slot_dict_get PySem.F.type_dict_get (thn (ho.run pins s σ H _ I h) fun u s1 ⟨x, H1, I1, rx, d, ex, D, q1⟩ => ?_)⟩
  subst ex
  obtain rfl : u = Value.ref d := rx
  obtain ⟨es, n, hl, hk, low⟩ := D
  have hm := PySem.W.mapOf_K (prog := X.prog) (w := X.w) I1.kIn hl hk
  refine ⟨hm.typeIs, hm.noDict, ?_⟩
  rw [m.trees]
  refine Calls.callWith_builtin rfl (Calls.evalArgs_plain (Calls.spliced_cons (thn (he.run pins s1 σ H1 _ I1 q1) fun iv s2 ⟨y, H2, I2, ry, z, v, ey, hv, q2⟩ => Calls.spliced_nil ?_)))
  subst ey
  obtain ⟨t, rfl⟩ := ry
  have hm2 := PySem.W.mapOf_K (prog := X.prog) (w := X.w) I2.kIn hl hk
  have fin : ∀ u0 : Option Value, PySem.W.nsIn X.K d z = some u0 → RelV v (u0.getD .none) → wpAny (model X.prog X.w) X.A (call (.builtin "dict.get") [.ref d, .str z t]) (EP X pins σ Q) X.xe s2 := fun u0 h0 hr =>
    call_meetsIn PySem.F.slot_dict_get hm2.typeIs PySem.F.entry_dict_get (PySem.F.args_dict_get_2 _ _) (meets_dict_get (PySem.strKind X.prog X.w) d (PySem.strKind_is X.prog X.w z t) low) ⟨_, hm2, v, H2, I2.tok _, by rw [PySem.W.find_K hl h0]; exact hr, q2⟩
  rcases hv with ⟨u0, h0, hr⟩ | ⟨h0, rfl⟩
  · exact fin (some u0) h0 hr
  · exact fin none h0 rfl
end
section
variable {K : PySem.W.Frag} {w : World} {σ : L2.St} {H H' : Hp} {ta tb te td ty : TE} {t u : TT} {x y z v : V}
theorem rv_kix {d : Addr} {s : Str} {u : Value} (D : KD K w d) (h : PySem.W.nsIn K d s = some (some u)) (r : RelV v u) : RV (rIxD K w) (.ref d) (.str s) H v := fun H1 e Q q => by
  obtain ⟨es, n, h1, h2, _⟩ := D
  exact ⟨d, s, v, rfl, rfl, ⟨es, n, u, h1, h2, h, r⟩, q H1 (Ex.refl H1)⟩
theorem ev_callLoc {i : Nat} {f : Addr} {sp : Sp} {vs : List V} {E : XK} {ta : TA} (hi : σ[i]? = some (some (.ref f))) (h : EvA ta σ H vs) (hs : SpV sp (vs ++ []) H z) : Ev (tCallL i f sp [] E ta) σ H z := fun H1 e Q q =>
  ⟨hi, h H1 e _ fun H2 e2 => hs H2 (e.trans e2) Q (fun H3 e3 => q H3 (e2.trans e3)) E⟩
theorem ev_kget {d : Addr} {s : Str} (hd : Ev td σ H (.ref d)) (D : KD K w d) (hy : Ev ty σ H (.str s)) (hv : KLook K d s v) : Ev (tKGet K w td ty) σ H v := fun H1 e Q q =>
  hd H1 e _ fun H2 e2 => ⟨d, rfl, D, hy H2 (e.trans e2) _ fun H3 e3 => ⟨s, v, rfl, hv, q H3 (e2.trans e3)⟩⟩
end
section
variable {P : Program} {w : World} {K : PySem.W.Frag} {mg : Str → Option Value} {base : Heap}
/-! shape_of: of the word return alone -/
def sp_shape_of (K : PySem.W.Frag) (r : Addr) : Sp := PuV fun vs H z => vs = [.str "return"] ∧ z = .ref r
theorem sc_shape_of : FnScope N_shape_of P_shape_of (C8.fnScope s_shape_of) := fnScope_by (by decide +kernel)
theorem ok_shape_of (T : Txt w K mg) : ∃ r, (∀ H, SqT K H r [.str "expression"]) ∧ Cal P w K mg base 1 "shape_of" (sp_shape_of K r) [] := by
  obtain ⟨a, r, h1, h2, h3, h4⟩ := T.c_SHAPES
  refine ⟨r, h4, ?_⟩
  refine mk_cal T.d_shape_of sc_shape_of (fun vs H Q E h => ?_) (fun f cdv A outer s H vs Q E hr h => ?_)
  · obtain ⟨z, ⟨rfl, _⟩, _⟩ := h
    rfl
  · obtain ⟨z, ⟨rfl, rfl⟩, k⟩ := h
    refine ⟨_, pss_one (ps_ret (pe_kget (pe_gc (v := .ref a) (by rfl) ⟨_, h1, rfl⟩) (pv 0) ⟨rfl, rfl, rfl, rfl⟩)), ?_⟩
    exact s_ret (v := .ref r) (ev_kget ev_c h2 (ev_var rfl) (.inl ⟨_, h3, rfl⟩)) fun H1 e => k H1 e
/-! is_expression: of a name -/
def sp_is_expression (K : PySem.W.Frag) : Sp := PuV fun vs H z => ∃ k x, vs = [k, .str x] ∧ OkNm x ∧ z = .bl true
theorem sc_is_expression : FnScope N_is_expression P_is_expression (C8.fnScope s_is_expression) := fnScope_by (by decide +kernel)
theorem v_nm {H : Hp} {x : Str} (h : OkNm x) : SpV (sp_is_name K) [.str x] H (.bl true) := v_is_name (.inl ⟨x, rfl, h.2, h.1.symm⟩)
theorem ok_is_expression (T : Txt w K mg) : Cal P w K mg base 2 "is_expression" (sp_is_expression K) [] := by
  refine mk_cal T.d_is_expression sc_is_expression (fun vs H Q E h => ?_) (fun f cdv A outer s H vs Q E hr h => ?_)
  · obtain ⟨z, ⟨_, _, rfl, _⟩, _⟩ := h
    rfl
  · obtain ⟨z, ⟨kn, x, rfl, hx, rfl⟩, k⟩ := h
    refine ⟨_, pss_cons (ps_if (pt_val (pe_callB call_isi (by rfl) T.isi (by decide +kernel) (pa_cons (pv 1) (pa_cons (pe_bltn (v := .ty "tuple") (by rfl) T.tupT (u := .type "tuple") (by decide +kernel) (by rfl)) pa_nil)))) (pss_one ps_never) pss_nil)
      (pss_one (ps_ret (pe_c (ok_is_name T) hr (by decide) (by rfl) (pa_cons (pv 1) pa_nil)))), ?_⟩
    refine q_no (et_B (ev_cb (ea_cons (ev_var rfl) (ea_cons ev_c ea_nil)) (rc_isi (.ty "tuple") (.base (.str x)) (kit_ty (by decide +kernel))))) fun H1 e1 => ?_
    exact s_ret (v := .bl true) (ev_call (ea_cons (ev_var rfl) ea_nil) (v_nm hx)) fun H2 e2 => k H2 (e1.trans e2)
/-! is_part -/
def sp_is_part (K : PySem.W.Frag) : Sp := PuV fun vs H z => ∃ kn dp x, vs = [kn, dp, .str "expression", .str x] ∧ OkNm x ∧ z = .bl true
theorem sc_is_part : FnScope N_is_part P_is_part (C8.fnScope s_is_part) := fnScope_by (by decide +kernel)
theorem ok_is_part (T : Txt w K mg) : Cal P w K mg base 3 "is_part" (sp_is_part K) [] := by
  obtain ⟨b, hb1, hb2⟩ := T.c_BLOCKS
  obtain ⟨ck, f0, hc1, hc2, hc3, hc4⟩ := T.c_CHECKS
  obtain ⟨fe, fd, ps, ds, Fe, me, kpe, be, dve⟩ := (ok_is_expression (P := P) (base := base) T).ex
  rw [hc3] at me
  cases me
  refine mk_cal T.d_is_part sc_is_part (fun vs H Q E h => ?_) (fun f cdv A outer s H vs Q E hr h => ?_)
  · obtain ⟨z, ⟨_, _, _, rfl, _⟩, _⟩ := h
    rfl
  · obtain ⟨z, ⟨kn, dp, x, rfl, hx, rfl⟩, k⟩ := h
    refine ⟨_, pss_cons (ps_if (pt_cmpR op_in_seq (pv 2) (pe_gc (v := .ref b) (by rfl) ⟨_, hb1, rfl⟩) (by rfl)) (pss_one ps_never) pss_nil)
      (pss_cons (ps_set (i := 4) sc_is_part.nd rfl (Or.inl rfl) (pe_ix ix_kdict (pe_gc (v := .ref ck) (by rfl) ⟨_, hc1, rfl⟩) (pv 2) (fun _ _ => rfl)))
      (pss_one (ps_ret (pe_callL (i := 4) (E := L2.E0) Fe (hr.mono (by decide)) rfl (Or.inl rfl) kpe be dve pass0 (pa_cons (pv 0) (pa_cons (pv 3) pa_nil)))))), ?_⟩
    refine q_no (et_test (ev_is (ev_op (ev_var rfl) ev_c (rv_isT (hb2 _) rfl rfl)) (by decide))) fun H1 e1 => ?_
    refine q_asg (v := .ref f0) (ev_op ev_c (ev_var rfl) (rv_kix hc2 hc4 rfl)) fun H2 e2 => ?_
    exact s_ret (v := .bl true) (ev_callLoc rfl (ea_cons (ev_var rfl) (ea_cons (ev_var rfl) ea_nil)) (spv fun H3 _ => ⟨_, _, rfl, hx, rfl⟩)) fun H3 e3 => k H3 ((e1.trans e2).trans e3)
/-! is_statement: a return -/
def sp_is_statement (K : PySem.W.Frag) : Sp := PuV fun vs H z => ∃ kn dp s x, vs = [kn, dp, .ref s] ∧ SqT K H s [.str "return", .str x] ∧ OkNm x ∧ z = .bl true
theorem sc_is_statement : FnScope N_is_statement P_is_statement (C8.fnScope s_is_statement) := fnScope_by (by decide +kernel)
theorem ok_return : OkNm "return" := ⟨by decide +kernel, by decide +kernel⟩
theorem ok_is_statement (T : Txt w K mg) : Cal P w K mg base 4 "is_statement" (sp_is_statement K) [] := by
  obtain ⟨r, hr1, okS⟩ := ok_shape_of (P := P) (base := base) T
  refine mk_cal T.d_is_statement sc_is_statement (fun vs H Q E h => ?_) (fun f cdv A outer s H vs Q E hr h => ?_)
  · obtain ⟨z, ⟨_, _, _, _, rfl, _⟩, _⟩ := h
    rfl
  · obtain ⟨z, ⟨kn, dp, s0, x, rfl, g1, hx, rfl⟩, k⟩ := h
    have nd := sc_is_statement.nd
    refine ⟨_, pss_cons (ps_if (PW.pt (pw_or (pt_not (pt_val (pe_callB call_isi (by rfl) T.isi (by decide +kernel) (pa_cons (pv 2) (pa_cons (pe_bltn (v := .ty "tuple") (by rfl) T.tupT (u := .type "tuple") (by decide +kernel) (by rfl)) pa_nil)))))
        (pw_or (pt_not (pt_truth (pv 2) (by intro _; rfl))) (pw_or1 (pt_not (pt_val (pe_c (ok_is_name T) hr (by decide) (by rfl) (pa_cons (pe_ix ix_tup (pv 2) pe_int (fun _ _ => rfl)) pa_nil)))))))) (pss_one ps_never) pss_nil)
      (pss_cons (ps_set (i := 3) nd rfl (Or.inl rfl) (pe_c okS hr (by decide) (by rfl) (pa_cons (pe_ix ix_tup (pv 2) pe_int (fun _ _ => rfl)) pa_nil)))
      (pss_cons (ps_if (PW.pt (pw_or (pt_cmpR op_isN (pv 3) pe_non (nomark _)) (pw_or1 (pt_cmpR op_ne (pe_callB call_len_seq (by rfl) T.len (by decide +kernel) (pa_cons (pv 2) pa_nil)) (pe_op op_add (pe_callB call_len_seq (by rfl) T.len (by decide +kernel) (pa_cons (pv 3) pa_nil)) pe_int) (nomark _))))) (pss_one ps_never) pss_nil)
      (pss_one (ps_ret (pe_callB (cr_all rfl) (by rfl) T.all (by decide +kernel) (pa_cons (pe_lc (own := [("kind", 4), ("part", 5)]) (g := gTup K 2 (gCons (gName 4) (gCons (gName 5) gNil))) (tt := tYes) rfl nd
        (RZ.pi_zipA (by rfl) T.zipT (pa_cons (pv 3) (pa_cons (pe_slice sl_tup (pv 2) (po_some pe_int) po_none) pa_nil))) (blkOk_by (N := N_is_statement) (sc := C8.fnScope s_is_statement) (by decide +kernel))
        (fun _ _ _ _ _ => pg_tup (by rfl) (pgs_cons (pg_name (i := 4) nd rfl (Or.inl rfl)) (pgs_cons (pg_name (i := 5) nd rfl (Or.inl rfl)) pgs_nil))) (fun _ _ _ _ _ => pts_nil) (fun _ _ _ _ _ => pe_c (ok_is_part T) hr (by decide) (by rfl) (pa_cons (pv 0) (pa_cons (pv 1) (pa_cons (pv 4) (pa_cons (pv 5) pa_nil)))))) pa_nil)))))), ?_⟩
    refine q_no (et_orF (et_notT (et_B (ev_cb (ea_cons (ev_var rfl) (ea_cons ev_c ea_nil)) (rc_isi (.ty "tuple") (tyx_sqT g1) (kit_ty (by decide +kernel)))))) (et_orF (et_notT (et_truT (ev_var rfl) g1))
      (et_notT (et_B (ev_call (ea_cons (ev_op (ev_var rfl) ev_c (rv_ixT g1 (at_of (j := 0) rfl rfl))) ea_nil) (v_nm ok_return)))))) fun H1 e1 => ?_
    refine q_asg (v := .ref r) (ev_call (ea_cons (ev_op (ev_var rfl) ev_c (rv_ixT (ex_t e1 g1) (at_of (j := 0) rfl rfl))) ea_nil) (spv fun _ _ => ⟨rfl, rfl⟩)) fun H2 e2 => ?_
    refine q_no (et_orF (et_test (ev_is (ev_op (ev_var (v := .ref r) rfl) ev_c rv_isN) rfl)) (et_test (ev_is (ev_op (ev_cb (ea_cons (ev_var rfl) ea_nil) (rc_lenS (.inr (ex_t (e1.trans e2) g1)))) (ev_op (ev_cb (ea_cons (ev_var (v := .ref r) rfl) ea_nil) (rc_lenS (.inr (hr1 _)))) ev_c rv_I0) (rv_ne rfl)) rfl))) fun H3 e3 => ?_
    refine s_ret (v := .bl true) ?_ fun H4 e4 => k H4 (((e1.trans e2).trans e3).trans e4)
    exact ev_cbL (el_lcPA (xs := [.str "expression"]) (ys := [.str x]) [V.bl true] rfl (eip_zipU (a := r) (ev_var rfl) (hr1 _) (eu_sl (lo := some 1) (hi := none) (ev_var rfl) (eo_some ev_c) eo_none (ex_t ((e1.trans e2).trans e3) g1) (fun z => by revert z; exact of_decide_eq_false rfl)) rfl) (by decide) (fun _ _ => rfl) fun i x1 y1 b1 H5 e5 h1 h2 h3 => by
      match i, h1, h2, h3 with
      | 0, h1, h2, h3 =>
        cases h1; cases h2; cases h3
        exact ev_call (ea_cons (ev_var rfl) (ea_cons (ev_var rfl) (ea_cons (ev_var rfl) (ea_cons (ev_var rfl) ea_nil)))) (spv fun H6 _ => ⟨_, _, _, rfl, hx, rfl⟩)) fun p H5 _ hp => rc_all (bs := [true]) (sq_of hp)
end
end EE
set_option Elab.async false
set_option linter.all false
set_option maxRecDepth 100000
set_option maxHeartbeats 4000000
namespace EE
open PySem L2 Evl
open C8 (Cal cal0 pe_c pe_gc fnScope_by)
section
variable {K : PySem.W.Frag} {σ : L2.St} {H H' : Hp} {ta tb tc te : TE} {t u : TT} {x y z v : V}
def rSortD : List V → Hp → VK → Prop := fun xs H Q => ∃ (a : Addr) (kvs : List (Key × V)) (ks : List Str), xs = [.ref a] ∧ Rd H a (.dK kvs) ∧ kvs.map (·.1) = ks.map Sum.inr ∧ ks.length < 64 ∧
    ∀ (ys : List Str) p, ys.Perm ks → PyProof.Rows.sortedS ys = true → H p = none → Q (.ref p) (upd H p (.lst (ys.map V.str)))
theorem cr_sortD {X : Cx} (hc : X.calm = true) : CallR X (.builtin "sorted") rSortD := call_sortedD hc
/-- for x in sorted(d): a body that makes new things alone -/
theorem s_forSort {a : Addr} {kvs : List (Key × V)} {ks : List Str} {D : Ends} {tu : TS} {j : Nat} (h : Ev te σ H (.ref a)) (ha : Rd H a (.dK kvs)) (hk : kvs.map (·.1) = ks.map Sum.inr) (hz : ks.length < 64) (S : L2.St → Prop) (h0 : S σ)
    (hs : ∀ z ∈ ks, ∀ σ' H1, Ex H H1 → S σ' → ∀ E : Ends, (∀ σ2 H2, S σ2 → Ex H1 H2 → E.nx σ2 H2) → tu E (σ'.set j (some (.str z))) H1) (k : ∀ σ' H1, S σ' → Ex H H1 → D.nx σ' H1) : tFor (iList K (tCB rSortD (tCons te tNil))) (gName j) tu D σ H :=
  h H (Ex.refl H) _ fun H1 e => ⟨a, kvs, ks, rfl, ex_rd e ha, hk, hz, fun ys p hp _ hn => ⟨p, rfl, ⟨_, sq_of upd_same⟩,
    for_list (xs := ys.map V.str) (fun _ σ' H' => S σ' ∧ Ex (upd H1 p (.lst (ys.map V.str))) H') ⟨h0, Ex.refl _⟩ (fun i σ' H' _ p' => sq_of (p'.2 _ _ upd_same)) (fun i x σ' H' hx p' => by
      obtain ⟨z, hz, rfl⟩ := List.mem_map.mp (List.mem_of_getElem? hx)
      have e' : Ex H H' := (e.trans (Ex.new hn)).trans p'.2
      exact hs z (hp.mem_iff.mp hz) σ' H' e' p'.1 _ fun σ2 H2 q1 q2 => ⟨q1, p'.2.trans q2⟩) (fun σ' H' p' => k σ' H' p'.1 ((e.trans (Ex.new hn)).trans p'.2))⟩⟩
theorem q_forSort {a : Addr} {kvs : List (Key × V)} {ks : List Str} {D : Ends} {tu tz : TS} {j : Nat} (h : Ev te σ H (.ref a)) (ha : Rd H a (.dK kvs)) (hk : kvs.map (·.1) = ks.map Sum.inr) (hz : ks.length < 64) (S : L2.St → Prop) (h0 : S σ)
    (hs : ∀ z ∈ ks, ∀ σ' H1, Ex H H1 → S σ' → ∀ E : Ends, (∀ σ2 H2, S σ2 → Ex H1 H2 → E.nx σ2 H2) → tu E (σ'.set j (some (.str z))) H1) (k : ∀ σ' H1, S σ' → Ex H H1 → tz D σ' H1) : tSeq (tFor (iList K (tCB rSortD (tCons te tNil))) (gName j) tu) tz D σ H :=
  s_forSort (D := { D with nx := tz D }) h ha hk hz S h0 hs k
end
section
variable {P : Program} {w : World} {K : PySem.W.Frag} {mg : Str → Option Value} {base : Heap}
def OkBlk (b : Blk) : Prop := ∀ x, b = .ret x → OkNm x
def sp_is_block (K : PySem.W.Frag) : Sp := PuV fun vs H z => ∃ kn b blk, vs = [kn, .int 1, .ref b] ∧ RepB K H b blk ∧ OkBlk blk ∧ z = .bl true
theorem sc_is_block : FnScope N_is_block P_is_block (C8.fnScope s_is_block) := fnScope_by (by decide +kernel)
theorem RepB.tup {H : Hp} {b : Addr} {blk : Blk} (h : RepB K H b blk) : ∃ xs, SqT K H b xs ∧ xs.length ≤ 1 := by
  cases blk with
  | nil => exact ⟨[], h, by decide⟩
  | ret x => obtain ⟨s, h1, _⟩ := h; exact ⟨_, h1, Nat.le_refl 1⟩
theorem ok_is_block (T : Txt w K mg) : Cal P w K mg base 5 "is_block" (sp_is_block K) [] := by
  refine mk_cal T.d_is_block sc_is_block (fun vs H Q E h => ?_) (fun f cdv A outer s H vs Q E hr h => ?_)
  · obtain ⟨z, ⟨_, _, _, rfl, _⟩, _⟩ := h
    rfl
  · obtain ⟨z, ⟨kn, b, blk, rfl, g1, hx, rfl⟩, k⟩ := h
    have nd := sc_is_block.nd
    refine ⟨_, pss_cons (ps_if (PW.pt (pw_or (pt_cmpR op_gt (pv 1) (pe_gc (by rfl) T.c_MOST_DEEP) (nomark _)) (pw_or (pt_not (pt_val (pe_callB call_isi (by rfl) T.isi (by decide +kernel) (pa_cons (pv 2) (pa_cons (pe_bltn (v := .ty "tuple") (by rfl) T.tupT (u := .type "tuple") (by decide +kernel) (by rfl)) pa_nil)))))
        (pw_or1 (pt_cmpR op_gt (pe_callB call_len_seq (by rfl) T.len (by decide +kernel) (pa_cons (pv 2) pa_nil)) (pe_gc (by rfl) T.c_MOST_STATEMENTS) (nomark _)))))) (pss_one ps_never) pss_nil)
      (pss_one (ps_ret (pe_callB (cr_all rfl) (by rfl) T.all (by decide +kernel) (pa_cons (pe_lc (own := [("statement", 3)]) (g := gName 3) (tt := tYes) rfl nd (pi_tup (pv 2)) (blkOk_by (N := N_is_block) (sc := C8.fnScope s_is_block) (by decide +kernel))
        (fun _ _ _ _ _ => pg_name (i := 3) nd rfl (Or.inl rfl)) (fun _ _ _ _ _ => pts_nil) (fun _ _ _ _ _ => pe_c (ok_is_statement T) hr (by decide) (by rfl) (pa_cons (pv 0) (pa_cons (pv 1) (pa_cons (pv 3) pa_nil))))) pa_nil)))), ?_⟩
    obtain ⟨xs, hxs, hl⟩ := g1.tup
    refine q_no (et_orF (et_test (ev_is (ev_op (ev_var (v := .int 1) rfl) (ev_c (v := .int 6)) rv_I0) (by decide))) (et_orF (et_notT (et_B (ev_cb (ea_cons (ev_var rfl) (ea_cons ev_c ea_nil)) (rc_isi (.ty "tuple") (tyx_sqT hxs) (kit_ty (by decide +kernel))))))
      (et_test (ev_is (ev_op (ev_cb (ea_cons (ev_var rfl) ea_nil) (rc_lenS (.inr hxs))) (ev_c (v := .int 12)) rv_I0) (by congr 1; simp; omega))))) fun H1 e1 => ?_
    refine s_ret (v := .bl true) ?_ fun H4 e4 => k H4 (e1.trans e4)
    cases blk with
    | nil =>
      exact ev_cbL (el_lcA [] rfl (ei_tup (xs := []) (ev_var rfl) (ex_t e1 g1)) (by decide) (fun _ => rfl) fun i x1 b1 H5 e5 h1 h2 => by cases h1) fun p H5 _ hp => rc_all (bs := []) (sq_of hp)
    | ret x =>
      obtain ⟨s0, g1, g2⟩ := g1
      refine ev_cbL (el_lcA (xs := [.ref s0]) [V.bl true] rfl (ei_tup (xs := [.ref s0]) (ev_var rfl) (ex_t e1 g1)) (show 1 ≤ 40000 by decide) (fun _ => rfl) fun i x1 b1 H5 e5 h1 h2 => ?_) fun p H5 _ hp => rc_all (bs := [true]) (sq_of hp)
      match i, h1, h2 with
      | 0, h1, h2 =>
        cases h1; cases h2
        exact ev_call (ea_cons (ev_var rfl) (ea_cons (ev_var rfl) (ea_cons (ev_var rfl) ea_nil))) (spv fun H6 e6 => ⟨_, _, _, _, rfl, ex_t ((e1.trans e5).trans e6) g2, hx x rfl, rfl⟩)
/-! first_wrong_part: of no shared names and right classes and functions -/
def sp_first_wrong (K : PySem.W.Frag) : Sp := PuV fun vs H z => ∃ sh a b cs fs, vs = [.ref sh, .ref a, .ref b] ∧ z = .non ∧ H sh = some (.dK []) ∧ RepD K H a cs ∧ Right cs ∧ RepFD K H b fs ∧ RightFs fs ∧ MethOk cs fs ∧ a ≠ b
theorem sc_first_wrong_part : FnScope N_first_wrong_part P_first_wrong_part (C8.fnScope s_first_wrong_part) := fnScope_by (by decide +kernel)
theorem pairF_keys {H : Hp} : ∀ {fs : List (Str × Fn)} {kvs : List (Key × V)}, Paired (RepF K H) fs kvs → kvs.map (·.1) = (fs.map (·.1)).map Sum.inr
  | [], [], .nil => rfl
  | c :: cs, p :: kvs, .cons h t => by
    rw [List.map_cons, List.map_cons, List.map_cons, pairF_keys t, h.1]
theorem ok_first_wrong (T : Txt w K mg) : Cal P w K mg base 7 "first_wrong_part" (sp_first_wrong K) [] := by
  refine mk_cal T.d_first_wrong_part sc_first_wrong_part (fun vs H Q E h => ?_) (fun f cdv A outer s H vs Q E hr h => ?_)
  · obtain ⟨z, ⟨_, _, _, _, _, rfl, _⟩, _⟩ := h
    rfl
  · obtain ⟨z, ⟨sh, a, b, cs, fs, rfl, rfl, hsh, hc, hcr, hf, hfr, hm, hne⟩, k⟩ := h
    have nd := sc_first_wrong_part.nd
    have hu := hu_of hr
    refine ⟨_, pss_cons (ps_if (PW.pt (pw_or (pt_not (pt_val (pe_c (ok_is_dict_of_names T) hr (by decide) (by rfl) (pa_cons (pv 0) pa_nil)))) (pw_or1 (pt_cmpR op_gt (pe_callB call_lenD (by rfl) T.len (by decide +kernel) (pa_cons (pv 0) pa_nil)) (pe_gc (by rfl) T.c_MOST_SHARED) (nomark _))))) (pss_one ps_never) pss_nil)
      (pss_cons (ps_if (pt_not (pt_val (pe_c (ok_are_classes T) hr (by decide) (by rfl) (pa_cons (pv 1) pa_nil)))) (pss_one ps_never) pss_nil)
      (pss_cons (ps_if (pt_not (pt_val (pe_c (ok_are_functions T) hr (by decide) (by rfl) (pa_cons (pv 2) pa_nil)))) (pss_one ps_never) pss_nil)
      (pss_cons (ps_if (pt_not (pt_val (pe_c (ok_are_methods_of T) hr (by decide) (by rfl) (pa_cons (pv 1) (pa_cons (pv 2) pa_nil))))) (pss_one ps_never) pss_nil)
      (pss_cons (ps_set (i := 3) nd rfl (Or.inl rfl) (pe_tup (pa_cons (pv 0) (pa_cons (pv 1) (pa_cons (pv 2) pa_nil)))))
      (pss_cons (ps_for PassesOwn.never rfl (pi_list (pe_callB (cr_sortD rfl) (by rfl) T.sortedT (by decide +kernel) (pa_cons (pv 2) pa_nil))) (pg_name (i := 4) nd rfl (Or.inl rfl))
        (pss_one (ps_if (pt_not (pt_val (pe_c (ok_is_block T) hr (by decide) (by rfl) (pa_cons (pv 3) (pa_cons pe_int (pa_cons (pe_ix ix_tup (pe_dget hu (pv 2) (pv 4) (fun _ _ => rfl)) pe_int (fun _ _ => rfl)) pa_nil)))))) (pss_one ps_never) pss_nil)))
      (pss_one (ps_ret pe_non))))))), ?_⟩
    have dn : SpV (sp_is_dict_of_names K) [.ref sh] H (.bl true) := v_is_dict_of_names (o := some []) (ks := []) (bs := []) ⟨.inl ⟨sh, [], rfl, hsh, rfl⟩, fun kvs hk => by cases hk; exact ⟨.nil, .nil, by decide⟩⟩
    refine q_no (et_orF (et_notT (et_B (ev_call (ea_cons (ev_var rfl) ea_nil) dn))) (et_test (ev_is (ev_op (ev_cb (ea_cons (ev_var rfl) ea_nil) (rc_lenD hsh)) (ev_c (v := .int 4)) rv_I0) (by decide)))) fun H1 e1 => ?_
    refine q_no (et_notT (et_B (ev_call (ea_cons (ev_var rfl) ea_nil) (v_are_classes (hc.ex e1) hcr)))) fun H2 e2 => ?_
    refine q_no (et_notT (et_B (ev_call (ea_cons (ev_var rfl) ea_nil) (v_are_functions (hf.ex (e1.trans e2)) hfr)))) fun H3 e3 => ?_
    have e123 := (e1.trans e2).trans e3
    refine q_no (et_notT (et_B (ev_call (ea_cons (ev_var rfl) (ea_cons (ev_var rfl) ea_nil)) (v_are_methods_of (hc.ex e123) (hf.ex e123) hm hne)))) fun H4 e4 => ?_
    refine q_asgU (eu_tup (ea_cons (ev_var rfl) (ea_cons (ev_var rfl) (ea_cons (ev_var rfl) ea_nil))) (show 3 ≤ 100000 by decide)) fun pk H5 _ e5 h5 => ?_
    have e5' := (e123.trans e4).trans e5
    obtain ⟨kvs, f1, f2⟩ := hf
    refine q_forSort (ks := fs.map (·.1)) (ev_var rfl) (.inl (e5' _ _ f1)) (pairF_keys f2) (by rw [List.length_map]; have := hfr.len.2; omega) (fun σ' => ∃ v4, σ' = [some (.ref sh), some (.ref a), some (.ref b), some (.ref pk), v4]) ⟨_, rfl⟩ ?_ ?_
    · rintro n hn σ' H6 e6 ⟨v4, rfl⟩ D hD
      have f2' := pairA_mono (fun _ _ => RepF.le (Le.of (e5'.trans e6))) f2
      rcases pairA_look keyF n f2' with ⟨q, _⟩ | ⟨fn, v, q1, q2, q3⟩
      · have := lookA_some hn
        rw [q] at this
        cases this
      · obtain ⟨_, t2, pt, bt, rfl, r1, r2, r3⟩ := q3
        refine s_when (b := false) (et_notT (et_B (ev_call (ea_cons (ev_var rfl) (ea_cons ev_c (ea_cons (ev_op (ev_dget (k := Sum.inr n) (ev_var rfl) (ev_var rfl) (.inl ((e5'.trans e6) _ _ f1)) q2) ev_c (rv_ixT r1 (at_of (j := 2) rfl rfl))) ea_nil))) (spv fun H7 e7 => ⟨_, _, _, rfl, r3.le (Le.of e7), (hfr.fn _ (lookA_in q1)).blk, rfl⟩)))) (fun z => nomatch z) fun _ H7 e7 => hD _ _ ⟨_, rfl⟩ e7
    · rintro σ' H6 ⟨v4, rfl⟩ e6
      exact s_ret (v := .non) ev_c fun H7 e7 => k H7 ((e5'.trans e6).trans e7)
end
end EE
set_option Elab.async false
set_option linter.all false
set_option maxRecDepth 100000
set_option maxHeartbeats 4000000
namespace EE
open PySem L2 Evl
open C8 (Cal cal0 pe_c pe_gc fnScope_by)
def tNo : TE := fun _ _ _ => False
theorem pe_no {X : Cx} {e : Expr} : PE X e tNo := ⟨fun _ _ _ _ _ _ h => h.elim⟩
section
variable {K : PySem.W.Frag} {σ : L2.St} {H H' : Hp} {ta tb tc te : TE} {t u : TT} {x y z v : V}
/-- parts_of, of a statement return -/
def sp_parts_of (K : PySem.W.Frag) : Sp := fun vs H Q _ => ∃ s x, vs = [.ref s] ∧ SqT K H s [.str "return", .str x] ∧ ∀ l t H2, H l = none → H t = none → Ex H H2 → H2 l = some (.lst [.ref t]) → H2 t = some (.tup [.str "expression", .str x]) → Q (.ref l) H2
theorem el_parts {s : Addr} {x : Str} {E : XK} {j1 j2 : Nat} {vs : List Nat} (h : Ev ta σ H (.ref s)) (hs : SqT K H s [.str "return", .str x]) (hw : ∀ x y, wipe (((wipe σ vs).set j1 (some x)).set j2 (some y)) vs = wipe σ vs)
    (ht : ∀ H1, Ex H H1 → EvT t (((wipe σ vs).set j1 (some (.str "expression"))).set j2 (some (.str x))) H1 false) : EvL (tLc (iList K (tCall (sp_parts_of K) [] E (tCons ta tNil))) (gTup K 2 (gCons (gName j1) (gCons (gName j2) gNil))) t te vs) σ H [] := fun H0 e Q q =>
  h H0 e _ fun H1 e1 => ⟨s, x, rfl, ex_t (e.trans e1) hs, fun l p H2 hl hp e2 h2 h3 => ⟨l, rfl, ⟨_, sq_of h2⟩, fun Dl hD =>
    lc_it (walk_list (K := K) (a := l) (xs := [.ref p])) (Cw H2 (fun _ => false) (fun _ => V.non) Dl) ⟨hD, Ex.new hD, upd_same⟩ (fun i H' _ p' => sq_of (p'.2.1 _ _ h2)) (fun i y H' H'' hi p' yy => by
      obtain ⟨rfl, hy⟩ := yy
      match i, hy with
      | 0, hy =>
        cases hy
        exact ⟨p, _, rfl, st_of (p'.2.1 _ _ h3), rfl, _, _, rfl, _, _, rfl, rfl, hw _ _, cw_turn p' (by omega) (ht H2 ((e.trans e1).trans e2)) (fun z => nomatch z)⟩)
      (fun H' p' => q Dl H' (fresh_back (e1.trans e2) p'.1) ((e1.trans e2).trans p'.2.1) p'.2.2)⟩⟩
theorem q_forParts {s : Addr} {x : Str} {E : XK} {j1 j2 : Nat} {D : Ends} {tu tz : TS} (h : Ev ta σ H (.ref s)) (hs : SqT K H s [.str "return", .str x])
    (k : ∀ (l : Addr) H1, H l = none → Ex H H1 → H1 l = some (.lst [.ref l]) ∨ True → ∀ (t : Addr), H1 l = some (.lst [.ref t]) → ∀ E : Ends, (∀ σ' H', H' l = some (.lst [.ref t]) → tz D σ' H' → E.nx σ' H') → tu E ((σ.set j1 (some (.str "expression"))).set j2 (some (.str x))) H1) :
    tSeq (tFor (iList K (tCall (sp_parts_of K) [] E (tCons ta tNil))) (gTup K 2 (gCons (gName j1) (gCons (gName j2) gNil))) tu) tz D σ H :=
  h H (Ex.refl H) _ fun H1 e1 => ⟨s, x, rfl, ex_t e1 hs, fun l p H2 hl hp e2 h2 h3 => ⟨l, rfl, ⟨_, sq_of h2⟩,
    for_list (D := { D with nx := tz D }) (xs := [.ref p]) (fun i σ' H' => H' l = some (.lst [.ref p]) ∧ ((i = 0 ∧ σ' = σ ∧ H' = H2) ∨ (i = 1 ∧ tz D σ' H'))) ⟨h2, .inl ⟨rfl, rfl, rfl⟩⟩ (fun i σ' H' _ p' => sq_of p'.1) (fun i y σ' H' hy p' => by
      match i, hy, p' with
      | 0, hy, p' =>
        cases hy
        obtain ⟨_, p' | p'⟩ := p'
        · obtain ⟨_, rfl, rfl⟩ := p'
          exact ⟨p, _, rfl, st_of h3, rfl, _, _, rfl, _, _, rfl, rfl, k l _ (fresh_back e1 hl) (e1.trans e2) (.inr trivial) p h2 _ fun σ2 H3 q1 q2 => ⟨q1, .inr ⟨rfl, q2⟩⟩⟩
        · exact absurd p'.1 (by decide)) (fun σ' H' p' => by
      obtain ⟨_, p' | p'⟩ := p'
      · exact absurd p'.1 (Nat.one_ne_zero)
      · exact p'.2)⟩⟩
theorem rc_sum {a : Addr} {ns : List Int} (h : SqL K H a (ns.map V.int)) : RC (rSum K) [.ref a] H (.int ns.sum) := fun H1 e Q q => ⟨a, ns, rfl, ex_l e h, q H1 (Ex.refl H1)⟩
end
section
variable {P : Program} {w : World} {K : PySem.W.Frag} {mg : Str → Option Value} {base : Heap}
theorem sc_parts_of : FnScope N_parts_of P_parts_of (C8.fnScope s_parts_of) := fnScope_by (by decide +kernel)
theorem ok_parts_of (T : Txt w K mg) : Cal P w K mg base 1 "parts_of" (sp_parts_of K) [] := by
  obtain ⟨a, r, h1, h2, h3, h4⟩ := T.c_SHAPES
  refine mk_cal T.d_parts_of sc_parts_of (fun vs H Q E h => ?_) (fun f cdv A outer s H vs Q E hr h => ?_)
  · obtain ⟨_, _, rfl, _⟩ := h
    rfl
  · obtain ⟨s0, x, rfl, hs, k⟩ := h
    refine ⟨_, pss_one (ps_ret (pe_listZip rfl (by rfl) T.listT (by rfl) T.zipT (pa_cons (pe_ix ix_kdict (pe_gc (v := .ref a) (by rfl) ⟨_, h1, rfl⟩) (pe_ix ix_tup (pv 0) pe_int (fun _ _ => rfl)) (fun _ _ => rfl)) (pa_cons (pe_slice sl_tup (pv 0) (po_some pe_int) po_none) pa_nil)) (by decide +kernel))), ?_⟩
    have e1 : Ev (tOp (rIxD K w) (tC (.ref a)) (tOp (rIxT K) (tVar 0) (tC (.int 0)))) (start N_parts_of [V.ref s0]) H (.ref r) := ev_op ev_c (ev_op (ev_var rfl) ev_c (rv_ixT hs (at_of (j := 0) rfl rfl))) (rv_kix h2 h3 rfl)
    have e2 : EvU (tSl (rSlT K) (tVar 0) (tPart (tC (.int 1))) tNoPart) (start N_parts_of [V.ref s0]) H [.str x] := eu_sl (xs := [.str "return", .str x]) (lo := some 1) (hi := none) (ev_var rfl) (eo_some ev_c) eo_none hs (fun z => by revert z; exact of_decide_eq_false rfl)
    refine e1 H (Ex.refl H) _ fun H1 f1 => e2 H1 f1 _ fun p H2 hp f2 hp2 => ⟨r, p, [.str "expression"], [.str x], rfl, h4 _, st_of hp2, rfl, (show 1 ≤ 1000 by decide), fun l ts H3 old hl hts hl3 hlen hpr => ?_⟩
    match ts, hlen with
    | [t], _ =>
      obtain ⟨x1, y1, q1, q2, q3⟩ := hpr 0 t rfl
      cases q1; cases q2
      exact k l t H3 (fresh_back (f1.trans f2) hl) (fresh_back (f1.trans f2) (hts t (List.mem_singleton.mpr rfl))) ((f1.trans f2).trans old) hl3 q3
/-! blocks_of -/
def sp_blocks_of (K : PySem.W.Frag) : Sp := PuL fun vs H xs => ∃ s x, vs = [.ref s] ∧ SqT K H s [.str "return", .str x] ∧ xs = []
theorem sc_blocks_of : FnScope N_blocks_of P_blocks_of (C8.fnScope s_blocks_of) := fnScope_by (by decide +kernel)
theorem ok_blocks_of (T : Txt w K mg) : Cal P w K mg base 2 "blocks_of" (sp_blocks_of K) [] := by
  obtain ⟨b, hb1, hb2⟩ := T.c_BLOCKS
  refine mk_cal T.d_blocks_of sc_blocks_of (fun vs H Q E h => ?_) (fun f cdv A outer s H vs Q E hr h => ?_)
  · obtain ⟨z, ⟨_, _, rfl, _⟩, _⟩ := h
    rfl
  · obtain ⟨z, ⟨s0, x, rfl, hs, rfl⟩, k⟩ := h
    have nd := sc_blocks_of.nd
    refine ⟨_, pss_one (ps_ret (pe_lc (own := [("kind", 1), ("part", 2)]) (g := gTup K 2 (gCons (gName 1) (gCons (gName 2) gNil))) rfl nd
        (pi_list (pe_c (ok_parts_of T) hr (by decide) (by rfl) (pa_cons (pv 0) pa_nil))) (blkOk_by (N := N_blocks_of) (sc := C8.fnScope s_blocks_of) (by decide +kernel))
        (fun _ _ _ _ _ => pg_tup (by rfl) (pgs_cons (pg_name (i := 1) nd rfl (Or.inl rfl)) (pgs_cons (pg_name (i := 2) nd rfl (Or.inl rfl)) pgs_nil)))
        (fun _ _ _ _ _ => pts_one (pt_cmpR (show OpR _ (compareOp .In) (rIn K false) from op_in_seq) (pv 1) (pe_gc (v := .ref b) (by rfl) ⟨_, hb1, rfl⟩) (by rfl))) (fun _ _ _ _ _ => pv 2))), ?_⟩
    exact s_retL (el_parts (ev_var rfl) hs (fun _ _ => rfl) fun H1 e1 => et_test (ev_is (ev_op (ev_var (v := .str "expression") rfl) ev_c (rv_isT (hb2 _) rfl rfl)) (by decide))) fun p H1 hp e1 h1 => k p H1 hp e1 h1
theorem l_blocks_of {H : Hp} {s : Addr} {x : Str} (h : SqT K H s [.str "return", .str x]) : SpL (sp_blocks_of K) [.ref s] H [] := spl fun H1 e => ⟨s, x, rfl, ex_t e h, rfl⟩
/-! statements_of -/
def blkV (K : PySem.W.Frag) (H : Hp) (b : Addr) : Blk → List V → Prop
  | .nil, xs => SqT K H b [] ∧ xs = []
  | .ret x, xs => ∃ s, SqT K H b [.ref s] ∧ SqT K H s [.str "return", .str x] ∧ xs = [.ref s]
def blkN : Blk → Nat
  | .nil => 0
  | .ret _ => 1
theorem blkV_ex {H H' : Hp} {b : Addr} {blk : Blk} {xs : List V} (e : Ex H H') (h : blkV K H b blk xs) : blkV K H' b blk xs := by
  cases blk with
  | nil => exact ⟨ex_t e h.1, h.2⟩
  | ret x => obtain ⟨s, h1, h2, h3⟩ := h; exact ⟨s, ex_t e h1, ex_t e h2, h3⟩
theorem blkV_of {H : Hp} {b : Addr} {blk : Blk} (h : RepB K H b blk) : ∃ xs, blkV K H b blk xs ∧ xs.length = blkN blk := by
  cases blk with
  | nil => exact ⟨[], ⟨h, rfl⟩, rfl⟩
  | ret x => obtain ⟨s, h1, h2⟩ := h; exact ⟨[.ref s], ⟨s, h1, h2, rfl⟩, rfl⟩
def sp_stmts_of (K : PySem.W.Frag) : Sp := PuL fun vs H xs => ∃ b blk, vs = [.ref b] ∧ blkV K H b blk xs
theorem l_stmts_of {H : Hp} {b : Addr} {blk : Blk} {xs : List V} (h : blkV K H b blk xs) : SpL (sp_stmts_of K) [.ref b] H xs := spl fun H1 e => ⟨b, blk, rfl, blkV_ex e h⟩
theorem s_for0 {σ : L2.St} {H : Hp} {te : TE} {D : Ends} {j : Nat} {tu : TS} (h : EvL te σ H []) (k : ∀ H1, Ex H H1 → D.nx σ H1) : tFor (iList K te) (gName j) tu D σ H :=
  h H (Ex.refl H) _ fun p H2 hp e2 h2 => ⟨p, rfl, ⟨_, sq_of h2⟩, for_list (D := D) (xs := []) (fun _ σ' H' => σ' = σ ∧ Ex H2 H') ⟨rfl, Ex.refl _⟩ (fun i σ' H' _ w => sq_of (w.2 _ _ h2)) (fun i y σ' H' hy w => by cases hy) (fun σ' H' w => by obtain ⟨rfl, e⟩ := w; exact k _ (e2.trans e))⟩
theorem q_app {σ : L2.St} {H : Hp} {ta te : TE} {D : Ends} {tz : TS} {l : Addr} {xs : List V} {v : V} (hl : H l = some (.lst xs)) (ha : Ev ta σ H (.ref l)) (h : Ev te σ H v) (hz : xs.length < 100000) (k : ∀ H1, Ex H H1 → tz D σ (upd H1 l (.lst (xs ++ [v])))) :
    tSeq (tDrop (tBM K "list" rAppend ta (tCons te tNil))) tz D σ H := ha H (Ex.refl H) _ fun H1 e1 =>
  ⟨Or.inl ⟨rfl, xs, sq_of (e1 l _ hl)⟩, h H1 e1 _ fun H2 e2 => ⟨l, xs, v, rfl, rfl, e2 l _ (e1 l _ hl), sz_of hz, k H2 (e1.trans e2)⟩⟩
theorem sc_stmts_of : FnScope N_statements_of P_statements_of (C8.fnScope s_statements_of) := fnScope_by (by decide +kernel)
theorem ok_stmts_of (T : Txt w K mg) : Cal P w K mg base 3 "statements_of" (sp_stmts_of K) [] := by
  refine mk_cal T.d_statements_of sc_stmts_of (fun vs H Q E h => ?_) (fun f cdv A outer s H vs Q E hr h => ?_)
  · obtain ⟨z, ⟨_, _, rfl, _⟩, _⟩ := h
    rfl
  · obtain ⟨z, ⟨b, blk, rfl, hb⟩, k⟩ := h
    have nd := sc_stmts_of.nd
    refine ⟨_, pss_cons (ps_set (i := 1) nd rfl (Or.inl rfl) (pe_lst pa_nil))
      (pss_cons (ps_for PassesOwn.never rfl (pi_tup (pv 0)) (pg_name (i := 2) nd rfl (Or.inl rfl))
        (pss_cons (ps_expr (pe_bm PySem.F.plainAttrs_list PySem.F.slot_list_append PySem.F.type_list_append mt_append (pv 1) (pa_cons (pv 2) pa_nil)))
        (pss_one (ps_for PassesOwn.never rfl (pi_list (pe_c (ok_blocks_of T) hr (by decide) (by rfl) (pa_cons (pv 2) pa_nil))) (pg_name (i := 3) nd rfl (Or.inl rfl)) (pss_one ps_never)))))
      (pss_one (ps_ret (pv 1)))), ?_⟩
    refine q_asgL (el_lst ea_nil (show 0 ≤ 100000 by decide)) fun l H1 hl e1 h1 => ?_
    cases blk with
    | nil =>
      obtain ⟨hb, rfl⟩ := hb
      refine q_forT (xs := []) (ev_var rfl) (ex_t e1 hb) (fun _ σ' H' => σ' = _ ∧ Ex H H' ∧ H' l = some (.lst [])) (fun H2 e2 => ⟨rfl, e1.trans e2, e2 _ _ h1⟩) (fun i σ' H' _ p => ex_t p.2.1 hb) (fun i x σ' H' h => by cases h) fun σ' H' p => ?_
      obtain ⟨rfl, p, q⟩ := p
      exact s_ret (v := .ref l) (ev_var rfl) fun H2 e2 => k l H2 hl (p.trans e2) (e2 _ _ q)
    | ret x =>
      obtain ⟨s0, g1, g2, rfl⟩ := hb
      refine q_forT (xs := [.ref s0]) (ev_var rfl) (ex_t e1 g1) (fun i σ' H' => (∃ v2 v3, σ' = [some (.ref b), some (.ref l), v2, v3]) ∧ Ex H H' ∧ H' l = some (.lst (([.ref s0] : List V).take i))) (fun H2 e2 => ⟨⟨_, _, rfl⟩, e1.trans e2, e2 _ _ h1⟩) (fun i σ' H' _ p => ex_t p.2.1 g1) (fun i y σ' H' h p => ?_) fun σ' H' p => ?_
      · obtain ⟨⟨v2, v3, rfl⟩, p, q⟩ := p
        match i, h with
        | 0, h =>
          cases h
          refine q_app q (ev_var rfl) (ev_var (v := .ref s0) rfl) (show 0 < 100000 by decide) fun H2 e2 => ?_
          have eH : Ex H (upd H2 l (.lst ([] ++ [.ref s0]))) := Ex.mut (p.trans e2) hl
          exact s_for0 (el_call (ea_cons (ev_var (v := .ref s0) rfl) ea_nil) (l_blocks_of (ex_t eH g2))) fun H3 e3 => ⟨⟨_, _, rfl⟩, eH.trans e3, e3 _ _ upd_same⟩
      · obtain ⟨⟨v2, v3, rfl⟩, p, q⟩ := p
        exact s_ret (v := .ref l) (ev_var rfl) fun H2 e2 => k l H2 hl (p.trans e2) (e2 _ _ q)
/-! size_of -/
def sp_size_of (K : PySem.W.Frag) : Sp := PuV fun vs H z => ∃ b blk, vs = [.ref b] ∧ RepB K H b blk ∧ z = .int (blkN blk : Nat)
theorem sc_size_of : FnScope N_size_of P_size_of (C8.fnScope s_size_of) := fnScope_by (by decide +kernel)
theorem ok_size_of (T : Txt w K mg) : Cal P w K mg base 4 "size_of" (sp_size_of K) [] := by
  refine mk_cal T.d_size_of sc_size_of (fun vs H Q E h => ?_) (fun f cdv A outer s H vs Q E hr h => ?_)
  · obtain ⟨z, ⟨_, _, rfl, _⟩, _⟩ := h
    rfl
  · obtain ⟨z, ⟨b, blk, rfl, hb, rfl⟩, k⟩ := h
    refine ⟨_, pss_one (ps_ret (pe_callB call_len_seq (by rfl) T.len (by decide +kernel) (pa_cons (pe_c (ok_stmts_of T) hr (by decide) (by rfl) (pa_cons (pv 0) pa_nil)) pa_nil))), ?_⟩
    obtain ⟨xs, h1, h2⟩ := blkV_of hb
    refine s_ret (v := .int (blkN blk : Nat)) (ev_cbL (el_call (ea_cons (ev_var rfl) ea_nil) (l_stmts_of h1)) fun p H2 _ hp => ?_) fun H1 e1 => k H1 e1
    rw [← h2]
    exact rc_lenS (.inl (sq_of hp))
theorem v_size_of {H : Hp} {b : Addr} {blk : Blk} (h : RepB K H b blk) : SpV (sp_size_of K) [.ref b] H (.int (blkN blk : Nat)) := spv fun H1 e => ⟨b, blk, rfl, h.le (Le.of e), rfl⟩
/-! count_lasts -/
def sp_count_lasts (K : PySem.W.Frag) : Sp := PuV fun vs H z => ∃ b blk, vs = [.ref b] ∧ RepB K H b blk ∧ z = .int 0
theorem sc_count_lasts : FnScope N_count_lasts P_count_lasts (C8.fnScope s_count_lasts) := fnScope_by (by decide +kernel)
theorem ok_count_lasts (T : Txt w K mg) : Cal P w K mg base 4 "count_lasts" (sp_count_lasts K) [] := by
  refine mk_cal T.d_count_lasts sc_count_lasts (fun vs H Q E h => ?_) (fun f cdv A outer s H vs Q E hr h => ?_)
  · obtain ⟨z, ⟨_, _, rfl, _⟩, _⟩ := h
    rfl
  · obtain ⟨z, ⟨b, blk, rfl, hb, rfl⟩, k⟩ := h
    have nd := sc_count_lasts.nd
    refine ⟨_, pss_one (ps_ret (pe_callB call_len_seq (by rfl) T.len (by decide +kernel) (pa_cons (pe_lc (own := [("statement", 1)]) (g := gName 1) rfl nd (pi_list (pe_c (ok_stmts_of T) hr (by decide) (by rfl) (pa_cons (pv 0) pa_nil))) (blkOk_by (N := N_count_lasts) (sc := C8.fnScope s_count_lasts) (by decide +kernel))
      (fun _ _ _ _ _ => pg_name (i := 1) nd rfl (Or.inl rfl)) (fun _ _ _ _ _ => pts_one (pt_cmpR op_eq (pe_ix (show IxR _ (rIxT K) from ix_tup) (pv 1) pe_int (fun _ _ => rfl)) pe_str (nomark _))) (fun _ _ _ _ _ => pv 1)) pa_nil))), ?_⟩
    obtain ⟨xs, h1, h2⟩ := blkV_of hb
    have hle : xs.length ≤ 1 := by rw [h2]; cases blk <;> simp [blkN]
    have hg : given xs.length (fun _ => false) (fun i => xs.getD i .non) = [] := by
      unfold given
      simp
    refine s_ret (v := .int 0) (ev_cbL (xs := given xs.length (fun _ => false) (fun i => xs.getD i .non)) (el_lcW (xs := xs) (fun _ => false) (fun i => xs.getD i .non) (ei_listN (el_call (ea_cons (ev_var rfl) ea_nil) (l_stmts_of h1))) (by omega) (fun _ => rfl) (fun i x H1 e1 hi => ?_) (fun i x H1 e1 hi h => nomatch h)) fun p H2 _ hp => ?_) fun H1 e1 => k H1 e1
    · cases blk with
      | nil => obtain ⟨_, rfl⟩ := h1; cases hi
      | ret y =>
        obtain ⟨s0, g1, g2, rfl⟩ := h1
        match i, hi with
        | 0, hi =>
          cases hi
          exact et_test (ev_is (ev_op (ev_op (ev_var (v := .ref s0) rfl) ev_c (rv_ixT (ex_t e1 g2) (at_of (j := 0) rfl rfl))) (ev_c (v := .str "last")) (rv_eq rfl)) (by decide))
    · rw [hg] at hp
      exact rc_lenS (xs := []) (.inl (sq_of hp))
theorem v_count_lasts {H : Hp} {b : Addr} {blk : Blk} (h : RepB K H b blk) : SpV (sp_count_lasts K) [.ref b] H (.int 0) := spv fun H1 e => ⟨b, blk, rfl, h.le (Le.of e), rfl⟩
end
end EE
set_option Elab.async false
set_option linter.all false
set_option maxRecDepth 100000
set_option maxHeartbeats 4000000
namespace EE
open PySem L2 Evl
open C8 (Cal cal0 pe_c pe_gc fnScope_by)
section
variable {K : PySem.W.Frag} {σ : L2.St} {H H' : Hp} {ta tb tc te : TE} {t u : TT} {x y z v : V}
theorem s_extN {D : Ends} {l : Addr} {xs zs : List V} (hl : H l = some (.lst xs)) (ha : Ev ta σ H (.ref l)) (h : EvL te σ H zs) (hn : xs.length + zs.length ≤ 100000)
    (k : ∀ H1, Ex H H1 → D.nx σ (upd H1 l (.lst (xs ++ zs)))) : tDrop (tBM K "list" rExtend ta (tCons te tNil)) D σ H := ha H (Ex.refl H) _ fun H1 e1 =>
  ⟨Or.inl ⟨rfl, xs, sq_of (e1 l _ hl)⟩, h H1 e1 _ fun p H2 _ e2 h2 => ⟨l, p, xs, zs, rfl, rfl, e2 l _ (e1 l _ hl), h2, sz_of hn, k H2 (e1.trans e2)⟩⟩
end
section
variable {P : Program} {w : World} {K : PySem.W.Frag} {mg : Str → Option Value} {base : Heap}
/-- texts, and tuples of such, at most n deep; zs their texts -/
def RepX (K : PySem.W.Frag) (H : Hp) : Nat → V → List Str → Prop
  | 0, v, zs => ∃ z, v = .str z ∧ zs = [z]
  | n + 1, v, zs => (∃ z, v = .str z ∧ zs = [z]) ∨ ∃ a xs zss, v = .ref a ∧ SqT K H a xs ∧ Paired (RepX K H n) xs zss ∧ zs = zss.flatten ∧ zs.length ≤ 1000
theorem Paired.imp {α β : Type} {R R' : α → β → Prop} (h : ∀ a b, R a b → R' a b) : ∀ {xs : List α} {ys : List β}, Paired R xs ys → Paired R' xs ys
  | [], [], .nil => .nil
  | _ :: _, _ :: _, .cons x t => .cons (h _ _ x) (Paired.imp h t)
theorem RepX.ex {H H' : Hp} (e : Ex H H') : ∀ {n : Nat} {v : V} {zs : List Str}, RepX K H n v zs → RepX K H' n v zs
  | 0, _, _, h => h
  | n + 1, _, _, h => by
    rcases h with h | ⟨a, xs, zss, h1, h2, h3, h4⟩
    · exact .inl h
    · exact .inr ⟨a, xs, zss, h1, ex_t e h2, Paired.imp (fun _ _ => RepX.ex e) h3, h4⟩
theorem Paired.at {α β : Type} {R : α → β → Prop} : ∀ {xs : List α} {ys : List β} {i : Nat} {x : α}, Paired R xs ys → xs[i]? = some x → ∃ y, ys[i]? = some y ∧ R x y
  | [], [], _, _, .nil, h => by simp at h
  | _ :: _, y :: _, 0, _, .cons r _, h => by
    simp at h; subst h; exact ⟨y, rfl, r⟩
  | _ :: _, _ :: _, i + 1, _, .cons _ t, h => Paired.at (i := i) t (by simpa using h)
def sp_strings (K : PySem.W.Frag) (n : Nat) : Sp := PuL fun vs H xs => ∃ v zs, vs = [v] ∧ RepX K H n v zs ∧ xs = zs.map V.str
theorem l_strings {H : Hp} {n : Nat} {v : V} {zs : List Str} (h : RepX K H n v zs) : SpL (sp_strings K n) [v] H (zs.map V.str) := spl fun H1 e => ⟨v, zs, rfl, h.ex e, rfl⟩
theorem sc_strings_in : FnScope N_strings_in P_strings_in (C8.fnScope s_strings_in) := fnScope_by (by decide +kernel)
theorem flat_take_len (zss : List (List Str)) (i : Nat) : ((zss.take i).flatten).length ≤ zss.flatten.length := by
  have h : zss.flatten = (zss.take i).flatten ++ (zss.drop i).flatten := by rw [← List.flatten_append, List.take_append_drop]
  rw [h, List.length_append]
  omega
theorem ok_strings (T : Txt w K mg) : ∀ n : Nat, Cal P w K mg base (n + 1) "strings_in" (sp_strings K n) []
  | 0 => by
    refine mk_cal T.d_strings_in sc_strings_in (fun vs H Q E h => ?_) (fun f cdv A outer s H vs Q E hr h => ?_)
    · obtain ⟨z, ⟨_, _, rfl, _⟩, _⟩ := h
      rfl
    · obtain ⟨z, ⟨v, zs, rfl, ⟨z, rfl, rfl⟩, rfl⟩, k⟩ := h
      refine ⟨_, pss_cons (ps_if (pt_val (pe_callB call_isi (by rfl) T.isi (by decide +kernel) (pa_cons (pv 0) (pa_cons (pe_bltn (v := .ty "str") (by rfl) T.strT (u := .type "str") (by decide +kernel) (by rfl)) pa_nil)))) (pss_one (ps_ret (pe_lst (pa_cons (pv 0) pa_nil)))) pss_nil) pss_never, ?_⟩
      exact q_when (b := true) (et_B (ev_cb (ea_cons (ev_var rfl) (ea_cons ev_c ea_nil)) (rc_isi (.ty "str") (.base (.str z)) (kit_ty (by decide +kernel))))) (fun _ H1 e1 => s_retL (el_lst (ea_cons (ev_var rfl) ea_nil) (show 1 ≤ 100000 by decide)) fun p H2 hp e2 h2 => k p H2 (fresh_back e1 hp) (e1.trans e2) h2) (fun z => nomatch z)
  | n + 1 => by
    refine mk_cal T.d_strings_in sc_strings_in (fun vs H Q E h => ?_) (fun f cdv A outer s H vs Q E hr h => ?_)
    · obtain ⟨z, ⟨_, _, rfl, _⟩, _⟩ := h
      rfl
    · obtain ⟨z, ⟨v, zs, rfl, hx, rfl⟩, k⟩ := h
      have nd := sc_strings_in.nd
      refine ⟨_, pss_cons (ps_if (pt_val (pe_callB call_isi (by rfl) T.isi (by decide +kernel) (pa_cons (pv 0) (pa_cons (pe_bltn (v := .ty "str") (by rfl) T.strT (u := .type "str") (by decide +kernel) (by rfl)) pa_nil)))) (pss_one (ps_ret (pe_lst (pa_cons (pv 0) pa_nil)))) pss_nil)
        (pss_cons (ps_set (i := 1) nd rfl (Or.inl rfl) (pe_lst pa_nil))
        (pss_cons (ps_if (pt_val (pe_callB call_isi (by rfl) T.isi (by decide +kernel) (pa_cons (pv 0) (pa_cons (pe_bltn (v := .ty "tuple") (by rfl) T.tupT (u := .type "tuple") (by decide +kernel) (by rfl)) pa_nil))))
          (pss_one (ps_for PassesOwn.never rfl (pi_tup (pv 0)) (pg_name (i := 2) nd rfl (Or.inl rfl))
            (pss_one (ps_expr (pe_bm PySem.F.plainAttrs_list PySem.F.slot_list_extend PySem.F.type_list_extend mt_extend (pv 1) (pa_cons (pe_c (ok_strings T n) hr (Nat.le_refl _) (by rfl) (pa_cons (pv 2) pa_nil)) pa_nil)))))) pss_nil)
        (pss_one (ps_ret (pv 1))))), ?_⟩
      rcases hx with ⟨z, rfl, rfl⟩ | ⟨a, xs, zss, rfl, hs, hp, rfl, hz⟩
      · exact q_when (b := true) (et_B (ev_cb (ea_cons (ev_var rfl) (ea_cons ev_c ea_nil)) (rc_isi (.ty "str") (.base (.str z)) (kit_ty (by decide +kernel))))) (fun _ H1 e1 => s_retL (el_lst (ea_cons (ev_var rfl) ea_nil) (show 1 ≤ 100000 by decide)) fun p H2 hp e2 h2 => k p H2 (fresh_back e1 hp) (e1.trans e2) h2) (fun z => nomatch z)
      · have hlen : xs.length = zss.length := Paired.length hp
        refine q_no (et_B (ev_cb (ea_cons (ev_var rfl) (ea_cons ev_c ea_nil)) (rc_isi (.ty "str") (tyx_sqT hs) (kit_ty (by decide +kernel))))) fun H1 e1 => ?_
        refine q_asgL (el_lst ea_nil (show 0 ≤ 100000 by decide)) fun l H2 hl e2 h2 => ?_
        have hl0 : H l = none := fresh_back e1 hl
        refine q_when (b := true) (et_B (ev_cb (ea_cons (ev_var rfl) (ea_cons ev_c ea_nil)) (rc_isi (.ty "tuple") (tyx_sqT (ex_t (e1.trans e2) hs)) (kit_ty (by decide +kernel))))) (fun _ H3 e3 => ?_) (fun z => nomatch z)
        refine s_forT (ev_var rfl) (ex_t ((e1.trans e2).trans e3) hs) (fun i σ' H' => (∃ v2, σ' = [some (.ref a), some (.ref l), v2]) ∧ Ex H H' ∧ H' l = some (.lst (((zss.take i).flatten).map V.str)))
          (fun H4 e4 => ⟨⟨_, rfl⟩, ((e1.trans e2).trans e3).trans e4, e4 _ _ (e3 _ _ h2)⟩) (fun i σ' H' _ p => ex_t p.2.1 hs) ?_ ?_
        · rintro i x σ' H' hx ⟨⟨v2, rfl⟩, p1, p2⟩
          obtain ⟨zs, hzs, hr2⟩ := Paired.at hp hx
          have hi : i < zss.length := (List.getElem?_eq_some_iff.mp hzs).1
          have ht : (zss.take (i + 1)).flatten = (zss.take i).flatten ++ zs := by
            rw [List.take_add_one, hzs, Option.toList_some, List.flatten_append, List.flatten_singleton]
          refine s_extN p2 (ev_var rfl) (el_call (ea_cons (ev_var rfl) ea_nil) (l_strings (hr2.ex p1))) ?_ fun H5 e5 => ⟨⟨_, rfl⟩, Ex.mut (p1.trans e5) hl0, ?_⟩
          · have := flat_take_len zss (i + 1)
            rw [ht, List.length_append] at this
            rw [List.length_map, List.length_map]
            omega
          · rw [upd_same, ht, List.map_append]
        · rintro σ' H' ⟨⟨v2, rfl⟩, p1, p2⟩
          refine s_ret (v := .ref l) (ev_var rfl) fun H5 e5 => k l H5 hl0 (p1.trans e5) ?_
          rw [hlen, List.take_length] at p2
          exact e5 _ _ p2
end
end EE
namespace EE
open PySem L2 Evl
open C8 (Cal cal0 pe_c pe_gc fnScope_by)
section
variable {K : PySem.W.Frag} {σ : L2.St} {H H' : Hp} {ta tb tc te : TE} {t u : TT} {x y z v : V}
/-- the letters of a text -/
def lets (z : Str) : List V := z.cps.toList.map fun c => .str ⟨#[c]⟩
theorem ei_str {z : Str} (h : Ev te σ H (.str z)) : EvI (iStr te) σ H (lets z) := fun H1 e R q =>
  h H1 e _ fun H2 e2 => ⟨z, rfl, q _ H2 e2 ⟨fun _ => True, by
    have w := walk_str (z := z)
    have hl : (lets z).length = z.cps.size := by unfold lets; rw [List.length_map, Array.length_toList]
    refine ⟨fun i H hi g => w.goes i H (by rw [← hl]; exact hi) g, fun H g => by rw [hl]; exact w.stops H g, fun i H x H' hi g y => ?_⟩
    obtain ⟨e1, c, h1, h2⟩ := w.yields i H x H' (by rw [← hl]; exact hi) g y
    refine ⟨e1, ?_⟩
    unfold lets
    rw [List.getElem?_map, Array.getElem?_toList, h1, h2]
    rfl, fun _ _ => trivial⟩⟩
theorem rv_cat {a b : Str} (h : a.length + b.length ≤ sizeLine) : RV (fun x y H Q => ∃ i j, x = V.str i ∧ y = V.str j ∧ i.length + j.length ≤ sizeLine ∧ Q (.str (i ++ j)) H) (.str a) (.str b) H (.str (a ++ b)) := fun H1 _ Q q => ⟨a, b, rfl, rfl, h, q H1 (Ex.refl H1)⟩
theorem s_extU {D : Ends} {l : Addr} {xs zs : List V} (hl : H l = some (.lst xs)) (ha : Ev ta σ H (.ref l)) (h : EvU te σ H zs) (hn : xs.length + zs.length ≤ 100000)
    (k : ∀ p H1, Ex H H1 → H1 p = some (.tup zs) → D.nx σ (upd H1 l (.lst (xs ++ zs)))) : tDrop (tBM K "list" (rExtT K) ta (tCons te tNil)) D σ H := ha H (Ex.refl H) _ fun H1 e1 =>
  ⟨Or.inl ⟨rfl, xs, sq_of (e1 l _ hl)⟩, h H1 e1 _ fun p H2 _ e2 h2 => ⟨l, p, xs, zs, rfl, rfl, e2 l _ (e1 l _ hl), st_of h2, sz_of hn, k p H2 (e1.trans e2) h2⟩⟩
/-- return (t,), t a new tuple -/
theorem s_retUU {D : Ends} {xs : List V} (h : EvU te σ H xs) (k : ∀ p q H1, H p = none → Ex H H1 → H1 p = some (.tup [.ref q]) → H1 q = some (.tup xs) → D.rt (.ref p) H1) : tRet (tTup (tCons te tNil)) D σ H :=
  h H (Ex.refl H) _ fun q H1 hq e1 h1 => ⟨show 1 ≤ sizeLine by decide, fun p hp => k p q _ (fresh_back e1 hp) (e1.trans (Ex.new hp)) upd_same (by rw [upd_ne (fun z => by subst z; rw [h1] at hp; cases hp)]; exact h1)⟩
end
section
variable {P : Program} {w : World} {K : PySem.W.Frag} {mg : Str → Option Value} {base : Heap}
/-! free_names -/
def lettersS : Str := "abcdefghijklmnopqrstuvwxyz"
def zNs : List V := (lets lettersS).map fun c => match c with | .str z => .str ("z" ++ z) | v => v
theorem zNs_len : zNs.length = 26 := by decide +kernel
theorem zNs_flat : ∀ x ∈ zNs, flatV x = true := by decide +kernel
def freeOf (zs : List Str) : List V := given zNs.length (fun i => !inV (zNs.getD i .non) (zs.map V.str)) (fun i => zNs.getD i .non)
theorem freeOf_len (zs : List Str) : (freeOf zs).length ≤ 26 := by have := given_len zNs.length (fun i => !inV (zNs.getD i .non) (zs.map V.str)) (fun i => zNs.getD i .non); rw [zNs_len] at this; unfold freeOf; rw [zNs_len]; exact this
def sp_free_names (K : PySem.W.Frag) : Sp := PuL fun vs H xs => ∃ v zs, vs = [v] ∧ RepX K H 3 v zs ∧ xs = freeOf zs
theorem l_free_names {H : Hp} {v : V} {zs : List Str} (h : RepX K H 3 v zs) : SpL (sp_free_names K) [v] H (freeOf zs) := spl fun H1 e => ⟨v, zs, rfl, h.ex e, rfl⟩
theorem sc_free_names : FnScope N_free_names P_free_names (C8.fnScope s_free_names) := fnScope_by (by decide +kernel)
theorem lets_at {i : Nat} {x : V} (h : (lets lettersS)[i]? = some x) : ∃ c, x = .str ⟨#[c]⟩ := by
  unfold lets at h
  rw [List.getElem?_map] at h
  cases hc : lettersS.cps.toList[i]? with
  | none => rw [hc] at h; cases h
  | some c => rw [hc] at h; cases h; exact ⟨c, rfl⟩
theorem ok_free_names (T : Txt w K mg) : Cal P w K mg base 5 "free_names" (sp_free_names K) [] := by
  refine mk_cal T.d_free_names sc_free_names (fun vs H Q E h => ?_) (fun f cdv A outer s H vs Q E hr h => ?_)
  · obtain ⟨z, ⟨_, _, rfl, _⟩, _⟩ := h
    rfl
  · obtain ⟨z, ⟨v, zs, rfl, hx, rfl⟩, k⟩ := h
    have nd := sc_free_names.nd
    refine ⟨_, pss_cons (ps_set (i := 1) nd rfl (Or.inr rfl) (pe_c (ok_strings T 3) hr (by decide) (by rfl) (pa_cons (pv 0) pa_nil)))
      (pss_cons (ps_setLc (i := 2) (own := [("letter", 3)]) (g := gName 3) (tt := tYes) rfl nd rfl rfl (by rfl) (pi_str (pe_gc (v := .str lettersS) (by rfl) T.c_SECOND_LETTERS)) (blkOk_by (N := N_free_names) (sc := C8.fnScope s_free_names) (by decide +kernel))
          (fun _ _ _ _ _ => pg_name (i := 3) nd rfl (Or.inl rfl)) (fun _ _ _ _ _ => pts_nil) (fun _ _ _ _ _ => pe_op op_add_str pe_str (pv 3)))
      (pss_one (ps_ret (pe_lc (own := [("name", 4)]) (g := gName 4) rfl nd (pi_list (pv 2)) (blkOk_by (N := N_free_names) (sc := C8.fnScope s_free_names) (by decide +kernel))
          (fun _ _ _ _ _ => pg_name (i := 4) nd rfl (Or.inl rfl)) (fun _ _ _ _ _ => pts_one (pt_cmpR (show OpR _ (compareOp .NotIn) (rIn K true) from op_notIn_seq) (pv 4) (pv 1) (by rfl))) (fun _ _ _ _ _ => pv 4))))), ?_⟩
    refine q_asgL (el_call (ea_cons (ev_var rfl) ea_nil) (l_strings hx)) fun l1 H1 hl1 e1 h1 => ?_
    refine q_asgL (xs := zNs) (el_lcA zNs (by decide +kernel) (ei_str ev_c) (by decide +kernel) (fun _ => rfl) fun i x y H2 e2 hx hy => ?_) fun l2 H2 hl2 e2 h2 => ?_
    · obtain ⟨c, rfl⟩ := lets_at hx
      unfold zNs at hy
      rw [List.getElem?_map, hx] at hy
      cases hy
      exact ev_op ev_c (ev_var rfl) (rv_cat (show 2 ≤ sizeLine by decide))
    · refine s_retL (el_lcW (fun i => !inV (zNs.getD i .non) (zs.map V.str)) (fun i => zNs.getD i .non) (ei_list (ev_var rfl) (sq_of h2)) (by rw [zNs_len]; decide) (fun _ => rfl) (fun i x H3 e3 hx => ?_) (fun i x H3 e3 hx _ => ?_)) fun p H3 hp e3 h3 => k p H3 (fresh_back (e1.trans e2) hp) ((e1.trans e2).trans e3) h3
      · have hi : zNs.getD i .non = x := by rw [List.getD_eq_getElem?_getD, hx]; rfl
        rw [hi]
        exact et_test (ev_op (ev_var rfl) (ev_var rfl) (rv_niL (sq_of (e3 _ _ (e2 _ _ h1))) (zNs_flat x (List.mem_of_getElem? hx)) (flat_strs zs)))
      · have hi : zNs.getD i .non = x := by rw [List.getD_eq_getElem?_getD, hx]; rfl
        rw [hi]
        exact ev_var rfl
end
end EE
set_option Elab.async false
set_option linter.all false
set_option maxRecDepth 100000
set_option maxHeartbeats 4000000
namespace EE
open PySem L2 Evl
open C8 (Cal cal0 pe_c pe_gc fnScope_by)
section
variable {K : PySem.W.Frag} {σ : L2.St} {H H' : Hp} {ta tb tc te : TE} {t u : TT} {x y z v : V}
/-- for g in d.items() of a locked dict -/
theorem q_forItems {d : Addr} {kvs : List (Key × V)} {i0 : Nat} {g : TG} {D : Ends} {tu tz : TS} (hv : σ[i0]? = some (some (.ref d))) (hd : H d = some (.dK kvs)) (Pv : Obj → Nat → L2.St → Hp → Prop) (h0 : ∀ od, Pv od 0 σ (Lk H d kvs od))
    (hG : ∀ od i σ' H', Pv od i σ' H' → H' d = some (.frz od (.dK kvs)))
    (hs : ∀ od i k v σ' H' T, kvs[i]? = some (k, v) → Pv od i σ' H' → H' T = none → ∀ E : Ends, (∀ σ2 H2, Pv od (i + 1) σ2 H2 → E.nx σ2 H2) → g (.ref T) σ' (upd H' T (.tup [kV k, v])) fun σ2 H2 => tu E σ2 H2)
    (k : ∀ od σ' H', Pv od kvs.length σ' H' → tz D σ' (upd H' d (.dK kvs))) : tSeq (tLock (tFor (iItems (tVar i0)) g tu)) tz D σ H :=
  ⟨d, .dK kvs, hd, trivial, fun od => ⟨.ref d, hv, d, od, kvs, rfl, upd_same, for_it walk_items (Pv od) (h0 od) (fun i σ' H' _ p => hG od i σ' H' p) (fun i x σ' H' H'' hi p y => by
    obtain ⟨T, x1, y1, rfl, hT, rfl, h1, h2⟩ := y
    replace h1 : kvs[i]?.map (fun kv => kV kv.1) = some x1 := h1
    replace h2 : kvs[i]?.map Prod.snd = some y1 := h2
    cases hk : kvs[i]? with
    | none => rw [hk] at h1; cases h1
    | some kv =>
      rw [hk] at h1 h2
      cases h1; cases h2
      exact hs od i kv.1 kv.2 σ' H' T hk p hT _ fun σ2 H2 q => q) (fun σ' H' p => ⟨hG od _ σ' H' p, k od σ' H' p⟩)⟩⟩
theorem el_callU {sp : Sp} {xs ys : List V} {E : XK} (h : EvU te σ H ys) (hs : ∀ p H1, Ex H H1 → H1 p = some (.tup ys) → SpL sp [.ref p] H1 xs) : EvL (tCall sp [] E (tCons te tNil)) σ H xs := fun H1 e Q q =>
  h H1 e _ fun p H2 hp e2 h2 => hs p H2 (e.trans e2) h2 H2 (Ex.refl H2) Q (fun p' H3 hp' e3 h3 => q p' H3 (fresh_back e2 hp') (e2.trans e3) h3) E
/-- plain_statements of a return -/
def sp_plain_st (K : PySem.W.Frag) : Sp := fun vs H Q _ => ∃ s fr x, vs = [.ref s, fr] ∧ SqT K H s [.str "return", .str x] ∧ ∀ p s2 H2, H p = none → Ex H H2 → H2 p = some (.tup [.ref s2]) → H2 s2 = some (.tup [.str "return", .str x]) → Q (.ref p) H2
def sp_without (K : PySem.W.Frag) : Sp := fun vs H Q _ => ∃ b fr blk, vs = [.ref b, fr] ∧ RepB K H b blk ∧ ∀ p H2, H p = none → Ex H H2 → RepB K H2 p blk → Q (.ref p) H2
/-- of functions: the same -/
def sp_plain_functions (K : PySem.W.Frag) : Sp := fun vs H Q _ => ∃ b fs, vs = [.ref b] ∧ RepFD K H b fs ∧ RightFs fs ∧ ∀ p H2, H p = none → Ex H H2 → RepFD K H2 p fs → Q (.ref p) H2
end
section
variable {P : Program} {w : World} {K : PySem.W.Frag} {mg : Str → Option Value} {base : Heap}
theorem sc_plain_statements : FnScope N_plain_statements P_plain_statements (C8.fnScope s_plain_statements) := fnScope_by (by decide +kernel)
theorem ok_plain_statements (T : Txt w K mg) : Cal P w K mg base 2 "plain_statements" (sp_plain_st K) [] := by
  obtain ⟨b, hb1, hb2⟩ := T.c_BLOCKS
  refine mk_cal T.d_plain_statements sc_plain_statements (fun vs H Q E h => ?_) (fun f cdv A outer s H vs Q E hr h => ?_)
  · obtain ⟨_, _, _, rfl, _⟩ := h
    rfl
  · obtain ⟨s0, fr, x, rfl, hs, k⟩ := h
    have nd := sc_plain_statements.nd
    refine ⟨_, pss_cons (ps_if (pt_cmpR op_eq (pe_ix ix_tup (pv 0) pe_int (fun _ _ => rfl)) pe_str (nomark _)) pss_never pss_nil)
      (pss_cons (ps_set (i := 5) nd rfl (Or.inl rfl) (pe_lst (pa_cons (pe_ix ix_tup (pv 0) pe_int (fun _ _ => rfl)) pa_nil)))
      (pss_cons (ps_for PassesOwn.never rfl (pi_list (pe_c (ok_parts_of T) hr (by decide) (by rfl) (pa_cons (pv 0) pa_nil))) (pg_tup (by rfl) (pgs_cons (pg_name (i := 6) nd rfl (Or.inl rfl)) (pgs_cons (pg_name (i := 7) nd rfl (Or.inl rfl)) pgs_nil)))
        (pss_one (ps_expr (pe_bm PySem.F.plainAttrs_list PySem.F.slot_list_append PySem.F.type_list_append mt_append (pv 5) (pa_cons (pe_ifExp (pt_cmpR (show OpR _ (compareOp .In) (rIn K false) from op_in_seq) (pv 6) (pe_gc (v := .ref b) (by rfl) ⟨_, hb1, rfl⟩) (by rfl)) pe_no (pv 7)) pa_nil)))))
      (pss_one (ps_ret (pe_tup (pa_cons (pe_callTy call_tuple_of (by rfl) T.tupT (by decide +kernel) (pa_cons (pv 5) pa_nil)) pa_nil)))))), ?_⟩
    refine q_no (et_test (ev_is (ev_op (ev_op (ev_var (v := .ref s0) rfl) ev_c (rv_ixT hs (at_of (j := 0) rfl rfl))) (ev_c (v := .str "last")) (rv_eq rfl)) (by decide))) fun H1 e1 => ?_
    refine q_asgL (el_lst (ea_cons (ev_op (ev_var rfl) ev_c (rv_ixT (ex_t e1 hs) (at_of (j := 0) rfl rfl))) ea_nil) (show 1 ≤ 100000 by decide)) fun l H2 hl e2 h2 => ?_
    have hl0 : H l = none := fresh_back e1 hl
    refine q_forParts (x := x) (ev_var rfl) (ex_t (e1.trans e2) hs) fun l2 H3 hl2 e3 _ t h3 D hD => ?_
    have hne : l2 ≠ l := fun z => by subst z; rw [h2] at hl2; cases hl2
    refine s_app (e3 _ _ h2) (ev_var rfl) (ev_if (b := false) (et_test (ev_is (ev_op (ev_var (v := .str "expression") rfl) ev_c (rv_isT (hb2 _) rfl rfl)) (by decide))) (fun z => nomatch z) fun _ => ev_var (v := .str x) rfl) (show 1 < 100000 by decide) fun H4 e4 => hD _ _ (by rw [upd_ne hne]; exact e4 _ _ h3) ?_
    have e0 : Ex H (upd H4 l (.lst ([.str "return"] ++ [.str x]))) := Ex.mut (((e1.trans e2).trans e3).trans e4) hl0
    exact s_retUU (rcu_tupleOf (ev_var rfl) (sq_of upd_same)) fun p q H5 hp e5 h5 h6 => k p q H5 (fresh_back e0 hp) (e0.trans e5) h5 h6
/-! without_lasts -/
theorem sc_without_lasts : FnScope N_without_lasts P_without_lasts (C8.fnScope s_without_lasts) := fnScope_by (by decide +kernel)
theorem ok_without_lasts (T : Txt w K mg) : Cal P w K mg base 3 "without_lasts" (sp_without K) [] := by
  refine mk_cal T.d_without_lasts sc_without_lasts (fun vs H Q E h => ?_) (fun f cdv A outer s H vs Q E hr h => ?_)
  · obtain ⟨_, _, _, rfl, _⟩ := h
    rfl
  · obtain ⟨b, fr, blk, rfl, hb, k⟩ := h
    have nd := sc_without_lasts.nd
    refine ⟨_, pss_cons (ps_set (i := 2) nd rfl (Or.inl rfl) (pe_lst pa_nil))
      (pss_cons (ps_for PassesOwn.never rfl (pi_tup (pv 0)) (pg_name (i := 3) nd rfl (Or.inl rfl))
        (pss_one (ps_expr (pe_bm PySem.F.plainAttrs_list PySem.F.slot_list_extend PySem.F.type_list_extend mt_extT (pv 2) (pa_cons (pe_c (ok_plain_statements T) hr (by decide) (by rfl) (pa_cons (pv 3) (pa_cons (pv 1) pa_nil))) pa_nil)))))
      (pss_one (ps_ret (pe_callTy call_tuple_of (by rfl) T.tupT (by decide +kernel) (pa_cons (pv 2) pa_nil))))), ?_⟩
    refine q_asgL (el_lst ea_nil (show 0 ≤ 100000 by decide)) fun l H1 hl e1 h1 => ?_
    cases blk with
    | nil =>
      refine q_forT (xs := []) (ev_var rfl) (ex_t e1 hb) (fun _ σ' H' => σ' = _ ∧ Ex H1 H') (fun H2 e2 => ⟨rfl, e2⟩) (fun i σ' H' _ p => ex_t (e1.trans p.2) hb) (fun i x σ' H' h => by cases h) fun σ' H' p => ?_
      obtain ⟨rfl, p⟩ := p
      exact s_retU (rcu_tupleOf (ev_var rfl) (sq_of (p _ _ h1))) fun q H2 hq e2 h2 => k q H2 (fresh_back (e1.trans p) hq) ((e1.trans p).trans e2) (st_of h2)
    | ret x =>
      obtain ⟨s0, g1, g2⟩ := hb
      refine q_forT (xs := [.ref s0]) (ev_var rfl) (ex_t e1 g1) (fun i σ' H' => (∃ v2, σ' = [some (.ref b), some fr, some (.ref l), v2]) ∧ Ex H H' ∧ ((i = 0 ∧ H' l = some (.lst [])) ∨ (i = 1 ∧ ∃ s2, H' l = some (.lst [.ref s2]) ∧ H' s2 = some (.tup [.str "return", .str x]))))
        (fun H2 e2 => ⟨⟨_, rfl⟩, e1.trans e2, .inl ⟨rfl, e2 _ _ h1⟩⟩) (fun i σ' H' _ p => ex_t p.2.1 g1) ?_ ?_
      · rintro i y σ' H' hy ⟨⟨v2, rfl⟩, p1, p2⟩
        match i, hy, p2 with
        | 0, hy, p2 =>
          cases hy
          rcases p2 with ⟨_, p2⟩ | ⟨z, _⟩
          · refine ⟨_, rfl, Or.inl ⟨rfl, _, sq_of p2⟩, _, rfl, _, rfl, s0, fr, x, rfl, ex_t p1 g2, fun p s2 H2 hp e2 h2 h3 => ⟨l, p, [], _, rfl, rfl, e2 _ _ p2, st_of h2, (show 0 + 1 ≤ sizeLine by decide), ⟨_, rfl⟩, Ex.mut (p1.trans e2) hl, .inr ⟨rfl, s2, upd_same, ?_⟩⟩⟩
            have hne : s2 ≠ l := fun z => by subst z; have := e2 _ _ p2; rw [h3] at this; cases this
            rw [upd_ne hne]
            exact h3
          · exact absurd z Nat.zero_ne_one
      · rintro σ' H' ⟨⟨v2, rfl⟩, p1, p2⟩
        rcases p2 with ⟨z, _⟩ | ⟨_, s2, p2, p3⟩
        · exact absurd z Nat.one_ne_zero
        · exact s_retU (rcu_tupleOf (ev_var rfl) (sq_of p2)) fun q H2 hq e2 h2 => k q H2 (fresh_back p1 hq) (p1.trans e2) ⟨s2, st_of h2, st_of (e2 _ _ p3)⟩
/-! plain_functions -/
def blkTexts : Blk → List Str
  | .nil => []
  | .ret x => ["return", x]
def fnTexts (ps : List Str) (blk : Blk) : List Str := ps ++ blkTexts blk
theorem repX_fn {H : Hp} {p pt bt : Addr} {ps : List Str} {blk : Blk} (h : SqT K H p [.ref pt, .ref bt]) (h1 : SqT K H pt (ps.map V.str)) (h2 : RepB K H bt blk) (hl : ps.length ≤ 4) : RepX K H 3 (.ref p) (fnTexts ps blk) := by
  have txs : ∀ (n : Nat) (zs : List Str), Paired (RepX K H n) (zs.map V.str) (zs.map fun z => [z]) := fun n zs => by
    induction zs with
    | nil => exact .nil
    | cons z zs ih => exact .cons (by cases n with | zero => exact ⟨z, rfl, rfl⟩ | succ n => exact .inl ⟨z, rfl, rfl⟩) ih
  have fl : ∀ zs : List Str, (zs.map fun z => [z]).flatten = zs := fun zs => by
    induction zs with
    | nil => rfl
    | cons z zs ih => rw [List.map_cons, List.flatten_cons, ih]; rfl
  have r1 : RepX K H 2 (.ref pt) ps := .inr ⟨pt, _, _, rfl, h1, txs 1 ps, (fl ps).symm, by omega⟩
  have r2 : RepX K H 2 (.ref bt) (blkTexts blk) ∧ (blkTexts blk).length ≤ 2 := by
    cases blk with
    | nil => exact ⟨.inr ⟨bt, [], [], rfl, h2, .nil, rfl, Nat.zero_le _⟩, Nat.zero_le _⟩
    | ret x =>
      obtain ⟨s, g1, g2⟩ := h2
      have rs : RepX K H 1 (.ref s) ["return", x] := .inr ⟨s, _, [["return"], [x]], rfl, g2, .cons ⟨_, rfl, rfl⟩ (.cons ⟨_, rfl, rfl⟩ .nil), rfl, (show 2 ≤ 1000 by decide)⟩
      exact ⟨.inr ⟨bt, _, [["return", x]], rfl, g1, .cons rs .nil, rfl, (show 2 ≤ 1000 by decide)⟩, Nat.le_refl 2⟩
  obtain ⟨r2, hz⟩ := r2
  refine .inr ⟨p, _, [ps, blkTexts blk], rfl, h, .cons r1 (.cons r2 .nil), ?_, ?_⟩
  · rw [List.flatten_cons, List.flatten_cons, List.flatten_nil, List.append_nil]; rfl
  · unfold fnTexts; rw [List.length_append]; omega
theorem sqT_put {H : Hp} {p : Addr} {kvs kvs' : List (Key × V)} (hp : H p = some (.dK kvs)) {a : Addr} {xs : List V} (h : SqT K H a xs) : SqT K (upd H p (.dK kvs')) a xs := by
  have hne : a ≠ p ∨ ∃ o, SqT K (upd H p o) a xs → True := .inr ⟨.dK kvs', fun _ => trivial⟩
  rcases h with (h | ⟨o, h⟩) | h
  · exact .inl (.inl (by rw [upd_ne (fun z => by subst z; rw [hp] at h; cases h)]; exact h))
  · exact .inl (.inr ⟨o, by rw [upd_ne (fun z => by subst z; rw [hp] at h; cases h)]; exact h⟩)
  · exact .inr h
theorem RepB.leT {H H' : Hp} (e : ∀ a xs, SqT K H a xs → SqT K H' a xs) {b : Addr} {k : Blk} (h : RepB K H b k) : RepB K H' b k := by
  cases k with
  | nil => exact e _ _ h
  | ret x => obtain ⟨s, h1, h2⟩ := h; exact ⟨s, e _ _ h1, e _ _ h2⟩
theorem RepF.leT {H H' : Hp} (e : ∀ a xs, SqT K H a xs → SqT K H' a xs) {c : Str × Fn} {p : Key × V} (h : RepF K H c p) : RepF K H' c p := by
  obtain ⟨h0, t, pt, bt, h1, h2, h3, h4⟩ := h
  exact ⟨h0, t, pt, bt, h1, e _ _ h2, e _ _ h3, h4.leT e⟩
theorem paired_snoc {α β : Type} {R : α → β → Prop} {x : α} {y : β} : ∀ {xs : List α} {ys : List β}, Paired R xs ys → R x y → Paired R (xs ++ [x]) (ys ++ [y])
  | [], [], .nil, h => .cons h .nil
  | _ :: _, _ :: _, .cons g t, h => .cons g (paired_snoc t h)
theorem take_fresh {α : Type} {fs : List (Str × α)} {i : Nat} {c : Str × α} (nd : (fs.map (·.1)).Nodup) (h : fs[i]? = some c) : c.1 ∉ (fs.take i).map (·.1) := by
  intro z
  have hi : i < fs.length := (List.getElem?_eq_some_iff.mp h).1
  have e : fs = fs.take i ++ c :: fs.drop (i + 1) := by
    have := List.take_append_drop i fs
    rw [List.drop_eq_getElem_cons hi, (List.getElem?_eq_some_iff.mp h).2] at this
    exact this.symm
  rw [e, List.map_append, List.map_cons] at nd
  have := (List.nodup_append.mp nd).2.2 _ z _ (List.mem_cons_self ..)
  exact this rfl
theorem valV_fresh {α : Type} {R : Str × α → Key × V → Prop} (hk : ∀ c p, R c p → p.1 = Sum.inr c.1) {n : Str} : ∀ {cs : List (Str × α)} {kvs : List (Key × V)}, Paired R cs kvs → n ∉ cs.map (·.1) → valV kvs (Sum.inr n : Key) = none := fun {cs kvs} h hn => by
  rcases pairA_look hk n h with ⟨_, h⟩ | ⟨c, v, h1, _, _⟩
  · exact h
  · exact absurd (List.mem_map.mpr ⟨_, lookA_in h1, rfl⟩) hn
theorem sc_plain_functions : FnScope N_plain_functions P_plain_functions (C8.fnScope s_plain_functions) := fnScope_by (by decide +kernel)
theorem ok_plain_functions (T : Txt w K mg) : Cal P w K mg base 6 "plain_functions" (sp_plain_functions K) [] := by
  refine mk_cal T.d_plain_functions sc_plain_functions (fun vs H Q E h => ?_) (fun f cdv A outer s H vs Q E hr h => ?_)
  · obtain ⟨_, _, rfl, _⟩ := h
    rfl
  · obtain ⟨b, fs, rfl, hf, hfr, k⟩ := h
    have nd := sc_plain_functions.nd
    have hu := hu_of hr
    refine ⟨_, pss_cons (ps_set (i := 1) nd rfl (Or.inl rfl) pe_dnewK)
      (pss_cons (ps_lock (ps_for PassesOwn.never rfl (pi_items (pv 0)) (pg_tup (by rfl) (pgs_cons (pg_name (i := 2) nd rfl (Or.inl rfl)) (pgs_cons (pg_tup (by rfl) (pgs_cons (pg_name (i := 3) nd rfl (Or.inl rfl)) (pgs_cons (pg_name (i := 4) nd rfl (Or.inl rfl)) (pgs_cons (pg_name (i := 5) nd rfl (Or.inl rfl)) pgs_nil)))) pgs_nil)))
        (pss_cons (ps_set (i := 6) nd rfl (Or.inl rfl) (pe_c (ok_free_names T) hr (by decide) (by rfl) (pa_cons (pe_tup (pa_cons (pv 3) (pa_cons (pv 5) pa_nil))) pa_nil)))
        (pss_cons (ps_if (pt_cmpR op_gt (pe_c (ok_count_lasts T) hr (by decide) (by rfl) (pa_cons (pv 5) pa_nil)) (pe_callB call_len_seq (by rfl) T.len (by decide +kernel) (pa_cons (pv 6) pa_nil)) (nomark _)) (pss_one ps_never) pss_nil)
        (pss_one (ps_dput hu (pv 1) (pv 2) (pe_tup (pa_cons (pv 3) (pa_cons (pv 4) (pa_cons (pe_c (ok_without_lasts T) hr (by decide) (by rfl) (pa_cons (pv 5) (pa_cons (pv 6) pa_nil))) pa_nil)))) (by rfl)))))))
      (pss_one (ps_ret (pv 1)))), ?_⟩
    obtain ⟨kvs, f1, f2⟩ := hf
    refine q_asgD ed_new fun p H1 hp e1 h1 => ?_
    have hpb : p ≠ b := fun z => by subst z; rw [f1] at hp; cases hp
    have hLp : ∀ od, Lk H b kvs od p = none := fun od => by unfold Lk; rw [upd_ne hpb]; exact hp
    have eL : ∀ od, Ex (Lk H b kvs od) (Lk H1 b kvs od) := fun od a o ha => by
      unfold Lk at ha ⊢
      by_cases hab : a = b
      · subst hab; rw [upd_same] at ha ⊢; exact ha
      · rw [upd_ne hab] at ha ⊢; exact e1 a o ha
    refine q_forItems (d := b) (kvs := kvs) rfl (e1 _ _ f1) (fun od i σ' H' => (∃ v2 v3 v4 v5 v6, σ' = [some (.ref b), some (.ref p), v2, v3, v4, v5, v6]) ∧ Ex (Lk H b kvs od) H' ∧ ∃ pk, H' p = some (.dK pk) ∧ Paired (RepF K H') (fs.take i) pk)
      (fun od => ⟨⟨_, _, _, _, _, rfl⟩, eL od, [], by unfold Lk; rw [upd_ne hpb]; exact h1, .nil⟩) (fun od i σ' H' q => Lk.at q.2.1) ?_ ?_
    · rintro od i ky v σ' H' Tp hi ⟨⟨v2, v3, v4, v5, v6, rfl⟩, p1, pk, p2, p3⟩ hT D hD
      obtain ⟨c, hc, hrep⟩ : ∃ c, fs[i]? = some c ∧ RepF K H c (ky, v) := by
        have hv : (kvs.map fun p => p.2)[i]? = some v := by rw [List.getElem?_map, hi]; rfl
        obtain ⟨c, h1, h2⟩ := pairA_get keyF f2 hv
        have hk2 : (kvs.map (·.1))[i]? = some ky := by rw [List.getElem?_map, hi]; rfl
        rw [pairF_keys f2, List.getElem?_map, List.getElem?_map, h1] at hk2
        cases hk2
        exact ⟨c, h1, h2⟩
      have hrep : RepF K (upd H' Tp (.tup [kV ky, v])) c (ky, v) := hrep.le ((Le.lock f1).trans (Le.of (p1.trans (Ex.new hT))))
      obtain ⟨h0, t, pt, bt, rfl, g1, g2, g3⟩ := hrep
      replace h0 : ky = Sum.inr c.1 := h0
      subst h0
      have cr := hfr.fn c (List.mem_of_getElem? hc)
      have hTp : Tp ≠ p := fun z => by subst z; rw [p2] at hT; cases hT
      refine ⟨Tp, _, rfl, st_of upd_same, rfl, _, _, rfl, _, _, rfl, ⟨t, _, rfl, g1, rfl, _, _, rfl, _, _, rfl, _, _, rfl, rfl, rfl, ?_⟩⟩
      generalize hH2 : upd H' Tp (.tup [kV (Sum.inr c.1), .ref t]) = H2 at g1 g2 g3
      have e2 : Ex H' H2 := by rw [← hH2]; exact Ex.new hT
      have p2' : H2 p = some (.dK pk) := e2 _ _ p2
      refine q_asgL (el_callU (eu_tup (ea_cons (ev_var rfl) (ea_cons (ev_var rfl) ea_nil)) (show 2 ≤ 100000 by decide)) fun q H3 e3 h3 => l_free_names (repX_fn (st_of h3) (ex_t e3 g2) (g3.le (Le.of e3)) cr.ps.2.2)) fun l H3 hl e3 h3 => ?_
      have hc0 : SpV (sp_count_lasts K) [.ref bt] H3 (.int 0) := v_count_lasts (g3.le (Le.of e3))
      refine q_no (et_test (ev_is (ev_op (ev_call (ea_cons (ev_var rfl) ea_nil) hc0) (ev_cb (ea_cons (ev_var rfl) ea_nil) (rc_lenS (.inl (sq_of h3)))) rv_I0) (by congr 1))) fun H4 e4 => ?_
      refine ⟨_, rfl, _, rfl, _, rfl, _, rfl, bt, _, c.2.blk, rfl, g3.le (Le.of (e3.trans e4)), fun bn H5 hbn e5 hb5 => ⟨(show 3 ≤ sizeLine by decide), fun tn htn => ?_⟩⟩
      have e6 : Ex H2 (upd H5 tn (.tup [.ref pt, .int c.2.lvl, .ref bn])) := ((e3.trans e4).trans e5).trans (Ex.new htn)
      have p6 := e6 _ _ p2'
      have nf : valV pk (Sum.inr c.1 : Key) = none := valV_fresh keyF p3 (take_fresh hfr.nd hc)
      have hpl : pk.length = (fs.take i).length := (Paired.length p3).symm
      have hpl2 : (fs.take i).length ≤ 12 := by rw [List.length_take]; have := hfr.len.2; omega
      refine ⟨_, rfl, _, rfl, p, _, rfl, DPut.k (k := Sum.inr c.1) p6 (sz_lt (by omega)), hD _ _ ⟨⟨_, _, _, _, _, rfl⟩, Ex.mut ((p1.trans e2).trans e6) (hLp od), _, upd_same, ?_⟩⟩
      rw [putK_new _ nf, List.take_add_one, hc, Option.toList_some]
      refine paired_snoc (Paired.imp (fun _ _ r => RepF.leT (fun a xs => sqT_put p6) (RepF.le (Le.of (e2.trans e6)) r)) p3) ⟨rfl, tn, pt, bn, rfl, sqT_put p6 (st_of upd_same), sqT_put p6 (ex_t e6 g2), ?_⟩
      exact (hb5.le (Le.of (Ex.new htn))).leT fun a xs => sqT_put p6
    · rintro od σ' H' ⟨⟨v2, v3, v4, v5, v6, rfl⟩, p1, pk, p2, p3⟩
      have e0 : Ex H (upd H' b (.dK kvs)) := Lk.back f1 p1
      have p2' : upd H' b (.dK kvs) p = some (.dK pk) := by rw [upd_ne hpb]; exact p2
      have hlen : kvs.length = fs.length := (Paired.length f2).symm
      rw [hlen, List.take_length] at p3
      refine s_ret (v := .ref p) (ev_var rfl) fun H2 e2 => k p H2 hp (e0.trans e2) ⟨pk, e2 _ _ p2', Paired.imp (fun _ _ r => RepF.le (Le.of e2) (RepF.leT (fun a xs h => ?_) r)) p3⟩
      have hb : H' b = some (.frz od (.dK kvs)) := Lk.at p1
      rcases h with (h | ⟨o, h⟩) | h
      · exact .inl (.inl (by rw [upd_ne (fun z => by subst z; rw [hb] at h; cases h)]; exact h))
      · exact .inl (.inr ⟨o, by rw [upd_ne (fun z => by subst z; rw [hb] at h; cases h)]; exact h⟩)
      · exact .inr h
end
end EE
set_option Elab.async false
set_option linter.all false
set_option maxRecDepth 100000
set_option maxHeartbeats 4000000
namespace EE
open PySem L2 Evl
open C8 (Cal cal0 pe_c pe_gc fnScope_by)
section
variable {J : It} {n : Nat} {G : Hp → Prop} {Y : Nat → Hp → V → Hp → Prop}
/-- a dict comprehension over a walk -/
theorem dc_it (w : Walk J n G Y) {g : TG} {tt : TT} {tk tv : TE} {vs : List Nat} {σ : L2.St} {H1 : Hp} {D : Addr} {Qd : Hp → Prop} (Pv : Nat → Hp → Prop) (h0 : Pv 0 (upd H1 D (.dK []))) (hG : ∀ i H, i ≤ n → Pv i H → G H)
    (hs : ∀ i x H H', i < n → Pv i H → Y i H x H' → g x (wipe σ vs) H' fun σ2 H2 => wipe σ2 vs = wipe σ vs ∧ tt σ2 H2 fun b H3 =>
      if b = true then tk σ2 H3 fun y H4 => tv σ2 H4 fun z H5 => ∃ kvs k, y = kV k ∧ H5 D = some (.dK kvs) ∧ kvs.length < sizeLine ∧ Pv (i + 1) (upd H5 D (.dK (putK kvs k z))) else Pv (i + 1) H3) (hd : ∀ H, Pv n H → Qd H) :
    ∃ W : Nat → Nat → Hp → Prop, (∃ m, W 0 m (upd H1 D (.dK []))) ∧ ∀ i m H, W i m H →
      (J.stop i H ∧ Qd H) ∨ (J.go i H ∧ ∃ Nx : Hp → Prop, (∀ H', Nx H' → ∃ m', m' < m ∧ W (i + 1) m' H') ∧ ∀ x H', J.yld i H x H' → g x (wipe σ vs) H' fun σ2 H2 => wipe σ2 vs = wipe σ vs ∧ tt σ2 H2 fun b H3 =>
        if b = true then tk σ2 H3 fun y H4 => tv σ2 H4 fun z H5 => ∃ kvs k, y = kV k ∧ H5 D = some (.dK kvs) ∧ kvs.length < sizeLine ∧ Nx (upd H5 D (.dK (putK kvs k z))) else Nx H3) := by
  refine ⟨fun i m H => m = n - i ∧ i ≤ n ∧ Pv i H, ⟨n, by simp, Nat.zero_le _, h0⟩, ?_⟩
  rintro i m H ⟨rfl, hi, p⟩
  have q := hG i H hi p
  by_cases hlt : i < n
  · exact .inr ⟨w.goes i H hlt q, Pv (i + 1), fun H' p' => ⟨n - (i + 1), by omega, rfl, hlt, p'⟩, fun x H' y => hs i x H H' hlt p (w.yields i H x H' hlt q y)⟩
  · have e : i = n := by omega
    subst e
    exact .inl ⟨w.stops H q, hd H p⟩
end
section
variable {K : PySem.W.Frag} {σ : L2.St} {H H' : Hp} {ta tb tc te tv : TE} {t u : TT} {x y z v : V}
theorem keys_fresh {R : Str → Key × V → Prop} (hk : ∀ c p, R c p → p.1 = Sum.inr c) {n : Str} : ∀ {cs : List Str} {kvs : List (Key × V)}, Paired R cs kvs → n ∉ cs → valV kvs (Sum.inr n : Key) = none
  | [], [], .nil, _ => rfl
  | c :: cs, p :: kvs, .cons h t, hn => by
    have e : ¬ p.1 = (Sum.inr n : Key) := fun z => by
      rw [hk _ _ h] at z
      exact hn (by rw [Sum.inr.inj z]; exact List.mem_cons_self ..)
    rw [valV_neg e]
    exact keys_fresh hk t (fun z => hn (List.mem_cons_of_mem _ z))
theorem takes_fresh {ks : List Str} {i : Nat} {c : Str} (nd : ks.Nodup) (h : ks[i]? = some c) : c ∉ ks.take i := by
  intro z
  have hi : i < ks.length := (List.getElem?_eq_some_iff.mp h).1
  have e : ks = ks.take i ++ c :: ks.drop (i + 1) := by
    have := List.take_append_drop i ks
    rw [List.drop_eq_getElem_cons hi, (List.getElem?_eq_some_iff.mp h).2] at this
    exact this.symm
  rw [e] at nd
  exact (List.nodup_append.mp nd).2.2 _ z _ (List.mem_cons_self ..) rfl
/-- {n: .. for n in d}: the values new objects as U tells, or of no matter -/
def DcOut (N : Addr → Prop) (H : Hp) (U : Str → Option HO) (n : Str) (kv : Key × V) : Prop := kv.1 = Sum.inr n ∧ ∀ u, U n = some u → ∃ a, kv.2 = .ref a ∧ N a ∧ H a = some u
theorem DcOut.ex {N : Addr → Prop} {U : Str → Option HO} {n : Str} {kv : Key × V} (e : Ex H H') (h : DcOut N H U n kv) : DcOut N H' U n kv := ⟨h.1, fun u hu => let ⟨a, h1, h3, h2⟩ := h.2 u hu; ⟨a, h1, h3, e _ _ h2⟩⟩
theorem q_dcKeys {d : Addr} {kvs : List (Key × V)} {ks : List Str} {i j : Nat} {vs : List Nat} {Q : VK} (hv : σ[i]? = some (some (.ref d))) (hd : H d = some (.dK kvs)) (hk : kvs.map (·.1) = ks.map Sum.inr) (nd : ks.Nodup) (hz : ks.length ≤ 1000)
    (hw : ∀ x, wipe ((wipe σ vs).set j (some x)) vs = wipe σ vs) (hj : ∀ x, ((wipe σ vs).set j (some x))[j]? = some (some x)) (U : Str → Option HO) (hU : ∀ n u, U n = some u → ∀ o x, u ≠ .frz o x) (N : Addr → Prop) (hN : ∀ a, H a = none → N a)
    (body : ∀ od n, n ∈ ks → ∀ H1, Ex (Lk H d kvs od) H1 → ∀ Q : VK, (∀ v H2, Ex H1 H2 → (∀ u, U n = some u → ∃ a, v = .ref a ∧ H1 a = none ∧ H2 a = some u) → Q v H2) → tv ((wipe σ vs).set j (some (.str n))) H1 Q)
    (k : ∀ p H2 out, H p = none → Ex H H2 → H2 p = some (.dK out) → Paired (DcOut N H2 U) ks out → Q (.ref p) H2) :
    tLockE (tDc (iKeys (tVar i)) (gName j) tYes (tVar j) tv vs) σ H Q :=
  ⟨d, .dK kvs, hd, trivial, fun od => ⟨.ref d, hv, d, od, rfl, .inl ⟨kvs, upd_same, fun D hD => by
    have hDd : D ≠ d := fun z => by subst z; rw [upd_same] at hD; cases hD
    have hD0 : H D = none := by rw [upd_ne hDd] at hD; exact hD
    have hlen : kvs.length = ks.length := by have := congrArg List.length hk; rw [List.length_map, List.length_map] at this; exact this
    refine dc_it (walk_keys (d := d) (o := od) (kvs := kvs)) (fun i H' => Ex (Lk H d kvs od) H' ∧ ∃ out, H' D = some (.dK out) ∧ Paired (fun n (kv : Key × V) => kv.1 = Sum.inr n ∧ ∀ u, U n = some u → ∃ a, kv.2 = .ref a ∧ N a ∧ a ≠ D ∧ H' a = some u) (ks.take i) out)
      ⟨Ex.new hD, [], upd_same, .nil⟩ (fun i H' _ p => Lk.at p.1) (fun i x H' H'' hi p y => ?_) fun H' p => ?_
    · obtain ⟨rfl, k1, v1, hkv, rfl⟩ := y
      obtain ⟨p1, out, p2, p3⟩ := p
      obtain ⟨n, hn, hk1⟩ : ∃ n, ks[i]? = some n ∧ k1 = Sum.inr n := by
        have e : (kvs.map (·.1))[i]? = some k1 := by rw [List.getElem?_map, hkv]; rfl
        rw [hk, List.getElem?_map] at e
        cases hh : ks[i]? with
        | none => rw [hh] at e; cases e
        | some n => rw [hh] at e; cases e; exact ⟨n, rfl, rfl⟩
      subst hk1
      have hmem : n ∈ ks := List.mem_of_getElem? hn
      refine ⟨hw _, ?_⟩
      dsimp only [tYes]
      rw [if_pos rfl]
      refine ⟨_, hj _, body od n hmem _ p1 _ fun v2 H2 e2 hu2 => ⟨out, Sum.inr n, rfl, e2 _ _ p2, ?_, Ex.mut (p1.trans e2) hD, _, upd_same, ?_⟩⟩
      · have := Paired.length p3
        rw [List.length_take] at this
        exact sz_lt (by omega)
      · rw [putK_new _ (keys_fresh (fun _ _ r => r.1) p3 (takes_fresh nd hn)), List.take_add_one, hn, Option.toList_some]
        exact paired_snoc (Paired.imp (fun n' kv r => ⟨r.1, fun u hu => by
            obtain ⟨a, q1, qN, q2, q3⟩ := r.2 u hu
            exact ⟨a, q1, qN, q2, by rw [upd_ne q2]; exact e2 _ _ q3⟩⟩) p3) ⟨rfl, fun u hu => by
          obtain ⟨a, q1, q2, q3⟩ := hu2 u hu
          have hne : a ≠ D := fun z => by subst z; rw [p2] at q2; cases q2
          have qa := fresh_back p1 q2
          have had : a ≠ d := fun z => by subst z; rw [Lk, upd_same] at qa; cases qa
          exact ⟨a, q1, hN a (by rw [Lk, upd_ne had] at qa; exact qa), hne, by rw [upd_ne hne]; exact q3⟩⟩
    · obtain ⟨p1, out, p2, p3⟩ := p
      refine ⟨Lk.at p1, k D _ out hD0 (Lk.back hd p1) (by rw [upd_ne hDd]; exact p2) ?_⟩
      rw [hlen, List.take_length] at p3
      refine Paired.imp (fun n' kv r => ⟨r.1, fun u hu => ?_⟩) p3
      obtain ⟨a, q1, qN, q2, q3⟩ := r.2 u hu
      exact ⟨a, q1, qN, by rw [upd_ne (fun z => by subst z; rw [Lk.at p1] at q3; cases q3; exact hU n' _ hu _ _ rfl)]; exact q3⟩⟩⟩⟩
end
end EE
set_option Elab.async false
set_option linter.all false
set_option maxRecDepth 100000
set_option maxHeartbeats 4000000
/-! enumerate(t), t a tuple -/
namespace EE
open PySem PySem.Spec PyProof.Rows L2
set_option maxHeartbeats 1000000 in
theorem meets_enum1 {v : Value} {o : Obj} {H : Heap → Prop} (B : Begins v o H) :
    Meets (Builtin.«enumerate.__new__» ⟨[.type "enumerate", v], []⟩) (fun _ R s => H s.heap ∧ R (.ok (.ret (.ref (s.heap.push o).objs.size)))
      { s with heap := (s.heap.push o).push { cls := .type "enumerate", data := .fields #[.none, .bool false, .ref s.heap.objs.size, rawInt 0, .none, .none] } }) := .of_wp fun prog w A R s h => by
  obtain ⟨hp, g, d, tk, os⟩ := s
  obtain ⟨h1, h⟩ := h
  have hsub := sub_enumerate
  have q2 : ∀ {A' : Around} {E : Value → Shared → Prop} {Q : Value → Shared → Prop}, Q (.ref hp.objs.size) ⟨hp.push o, g, d, tk, os⟩ → wpAny (model prog w) A' (pyIter v) Q E ⟨hp, g, d, tk, os⟩ := fun q => B.iter prog w _ _ ⟨hp, g, d, tk, os⟩ _ h1 q
  wp_walk using q2
  refine wpAny_stack_any fun st => wpAny_pure ?_
  split
  · rename_i c _ _ _ _ _
    cases (c == Value.type "enumerate") <;> (wp_walk using q2; exact ⟨_, rfl, h⟩)
  · wp_walk using q2
    exact ⟨_, rfl, h⟩
section
variable {prog : Program} {w : World} {A : Around} {E : Value → Shared → Prop} {s : Shared}
theorem enum1_begins {v : Value} {o : Obj} {H : Heap → Prop} {Q : Value → Shared → Prop} (B : Begins v o H) (h1 : H s.heap)
    (h : ∀ h', IsEnum h' (s.heap.objs.size + 1) s.heap.objs.size 0 .none → h'.get? s.heap.objs.size = some o → h'.objs.size = s.heap.objs.size + 2 → (∀ b o, s.heap.get? b = some o → h'.get? b = some o) → Q (.ref (s.heap.objs.size + 1)) { s with heap := h' }) :
    wpAny (model prog w) A (call (.type "enumerate") [v]) Q E s := by
  refine callType_new F.called_enumerate (by decide) (F.typeCall_enumerate_1 _) (F.newCall_enumerate_1 _) (fun obj => F.args_object_init_2 obj _) F.entry_enumerate_new (meets_enum1 B) ⟨h1, ?_⟩
  have hz : (s.heap.push o).objs.size = s.heap.objs.size + 1 := Heap.size_push ..
  show _ ∧ _
  rw [hz]
  have he : IsEnum ((s.heap.push o).push { cls := .type "enumerate", data := .fields #[.none, .bool false, .ref s.heap.objs.size, rawInt 0, .none, .none] }) (s.heap.objs.size + 1) s.heap.objs.size 0 .none := by
    have e := Heap.get?_push_size (s.heap.push o) (o := { cls := .type "enumerate", data := .fields #[.none, .bool false, .ref s.heap.objs.size, rawInt 0, .none, .none] }) rfl
    rw [hz] at e
    exact e
  exact ⟨⟨_, he, rfl⟩, h _ he (Heap.get?_push_of_some _ (Heap.get?_push_size _ B.free)) (by rw [Heap.size_push, hz]) fun b o x => Heap.get?_push_of_some _ (Heap.get?_push_of_some _ x)⟩
end
def IteT (K : PySem.W.Frag) (a : Addr) : It :=
  ⟨fun i H => ∃ (xs : List V) (x : V), SqT K H a xs ∧ xs[i]? = some x, fun i H v H' => ∃ T x, v = .ref T ∧ H T = none ∧ H' = upd H T (.tup [.int (i : Nat), x]) ∧ ∀ xs, SqT K H a xs → xs[i]? = some x, fun i H => ∃ xs : List V, SqT K H a xs ∧ xs.length = i⟩
theorem turn_enumT {P : Program} {w : World} {K : PySem.W.Frag} {elts : List Expr} {kk : Nat} {tpos : Pos} (a e it : Addr) :
    Turn P w K (.Tuple elts kk tpos) (IteT K a) [e, it] e (fun i h => (∃ old, IsEnum h e it ((i : Nat) : Int) old) ∧ h.IsTupleIter it a i ∧ e ≠ it ∧ a ≠ it ∧ a ≠ e) where
  mem := by simp
  obj := fun i h st b hb => by
    obtain ⟨⟨old, he⟩, ⟨o, ho, hc, hd⟩, _⟩ := st
    have e' : b = e ∨ b = it := by simpa using hb
    rcases e' with z | z
    · subst z; exact ⟨_, he, fun v q => nomatch q⟩
    · subst z; exact ⟨o, ho, fun v q => by rw [hd] at q; cases q⟩
  keep := fun i h h' st k => let ⟨⟨old, he⟩, hi, hne⟩ := st; ⟨⟨old, k e (by simp) _ he⟩, hi.at fun o q => k it (by simp) o q, hne⟩
  item := by
    intro X hP hw hK hc i pins s σ H E I hf st hg
    subst hP hw hK
    obtain ⟨⟨old, he⟩, hit, hne, hai, hae⟩ := st
    obtain ⟨xs, x, hq, hx⟩ := hg
    obtain ⟨its, rv, p, hz⟩ := I.tuple hq
    obtain ⟨u, hu, ru⟩ := rv.get hx
    have hel : e < s.heap.objs.size := Heap.lt_size he
    have hil : it < s.heap.objs.size := by obtain ⟨_, q, _⟩ := hit; exact Heap.lt_size q
    have hlt : i < its.toArray.size := by rw [List.size_toArray]; exact (List.getElem?_eq_some_iff.mp hu).1
    refine wpAny_pyNext_enum_itemC (Draws.tuple (A := X.A.in1) (by simp [I.ok.hd hc]) it a hai its.toArray) he ⟨hit, p⟩ hlt hne (by simp [hne, Ne.symm hae]) fun x' h' tk hx' ho hst' hT hsz hk => ?_
    obtain rfl : u = x' := by
      have : its.toArray[i]? = some x' := hx'
      rw [List.getElem?_toArray, hu] at this
      exact Option.some.inj this
    refine ⟨_, rfl, wpAny_letOwnedTupleGo_enum (s := { s with heap := h', toks := tk + 1 }) ho fun h'' he' sb => ?_⟩
    have hT2 : h''.get? s.heap.objs.size = some { cls := .type "tuple", data := .seq #[.int i tk, u] } := (sb.2 _ (Nat.ne_of_gt hel)).trans hT
    have new : ObjOk X.prog X.w (upd H s.heap.objs.size (.tup [.int (i : Nat), x])) h'' s.heap.objs.size (.tup [.int (i : Nat), x]) :=
      ⟨by show 2 ≤ sizeLine; decide, [.int i tk, u], .cons ⟨_, rfl⟩ (.cons ru .nil), ⟨_, hT2, rfl, _, rfl⟩⟩
    have I1 : Inv X pins σ (upd H s.heap.objs.size (.tup [.int (i : Nat), x])) { s with heap := h'', toks := tk + 1 } :=
      I.turnedNew (ch := [e, it]) (fun b ob hb q => (sb.2 b (fun z => hb (by simp [z]))).trans (hk b ob (fun z => hb (by simp [z])) (fun z => hb (by simp [z])) q)) hf (Nat.le_refl _) new
    refine ⟨.ref s.heap.objs.size, _, I1, rfl, ⟨_, x, rfl, I.hok.fresh (Nat.le_refl _), rfl, fun ys hy => by rw [I.tuple_inj hy hq]; exact hx⟩, ⟨⟨u, ?_⟩, hst'.1.at fun o q => (sb.2 it (Ne.symm hne)).trans q, hne, hai, hae⟩, fun b hb => ?_⟩
    · have e1 : ((i + 1 : Nat) : Int) = (i : Int) + 1 := by omega
      rw [e1]; exact he'
    · have hb' : b < s.heap.objs.size := by
        have e' : b = e ∨ b = it := by simpa using hb
        rcases e' with z | z
        · subst z; exact hel
        · subst z; exact hil
      rw [upd_ne (Nat.ne_of_lt hb')]
      exact (hf b hb).1
  done := by
    intro X hP hw hK hc i pins s σ H E I hf st hg
    subst hP hw hK
    obtain ⟨⟨old, he⟩, hit, hne, hai, hae⟩ := st
    obtain ⟨xs, hq, hx⟩ := hg
    obtain ⟨its, rv, p, hz⟩ := I.tuple hq
    obtain ⟨f0, f1, f2, f3, f4, f5⟩ := hf it (by simp)
    have hl : its.toArray.size = i := by rw [List.size_toArray, ← rv.length]; exact hx
    have D := Draws.tuple (prog := X.prog) (w := X.w) (A := X.A.in1) (by simp [I.ok.hd hc]) it a hai its.toArray
    rw [hl] at D
    exact wpAny_pyNext_enum_endD D he ⟨hit, p⟩ fun h' eb => ⟨rfl, I.turned (t' := s.toks) (fun b o hb q => eb b o hb q) f0 f1 f3 f4 f5⟩
  self := fun A i s Q E st h => let ⟨⟨_, he⟩, _⟩ := st; wpAny_pyIter_enum he h
def iEnumT (K : PySem.W.Frag) (ta : TA) : TI := fun σ H R => ta σ H fun vs H1 => ∃ a xs, vs = [.ref a] ∧ SqT K H1 a xs ∧ R (IteT K a) H1
theorem pi_enumT {X : Cx} {e : Expr} {ta : TA} {p pos tpos : Pos} {elts : List Expr} {kk : Nat} (hg : Gl X "enumerate") (hm : X.mg "enumerate" = none) (ha : PA X [e] ta) (hs : starEach [e] X.env = [(false, eval e X.env)] := by rfl) :
    PI X (.Tuple elts kk tpos) (.Call (.Name "enumerate" p) [e] [] pos) (iEnumT X.K ta) := by
  refine ⟨fun pins s σ H R I h => Call_ (ld_blt I hg hm boot_enumerate (PyProof.Rows.callWith_type1 (thn (ha.run pos pins s σ H _ I h) fun us s1 ⟨vs, H1, I1, r1, q1⟩ => ?_) hs rfl))⟩
  obtain ⟨a, xs, rfl, hq, q⟩ := q1
  cases r1 with
  | cons r rr =>
    cases rr
    cases r
    obtain ⟨its, rv, p', hz⟩ := I1.tuple hq
    refine enum1_begins (begins_tuple a its.toArray) p' fun h' he hit hsz hk => wpAny_pyIter_enum he ?_
    have I2 : Inv X pins σ H1 { s1 with heap := h' } := I1.kept (t' := s1.toks) hk
    have hlt : a < s1.heap.objs.size := by obtain ⟨_, z, _⟩ := p'; exact Heap.lt_size z
    refine ⟨s1.heap.objs.size + 1, [s1.heap.objs.size + 1, s1.heap.objs.size], _, _, H1, rfl, I2, turn_enumT a (s1.heap.objs.size + 1) s1.heap.objs.size,
      ⟨⟨.none, he⟩, ⟨_, hit, rfl, rfl⟩, Nat.succ_ne_self _, Nat.ne_of_lt hlt, Nat.ne_of_lt (Nat.lt_succ_of_lt hlt)⟩, fun b hb => ?_, q⟩
    have hle : s1.heap.objs.size ≤ b := by
      have e' : b = s1.heap.objs.size + 1 ∨ b = s1.heap.objs.size := by simpa using hb
      rcases e' with z | z
      · rw [z]; exact Nat.le_add_right _ _
      · rw [z]; exact Nat.le_refl _
    exact I1.fpOk hle (I1.hok.fresh hle)
theorem walk_enumT {K : PySem.W.Frag} {a : Addr} {xs : List V} : Walk (IteT K a) xs.length (fun H => SqT K H a xs) (YPair (fun i => some (.int (i : Nat))) (fun i => xs[i]?)) := by
  refine ⟨fun i _ hi q => ⟨xs, xs[i], q, by simp [hi]⟩, fun _ q => ⟨xs, q, rfl⟩, fun i H v H' _ q y => ?_⟩
  obtain ⟨T, x, h1, h2, h3, h4⟩ := y
  exact ⟨T, .int (i : Nat), x, h1, h2, h3, rfl, h4 xs q⟩
end EE
set_option Elab.async false
set_option linter.all false
set_option maxRecDepth 100000
set_option maxHeartbeats 4000000
namespace EE
open PySem L2 Evl
open C8 (Cal Mak cal0 mak0 pe_c pe_mk pe_gc fnScope_by)
/-- a class that is made by its name -/
structure MkC (K : PySem.W.Frag) (mg : Str → Option Value) (x qual : Str) (st : Stmt) (ps fields : List Str) (C : Addr) : Prop where
  mgc : mg x = some (.ref C)
  cls : Cls K C
  ex : ∃ f fd, Mk K C f ∧ C8.Fun K "__init__" qual st f fd ∧ Binds K fd ps []
  no : ∀ n ∈ fields, NoAttr K C n
abbrev F_Spot : List Str := ["statement", "expressions", "after", "first", "second", "catch"]
structure Txt2 (w : World) (K : PySem.W.Frag) (mg : Str → Option Value) extends Txt w K mg where
  m_Spot : ∃ C, MkC K mg "Spot" "Spot.__init__" s_Spot_init P_Spot_init F_Spot C
  enumT : mg "enumerate" = none
section
variable {K : PySem.W.Frag} {σ : L2.St} {H H' : Hp} {ta tb tc te tv : TE} {t u : TT} {x y z v : V}
theorem q_fld {D : Ends} {tz : TS} {a C dx : Addr} {fs : List (Str × V)} {f : Str} (ha : H a = some (.ins C dx fs)) (ho : Ev ta σ H (.ref a)) (h : Ev te σ H v) (c : Cls K C) (n : NoAttr K C f) (hz : fs.length < 1000)
    (k : ∀ H1, Ex H H1 → tz D σ (upd H1 a (.ins C dx (putF f v fs)))) : tSeq (sFld K ta te f) tz D σ H := h H (Ex.refl H) _ fun H1 e1 => ho H1 e1 _ fun H2 e2 => ⟨a, C, dx, fs, rfl, e2 _ _ (e1 _ _ ha), c, n, hz, k H2 (e1.trans e2)⟩
theorem s_fld {D : Ends} {a C dx : Addr} {fs : List (Str × V)} {f : Str} (ha : H a = some (.ins C dx fs)) (ho : Ev ta σ H (.ref a)) (h : Ev te σ H v) (c : Cls K C) (n : NoAttr K C f) (hz : fs.length < 1000)
    (k : ∀ H1, Ex H H1 → D.nx σ (upd H1 a (.ins C dx (putF f v fs)))) : sFld K ta te f D σ H := h H (Ex.refl H) _ fun H1 e1 => ho H1 e1 _ fun H2 e2 => ⟨a, C, dx, fs, rfl, e2 _ _ (e1 _ _ ha), c, n, hz, k H2 (e1.trans e2)⟩
/-- a value of no matter -/
def EvN (te : TE) (σ : L2.St) (H : Hp) : Prop := ∀ H1, Ex H H1 → ∀ Q : VK, (∀ v H2, Ex H1 H2 → Q v H2) → te σ H1 Q
theorem EvN.of (h : Ev te σ H v) : EvN te σ H := fun H1 e Q q => h H1 e _ fun H2 e2 => q v H2 e2
theorem EvN.ofU {xs : List V} (h : EvU te σ H xs) : EvN te σ H := fun H1 e Q q => h H1 e _ fun p H2 _ e2 _ => q _ H2 e2
theorem q_fldN {D : Ends} {tz : TS} {a C dx : Addr} {fs : List (Str × V)} {f : Str} (ha : H a = some (.ins C dx fs)) (ho : Ev ta σ H (.ref a)) (h : EvN te σ H) (c : Cls K C) (n : NoAttr K C f) (hz : fs.length < 1000)
    (k : ∀ v H1, Ex H H1 → tz D σ (upd H1 a (.ins C dx (putF f v fs)))) : tSeq (sFld K ta te f) tz D σ H := h H (Ex.refl H) _ fun v H1 e1 => ho H1 e1 _ fun H2 e2 => ⟨a, C, dx, fs, rfl, e2 _ _ (e1 _ _ ha), c, n, hz, k v H2 (e1.trans e2)⟩
theorem q_fldO {D : Ends} {tz : TS} {x C dx : Addr} {fs : List (Str × V)} {f : Str} {H0 : Hp} (hx : H0 x = none) (e0 : Ex H0 H) (ha : H x = some (.ins C dx fs)) (ho : σ[0]? = some (some (.ref x))) (h : EvN te σ H) (c : Cls K C) (n : NoAttr K C f) (hz : fs.length < 1000)
    (k : ∀ v G, Ex H0 G → G x = some (.ins C dx (putF f v fs)) → tz D σ G) : tSeq (sFld K (tVar 0) te f) tz D σ H := h H (Ex.refl H) _ fun v H1 e1 => ⟨_, ho, x, C, dx, fs, rfl, e1 _ _ ha, c, n, hz, k v _ ((e0.trans e1).mut hx) upd_same⟩
theorem s_fldO {D : Ends} {x C dx : Addr} {fs : List (Str × V)} {f : Str} {H0 : Hp} (hx : H0 x = none) (e0 : Ex H0 H) (ha : H x = some (.ins C dx fs)) (ho : σ[0]? = some (some (.ref x))) (h : EvN te σ H) (c : Cls K C) (n : NoAttr K C f) (hz : fs.length < 1000)
    (k : ∀ v G, Ex H0 G → G x = some (.ins C dx (putF f v fs)) → D.nx σ G) : sFld K (tVar 0) te f D σ H := h H (Ex.refl H) _ fun v H1 e1 => ⟨_, ho, x, C, dx, fs, rfl, e1 _ _ ha, c, n, hz, k v _ ((e0.trans e1).mut hx) upd_same⟩
theorem putF_le {f : Str} {v : V} {fs : List (Str × V)} {n : Nat} (h : fs.length ≤ n) : (putF f v fs).length ≤ n + 1 := by
  have := length_putF f v fs
  omega
theorem ev_callU1 {sp : Sp} {ys : List V} {E : XK} (h : EvU te σ H ys) (hs : ∀ p H1, Ex H H1 → H1 p = some (.tup ys) → SpV sp [.ref p] H1 z) : Ev (tCall sp [] E (tCons te tNil)) σ H z := fun H1 e Q q =>
  h H1 e _ fun p H2 _ e2 h2 => hs p H2 (e.trans e2) h2 H2 (Ex.refl H2) Q (fun H3 e3 => q H3 (e2.trans e3)) E
/-- an object while it is made: a new one -/
def sp_Spot (K : PySem.W.Frag) (C : Addr) : Sp := fun vs H Q _ => ∃ x s a c H0 dx, vs = [.ref x, .ref s, a, c] ∧ H0 x = none ∧ Ex H0 H ∧ H x = some (.ins C dx []) ∧ (SqT K H0 s [.str "end"] ∨ ∃ y, SqT K H0 s [.str "return", .str y]) ∧ ∀ H2 fs, Ex H0 H2 → H2 x = some (.ins C dx fs) → Q .non H2
theorem ev_mkSpot {C s : Addr} {a c : V} {E : XK} {t : TA} (h : EvA t σ H [.ref s, a, c]) (hs : SqT K H s [.str "end"] ∨ ∃ y, SqT K H s [.str "return", .str y]) : EvN (tMake C (sp_Spot K C) [] E t) σ H := fun H1 e Q q =>
  h H1 e _ fun H2 e2 => fun x dx hx hdx hne => ⟨x, s, a, c, H2, dx, rfl, hx, (Ex.new hdx).mut hx, upd_same, hs.imp (ex_t (e.trans e2)) (fun ⟨y, h⟩ => ⟨y, ex_t (e.trans e2) h⟩), fun H3 fs e3 _ => ⟨rfl, q _ H3 (e2.trans e3)⟩⟩
theorem ev_mkSpotU {C : Addr} {a c : V} {E : XK} {t1 : TE} {t : TA} (h1 : EvU t1 σ H [.str "end"]) (h : EvA t σ H [a, c]) : EvN (tMake C (sp_Spot K C) [] E (tCons t1 t)) σ H := fun H1 e Q q =>
  h1 H1 e _ fun p H2 _ e2 hp => h H2 (e.trans e2) _ fun H3 e3 => fun x dx hx hdx hne => ⟨x, p, a, c, H3, dx, rfl, hx, (Ex.new hdx).mut hx, upd_same, .inl (st_of (e3 _ _ hp)), fun H4 fs e4 _ => ⟨rfl, q _ H4 ((e2.trans e3).trans e4)⟩⟩
end
section
variable {P : Program} {w : World} {K : PySem.W.Frag} {mg : Str → Option Value} {base : Heap}
theorem mk_mak {x qual : Str} {st : Stmt} {N ps fields : List Str} {C : Addr} {k : Nat} {sp : Sp} (D : MkC K mg x qual st ps fields C) (S : FnScope N ps (C8.fnScope st)) (len : ∀ vs H Q E, sp vs H Q E → vs.length = ps.length)
    (hbody : ∀ (f : Addr) (cdv : Value) (A : Around) (outer : List Env) (s : Shared) (H : Hp) (vs : List V) (Q : VK) (E : XK), Room k (A.deeper (PyProof.Rows.envOfC qual (C8.fnScope st) s.heap.objs.size f cdv)) → sp vs H Q E →
      ∃ t, PSs (cxOf C8.CX0 P w K mg base N qual (C8.fnScope st) f cdv A outer s H E).nox (C8.fnBody st) t ∧ t { nx := fun _ H' => Q .non H', rt := Q } (start N vs) H) : Mak P w K mg base (k + 1) x C sp [] := by
  obtain ⟨f, fd, M, F, b⟩ := D.ex
  exact mak0 M D.mgc F b .nil S len (hbody f)
/-! expressions_of -/
def sp_exprs (K : PySem.W.Frag) : Sp := PuU fun vs H xs => ∃ s x, vs = [.ref s] ∧ SqT K H s [.str "return", .str x] ∧ xs = [.str x]
theorem u_exprs {H : Hp} {s : Addr} {x : Str} (h : SqT K H s [.str "return", .str x]) : SpU (sp_exprs K) [.ref s] H [.str x] := spu fun H1 e => ⟨s, x, rfl, ex_t e h, rfl⟩
theorem sc_expressions_of : FnScope N_expressions_of P_expressions_of (C8.fnScope s_expressions_of) := fnScope_by (by decide +kernel)
theorem ok_expressions_of (T : Txt w K mg) : Cal P w K mg base 2 "expressions_of" (sp_exprs K) [] := by
  refine mk_cal T.d_expressions_of sc_expressions_of (fun vs H Q E h => ?_) (fun f cdv A outer s H vs Q E hr h => ?_)
  · obtain ⟨_, ⟨_, _, rfl, _⟩, _⟩ := h
    rfl
  · obtain ⟨_, ⟨s0, x, rfl, hs, rfl⟩, k⟩ := h
    have nd := sc_expressions_of.nd
    refine ⟨_, pss_cons (ps_set (i := 1) nd rfl (Or.inl rfl) (pe_lst pa_nil))
      (pss_cons (ps_for PassesOwn.never rfl (pi_list (pe_c (ok_parts_of T) hr (by decide) (by rfl) (pa_cons (pv 0) pa_nil))) (pg_tup (by rfl) (pgs_cons (pg_name (i := 2) nd rfl (Or.inl rfl)) (pgs_cons (pg_name (i := 3) nd rfl (Or.inl rfl)) pgs_nil)))
        (pss_one (ps_if (pt_cmpR op_eq (pv 2) pe_str (nomark _)) (pss_one (ps_expr (pe_bm PySem.F.plainAttrs_list PySem.F.slot_list_append PySem.F.type_list_append mt_append (pv 1) (pa_cons (pv 3) pa_nil)))) pss_never)))
      (pss_one (ps_ret (pe_callTy call_tuple_of (by rfl) T.tupT (by decide +kernel) (pa_cons (pv 1) pa_nil))))), ?_⟩
    refine q_asgL (el_lst ea_nil (show 0 ≤ 100000 by decide)) fun l H1 hl e1 h1 => ?_
    refine q_forParts (x := x) (ev_var rfl) (ex_t e1 hs) fun l2 H2 hl2 e2 _ t h2 D hD => ?_
    have hne : l2 ≠ l := fun z => by subst z; rw [h1] at hl2; cases hl2
    refine s_if (b := true) (et_test (ev_is (ev_op (ev_var (v := .str "expression") rfl) ev_c (rv_eq rfl)) (by decide))) (fun _ H3 e3 => ?_) (fun z => nomatch z)
    refine s_app (e3 _ _ (e2 _ _ h1)) (ev_var rfl) (ev_var (v := .str x) rfl) (show 0 < 100000 by decide) fun H4 e4 => hD _ _ (by rw [upd_ne hne]; exact e4 _ _ (e3 _ _ h2)) ?_
    have e0 : Ex H (upd H4 l (.lst ([] ++ [.str x]))) := Ex.mut (((e1.trans e2).trans e3).trans e4) hl
    exact s_retU (rcu_tupleOf (ev_var rfl) (sq_of upd_same)) fun q H5 hq e5 h5 => k q H5 (fresh_back e0 hq) (e0.trans e5) h5
/-! Spot -/
theorem sc_Spot : FnScope N_Spot_init P_Spot_init (C8.fnScope s_Spot_init) := fnScope_by (by decide +kernel)
theorem mk_Spot (T : Txt w K mg) {C : Addr} (M : MkC K mg "Spot" "Spot.__init__" s_Spot_init P_Spot_init F_Spot C) : Mak P w K mg base 3 "Spot" C (sp_Spot K C) [] := by
  refine mk_mak M sc_Spot (fun vs H Q E h => ?_) (fun f cdv A outer s H vs Q E hr h => ?_)
  · obtain ⟨_, _, _, _, _, _, rfl, _⟩ := h
    rfl
  · obtain ⟨x, s0, a, c, H0, dx, rfl, hx, e0, h0, hs, k⟩ := h
    have nd := sc_Spot.nd
    refine ⟨_, pss_cons (ps_fld (pv 0) (pv 1) (by rfl))
      (pss_cons (ps_fld (pv 0) (pe_ifExp (pt_cmpR op_eq (pe_ix ix_tup (pv 1) pe_int (fun _ _ => rfl)) pe_str (nomark _)) (pe_tup pa_nil) (pe_c (ok_expressions_of T) hr (by decide) (by rfl) (pa_cons (pv 1) pa_nil))) (by rfl))
      (pss_cons (ps_fld (pv 0) (pv 2) (by rfl))
      (pss_cons (ps_fld (pv 0) pe_non (by rfl))
      (pss_cons (ps_fld (pv 0) pe_non (by rfl))
      (pss_one (ps_fld (pv 0) (pv 3) (by rfl))))))), ?_⟩
    have no : ∀ n ∈ F_Spot, NoAttr K C n := M.no
    refine q_fldO hx e0 h0 rfl (.of (ev_var (v := .ref s0) rfl)) M.cls (no _ (by decide)) (by decide) fun v1 G1 f1 g1 => ?_
    refine q_fldO hx f1 g1 rfl (fun H2 e2 Q q => ?_) M.cls (no _ (by decide)) (Nat.lt_of_le_of_lt (putF_le (Nat.le_refl 0)) (by decide)) fun v2 G2 f2 g2 => ?_
    · rcases hs with hs | ⟨y, hs⟩
      · have hs := ex_t (f1.trans e2) hs
        refine (et_test (ev_is (ev_op (ev_op (ev_var (v := .ref s0) rfl) ev_c (rv_ixT hs (at_of (j := 0) rfl rfl))) (ev_c (v := .str "end")) (rv_eq rfl)) (by decide)) : EvT _ _ _ true) H2 (Ex.refl H2) _ fun H3 e3 => ?_
        exact (eu_tup ea_nil (show 0 ≤ 100000 by decide)) H3 (Ex.refl H3) _ fun p H4 _ e4 _ => q _ H4 (e3.trans e4)
      · have hs := ex_t (f1.trans e2) hs
        refine (et_test (ev_is (ev_op (ev_op (ev_var (v := .ref s0) rfl) ev_c (rv_ixT hs (at_of (j := 0) rfl rfl))) (ev_c (v := .str "end")) (rv_eq rfl)) (by decide)) : EvT _ _ _ false) H2 (Ex.refl H2) _ fun H3 e3 => ?_
        exact (eu_call (ea_cons (ev_var rfl) ea_nil) (u_exprs (ex_t e3 hs))) H3 (Ex.refl H3) _ fun p H4 _ e4 _ => q _ H4 (e3.trans e4)
    · refine q_fldO hx f2 g2 rfl (.of (ev_var (v := a) rfl)) M.cls (no _ (by decide)) (Nat.lt_of_le_of_lt (putF_le (putF_le (Nat.le_refl 0))) (by decide)) fun v3 G3 f3 g3 => ?_
      refine q_fldO hx f3 g3 rfl (.of ev_c) M.cls (no _ (by decide)) (Nat.lt_of_le_of_lt (putF_le (putF_le (putF_le (Nat.le_refl 0)))) (by decide)) fun v4 G4 f4 g4 => ?_
      refine q_fldO hx f4 g4 rfl (.of ev_c) M.cls (no _ (by decide)) (Nat.lt_of_le_of_lt (putF_le (putF_le (putF_le (putF_le (Nat.le_refl 0))))) (by decide)) fun v5 G5 f5 g5 => ?_
      exact s_fldO hx f5 g5 rfl (.of (ev_var (v := c) rfl)) M.cls (no _ (by decide)) (Nat.lt_of_le_of_lt (putF_le (putF_le (putF_le (putF_le (putF_le (Nat.le_refl 0)))))) (by decide)) fun v6 G6 f6 g6 => k _ _ f6 g6
end
end EE
set_option Elab.async false
set_option linter.all false
set_option maxRecDepth 100000
set_option maxHeartbeats 4000000
namespace EE
open PySem L2 Evl
open C8 (Cal Mak cal0 mak0 pe_c pe_mk pe_gc fnScope_by)
section
variable {K : PySem.W.Frag} {σ : L2.St} {H H' : Hp} {ta tb tc te tv : TE} {t u : TT} {x y z v : V}
theorem q_asgN {D : Ends} {tz : TS} {i : Nat} (h : EvN te σ H) (k : ∀ v H1, Ex H H1 → tz D (σ.set i (some v)) H1) : tSeq (tAsg te (gName i)) tz D σ H := h H (Ex.refl H) _ fun v H1 e => k v H1 e
theorem s_appN {D : Ends} {l : Addr} {xs : List V} (hl : H l = some (.lst xs)) (ha : Ev ta σ H (.ref l)) (h : EvN te σ H) (hz : xs.length < 100000) (k : ∀ v H1, Ex H H1 → D.nx σ (upd H1 l (.lst (xs ++ [v])))) : tDrop (tBM K "list" rAppend ta (tCons te tNil)) D σ H := ha H (Ex.refl H) _ fun H1 e1 =>
  ⟨Or.inl ⟨rfl, xs, sq_of (e1 l _ hl)⟩, h H1 e1 _ fun v H2 e2 => ⟨l, xs, v, rfl, rfl, e2 l _ (e1 l _ hl), sz_lt hz, k v H2 (e1.trans e2)⟩⟩
theorem q_appN {D : Ends} {tz : TS} {l : Addr} {xs : List V} (hl : H l = some (.lst xs)) (ha : Ev ta σ H (.ref l)) (h : EvN te σ H) (hz : xs.length < 100000) (k : ∀ v H1, Ex H H1 → tz D σ (upd H1 l (.lst (xs ++ [v])))) : tSeq (tDrop (tBM K "list" rAppend ta (tCons te tNil))) tz D σ H := s_appN (D := { D with nx := tz D }) hl ha h hz k
def sp_lay_st (K : PySem.W.Frag) : Sp := fun vs H Q _ => ∃ s y aft ct l xs H0, vs = [.ref s, aft, ct, .ref l] ∧ H0 l = none ∧ Ex H0 H ∧ SqT K H0 s [.str "return", .str y] ∧ H l = some (.lst xs) ∧ xs.length ≤ 50 ∧ ∀ H2 v, Ex H0 H2 → H2 l = some (.lst (xs ++ [v])) → Q .non H2
def sp_lay_block (K : PySem.W.Frag) : Sp := fun vs H Q _ => ∃ b blk aft ct l H0, vs = [.ref b, aft, ct, .ref l] ∧ H0 l = none ∧ Ex H0 H ∧ RepB K H0 b blk ∧ H l = some (.lst []) ∧ ∀ H2 ys, Ex H0 H2 → H2 l = some (.lst ys) → ys.length ≤ 1 → Q .non H2
def sp_spots (K : PySem.W.Frag) : Sp := fun vs H Q _ => ∃ b blk, vs = [.ref b] ∧ RepB K H b blk ∧ ∀ v H2, Ex H H2 → Q v H2
theorem n_spots {b : Addr} {blk : Blk} {E : XK} {te : TE} (h : Ev te σ H (.ref b)) (hb : RepB K H b blk) : EvN (tCall (sp_spots K) [] E (tCons te tNil)) σ H := fun H1 e Q q =>
  h H1 e _ fun H2 e2 => ⟨b, blk, rfl, hb.le (Le.of (e.trans e2)), fun v H3 e3 => q v H3 (e2.trans e3)⟩
end
section
variable {P : Program} {w : World} {K : PySem.W.Frag} {mg : Str → Option Value} {base : Heap}
theorem sc_lay_statement : FnScope N_lay_statement P_lay_statement (C8.fnScope s_lay_statement) := fnScope_by (by decide +kernel)
theorem ok_lay_statement (T : Txt2 w K mg) : Cal P w K mg base 5 "lay_statement" (sp_lay_st K) [] := by
  obtain ⟨C, M⟩ := T.m_Spot
  refine mk_cal T.d_lay_statement sc_lay_statement (fun vs H Q E h => ?_) (fun f cdv A outer s H vs Q E hr h => ?_)
  · obtain ⟨_, _, _, _, _, _, _, rfl, _⟩ := h
    rfl
  · obtain ⟨s0, y, aft, ct, l, xs, H0, rfl, hl, e0, hs, h0, hz, k⟩ := h
    have nd := sc_lay_statement.nd
    refine ⟨_, pss_cons (ps_set (i := 4) nd rfl (Or.inl rfl) (pe_mk (mk_Spot T.toTxt M) hr (by decide) (by rfl) (pa_cons (pv 0) (pa_cons (pv 1) (pa_cons (pv 2) pa_nil)))))
      (pss_cons (ps_set (i := 5) nd rfl (Or.inl rfl) (pe_callB call_len_seq (by rfl) T.len (by decide +kernel) (pa_cons (pv 3) pa_nil)))
      (pss_cons (ps_expr (pe_bm PySem.F.plainAttrs_list PySem.F.slot_list_append PySem.F.type_list_append mt_append (pv 3) (pa_cons (pv 4) pa_nil)))
      (pss_cons (ps_set (i := 6) nd rfl (Or.inl rfl) (pe_ix ix_tup (pv 0) pe_int (fun _ _ => rfl)))
      (pss_one (ps_if (pt_cmpR op_eq (pv 6) pe_str (nomark _)) pss_never (pss_one (ps_if (pt_cmpR op_eq (pv 6) pe_str (nomark _)) pss_never (pss_one (ps_if (pt_cmpR op_eq (pv 6) pe_str (nomark _)) pss_never pss_nil))))))))), ?_⟩
    refine q_asgN (ev_mkSpot (ea_cons (ev_var (v := .ref s0) rfl) (ea_cons (ev_var rfl) (ea_cons (ev_var rfl) ea_nil))) (.inr ⟨y, ex_t e0 hs⟩)) fun v1 H1 e1 => ?_
    refine q_asg (v := .int (xs.length : Nat)) (ev_cb (ea_cons (ev_var rfl) ea_nil) (rc_lenS (.inl (sq_of (e1 _ _ h0))))) fun H2 e2 => ?_
    refine q_appN (e2 _ _ (e1 _ _ h0)) (ev_var rfl) (.of (ev_var (v := v1) rfl)) (by omega) fun v3 H3 e3 => ?_
    have f3 : Ex H0 (upd H3 l (.lst (xs ++ [v3]))) := (((e0.trans e1).trans e2).trans e3).mut hl
    have g3 : upd H3 l (.lst (xs ++ [v3])) l = some (.lst (xs ++ [v3])) := upd_same
    generalize upd H3 l (.lst (xs ++ [v3])) = G3 at f3 g3
    refine q_asg (v := .str "return") (ev_op (ev_var (v := .ref s0) rfl) ev_c (rv_ixT (ex_t f3 hs) (at_of (j := 0) rfl rfl))) fun H4 e4 => ?_
    refine s_if (b := false) (et_test (ev_is (ev_op (ev_var (v := .str "return") rfl) (ev_c (v := .str "loop")) (rv_eq rfl)) (by decide))) (fun z => nomatch z) fun _ H5 e5 => ?_
    refine s_if (b := false) (et_test (ev_is (ev_op (ev_var (v := .str "return") rfl) (ev_c (v := .str "if")) (rv_eq rfl)) (by decide))) (fun z => nomatch z) fun _ H6 e6 => ?_
    refine s_if (b := false) (et_test (ev_is (ev_op (ev_var (v := .str "return") rfl) (ev_c (v := .str "try")) (rv_eq rfl)) (by decide))) (fun z => nomatch z) fun _ H7 e7 => ?_
    exact k _ v3 ((((f3.trans e4).trans e5).trans e6).trans e7) (e7 _ _ (e6 _ _ (e5 _ _ (e4 _ _ g3))))
theorem sc_lay_block : FnScope N_lay_block P_lay_block (C8.fnScope s_lay_block) := fnScope_by (by decide +kernel)
theorem ok_lay_block (T : Txt2 w K mg) : Cal P w K mg base 6 "lay_block" (sp_lay_block K) [] := by
  refine mk_cal T.d_lay_block sc_lay_block (fun vs H Q E h => ?_) (fun f cdv A outer s H vs Q E hr h => ?_)
  · obtain ⟨_, _, _, _, _, _, rfl, _⟩ := h
    rfl
  · obtain ⟨b, blk, aft, ct, l, H0, rfl, hl, e0, hb, h0, k⟩ := h
    have nd := sc_lay_block.nd
    refine ⟨_, pss_one (ps_for PassesOwn.never rfl (pi_enumT (by rfl) T.enumT (pa_cons (pv 0) pa_nil)) (pg_tup (by rfl) (pgs_cons (pg_name (i := 4) nd rfl (Or.inl rfl)) (pgs_cons (pg_name (i := 5) nd rfl (Or.inl rfl)) pgs_nil)))
        (pss_cons (ps_set (i := 6) nd rfl (Or.inl rfl) (pe_op op_add (pe_callB call_len_seq (by rfl) T.len (by decide +kernel) (pa_cons (pv 3) pa_nil)) (pe_c (ok_size_of T.toTxt) hr (by decide) (by rfl) (pa_cons (pe_tup (pa_cons (pv 5) pa_nil)) pa_nil))))
        (pss_cons (ps_set (i := 7) nd rfl (Or.inl rfl) (pe_ifExp (pt_cmpR op_lt (pe_op op_add (pv 4) pe_int) (pe_callB call_len_seq (by rfl) T.len (by decide +kernel) (pa_cons (pv 0) pa_nil)) (nomark _)) (pv 6) (pv 1)))
        (pss_one (ps_expr (pe_c (ok_lay_statement T) hr (by decide) (by rfl) (pa_cons (pv 5) (pa_cons (pv 7) (pa_cons (pv 2) (pa_cons (pv 3) pa_nil)))))))))), ?_⟩
    cases blk with
    | nil =>
      exact ⟨_, rfl, b, [], rfl, ex_t e0 hb, for_it walk_enumT (fun _ σ' H' => Ex H0 H' ∧ H' l = some (.lst [])) ⟨e0, h0⟩ (fun i σ' H' _ p => ex_t p.1 hb) (fun i x σ' H' H'' hi => absurd hi (Nat.not_lt_zero _)) fun σ' H' p => k H' [] p.1 p.2 (Nat.zero_le _)⟩
    | ret y =>
      obtain ⟨s0, g1, g2⟩ := hb
      refine ⟨_, rfl, b, [.ref s0], rfl, ex_t e0 g1, for_it walk_enumT (fun i σ' H' => (∃ v4 v5 v6 v7, σ' = [some (.ref b), some aft, some ct, some (.ref l), v4, v5, v6, v7]) ∧ Ex H0 H' ∧ ∃ ys, H' l = some (.lst ys) ∧ ys.length = i) ⟨⟨_, _, _, _, rfl⟩, e0, [], h0, rfl⟩ (fun i σ' H' _ p => ex_t p.2.1 g1) (fun i x σ' H' H'' hi p yy => ?_) fun σ' H' p => ?_⟩
      · obtain ⟨⟨v4, v5, v6, v7, rfl⟩, p1, ys, p2, p3⟩ := p
        obtain ⟨Tp, x1, y1, rfl, hT, rfl, h1, h2⟩ := yy
        match i, hi, h1, h2 with
        | 0, _, h1, h2 =>
          cases h1; cases h2
          have f1 : Ex H0 (upd H' Tp (.tup [.int (0 : Nat), .ref s0])) := p1.trans (Ex.new hT)
          have p2' : upd H' Tp (.tup [.int (0 : Nat), .ref s0]) l = some (.lst ys) := (Ex.new hT) _ _ p2
          refine ⟨Tp, _, rfl, st_of upd_same, rfl, _, _, rfl, _, _, rfl, rfl, ?_⟩
          generalize upd H' Tp (.tup [.int (0 : Nat), .ref s0]) = G1 at f1 p2'
          refine q_asg (v := .int ((ys.length : Nat) + (blkN (.ret y) : Nat))) (ev_op (ev_cb (ea_cons (ev_var rfl) ea_nil) (rc_lenS (.inl (sq_of p2')))) (ev_callU1 (eu_tup (ea_cons (ev_var rfl) ea_nil) (show 1 ≤ 100000 by decide)) fun p H2 e2 h2 => v_size_of (blk := .ret y) ⟨s0, st_of h2, ex_t (f1.trans e2) g2⟩) rv_I0) fun H2 e2 => ?_
          refine q_asg (v := aft) (ev_if (b := false) (et_test (ev_is (ev_op (ev_op (ev_var (v := .int (0 : Nat)) rfl) ev_c rv_I0) (ev_cb (ea_cons (ev_var rfl) ea_nil) (rc_lenS (.inr (ex_t (f1.trans e2) g1)))) rv_I0) rfl)) (fun z => nomatch z) fun _ => ev_var rfl) fun H3 e3 => ?_
          refine ⟨_, rfl, _, rfl, _, rfl, _, rfl, s0, y, aft, ct, l, ys, H0, rfl, hl, (f1.trans e2).trans e3, g2, e3 _ _ (e2 _ _ p2'), by omega, fun H4 v e4 h4 => ⟨⟨_, _, _, _, rfl⟩, e4, _, h4, by rw [List.length_append, p3]; rfl⟩⟩
      · obtain ⟨_, p1, ys, p2, p3⟩ := p
        exact k H' ys p1 p2 (Nat.le_of_eq p3)
theorem sc_spots_of : FnScope N_spots_of P_spots_of (C8.fnScope s_spots_of) := fnScope_by (by decide +kernel)
theorem ok_spots_of (T : Txt2 w K mg) : Cal P w K mg base 7 "spots_of" (sp_spots K) [] := by
  obtain ⟨C, M⟩ := T.m_Spot
  refine mk_cal T.d_spots_of sc_spots_of (fun vs H Q E h => ?_) (fun f cdv A outer s H vs Q E hr h => ?_)
  · obtain ⟨_, _, rfl, _⟩ := h
    rfl
  · obtain ⟨b, blk, rfl, hb, k⟩ := h
    have nd := sc_spots_of.nd
    refine ⟨_, pss_cons (ps_set (i := 1) nd rfl (Or.inl rfl) (pe_lst pa_nil))
      (pss_cons (ps_expr (pe_c (ok_lay_block T) hr (by decide) (by rfl) (pa_cons (pv 0) (pa_cons (pe_c (ok_size_of T.toTxt) hr (by decide) (by rfl) (pa_cons (pv 0) pa_nil)) (pa_cons pe_non (pa_cons (pv 1) pa_nil))))))
      (pss_cons (ps_expr (pe_bm PySem.F.plainAttrs_list PySem.F.slot_list_append PySem.F.type_list_append mt_append (pv 1) (pa_cons (pe_mk (mk_Spot T.toTxt M) hr (by decide) (by rfl) (pa_cons (pe_tup (pa_cons pe_str pa_nil)) (pa_cons pe_non (pa_cons pe_non pa_nil)))) pa_nil)))
      (pss_one (ps_ret (pv 1))))), ?_⟩
    refine q_asgL (el_lst ea_nil (show 0 ≤ 100000 by decide)) fun l H1 hl e1 h1 => ?_
    refine ⟨_, rfl, (ev_call (ea_cons (ev_var rfl) ea_nil) (v_size_of (hb.le (Le.of e1)))) H1 (Ex.refl _) _ fun H2 e2 => ⟨_, rfl, b, blk, _, _, l, H, rfl, hl, e1.trans e2, hb, e2 _ _ h1, fun H3 ys e3 h3 hz => ?_⟩⟩
    refine q_appN h3 (ev_var rfl) (ev_mkSpotU (eu_tup (ea_cons ev_c ea_nil) (show 1 ≤ 100000 by decide)) (ea_cons ev_c (ea_cons ev_c ea_nil))) (by omega) fun v H4 e4 => ?_
    exact s_ret (v := .ref l) (ev_var rfl) fun H5 e5 => k _ _ (((e3.trans e4).mut hl).trans e5)
end
end EE
set_option Elab.async false
set_option linter.all false
set_option maxRecDepth 100000
set_option maxHeartbeats 4000000
namespace EE
open PySem L2 Evl
open C8 (Cal Mak cal0 mak0 pe_c pe_mk pe_gc fnScope_by)
section
variable {K : PySem.W.Frag} {σ : L2.St} {H H' : Hp} {ta tb tc te tv : TE} {t u : TT} {x y z v : V}
/-- without the object at x -/
def rmH (x : Addr) (H : Hp) : Hp := fun a => if a = x then none else H a
theorem rmH_at {x : Addr} : rmH x H x = none := if_pos rfl
theorem rmH_ne {x a : Addr} (h : a ≠ x) : rmH x H a = H a := if_neg h
theorem rmH_ex {x : Addr} : Ex (rmH x H) H := fun a o h => by
  by_cases e : a = x
  · subst e; rw [rmH_at] at h; cases h
  · rw [rmH_ne e] at h; exact h
theorem ex_rmH {x : Addr} {H0 : Hp} (hx : H0 x = none) (e : Ex H0 H) : Ex H0 (rmH x H) := fun a o h => by
  have hne : a ≠ x := fun z => by subst z; rw [hx] at h; cases h
  rw [rmH_ne hne]; exact e a o h
theorem rmH_put {x : Addr} {o : HO} : Ex (rmH x H) (upd H x o) := fun a u h => by
  by_cases e : a = x
  · subst e; rw [rmH_at] at h; cases h
  · rw [rmH_ne e] at h; rw [upd_ne e]; exact h
/-- a field of an object that is made, its value told -/
theorem q_fldR {D : Ends} {tz : TS} {x C dx : Addr} {fs : List (Str × V)} {f : Str} {H0 : Hp} (R : V → Hp → Prop) (hx : H0 x = none) (e0 : Ex H0 H) (ha : H x = some (.ins C dx fs)) (ho : σ[0]? = some (some (.ref x)))
    (h : ∀ Q : VK, (∀ v H1, Ex H H1 → R v H1 → Q v H1) → te σ H Q) (hR : ∀ v H1, H1 x = some (.ins C dx fs) → R v H1 → R v (rmH x H1)) (c : Cls K C) (n : NoAttr K C f) (hz : fs.length < 1000)
    (k : ∀ v B G, R v B → Ex H0 B → B x = none → Ex B G → G x = some (.ins C dx (putF f v fs)) → tz D σ G) : tSeq (sFld K (tVar 0) te f) tz D σ H :=
  h _ fun v H1 e1 r => ⟨_, ho, x, C, dx, fs, rfl, e1 _ _ ha, c, n, hz, k v _ _ (hR v H1 (e1 _ _ ha) r) (ex_rmH hx (e0.trans e1)) rmH_at rmH_put upd_same⟩
/-- the dict of a comprehension, as it stands at p -/
def DcAt (N : Addr → Prop) (H : Hp) (p : Addr) (U : Str → Option HO) (ks : List Str) : Prop := N p ∧ ∃ out, H p = some (.dK out) ∧ Paired (DcOut N H U) ks out
theorem DcAt.ex {N : Addr → Prop} {p : Addr} {U : Str → Option HO} {ks : List Str} (e : Ex H H') (h : DcAt N H p U ks) : DcAt N H' p U ks := by
  obtain ⟨hN, out, h1, h2⟩ := h
  exact ⟨hN, out, e _ _ h1, Paired.imp (fun _ _ r => DcOut.ex e r) h2⟩
def NoIns (u : HO) : Prop := ∀ C d f, u ≠ .ins C d f
theorem DcAt.rm {N : Addr → Prop} {p x C dx : Addr} {fs : List (Str × V)} {U : Str → Option HO} {ks : List Str} (hx : H x = some (.ins C dx fs)) (hU : ∀ n u, U n = some u → NoIns u) (h : DcAt N H p U ks) : DcAt N (rmH x H) p U ks := by
  obtain ⟨hN, out, h1, h2⟩ := h
  refine ⟨hN, out, by rw [rmH_ne (fun z => by subst z; rw [hx] at h1; cases h1)]; exact h1, Paired.imp (fun n kv r => ⟨r.1, fun u hu => ?_⟩) h2⟩
  obtain ⟨a, q1, qN, q2⟩ := r.2 u hu
  exact ⟨a, q1, qN, by rw [rmH_ne (fun z => by subst z; rw [hx] at q2; cases q2; exact hU n _ hu _ _ _ rfl)]; exact q2⟩
abbrev cnames (cs : List (Str × Cl)) : List Str := cs.map (·.1)
def RcD (N : Addr → Prop) (U : Str → Option HO) (ks : List Str) (v : V) (H : Hp) : Prop := ∃ p, v = .ref p ∧ DcAt N H p U ks
theorem RcD.rm {N : Addr → Prop} {x C dx : Addr} {fs : List (Str × V)} {U : Str → Option HO} {ks : List Str} (hU : ∀ n u, U n = some u → NoIns u) : ∀ v H, H x = some (.ins C dx fs) → RcD N U ks v H → RcD N U ks v (rmH x H) := fun v H hx ⟨p, e, d⟩ => ⟨p, e, d.rm hx hU⟩
def UF (cs : List (Str × Cl)) (n : Str) : Option HO := some (.tup ((allFields cs n).map V.str))
def UM (cs : List (Str × Cl)) (n : Str) : Option HO := some (.dK (allMs cs n))
theorem pairC_keys1 : ∀ {cs : List (Str × Cl)} {kvs : List (Key × V)}, Paired (RepC K H) cs kvs → kvs.map (·.1) = (cs.map (·.1)).map Sum.inr
  | [], [], .nil => rfl
  | c :: cs, p :: kvs, .cons h t => by
    rw [List.map_cons, List.map_cons, List.map_cons, pairC_keys1 t, h.1]
def SheetAt (N : Addr → Prop) (H : Hp) (fsx : List (Str × V)) (cs : List (Str × Cl)) : Prop := ∃ F M, fsx.lookup (Str.ofString "fields") = some (.ref F) ∧ fsx.lookup (Str.ofString "methods") = some (.ref M) ∧ DcAt N H F (UF cs) (cnames cs) ∧ DcAt N H M (UM cs) (cnames cs)
def sp_Sheet (K : PySem.W.Frag) (C : Addr) : Sp := fun vs H Q _ => ∃ x sh a b cs fs H0 dx, vs = [.ref x, .ref sh, .ref a, .ref b] ∧ H0 x = none ∧ Ex H0 H ∧ H x = some (.ins C dx []) ∧ H0 sh = some (.dK []) ∧ RepD K H0 a cs ∧ Right cs ∧ RepFD K H0 b fs ∧ RightFs fs ∧
  ∀ H2 fsx, Ex H0 H2 → H2 x = some (.ins C dx fsx) → SheetAt (fun a => H0 a = none) H2 fsx cs → Q .non H2
/-- comprehensions over the classes, the functions -/
theorem q_dcC {a : Addr} {cs : List (Str × Cl)} {i j : Nat} {vs : List Nat} (hv : σ[i]? = some (some (.ref a))) (hc : RepD K H a cs) (hr : Right cs) (hw : ∀ x, wipe ((wipe σ vs).set j (some x)) vs = wipe σ vs) (hj : ∀ x, ((wipe σ vs).set j (some x))[j]? = some (some x))
    (U : Str → Option HO) (hU : ∀ n u, U n = some u → ∀ o x, u ≠ .frz o x) (N : Addr → Prop) (hN : ∀ a, H a = none → N a)
    (body : ∀ n, (look cs n).isSome = true → ∀ H1, RepCs K H1 a cs → ∀ Q : VK, (∀ v H2, Ex H1 H2 → (∀ u, U n = some u → ∃ a, v = .ref a ∧ H1 a = none ∧ H2 a = some u) → Q v H2) → tv ((wipe σ vs).set j (some (.str n))) H1 Q) :
    ∀ Q : VK, (∀ v H1, Ex H H1 → RcD N U (cnames cs) v H1 → Q v H1) → tLockE (tDc (iKeys (tVar i)) (gName j) tYes (tVar j) tv vs) σ H Q := fun Q q => by
  obtain ⟨kvs, h1, h2⟩ := hc
  exact q_dcKeys hv h1 (pairC_keys1 h2) hr.nd (by rw [List.length_map]; have := hr.six; omega) hw hj U hU N hN (fun od n hn H1 e1 Q k => body n (look_some hn) H1 (RepCs.ex e1 ⟨kvs, .inr ⟨od, upd_same⟩, repCs_lock h1 h2⟩) Q k) fun p H2 out hp e hp2 pr => q _ H2 e ⟨p, rfl, hN p hp, out, hp2, pr⟩
theorem q_dcF {b : Addr} {fs : List (Str × Fn)} {i j : Nat} {vs : List Nat} (hv : σ[i]? = some (some (.ref b))) (hc : RepFD K H b fs) (hr : RightFs fs) (hw : ∀ x, wipe ((wipe σ vs).set j (some x)) vs = wipe σ vs) (hj : ∀ x, ((wipe σ vs).set j (some x))[j]? = some (some x))
    (body : ∀ (n : Str) (fn : Fn) (t pt bt : Addr), ∀ H1 kvs, Rd H1 b (.dK kvs) → valV kvs (Sum.inr n : Key) = some (.ref t) → SqT K H1 t [.ref pt, .int fn.lvl, .ref bt] → RepB K H1 bt fn.blk → EvN tv ((wipe σ vs).set j (some (.str n))) H1) : EvN (tLockE (tDc (iKeys (tVar i)) (gName j) tYes (tVar j) tv vs)) σ H := fun H0 e0 Q q => by
  obtain ⟨kvs, h1, h2⟩ := hc.ex e0
  refine q_dcKeys hv h1 (pairF_keys h2) hr.nd (by rw [List.length_map]; have := hr.len.2; omega) hw hj (fun _ => none) (fun _ _ h => nomatch h) (fun _ => True) (fun _ _ => trivial) (fun od n hn H1 e1 Q k => ?_) fun p H2 out _ e hp2 pr => q _ H2 e
  have h3 := pairA_mono (fun _ _ => RepF.le ((Le.lock h1 (od := od)).trans (Le.of e1))) h2
  rcases pairA_look keyF n h3 with ⟨z, _⟩ | ⟨fn, v, q1, q2, q3⟩
  · have := lookA_some hn
    rw [z] at this
    cases this
  · obtain ⟨_, t, pt, bt, rfl, r1, r2, r3⟩ := q3
    exact body n fn t pt bt H1 kvs (.inr ⟨od, Lk.at e1⟩) q2 r1 r3 H1 (Ex.refl _) _ fun v H2 e2 => k v H2 e2 (fun _ h => nomatch h)
theorem EvN.dcC {a : Addr} {cs : List (Str × Cl)} {i j : Nat} {vs : List Nat} (hv : σ[i]? = some (some (.ref a))) (hc : RepD K H a cs) (hr : Right cs) (hw : ∀ x, wipe ((wipe σ vs).set j (some x)) vs = wipe σ vs) (hj : ∀ x, ((wipe σ vs).set j (some x))[j]? = some (some x))
    (body : ∀ n, (look cs n).isSome = true → ∀ H1, RepCs K H1 a cs → EvN tv ((wipe σ vs).set j (some (.str n))) H1) : EvN (tLockE (tDc (iKeys (tVar i)) (gName j) tYes (tVar j) tv vs)) σ H := fun H0 e0 Q q =>
  q_dcC hv (hc.ex e0) hr hw hj (fun _ => none) (fun _ _ h => nomatch h) (fun _ => True) (fun _ _ => trivial) (fun n hn H1 hr1 Q k => body n hn H1 hr1 H1 (Ex.refl _) _ fun v H2 e2 => k v H2 e2 (fun _ h => nomatch h)) Q fun v H1 e _ => q v H1 e
theorem ev_fld {a C dx : Addr} {fs : List (Str × V)} {f : Str} (h : Ev ta σ H (.ref a)) (ha : H a = some (.ins C dx fs)) (c : Cls K C) (n : NoAttr K C f) (l : fs.lookup f = some v) : Ev (tFld K ta f) σ H v := fun H1 e Q q => h H1 e _ fun H2 e2 => ⟨a, C, dx, fs, v, rfl, e2 _ _ (e _ _ ha), c, n, l, q H2 e2⟩
theorem n_tupOfL {xs : List V} (h : EvL te σ H xs) : EvN (tCB (fun xs H Q => ∃ p ys, xs = [.ref p] ∧ ((SqL K H p ys ∧ ∀ l, H l = none → Q (.ref l) (upd H l (.tup ys))) ∨ (SqT K H p ys ∧ Q (.ref p) H))) (tCons te tNil)) σ H := fun H1 e Q q =>
  h H1 e _ fun p H2 hp e2 h2 => ⟨p, xs, rfl, .inl ⟨sq_of h2, fun l hl => q _ _ (e2.trans (Ex.new hl))⟩⟩
theorem EvN.ofL {xs : List V} (h : EvL te σ H xs) : EvN te σ H := fun H1 e Q q => h H1 e _ fun p H2 _ e2 _ => q _ H2 e2
end
end EE
namespace EE
open PySem L2 Evl
open C8 (Cal Mak cal0 mak0 pe_c pe_mk pe_gc fnScope_by)
abbrev F_Sheet : List Str := ["shared_names", "first_words", "fields", "methods", "families", "class_levels", "parameters", "function_levels", "spots"]
structure Txt3 (w : World) (K : PySem.W.Frag) (mg : Str → Option Value) extends Txt2 w K mg where
  m_Sheet : ∃ C, MkC K mg "Sheet" "Sheet.__init__" s_Sheet_init P_Sheet_init F_Sheet C
section
variable {P : Program} {w : World} {K : PySem.W.Frag} {mg : Str → Option Value} {base : Heap}
theorem sc_Sheet : FnScope N_Sheet_init P_Sheet_init (C8.fnScope s_Sheet_init) := fnScope_by (by decide +kernel)
theorem mk_Sheet (T : Txt3 w K mg) {C : Addr} (M : MkC K mg "Sheet" "Sheet.__init__" s_Sheet_init P_Sheet_init F_Sheet C) : Mak P w K mg base 8 "Sheet" C (sp_Sheet K C) [] := by
  refine mk_mak M sc_Sheet (fun vs H Q E h => ?_) (fun f cdv A outer s H vs Q E hr h => ?_)
  · obtain ⟨_, _, _, _, _, _, _, _, rfl, _⟩ := h
    rfl
  · obtain ⟨x, sh, a, b, cs, fs, H0, dx, rfl, hx, e0, h0, hsh, hc, hcr, hf, hfr, k⟩ := h
    have nd := sc_Sheet.nd
    have hu := hu_of hr
    have bk : ∀ {scope : Scope}, True := trivial
    refine ⟨_, pss_cons (ps_fld (pv 0) (pe_callTy call_tuple_of (by rfl) T.tupT (by decide +kernel) (pa_cons (pe_callB (cr_sortD rfl) (by rfl) T.sortedT (by decide +kernel) (pa_cons (pv 1) pa_nil)) pa_nil)) (by rfl))
      (pss_cons (ps_fld (pv 0) (pe_callTy call_tuple_of (by rfl) T.tupT (by decide +kernel) (pa_cons (pe_lc (own := [("name", 4)]) (g := gName 4) (tt := tYes) (te := tNo) rfl nd (pi_tup (pe_fld (pv 0) (by rfl))) (blkOk_by (N := N_Sheet_init) (sc := C8.fnScope s_Sheet_init) (by decide +kernel))
          (fun _ _ _ _ _ => pg_name (i := 4) nd rfl (Or.inl rfl)) (fun _ _ _ _ _ => pts_nil) (fun _ _ _ _ _ => pe_no)) pa_nil)) (by rfl))
      (pss_cons (ps_fld (pv 0) (pe_lock (pe_dc (own := [("name", 4)]) (g := gName 4) (tt := tYes) rfl nd (pi_keys (pv 2)) (blkOk_by (N := N_Sheet_init) (sc := C8.fnScope s_Sheet_init) (by decide +kernel)) (fun _ _ _ _ _ => pg_name (i := 4) nd rfl (Or.inl rfl)) (fun _ _ _ _ _ => pts_nil) (fun _ _ _ _ _ => pv 4)
          (fun _ _ _ _ _ => pe_c (ok_all_fields T.toTxt) hr (by decide) (by rfl) (pa_cons (pv 2) (pa_cons (pv 4) pa_nil))))) (by rfl))
      (pss_cons (ps_fld (pv 0) (pe_lock (pe_dc (own := [("name", 4)]) (g := gName 4) (tt := tYes) rfl nd (pi_keys (pv 2)) (blkOk_by (N := N_Sheet_init) (sc := C8.fnScope s_Sheet_init) (by decide +kernel)) (fun _ _ _ _ _ => pg_name (i := 4) nd rfl (Or.inl rfl)) (fun _ _ _ _ _ => pts_nil) (fun _ _ _ _ _ => pv 4)
          (fun _ _ _ _ _ => pe_c (ok_all_methods T.toTxt) hr (by decide) (by rfl) (pa_cons (pv 2) (pa_cons (pv 4) pa_nil))))) (by rfl))
      (pss_cons (ps_fld (pv 0) (pe_lock (pe_dc (own := [("name", 4)]) (g := gName 4) (tt := tYes) rfl nd (pi_keys (pv 2)) (blkOk_by (N := N_Sheet_init) (sc := C8.fnScope s_Sheet_init) (by decide +kernel)) (fun _ _ _ _ _ => pg_name (i := 4) nd rfl (Or.inl rfl)) (fun _ _ _ _ _ => pts_nil) (fun _ _ _ _ _ => pv 4)
          (fun _ _ _ _ _ => pe_c (ok_family_of T.toTxt) hr (by decide) (by rfl) (pa_cons (pv 2) (pa_cons (pv 4) pa_nil))))) (by rfl))
      (pss_cons (ps_fld (pv 0) (pe_lock (pe_dc (own := [("name", 4)]) (g := gName 4) (tt := tYes) rfl nd (pi_keys (pv 2)) (blkOk_by (N := N_Sheet_init) (sc := C8.fnScope s_Sheet_init) (by decide +kernel)) (fun _ _ _ _ _ => pg_name (i := 4) nd rfl (Or.inl rfl)) (fun _ _ _ _ _ => pts_nil) (fun _ _ _ _ _ => pv 4)
          (fun _ _ _ _ _ => pe_ix (show IxR _ (rIxT K) from ix_tup) (pe_dget hu (pv 2) (pv 4) (fun _ _ => rfl)) pe_int (fun _ _ => rfl)))) (by rfl))
      (pss_cons (ps_fld (pv 0) (pe_lock (pe_dc (own := [("name", 4)]) (g := gName 4) (tt := tYes) rfl nd (pi_keys (pv 3)) (blkOk_by (N := N_Sheet_init) (sc := C8.fnScope s_Sheet_init) (by decide +kernel)) (fun _ _ _ _ _ => pg_name (i := 4) nd rfl (Or.inl rfl)) (fun _ _ _ _ _ => pts_nil) (fun _ _ _ _ _ => pv 4)
          (fun _ _ _ _ _ => pe_ix (show IxR _ (rIxT K) from ix_tup) (pe_dget hu (pv 3) (pv 4) (fun _ _ => rfl)) pe_int (fun _ _ => rfl)))) (by rfl))
      (pss_cons (ps_fld (pv 0) (pe_lock (pe_dc (own := [("name", 4)]) (g := gName 4) (tt := tYes) rfl nd (pi_keys (pv 3)) (blkOk_by (N := N_Sheet_init) (sc := C8.fnScope s_Sheet_init) (by decide +kernel)) (fun _ _ _ _ _ => pg_name (i := 4) nd rfl (Or.inl rfl)) (fun _ _ _ _ _ => pts_nil) (fun _ _ _ _ _ => pv 4)
          (fun _ _ _ _ _ => pe_ix (show IxR _ (rIxT K) from ix_tup) (pe_dget hu (pv 3) (pv 4) (fun _ _ => rfl)) pe_int (fun _ _ => rfl)))) (by rfl))
      (pss_one (ps_fld (pv 0) (pe_lock (pe_dc (own := [("name", 4)]) (g := gName 4) (tt := tYes) rfl nd (pi_keys (pv 3)) (blkOk_by (N := N_Sheet_init) (sc := C8.fnScope s_Sheet_init) (by decide +kernel)) (fun _ _ _ _ _ => pg_name (i := 4) nd rfl (Or.inl rfl)) (fun _ _ _ _ _ => pts_nil) (fun _ _ _ _ _ => pv 4)
          (fun _ _ _ _ _ => pe_c (ok_spots_of T.toTxt2) hr (by decide) (by rfl) (pa_cons (pe_ix (show IxR _ (rIxT K) from ix_tup) (pe_dget hu (pv 3) (pv 4) (fun _ _ => rfl)) pe_int (fun _ _ => rfl)) pa_nil)))) (by rfl)))))))))), ?_⟩
    have no : ∀ n ∈ F_Sheet, NoAttr K C n := M.no
    have lk : ∀ {n : Nat} {g : List (Str × V)}, g.length ≤ n → n < 1000 → g.length < 1000 := fun h1 h2 => Nat.lt_of_le_of_lt h1 h2
    refine q_fldR (fun v H => ∃ q, v = .ref q ∧ SqT K H q []) hx e0 h0 rfl (fun Q q => ⟨_, rfl, sh, [], [], rfl, .inl (e0 _ _ hsh), rfl, by decide, fun ys p hp _ hn => by
        obtain rfl := hp.eq_nil
        exact ⟨p, [], rfl, .inl ⟨sq_of upd_same, fun l hl => q _ _ ((Ex.new hn).trans (Ex.new hl)) ⟨l, rfl, st_of upd_same⟩⟩⟩⟩) (fun v H1 hx1 ⟨q, e, h⟩ => ⟨q, e, by
        rcases h with (h | ⟨o, h⟩) | h
        · exact .inl (.inl (by rw [rmH_ne (fun z => by subst z; rw [hx1] at h; cases h)]; exact h))
        · exact .inl (.inr ⟨o, by rw [rmH_ne (fun z => by subst z; rw [hx1] at h; cases h)]; exact h⟩)
        · exact .inr h⟩) M.cls (no _ (by decide)) (by decide) fun v1 B1 G1 r1 b1 bx1 e1 g1 => ?_
    obtain ⟨q1, rfl, hq1⟩ := r1
    refine q_fldO bx1 e1 g1 rfl (fun H1 e Q q => ?_) M.cls (no _ (by decide)) (lk (putF_le (Nat.le_refl 0)) (by decide)) fun v2 G2 e2 g2 => ?_
    · exact n_tupOfL (el_lcA (xs := []) [] rfl (ei_tup (xs := []) (ev_fld (ev_var rfl) g1 M.cls (no _ (by decide)) (by rw [lookup_putF, if_pos rfl])) (ex_t e1 hq1)) (show 0 ≤ 40000 by decide) (fun _ => rfl) fun i x y H1 _ h _ => by cases h) H1 e Q q
    refine q_fldR (RcD (fun a => H0 a = none) (UF cs) (cnames cs)) bx1 e2 g2 rfl (q_dcC rfl (hc.ex (b1.trans e2)) hcr (fun _ => rfl) (fun _ => rfl) (UF cs) (fun n u hu o x z => by cases hu; cases z) _ (fun x hx => fresh_back (b1.trans e2) hx) fun n hn H1 hr1 Q q =>
        (eu_call (ea_cons (ev_var rfl) (ea_cons (ev_var rfl) ea_nil)) (u_all_fields hr1 hcr.small hn)) H1 (Ex.refl _) Q fun p H2 hp e2 h2 => q _ H2 e2 fun u hu => by cases hu; exact ⟨p, rfl, hp, h2⟩)
      (RcD.rm fun n u hu C d f z => by cases hu; cases z) M.cls (no _ (by decide)) (lk (putF_le (putF_le (Nat.le_refl 0))) (by decide)) fun v3 B3 G3 r3 b3 bx3 e3 g3 => ?_
    obtain ⟨F, rfl, hF⟩ := r3
    have c3 := b1.trans b3
    refine q_fldR (RcD (fun a => H0 a = none) (UM cs) (cnames cs)) bx3 e3 g3 rfl (q_dcC rfl (hc.ex (c3.trans e3)) hcr (fun _ => rfl) (fun _ => rfl) (UM cs) (fun n u hu o x z => by cases hu; cases z) _ (fun x hx => fresh_back (c3.trans e3) hx) fun n hn H1 hr1 Q q =>
        (ed_call (ea_cons (ev_var rfl) (ea_cons (ev_var rfl) ea_nil)) (d_all_methods hr1 hcr.small hn)) H1 (Ex.refl _) Q fun p H2 hp e2 h2 => q _ H2 e2 fun u hu => by cases hu; exact ⟨p, rfl, hp, h2⟩)
      (RcD.rm fun n u hu C d f z => by cases hu; cases z) M.cls (no _ (by decide)) (lk (putF_le (putF_le (putF_le (Nat.le_refl 0)))) (by decide)) fun v4 B4 G4 r4 b4 bx4 e4 g4 => ?_
    obtain ⟨Mm, rfl, hM⟩ := r4
    have c4 := c3.trans b4
    refine q_fldO bx4 e4 g4 rfl (.dcC rfl (hc.ex (c4.trans e4)) hcr (fun _ => rfl) (fun _ => rfl) fun n hn H1 hr1 => .ofL (el_call (ea_cons (ev_var rfl) (ea_cons (ev_var rfl) ea_nil)) (l_family_of hr1 hcr.small.toKnown hn))) M.cls (no _ (by decide)) (lk (putF_le (putF_le (putF_le (putF_le (Nat.le_refl 0))))) (by decide)) fun v5 G5 e5 g5 => ?_
    refine q_fldO bx4 e5 g5 rfl (.dcC rfl (hc.ex (c4.trans e5)) hcr (fun _ => rfl) (fun _ => rfl) fun n hn H1 hr1 => by
        obtain ⟨c, hco⟩ := Option.isSome_iff_exists.mp hn
        obtain ⟨kvs, v, h1, h2, h3⟩ := repC_at hr1 hco
        obtain ⟨_, t, f2, ms, rfl, g4, _⟩ := h3
        exact .of (ev_op (ev_dget (ev_var rfl) (ev_var rfl) h1 h2) ev_c (rv_ixT g4 (at_of (j := 1) rfl rfl)))) M.cls (no _ (by decide)) (lk (putF_le (putF_le (putF_le (putF_le (putF_le (Nat.le_refl 0)))))) (by decide)) fun v6 G6 e6 g6 => ?_
    refine q_fldO bx4 e6 g6 rfl (q_dcF rfl (hf.ex (c4.trans e6)) hfr (fun _ => rfl) (fun _ => rfl) fun n fn t pt bt H1 kvs hd hv hs hb => .of (ev_op (ev_dget (k := Sum.inr n) (ev_var rfl) (ev_var rfl) hd hv) ev_c (rv_ixT hs (at_of (j := 0) rfl rfl)))) M.cls (no _ (by decide)) (lk (putF_le (putF_le (putF_le (putF_le (putF_le (putF_le (Nat.le_refl 0))))))) (by decide)) fun v7 G7 e7 g7 => ?_
    refine q_fldO bx4 e7 g7 rfl (q_dcF rfl (hf.ex (c4.trans e7)) hfr (fun _ => rfl) (fun _ => rfl) fun n fn t pt bt H1 kvs hd hv hs hb => .of (ev_op (ev_dget (k := Sum.inr n) (ev_var rfl) (ev_var rfl) hd hv) ev_c (rv_ixT hs (at_of (j := 1) rfl rfl)))) M.cls (no _ (by decide)) (lk (putF_le (putF_le (putF_le (putF_le (putF_le (putF_le (putF_le (Nat.le_refl 0)))))))) (by decide)) fun v8 G8 e8 g8 => ?_
    refine s_fldO bx4 e8 g8 rfl (q_dcF rfl (hf.ex (c4.trans e8)) hfr (fun _ => rfl) (fun _ => rfl) fun n fn t pt bt H1 kvs hd hv hs hb => n_spots (ev_op (ev_dget (k := Sum.inr n) (ev_var rfl) (ev_var rfl) hd hv) ev_c (rv_ixT hs (at_of (j := 2) rfl rfl))) hb) M.cls (no _ (by decide)) (lk (putF_le (putF_le (putF_le (putF_le (putF_le (putF_le (putF_le (putF_le (Nat.le_refl 0))))))))) (by decide)) fun v9 G9 e9 g9 => ?_
    refine k G9 _ (c4.trans e9) g9 ⟨F, Mm, ?_, ?_, hF.ex (b4.trans e9), hM.ex e9⟩
    · repeat rw [lookup_putF, if_neg (by decide)]
      rw [lookup_putF, if_pos rfl]
    · repeat rw [lookup_putF, if_neg (by decide)]
      rw [lookup_putF, if_pos rfl]
end
end EE
set_option Elab.async false
set_option linter.all false
set_option maxRecDepth 100000
set_option maxHeartbeats 4000000
namespace EE
open PySem L2 Evl
open C8 (Cal Mak cal0 mak0 pe_c pe_mk pe_gc fnScope_by)
section
variable {P : Program} {w : World} {K : PySem.W.Frag} {mg : Str → Option Value} {base : Heap}
/-- as RepC, its dict of methods not at D -/
def RepCn (K : PySem.W.Frag) (D : Addr) (H : Hp) (c : Str × Cl) (p : Key × V) : Prop :=
  p.1 = Sum.inr c.1 ∧ ∃ t f m, p.2 = .ref t ∧ SqT K H t [optV c.2.par, .int c.2.lvl, .ref f, .ref m] ∧ SqT K H f (c.2.own.map V.str) ∧ H m = some (.dK (skv c.2.ms)) ∧ m ≠ D
theorem RepCn.ex {D : Addr} {H H' : Hp} {c : Str × Cl} {p : Key × V} (e : Ex H H') (h : RepCn K D H c p) : RepCn K D H' c p := by
  obtain ⟨h0, t, f, m, h1, h2, h3, h4, h5⟩ := h
  exact ⟨h0, t, f, m, h1, ex_t e h2, ex_t e h3, e _ _ h4, h5⟩
theorem RepCn.put {D : Addr} {H : Hp} {c : Str × Cl} {p : Key × V} {o o' : List (Key × V)} (hD : H D = some (.dK o)) (h : RepCn K D H c p) : RepCn K D (upd H D (.dK o')) c p := by
  obtain ⟨h0, t, f, m, h1, h2, h3, h4, h5⟩ := h
  exact ⟨h0, t, f, m, h1, sqT_put hD h2, sqT_put hD h3, by rw [upd_ne h5]; exact h4, h5⟩
theorem sqT_free {H : Hp} {a : Addr} {kvs : List (Key × V)} {od : Obj} (ha : H a = some (.frz od (.dK kvs))) {b : Addr} {xs : List V} (h : SqT K H b xs) : SqT K (upd H a (.dK kvs)) b xs := by
  rcases h with (h | ⟨o, h⟩) | h
  · exact .inl (.inl (by rw [upd_ne (fun z => by subst z; rw [ha] at h; cases h)]; exact h))
  · exact .inl (.inr ⟨o, by rw [upd_ne (fun z => by subst z; rw [ha] at h; cases h)]; exact h⟩)
  · exact .inr h
theorem RepCn.free {D a : Addr} {H : Hp} {kvs : List (Key × V)} {od : Obj} {c : Str × Cl} {p : Key × V} (ha : H a = some (.frz od (.dK kvs))) (h : RepCn K D H c p) : RepC K (upd H a (.dK kvs)) c p := by
  obtain ⟨h0, t, f, m, h1, h2, h3, h4, h5⟩ := h
  exact ⟨h0, t, f, m, h1, sqT_free ha h2, sqT_free ha h3, by rw [upd_ne (fun z => by subst z; rw [ha] at h4; cases h4)]; exact h4⟩
def sp_copy (K : PySem.W.Frag) : Sp := fun vs H Q _ => ∃ a cs, vs = [.ref a] ∧ RepD K H a cs ∧ Right cs ∧ ∀ p H2, H p = none → Ex H H2 → RepD K H2 p cs → Q (.ref p) H2
theorem sc_copy : FnScope N_copy_of_classes P_copy_of_classes (C8.fnScope s_copy_of_classes) := fnScope_by (by decide +kernel)
theorem ok_copy (T : Txt w K mg) : Cal P w K mg base 1 "copy_of_classes" (sp_copy K) [] := by
  refine mk_cal T.d_copy_of_classes sc_copy (fun vs H Q E h => ?_) (fun f cdv A outer s H vs Q E hr h => ?_)
  · obtain ⟨_, _, rfl, _⟩ := h
    rfl
  · obtain ⟨a, cs, rfl, hc, hcr, k⟩ := h
    have nd := sc_copy.nd
    refine ⟨_, pss_one (ps_ret (pe_lock (pe_dc (own := [("name", 1), ("parent", 2), ("rank", 3), ("fields", 4), ("methods", 5)]) (g := gTup K 2 (gCons (gName 1) (gCons (gTup K 4 (gCons (gName 2) (gCons (gName 3) (gCons (gName 4) (gCons (gName 5) gNil))))) gNil))) (tt := tYes) rfl nd
      (pi_items (pv 0)) (blkOk_by (N := N_copy_of_classes) (sc := C8.fnScope s_copy_of_classes) (by decide +kernel))
      (fun _ _ _ _ _ => pg_tup (by rfl) (pgs_cons (pg_name (i := 1) nd rfl (Or.inl rfl)) (pgs_cons (pg_tup (by rfl) (pgs_cons (pg_name (i := 2) nd rfl (Or.inl rfl)) (pgs_cons (pg_name (i := 3) nd rfl (Or.inl rfl)) (pgs_cons (pg_name (i := 4) nd rfl (Or.inl rfl)) (pgs_cons (pg_name (i := 5) nd rfl (Or.inl rfl)) pgs_nil))))) pgs_nil)))
      (fun _ _ _ _ _ => pts_nil) (fun _ _ _ _ _ => pv 1)
      (fun _ _ _ _ _ => pe_tup (pa_cons (pv 2) (pa_cons (pv 3) (pa_cons (pv 4) (pa_cons (pe_callTy cr_copyD (by rfl) T.dictT (by decide +kernel) (pa_cons (pv 5) pa_nil)) pa_nil)))))))), ?_⟩
    obtain ⟨kvs, h1, h2⟩ := hc
    have hlen : kvs.length = cs.length := (Paired.length h2).symm
    refine ⟨a, .dK kvs, h1, trivial, fun od => ⟨.ref a, rfl, a, od, kvs, rfl, upd_same, fun D hD => ?_⟩⟩
    have hDa : D ≠ a := fun z => by subst z; rw [upd_same] at hD; cases hD
    have hD0 : H D = none := by rw [upd_ne hDa] at hD; exact hD
    refine dc_it (walk_items (d := a) (o := od) (kvs := kvs)) (fun i H' => Ex (Lk H a kvs od) H' ∧ ∃ out, H' D = some (.dK out) ∧ Paired (RepCn K D H') (cs.take i) out)
      ⟨Ex.new hD, [], upd_same, .nil⟩ (fun i H' _ p => Lk.at p.1) (fun i x H' H'' hi p y => ?_) fun H' p => ?_
    · obtain ⟨p1, out, p2, p3⟩ := p
      obtain ⟨Tp, x1, y1, rfl, hT, rfl, g1, g2⟩ := y
      obtain ⟨kv, hkv, rfl, rfl⟩ : ∃ kv, kvs[i]? = some kv ∧ x1 = kV kv.1 ∧ y1 = kv.2 := by
        replace g1 : kvs[i]?.map (fun kv => kV kv.1) = some x1 := g1
        replace g2 : kvs[i]?.map Prod.snd = some y1 := g2
        cases hk : kvs[i]? with
        | none => rw [hk] at g1; cases g1
        | some kv => rw [hk] at g1 g2; cases g1; cases g2; exact ⟨kv, rfl, rfl, rfl⟩
      obtain ⟨c, hc, hrep⟩ : ∃ c, cs[i]? = some c ∧ RepC K (Lk H a kvs od) c kv := by
        have hv : (kvs.map fun p => p.2)[i]? = some kv.2 := by rw [List.getElem?_map, hkv]; rfl
        obtain ⟨c, h3, h4⟩ := pairC_get (repCs_lock (od := od) h1 h2) hv
        have hk2 : (kvs.map (·.1))[i]? = some kv.1 := by rw [List.getElem?_map, hkv]; rfl
        rw [pairC_keys1 h2, List.getElem?_map, List.getElem?_map, h3] at hk2
        have e : kv.1 = Sum.inr c.1 := (Option.some.inj hk2).symm
        exact ⟨c, h3, by rw [show kv = (Sum.inr c.1, kv.2) from Prod.ext e rfl]; exact h4⟩
      have e2 : Ex H' (upd H' Tp (.tup [kV kv.1, kv.2])) := Ex.new hT
      have hp0 : upd H' Tp (.tup [kV kv.1, kv.2]) Tp = some (.tup [kV kv.1, kv.2]) := upd_same
      have hrep2 := hrep.ex (p1.trans e2)
      generalize upd H' Tp (.tup [kV kv.1, kv.2]) = H2 at e2 hp0 hrep2
      obtain ⟨h0, t, fa, m, ht, r1, r2, r3⟩ := hrep2
      rw [h0, ht] at hp0
      refine ⟨Tp, _, rfl, st_of hp0, rfl, _, _, rfl, _, _, rfl, ⟨t, _, rfl, r1, rfl, _, _, rfl, _, _, rfl, _, _, rfl, _, _, rfl, rfl, rfl, ?_⟩⟩
      dsimp only [tYes]
      rw [if_pos rfl]
      refine ⟨rfl, _, rfl, _, rfl, _, rfl, _, rfl, _, rfl, m, _, rfl, .inl r3, fun q hq => ⟨(show 4 ≤ sizeLine by decide), fun tn htn => ?_⟩⟩
      have e3 : Ex H2 (upd H2 q (.dK (skv c.2.ms))) := Ex.new hq
      have e5 := e3.trans (Ex.new (o := .tup [optV c.2.par, .int c.2.lvl, .ref fa, .ref q]) htn)
      have hqD : q ≠ D := fun z => by subst z; rw [e2 _ _ p2] at hq; cases hq
      have hqn : q ≠ tn := fun z => by subst z; rw [upd_same] at htn; cases htn
      have p5 := e5 _ _ (e2 _ _ p2)
      have nf : valV out (Sum.inr c.1 : Key) = none := valV_fresh (fun _ _ r => r.1) p3 (take_fresh hcr.nd hc)
      have hol : out.length = (cs.take i).length := (Paired.length p3).symm
      have hol2 : (cs.take i).length ≤ 6 := by rw [List.length_take]; have := hcr.six; omega
      refine ⟨out, Sum.inr c.1, rfl, p5, sz_lt (by omega), ((p1.trans e2).trans e5).mut hD, _, upd_same, ?_⟩
      rw [putK_new _ nf, List.take_add_one, hc, Option.toList_some]
      exact paired_snoc (Paired.imp (fun _ _ r => (r.ex (e2.trans e5)).put p5) p3) (RepCn.put p5 ⟨rfl, tn, fa, q, rfl, st_of upd_same, ex_t e5 r2, by rw [upd_ne hqn]; exact upd_same, hqD⟩)
    · obtain ⟨p1, out, p2, p3⟩ := p
      rw [hlen, List.take_length] at p3
      refine ⟨Lk.at p1, k D _ hD0 (Lk.back h1 p1) ⟨out, by rw [upd_ne hDa]; exact p2, Paired.imp (fun c kv r => r.free (Lk.at p1)) p3⟩⟩
end
end EE
set_option Elab.async false
set_option linter.all false
set_option maxRecDepth 100000
set_option maxHeartbeats 4000000
namespace EE
open PySem L2 Evl
open C8 (Cal Mak cal0 mak0 pe_c pe_mk pe_gc fnScope_by)
abbrev F_Program : List Str := ["_shared", "_classes", "_functions", "_plain", "sheet"]
structure Txt4 (w : World) (K : PySem.W.Frag) (mg : Str → Option Value) extends Txt3 w K mg where
  m_Program : ∃ C, MkC K mg "Program" "Program.__init__" s_Program_init P_Program_init F_Program C
section
variable {K : PySem.W.Frag} {σ : L2.St} {H H' : Hp} {ta tb tc te tv : TE} {t u : TT} {x y z v : V}
theorem sqT_rm {x C dx : Addr} {fs : List (Str × V)} (hx : H x = some (.ins C dx fs)) {b : Addr} {xs : List V} (h : SqT K H b xs) : SqT K (rmH x H) b xs := by
  rcases h with (h | ⟨o, h⟩) | h
  · exact .inl (.inl (by rw [rmH_ne (fun z => by subst z; rw [hx] at h; cases h)]; exact h))
  · exact .inl (.inr ⟨o, by rw [rmH_ne (fun z => by subst z; rw [hx] at h; cases h)]; exact h⟩)
  · exact .inr h
theorem RepD.rm {x C dx : Addr} {fs : List (Str × V)} {a : Addr} {cs : List (Str × Cl)} (hx : H x = some (.ins C dx fs)) (h : RepD K H a cs) : RepD K (rmH x H) a cs := by
  obtain ⟨kvs, h1, h2⟩ := h
  refine ⟨kvs, by rw [rmH_ne (fun z => by subst z; rw [hx] at h1; cases h1)]; exact h1, Paired.imp (fun c p r => ?_) h2⟩
  obtain ⟨h0, t, f, m, g1, g2, g3, g4⟩ := r
  exact ⟨h0, t, f, m, g1, sqT_rm hx g2, sqT_rm hx g3, by rw [rmH_ne (fun z => by subst z; rw [hx] at g4; cases g4)]; exact g4⟩
theorem RepFD.rm {x C dx : Addr} {fs : List (Str × V)} {a : Addr} {cs : List (Str × Fn)} (hx : H x = some (.ins C dx fs)) (h : RepFD K H a cs) : RepFD K (rmH x H) a cs := by
  obtain ⟨kvs, h1, h2⟩ := h
  exact ⟨kvs, by rw [rmH_ne (fun z => by subst z; rw [hx] at h1; cases h1)]; exact h1, Paired.imp (fun c p r => r.leT fun _ _ => sqT_rm hx) h2⟩
theorem SheetAt.ex {N : Addr → Prop} {fsx : List (Str × V)} {cs : List (Str × Cl)} (e : Ex H H') (h : SheetAt N H fsx cs) : SheetAt N H' fsx cs := by
  obtain ⟨F, M, h1, h2, h3, h4⟩ := h
  exact ⟨F, M, h1, h2, h3.ex e, h4.ex e⟩
theorem SheetAt.rm {N : Addr → Prop} {x C dx : Addr} {fs : List (Str × V)} {fsx : List (Str × V)} {cs : List (Str × Cl)} (hx : H x = some (.ins C dx fs)) (h : SheetAt N H fsx cs) : SheetAt N (rmH x H) fsx cs := by
  obtain ⟨F, M, h1, h2, h3, h4⟩ := h
  exact ⟨F, M, h1, h2, h3.rm hx (fun n u hu C d f z => by cases hu; cases z), h4.rm hx (fun n u hu C d f z => by cases hu; cases z)⟩
theorem DcOut.weak {N N' : Addr → Prop} {U : Str → Option HO} {n : Str} {kv : Key × V} (w : ∀ a, N a → N' a) (h : DcOut N H U n kv) : DcOut N' H U n kv := ⟨h.1, fun u hu => let ⟨a, h1, h3, h2⟩ := h.2 u hu; ⟨a, h1, w a h3, h2⟩⟩
theorem DcAt.weak {N N' : Addr → Prop} {p : Addr} {U : Str → Option HO} {ks : List Str} (w : ∀ a, N a → N' a) (h : DcAt N H p U ks) : DcAt N' H p U ks := ⟨w p h.1, let ⟨out, h1, h2⟩ := h.2; ⟨out, h1, Paired.imp (fun _ _ r => r.weak w) h2⟩⟩
theorem SheetAt.weak {N N' : Addr → Prop} {fsx : List (Str × V)} {cs : List (Str × Cl)} (w : ∀ a, N a → N' a) (h : SheetAt N H fsx cs) : SheetAt N' H fsx cs := by
  obtain ⟨F, M, h1, h2, h3, h4⟩ := h
  exact ⟨F, M, h1, h2, h3.weak w, h4.weak w⟩
def ProgAt (N : Addr → Prop) (CS : Addr) (H : Hp) (fsx : List (Str × V)) (cs : List (Str × Cl)) : Prop := ∃ s dxs fss, fsx.lookup (Str.ofString "sheet") = some (.ref s) ∧ N s ∧ H s = some (.ins CS dxs fss) ∧ SheetAt N H fss cs
/-- what a right program is made of -/
structure Parts (K : PySem.W.Frag) (H : Hp) (sh a b : Addr) (cs : List (Str × Cl)) : Prop where
  ex : ∃ fs, H sh = some (.dK []) ∧ RepD K H a cs ∧ Right cs ∧ RepFD K H b fs ∧ RightFs fs ∧ MethOk cs fs ∧ a ≠ b
theorem Parts.mono {sh a b : Addr} {cs : List (Str × Cl)} (e : Ex H H') (h : Parts K H sh a b cs) : Parts K H' sh a b cs := by
  obtain ⟨fs, h1, h2, h3, h4, h5, h6, h7⟩ := h.ex
  exact ⟨fs, e _ _ h1, h2.ex e, h3, h4.ex e, h5, h6, h7⟩
def sp_Program (K : PySem.W.Frag) (C CS : Addr) : Sp := fun vs H Q _ => ∃ x sh a b cs H0 dx, vs = [.ref x, .ref sh, .ref a, .ref b] ∧ H0 x = none ∧ Ex H0 H ∧ H x = some (.ins C dx []) ∧ Parts K H0 sh a b cs ∧
  ∀ H2 fsx, Ex H0 H2 → H2 x = some (.ins C dx fsx) → ProgAt (fun a => H0 a = none) CS H2 fsx cs → Q .non H2
theorem v_first_wrong {sh a b : Addr} {cs : List (Str × Cl)} (h : Parts K H sh a b cs) : SpV (sp_first_wrong K) [.ref sh, .ref a, .ref b] H .non := spv fun H1 e => by
  obtain ⟨fs, h1, h2, h3, h4, h5, h6, h7⟩ := (h.mono e).ex
  exact ⟨sh, a, b, cs, fs, rfl, rfl, h1, h2, h3, h4, h5, h6, h7⟩
end
section
variable {P : Program} {w : World} {K : PySem.W.Frag} {mg : Str → Option Value} {base : Heap}
theorem sc_Program : FnScope N_Program_init P_Program_init (C8.fnScope s_Program_init) := fnScope_by (by decide +kernel)
theorem mk_Program (T : Txt4 w K mg) {C CS : Addr} (M : MkC K mg "Program" "Program.__init__" s_Program_init P_Program_init F_Program C) (MS : MkC K mg "Sheet" "Sheet.__init__" s_Sheet_init P_Sheet_init F_Sheet CS) : Mak P w K mg base 10 "Program" C (sp_Program K C CS) [] := by
  refine mk_mak M sc_Program (fun vs H Q E h => ?_) (fun f cdv A outer s H vs Q E hr h => ?_)
  · obtain ⟨_, _, _, _, _, _, _, rfl, _⟩ := h
    rfl
  · obtain ⟨x, sh, a, b, cs, H0, dx, rfl, hx, e0, h0, hp, k⟩ := h
    have nd := sc_Program.nd
    have hu := hu_of hr
    have no : ∀ n ∈ F_Program, NoAttr K C n := M.no
    have lk : ∀ {n : Nat} {g : List (Str × V)}, g.length ≤ n → n < 1000 → g.length < 1000 := fun h1 h2 => Nat.lt_of_le_of_lt h1 h2
    refine ⟨_, pss_cons (ps_set (i := 4) nd rfl (Or.inl rfl) (pe_c (ok_first_wrong T.toTxt) hr (by decide) (by rfl) (pa_cons (pv 1) (pa_cons (pv 2) (pa_cons (pv 3) pa_nil)))))
      (pss_cons (ps_if (pt_cmpR op_notN (pv 4) pe_non (nomark _)) pss_never pss_nil)
      (pss_cons (ps_set (i := 5) nd rfl (Or.inl rfl) (pe_c (ok_plain_functions T.toTxt) hr (by decide) (by rfl) (pa_cons (pv 3) pa_nil)))
      (pss_cons (ps_if (pt_cmpR op_isN (pv 5) pe_non (nomark _)) pss_never pss_nil)
      (pss_cons (ps_fld (pv 0) (pe_callTy cr_copyD (by rfl) T.dictT (by decide +kernel) (pa_cons (pv 1) pa_nil)) (by rfl))
      (pss_cons (ps_fld (pv 0) (pe_c (ok_copy T.toTxt) hr (by decide) (by rfl) (pa_cons (pv 2) pa_nil)) (by rfl))
      (pss_cons (ps_fld (pv 0) (pe_callTy cr_copyD (by rfl) T.dictT (by decide +kernel) (pa_cons (pv 3) pa_nil)) (by rfl))
      (pss_cons (ps_fld (pv 0) (pv 5) (by rfl))
      (pss_one (ps_fld (pv 0) (pe_mk (mk_Sheet T.toTxt3 MS) hr (by decide) (by rfl) (pa_cons (pe_fld (pv 0) (by rfl)) (pa_cons (pe_fld (pv 0) (by rfl)) (pa_cons (pv 5) pa_nil)))) (by rfl)))))))))), ?_⟩
    refine q_asg (v := .non) (ev_call (ea_cons (ev_var rfl) (ea_cons (ev_var rfl) (ea_cons (ev_var rfl) ea_nil))) (v_first_wrong (hp.mono e0))) fun H1 e1 => ?_
    refine q_no (et_test (ev_is (ev_op (ev_var (v := .non) rfl) ev_c rv_notN) rfl)) fun H2 e2 => ?_
    have f2 := (e0.trans e1).trans e2
    obtain ⟨fs, hsh, hc, hcr, hf, hfr, hm, hne⟩ := hp.ex
    refine ⟨_, rfl, b, fs, rfl, hf.ex f2, hfr, fun pl H3 hpl e3 hpf => ?_⟩
    refine q_no (et_test (ev_is (ev_op (ev_var (v := .ref pl) rfl) ev_c rv_isN) rfl)) fun H4 e4 => ?_
    have f4 := (f2.trans e3).trans e4
    have g4 : H4 x = some (.ins C dx []) := e4 _ _ (e3 _ _ (e2 _ _ (e1 _ _ h0)))
    have b0 : Ex H0 (rmH x H4) := ex_rmH hx f4
    have hpf0 : RepFD K (rmH x H4) pl fs := (hpf.ex e4).rm g4
    have hpp := hp.mono b0
    refine q_fldR (fun v H => ∃ q, v = .ref q ∧ H q = some (.dK [])) (H0 := rmH x H4) rmH_at rmH_ex g4 rfl (fun Q q => ⟨_, rfl, sh, [], rfl, .inl (f4 _ _ hsh), fun p hp => q _ _ (Ex.new hp) ⟨p, rfl, upd_same⟩⟩)
      (fun v H1 hx1 ⟨q, e, h⟩ => ⟨q, e, by rw [rmH_ne (fun z => by subst z; rw [hx1] at h; cases h)]; exact h⟩) M.cls (no _ (by decide)) (by decide) fun v1 B1 G1 r1 b1 bx1 x1 g1 => ?_
    obtain ⟨sh2, rfl, hs2⟩ := r1
    refine q_fldR (fun v H => ∃ q, v = .ref q ∧ RepD K H q cs) bx1 x1 g1 rfl (fun Q q => ⟨_, rfl, a, cs, rfl, hc.ex ((b0.trans b1).trans x1), hcr, fun p H2 hp e hd => q _ _ e ⟨p, rfl, hd⟩⟩)
      (fun v H1 hx1 ⟨q, e, h⟩ => ⟨q, e, h.rm hx1⟩) M.cls (no _ (by decide)) (lk (putF_le (Nat.le_refl 0)) (by decide)) fun v2 B2 G2 r2 b2 bx2 x2 g2 => ?_
    obtain ⟨a2, rfl, ha2⟩ := r2
    refine q_fldO bx2 x2 g2 rfl (fun H5 e5 Q q => ?_) M.cls (no _ (by decide)) (lk (putF_le (putF_le (Nat.le_refl 0))) (by decide)) fun v3 G3 x3 g3 => ?_
    · obtain ⟨kf, f1, _⟩ := hf
      exact ⟨_, rfl, b, kf, rfl, .inl (e5 _ _ (x2 _ _ (b2 _ _ (b1 _ _ (b0 _ _ f1))))), fun p hp => q _ _ (Ex.new hp)⟩
    refine q_fldO bx2 x3 g3 rfl (.of (ev_var (v := .ref pl) rfl)) M.cls (no _ (by decide)) (lk (putF_le (putF_le (putF_le (Nat.le_refl 0)))) (by decide)) fun v4 G4 x4 g4 => ?_
    have hl : ∀ {n : Str}, n = "_shared" → (putF "_plain" v4 (putF "_functions" v3 (putF "_classes" (.ref a2) (putF "_shared" (.ref sh2) [])))).lookup n = some (.ref sh2) := fun e => by
      subst e
      repeat rw [lookup_putF, if_neg (by decide)]
      rw [lookup_putF, if_pos rfl]
    have hl2 : ∀ {n : Str}, n = "_classes" → (putF "_plain" v4 (putF "_functions" v3 (putF "_classes" (.ref a2) (putF "_shared" (.ref sh2) [])))).lookup n = some (.ref a2) := fun e => by
      subst e
      repeat rw [lookup_putF, if_neg (by decide)]
      rw [lookup_putF, if_pos rfl]
    refine ⟨_, rfl, _, _, _, _, _, rfl, g4, M.cls, no _ (by decide), hl rfl, _, rfl, _, _, _, _, _, rfl, g4, M.cls, no _ (by decide), hl2 rfl, _, rfl, fun xs dxs hxs hdxs hdn => ?_⟩
    refine ⟨xs, sh2, a2, pl, cs, fs, G4, dxs, rfl, hxs, (Ex.new hdxs).mut hxs, upd_same, x4 _ _ (b2 _ _ hs2), ha2.ex x4, hcr, hpf0.ex ((b1.trans b2).trans x4), hfr, fun H6 fsx e6 h6 hsheet => ⟨rfl, ?_⟩⟩
    have g6 := e6 _ _ g4
    have hxx : xs ≠ x := fun z => by subst z; rw [g4] at hxs; cases hxs
    refine ⟨_, rfl, x, C, dx, _, rfl, g6, M.cls, no _ (by decide), lk (putF_le (putF_le (putF_le (putF_le (Nat.le_refl 0))))) (by decide), ?_⟩
    refine k _ _ ((((b0.trans b1).trans b2).trans x4).trans e6 |>.mut hx) upd_same ⟨xs, dxs, fsx, by rw [lookup_putF, if_pos rfl], fresh_back (((b0.trans b1).trans b2).trans x4) hxs, by rw [upd_ne hxx]; exact h6, ((hsheet.weak fun a ha => fresh_back (((b0.trans b1).trans b2).trans x4) ha).rm g6).ex rmH_put⟩
end
end EE
set_option Elab.async false
set_option linter.all false
set_option maxRecDepth 100000
set_option maxHeartbeats 4000000
namespace EE
open PySem L2 Evl
open C8 (Cal Mak cal0 mak0 pe_c pe_mk pe_gc fnScope_by)
/-- the error NoName -/
structure NnX (K : PySem.W.Frag) (mg : Str → Option Value) (C : Addr) : Prop where
  mgc : mg "NoName" = some (.ref C)
  ox : OexC K C
  xf : XfC K C
  no : PySem.W.findIn K (.ref C) "name" = some none
  te : PySem.W.exmOne K (.ref C) (.ref C) = some true
  ini : ∃ fI fd, PySem.W.findIn K (.ref C) "__init__" = some (some (.ref fI)) ∧ PySem.W.typeIn K (.ref fI) = some (.type "function") ∧ C8.Fun K "__init__" "NoName.__init__" s_NoName_init fI fd ∧ Binds K fd P_NoName_init []
structure Txt5 (w : World) (K : PySem.W.Frag) (mg : Str → Option Value) extends Txt4 w K mg where
  m_NoName : ∃ C, NnX K mg C
  d_fields_of : DefX K mg "fields_of" s_fields_of P_fields_of
  d_method_of : DefX K mg "method_of" s_method_of P_method_of
structure CalX (P : Program) (w : World) (K : PySem.W.Frag) (mg : Str → Option Value) (base : Heap) (k : Nat) (x : Str) (sp : Sp) : Prop where
  ex : ∃ (f : Addr) (fd : FuncData) (ps : List Str), FnOk P w K mg base (L2.CX P w) k f fd ps sp ∧ mg x = some (.ref f) ∧ PySem.W.keepIn K (.ref f) = true ∧ Binds K fd ps []
section
variable {P : Program} {w : World} {K : PySem.W.Frag} {mg : Str → Option Value} {base : Heap}
theorem calX {x : Str} {st : Stmt} {N ps : List Str} {k : Nat} {sp : Sp} (D : DefX K mg x st ps) (S : FnScope N ps (C8.fnScope st)) (len : ∀ vs H Q E, sp vs H Q E → vs.length = ps.length)
    (hbody : ∀ (f : Addr) (cdv : Value) (A : Around) (outer : List Env) (s : Shared) (H : Hp) (vs : List V) (Q : VK) (E : XK), Room k (A.deeper (PyProof.Rows.envOfC x (C8.fnScope st) s.heap.objs.size f cdv)) → sp vs H Q E →
      ∃ t, PSs (cxOf (L2.CX P w) P w K mg base N x (C8.fnScope st) f cdv A outer s H E) (C8.fnBody st) t ∧ t { nx := fun _ H' => Q .non H', rt := Q } (start N vs) H) : CalX P w K mg base (k + 1) x sp := by
  obtain ⟨f, fd, D, b⟩ := D.ex
  obtain ⟨oc, od, dV, kV, doc, pm, an, cdv, ct, osl, rfl, lk, hcd⟩ := D.fn.ex
  exact ⟨f, _, ps, fn_of lk hcd S len fun A outer s H vs Q E hr hsp => hbody f cdv A outer s H vs Q E hr hsp, D.mgf, D.kp, b⟩
/-! NoName's own making -/
def sp_NN (C : Addr) : Sp := fun vs H Q _ => ∃ e v, vs = [.ref e, v] ∧ H e = some (exo e C none) ∧ ∀ dx, H dx = none → dx ≠ e → Q .non (upd (upd H dx (exd dx [(Str.ofString "name", v)])) e (exo e C (some dx)))
theorem sc_NN : FnScope N_NoName_init P_NoName_init (C8.fnScope s_NoName_init) := fnScope_by (by decide +kernel)
theorem ok_NN {C fI : Addr} {fd : FuncData} (M : NnX K mg C) (F : C8.Fun K "__init__" "NoName.__init__" s_NoName_init fI fd) : FnOk P w K mg base C8.CX0 1 fI fd P_NoName_init (sp_NN C) := by
  refine C8.fn0 F sc_NN (fun vs H Q E h => ?_) (fun cdv A outer s H vs Q E hr h => ?_)
  · obtain ⟨_, _, rfl, _⟩ := h
    rfl
  · obtain ⟨e, v, rfl, he, k⟩ := h
    refine ⟨_, pss_one (ps_ost (pv 0) (pv 1) (by rfl)), ?_⟩
    exact ⟨_, rfl, _, rfl, e, C, rfl, M.ox, M.no, .inl ⟨he, fun dx hdx hne => k dx hdx hne⟩⟩
/-- raise NoName(v) -/
theorem pmk_NN {X : Cx} {C fI : Addr} {fd : FuncData} {a : Expr} {ta : TA} {p pos : Pos} (M : NnX X.K X.mg C) (iC : PySem.W.findIn X.K (.ref C) "__init__" = some (some (.ref fI))) (tI : PySem.W.typeIn X.K (.ref fI) = some (.type "function"))
    (F : C8.Fun X.K "__init__" "NoName.__init__" s_NoName_init fI fd) (b : Binds X.K fd P_NoName_init []) (hr : Room 2 X.A) (hg : Gl X "NoName") (ha : PA X [a] ta) (he : starEach (a :: []) X.env = (false, eval a X.env) :: starEach [] X.env := by rfl) (hpl : (backTo pos (starEach [] X.env)).any (·.1) = false := by rfl) :
    PMk X (.Call (.Name "NoName" p) [a] [] pos) (tMkO C (sp_NN C) [] ta) :=
  pmk_oex M.ox iC tI (ok_NN M F) hr b .nil C8.pass0 hg M.mgc ha (by decide) he hpl
/-- what NoName leaves -/
theorem mkO_NN {σ : L2.St} {H : Hp} {te : TE} {v : V} {C : Addr} {Q : XK} (h : Ev te σ H v) (k : ∀ d H1, Ex H H1 → H d = none → H1 d = some (.xd [(Str.ofString "name", v)]) → Q (.ref C) (some d) H1) : tMkO C (sp_NN C) [] (tCons te tNil) σ H Q :=
  h H (Ex.refl H) _ fun H1 e1 => ⟨show 1 ≤ 1000 by decide, fun a ha => ⟨a, v, rfl, upd_same, fun dx hdx hne => by
    rw [upd_ne hne] at hdx
    refine ⟨rfl, dx, _, upd_same, by rw [upd_ne hne, upd_same], hdx, k dx _ (e1.trans fun b o hb => ?_) (fresh_back e1 hdx) upd_same⟩
    have h1 : b ≠ a := fun z => by subst z; rw [ha] at hb; cases hb
    have h2 : b ≠ dx := fun z => by subst z; rw [hdx] at hb; cases hb
    rw [upd_ne h2, del_ne h1, upd_ne h1, upd_ne h2, upd_ne h1]
    exact hb⟩⟩
end
section
variable {P : Program} {w : World} {K : PySem.W.Frag} {mg : Str → Option Value} {base : Heap}
theorem dcAt_look {N : Addr → Prop} {H : Hp} {U : Str → Option HO} {n : Str} : ∀ {ks : List Str} {out : List (Key × V)}, Paired (DcOut N H U) ks out → n ∈ ks → ∃ v, valV out (Sum.inr n : Key) = some v ∧ ∀ u, U n = some u → ∃ a, v = .ref a ∧ N a ∧ H a = some u
  | c :: ks, p :: out, .cons h t, hn => by
    by_cases e : c = n
    · subst e
      exact ⟨p.2, valV_pos h.1, h.2⟩
    · rw [valV_neg (fun z => e (Sum.inr.inj (h.1.symm.trans z)))]
      exact dcAt_look t ((List.mem_cons.mp hn).resolve_left (fun z => e z.symm))
/-- the error that fields_of and method_of raise for v; E: told of it -/
def NoNm (CN : Addr) (v : V) (H : Hp) (E : XK) : Prop := ∀ d H2, Ex H H2 → H d = none → H2 d = some (.xd [(Str.ofString "name", v)]) → E (.ref CN) (some d) H2
/-- no name of a class -/
def NotCls (K : PySem.W.Frag) (H : Hp) (cs : List (Str × Cl)) (v : V) : Prop := ∃ b, NmV K H v b ∧ (b = true → ∃ n, v = .str n ∧ n ∉ cnames cs)
def sp_fields_of (K : PySem.W.Frag) (CP CS CN : Addr) : Sp := fun vs H Q E => ∃ p v fsx dx cs N, vs = [.ref p, v] ∧ H p = some (.ins CP dx fsx) ∧ ProgAt N CS H fsx cs ∧
  ((∃ n, v = .str n ∧ OkNm n ∧ n ∈ cnames cs ∧ ∀ H2 a, Ex H H2 → H2 a = some (.tup ((allFields cs n).map V.str)) → Q (.ref a) H2) ∨ (NotCls K H cs v ∧ NoNm CN v H E))
theorem sc_fields_of : FnScope N_fields_of P_fields_of (C8.fnScope s_fields_of) := fnScope_by (by decide +kernel)
theorem ok_fields_of (T : Txt5 w K mg) {CP CS CN : Addr} (MP : MkC K mg "Program" "Program.__init__" s_Program_init P_Program_init F_Program CP) (MS : MkC K mg "Sheet" "Sheet.__init__" s_Sheet_init P_Sheet_init F_Sheet CS) (MN : NnX K mg CN) : CalX P w K mg base 3 "fields_of" (sp_fields_of K CP CS CN) := by
  obtain ⟨fI, fd, iC, tI, F, b⟩ := MN.ini
  refine calX T.d_fields_of sc_fields_of (fun vs H Q E h => ?_) (fun f cdv A outer s H vs Q E hr h => ?_)
  · obtain ⟨_, _, _, _, _, _, rfl, _⟩ := h
    rfl
  · obtain ⟨p, v, fsx, dx, cs, N, rfl, hp, hpa, k⟩ := h
    have nd := sc_fields_of.nd
    have hu := hu_of hr
    refine ⟨_, pss_cons (ps_if (PW.pt (pw_or (pt_not (pt_val (pe_c (ok_is_name T.toTxt) hr (by decide) (by rfl) (pa_cons (pv 1) pa_nil)))) (pw_or1 (pt_cmp (pc_dnotin hu (pv 1) (pe_fld (pe_fld (pv 0) (by rfl)) (by rfl)))))))
        (pss_one (ps_raise rfl (takes_of rfl rfl rfl rfl) (pmk_NN MN iC tI F b hr (by rfl) (pa_cons (pv 1) pa_nil)))) pss_nil)
      (pss_one (ps_ret (pe_dget hu (pe_fld (pe_fld (pv 0) (by rfl)) (by rfl)) (pv 1) (fun _ _ => rfl)))), ?_⟩
    obtain ⟨sx, dxs, fss, l1, _, hs, Fa, Ma, l2, l3, ⟨_, out, ho, hpr⟩, _⟩ := hpa
    have no1 : NoAttr K CP "sheet" := MP.no _ (by decide)
    have no2 : NoAttr K CS "fields" := MS.no _ (by decide)
    have evF : Ev (tFld K (tFld K (tVar 0) "sheet") "fields") (start N_fields_of [.ref p, v]) H (.ref Fa) := ev_fld (ev_fld (ev_var rfl) hp MP.cls no1 l1) hs MS.cls no2 l2
    rcases k with ⟨n, rfl, hnm, hn, k⟩ | ⟨⟨bn, hnm, hb⟩, k⟩
    · obtain ⟨v, hv, hu2⟩ := dcAt_look hpr hn
      obtain ⟨a, rfl, _, ha⟩ := hu2 _ rfl
      refine q_no (et_orF (et_notT (et_B (ev_call (ea_cons (ev_var rfl) ea_nil) (v_nm hnm)))) (et_is (et_B (et_dnotin (k := Sum.inr n) (ev_var rfl) evF (.inl ho))) (by rw [hv]; rfl))) fun H1 e1 => ?_
      exact s_ret (v := .ref a) (ev_dget (k := Sum.inr n) (evF.mono e1) (ev_var rfl) (.inl (e1 _ _ ho)) hv) fun H2 e2 => k H2 a (e1.trans e2) (e2 _ _ (e1 _ _ ha))
    · refine q_when (b := true) ?_ (fun _ H1 e1 => mkO_NN (ev_var (v := v) rfl) fun d H2 e2 hd h2 => k d H2 (e1.trans e2) (fresh_back e1 hd) h2) (fun z => nomatch z)
      cases bn with
      | false => exact et_is (et_or (a := true) (b := true) (et_not (a := false) (et_B (ev_call (ea_cons (ev_var rfl) ea_nil) (v_is_name hnm)))) (fun z => nomatch z)) rfl
      | true =>
        obtain ⟨n, rfl, hn⟩ := hb rfl
        have hv : valV out (Sum.inr n : Key) = none := keys_fresh (fun _ _ r => r.1) hpr hn
        exact et_is (et_or (a := false) (b := true) (et_not (a := true) (et_B (ev_call (ea_cons (ev_var rfl) ea_nil) (v_is_name hnm)))) fun _ => et_is (et_B (et_dnotin (k := Sum.inr n) (ev_var rfl) evF (.inl ho))) (by rw [hv]; rfl)) rfl
/-! method_of -/
def methV (cs : List (Str × Cl)) (n m : Str) : V := (valV (allMs cs n) (Sum.inr m : Key)).getD .non
def sp_method_of (K : PySem.W.Frag) (CP CS CN : Addr) : Sp := fun vs H Q E => ∃ p v m fsx dx cs N, vs = [.ref p, v, .str m] ∧ OkNm m ∧ H p = some (.ins CP dx fsx) ∧ ProgAt N CS H fsx cs ∧
  ((∃ n, v = .str n ∧ OkNm n ∧ n ∈ cnames cs ∧ ∀ H2, Ex H H2 → Q (methV cs n m) H2) ∨ (NotCls K H cs v ∧ NoNm CN v H E))
theorem ev_dget1 {σ : L2.St} {H : Hp} {td ty : TE} {a : Addr} {kvs : List (Key × V)} {k : Key} (hd : Ev td σ H (.ref a)) (hy : Ev ty σ H (kV k)) (h : H a = some (.dK kvs)) : Ev (tDGet1 td ty) σ H ((valV kvs k).getD .non) := fun H1 e Q q =>
  hd H1 e _ fun H2 e2 => ⟨a, rfl, .inl ⟨kvs, .inl (e2 _ _ (e _ _ h))⟩, hy H2 (e.trans e2) _ fun H3 e3 => ⟨_, .inl ⟨kvs, k, .inl (e3 _ _ (e2 _ _ (e _ _ h))), rfl, rfl⟩, q H3 (e2.trans e3)⟩⟩
theorem sc_method_of : FnScope N_method_of P_method_of (C8.fnScope s_method_of) := fnScope_by (by decide +kernel)
theorem ok_method_of (T : Txt5 w K mg) {CP CS CN : Addr} (MP : MkC K mg "Program" "Program.__init__" s_Program_init P_Program_init F_Program CP) (MS : MkC K mg "Sheet" "Sheet.__init__" s_Sheet_init P_Sheet_init F_Sheet CS) (MN : NnX K mg CN) : CalX P w K mg base 3 "method_of" (sp_method_of K CP CS CN) := by
  obtain ⟨fI, fd, iC, tI, F, b⟩ := MN.ini
  refine calX T.d_method_of sc_method_of (fun vs H Q E h => ?_) (fun f cdv A outer s H vs Q E hr h => ?_)
  · obtain ⟨_, _, _, _, _, _, _, rfl, _⟩ := h
    rfl
  · obtain ⟨p, v, m, fsx, dx, cs, N, rfl, hm, hp, hpa, k⟩ := h
    have nd := sc_method_of.nd
    have hu := hu_of hr
    refine ⟨_, pss_cons (ps_if (PW.pt (pw_or (pt_not (pt_val (pe_c (ok_is_name T.toTxt) hr (by decide) (by rfl) (pa_cons (pv 1) pa_nil)))) (pw_or1 (pt_cmp (pc_dnotin hu (pv 1) (pe_fld (pe_fld (pv 0) (by rfl)) (by rfl)))))))
        (pss_one (ps_raise rfl (takes_of rfl rfl rfl rfl) (pmk_NN MN iC tI F b hr (by rfl) (pa_cons (pv 1) pa_nil)))) pss_nil)
      (pss_one (ps_ret (pe_ifExp (pt_val (pe_c (ok_is_name T.toTxt) hr (by decide) (by rfl) (pa_cons (pv 2) pa_nil))) (pe_dget1 hu (pe_dget hu (pe_fld (pe_fld (pv 0) (by rfl)) (by rfl)) (pv 1) (fun _ _ => rfl)) (pv 2) ⟨rfl, rfl, rfl, rfl⟩) pe_non))), ?_⟩
    obtain ⟨sx, dxs, fss, l1, _, hs, Fa, Ma, l2, l3, _, ⟨_, out, ho, hpr⟩⟩ := hpa
    have no1 : NoAttr K CP "sheet" := MP.no _ (by decide)
    have no2 : NoAttr K CS "methods" := MS.no _ (by decide)
    have evF : Ev (tFld K (tFld K (tVar 0) "sheet") "methods") (start N_method_of [.ref p, v, .str m]) H (.ref Ma) := ev_fld (ev_fld (ev_var rfl) hp MP.cls no1 l1) hs MS.cls no2 l3
    rcases k with ⟨n, rfl, hnm, hn, k⟩ | ⟨⟨bn, hnm, hb⟩, k⟩
    · obtain ⟨v, hv, hu2⟩ := dcAt_look hpr hn
      obtain ⟨a, rfl, _, ha⟩ := hu2 _ rfl
      refine q_no (et_orF (et_notT (et_B (ev_call (ea_cons (ev_var rfl) ea_nil) (v_nm hnm)))) (et_is (et_B (et_dnotin (k := Sum.inr n) (ev_var rfl) evF (.inl ho))) (by rw [hv]; rfl))) fun H1 e1 => ?_
      exact s_ret (v := methV cs n m) (ev_if (b := true) (et_B (ev_call (ea_cons (ev_var rfl) ea_nil) (v_nm hm))) (fun _ => ev_dget1 (k := Sum.inr m) (ev_dget (k := Sum.inr n) (evF.mono e1) (ev_var rfl) (.inl (e1 _ _ ho)) hv) (ev_var rfl) (e1 _ _ ha)) (fun z => nomatch z)) fun H2 e2 => k H2 (e1.trans e2)
    · refine q_when (b := true) ?_ (fun _ H1 e1 => mkO_NN (ev_var (v := v) rfl) fun d H2 e2 hd h2 => k d H2 (e1.trans e2) (fresh_back e1 hd) h2) (fun z => nomatch z)
      cases bn with
      | false => exact et_is (et_or (a := true) (b := true) (et_not (a := false) (et_B (ev_call (ea_cons (ev_var rfl) ea_nil) (v_is_name hnm)))) (fun z => nomatch z)) rfl
      | true =>
        obtain ⟨n, rfl, hn⟩ := hb rfl
        have hv : valV out (Sum.inr n : Key) = none := keys_fresh (fun _ _ r => r.1) hpr hn
        exact et_is (et_or (a := false) (b := true) (et_not (a := true) (et_B (ev_call (ea_cons (ev_var rfl) ea_nil) (v_is_name hnm)))) fun _ => et_is (et_B (et_dnotin (k := Sum.inr n) (ev_var rfl) evF (.inl ho))) (by rw [hv]; rfl)) rfl
end
end EE
set_option Elab.async false
set_option linter.all false
set_option maxRecDepth 100000
set_option maxHeartbeats 4000000
namespace EE
open PySem L2 Evl
open C8 (Cal Mak cal0 mak0 pe_c pe_mk pe_gc fnScope_by)
structure Txt6 (w : World) (K : PySem.W.Frag) (mg : Str → Option Value) extends Txt5 w K mg where
  absT : mg "abs" = none
  rangeT : mg "range" = none
  d_pot : DefX K mg "_law_pot" s__law_pot P__law_pot
  d_take : DefX K mg "_law_take" s__law_take P__law_take
  d_name : DefX K mg "_law_name" s__law_name P__law_name
  d_turned : DefX K mg "_law_turned" s__law_turned P__law_turned
  d_methods : DefX K mg "_law_methods" s__law_methods P__law_methods
  d_classes : DefX K mg "_law_classes" s__law_classes P__law_classes
  d_line : DefX K mg "_law_line" s__law_line P__law_line
  d_refused : DefX K mg "_law_refused" s__law_refused P__law_refused
  d_right : DefX K mg "_law_right" s__law_right P__law_right
  d_law : DefX K mg "law" s_law P_law
section
variable {K : PySem.W.Frag} {σ : L2.St} {B H H' : Hp} {ta tb tc te tv : TE} {t u : TT} {x y z v : V}
/-- the pot at p, its great ones at g: apart from all that B has -/
structure PotAt (B H : Hp) (p g : Addr) : Prop where
  bp : B p = none
  bg : B g = none
  ne : p ≠ g
  ex : Ex B H
  at_ : ∃ (xs : List Int) (seed cnt most : Int), H p = some (.lst [.ref g, .int seed, .int cnt, .int most]) ∧ H g = some (.lst (xs.map V.int))
theorem PotAt.mono {p g : Addr} (e : Ex H H') (h : PotAt B H p g) : PotAt B H' p g := ⟨h.bp, h.bg, h.ne, h.ex.trans e, let ⟨xs, s, c, m, h1, h2⟩ := h.at_; ⟨xs, s, c, m, e _ _ h1, e _ _ h2⟩⟩
/-- a draw: 0 <= r < many -/
def sp_take : Sp := fun vs H Q _ => ∃ p g many B, vs = [.ref p, .int many] ∧ (1 : Int) ≤ many ∧ many ≤ 1000 ∧ PotAt B H p g ∧ ∀ r : Int, ∀ H2, 0 ≤ r → r < many → PotAt B H2 p g → Q (.int r) H2
theorem rc_int {i : Int} : RC (fun xs H Q => (∃ i, xs = [.int i] ∧ Q (.int i) H) ∨ ∃ k, xs = [.bl k] ∧ Q (.int (if k then 1 else 0)) H) [.int i] H (.int i) := fun H1 e Q q => .inl ⟨i, rfl, q H1 (Ex.refl H1)⟩
end
section
variable {P : Program} {w : World} {K : PySem.W.Frag} {mg : Str → Option Value} {base : Heap}
theorem sc_take : FnScope N__law_take P__law_take (C8.fnScope s__law_take) := fnScope_by (by decide +kernel)
theorem ok_take (T : Txt6 w K mg) : Cal P w K mg base 1 "_law_take" sp_take [] := by
  refine mk_cal T.d_take sc_take (fun vs H Q E h => ?_) (fun f cdv A outer s H vs Q E hr h => ?_)
  · obtain ⟨_, _, _, _, rfl, _⟩ := h
    rfl
  · obtain ⟨p, g, many, B, rfl, hm1, hm2, hp, k⟩ := h
    have nd := sc_take.nd
    refine ⟨_, pss_cons (ps_set (i := 2) nd rfl (Or.inl rfl) (pe_ix ix_list (pv 0) pe_int (fun _ _ => rfl)))
      (pss_cons (ps_if (pt_cmpR op_gt (pe_callB call_len_seq (by rfl) T.len (by decide +kernel) (pa_cons (pv 2) pa_nil)) pe_int (nomark _))
        (pss_cons (ps_set (i := 3) nd rfl (Or.inl rfl) (pe_callTy call_int1 (by rfl) T.intT (by decide +kernel) (pa_cons (pe_ix ix_list (pv 2) pe_int (fun _ _ => rfl)) pa_nil)))
        (pss_cons (ps_asg (pe_op op_fdiv (pv 3) (pv 1)) (pg_sub (pv 2) pe_int set_list))
        (pss_cons (ps_if (pt_cmpR op_eq (pe_ix ix_list (pv 2) pe_int (fun _ _ => rfl)) pe_int (nomark _)) (pss_one (ps_expr (pe_bm PySem.F.plainAttrs_list PySem.F.slot_list_pop PySem.F.type_list_pop mt_popAt (pv 2) (pa_cons pe_int pa_nil)))) pss_nil)
        (pss_one (ps_ret (pe_op op_mod (pe_callTy call_int1 (by rfl) T.intT (by decide +kernel) (pa_cons (pv 3) pa_nil)) (pv 1))))))) pss_nil)
      (pss_cons (ps_asg (pe_op op_add (pe_ix ix_list (pv 0) pe_int (fun _ _ => rfl)) pe_int) (pg_sub (pv 0) pe_int set_list))
      (pss_cons (ps_set (i := 3) nd rfl (Or.inl rfl) (pe_op op_mod (pe_callTy call_int1 (by rfl) T.intT (by decide +kernel) (pa_cons (pe_op op_mul (pe_op op_add (pe_op op_add (pe_ix ix_list (pv 0) pe_int (fun _ _ => rfl)) (pe_op op_mul (pe_ix ix_list (pv 0) pe_int (fun _ _ => rfl)) pe_int)) pe_int) pe_int) pa_nil)) pe_int))
      (pss_cons (ps_set (i := 3) nd rfl (Or.inl rfl) (pe_op op_mod (pe_callTy call_int1 (by rfl) T.intT (by decide +kernel) (pa_cons (pe_op op_mul (pv 3) (pe_op op_add (pe_op op_fdiv (pv 3) pe_int) pe_int)) pa_nil)) pe_int))
      (pss_cons (ps_set (i := 3) nd rfl (Or.inl rfl) (pe_op op_mod (pe_callTy call_int1 (by rfl) T.intT (by decide +kernel) (pa_cons (pe_op op_mul (pv 3) (pe_op op_add (pe_op op_add (pe_op op_fdiv (pv 3) pe_int) pe_int) (pe_ix ix_list (pv 0) pe_int (fun _ _ => rfl)))) pa_nil)) pe_int))
      (pss_one (ps_ret (pe_op op_mod (pe_callTy call_int1 (by rfl) T.intT (by decide +kernel) (pa_cons (pe_op op_fdiv (pv 3) pe_int) pa_nil)) (pv 1))))))))), ?_⟩
    obtain ⟨xs, sd, ct, mo, h1, h2⟩ := hp.at_
    refine q_asg (v := .ref g) (ev_op (ev_var rfl) ev_c (rv_ixL (sq_of h1) (at_of (j := 0) rfl rfl))) fun H1 e1 => ?_
    have p1 := hp.mono e1
    replace h1 := e1 _ _ h1
    replace h2 := e1 _ _ h2
    cases xs with
    | cons n r =>
      refine q_when (b := true) (et_test (ev_is (ev_op (ev_cb (ea_cons (ev_var (v := .ref g) rfl) ea_nil) (rc_lenS (.inl (sq_of h2)))) (ev_c (v := .int 0)) rv_I0) (by congr 1; simp))) (fun _ H2 e2 => ?_) (fun z => nomatch z)
      replace h1 := e2 _ _ h1
      replace h2 := e2 _ _ h2
      refine q_asg (v := .int n) (ev_cb (ea_cons (ev_op (ev_var (v := .ref g) rfl) ev_c (rv_ixL (sq_of h2) (at_of (j := 0) rfl rfl))) ea_nil) rc_int) fun H3 e3 => ?_
      replace h1 := e3 _ _ h1
      replace h2 := e3 _ _ h2
      refine q_setL (v := .int (n / many)) (j := 0) h2 (ev_op (ev_var (v := .int n) rfl) (ev_var (v := .int many) rfl) (rv_I (C := CDiv) ⟨by omega, by omega⟩)) (ev_var (v := .ref g) rfl) ev_c (by simp) fun H4 e4 => ?_
      have p4 : PotAt B (upd H4 g (.lst (((n :: r).map V.int).set 0 (.int (n / many))))) p g :=
        ⟨p1.bp, p1.bg, p1.ne, (((p1.ex.trans e2).trans e3).trans e4).mut p1.bg, (n / many) :: r, sd, ct, mo, by rw [upd_ne p1.ne]; exact e4 _ _ h1, by rw [upd_same]; rfl⟩
      have g4 : upd H4 g (.lst (((n :: r).map V.int).set 0 (.int (n / many)))) g = some (.lst (((n / many) :: r).map V.int)) := by rw [upd_same]; rfl
      generalize upd H4 g (.lst (((n :: r).map V.int).set 0 (.int (n / many)))) = G4 at p4 g4
      have fin : ∀ G, PotAt B G p g → tRet (tOp (rI (fun _ j => 0 < j) fun i j => .int (i % j)) (tCB (fun xs H Q => (∃ i, xs = [.int i] ∧ Q (.int i) H) ∨ ∃ k, xs = [.bl k] ∧ Q (.int (if k then 1 else 0)) H) (tCons (tVar 3) tNil)) (tVar 1)) { nx := fun _ H' => Q .non H', rt := Q } [some (.ref p), some (.int many), some (.ref g), some (.int n)] G := fun G hG =>
        s_ret (v := .int (n % many)) (ev_op (ev_cb (ea_cons (ev_var (v := .int n) rfl) ea_nil) rc_int) (ev_var (v := .int many) rfl) (rv_I (C := fun _ j => 0 < j) (by omega))) fun H5 e5 => k _ _ (Int.emod_nonneg _ (by omega)) (Int.emod_lt_of_pos _ (by omega)) (hG.mono e5)
      refine q_when (b := decide (V.int (n / many) = V.int 0)) (et_test (ev_op (ev_op (ev_var (v := .ref g) rfl) ev_c (rv_ixL (v := .int (n / many)) (sq_of g4) (at_of (j := 0) rfl rfl))) ev_c (rv_eq rfl))) (fun _ H5 e5 => ?_) (fun _ H5 e5 => fin _ (p4.mono e5))
      have p5 := p4.mono e5
      have g5 := e5 _ _ g4
      obtain ⟨_, s5, c5, m5, q1, _⟩ := p5.at_
      refine ⟨_, rfl, Or.inl ⟨rfl, _, sq_of g5⟩, g, _, 0, 0, _, rfl, rfl, g5, by decide, by decide, by simp [seqIndex?], rfl, fin _ ⟨p5.bp, p5.bg, p5.ne, p5.ex.mut p5.bg, r, s5, c5, m5, by rw [upd_ne p5.ne]; exact q1, by rw [upd_same]; rfl⟩⟩
    | nil =>
      refine q_when (b := false) (et_test (ev_is (ev_op (ev_cb (ea_cons (ev_var (v := .ref g) rfl) ea_nil) (rc_lenS (xs := []) (.inl (sq_of h2)))) (ev_c (v := .int 0)) rv_I0) rfl)) (fun z => nomatch z) fun _ H2 e2 => ?_
      replace h1 := e2 _ _ h1
      refine q_setL (v := .int (ct + 1)) (j := 2) h1 (ev_op (ev_op (ev_var (v := .ref p) rfl) ev_c (rv_ixL (v := .int ct) (sq_of h1) (at_of (j := 2) rfl rfl))) ev_c rv_I0) (ev_var (v := .ref p) rfl) ev_c (show 2 < 4 by decide) fun H3 e3 => ?_
      have g3 : upd H3 p (.lst ([V.ref g, .int sd, .int ct, .int mo].set 2 (.int (ct + 1)))) p = some (.lst [.ref g, .int sd, .int (ct + 1), .int mo]) := upd_same
      have p3 : PotAt B (upd H3 p (.lst ([V.ref g, .int sd, .int ct, .int mo].set 2 (.int (ct + 1))))) p g :=
        ⟨p1.bp, p1.bg, p1.ne, ((p1.ex.trans e2).trans e3).mut p1.bp, [], sd, ct + 1, mo, g3, by rw [upd_ne (Ne.symm p1.ne)]; exact e3 _ _ (e2 _ _ h2)⟩
      generalize upd H3 p (.lst ([V.ref g, .int sd, .int ct, .int mo].set 2 (.int (ct + 1)))) = G3 at p3 g3
      have cm : ∀ {i j : Int}, j < 2147483647 → 0 ≤ j → CMul i j := fun h h2 => .inr ⟨by omega, by omega⟩
      have cm2 : ∀ {i j : Int}, i < 2147483647 → 0 ≤ i → CMul i j := fun h h2 => .inl ⟨by omega, by omega⟩
      refine q_asg (v := .int (((sd + (ct + 1) * 7919 + 1) * 48271) % 2147483647)) (ev_op (ev_cb (ea_cons (ev_op (ev_op (ev_op (ev_op (ev_var (v := .ref p) rfl) ev_c (rv_ixL (v := .int sd) (sq_of g3) (at_of (j := 1) rfl rfl))) (ev_op (ev_op (ev_var (v := .ref p) rfl) ev_c (rv_ixL (v := .int (ct + 1)) (sq_of g3) (at_of (j := 2) rfl rfl))) ev_c (rv_I (C := CMul) (cm (by omega) (by omega)))) rv_I0) ev_c rv_I0) ev_c (rv_I (C := CMul) (cm (by omega) (by omega)))) ea_nil) rc_int) ev_c (rv_I (C := fun _ j => 0 < j) (by omega))) fun H4 e4 => ?_
      have b1 : 0 ≤ ((sd + (ct + 1) * 7919 + 1) * 48271) % 2147483647 ∧ ((sd + (ct + 1) * 7919 + 1) * 48271) % 2147483647 < 2147483647 := ⟨Int.emod_nonneg _ (by omega), Int.emod_lt_of_pos _ (by omega)⟩
      generalize ((sd + (ct + 1) * 7919 + 1) * 48271) % 2147483647 = n1 at b1
      refine q_asg (v := .int ((n1 * (n1 / 1009 + 69621)) % 2147483647)) (ev_op (ev_cb (ea_cons (ev_op (ev_var (v := .int n1) rfl) (ev_op (ev_op (ev_var (v := .int n1) rfl) ev_c (rv_I (C := CDiv) ⟨by omega, by omega⟩)) ev_c rv_I0) (rv_I (C := CMul) (cm2 b1.2 b1.1))) ea_nil) rc_int) ev_c (rv_I (C := fun _ j => 0 < j) (by omega))) fun H5 e5 => ?_
      have b2 : 0 ≤ (n1 * (n1 / 1009 + 69621)) % 2147483647 ∧ (n1 * (n1 / 1009 + 69621)) % 2147483647 < 2147483647 := ⟨Int.emod_nonneg _ (by omega), Int.emod_lt_of_pos _ (by omega)⟩
      generalize (n1 * (n1 / 1009 + 69621)) % 2147483647 = n2 at b2
      have g5 := e5 _ _ (e4 _ _ g3)
      refine q_asg (v := .int ((n2 * (n2 / 2003 + 40692 + (ct + 1))) % 2147483399)) (ev_op (ev_cb (ea_cons (ev_op (ev_var (v := .int n2) rfl) (ev_op (ev_op (ev_op (ev_var (v := .int n2) rfl) ev_c (rv_I (C := CDiv) ⟨by omega, by omega⟩)) ev_c rv_I0) (ev_op (ev_var (v := .ref p) rfl) ev_c (rv_ixL (v := .int (ct + 1)) (sq_of g5) (at_of (j := 2) rfl rfl))) rv_I0) (rv_I (C := CMul) (cm2 b2.2 b2.1))) ea_nil) rc_int) ev_c (rv_I (C := fun _ j => 0 < j) (by omega))) fun H6 e6 => ?_
      generalize (n2 * (n2 / 2003 + 40692 + (ct + 1))) % 2147483399 = n3
      exact s_ret (v := .int (n3 / 16 % many)) (ev_op (ev_cb (ea_cons (ev_op (ev_var (v := .int n3) rfl) ev_c (rv_I (C := CDiv) ⟨by omega, by omega⟩)) ea_nil) rc_int) (ev_var (v := .int many) rfl) (rv_I (C := fun _ j => 0 < j) (by omega))) fun H7 e7 => k _ _ (Int.emod_nonneg _ (by omega)) (Int.emod_lt_of_pos _ (by omega)) ((((p3.mono e4).mono e5).mono e6).mono e7)
end
end EE
set_option Elab.async false
set_option linter.all false
set_option maxRecDepth 100000
set_option maxHeartbeats 4000000
namespace EE
open PySem L2 Evl
open C8 (Cal Mak cal0 mak0 pe_c pe_mk pe_gc fnScope_by)
section
variable {K : PySem.W.Frag} {σ : L2.St} {B H H' : Hp} {ta tb tc te tv : TE} {t u : TT} {x y z v : V}
def absI (i : Int) : Int := if i < 0 then -i else i
theorem rc_abs {i : Int} : RC (fun xs H Q => ∃ i, xs = [V.int i] ∧ Q (.int (if i < 0 then -i else i)) H) [.int i] H (.int (absI i)) := fun H1 e Q q => ⟨i, rfl, q H1 (Ex.refl H1)⟩
def sp_pot (K : PySem.W.Frag) : Sp := fun vs H Q _ => ∃ (a : Addr) (ns : List Int) (most : Int), vs = [.ref a, .int most] ∧ SqL K H a (ns.map V.int) ∧ ns.length ≤ 63 ∧ ∀ p g H2, PotAt H H2 p g → Q (.ref p) H2
end
section
variable {P : Program} {w : World} {K : PySem.W.Frag} {mg : Str → Option Value} {base : Heap}
theorem sc_pot : FnScope N__law_pot P__law_pot (C8.fnScope s__law_pot) := fnScope_by (by decide +kernel)
theorem ok_pot (T : Txt6 w K mg) : Cal P w K mg base 1 "_law_pot" (sp_pot K) [] := by
  refine mk_cal T.d_pot sc_pot (fun vs H Q E h => ?_) (fun f cdv A outer s H vs Q E hr h => ?_)
  · obtain ⟨_, _, _, rfl, _⟩ := h
    rfl
  · obtain ⟨a, ns, most, rfl, hs, hz, k⟩ := h
    have nd := sc_pot.nd
    refine ⟨_, pss_cons (ps_setLc (i := 2) (own := [("cell", 4)]) (g := gName 4) rfl nd rfl rfl (by rfl) (pi_list (pv 0)) (blkOk_by (N := N__law_pot) (sc := C8.fnScope s__law_pot) (by decide +kernel))
          (fun _ _ _ _ _ => pg_name (i := 4) nd rfl (Or.inl rfl)) (fun _ _ _ _ _ => pts_one (pt_cmpR op_ge (pe_callB call_abs (by rfl) T.absT (by decide +kernel) (pa_cons (pv 4) pa_nil)) (pe_op op_pow pe_int pe_int) (nomark _)))
          (fun _ _ _ _ _ => pe_callB call_abs (by rfl) T.absT (by decide +kernel) (pa_cons (pv 4) pa_nil)))
      (pss_cons (ps_set (i := 3) nd rfl (Or.inl rfl) pe_int)
      (pss_cons (ps_for PassesOwn.never rfl (pi_list (pv 0)) (pg_name (i := 4) nd rfl (Or.inl rfl))
        (pss_one (ps_if (pt_cmpR op_lt (pe_callB call_abs (by rfl) T.absT (by decide +kernel) (pa_cons (pv 4) pa_nil)) (pe_op op_pow pe_int pe_int) (nomark _))
          (pss_one (ps_set (i := 3) nd rfl (Or.inl rfl) (pe_op op_mod (pe_callTy call_int1 (by rfl) T.intT (by decide +kernel) (pa_cons (pe_op op_add (pe_op op_add (pe_op op_mul (pv 3) pe_int) (pe_op op_mul (pv 4) pe_int)) pe_int) pa_nil)) pe_int))) pss_nil)))
      (pss_one (ps_ret (pe_lst (pa_cons (pv 2) (pa_cons (pv 3) (pa_cons pe_int (pa_cons (pv 1) pa_nil))))))))), ?_⟩
    have hp10 : ∀ {σ : L2.St} {H : Hp}, Ev (tOp (rI CPow fun i j => .int (i ^ j.toNat)) (tC (.int 10)) (tC (.int 18))) σ H (.int (10 ^ 18)) := ev_op ev_c ev_c (rv_I (C := CPow) ⟨by decide, by decide, by decide⟩)
    have getn : ∀ {i : Nat} {x : V}, (ns.map V.int)[i]? = some x → ∃ n, ns[i]? = some n ∧ x = .int n := fun {i x} h => by
      rw [List.getElem?_map] at h
      cases hh : ns[i]? with
      | none => rw [hh] at h; cases h
      | some n => rw [hh] at h; cases h; exact ⟨n, rfl, rfl⟩
    refine q_asgL (el_lcW (fun i => decide (absI (ns.getD i 0) ≥ 10 ^ 18)) (fun i => .int (absI (ns.getD i 0))) (ei_list (ev_var rfl) hs) (by rw [List.length_map]; omega) (fun _ => rfl) (fun i x H1 e1 hx => ?_) (fun i x H1 e1 hx _ => ?_)) fun g H1 hg e1 h1 => ?_
    · obtain ⟨n, hn, rfl⟩ := getn hx
      have hd : ns.getD i 0 = n := by rw [List.getD_eq_getElem?_getD, hn]; rfl
      rw [hd]
      exact et_test (ev_op (ev_cb (ea_cons (ev_var (v := .int n) rfl) ea_nil) rc_abs) hp10 rv_I0)
    · obtain ⟨n, hn, rfl⟩ := getn hx
      have hd : ns.getD i 0 = n := by rw [List.getD_eq_getElem?_getD, hn]; rfl
      rw [hd]
      exact ev_cb (ea_cons (ev_var (v := .int n) rfl) ea_nil) rc_abs
    · have hgs : ∃ xs : List Int, given (ns.map V.int).length (fun i => decide (absI (ns.getD i 0) ≥ 10 ^ 18)) (fun i => V.int (absI (ns.getD i 0))) = xs.map V.int := by
        unfold given
        exact ⟨((List.range (ns.map V.int).length).filter fun i => decide (absI (ns.getD i 0) ≥ 10 ^ 18)).map fun i => absI (ns.getD i 0), by rw [List.map_map]; rfl⟩
      obtain ⟨xs, hxs⟩ := hgs
      rw [hxs] at h1
      refine q_asg (v := .int 17) ev_c fun H2 e2 => ?_
      refine q_forL (ev_var rfl) (ex_l (e1.trans e2) hs) (fun _ σ' H' => (∃ sd v4, σ' = [some (.ref a), some (.int most), some (.ref g), some (.int sd), v4]) ∧ Ex H1 H') (fun H3 e3 => ⟨⟨_, _, rfl⟩, e2.trans e3⟩) (fun i σ' H' _ p => ex_l (e1.trans p.2) hs) (fun i x σ' H' hx p => ?_) fun σ' H' p => ?_
      · obtain ⟨⟨sd, v4, rfl⟩, p⟩ := p
        obtain ⟨n, hn, rfl⟩ := getn hx
        have cm : ∀ {i j : Int}, j < 2147483647 → 0 ≤ j → CMul i j := fun h h2 => .inr ⟨by omega, by omega⟩
        refine s_when (b := decide (absI n < 10 ^ 18)) (et_test (ev_op (ev_cb (ea_cons (ev_var (v := .int n) rfl) ea_nil) rc_abs) hp10 rv_I0)) (fun _ H4 e4 => ?_) (fun _ H4 e4 => ⟨⟨sd, _, rfl⟩, p.trans e4⟩)
        exact s_asg (v := .int ((sd * 31 + n * 48271 + 11) % 2147483629)) (ev_op (ev_cb (ea_cons (ev_op (ev_op (ev_op (ev_var (v := .int sd) rfl) ev_c (rv_I (C := CMul) (cm (by omega) (by omega)))) (ev_op (ev_var (v := .int n) rfl) ev_c (rv_I (C := CMul) (cm (by omega) (by omega)))) rv_I0) ev_c rv_I0) ea_nil) rc_int) ev_c (rv_I (C := fun _ j => 0 < j) (by omega))) fun H5 e5 => ⟨⟨_, _, rfl⟩, (p.trans e4).trans e5⟩
      · obtain ⟨⟨sd, v4, rfl⟩, p⟩ := p
        refine s_retL (el_lst (ea_cons (ev_var rfl) (ea_cons (ev_var (v := .int sd) rfl) (ea_cons ev_c (ea_cons (ev_var (v := .int most) rfl) ea_nil)))) (show 4 ≤ 100000 by decide)) fun p' H3 hp' e3 h3 => k p' g H3 ⟨fresh_back (e1.trans p) hp', hg, fun z => (by subst z; rw [p _ _ h1] at hp'; cases hp'), (e1.trans p).trans e3, xs, sd, 0, most, h3, e3 _ _ (p _ _ h1)⟩
end
end EE
set_option Elab.async false
set_option linter.all false
set_option maxRecDepth 100000
set_option maxHeartbeats 4000000
namespace EE
open PySem L2 Evl
open C8 (Cal Mak cal0 mak0 pe_c pe_mk pe_gc fnScope_by)
/-! texts of letters -/
def Lt (c : Nat) : Prop := 97 ≤ c ∧ c ≤ 122
theorem lt_facts : ∀ j, j < 26 → (Unicode.isAlpha (97 + j) && Unicode.isLower (97 + j) && !(Unicode.isUpper (97 + j) || Unicode.isTitle (97 + j))) = true := by decide +kernel
theorem lt_fact {c : Nat} (h : Lt c) : Unicode.isAlpha c = true ∧ Unicode.isLower c = true ∧ (Unicode.isUpper c || Unicode.isTitle c) = false := by
  have z := lt_facts (c - 97) (by have := h.1; have := h.2; omega)
  rw [show 97 + (c - 97) = c by have := h.1; omega] at z
  simp only [Bool.and_eq_true, Bool.not_eq_true'] at z
  exact ⟨z.1.1, z.1.2, z.2⟩
theorem okNm_lt {z : Str} (h : ∀ c ∈ z.cps, Lt c) (h1 : 1 ≤ z.cps.size) (h2 : z.cps.size ≤ 8) : OkNm z := by
  have hl : z.length = z.cps.size := rfl
  refine ⟨?_, by rw [hl]; exact sz_of (by omega)⟩
  have a1 : Txt.isascii z = true := Array.all_eq_true_iff_forall_mem.mpr fun c hc => decide_eq_true (by have := (h c hc).2; omega)
  have a2 : Txt.isalpha z = true := by
    show (decide (z.length > 0) && z.cps.all Unicode.isAlpha) = true
    rw [Bool.and_eq_true]
    exact ⟨decide_eq_true (by rw [hl]; omega), Array.all_eq_true_iff_forall_mem.mpr fun c hc => (lt_fact (h c hc)).1⟩
  have a3 : Txt.islower z = true := by
    show (z.cps.any Unicode.isLower && !z.cps.any fun c => Unicode.isUpper c || Unicode.isTitle c) = true
    rw [Bool.and_eq_true]
    refine ⟨?_, ?_⟩
    · rw [Array.any_eq_true]
      exact ⟨0, by omega, (lt_fact (h _ (Array.getElem_mem (by omega)))).2.1⟩
    · rw [Bool.not_eq_true', Bool.eq_false_iff]
      intro q
      rw [Array.any_eq_true] at q
      obtain ⟨i, hi, q⟩ := q
      rw [(lt_fact (h _ (Array.getElem_mem hi))).2.2] at q
      cases q
  show ((decide ((1 : Int) ≤ z.length) && decide ((z.length : Int) ≤ 8)) && (Txt.isascii z && (Txt.isalpha z && Txt.islower z))) = true
  rw [a1, a2, a3, hl]
  simp
  omega
def OneLt (y : Str) : Prop := ∃ c, Lt c ∧ y = ⟨#[c]⟩
theorem fold_lt : ∀ (l : List Str) (acc : Array Nat), (∀ y ∈ l, OneLt y) → (∀ c ∈ acc, Lt c) →
    (∀ c ∈ l.foldl (fun acc p => acc ++ (Str.ofString "").cps ++ p.cps) acc, Lt c) ∧ (l.foldl (fun acc p => acc ++ (Str.ofString "").cps ++ p.cps) acc).size = acc.size + l.length
  | [], acc, _, ha => ⟨ha, rfl⟩
  | y :: l, acc, hl, ha => by
    obtain ⟨c, hc, rfl⟩ := hl y (List.mem_cons_self ..)
    have e0 : (Str.ofString "").cps = #[] := rfl
    have := fold_lt l (acc ++ (Str.ofString "").cps ++ #[c]) (fun z hz => hl z (List.mem_cons_of_mem _ hz)) (fun d hd => by
      rw [e0] at hd
      simp at hd
      rcases hd with hd | rfl
      · exact ha d hd
      · exact hc)
    refine ⟨this.1, this.2.trans ?_⟩
    rw [e0]
    simp
    omega
theorem join_lt {ys : List Str} (h : ∀ y ∈ ys, OneLt y) : (∀ c ∈ (Txt.join "" ys).cps, Lt c) ∧ (Txt.join "" ys).cps.size = ys.length := by
  cases ys with
  | nil => exact ⟨fun c hc => absurd hc (by show c ∉ (#[] : Array Nat); simp), rfl⟩
  | cons y l =>
    obtain ⟨c, hc, rfl⟩ := h y (List.mem_cons_self ..)
    have := fold_lt l #[c] (fun z hz => h z (List.mem_cons_of_mem _ hz)) (fun d hd => by simp at hd; subst hd; exact hc)
    exact ⟨this.1, this.2.trans (by simp; omega)⟩
section
variable {K : PySem.W.Frag} {σ : L2.St} {B H H' : Hp} {ta tb tc te tv : TE} {t u : TT} {x y z v : V}
/-- all but the pot -/
def hid (p g : Addr) (H : Hp) : Hp := fun a => if a = p ∨ a = g then none else H a
theorem hid_ne {p g a : Addr} (h1 : a ≠ p) (h2 : a ≠ g) : hid p g H a = H a := if_neg (fun z => z.elim h1 h2)
theorem hid_ex {p g : Addr} : Ex (hid p g H) H := fun a o h => by
  unfold hid at h
  split at h
  · cases h
  · exact h
theorem PotAt.wide {p g : Addr} (h : PotAt B H p g) : PotAt (hid p g H) H p g := ⟨if_pos (.inl rfl), if_pos (.inr rfl), h.ne, hid_ex, h.at_⟩
theorem PotAt.sub {p g : Addr} (h : PotAt B H p g) : Ex B (hid p g H) := fun a o ha => by
  rw [hid_ne (fun z => by subst z; rw [h.bp] at ha; cases ha) (fun z => by subst z; rw [h.bg] at ha; cases ha)]
  exact h.ex a o ha
theorem PotAt.back {B' : Hp} {p g : Addr} (e : Ex B B') (h : PotAt B' H p g) : PotAt B H p g := ⟨fresh_back e h.bp, fresh_back e h.bg, h.ne, e.trans h.ex, h.at_⟩
theorem PotAt.upd {p g a : Addr} {o : HO} (h : PotAt B H p g) (ha : B a = none) (h1 : a ≠ p) (h2 : a ≠ g) : PotAt B (upd H a o) p g :=
  ⟨h.bp, h.bg, h.ne, h.ex.mut ha, let ⟨xs, s, c, m, q1, q2⟩ := h.at_; ⟨xs, s, c, m, by rw [upd_ne (Ne.symm h1)]; exact q1, by rw [upd_ne (Ne.symm h2)]; exact q2⟩⟩
theorem PotAt.new {p g a : Addr} (h : PotAt B H p g) (ha : H a = none) : a ≠ p ∧ a ≠ g := by
  obtain ⟨xs, s, c, m, q1, q2⟩ := h.at_
  exact ⟨fun z => (by subst z; rw [q1] at ha; cases ha), fun z => (by subst z; rw [q2] at ha; cases ha)⟩
theorem q_asgOp {i : Nat} {r : R2} {D : Ends} {tz : TS} {xs : List V} (h : EvL ta σ H xs) (k : ∀ ls H1, H ls = none → Ex H H1 → H1 ls = some (.lst xs) → tb σ H1 fun y H2 => r (.ref ls) y H2 fun v H3 => tz D (σ.set i (some v)) H3) : tSeq (tAsg (tOp r ta tb) (gName i)) tz D σ H :=
  h H (Ex.refl H) _ fun ls H1 hl e1 h1 => k ls H1 hl e1 h1
/-- a draw; what is told of all but the pot stays -/
theorem r_take {i : Nat} {p g : Addr} {m : Int} {E : XK} {Q : VK} (hv : σ[i]? = some (some (.ref p))) (hp : PotAt B H p g) (h1 : 1 ≤ m) (h2 : m ≤ 1000) (k : ∀ r H2, 0 ≤ r → r < m → PotAt B H2 p g → Ex (hid p g H) H2 → Q (.int r) H2) :
    tCall sp_take [] E (tCons (tVar i) (tCons (tC (.int m)) tNil)) σ H Q := ⟨_, hv, p, g, m, hid p g H, rfl, h1, h2, hp.wide, fun r H2 r1 r2 q => k r H2 r1 r2 (q.back hp.sub) q.ex⟩
end
section
variable {P : Program} {w : World} {K : PySem.W.Frag} {mg : Str → Option Value} {base : Heap}
/-- a name is drawn -/
def sp_name : Sp := fun vs H Q _ => ∃ p g B, vs = [.ref p] ∧ PotAt B H p g ∧ ∀ z H2, OkNm z → PotAt B H2 p g → Q (.str z) H2
abbrev menuS : List Str := ["a", "b", "x", "y", "za", "zb", "none", "word", "row", "kept", "not", "last"]
theorem menu_ok : ∀ z ∈ menuS, OkNm z := by
  have e : (menuS.all fun z => isNm z && decide (z.length ≤ 100000)) = true := by decide +kernel
  intro z hz
  have := List.all_eq_true.mp e z hz
  rw [Bool.and_eq_true, decide_eq_true_eq] at this
  exact ⟨this.1, sz_of this.2⟩
theorem letter_at : ∀ j : Nat, j < 26 → (match atI lettersS.cps.toList (j : Int) with | some c => decide (97 ≤ c ∧ c ≤ 122) | none => false) = true := by decide +kernel
theorem letter_of {r : Int} (h0 : 0 ≤ r) (h1 : r < 26) : ∃ c, atI lettersS.cps.toList r = some c ∧ Lt c := by
  have z := letter_at r.toNat (by omega)
  rw [show ((r.toNat : Nat) : Int) = r by omega] at z
  cases h : atI lettersS.cps.toList r with
  | none => rw [h] at z; cases z
  | some c => rw [h] at z; exact ⟨c, rfl, (of_decide_eq_true z : 97 ≤ c ∧ c ≤ 122)⟩
abbrev sizesI : List Int := [1, 3, 4, 5, 6, 7, 8, 8]
theorem sizes_at : ∀ j : Nat, j < 8 → (match sizesI[j]? with | some c => decide (1 ≤ c ∧ c ≤ 8) | none => false) = true := by decide
theorem size_of {r : Int} (h0 : 0 ≤ r) (h1 : r < 8) : ∃ c : Int, atI (sizesI.map V.int) r = some (.int c) ∧ 1 ≤ c ∧ c ≤ 8 := by
  have z := sizes_at r.toNat (by omega)
  cases h : sizesI[r.toNat]? with
  | none => rw [h] at z; cases z
  | some c => rw [h] at z; exact ⟨c, L2.at_of (j := r.toNat) (by omega) (by rw [List.getElem?_map, h]; rfl), (of_decide_eq_true z : 1 ≤ c ∧ c ≤ 8)⟩
theorem menu_at {r : Int} (h0 : 0 ≤ r) (h1 : r < 12) : ∃ z, atI (menuS.map V.str) r = some (.str z) ∧ OkNm z := by
  have hl : r.toNat < menuS.length := by show r.toNat < 12; omega
  exact ⟨menuS[r.toNat], L2.at_of (j := r.toNat) (by omega) (by rw [List.getElem?_map, List.getElem?_eq_getElem hl]; rfl), menu_ok _ (List.getElem_mem hl)⟩
theorem sc_name : FnScope N__law_name P__law_name (C8.fnScope s__law_name) := fnScope_by (by decide +kernel)
theorem ok_name (T : Txt6 w K mg) : Cal P w K mg base 2 "_law_name" sp_name [] := by
  refine mk_cal T.d_name sc_name (fun vs H Q E h => ?_) (fun f cdv A outer s H vs Q E hr h => ?_)
  · obtain ⟨_, _, _, rfl, _⟩ := h
    rfl
  · obtain ⟨p, g, B, rfl, hp, k⟩ := h
    have nd := sc_name.nd
    refine ⟨_, pss_cons (ps_set (i := 1) nd rfl (Or.inl rfl) (pe_lst (pa_cons pe_str (pa_cons pe_str (pa_cons pe_str (pa_cons pe_str (pa_cons pe_str (pa_cons pe_str (pa_cons pe_str (pa_cons pe_str (pa_cons pe_str (pa_cons pe_str (pa_cons pe_str (pa_cons pe_str pa_nil))))))))))))))
      (pss_cons (ps_set (i := 2) nd rfl (Or.inl rfl) (pe_c (ok_take T) hr (by decide) (by rfl) (pa_cons (pv 0) (pa_cons pe_int pa_nil))))
      (pss_cons (ps_if (pt_cmpR op_lt (pv 2) pe_int (nomark _)) (pss_one (ps_ret (pe_ix ix_list (pv 1) (pv 2) (fun _ _ => rfl)))) pss_nil)
      (pss_cons (ps_set (i := 3) nd rfl (Or.inl rfl) (pe_ix ix_list (pe_lst (pa_cons pe_int (pa_cons pe_int (pa_cons pe_int (pa_cons pe_int (pa_cons pe_int (pa_cons pe_int (pa_cons pe_int (pa_cons pe_int pa_nil))))))))) (pe_c (ok_take T) hr (by decide) (by rfl) (pa_cons (pv 0) (pa_cons pe_int pa_nil))) (fun _ _ => rfl)))
      (pss_one (ps_ret (pe_join pe_str (pe_lc (own := [("k", 4)]) (g := gName 4) (tt := tYes) rfl nd (pi_range1 (by rfl) T.rangeT (pa_cons (pv 3) pa_nil)) (blkOk_by (N := N__law_name) (sc := C8.fnScope s__law_name) (by decide +kernel))
        (fun _ _ _ _ _ => pg_name (i := 4) nd rfl (Or.inl rfl)) (fun _ _ _ _ _ => pts_nil) (fun _ _ _ _ _ => pe_ix ix_str pe_str (pe_c (ok_take T) hr (by decide) (by rfl) (pa_cons (pv 0) (pa_cons pe_int pa_nil))) (fun _ _ => rfl))))))))), ?_⟩
    refine q_asgL (el_lst (ea_cons ev_c (ea_cons ev_c (ea_cons ev_c (ea_cons ev_c (ea_cons ev_c (ea_cons ev_c (ea_cons ev_c (ea_cons ev_c (ea_cons ev_c (ea_cons ev_c (ea_cons ev_c (ea_cons ev_c ea_nil)))))))))))) (show 12 ≤ 100000 by decide)) fun l H1 hl e1 h1 => ?_
    have p1 := hp.mono e1
    have hlp := hp.new hl
    refine r_take rfl p1 (by decide) (by decide) fun r H2 r0 r1 p2 x2 => ?_
    have h2 : H2 l = some (.lst (menuS.map V.str)) := x2 l _ (by rw [hid_ne hlp.1 hlp.2]; exact h1)
    refine q_when (b := decide (r < 12)) (et_test (ev_op (ev_var (v := .int r) rfl) ev_c rv_I0)) (fun hb H3 e3 => ?_) (fun _ H3 e3 => ?_)
    · obtain ⟨z, hz, ok⟩ := menu_at r0 (of_decide_eq_true hb)
      exact s_ret (v := .str z) (ev_op (ev_var (v := .ref l) rfl) (ev_var (v := .int r) rfl) (rv_ixL (sq_of (e3 _ _ h2)) hz)) fun H4 e4 => k z H4 ok ((p2.mono e3).mono e4)
    · have p3 := p2.mono e3
      refine q_asgOp (el_lst (ea_cons ev_c (ea_cons ev_c (ea_cons ev_c (ea_cons ev_c (ea_cons ev_c (ea_cons ev_c (ea_cons ev_c (ea_cons ev_c ea_nil)))))))) (show 8 ≤ 100000 by decide)) fun ls H4 hls e4 h4 => ?_
      have hn := p3.new hls
      refine r_take rfl (p3.mono e4) (by decide) (by decide) fun r2 H5 s0 s1 p5 x5 => ?_
      have h5 : H5 ls = some (.lst (sizesI.map V.int)) := x5 ls _ (by rw [hid_ne hn.1 hn.2]; exact h4)
      obtain ⟨c, hc, c1, c2⟩ := size_of s0 s1
      refine ⟨ls, _, r2, .int c, rfl, rfl, sq_of h5, hc, ?_⟩
      refine ⟨⟨_, rfl⟩, _, rfl, c, rfl, by omega, by omega, fun Dl hD => ?_⟩
      have hDn := p5.new hD
      have hDB : B Dl = none := fresh_back p5.ex hD
      refine lc_range (lo := 0) (n := c.toNat) (fun i H' => PotAt B H' p g ∧ ∃ ys : List Str, H' Dl = some (.lst (ys.map V.str)) ∧ ys.length = i ∧ ∀ y ∈ ys, OneLt y) ⟨p5.upd hDB hDn.1 hDn.2, [], upd_same, rfl, fun _ h => absurd h List.not_mem_nil⟩ (fun i H' hi q => ?_) fun H' q => ?_
      · obtain ⟨q1, ys, q2, q3, q4⟩ := q
        refine ⟨rfl, ?_⟩
        dsimp only [tYes]
        rw [if_pos rfl]
        refine r_take rfl q1 (by decide) (by decide) fun r3 H6 t0 t1 p6 x6 => ?_
        obtain ⟨ch, hch, hlt⟩ := letter_of t0 t1
        have h6 : H6 Dl = some (.lst (ys.map V.str)) := x6 Dl _ (by rw [hid_ne hDn.1 hDn.2]; exact q2)
        refine ⟨lettersS, r3, ch, rfl, rfl, sz_of (by decide +kernel), hch, ys.map V.str, h6, sz_lt (by rw [List.length_map]; omega), p6.upd hDB hDn.1 hDn.2, ys ++ [⟨#[ch]⟩], by rw [upd_same, List.map_append]; rfl, by rw [List.length_append, q3]; rfl, fun y hy => ?_⟩
        rcases List.mem_append.mp hy with hy | hy
        · exact q4 y hy
        · exact ⟨ch, hlt, List.mem_singleton.mp hy⟩
      · obtain ⟨q1, ys, q2, q3, q4⟩ := q
        obtain ⟨j1, j2⟩ := join_lt q4
        have hsum : ∀ zs : List Str, (∀ y ∈ zs, OneLt y) → (zs.map (·.length)).sum = zs.length := fun zs => by
          induction zs with
          | nil => exact fun _ => rfl
          | cons z zs ih =>
            intro h
            obtain ⟨c, _, rfl⟩ := h z (List.mem_cons_self ..)
            rw [List.map_cons, List.sum_cons, ih (fun y hy => h y (List.mem_cons_of_mem _ hy)), List.length_cons]
            show 1 + zs.length = zs.length + 1
            omega
        refine ⟨_, Dl, ys, rfl, rfl, .inl (sq_of q2), ?_, k _ H' (okNm_lt j1 (by omega) (by omega)) q1⟩
        rw [hsum ys q4]
        show ys.length + ys.length * 0 ≤ 16777216
        omega
end
end EE
set_option Elab.async false
set_option linter.all false
set_option maxRecDepth 100000
set_option maxHeartbeats 4000000
namespace EE
open PySem L2 Evl
open C8 (Cal Mak cal0 mak0 pe_c pe_mk pe_gc fnScope_by)
structure MsOk (ms : List (Str × Str)) (n : Nat) : Prop where
  len : ms.length ≤ n
  nd : (ms.map (·.1)).Nodup
  ok : ∀ p ∈ ms, OkNm p.1 ∧ p.2 ∈ (["f", "g", "h"] : List Str)
theorem skv_put {ms : List (Str × Str)} {n : Nat} {z y : Str} (h : MsOk ms n) (hz : OkNm z) (hy : y ∈ (["f", "g", "h"] : List Str)) : ∃ ms', putK (skv ms) (Sum.inr z) (.str y) = skv ms' ∧ MsOk ms' (n + 1) := by
  by_cases hm : z ∈ ms.map (·.1)
  · refine ⟨ms.map fun p => if p.1 = z then (p.1, y) else p, ?_, ?_, ?_, ?_⟩
    · unfold putK
      rw [if_pos ?_]
      · unfold skv
        rw [List.map_map, List.map_map]
        refine List.map_congr_left fun p _ => ?_
        show (if (Sum.inr p.1 : Key) = Sum.inr z then ((Sum.inr p.1 : Key), V.str y) else (Sum.inr p.1, V.str p.2)) = ((Sum.inr (if p.1 = z then (p.1, y) else p).1 : Key), V.str (if p.1 = z then (p.1, y) else p).2)
        by_cases e : p.1 = z
        · rw [if_pos (congrArg Sum.inr e), if_pos e]
        · rw [if_neg (fun q => e (Sum.inr.inj q)), if_neg e]
      · obtain ⟨p, hp, rfl⟩ := List.mem_map.mp hm
        exact List.any_eq_true.mpr ⟨(Sum.inr p.1, V.str p.2), List.mem_map.mpr ⟨p, hp, rfl⟩, decide_eq_true rfl⟩
    · rw [List.length_map]; have := h.len; omega
    · rw [List.map_map]
      have : (ms.map ((fun x => x.1) ∘ fun p => if p.1 = z then (p.1, y) else p)) = ms.map (·.1) := List.map_congr_left fun p _ => by
        show (if p.1 = z then (p.1, y) else p).1 = p.1
        split <;> rfl
      rw [this]
      exact h.nd
    · intro p hp
      obtain ⟨q, hq, rfl⟩ := List.mem_map.mp hp
      split
      · exact ⟨(h.ok q hq).1, hy⟩
      · exact h.ok q hq
  · refine ⟨ms ++ [(z, y)], ?_, ?_, ?_, ?_⟩
    · rw [putK_new]
      · unfold skv; rw [List.map_append]; rfl
      · unfold valV
        rw [List.find?_eq_none.mpr]
        · rfl
        · intro p hp
          obtain ⟨q, hq, rfl⟩ := List.mem_map.mp hp
          intro e
          exact hm (List.mem_map.mpr ⟨q, hq, Sum.inr.inj (of_decide_eq_true e)⟩)
    · rw [List.length_append]; have := h.len; show ms.length + 1 ≤ n + 1; omega
    · rw [List.map_append, List.nodup_append]
      refine ⟨h.nd, by simp, fun a ha b hb => ?_⟩
      obtain rfl : b = z := by simpa using hb
      exact fun e => hm (e ▸ ha)
    · intro p hp
      rcases List.mem_append.mp hp with hp | hp
      · exact h.ok p hp
      · obtain rfl : p = (z, y) := by simpa using hp
        exact ⟨hz, hy⟩
theorem s_dputOp {σ : L2.St} {H : Hp} {td ty ta tb : TE} {r : R2} {D : Ends} {xs : List V} (h : EvL ta σ H xs) (k : ∀ ls H1, H ls = none → Ex H H1 → H1 ls = some (.lst xs) → tb σ H1 fun y H2 => r (.ref ls) y H2 fun v H3 => td σ H3 fun x H4 => ty σ H4 fun y H5 => ∃ a H6, x = .ref a ∧ DPut H5 a y v H6 ∧ D.nx σ H6) :
    sDPut td ty (tOp r ta tb) D σ H := h H (Ex.refl H) _ fun ls H1 hl e1 h1 => k ls H1 hl e1 h1
section
variable {P : Program} {w : World} {K : PySem.W.Frag} {mg : Str → Option Value} {base : Heap}
def sp_methods : Sp := fun vs H Q _ => ∃ p g B, vs = [.ref p] ∧ PotAt B H p g ∧ ∀ ms m H2, MsOk ms 2 → PotAt B H2 p g → B m = none → m ≠ p → m ≠ g → H2 m = some (.dK (skv ms)) → Q (.ref m) H2
theorem fgh_at {r : Int} (h0 : 0 ≤ r) (h1 : r < 3) : ∃ z, atI ((["f", "g", "h"] : List Str).map V.str) r = some (.str z) ∧ z ∈ (["f", "g", "h"] : List Str) := by
  have hl : r.toNat < (["f", "g", "h"] : List Str).length := by show r.toNat < 3; omega
  exact ⟨(["f", "g", "h"] : List Str)[r.toNat], L2.at_of (j := r.toNat) (by omega) (by rw [List.getElem?_map, List.getElem?_eq_getElem hl]; rfl), List.getElem_mem hl⟩
theorem sc_methods : FnScope N__law_methods P__law_methods (C8.fnScope s__law_methods) := fnScope_by (by decide +kernel)
theorem ok_methods (T : Txt6 w K mg) : Cal P w K mg base 3 "_law_methods" sp_methods [] := by
  refine mk_cal T.d_methods sc_methods (fun vs H Q E h => ?_) (fun f cdv A outer s H vs Q E hr h => ?_)
  · obtain ⟨_, _, _, rfl, _⟩ := h
    rfl
  · obtain ⟨p, g, B, rfl, hp, k⟩ := h
    have nd := sc_methods.nd
    have hu := hu_of hr
    refine ⟨_, pss_cons (ps_set (i := 1) nd rfl (Or.inl rfl) pe_dnewK)
      (pss_cons (ps_for PassesOwn.never rfl (pi_range1 (by rfl) T.rangeT (pa_cons (pe_c (ok_take T) hr (by decide) (by rfl) (pa_cons (pv 0) (pa_cons pe_int pa_nil))) pa_nil)) (pg_name (i := 2) nd rfl (Or.inl rfl))
        (pss_cons (ps_set (i := 3) nd rfl (Or.inl rfl) (pe_c (ok_name T) hr (by decide) (by rfl) (pa_cons (pv 0) pa_nil)))
        (pss_one (ps_dput hu (pv 1) (pv 3) (pe_ix ix_list (pe_lst (pa_cons pe_str (pa_cons pe_str (pa_cons pe_str pa_nil)))) (pe_c (ok_take T) hr (by decide) (by rfl) (pa_cons (pv 0) (pa_cons pe_int pa_nil))) (fun _ _ => rfl)) (by rfl)))))
      (pss_one (ps_ret (pv 1)))), ?_⟩
    refine q_asgD ed_new fun m H1 hm e1 h1 => ?_
    have hmn := hp.new hm
    have hmB : B m = none := fresh_back hp.ex hm
    refine r_take rfl (hp.mono e1) (by decide) (by decide) fun n H2 n0 n1 p2 x2 => ?_
    have h2 : H2 m = some (.dK (skv [])) := x2 m _ (by rw [hid_ne hmn.1 hmn.2]; exact h1)
    refine ⟨n, rfl, by omega, by omega, for_it walk_range (fun i σ' H' => (∃ v2 v3, σ' = [some (.ref p), some (.ref m), v2, v3]) ∧ PotAt B H' p g ∧ ∃ ms, H' m = some (.dK (skv ms)) ∧ MsOk ms i) ⟨⟨_, _, rfl⟩, p2, [], h2, Nat.le_refl _, List.nodup_nil, fun _ h => absurd h List.not_mem_nil⟩ (fun _ _ _ _ _ => trivial) ?_ ?_⟩
    · rintro i x σ' H0 H' hi ⟨⟨v2, v3, rfl⟩, q1, ms, q2, q3⟩ ⟨rfl, rfl⟩
      refine ⟨_, rfl, p, g, hid p g H', rfl, q1.wide, fun z H3 hz p3 => ?_⟩
      have h3 : H3 m = some (.dK (skv ms)) := p3.ex m _ (by rw [hid_ne hmn.1 hmn.2]; exact q2)
      have p3' := p3.back q1.sub
      refine s_dputOp (el_lst (ea_cons (ev_c (v := .str "f")) (ea_cons (ev_c (v := .str "g")) (ea_cons (ev_c (v := .str "h")) ea_nil))) (show 3 ≤ 100000 by decide)) fun ls H4 hls e4 h4 => ?_
      have hn := p3'.new hls
      refine r_take rfl (p3'.mono e4) (by decide) (by decide) fun r H5 s0 s1 p5 x5 => ?_
      have h5 : H5 ls = some (.lst ((["f", "g", "h"] : List Str).map V.str)) := x5 ls _ (by rw [hid_ne hn.1 hn.2]; exact h4)
      have m5 : H5 m = some (.dK (skv ms)) := x5 m _ (by rw [hid_ne hmn.1 hmn.2]; exact e4 _ _ h3)
      obtain ⟨y, hy, hyf⟩ := fgh_at s0 s1
      obtain ⟨ms', e', ok'⟩ := skv_put q3 hz hyf
      have hl3 : i < 3 := by omega
      refine ⟨ls, _, r, .str y, rfl, rfl, sq_of h5, hy, _, rfl, _, rfl, m, _, rfl, DPut.k (k := Sum.inr z) m5 (sz_lt (by have := q3.len; unfold skv; rw [List.length_map]; omega)), ⟨_, _, rfl⟩, p5.upd hmB hmn.1 hmn.2, ms', by rw [upd_same, e'], ok'⟩
    · rintro σ' H' ⟨⟨v2, v3, rfl⟩, q1, ms, q2, q3⟩
      exact s_ret (v := .ref m) (ev_var rfl) fun H3 e3 => k ms m H3 ⟨by have := q3.len; omega, q3.nd, q3.ok⟩ (q1.mono e3) hmB hmn.1 hmn.2 (e3 _ _ q2)
end
end EE
set_option Elab.async false
set_option linter.all false
set_option maxRecDepth 100000
set_option maxHeartbeats 4000000
namespace EE
open PySem L2 Evl
/-- the class n, its parent, .. to one without a parent -/
inductive Chain (cs : List (Str × Cl)) : Str → List Str → Prop where
  | root {n : Str} : (look cs n).isSome = true → parOf cs n = none → Chain cs n [n]
  | step {n q : Str} {l : List Str} : (look cs n).isSome = true → parOf cs n = some q → Chain cs q l → n ∉ l → Chain cs n (n :: l)
theorem Chain.nd {cs : List (Str × Cl)} {n : Str} {l : List Str} (h : Chain cs n l) : l.Nodup := by
  induction h with
  | root => simp
  | step _ _ _ hn ih => exact List.nodup_cons.mpr ⟨hn, ih⟩
theorem Chain.mem {cs : List (Str × Cl)} {n : Str} {l : List Str} (h : Chain cs n l) : ∀ x ∈ l, (look cs x).isSome = true := by
  induction h with
  | root h _ => intro x hx; obtain rfl := List.mem_singleton.mp hx; exact h
  | step h _ _ _ ih =>
    intro x hx
    rcases List.mem_cons.mp hx with rfl | hx
    · exact h
    · exact ih x hx
theorem Chain.head {cs : List (Str × Cl)} {n : Str} {l : List Str} (h : Chain cs n l) : ∃ r, l = n :: r := by
  cases h with
  | root => exact ⟨[], rfl⟩
  | step => exact ⟨_, rfl⟩
theorem Chain.len {cs : List (Str × Cl)} {n : Str} {l : List Str} (h : Chain cs n l) : l.length ≤ cs.length := by
  have := nodup_sub h.nd (ys := cs.map (·.1)) fun x hx => look_mem (h.mem x hx)
  rw [List.length_map] at this
  exact this
theorem Chain.last {cs : List (Str × Cl)} {n : Str} {l : List Str} (h : Chain cs n l) : ∃ o, l.getLast? = some o ∧ parOf cs o = none := by
  induction h with
  | root _ h => exact ⟨_, rfl, h⟩
  | step _ _ h2 _ ih =>
    obtain ⟨o, h1, h3⟩ := ih
    obtain ⟨r, rfl⟩ := h2.head
    exact ⟨o, by rw [List.getLast?_cons_cons]; exact h1, h3⟩
theorem famGo_chain {cs : List (Str × Cl)} {n : Str} {l : List Str} (h : Chain cs n l) : ∀ (m : Nat) (acc : List Str), (∀ x ∈ l, x ∉ acc) → l.length ≤ m → famGo cs m (some n) acc = acc ++ l := by
  induction h with
  | root _ hp =>
    intro m acc ha hm
    cases m with
    | zero => exact absurd hm (by simp)
    | succ m =>
      unfold famGo
      rw [if_neg (ha _ (List.mem_singleton.mpr rfl)), hp]
      cases m <;> rfl
  | step _ hp h2 hn ih =>
    intro m acc ha hm
    cases m with
    | zero => exact absurd hm (by simp)
    | succ m =>
      unfold famGo
      rw [if_neg (ha _ (List.mem_cons_self ..)), hp, ih m _ (fun x hx hc => ?_) (by rw [List.length_cons] at hm; omega), List.append_assoc]
      · rfl
      · rcases List.mem_append.mp hc with hc | hc
        · exact ha x (List.mem_cons_of_mem _ hx) hc
        · obtain rfl := List.mem_singleton.mp hc
          exact hn hx
theorem Chain.family {cs : List (Str × Cl)} {n : Str} {l : List Str} (h : Chain cs n l) : family cs n = l := by
  unfold EE.family
  rw [famGo_chain h _ [] (fun _ _ => List.not_mem_nil) (by have := h.len; omega), List.nil_append]
theorem Chain.ring {cs : List (Str × Cl)} {n : Str} {l : List Str} (h : Chain cs n l) : parOf cs (oldest cs n) = none := by
  obtain ⟨o, h1, h2⟩ := h.last
  unfold oldest
  rw [h.family, h1]
  exact h2
def fieldsL (cs : List (Str × Cl)) (l : List Str) : List Str := (l.reverse.map (ownOf cs)).flatten
theorem Chain.fields {cs : List (Str × Cl)} {n : Str} {l : List Str} (h : Chain cs n l) : allFields cs n = fieldsL cs l := by
  unfold allFields fieldsL
  rw [h.family]
theorem fieldsL_cons {cs : List (Str × Cl)} {n : Str} {l : List Str} : fieldsL cs (n :: l) = fieldsL cs l ++ ownOf cs n := by
  unfold fieldsL
  rw [List.reverse_cons, List.map_append, List.flatten_append, List.map_singleton, List.flatten_singleton]
theorem look_app {cs : List (Str × Cl)} {n m : Str} {c : Cl} (h : (look cs n).isSome = true) : look (cs ++ [(m, c)]) n = look cs n := by
  unfold look at h ⊢
  rw [List.find?_append]
  cases hh : cs.find? (fun c => decide (c.1 = n)) with
  | none => rw [hh] at h; cases h
  | some x => rfl
theorem look_new {cs : List (Str × Cl)} {n : Str} {c : Cl} (h : n ∉ cs.map (·.1)) : look (cs ++ [(n, c)]) n = some c := by
  unfold look
  rw [List.find?_append, List.find?_eq_none.mpr]
  · simp
  · intro x hx e
    exact h (List.mem_map.mpr ⟨x, hx, of_decide_eq_true e⟩)
theorem parOf_app {cs : List (Str × Cl)} {n m : Str} {c : Cl} (h : (look cs n).isSome = true) : parOf (cs ++ [(m, c)]) n = parOf cs n := by unfold parOf; rw [look_app h]
theorem Chain.app {cs : List (Str × Cl)} {n m : Str} {c : Cl} {l : List Str} (h : Chain cs n l) : Chain (cs ++ [(m, c)]) n l := by
  induction h with
  | root h hp => exact .root (by rw [look_app h]; exact h) (by rw [parOf_app h]; exact hp)
  | step h hp _ hn ih => exact .step (by rw [look_app h]; exact h) (by rw [parOf_app h]; exact hp) ih hn
theorem fieldsL_app {cs : List (Str × Cl)} {m : Str} {c : Cl} : ∀ {l : List Str}, (∀ x ∈ l, (look cs x).isSome = true) → fieldsL (cs ++ [(m, c)]) l = fieldsL cs l
  | [], _ => rfl
  | x :: l, h => by
    rw [fieldsL_cons, fieldsL_cons, fieldsL_app fun y hy => h y (List.mem_cons_of_mem _ hy)]
    unfold ownOf
    rw [look_app (h x (List.mem_cons_self ..))]
/-- classes built one behind the other -/
structure Built (cs : List (Str × Cl)) : Prop where
  nm : ∀ c ∈ cs, OkNm c.1 ∧ c.1 ∉ (["word", "row", "kept"] : List Str)
  nd : (cs.map (·.1)).Nodup
  cl : ∀ c ∈ cs, RightCl cs c.2
  ch : ∀ n, (look cs n).isSome = true → ∃ l, Chain cs n l ∧ (fieldsL cs l).Nodup ∧ (fieldsL cs l).length ≤ 4
theorem Built.nil : Built [] := ⟨fun _ h => absurd h List.not_mem_nil, List.nodup_nil, fun _ h => absurd h List.not_mem_nil, fun n h => by cases h⟩
theorem Built.right {cs : List (Str × Cl)} (h : Built cs) (h6 : cs.length ≤ 6) : Right cs where
  six := h6
  nm := h.nm
  nd := h.nd
  cl := h.cl
  fam := fun c hc => by
    obtain ⟨l, h1, h2, h3⟩ := h.ch c.1 (look_some (List.mem_map.mpr ⟨c, hc, rfl⟩))
    exact ⟨h1.ring, by rw [h1.fields]; exact h2, by rw [h1.fields]; exact h3⟩
/-- one class more -/
theorem Built.snoc {cs : List (Str × Cl)} {n : Str} {c : Cl} {had : List Str} (h : Built cs) (hn : OkNm n) (hk : n ∉ (["word", "row", "kept"] : List Str)) (hf : n ∉ cs.map (·.1)) (hc : RightCl cs c)
    (hh : (c.par = none ∧ had = []) ∨ ∃ q, c.par = some q ∧ had = allFields cs q) (hu : (had ++ c.own).Nodup) (hl : (had ++ c.own).length ≤ 4) : Built (cs ++ [(n, c)]) ∧ allFields (cs ++ [(n, c)]) n = had ++ c.own ∧ ∀ m, (look cs m).isSome = true → allFields (cs ++ [(n, c)]) m = allFields cs m := by
  have lk : ∀ m, (look cs m).isSome = true → (look (cs ++ [(n, c)]) m).isSome = true := fun m hm => by rw [look_app hm]; exact hm
  have rc : ∀ d, RightCl cs d → RightCl (cs ++ [(n, c)]) d := fun d hd => ⟨fun q hq => ⟨(hd.par q hq).1, lk q (hd.par q hq).2⟩, hd.lvl, hd.own, hd.ms⟩
  have ln : look (cs ++ [(n, c)]) n = some c := look_new hf
  have pn : parOf (cs ++ [(n, c)]) n = c.par := by unfold parOf; rw [ln]; rfl
  have on : ownOf (cs ++ [(n, c)]) n = c.own := by unfold ownOf; rw [ln]; rfl
  have new : ∃ l, Chain (cs ++ [(n, c)]) n l ∧ fieldsL (cs ++ [(n, c)]) l = had ++ c.own := by
    rcases hh with ⟨h1, rfl⟩ | ⟨q, h1, rfl⟩
    · exact ⟨[n], .root (by rw [ln]; rfl) (by rw [pn, h1]), by rw [fieldsL_cons, on]; rfl⟩
    · have hq := (hc.par q h1).2
      obtain ⟨l, g1, _, _⟩ := h.ch q hq
      refine ⟨n :: l, .step (by rw [ln]; rfl) (by rw [pn, h1]) g1.app (fun z => hf (look_mem (g1.mem n z))), ?_⟩
      rw [fieldsL_cons, on, fieldsL_app g1.mem, g1.fields]
  refine ⟨⟨fun d hd => ?_, ?_, fun d hd => ?_, fun m hm => ?_⟩, ?_, fun m hm => ?_⟩
  · rcases List.mem_append.mp hd with hd | hd
    · exact h.nm d hd
    · obtain rfl := List.mem_singleton.mp hd; exact ⟨hn, hk⟩
  · rw [List.map_append, List.nodup_append]
    refine ⟨h.nd, by simp, fun a ha b hb => ?_⟩
    obtain rfl : b = n := by simpa using hb
    exact fun e => hf (e ▸ ha)
  · rcases List.mem_append.mp hd with hd | hd
    · exact rc _ (h.cl d hd)
    · obtain rfl := List.mem_singleton.mp hd; exact rc _ hc
  · by_cases e : m = n
    · subst e
      obtain ⟨l, g1, g2⟩ := new
      exact ⟨l, g1, by rw [g2]; exact hu, by rw [g2]; exact hl⟩
    · have hm' : (look cs m).isSome = true := by
        have z := look_mem hm
        rw [List.map_append] at z
        rcases List.mem_append.mp z with z | z
        · exact look_some z
        · exact absurd (by simpa using z) e
      obtain ⟨l, g1, g2, g3⟩ := h.ch m hm'
      exact ⟨l, g1.app, by rw [fieldsL_app g1.mem]; exact g2, by rw [fieldsL_app g1.mem]; exact g3⟩
  · obtain ⟨l, g1, g2⟩ := new
    rw [g1.fields, g2]
  · obtain ⟨l, g1, _, _⟩ := h.ch m hm
    rw [g1.fields, g1.app.fields, fieldsL_app g1.mem]
end EE
set_option Elab.async false
set_option linter.all false
set_option maxRecDepth 100000
set_option maxHeartbeats 4000000
namespace EE
open PySem L2 Evl
open C8 (Cal Mak cal0 mak0 pe_c pe_mk pe_gc fnScope_by)
section
variable {K : PySem.W.Frag} {σ : L2.St} {B H H' : Hp} {ta tb tc te tv : TE} {t u : TT} {x y z v : V}
theorem r_takeE {i : Nat} {p g : Addr} {m : Int} {E : XK} {Q : VK} (hv : σ[i]? = some (some (.ref p))) (hp : PotAt B H p g) (he : Ev te σ H (.int m)) (h1 : 1 ≤ m) (h2 : m ≤ 1000) (k : ∀ r H2, 0 ≤ r → r < m → PotAt B H2 p g → Ex (hid p g H) H2 → Q (.int r) H2) :
    tCall sp_take [] E (tCons (tVar i) (tCons te tNil)) σ H Q := ⟨_, hv, he H (Ex.refl _) _ fun H1 e1 => ⟨p, g, m, hid p g H1, rfl, h1, h2, (hp.mono e1).wide, fun r H2 r1 r2 q => k r H2 r1 r2 (q.back (hp.mono e1).sub) (((hp.wide.mono e1).sub).trans q.ex)⟩⟩
theorem r_name {i : Nat} {p g : Addr} {E : XK} {Q : VK} (hv : σ[i]? = some (some (.ref p))) (hp : PotAt B H p g) (k : ∀ z H2, OkNm z → PotAt B H2 p g → Ex (hid p g H) H2 → Q (.str z) H2) : tCall sp_name [] E (tCons (tVar i) tNil) σ H Q :=
  ⟨_, hv, p, g, hid p g H, rfl, hp.wide, fun z H2 hz q => k z H2 hz (q.back hp.sub) q.ex⟩
/-- as RepC, its dict of methods not of N -/
def RepCq (K : PySem.W.Frag) (N : Addr → Prop) (H : Hp) (c : Str × Cl) (p : Key × V) : Prop :=
  p.1 = Sum.inr c.1 ∧ ∃ t f m, p.2 = .ref t ∧ SqT K H t [optV c.2.par, .int c.2.lvl, .ref f, .ref m] ∧ SqT K H f (c.2.own.map V.str) ∧ H m = some (.dK (skv c.2.ms)) ∧ ¬ N m
theorem RepCq.to {N : Addr → Prop} {c : Str × Cl} {p : Key × V} (e : ∀ a xs, SqT K H a xs → SqT K H' a xs) (e2 : ∀ a kvs, H a = some (.dK kvs) → ¬ N a → H' a = some (.dK kvs)) (h : RepCq K N H c p) : RepCq K N H' c p := by
  obtain ⟨h0, t, f, m, h1, h2, h3, h4, h5⟩ := h
  exact ⟨h0, t, f, m, h1, e _ _ h2, e _ _ h3, e2 _ _ h4 h5, h5⟩
theorem RepCq.rep {N : Addr → Prop} {c : Str × Cl} {p : Key × V} (h : RepCq K N H c p) : RepC K H c p := by
  obtain ⟨h0, t, f, m, h1, h2, h3, h4, h5⟩ := h
  exact ⟨h0, t, f, m, h1, h2, h3, h4⟩
/-- texts and dicts are not the pot -/
theorem sqT_hid {p g : Addr} (hp : PotAt B H p g) {a : Addr} {xs : List V} (h : SqT K H a xs) : SqT K (hid p g H) a xs := by
  obtain ⟨ns, s, c, m, q1, q2⟩ := hp.at_
  rcases h with (h | ⟨o, h⟩) | h
  · exact .inl (.inl (by rw [hid_ne (fun z => by subst z; rw [q1] at h; cases h) (fun z => by subst z; rw [q2] at h; cases h)]; exact h))
  · exact .inl (.inr ⟨o, by rw [hid_ne (fun z => by subst z; rw [q1] at h; cases h) (fun z => by subst z; rw [q2] at h; cases h)]; exact h⟩)
  · exact .inr h
theorem dK_hid {p g : Addr} (hp : PotAt B H p g) {a : Addr} {kvs : List (Key × V)} (h : H a = some (.dK kvs)) : hid p g H a = some (.dK kvs) := by
  obtain ⟨ns, s, c, m, q1, q2⟩ := hp.at_
  rw [hid_ne (fun z => by subst z; rw [q1] at h; cases h) (fun z => by subst z; rw [q2] at h; cases h)]
  exact h
/-- tuples stay where a list or a dict is written -/
theorem sqT_putL {p : Addr} {xs ys : List V} (hp : H p = some (.lst xs)) {a : Addr} {zs : List V} (h : SqT K H a zs) : SqT K (upd H p (.lst ys)) a zs := by
  rcases h with (h | ⟨o, h⟩) | h
  · exact .inl (.inl (by rw [upd_ne (fun z => by subst z; rw [hp] at h; cases h)]; exact h))
  · exact .inl (.inr ⟨o, by rw [upd_ne (fun z => by subst z; rw [hp] at h; cases h)]; exact h⟩)
  · exact .inr h
theorem RepD.hid {p g a : Addr} {cs : List (Str × Cl)} (hp : PotAt B H p g) (h : RepD K H a cs) : RepD K (hid p g H) a cs := by
  obtain ⟨kvs, h1, h2⟩ := h
  refine ⟨kvs, dK_hid hp h1, Paired.imp (fun c p r => ?_) h2⟩
  obtain ⟨h0, t, f, m, g1, g2, g3, g4⟩ := r
  exact ⟨h0, t, f, m, g1, sqT_hid hp g2, sqT_hid hp g3, dK_hid hp g4⟩
end
def MsVals (cs : List (Str × Cl)) : Prop := ∀ c ∈ cs, MsOk c.2.ms 2
/-- the classes, the fields, as they are built -/
structure Bld (K : PySem.W.Frag) (H : Hp) (a o f : Addr) (cs : List (Str × Cl)) : Prop where
  bt : Built cs
  ms : MsVals cs
  cl : ∃ kvs, H a = some (.dK kvs) ∧ Paired (RepCq K (fun m => m = a ∨ m = f) H) cs kvs
  od : H o = some (.lst ((cnames cs).map V.str))
  fl : ∃ kvs, H f = some (.dK kvs) ∧ Paired (fun c (kv : Key × V) => kv.1 = Sum.inr c.1 ∧ ∃ t, kv.2 = .ref t ∧ SqT K H t ((allFields cs c.1).map V.str)) cs kvs
  ne : a ≠ f ∧ a ≠ o ∧ f ≠ o
def sp_classes (K : PySem.W.Frag) : Sp := fun vs H Q _ => ∃ p g B, vs = [.ref p] ∧ PotAt B H p g ∧ ∀ cs a H2, Built cs → cs.length ≤ 6 → MsVals cs → PotAt B H2 p g → B a = none → RepD K H2 a cs → Q (.ref a) H2
section
variable {P : Program} {w : World} {K : PySem.W.Frag} {mg : Str → Option Value} {base : Heap}
theorem Bld.mono {H H' : Hp} {a o f : Addr} {cs : List (Str × Cl)} (e : Ex H H') (h : Bld K H a o f cs) : Bld K H' a o f cs where
  bt := h.bt
  ms := h.ms
  cl := let ⟨kvs, h1, h2⟩ := h.cl; ⟨kvs, e _ _ h1, Paired.imp (fun _ _ r => r.to (fun _ _ => ex_t e) (fun _ _ q _ => e _ _ q)) h2⟩
  od := e _ _ h.od
  fl := let ⟨kvs, h1, h2⟩ := h.fl; ⟨kvs, e _ _ h1, Paired.imp (fun _ _ r => ⟨r.1, let ⟨t, q1, q2⟩ := r.2; ⟨t, q1, ex_t e q2⟩⟩) h2⟩
  ne := h.ne
theorem Bld.hid {B H : Hp} {a o f p g : Addr} {cs : List (Str × Cl)} (hp : PotAt B H p g) (ho : o ≠ p ∧ o ≠ g) (h : Bld K H a o f cs) : Bld K (hid p g H) a o f cs where
  bt := h.bt
  ms := h.ms
  cl := let ⟨kvs, h1, h2⟩ := h.cl; ⟨kvs, dK_hid hp h1, Paired.imp (fun _ _ r => r.to (fun _ _ => sqT_hid hp) (fun _ _ q _ => dK_hid hp q)) h2⟩
  od := by rw [hid_ne ho.1 ho.2]; exact h.od
  fl := let ⟨kvs, h1, h2⟩ := h.fl; ⟨kvs, dK_hid hp h1, Paired.imp (fun _ _ r => ⟨r.1, let ⟨t, q1, q2⟩ := r.2; ⟨t, q1, sqT_hid hp q2⟩⟩) h2⟩
  ne := h.ne
end
end EE
set_option Elab.async false
set_option linter.all false
set_option maxRecDepth 100000
set_option maxHeartbeats 4000000
namespace EE
open PySem L2 Evl
section
variable {K : PySem.W.Frag} {σ : L2.St} {B H H' : Hp} {ta tb tc te tv : TE} {t u : TT} {x y z v : V}
def BA (K : PySem.W.Frag) (H : Hp) (a f : Addr) (cs : List (Str × Cl)) : Prop := ∃ kvs, H a = some (.dK kvs) ∧ Paired (RepCq K (fun m => m = a ∨ m = f) H) cs kvs
def BF (K : PySem.W.Frag) (H : Hp) (f : Addr) (F : Str → List Str) (cs : List (Str × Cl)) : Prop := ∃ kvs, H f = some (.dK kvs) ∧ Paired (fun (c : Str × Cl) (kv : Key × V) => kv.1 = Sum.inr c.1 ∧ ∃ t, kv.2 = .ref t ∧ SqT K H t ((F c.1).map V.str)) cs kvs
theorem BA.to {a f : Addr} {cs : List (Str × Cl)} (e : ∀ a xs, SqT K H a xs → SqT K H' a xs) (e2 : ∀ x kvs, H x = some (.dK kvs) → x ≠ f → H' x = some (.dK kvs)) (hne : a ≠ f) (h : BA K H a f cs) : BA K H' a f cs :=
  let ⟨kvs, h1, h2⟩ := h; ⟨kvs, e2 _ _ h1 hne, Paired.imp (fun _ _ r => r.to e fun x kvs q n => e2 x kvs q fun z => n (.inr z)) h2⟩
theorem BF.to {f : Addr} {F : Str → List Str} {cs : List (Str × Cl)} (e : ∀ a xs, SqT K H a xs → SqT K H' a xs) (e2 : ∀ kvs, H f = some (.dK kvs) → H' f = some (.dK kvs)) (h : BF K H f F cs) : BF K H' f F cs :=
  let ⟨kvs, h1, h2⟩ := h; ⟨kvs, e2 _ h1, Paired.imp (fun _ _ r => ⟨r.1, let ⟨t, q1, q2⟩ := r.2; ⟨t, q1, e _ _ q2⟩⟩) h2⟩
theorem Bld.ba {a o f : Addr} {cs : List (Str × Cl)} (h : Bld K H a o f cs) : BA K H a f cs := h.cl
theorem Bld.bf {a o f : Addr} {cs : List (Str × Cl)} (h : Bld K H a o f cs) : BF K H f (allFields cs) cs := h.fl
theorem mem_look {cs : List (Str × Cl)} {n : Str} (h : n ∈ cnames cs) : (look cs n).isSome = true := look_some h
/-- the fields of a class, looked up -/
theorem BF.look {f : Addr} {F : Str → List Str} {cs : List (Str × Cl)} {n : Str} (h : BF K H f F cs) (hn : n ∈ cnames cs) : ∃ kvs t, H f = some (.dK kvs) ∧ valV kvs (Sum.inr n : Key) = some (.ref t) ∧ SqT K H t ((F n).map V.str) := by
  obtain ⟨kvs, h1, h2⟩ := h
  rcases pairA_look (fun _ _ r => r.1) n h2 with ⟨z, _⟩ | ⟨c, v, q1, q2, q3⟩
  · have := lookA_some hn
    rw [z] at this
    cases this
  · obtain ⟨_, t, rfl, ht⟩ := q3
    exact ⟨kvs, t, h1, q2, ht⟩
theorem BF.put {f tf : Addr} {F F' : Str → List Str} {cs : List (Str × Cl)} {n : Str} {c : Cl} (h : BF K H f F cs) (hn : n ∉ cnames cs) (hF : ∀ m ∈ cnames cs, F' m = F m) (ht : SqT K H tf ((F' n).map V.str)) :
    ∃ kvs, H f = some (.dK kvs) ∧ kvs.length = cs.length ∧ BF K (upd H f (.dK (putK kvs (Sum.inr n) (.ref tf)))) f F' (cs ++ [(n, c)]) := by
  obtain ⟨kvs, h1, h2⟩ := h
  refine ⟨kvs, h1, (Paired.length h2).symm, _, upd_same, ?_⟩
  rw [putK_new _ (valV_fresh (fun _ _ r => r.1) h2 hn)]
  have h3 : Paired (fun (c : Str × Cl) (kv : Key × V) => c.1 ∈ cnames cs ∧ kv.1 = Sum.inr c.1 ∧ ∃ t, kv.2 = .ref t ∧ SqT K H t ((F c.1).map V.str)) cs kvs := by
    have gen : ∀ {l : List (Str × Cl)} {k : List (Key × V)}, Paired (fun (c : Str × Cl) (kv : Key × V) => kv.1 = Sum.inr c.1 ∧ ∃ t, kv.2 = .ref t ∧ SqT K H t ((F c.1).map V.str)) l k → (∀ c ∈ l, c.1 ∈ cnames cs) → Paired (fun (c : Str × Cl) (kv : Key × V) => c.1 ∈ cnames cs ∧ kv.1 = Sum.inr c.1 ∧ ∃ t, kv.2 = .ref t ∧ SqT K H t ((F c.1).map V.str)) l k := by
      intro l k h
      induction h with
      | nil => exact fun _ => .nil
      | cons r _ ih => exact fun q => .cons ⟨q _ (List.mem_cons_self ..), r⟩ (ih fun c hc => q c (List.mem_cons_of_mem _ hc))
    exact gen h2 fun c hc => List.mem_map.mpr ⟨c, hc, rfl⟩
  exact paired_snoc (Paired.imp (fun c kv r => ⟨r.2.1, let ⟨t, q1, q2⟩ := r.2.2; ⟨t, q1, sqT_put h1 (by rw [hF _ r.1]; exact q2)⟩⟩) h3) ⟨rfl, tf, rfl, sqT_put h1 ht⟩
theorem BA.put {a f tn : Addr} {cs : List (Str × Cl)} {n : Str} {c : Cl} (h : BA K H a f cs) (hn : n ∉ cnames cs) (hr : RepCq K (fun m => m = a ∨ m = f) H (n, c) (Sum.inr n, .ref tn)) :
    ∃ kvs, H a = some (.dK kvs) ∧ kvs.length = cs.length ∧ BA K (upd H a (.dK (putK kvs (Sum.inr n) (.ref tn)))) a f (cs ++ [(n, c)]) := by
  obtain ⟨kvs, h1, h2⟩ := h
  refine ⟨kvs, h1, (Paired.length h2).symm, _, upd_same, ?_⟩
  rw [putK_new _ (valV_fresh (fun _ _ r => r.1) h2 hn)]
  have tr : ∀ {c : Str × Cl} {p : Key × V}, RepCq K (fun m => m = a ∨ m = f) H c p → RepCq K (fun m => m = a ∨ m = f) (upd H a (.dK (kvs ++ [(Sum.inr n, .ref tn)]))) c p := fun r => r.to (fun _ _ => sqT_put h1) fun x k q nn => by
    rw [upd_ne (fun z => nn (.inl z))]; exact q
  exact paired_snoc (Paired.imp (fun _ _ r => tr r) h2) (tr hr)
theorem r_catA {t o : Addr} {xs ys : List V} {Q : VK} (ht : SqT K H t xs) (ho : SqT K H o ys) (hz : xs.length + ys.length ≤ 100000) (k : ∀ tf H2, Ex H H2 → SqT K H2 tf (xs ++ ys) → Q (.ref tf) H2) : rCatA K (.ref t) (.ref o) H Q :=
  ⟨t, o, xs, ys, rfl, rfl, ht, ho, sz_of hz, fun e => k o H (Ex.refl H) (by subst e; exact ho), fun _ e => k t H (Ex.refl H) (by subst e; rw [List.append_nil]; exact ht), fun _ _ p hp => k p _ (Ex.new hp) (st_of upd_same)⟩
end
end EE
set_option Elab.async false
set_option linter.all false
set_option maxRecDepth 100000
set_option maxHeartbeats 4000000
namespace EE
open PySem L2 Evl
section
variable {K : PySem.W.Frag} {σ : L2.St} {B H H' : Hp} {ta tb tc te tv td ty : TE} {t u : TT} {x y z v : V}
theorem s_asgCat {i : Nat} {D : Ends} {t : Addr} {xs ys : List V} (ha : Ev ta σ H (.ref t)) (ht : SqT K H t xs) (hb : EvU tb σ H ys) (hz : xs.length + ys.length ≤ 100000) (k : ∀ tf H2, Ex H H2 → SqT K H2 tf (xs ++ ys) → D.nx (σ.set i (some (.ref tf))) H2) : tAsg (tOp (rCatA K) ta tb) (gName i) D σ H :=
  ha H (Ex.refl H) _ fun H1 e1 => hb H1 e1 _ fun p H2 _ e2 h2 => r_catA (ex_t (e1.trans e2) ht) (st_of h2) hz fun tf H3 e3 h3 => k tf H3 ((e1.trans e2).trans e3) h3
theorem q_dputCat {D : Ends} {tz : TS} {t o : Addr} {xs ys : List V} (ha : Ev ta σ H (.ref t)) (ht : SqT K H t xs) (hb : Ev tb σ H (.ref o)) (ho : SqT K H o ys) (hz : xs.length + ys.length ≤ 100000)
    (k : ∀ tf H2, Ex H H2 → SqT K H2 tf (xs ++ ys) → td σ H2 fun x H4 => ty σ H4 fun y H5 => ∃ a H6, x = .ref a ∧ DPut H5 a y (.ref tf) H6 ∧ tz D σ H6) : tSeq (sDPut td ty (tOp (rCatA K) ta tb)) tz D σ H :=
  ha H (Ex.refl H) _ fun H1 e1 => hb H1 e1 _ fun H2 e2 => r_catA (ex_t (e1.trans e2) ht) (ex_t (e1.trans e2) ho) hz fun tf H3 e3 h3 => k tf H3 ((e1.trans e2).trans e3) h3
/-- by the names alone -/
def BN (K : PySem.W.Frag) (H : Hp) (f : Addr) (F : Str → List Str) (ns : List Str) : Prop := ∃ kvs, H f = some (.dK kvs) ∧ Paired (fun (n : Str) (kv : Key × V) => kv.1 = Sum.inr n ∧ ∃ t, kv.2 = .ref t ∧ SqT K H t ((F n).map V.str)) ns kvs
theorem paired_fst {R : Str → Key × V → Prop} : ∀ {cs : List (Str × Cl)} {kvs : List (Key × V)}, Paired (fun (c : Str × Cl) kv => R c.1 kv) cs kvs ↔ Paired R (cs.map (·.1)) kvs
  | [], [] => ⟨fun _ => .nil, fun _ => .nil⟩
  | [], _ :: _ => ⟨(fun h => by cases h), (fun h => by cases h)⟩
  | _ :: _, [] => ⟨(fun h => by cases h), (fun h => by cases h)⟩
  | _ :: _, _ :: _ => ⟨(fun h => by cases h with | cons r t => exact .cons r (paired_fst.mp t)), (fun h => by cases h with | cons r t => exact .cons r (paired_fst.mpr t))⟩
theorem BF.bn {f : Addr} {F : Str → List Str} {cs : List (Str × Cl)} (h : BF K H f F cs) : BN K H f F (cnames cs) := let ⟨kvs, h1, h2⟩ := h; ⟨kvs, h1, paired_fst.mp h2⟩
theorem BN.bf {f : Addr} {F : Str → List Str} {cs : List (Str × Cl)} (h : BN K H f F (cnames cs)) : BF K H f F cs := let ⟨kvs, h1, h2⟩ := h; ⟨kvs, h1, paired_fst.mpr h2⟩
theorem BN.to {f : Addr} {F : Str → List Str} {ns : List Str} (e : ∀ a xs, SqT K H a xs → SqT K H' a xs) (e2 : ∀ kvs, H f = some (.dK kvs) → H' f = some (.dK kvs)) (h : BN K H f F ns) : BN K H' f F ns :=
  let ⟨kvs, h1, h2⟩ := h; ⟨kvs, e2 _ h1, Paired.imp (fun _ _ r => ⟨r.1, let ⟨t, q1, q2⟩ := r.2; ⟨t, q1, e _ _ q2⟩⟩) h2⟩
theorem paired_in {R R' : Str → Key × V → Prop} : ∀ {l : List Str} {k : List (Key × V)}, Paired R l k → (∀ c ∈ l, ∀ p, R c p → R' c p) → Paired R' l k
  | [], [], .nil, _ => .nil
  | _ :: _, _ :: _, .cons r t, q => .cons (q _ (List.mem_cons_self ..) _ r) (paired_in t fun c hc => q c (List.mem_cons_of_mem _ hc))
theorem BN.put {f tf : Addr} {F F' : Str → List Str} {ns : List Str} {n : Str} (h : BN K H f F ns) (hn : n ∉ ns) (hF : ∀ m ∈ ns, F' m = F m) (ht : SqT K H tf ((F' n).map V.str)) :
    ∃ kvs, H f = some (.dK kvs) ∧ kvs.length = ns.length ∧ BN K (upd H f (.dK (putK kvs (Sum.inr n) (.ref tf)))) f F' (ns ++ [n]) := by
  obtain ⟨kvs, h1, h2⟩ := h
  refine ⟨kvs, h1, (Paired.length h2).symm, _, upd_same, ?_⟩
  rw [putK_new _ (keys_fresh (fun _ _ r => r.1) h2 hn)]
  exact paired_snoc (paired_in h2 fun c hc kv r => ⟨r.1, let ⟨t, q1, q2⟩ := r.2; ⟨t, q1, sqT_put h1 (by rw [hF _ hc]; exact q2)⟩⟩) ⟨rfl, tf, rfl, sqT_put h1 ht⟩
theorem BN.fn {f : Addr} {F F' : Str → List Str} {ns : List Str} (h : BN K H f F ns) (e : ∀ n ∈ ns, F n = F' n) : BN K H f F' ns :=
  let ⟨kvs, h1, h2⟩ := h; ⟨kvs, h1, paired_in h2 fun c hc kv r => ⟨r.1, let ⟨t, q1, q2⟩ := r.2; ⟨t, q1, by rw [← e c hc]; exact q2⟩⟩⟩
theorem fgh_ok : ∀ z ∈ (["f", "g", "h"] : List Str), OkNm z := by
  have e : ((["f", "g", "h"] : List Str).all fun z => isNm z && decide (z.length ≤ 100000)) = true := by decide +kernel
  intro z hz
  have := List.all_eq_true.mp e z hz
  rw [Bool.and_eq_true, decide_eq_true_eq] at this
  exact ⟨this.1, sz_of this.2⟩
end
end EE
set_option Elab.async false
set_option linter.all false
set_option maxRecDepth 100000
set_option maxHeartbeats 4000000
namespace EE
open PySem L2 Evl
open C8 (Cal Mak cal0 mak0 pe_c pe_mk pe_gc fnScope_by)
section
variable {P : Program} {w : World} {K : PySem.W.Frag} {mg : Str → Option Value} {base : Heap}
abbrev kindsS : List Str := ["word", "row", "kept"]
theorem kind_s : ∀ z ∈ kindsS, OkNm (z ++ Str.ofString "s") ∧ (z ++ Str.ofString "s") ∉ kindsS ∧ z.length + (Str.ofString "s").length ≤ 100 := by
  have e : (kindsS.all fun z => isNm (z ++ Str.ofString "s") && (decide ((z ++ Str.ofString "s") ∉ kindsS) && (decide (z.length + (Str.ofString "s").length ≤ 100) && decide ((z ++ Str.ofString "s").length ≤ 100)))) = true := by decide +kernel
  intro z hz
  have q := List.all_eq_true.mp e z hz
  simp only [Bool.and_eq_true, decide_eq_true_eq] at q
  exact ⟨⟨q.1, sz_of (by omega)⟩, q.2.1, q.2.2.1⟩
theorem sc_classes : FnScope N__law_classes P__law_classes (C8.fnScope s__law_classes) := fnScope_by (by decide +kernel)
theorem ok_classes (T : Txt6 w K mg) : Cal P w K mg base 4 "_law_classes" (sp_classes K) [] := by
  refine mk_cal T.d_classes sc_classes (fun vs H Q E h => ?_) (fun f cdv A outer s H vs Q E hr h => ?_)
  · obtain ⟨_, _, _, rfl, _⟩ := h
    rfl
  · obtain ⟨p, g, B, rfl, hp, k⟩ := h
    have nd := sc_classes.nd
    have hu := hu_of hr
    refine ⟨_, pss_cons (ps_set (i := 1) nd rfl (Or.inl rfl) pe_dnewK)
      (pss_cons (ps_set (i := 2) nd rfl (Or.inl rfl) (pe_lst pa_nil))
      (pss_cons (ps_set (i := 3) nd rfl (Or.inl rfl) pe_dnewK)
      (pss_cons (ps_for PassesOwn.never rfl (pi_range1 (by rfl) T.rangeT (pa_cons (pe_c (ok_take T) hr (by decide) (by rfl) (pa_cons (pv 0) (pa_cons pe_int pa_nil))) pa_nil)) (pg_name (i := 4) nd rfl (Or.inl rfl))
        (pss_cons (ps_set (i := 5) nd rfl (Or.inl rfl) (pe_c (ok_name T) hr (by decide) (by rfl) (pa_cons (pv 0) pa_nil)))
        (Evl.pss_cut (ps_if (pt_cmpR op_in_seq (pv 5) (pe_lst (pa_cons pe_str (pa_cons pe_str (pa_cons pe_str pa_nil)))) (by rfl)) (pss_one (ps_set (i := 5) nd rfl (Or.inl rfl) (pe_op op_add_str (pv 5) pe_str))) pss_nil)
        (pss_one (ps_if (pt_cmp (pc_dnotin hu (pv 5) (pv 1)))
          (pss_cons (ps_set (i := 6) nd rfl (Or.inl rfl) pe_non)
          (pss_cons (ps_set (i := 7) nd rfl (Or.inl rfl) (pe_c (ok_take T) hr (by decide) (by rfl) (pa_cons (pv 0) (pa_cons (pe_op op_add (pe_callB call_len_seq (by rfl) T.len (by decide +kernel) (pa_cons (pv 2) pa_nil)) pe_int) pa_nil))))
          (Evl.pss_cut (ps_if (pt_cmpR op_lt (pv 7) (pe_callB call_len_seq (by rfl) T.len (by decide +kernel) (pa_cons (pv 2) pa_nil)) (nomark _)) (pss_one (ps_set (i := 6) nd rfl (Or.inl rfl) (pe_ix ix_list (pv 2) (pv 7) (fun _ _ => rfl))))
            (pss_one (ps_if (PW.pt (pw_and (pt_cmpR op_eq (pv 7) (pe_callB call_len_seq (by rfl) T.len (by decide +kernel) (pa_cons (pv 2) pa_nil)) (nomark _)) (pw_and1 (pt_cmpR op_gt (pe_callB call_len_seq (by rfl) T.len (by decide +kernel) (pa_cons (pv 2) pa_nil)) pe_int (nomark _)))))
              (pss_one (ps_set (i := 6) nd rfl (Or.inl rfl) (pe_ix ix_list (pv 2) (pe_un un_neg pe_int) (fun _ _ => rfl)))) pss_nil)))
          (pss_cons (ps_set (i := 8) nd rfl (Or.inl rfl) (pe_tup pa_nil))
          (Evl.pss_cut (ps_if (pt_cmpR op_notN (pv 6) pe_non (nomark _)) (pss_one (ps_set (i := 8) nd rfl (Or.inl rfl) (pe_dget hu (pv 3) (pv 6) (fun _ _ => rfl)))) pss_nil)
          (pss_cons (ps_set (i := 9) nd rfl (Or.inl rfl) (pe_tup pa_nil))
          (Evl.pss_cut (ps_for PassesOwn.never rfl (pi_range1 (by rfl) T.rangeT (pa_cons (pe_c (ok_take T) hr (by decide) (by rfl) (pa_cons (pv 0) (pa_cons pe_int pa_nil))) pa_nil)) (pg_name (i := 10) nd rfl (Or.inl rfl))
            (pss_cons (ps_set (i := 11) nd rfl (Or.inl rfl) (pe_c (ok_name T) hr (by decide) (by rfl) (pa_cons (pv 0) pa_nil)))
            (pss_one (ps_if (PW.pt (pw_and (pt_cmpR op_notIn_seq (pv 11) (pv 8) (by rfl)) (pw_and (pt_cmpR op_notIn_seq (pv 11) (pv 9) (by rfl)) (pw_and1 (pt_cmpR op_lt (pe_op op_add (pe_callB call_len_seq (by rfl) T.len (by decide +kernel) (pa_cons (pv 8) pa_nil)) (pe_callB call_len_seq (by rfl) T.len (by decide +kernel) (pa_cons (pv 9) pa_nil))) pe_int (nomark _))))))
              (pss_one (ps_set (i := 9) nd rfl (Or.inl rfl) (pe_op op_catA (pv 9) (pe_tup (pa_cons (pv 11) pa_nil))))) pss_nil))))
          (pss_cons (ps_expr (pe_bm PySem.F.plainAttrs_list PySem.F.slot_list_append PySem.F.type_list_append mt_append (pv 2) (pa_cons (pv 5) pa_nil)))
          (pss_cons (ps_dput hu (pv 3) (pv 5) (pe_op op_catA (pv 8) (pv 9)) (by rfl))
          (pss_one (ps_dput hu (pv 1) (pv 5) (pe_tup (pa_cons (pv 6) (pa_cons (pe_op op_add pe_int (pe_c (ok_take T) hr (by decide) (by rfl) (pa_cons (pv 0) (pa_cons pe_int pa_nil)))) (pa_cons (pv 9) (pa_cons (pe_c (ok_methods T) hr (by decide) (by rfl) (pa_cons (pv 0) pa_nil)) pa_nil))))) (by rfl)))))))))))) pss_nil)))))
      (pss_one (ps_ret (pv 1)))))), ?_⟩
    refine q_asgD ed_new fun a H1 ha e1 h1 => ?_
    refine q_asgL (el_lst ea_nil (show 0 ≤ 100000 by decide)) fun o H2 ho e2 h2 => ?_
    refine q_asgD ed_new fun f' H3 hf e3 h3 => ?_
    have p1 := hp.mono e1
    have p2 := p1.mono e2
    have p3 := p2.mono e3
    have han := hp.new ha
    have hon := p1.new ho
    have hfn := p2.new hf
    have haB : B a = none := fresh_back hp.ex ha
    have hoB : B o = none := fresh_back p1.ex ho
    have hfB : B f' = none := fresh_back p2.ex hf
    have hao : a ≠ o := fun z => by subst z; rw [h1] at ho; cases ho
    have haf : a ≠ f' := fun z => by subst z; rw [e2 _ _ h1] at hf; cases hf
    have hfo : f' ≠ o := fun z => by subst z; rw [h2] at hf; cases hf
    have bl3 : Bld K H3 a o f' [] := ⟨.nil, fun _ h => absurd h List.not_mem_nil, ⟨[], e3 _ _ (e2 _ _ h1), .nil⟩, e3 _ _ h2, ⟨[], h3, .nil⟩, haf, hao, hfo⟩
    refine r_take rfl p3 (by decide) (by decide) fun n H4 n0 n1 p4 x4 => ?_
    have bl4 := (bl3.hid p3 hon).mono x4
    refine ⟨n, rfl, by omega, by omega, for_it walk_range (fun i σ' H' => (∃ v4 v5 v6 v7 v8 v9 v10 v11, σ' = [some (.ref p), some (.ref a), some (.ref o), some (.ref f'), v4, v5, v6, v7, v8, v9, v10, v11]) ∧ PotAt B H' p g ∧ ∃ cs, Bld K H' a o f' cs ∧ cs.length ≤ i)
      ⟨⟨_, _, _, _, _, _, _, _, rfl⟩, p4, [], bl4, Nat.le_refl _⟩ (fun _ _ _ _ _ => trivial) ?_ ?_⟩
    · rintro i x σ' H0 H' hi ⟨⟨v4, v5, v6, v7, v8, v9, v10, v11, rfl⟩, q1, cs, bl, hlen⟩ ⟨rfl, rfl⟩
      refine r_name rfl q1 fun z H5 hz p5 x5 => ?_
      have bl5 := (bl.hid q1 hon).mono x5
      refine q_cut (M := fun σ'' H'' => ∃ z', σ'' = [some (.ref p), some (.ref a), some (.ref o), some (.ref f'), some (.int (0 + (i : Nat))), some (.str z'), v6, v7, v8, v9, v10, v11] ∧ OkNm z' ∧ z' ∉ (["word", "row", "kept"] : List Str) ∧ PotAt B H'' p g ∧ Bld K H'' a o f' cs) ?_ ?_
      · refine s_when (b := decide (z ∈ kindsS)) (et_test (ev_is (ev_opL (ev_var (v := .str z) rfl) (el_lst (ea_cons (ev_c (v := .str "word")) (ea_cons (ev_c (v := .str "row")) (ea_cons (ev_c (v := .str "kept")) ea_nil))) (show 3 ≤ 100000 by decide)) fun pl H6 h6 _ => rv_isL (xs := kindsS.map V.str) (sq_of h6) rfl (flat_strs _)) (by rw [in_strs]))) (fun hb H6 e6 => ?_) (fun hb H6 e6 => ?_)
        · obtain ⟨k1, k2, k3⟩ := kind_s z (of_decide_eq_true hb)
          exact s_asg (v := .str (z ++ Str.ofString "s")) (ev_op (ev_var (v := .str z) rfl) ev_c (rv_cat (sz_of (by omega)))) fun H7 e7 => ⟨_, rfl, k1, k2, (p5.mono e6).mono e7, (bl5.mono e6).mono e7⟩
        · exact ⟨z, rfl, hz, of_decide_eq_false hb, p5.mono e6, bl5.mono e6⟩
      · rintro σ'' H6 ⟨z', rfl, hz', hzk, p6, bl6⟩
        obtain ⟨kvs, hk1, hk2⟩ := bl6.cl
        refine s_when (b := !(valV kvs (Sum.inr z' : Key)).isSome) (et_B (et_dnotin (k := Sum.inr z') (ev_var (v := .str z') rfl) (ev_var (v := .ref a) rfl) (.inl hk1))) (fun hb H7 e7 => ?_) (fun _ H7 e7 => ⟨⟨_, _, _, _, _, _, _, _, rfl⟩, p6.mono e7, cs, bl6.mono e7, by omega⟩)
        have hnew : z' ∉ cnames cs := fun hm => by
          rcases pairA_look (fun _ _ r => r.1) z' hk2 with ⟨q, _⟩ | ⟨c, v, _, q2, _⟩
          · have := lookA_some hm
            rw [q] at this
            cases this
          · rw [q2] at hb; cases hb
        have p7 := p6.mono e7
        have bl7 := bl6.mono e7
        clear hk1 hk2 hb
        refine q_asg (v := .non) ev_c fun H8 e8 => ?_
        have p8 := p7.mono e8
        have bl8 := bl7.mono e8
        have hcl : ((cnames cs).map V.str).length = cs.length := by rw [List.length_map, List.length_map]
        refine r_takeE (m := (((cnames cs).map V.str).length : Nat) + 3) rfl p8 (ev_op (ev_cb (ea_cons (ev_var (v := .ref o) rfl) ea_nil) (rc_lenS (.inl (sq_of bl8.od)))) ev_c rv_I0) (by omega) (by omega) fun r H9 r0 r1 p9 x9 => ?_
        have bl9 := (bl8.hid p8 hon).mono x9
        refine q_cut (M := fun σ'' H'' => ∃ par : Option Str, (∀ q, par = some q → q ∈ cnames cs) ∧ σ'' = [some (.ref p), some (.ref a), some (.ref o), some (.ref f'), some (.int (0 + (i : Nat))), some (.str z'), some (optV par), some (.int r), v8, v9, v10, v11] ∧ PotAt B H'' p g ∧ Bld K H'' a o f' cs) ?_ ?_
        · refine s_if (b := decide (r < (((cnames cs).map V.str).length : Nat))) (et_test (ev_op (ev_var (v := .int r) rfl) (ev_cb (ea_cons (ev_var (v := .ref o) rfl) ea_nil) (rc_lenS (.inl (sq_of bl9.od)))) rv_I0)) (fun hb H10 e10 => ?_) (fun _ H10 e10 => ?_)
          · have hr : r.toNat < (cnames cs).length := by have := of_decide_eq_true hb; rw [List.length_map] at this; omega
            refine s_asg (v := .str ((cnames cs)[r.toNat])) (ev_op (ev_var (v := .ref o) rfl) (ev_var (v := .int r) rfl) (rv_ixL (sq_of (e10 _ _ bl9.od)) (L2.at_of (j := r.toNat) (by omega) (by rw [List.getElem?_map, List.getElem?_eq_getElem hr]; rfl)))) fun H11 e11 => ⟨some ((cnames cs)[r.toNat]), fun q hq => ?_, rfl, (p9.mono e10).mono e11, (bl9.mono e10).mono e11⟩
            cases hq
            exact List.getElem_mem hr
          · refine s_when (b := decide (V.int r = V.int (((cnames cs).map V.str).length : Nat)) && decide ((((cnames cs).map V.str).length : Int) > 0)) (et_and (et_test (ev_op (ev_var (v := .int r) rfl) (ev_cb (ea_cons (ev_var (v := .ref o) rfl) ea_nil) (rc_lenS (.inl (sq_of (e10 _ _ bl9.od))))) (rv_eq rfl))) fun _ => et_test (ev_op (ev_cb (ea_cons (ev_var (v := .ref o) rfl) ea_nil) (rc_lenS (.inl (sq_of (e10 _ _ bl9.od))))) ev_c rv_I0)) (fun hb H11 e11 => ?_) (fun _ H11 e11 => ⟨none, (fun q hq => by cases hq), rfl, (p9.mono e10).mono e11, (bl9.mono e10).mono e11⟩)
            have hpos : 0 < (cnames cs).length := by
              have := of_decide_eq_true (Bool.and_eq_true_iff.mp hb).2
              rw [List.length_map] at this
              omega
            obtain ⟨ys, y, hys⟩ : ∃ ys y, cnames cs = ys ++ [y] := by
              rcases List.eq_nil_or_concat (cnames cs) with e | ⟨ys, y, e⟩
              · rw [e] at hpos; exact absurd hpos (Nat.lt_irrefl 0)
              · exact ⟨ys, y, by rw [e]; simp⟩
            have od11 : H11 o = some (.lst (ys.map V.str ++ [.str y])) := by
              have := e11 _ _ (e10 _ _ bl9.od)
              rw [hys, List.map_append] at this
              exact this
            exact s_asg (v := .str y) (ev_op (ev_var (v := .ref o) rfl) (ev_un ev_c ru_neg) (rv_ixL (sq_of od11) (atI_last _ _))) fun H12 e12 => ⟨some y, fun q hq => by cases hq; rw [hys]; exact List.mem_append_right _ (List.mem_singleton.mpr rfl), rfl, ((p9.mono e10).mono e11).mono e12, ((bl9.mono e10).mono e11).mono e12⟩
        · rintro σ3 H10 ⟨par, hpar, rfl, p10, bl10⟩
          refine q_asgU (eu_tup ea_nil (show 0 ≤ 100000 by decide)) fun t8 H11 _ e11 h11 => ?_
          have p11 := p10.mono e11
          have bl11 := bl10.mono e11
          refine q_cut (M := fun σ'' H'' => ∃ t had, σ'' = [some (.ref p), some (.ref a), some (.ref o), some (.ref f'), some (.int (0 + (i : Nat))), some (.str z'), some (optV par), some (.int r), some (.ref t), v9, v10, v11] ∧ SqT K H'' t (had.map V.str) ∧ ((par = none ∧ had = []) ∨ ∃ q, par = some q ∧ had = allFields cs q) ∧ PotAt B H'' p g ∧ Bld K H'' a o f' cs) ?_ ?_
          · cases par with
            | none => exact s_when (b := false) (et_test (ev_is (ev_op (ev_var (v := .non) rfl) ev_c rv_notN) rfl)) (fun z => nomatch z) fun _ H12 e12 => ⟨t8, [], rfl, st_of (e12 _ _ h11), .inl ⟨rfl, rfl⟩, p11.mono e12, bl11.mono e12⟩
            | some q =>
              refine s_when (b := true) (et_test (ev_is (ev_op (ev_var (v := .str q) rfl) ev_c rv_notN) rfl)) (fun _ H12 e12 => ?_) (fun z => nomatch z)
              obtain ⟨kvs, t, g1, g2, g3⟩ := (bl11.mono e12).bf.look (hpar q rfl)
              exact s_asg (v := .ref t) (ev_dget (k := Sum.inr q) (ev_var (v := .ref f') rfl) (ev_var (v := .str q) rfl) (.inl g1) g2) fun H13 e13 => ⟨t, allFields cs q, rfl, ex_t e13 g3, .inr ⟨q, rfl, rfl⟩, (p11.mono e12).mono e13, (bl11.mono e12).mono e13⟩
          · rintro σ4 H12 ⟨t, had, rfl, hth, hhad, p12, bl12⟩
            have hhd : had.Nodup ∧ had.length ≤ 4 := by
              rcases hhad with ⟨_, rfl⟩ | ⟨q, hq, rfl⟩
              · exact ⟨List.nodup_nil, by decide⟩
              · obtain ⟨l, g1, g2, g3⟩ := bl12.bt.ch q (mem_look (hpar q hq))
                rw [g1.fields]
                exact ⟨g2, g3⟩
            refine q_asgU (eu_tup ea_nil (show 0 ≤ 100000 by decide)) fun t9 H13 _ e13 h13 => ?_
            have p13 := p12.mono e13
            have bl13 := bl12.mono e13
            refine q_cut (M := fun σ'' H'' => ∃ w10 w11 to own, σ'' = [some (.ref p), some (.ref a), some (.ref o), some (.ref f'), some (.int (0 + (i : Nat))), some (.str z'), some (optV par), some (.int r), some (.ref t), some (.ref to), w10, w11] ∧ SqT K H'' t (had.map V.str) ∧ SqT K H'' to (own.map V.str) ∧ (had ++ own).Nodup ∧ (had ++ own).length ≤ 4 ∧ (∀ z ∈ own, OkNm z) ∧ own.length ≤ 3 ∧ PotAt B H'' p g ∧ Bld K H'' a o f' cs) ?_ ?_
            · refine r_take rfl p13 (by decide) (by decide) fun r4 H14 s0 s1 p14 x14 => ?_
              refine ⟨r4, rfl, by omega, by omega, for_it walk_range (fun j σ'' H'' => ∃ w10 w11 to own, σ'' = [some (.ref p), some (.ref a), some (.ref o), some (.ref f'), some (.int (0 + (i : Nat))), some (.str z'), some (optV par), some (.int r), some (.ref t), some (.ref to), w10, w11] ∧ SqT K H'' t (had.map V.str) ∧ SqT K H'' to (own.map V.str) ∧ (had ++ own).Nodup ∧ (had ++ own).length ≤ 4 ∧ (∀ z ∈ own, OkNm z) ∧ own.length ≤ j ∧ PotAt B H'' p g ∧ Bld K H'' a o f' cs)
                ⟨_, _, t9, [], rfl, ex_t x14 (sqT_hid p13 (ex_t e13 hth)), ex_t x14 (sqT_hid p13 (st_of h13)), by rw [List.append_nil]; exact hhd.1, by rw [List.append_nil]; exact hhd.2, (fun _ h => absurd h List.not_mem_nil), Nat.le_refl _, p14, (bl13.hid p13 hon).mono x14⟩ (fun _ _ _ _ _ => trivial) ?_ ?_⟩
              · rintro j x σ'' H0 H'' hj ⟨w10, w11, to, own, rfl, a1, a2, a3, a4, a5, a6, a7, a8⟩ ⟨rfl, rfl⟩
                refine r_name rfl a7 fun fz H15 hfz p15 x15 => ?_
                have b1 := ex_t x15 (sqT_hid a7 a1)
                have b2 := ex_t x15 (sqT_hid a7 a2)
                have b8 := (a8.hid a7 hon).mono x15
                refine s_when (b := !inV (.str fz) (had.map V.str) && (!inV (.str fz) (own.map V.str) && decide (((had.map V.str).length : Int) + ((own.map V.str).length : Int) < 4)))
                  (et_and (et_test (ev_op (ev_var (v := .str fz) rfl) (ev_var (v := .ref t) rfl) (rv_niT b1 rfl (flat_strs _)))) fun _ => et_and (et_test (ev_op (ev_var (v := .str fz) rfl) (ev_var (v := .ref to) rfl) (rv_niT b2 rfl (flat_strs _)))) fun _ =>
                    et_test (ev_op (ev_op (ev_cb (ea_cons (ev_var (v := .ref t) rfl) ea_nil) (rc_lenS (.inr b1))) (ev_cb (ea_cons (ev_var (v := .ref to) rfl) ea_nil) (rc_lenS (.inr b2))) rv_I0) ev_c rv_I0))
                  (fun hb H16 e16 => ?_) (fun _ H16 e16 => ⟨_, _, to, own, rfl, ex_t e16 b1, ex_t e16 b2, a3, a4, a5, by omega, p15.mono e16, b8.mono e16⟩)
                rw [in_strs, in_strs, List.length_map, List.length_map, Bool.and_eq_true, Bool.and_eq_true, Bool.not_eq_true', Bool.not_eq_true', decide_eq_false_iff_not, decide_eq_false_iff_not, decide_eq_true_eq] at hb
                refine s_asgCat (ev_var (v := .ref to) rfl) (ex_t e16 b2) (eu_tup (ea_cons (ev_var (v := .str fz) rfl) ea_nil) (show 1 ≤ 100000 by decide)) (by rw [List.length_map]; show own.length + 1 ≤ 100000; omega) fun tf H17 e17 h17 => ⟨_, _, tf, own ++ [fz], rfl, ex_t (e16.trans e17) b1, by rw [List.map_append]; exact h17, ?_, ?_, ?_, ?_, (p15.mono e16).mono e17, (b8.mono e16).mono e17⟩
                · rw [← List.append_assoc, List.nodup_append]
                  refine ⟨a3, by simp, fun u hu v hv => ?_⟩
                  obtain rfl := List.mem_singleton.mp hv
                  intro e
                  subst e
                  rcases List.mem_append.mp hu with h | h
                  · exact hb.1 h
                  · exact hb.2.1 h
                · rw [List.length_append, List.length_append, List.length_singleton]; omega
                · intro u hu
                  rcases List.mem_append.mp hu with h | h
                  · exact a5 u h
                  · obtain rfl := List.mem_singleton.mp h; exact hfz
                · rw [List.length_append, List.length_singleton]; omega
              · rintro σ'' H'' ⟨w10, w11, to, own, rfl, a1, a2, a3, a4, a5, a6, a7, a8⟩
                exact ⟨_, _, to, own, rfl, a1, a2, a3, a4, a5, by omega, a7, a8⟩
            · rintro σ5 H14 ⟨w10, w11, to, own, rfl, a1, a2, a3, a4, a5, a6, p14, bl14⟩
              refine q_app bl14.od (ev_var (v := .ref o) rfl) (ev_var (v := .str z') rfl) (by omega) fun H15 e15 => ?_
              have od15 := e15 _ _ bl14.od
              have pG := (p14.mono e15).upd (o := .lst ((cnames cs).map V.str ++ [.str z'])) hoB hon.1 hon.2
              have baG : BA K (upd H15 o (.lst ((cnames cs).map V.str ++ [.str z']))) a f' cs := (bl14.mono e15).ba.to (fun _ _ => sqT_putL od15) (fun x kvs q _ => by rw [upd_ne (fun z => by subst z; rw [od15] at q; cases q)]; exact q) haf
              have bnG : BN K (upd H15 o (.lst ((cnames cs).map V.str ++ [.str z']))) f' (allFields cs) (cnames cs) := (bl14.mono e15).bf.bn.to (fun _ _ => sqT_putL od15) (fun kvs q => by rw [upd_ne hfo]; exact q)
              have oG : upd H15 o (.lst ((cnames cs).map V.str ++ [.str z'])) o = some (.lst ((cnames cs ++ [z']).map V.str)) := by rw [upd_same, List.map_append]; rfl
              have tG : SqT K (upd H15 o (.lst ((cnames cs).map V.str ++ [.str z']))) t (had.map V.str) := sqT_putL od15 (ex_t e15 a1)
              have toG : SqT K (upd H15 o (.lst ((cnames cs).map V.str ++ [.str z']))) to (own.map V.str) := sqT_putL od15 (ex_t e15 a2)
              generalize upd H15 o (.lst ((cnames cs).map V.str ++ [.str z'])) = G1 at pG baG bnG oG tG toG
              refine q_dputCat (ev_var (v := .ref t) rfl) tG (ev_var (v := .ref to) rfl) toG (by rw [List.length_map, List.length_map]; rw [List.length_append] at a4; omega) fun tf H16 e16 h16 => ?_
              obtain ⟨fkv, g1, g2, g3⟩ := (bnG.to (fun _ _ => ex_t e16) (fun _ q => e16 _ _ q)).put (F' := fun m => if m = z' then had ++ own else allFields cs m) (tf := tf) hnew (fun m hm => if_neg (fun e : m = z' => hnew (e ▸ hm))) (by rw [if_pos rfl, List.map_append]; exact h16)
              have hz100 : fkv.length < 100000 := by rw [g2, List.length_map]; omega
              refine ⟨_, rfl, _, rfl, f', _, rfl, DPut.k (k := Sum.inr z') g1 (sz_lt hz100), ?_⟩
              have pG2 := (pG.mono e16).upd (o := .dK (putK fkv (Sum.inr z') (.ref tf))) hfB hfn.1 hfn.2
              have baG2 : BA K (upd H16 f' (.dK (putK fkv (Sum.inr z') (.ref tf)))) a f' cs := (baG.to (fun _ _ => ex_t e16) (fun x kvs q _ => e16 _ _ q) haf).to (fun _ _ => sqT_put g1) (fun x kvs q hne => by rw [upd_ne hne]; exact q) haf
              have oG2 : upd H16 f' (.dK (putK fkv (Sum.inr z') (.ref tf))) o = some (.lst ((cnames cs ++ [z']).map V.str)) := by rw [upd_ne (Ne.symm hfo)]; exact e16 _ _ oG
              have toG2 : SqT K (upd H16 f' (.dK (putK fkv (Sum.inr z') (.ref tf)))) to (own.map V.str) := sqT_put g1 (ex_t e16 toG)
              generalize upd H16 f' (.dK (putK fkv (Sum.inr z') (.ref tf))) = G2 at pG2 baG2 oG2 toG2 g3
              refine ⟨_, rfl, r_take rfl pG2 (by decide) (by decide) fun r6 H17 u0 u1 p17 x17 => ⟨1, r6, rfl, rfl, _, rfl, _, rfl, p, g, hid p g H17, rfl, p17.wide, fun ms m H18 hms q18 hm hmp hmg h18 => ⟨(show 4 ≤ sizeLine by decide), fun tn htn => ?_⟩⟩⟩
              have s17 : ∀ x xs, SqT K G2 x xs → SqT K H17 x xs := fun x xs h => ex_t x17 (sqT_hid pG2 h)
              have d17 : ∀ x kvs, G2 x = some (.dK kvs) → H17 x = some (.dK kvs) := fun x kvs h => x17 _ _ (dK_hid pG2 h)
              have s18 : ∀ x xs, SqT K G2 x xs → SqT K H18 x xs := fun x xs h => ex_t q18.ex (sqT_hid p17 (s17 x xs h))
              have d18 : ∀ x kvs, G2 x = some (.dK kvs) → H18 x = some (.dK kvs) := fun x kvs h => q18.ex _ _ (dK_hid p17 (d17 x kvs h))
              have e19 : Ex H18 (upd H18 tn (.tup [optV par, .int (1 + r6), .ref to, .ref m])) := Ex.new htn
              have hmtn : m ≠ tn := fun z => by subst z; rw [h18] at htn; cases htn
              have hma : m ≠ a := fun z => by
                obtain ⟨kk, q1, _⟩ := baG2
                subst z
                rw [dK_hid p17 (d17 _ _ q1)] at hm
                cases hm
              have hmf : m ≠ f' := fun z => by
                obtain ⟨kk, q1, _⟩ := g3
                subst z
                rw [dK_hid p17 (d17 _ _ q1)] at hm
                cases hm
              have ba19 : BA K (upd H18 tn (.tup [optV par, .int (1 + r6), .ref to, .ref m])) a f' cs := baG2.to (fun x xs h => ex_t e19 (s18 x xs h)) (fun x kvs h _ => e19 _ _ (d18 x kvs h)) haf
              obtain ⟨ckv, c1, c2, c3⟩ := ba19.put (n := z') (c := (Cl.mk par (1 + r6) own ms)) (tn := tn) hnew ⟨rfl, tn, to, m, rfl, st_of upd_same, ex_t e19 (s18 _ _ toG2), by rw [upd_ne hmtn]; exact h18, fun z => z.elim hma hmf⟩
              have rcl : RightCl cs (Cl.mk par (1 + r6) own ms) := ⟨fun q hq => by
                  have hq' := hpar q hq
                  obtain ⟨d, hd, e⟩ := List.mem_map.mp hq'
                  exact ⟨by rw [← e]; exact (bl14.bt.nm d hd).1, mem_look hq'⟩, ⟨by show 1 ≤ 1 + r6; omega, by show 1 + r6 ≤ 2; omega⟩, ⟨a5, (List.nodup_append.mp a3).2.1, a6⟩, ⟨fun q hq => ⟨(hms.ok q hq).1, fgh_ok _ (hms.ok q hq).2⟩, by have := hms.len; show ms.length ≤ 300; omega⟩⟩
              obtain ⟨bt, fnew, fold⟩ := bl14.bt.snoc (c := (Cl.mk par (1 + r6) own ms)) hz' hzk hnew rcl hhad a3 a4
              have hcn : cnames (cs ++ [(z', (Cl.mk par (1 + r6) own ms))]) = cnames cs ++ [z'] := by rw [cnames, List.map_append]; rfl
              have hol : ckv.length < 100000 := by omega
              refine ⟨_, rfl, _, rfl, a, _, rfl, DPut.k (k := Sum.inr z') c1 (sz_lt hol), ⟨_, _, _, _, _, _, _, _, rfl⟩, ((q18.back p17.sub).mono e19).upd haB han.1 han.2, cs ++ [(z', (Cl.mk par (1 + r6) own ms))], ⟨bt, fun d hd => ?_, c3, ?_, ?_, haf, hao, hfo⟩, by rw [List.length_append, List.length_singleton]; omega⟩
              · rcases List.mem_append.mp hd with hd | hd
                · exact bl14.ms d hd
                · obtain rfl := List.mem_singleton.mp hd; exact hms
              · rw [upd_ne (Ne.symm hao), hcn]
                exact e19 _ _ (q18.ex _ _ (by rw [hid_ne hon.1 hon.2]; exact x17 _ _ (by rw [hid_ne hon.1 hon.2]; exact oG2)))
              · have bn : BN K (upd (upd H18 tn (.tup [optV par, .int (1 + r6), .ref to, .ref m])) a (.dK (putK ckv (Sum.inr z') (.ref tn)))) f' (fun m => if m = z' then had ++ own else allFields cs m) (cnames cs ++ [z']) :=
                  g3.to (fun x xs h => sqT_put c1 (ex_t e19 (s18 x xs h))) (fun kvs h => by rw [upd_ne (Ne.symm haf)]; exact e19 _ _ (d18 _ _ h))
                rw [← hcn] at bn
                refine (bn.fn fun n hn => ?_).bf
                rw [hcn] at hn
                by_cases e : n = z'
                · rw [if_pos e, e, fnew]
                · rw [if_neg e]
                  rcases List.mem_append.mp hn with hn | hn
                  · exact (fold n (mem_look hn)).symm
                  · exact absurd (List.mem_singleton.mp hn) e
    · rintro σ' H' ⟨⟨v4, v5, v6, v7, v8, v9, v10, v11, rfl⟩, q1, cs, bl, hlen⟩
      refine s_ret (v := .ref a) (ev_var rfl) fun H5 e5 => k cs a H5 bl.bt (by omega) bl.ms (q1.mono e5) haB ?_
      obtain ⟨kvs, hk1, hk2⟩ := (bl.mono e5).cl
      exact ⟨kvs, hk1, Paired.imp (fun _ _ r => r.rep) hk2⟩
end
end EE
set_option Elab.async false
set_option linter.all false
set_option maxRecDepth 100000
set_option maxHeartbeats 4000000
namespace EE
open PySem L2 Evl
open C8 (Cal Mak cal0 mak0 pe_c pe_mk pe_gc fnScope_by)
theorem Chain.next {cs : List (Str × Cl)} {n : Str} {l : List Str} (h : Chain cs n l) : ∀ {i : Nat} {y : Str}, l[i]? = some y → l[i + 1]? = parOf cs y := by
  induction h with
  | root _ hp =>
    intro i y hy
    cases i with
    | zero => cases hy; rw [hp]; rfl
    | succ i => simp at hy
  | step _ hp hc _ ih =>
    intro i y hy
    cases i with
    | zero =>
      cases hy
      obtain ⟨r, rfl⟩ := hc.head
      rw [hp]; rfl
    | succ i => exact ih (i := i) hy
section
variable {P : Program} {w : World} {K : PySem.W.Frag} {mg : Str → Option Value} {base : Heap}
def sp_line (K : PySem.W.Frag) : Sp := PuL fun vs H xs => ∃ a n cs l, vs = [.ref a, .str n] ∧ RepCs K H a cs ∧ Chain cs n l ∧ l.length ≤ 7 ∧ xs = l.map V.str
theorem l_line {H : Hp} {a : Addr} {n : Str} {cs : List (Str × Cl)} {l : List Str} (h : RepCs K H a cs) (hc : Chain cs n l) (hl : l.length ≤ 7) : SpL (sp_line K) [.ref a, .str n] H (l.map V.str) := spl fun H1 e => ⟨a, n, cs, l, rfl, h.ex e, hc, hl, rfl⟩
theorem sc_line : FnScope N__law_line P__law_line (C8.fnScope s__law_line) := fnScope_by (by decide +kernel)
theorem ok_line (T : Txt6 w K mg) : Cal P w K mg base 1 "_law_line" (sp_line K) [] := by
  refine mk_cal T.d_line sc_line (fun vs H Q E h => ?_) (fun f cdv A outer s H vs Q E hr h => ?_)
  · obtain ⟨_, ⟨_, _, _, _, rfl, _⟩, _⟩ := h
    rfl
  · obtain ⟨_, ⟨a, n, cs, l, rfl, hrep, hch, hl7, rfl⟩, k⟩ := h
    have nd := sc_line.nd
    have hu := hu_of hr
    refine ⟨_, pss_cons (ps_set (i := 2) nd rfl (Or.inl rfl) (pe_lst pa_nil))
      (pss_cons (ps_for PassesOwn.never rfl (pi_range1 (by rfl) T.rangeT (pa_cons pe_int pa_nil)) (pg_name (i := 3) nd rfl (Or.inl rfl))
        (pss_one (ps_if (pt_cmpR op_notN (pv 1) pe_non (nomark _)) (pss_cons (ps_expr (pe_bm PySem.F.plainAttrs_list PySem.F.slot_list_append PySem.F.type_list_append mt_append (pv 2) (pa_cons (pv 1) pa_nil)))
          (pss_one (ps_set (i := 1) nd rfl (Or.inl rfl) (pe_ix ix_tup (pe_dget hu (pv 0) (pv 1) (fun _ _ => rfl)) pe_int (fun _ _ => rfl))))) pss_nil)))
      (pss_one (ps_ret (pv 2)))), ?_⟩
    refine q_asgL (el_lst ea_nil (show 0 ≤ 100000 by decide)) fun ll H1 hll e1 h1 => ?_
    have h0 : l[0]? = some n := by obtain ⟨r, rfl⟩ := hch.head; rfl
    refine q_forR1 (n := 7) (ea_cons ev_c ea_nil) (by decide) (fun i σ' H' => (∃ v3, σ' = [some (.ref a), some (optV (l[i]?)), some (.ref ll), v3]) ∧ Ex H H' ∧ H' ll = some (.lst ((l.take i).map V.str))) (fun H2 e2 => ⟨⟨none, by rw [h0]; rfl⟩, e1.trans e2, e2 _ _ h1⟩) ?_ ?_
    · rintro i σ' H' hi ⟨⟨v3, rfl⟩, p1, p2⟩
      cases hy : l[i]? with
      | none =>
        have hle : l.length ≤ i := List.getElem?_eq_none_iff.mp hy
        refine s_when (b := false) (et_test (ev_is (ev_op (ev_var (v := .non) rfl) ev_c rv_notN) rfl)) (fun z => nomatch z) fun _ H2 e2 => ⟨⟨_, by rw [List.getElem?_eq_none (by omega)]; rfl⟩, p1.trans e2, ?_⟩
        rw [List.take_of_length_le (by omega)] at p2 ⊢
        exact e2 _ _ p2
      | some y =>
        have hil : i < l.length := (List.getElem?_eq_some_iff.mp hy).1
        refine s_when (b := true) (et_test (ev_is (ev_op (ev_var (v := .str y) rfl) ev_c rv_notN) rfl)) (fun _ H2 e2 => ?_) (fun z => nomatch z)
        refine q_app (e2 _ _ p2) (ev_var (v := .ref ll) rfl) (ev_var (v := .str y) rfl) (by rw [List.length_map, List.length_take]; omega) fun H3 e3 => ?_
        have f3 : Ex H (upd H3 ll (.lst ((l.take i).map V.str ++ [.str y]))) := ((p1.trans e2).trans e3).mut hll
        have g3 : upd H3 ll (.lst ((l.take i).map V.str ++ [.str y])) ll = some (.lst ((l.take (i + 1)).map V.str)) := by
          rw [upd_same, List.take_add_one, hy, Option.toList_some, List.map_append]; rfl
        generalize upd H3 ll (.lst ((l.take i).map V.str ++ [.str y])) = G3 at f3 g3
        obtain ⟨c, hc⟩ := Option.isSome_iff_exists.mp (hch.mem y (List.mem_of_getElem? hy))
        obtain ⟨kvs, v, k1, k2, k3⟩ := repC_at (hrep.ex f3) hc
        obtain ⟨_, t, f2, ms, rfl, k4, _⟩ := k3
        have hp : parOf cs y = c.par := by unfold parOf; rw [hc]; rfl
        exact s_asg (v := optV c.par) (ev_op (ev_dget (k := Sum.inr y) (ev_var (v := .ref a) rfl) (ev_var (v := .str y) rfl) k1 k2) ev_c (rv_ixT k4 (at_of (j := 0) rfl rfl))) fun H4 e4 => ⟨⟨_, by rw [hch.next hy, hp]; rfl⟩, f3.trans e4, e4 _ _ g3⟩
    · rintro σ' H' ⟨⟨v3, rfl⟩, p1, p2⟩
      rw [List.take_of_length_le (by simpa using hl7)] at p2
      exact s_ret (v := .ref ll) (ev_var rfl) fun H2 e2 => k ll H2 hll (p1.trans e2) (e2 _ _ p2)
end
end EE
set_option Elab.async false
set_option linter.all false
set_option maxRecDepth 100000
set_option maxHeartbeats 4000000
namespace EE
open PySem L2 Evl
open C8 (Cal Mak cal0 mak0 pe_c pe_mk pe_gc fnScope_by)
section
variable {K : PySem.W.Frag} {σ : L2.St} {B H H' : Hp} {ta tb tc te tv td ty : TE} {t u : TT} {x y z v : V}
def rListK : List V → Hp → VK → Prop := fun xs H Q => ∃ (a : Addr) (kvs : List (Key × V)), xs = [.ref a] ∧ Rd H a (.dK kvs) ∧ ∀ p, H p = none → Q (.ref p) (upd H p (.lst (kvs.map fun kv => kV kv.1)))
theorem cr_listK {X : Cx} (hc : X.calm = true) : CallR X (.type "list") rListK := call_listD hc
theorem el_listK {a : Addr} {kvs : List (Key × V)} (h : Ev te σ H (.ref a)) (ha : Rd H a (.dK kvs)) : EvL (tCB rListK (tCons te tNil)) σ H (kvs.map fun kv => kV kv.1) := fun H1 e Q q =>
  h H1 e _ fun H2 e2 => ⟨a, kvs, rfl, ex_rd (e.trans e2) ha, fun p hp => q p _ (fresh_back e2 hp) (e2.trans (Ex.new hp)) upd_same⟩
def sp_turn0 (K : PySem.W.Frag) : Sp := fun vs H Q _ => ∃ v, vs = [v] ∧ ((∃ t, TyX K H v t ∧ PySem.W.kitOne K t (.type "dict") = some false ∧ ∀ H2, Ex H H2 → Q v H2) ∨
  ∃ m ms, v = .ref m ∧ H m = some (.dK (skv ms)) ∧ (ms.map (·.1)).Nodup ∧ ms.length ≤ 100 ∧ ∀ p H2, H p = none → Ex H H2 → H2 p = some (.dK (skv ms.reverse)) → Q (.ref p) H2)
theorem skv_fresh {ms : List (Str × Str)} {z : Str} (h : z ∉ ms.map (·.1)) : valV (skv ms) (Sum.inr z : Key) = none := by
  unfold valV
  rw [List.find?_eq_none.mpr]
  · rfl
  · intro p hp
    obtain ⟨q, hq, rfl⟩ := List.mem_map.mp hp
    exact fun e => h (List.mem_map.mpr ⟨q, hq, Sum.inr.inj (of_decide_eq_true e)⟩)
theorem skv_at : ∀ {ms : List (Str × Str)} {p : Str × Str}, (ms.map (·.1)).Nodup → p ∈ ms → valV (skv ms) (Sum.inr p.1 : Key) = some (.str p.2)
  | q :: ms, p, hn, hp => by
    rcases List.mem_cons.mp hp with rfl | hp
    · exact valV_pos rfl
    · rw [List.map_cons, List.nodup_cons] at hn
      show valV ((Sum.inr q.1, V.str q.2) :: skv ms) (Sum.inr p.1 : Key) = _
      rw [valV_neg (fun e => hn.1 (by rw [Sum.inr.inj e]; exact List.mem_map.mpr ⟨p, hp, rfl⟩))]
      exact skv_at hn.2 hp
end
section
variable {P : Program} {w : World} {K : PySem.W.Frag} {mg : Str → Option Value} {base : Heap}
theorem sc_turned : FnScope N__law_turned P__law_turned (C8.fnScope s__law_turned) := fnScope_by (by decide +kernel)
theorem ok_turn0 (T : Txt6 w K mg) : Cal P w K mg base 1 "_law_turned" (sp_turn0 K) [] := by
  refine mk_cal T.d_turned sc_turned (fun vs H Q E h => ?_) (fun f cdv A outer s H vs Q E hr h => ?_)
  · obtain ⟨_, rfl, _⟩ := h
    rfl
  · obtain ⟨v, rfl, h⟩ := h
    have nd := sc_turned.nd
    have hu := hu_of hr
    refine ⟨_, pss_cons (ps_if (pt_not (pt_val (pe_callB call_isi (by rfl) T.isi (by decide +kernel) (pa_cons (pv 0) (pa_cons (pe_bltn (v := .ty "dict") (by rfl) T.dictT (u := .type "dict") (by decide +kernel) (by rfl)) pa_nil))))) (pss_one (ps_ret (pv 0))) pss_nil)
      (pss_cons (ps_set (i := 1) nd rfl (Or.inl rfl) pe_dnewK)
      (pss_cons (ps_for PassesOwn.never rfl (pi_reversed (by rfl) T.revT (pa_cons (pe_callTy (cr_listK rfl) (by rfl) T.listT (by decide +kernel) (pa_cons (pv 0) pa_nil)) pa_nil)) (pg_name (i := 2) nd rfl (Or.inl rfl))
        (pss_cons (ps_set (i := 3) nd rfl (Or.inl rfl) (pe_dget hu (pv 0) (pv 2) (fun _ _ => rfl)))
        (pss_cons (ps_if (pt_val (pe_callB call_isi (by rfl) T.isi (by decide +kernel) (pa_cons (pv 3) (pa_cons (pe_bltn (v := .ty "tuple") (by rfl) T.tupT (u := .type "tuple") (by decide +kernel) (by rfl)) pa_nil)))) pss_never pss_nil)
        (pss_one (ps_dput hu (pv 1) (pv 2) (pv 3) (by rfl))))))
      (pss_one (ps_ret (pv 1))))), ?_⟩
    rcases h with ⟨t, ht, hk, k⟩ | ⟨m, ms, rfl, hm, hn, hl, k⟩
    · exact q_when (b := true) (et_not (a := false) (et_B (ev_cb (ea_cons (ev_var rfl) (ea_cons ev_c ea_nil)) (rc_isi (.ty "dict") ht hk)))) (fun _ H1 e1 => s_ret (v := v) (ev_var rfl) fun H2 e2 => k H2 (e1.trans e2)) (fun z => nomatch z)
    · refine q_no (et_notT (et_B (ev_cb (ea_cons (ev_var rfl) (ea_cons ev_c ea_nil)) (rc_isi (.ty "dict") (.base (.dK hm)) (kit_ty (by decide +kernel)))))) fun H1 e1 => ?_
      refine q_asgD ed_new fun tn H2 htn e2 h2 => ?_
      have f2 := e1.trans e2
      have htn0 : H tn = none := fresh_back e1 htn
      refine q_forRevN (el_listK (ev_var rfl) (.inl (f2 _ _ hm))) (fun pl i σ' H' => (∃ v2 v3 v4, σ' = [some (.ref m), some (.ref tn), v2, v3, v4]) ∧ Ex H H' ∧ pl ≠ tn ∧ H' pl = some (.lst ((skv ms).map fun kv => kV kv.1)) ∧ H' tn = some (.dK (skv (ms.reverse.take i))))
        (fun pl H3 hpl e3 h3 => ⟨⟨_, _, _, rfl⟩, f2.trans e3, (fun z => by subst z; rw [h2] at hpl; cases hpl), h3, e3 _ _ h2⟩) (fun pl i σ' H' q => sq_of q.2.2.2.1) ?_ ?_
      · rintro pl i x σ' H' hx ⟨⟨v2, v3, v4, rfl⟩, q1, q2, q3, q4⟩
        obtain ⟨c, hc, rfl⟩ : ∃ c, ms.reverse[i]? = some c ∧ x = .str c.1 := by
          rw [skv_keys, ← List.map_reverse, ← List.map_reverse, List.getElem?_map, List.getElem?_map] at hx
          cases hh : ms.reverse[i]? with
          | none => rw [hh] at hx; cases hx
          | some c => rw [hh] at hx; cases hx; exact ⟨c, rfl, rfl⟩
        have hcm : c ∈ ms := List.mem_reverse.mp (List.mem_of_getElem? hc)
        refine q_asg (v := .str c.2) (ev_dget (k := Sum.inr c.1) (ev_var (v := .ref m) rfl) (ev_var (v := .str c.1) rfl) (.inl (q1 _ _ hm)) (skv_at hn hcm)) fun H4 e4 => ?_
        refine q_no (et_B (ev_cb (ea_cons (ev_var (v := .str c.2) rfl) (ea_cons ev_c ea_nil)) (rc_isi (.ty "tuple") (.base (.str c.2)) (kit_ty (by decide +kernel))))) fun H5 e5 => ?_
        have q4' := e5 _ _ (e4 _ _ q4)
        have hnr : (ms.reverse.map (·.1)).Nodup := by rw [List.map_reverse]; exact (List.reverse_perm _).nodup_iff.mpr hn
        refine ⟨_, rfl, _, rfl, _, rfl, tn, _, rfl, DPut.k (k := Sum.inr c.1) q4' (sz_lt (by unfold skv; rw [List.length_map, List.length_take, List.length_reverse]; omega)), ⟨_, _, _, rfl⟩, ((q1.trans e4).trans e5).mut htn0, q2, by rw [upd_ne q2]; exact e5 _ _ (e4 _ _ q3), ?_⟩
        rw [upd_same, putK_new _ (skv_fresh (take_fresh hnr hc)), List.take_add_one, hc, Option.toList_some]
        unfold skv
        rw [List.map_append]
        rfl
      · rintro pl σ' H' ⟨⟨v2, v3, v4, rfl⟩, q1, q2, q3, q4⟩
        rw [List.length_map, List.take_of_length_le (by unfold skv; rw [List.length_reverse, List.length_map]; exact Nat.le_refl _)] at q4
        exact s_ret (v := .ref tn) (ev_var rfl) fun H3 e3 => k tn H3 htn0 (q1.trans e3) (e3 _ _ q4)
end
end EE
set_option Elab.async false
set_option linter.all false
set_option maxRecDepth 100000
set_option maxHeartbeats 4000000
namespace EE
open PySem L2 Evl
open C8 (Cal Mak cal0 mak0 pe_c pe_mk pe_gc fnScope_by)
def turnC (c : Str × Cl) : Str × Cl := (c.1, { c.2 with ms := c.2.ms.reverse })
def turnCs (cs : List (Str × Cl)) : List (Str × Cl) := cs.reverse.map turnC
def sp_turn1 (K : PySem.W.Frag) : Sp := fun vs H Q _ => ∃ a cs, vs = [.ref a] ∧ RepD K H a cs ∧ (cnames cs).Nodup ∧ MsVals cs ∧ cs.length ≤ 100 ∧ ∀ p H2, H p = none → Ex H H2 → RepD K H2 p (turnCs cs) → Q (.ref p) H2
section
variable {K : PySem.W.Frag} {σ : L2.St} {H : Hp}
theorem tyx_optV {o : Option Str} : ∃ t, TyX K H (optV o) t ∧ PySem.W.kitOne K t (.type "dict") = some false := by
  cases o with
  | none => exact ⟨_, .base .non, kit_ty (by decide +kernel)⟩
  | some z => exact ⟨_, .base (.str z), kit_ty (by decide +kernel)⟩
/-- one part turned: itself, or a new dict -/
theorem r_turn0 {i : Nat} {v : V} {E : XK} {Q : VK} (hv : σ[i]? = some (some v)) (h : (∃ t, TyX K H v t ∧ PySem.W.kitOne K t (.type "dict") = some false ∧ ∀ H2, Ex H H2 → Q v H2) ∨
    ∃ m ms, v = .ref m ∧ H m = some (.dK (skv ms)) ∧ (ms.map (·.1)).Nodup ∧ ms.length ≤ 100 ∧ ∀ p H2, H p = none → Ex H H2 → H2 p = some (.dK (skv ms.reverse)) → Q (.ref p) H2) : tCall (sp_turn0 K) [] E (tCons (tVar i) tNil) σ H Q := ⟨v, hv, v, rfl, h⟩
end
section
variable {P : Program} {w : World} {K : PySem.W.Frag} {mg : Str → Option Value} {base : Heap}
theorem ok_turn1 (T : Txt6 w K mg) : Cal P w K mg base 2 "_law_turned" (sp_turn1 K) [] := by
  refine mk_cal T.d_turned sc_turned (fun vs H Q E h => ?_) (fun f cdv A outer s H vs Q E hr h => ?_)
  · obtain ⟨_, _, rfl, _⟩ := h
    rfl
  · obtain ⟨a, cs, rfl, hrep, hn, hms, hl, k⟩ := h
    have nd := sc_turned.nd
    have hu := hu_of hr
    refine ⟨_, pss_cons (ps_if (pt_not (pt_val (pe_callB call_isi (by rfl) T.isi (by decide +kernel) (pa_cons (pv 0) (pa_cons (pe_bltn (v := .ty "dict") (by rfl) T.dictT (u := .type "dict") (by decide +kernel) (by rfl)) pa_nil))))) (pss_one (ps_ret (pv 0))) pss_nil)
      (pss_cons (ps_set (i := 1) nd rfl (Or.inl rfl) pe_dnewK)
      (pss_cons (ps_for PassesOwn.never rfl (pi_reversed (by rfl) T.revT (pa_cons (pe_callTy (cr_listK rfl) (by rfl) T.listT (by decide +kernel) (pa_cons (pv 0) pa_nil)) pa_nil)) (pg_name (i := 2) nd rfl (Or.inl rfl))
        (pss_cons (ps_set (i := 3) nd rfl (Or.inl rfl) (pe_dget hu (pv 0) (pv 2) (fun _ _ => rfl)))
        (pss_cons (ps_if (pt_val (pe_callB call_isi (by rfl) T.isi (by decide +kernel) (pa_cons (pv 3) (pa_cons (pe_bltn (v := .ty "tuple") (by rfl) T.tupT (u := .type "tuple") (by decide +kernel) (by rfl)) pa_nil))))
          (pss_one (ps_set (i := 3) nd rfl (Or.inl rfl) (pe_callTy call_tuple_of (by rfl) T.tupT (by decide +kernel) (pa_cons (pe_lc (own := [("part", 4)]) (g := gName 4) (tt := tYes) rfl nd (pi_tup (pv 3)) (blkOk_by (N := N__law_turned) (sc := C8.fnScope s__law_turned) (by decide +kernel))
            (fun _ _ _ _ _ => pg_name (i := 4) nd rfl (Or.inl rfl)) (fun _ _ _ _ _ => pts_nil) (fun _ _ _ _ _ => pe_c (ok_turn0 T) hr (by decide) (by rfl) (pa_cons (pv 4) pa_nil))) pa_nil)))) pss_nil)
        (pss_one (ps_dput hu (pv 1) (pv 2) (pv 3) (by rfl))))))
      (pss_one (ps_ret (pv 1))))), ?_⟩
    obtain ⟨kvs, h1, h2⟩ := hrep
    refine q_no (et_notT (et_B (ev_cb (ea_cons (ev_var rfl) (ea_cons ev_c ea_nil)) (rc_isi (.ty "dict") (.base (.dK h1)) (kit_ty (by decide +kernel)))))) fun H1 e1 => ?_
    refine q_asgD ed_new fun tn H2 htn e2 hh2 => ?_
    have f2 := e1.trans e2
    have htn0 : H tn = none := fresh_back e1 htn
    refine q_forRevN (el_listK (ev_var rfl) (.inl (f2 _ _ h1))) (fun pl i σ' H' => (∃ v2 v3 v4, σ' = [some (.ref a), some (.ref tn), v2, v3, v4]) ∧ Ex H H' ∧ pl ≠ tn ∧ H' pl = some (.lst (kvs.map fun kv => kV kv.1)) ∧ ∃ out, H' tn = some (.dK out) ∧ Paired (RepCn K tn H') ((turnCs cs).take i) out)
      (fun pl H3 hpl e3 h3 => ⟨⟨_, _, _, rfl⟩, f2.trans e3, (fun z => by subst z; rw [hh2] at hpl; cases hpl), h3, [], e3 _ _ hh2, .nil⟩) (fun pl i σ' H' q => sq_of q.2.2.2.1) ?_ ?_
    · rintro pl i x σ' H' hx ⟨⟨v2, v3, v4, rfl⟩, q1, q2, q3, out, q4, q5⟩
      obtain ⟨c, hc, rfl⟩ : ∃ c, cs.reverse[i]? = some c ∧ x = .str c.1 := by
        have e : (kvs.map fun kv => kV kv.1) = (cnames cs).map V.str := by
          have := congrArg (List.map kV) (pairC_keys1 h2)
          rw [List.map_map, List.map_map] at this
          exact this
        rw [e, ← List.map_reverse, ← List.map_reverse, List.getElem?_map, List.getElem?_map] at hx
        cases hh : cs.reverse[i]? with
        | none => rw [hh] at hx; cases hx
        | some c => rw [hh] at hx; cases hx; exact ⟨c, rfl, rfl⟩
      have hcm : c ∈ cs := List.mem_reverse.mp (List.mem_of_getElem? hc)
      have htc : (turnCs cs)[i]? = some (turnC c) := by unfold turnCs; rw [List.getElem?_map, hc]; rfl
      obtain ⟨v, hv, hrc⟩ : ∃ v, valV kvs (Sum.inr c.1 : Key) = some v ∧ RepC K H' c (Sum.inr c.1, v) := by
        have h3 := Paired.imp (fun _ _ (r : RepC K H _ _) => r.ex q1) h2
        have gen : ∀ {l : List (Str × Cl)} {k : List (Key × V)}, Paired (RepC K H') l k → (l.map (·.1)).Nodup → c ∈ l → ∃ v, valV k (Sum.inr c.1 : Key) = some v ∧ RepC K H' c (Sum.inr c.1, v) := by
          intro l k hp
          induction hp with
          | nil => exact fun _ h => absurd h List.not_mem_nil
          | @cons d p l' k' r _ ih =>
            intro hnd hm
            rw [List.map_cons, List.nodup_cons] at hnd
            rcases List.mem_cons.mp hm with rfl | hm
            · refine ⟨p.2, valV_pos r.1, ?_⟩
              rw [← r.1]; exact r
            · obtain ⟨v, q1, q2⟩ := ih hnd.2 hm
              refine ⟨v, ?_, q2⟩
              rw [valV_neg (fun e => hnd.1 (by rw [Sum.inr.inj (r.1.symm.trans e)]; exact List.mem_map.mpr ⟨c, hm, rfl⟩))]
              exact q1
        exact gen h3 hn hcm
      obtain ⟨_, t, fa, m, rfl, r1, r2, r3⟩ := hrc
      refine q_asg (v := .ref t) (ev_dget (k := Sum.inr c.1) (ev_var (v := .ref a) rfl) (ev_var (v := .str c.1) rfl) (.inl (q1 _ _ h1)) hv) fun H4 e4 => ?_
      refine q_when (b := true) (et_B (ev_cb (ea_cons (ev_var (v := .ref t) rfl) (ea_cons ev_c ea_nil)) (rc_isi (.ty "tuple") (tyx_sqT (ex_t e4 r1)) (kit_ty (by decide +kernel))))) (fun _ H5 e5 => ?_) (fun z => nomatch z)
      have f5 := e4.trans e5
      have fin : ∀ m' tt H6, Ex H5 H6 → H5 m' = none → H6 m' = some (.dK (skv c.2.ms.reverse)) → SqT K H6 tt [optV c.2.par, .int c.2.lvl, .ref fa, .ref m'] →
          sDPut (tVar 1) (tVar 2) (tVar 3) { nx := fun σ' H' => (∃ v2 v3 v4, σ' = [some (.ref a), some (.ref tn), v2, v3, v4]) ∧ Ex H H' ∧ pl ≠ tn ∧ H' pl = some (.lst (kvs.map fun kv => kV kv.1)) ∧ ∃ out, H' tn = some (.dK out) ∧ Paired (RepCn K tn H') ((turnCs cs).take (i + 1)) out, rt := Q } [some (.ref a), some (.ref tn), some (.str c.1), some (.ref tt), v4] H6 := fun m' tt H6 e6 hm' hd6 ht6 => by
        have p6 := e6 _ _ (f5 _ _ q4)
        have hmt : m' ≠ tn := fun z => by subst z; rw [f5 _ _ q4] at hm'; cases hm'
        have hnr : ((turnCs cs).map (·.1)).Nodup := by
          have e : (turnCs cs).map (·.1) = (cnames cs).reverse := by unfold turnCs; rw [List.map_map, List.map_reverse, cnames]; rfl
          rw [e]
          exact (List.reverse_perm _).nodup_iff.mpr hn
        have hol : out.length ≤ 100 := by
          rw [← Paired.length q5, List.length_take]
          unfold turnCs
          rw [List.length_map, List.length_reverse]
          omega
        have nf0 : valV out (Sum.inr (turnC c).1 : Key) = none := valV_fresh (fun _ _ r => r.1) q5 (take_fresh hnr htc)
        have nf : valV out (Sum.inr c.1 : Key) = none := nf0
        refine ⟨_, rfl, _, rfl, _, rfl, tn, _, rfl, DPut.k (k := Sum.inr c.1) p6 (sz_lt (by omega)), ⟨_, _, _, rfl⟩, ((q1.trans f5).trans e6).mut htn0, q2, by rw [upd_ne q2]; exact e6 _ _ (f5 _ _ q3), _, upd_same, ?_⟩
        rw [putK_new _ nf, List.take_add_one, htc, Option.toList_some]
        exact paired_snoc (Paired.imp (fun _ _ r => (r.ex (f5.trans e6)).put p6) q5) (RepCn.put p6 ⟨rfl, tt, fa, m', rfl, ht6, ex_t (f5.trans e6) r2, hd6, hmt⟩)
      have r1' := ex_t f5 r1
      have hmm := hms c hcm
      refine ⟨_, rfl, t, rfl, ⟨_, r1'⟩, fun Dl hD => lc_it (walk_tup (K := K) (a := t) (xs := [optV c.2.par, .int c.2.lvl, .ref fa, .ref m]))
        (fun j H' => Ex H5 H' ∧ ((j ≤ 3 ∧ H' Dl = some (.lst ([optV c.2.par, .int c.2.lvl, .ref fa, .ref m].take j))) ∨ (j = 4 ∧ ∃ m', H5 m' = none ∧ H' m' = some (.dK (skv c.2.ms.reverse)) ∧ H' Dl = some (.lst [optV c.2.par, .int c.2.lvl, .ref fa, .ref m']))))
        ⟨Ex.new hD, .inl ⟨Nat.zero_le _, upd_same⟩⟩ (fun j H' _ p => ex_t p.1 r1') (fun j x H6 H7 hj p y => ?_) fun H6 p => ?_⟩
      · obtain ⟨rfl, hx⟩ := y
        obtain ⟨p1, p2⟩ := p
        have hj4 : j < 4 := hj
        obtain ⟨hj3, p2⟩ : j ≤ 3 ∧ H7 Dl = some (.lst ([optV c.2.par, .int c.2.lvl, .ref fa, .ref m].take j)) := by
          rcases p2 with p2 | ⟨z, _⟩
          · exact p2
          · omega
        refine ⟨rfl, ?_⟩
        dsimp only [tYes]
        rw [if_pos rfl]
        match j, hx, p2 with
        | 0, hx, p2 =>
          cases hx
          obtain ⟨ty, t1, t2⟩ := tyx_optV (K := K) (H := H7) (o := c.2.par)
          exact r_turn0 rfl (.inl ⟨ty, t1, t2, fun H8 e8 => ⟨_, e8 _ _ p2, (show 0 < sizeLine by decide), (p1.trans e8).mut hD, .inl ⟨by decide, upd_same⟩⟩⟩)
        | 1, hx, p2 =>
          cases hx
          exact r_turn0 rfl (.inl ⟨_, .base (.int _), kit_ty (by decide +kernel), fun H8 e8 => ⟨_, e8 _ _ p2, (show 1 < sizeLine by decide), (p1.trans e8).mut hD, .inl ⟨by decide, upd_same⟩⟩⟩)
        | 2, hx, p2 =>
          cases hx
          exact r_turn0 rfl (.inl ⟨_, tyx_sqT (ex_t (f5.trans p1) r2), kit_ty (by decide +kernel), fun H8 e8 => ⟨_, e8 _ _ p2, (show 2 < sizeLine by decide), (p1.trans e8).mut hD, .inl ⟨by decide, upd_same⟩⟩⟩)
        | 3, hx, p2 =>
          cases hx
          refine r_turn0 rfl (.inr ⟨m, c.2.ms, rfl, p1 _ _ (f5 _ _ r3), hmm.nd, by have := hmm.len; omega, fun p H8 hp e8 h8 => ⟨_, e8 _ _ p2, (show 3 < sizeLine by decide), (p1.trans e8).mut hD, .inr ⟨rfl, p, fresh_back p1 hp, ?_, upd_same⟩⟩⟩)
          rw [upd_ne (fun z => by subst z; rw [p2] at hp; cases hp)]
          exact h8
      · obtain ⟨p1, p2⟩ := p
        rcases p2 with ⟨z, _⟩ | ⟨_, m', g1, g2, g3⟩
        · exact absurd z (by show ¬ 4 ≤ 3; decide)
        · exact ⟨Dl, _, rfl, .inl ⟨sq_of g3, fun l hl => fin m' l _ (p1.trans (Ex.new hl)) g1 (by rw [upd_ne (fun z => by subst z; rw [g2] at hl; cases hl)]; exact g2) (st_of upd_same)⟩⟩
    · rintro pl σ' H' ⟨⟨v2, v3, v4, rfl⟩, q1, q2, q3, out, q4, q5⟩
      have hlen : kvs.length = cs.length := (Paired.length h2).symm
      rw [List.length_map, List.take_of_length_le (by unfold turnCs; rw [List.length_map, List.length_reverse, hlen]; exact Nat.le_refl _)] at q5
      refine s_ret (v := .ref tn) (ev_var rfl) fun H3 e3 => k tn H3 htn0 (q1.trans e3) ⟨out, e3 _ _ q4, Paired.imp (fun _ _ r => ?_) q5⟩
      obtain ⟨h0, t, fa, m, g1, g2, g3, g4, g5⟩ := r.ex e3
      exact ⟨h0, t, fa, m, g1, g2, g3, g4⟩
end
end EE
set_option Elab.async false
set_option linter.all false
set_option maxRecDepth 100000
set_option maxHeartbeats 4000000
namespace EE
open PySem L2 Evl
open C8 (Cal Mak cal0 mak0 pe_c pe_mk pe_gc fnScope_by)
section
variable {P : Program} {w : World} {K : PySem.W.Frag} {mg : Str → Option Value} {base : Heap}
theorem ProgAt.ex {N : Addr → Prop} {CS : Addr} {H H' : Hp} {fsx : List (Str × V)} {cs : List (Str × Cl)} (e : Ex H H') (h : ProgAt N CS H fsx cs) : ProgAt N CS H' fsx cs := by
  obtain ⟨s, dxs, fss, h1, hN, h2, h3⟩ := h
  exact ⟨s, dxs, fss, h1, hN, e _ _ h2, h3.ex e⟩
theorem NotCls.ex {H H' : Hp} {cs : List (Str × Cl)} {v : V} (e : Ex H H') (h : NotCls K H cs v) : NotCls K H' cs v := by
  obtain ⟨b, h1, h2⟩ := h
  exact ⟨b, h1.mono e, h2⟩
/-- what is told of thing by the two errors -/
def RefV (K : PySem.W.Frag) (H : Hp) (cs : List (Str × Cl)) (v : V) (xs : List V) : Prop := (∃ n, v = .str n ∧ OkNm n ∧ n ∈ cnames cs ∧ xs = []) ∨ (NotCls K H cs v ∧ xs = [v, v])
def sp_refused (K : PySem.W.Frag) (CP CS : Addr) : Sp := PuL fun vs H xs => ∃ p v fsx dx cs N, vs = [.ref p, v] ∧ H p = some (.ins CP dx fsx) ∧ ProgAt N CS H fsx cs ∧ RefV K H cs v xs
theorem sc_refused : FnScope N__law_refused P__law_refused (C8.fnScope s__law_refused) := fnScope_by (by decide +kernel)
theorem okA : OkNm "a" := menu_ok _ (by decide)
theorem ok_refused (T : Txt6 w K mg) {CP CS CN : Addr} (MP : MkC K mg "Program" "Program.__init__" s_Program_init P_Program_init F_Program CP) (MS : MkC K mg "Sheet" "Sheet.__init__" s_Sheet_init P_Sheet_init F_Sheet CS) (MN : NnX K mg CN) : Cal P w K mg base 4 "_law_refused" (sp_refused K CP CS) [] := by
  obtain ⟨fF, fdF, psF, FF, gF, kF, bF⟩ := (ok_fields_of (P := P) (base := base) T.toTxt5 MP MS MN).ex
  obtain ⟨fM, fdM, psM, FM, gM, kM, bM⟩ := (ok_method_of (P := P) (base := base) T.toTxt5 MP MS MN).ex
  refine mk_cal T.d_refused sc_refused (fun vs H Q E h => ?_) (fun f cdv A outer s H vs Q E hr h => ?_)
  · obtain ⟨_, ⟨_, _, _, _, _, _, rfl, _⟩, _⟩ := h
    rfl
  · obtain ⟨xs, ⟨p, v, fsx, dx, cs, N, rfl, hp, hpa, hv⟩, k⟩ := h
    have nd := sc_refused.nd
    refine ⟨_, pss_cons (ps_set (i := 2) nd rfl (Or.inl rfl) (pe_lst pa_nil))
      (pss_cons (ps_try_as (i := 3) (tb := fun W => tDrop (tCallS (sp_fields_of K CP CS CN) (WE W) (tCons (tVar 0) (tCons (tVar 1) tNil)))) (ts := fun a cls d => tDrop (tBM K "list" rAppend (tVar 2) (tCons (tXf a cls d CN "name" (tVar 3)) tNil))) (Wout := fun _ _ _ _ => False) rfl rfl nd rfl rfl ⟨rfl, by decide, Or.inl MN.mgc⟩ takes0
          (fun W pn xe tk _ => pss_one (ps_expr (pe_callS FF hr rfl gF kF bF (fun σ => passAt tk σ) (pa_cons (pv 0) (pa_cons (pv 1) pa_nil)))))
          (fun a oe cls d pn hz hf => pss_one (ps_expr (pe_bm PySem.F.plainAttrs_list PySem.F.slot_list_append PySem.F.type_list_append mt_append (pv 2) (pa_cons (pe_xf MN.xf MN.no hz hf (pv 3)) pa_nil)))))
      (pss_cons (ps_try_as (i := 3) (tb := fun W => tDrop (tCallS (sp_method_of K CP CS CN) (WE W) (tCons (tVar 0) (tCons (tVar 1) (tCons (tC (.str "a")) tNil))))) (ts := fun a cls d => tDrop (tBM K "list" rAppend (tVar 2) (tCons (tXf a cls d CN "name" (tVar 3)) tNil))) (Wout := fun _ _ _ _ => False) rfl rfl nd rfl rfl ⟨rfl, by decide, Or.inl MN.mgc⟩ takes0
          (fun W pn xe tk _ => pss_one (ps_expr (pe_callS FM hr rfl gM kM bM (fun σ => passAt tk σ) (pa_cons (pv 0) (pa_cons (pv 1) (pa_cons pe_str pa_nil))))))
          (fun a oe cls d pn hz hf => pss_one (ps_expr (pe_bm PySem.F.plainAttrs_list PySem.F.slot_list_append PySem.F.type_list_append mt_append (pv 2) (pa_cons (pe_xf MN.xf MN.no hz hf (pv 3)) pa_nil)))))
      (pss_one (ps_ret (pv 2))))), ?_⟩
    refine q_asgL (el_lst ea_nil (show 0 ≤ 100000 by decide)) fun l H1 hl e1 h1 => ?_
    have suite : ∀ (D : Ends) (G : Hp) (acc : List V) (a d : Addr), G l = some (.lst acc) → acc.length ≤ 10 → G d = some (.xd [(Str.ofString "name", v)]) → (D.nx [some (.ref p), some v, some (.ref l), some (.ref a)] (upd G l (.lst (acc ++ [v])))) →
        tDrop (tBM K "list" rAppend (tVar 2) (tCons (tXf a (.ref CN) (some d) CN "name" (tVar 3)) tNil)) D [some (.ref p), some v, some (.ref l), some (.ref a)] G := fun D G acc a d h1 h2 h3 h4 =>
      ⟨_, rfl, Or.inl ⟨rfl, acc, sq_of h1⟩, _, rfl, rfl, rfl, d, _, v, rfl, h3, by simp [List.lookup], l, acc, v, rfl, rfl, h1, sz_lt (by omega), h4⟩
    rcases hv with ⟨n, rfl, hn1, hn2, rfl⟩ | ⟨hnc, rfl⟩
    · refine ⟨_, rfl, _, rfl, p, .str n, fsx, dx, cs, N, rfl, e1 _ _ hp, hpa.ex e1, .inl ⟨n, rfl, hn1, hn2, fun H2 a e2 _ => ?_⟩⟩
      refine ⟨_, rfl, _, rfl, p, .str n, "a", fsx, dx, cs, N, rfl, okA, e2 _ _ (e1 _ _ hp), hpa.ex (e1.trans e2), .inl ⟨n, rfl, hn1, hn2, fun H3 e3 => ?_⟩⟩
      exact s_ret (v := .ref l) (ev_var rfl) fun H4 e4 => k l H4 hl (((e1.trans e2).trans e3).trans e4) (e4 _ _ (e3 _ _ (e2 _ _ h1)))
    · refine ⟨_, rfl, _, rfl, p, v, fsx, dx, cs, N, rfl, e1 _ _ hp, hpa.ex e1, .inr ⟨hnc.ex e1, fun d H2 e2 hd h2 => ⟨true, MN.te, fun _ a ha => ?_, fun z => nomatch z⟩⟩⟩
      refine suite _ H2 [] a d (e2 _ _ h1) (by decide) h2 ?_
      have f2 : Ex H (upd H2 l (.lst ([] ++ [v]))) := (e1.trans e2).mut hl
      have g2 : upd H2 l (.lst ([] ++ [v])) l = some (.lst [v]) := upd_same
      generalize upd H2 l (.lst ([] ++ [v])) = G2 at f2 g2
      refine ⟨_, rfl, _, rfl, p, v, "a", fsx, dx, cs, N, rfl, okA, f2 _ _ hp, hpa.ex f2, .inr ⟨hnc.ex f2, fun d H3 e3 hd h3 => ⟨true, MN.te, fun _ a ha => ?_, fun z => nomatch z⟩⟩⟩
      refine suite _ H3 [v] a d (e3 _ _ g2) (show 1 ≤ 10 by decide) h3 ?_
      exact s_ret (v := .ref l) (ev_var rfl) fun H4 e4 => k l H4 hl (((f2.trans e3).mut hl).trans e4) (e4 _ _ upd_same)
end
end EE
set_option Elab.async false
set_option linter.all false
set_option maxRecDepth 100000
set_option maxHeartbeats 4000000
namespace EE
open PySem L2 Evl
def turnCl (c : Cl) : Cl := { c with ms := c.ms.reverse }
theorem look_nd {cs : List (Str × Cl)} (hn : (cnames cs).Nodup) {n : Str} {c : Cl} (h : (n, c) ∈ cs) : look cs n = some c := by
  induction cs with
  | nil => exact absurd h List.not_mem_nil
  | cons d cs ih =>
    rw [cnames, List.map_cons, List.nodup_cons] at hn
    unfold look
    rcases List.mem_cons.mp h with rfl | h
    · rw [List.find?_cons_of_pos (by simp)]; rfl
    · have e : ¬ d.1 = n := fun e => hn.1 (by rw [e]; exact List.mem_map.mpr ⟨_, h, rfl⟩)
      rw [List.find?_cons_of_neg (by simp [e])]
      exact ih hn.2 h
theorem cnames_turn (cs : List (Str × Cl)) : cnames (turnCs cs) = (cnames cs).reverse := by unfold turnCs cnames; rw [List.map_map, List.map_reverse]; rfl
theorem turn_nd {cs : List (Str × Cl)} (hn : (cnames cs).Nodup) : (cnames (turnCs cs)).Nodup := by rw [cnames_turn]; exact (List.reverse_perm _).nodup_iff.mpr hn
theorem look_turn {cs : List (Str × Cl)} (hn : (cnames cs).Nodup) (n : Str) : look (turnCs cs) n = (look cs n).map turnCl := by
  cases h : look cs n with
  | some c => exact look_nd (turn_nd hn) (List.mem_map.mpr ⟨(n, c), List.mem_reverse.mpr (look_in h), rfl⟩)
  | none =>
    cases h2 : look (turnCs cs) n with
    | none => rfl
    | some c =>
      have hm : n ∈ cnames (turnCs cs) := List.mem_map.mpr ⟨(n, c), look_in h2, rfl⟩
      rw [cnames_turn, List.mem_reverse] at hm
      have q := look_some hm
      rw [h] at q
      cases q
theorem parOf_turn {cs : List (Str × Cl)} (hn : (cnames cs).Nodup) (n : Str) : parOf (turnCs cs) n = parOf cs n := by
  unfold parOf
  rw [look_turn hn]
  cases look cs n <;> rfl
theorem ownOf_turn {cs : List (Str × Cl)} (hn : (cnames cs).Nodup) (n : Str) : ownOf (turnCs cs) n = ownOf cs n := by
  unfold ownOf
  rw [look_turn hn]
  cases look cs n <;> rfl
theorem Chain.turn {cs : List (Str × Cl)} (hn : (cnames cs).Nodup) {n : Str} {l : List Str} (h : Chain cs n l) : Chain (turnCs cs) n l := by
  induction h with
  | root h hp => exact .root (by rw [look_turn hn, Option.isSome_map]; exact h) (by rw [parOf_turn hn]; exact hp)
  | step h hp _ hh ih => exact .step (by rw [look_turn hn, Option.isSome_map]; exact h) (by rw [parOf_turn hn]; exact hp) ih hh
theorem fieldsL_turn {cs : List (Str × Cl)} (hn : (cnames cs).Nodup) (l : List Str) : fieldsL (turnCs cs) l = fieldsL cs l := by
  unfold fieldsL
  rw [show ownOf (turnCs cs) = ownOf cs from funext (ownOf_turn hn)]
theorem MsOk.rev {ms : List (Str × Str)} {n : Nat} (h : MsOk ms n) : MsOk ms.reverse n := ⟨by rw [List.length_reverse]; exact h.len, by rw [List.map_reverse]; exact (List.reverse_perm _).nodup_iff.mpr h.nd, fun p hp => h.ok p (List.mem_reverse.mp hp)⟩
theorem MsVals.turn {cs : List (Str × Cl)} (h : MsVals cs) : MsVals (turnCs cs) := fun c hc => by
  obtain ⟨d, hd, rfl⟩ := List.mem_map.mp hc
  exact (h d (List.mem_reverse.mp hd)).rev
theorem Built.turn {cs : List (Str × Cl)} (h : Built cs) : Built (turnCs cs) where
  nm := fun c hc => by
    obtain ⟨d, hd, rfl⟩ := List.mem_map.mp hc
    exact h.nm d (List.mem_reverse.mp hd)
  nd := turn_nd h.nd
  cl := fun c hc => by
    obtain ⟨d, hd, rfl⟩ := List.mem_map.mp hc
    have q := h.cl d (List.mem_reverse.mp hd)
    exact ⟨fun x hx => ⟨(q.par x hx).1, by rw [look_turn h.nd, Option.isSome_map]; exact (q.par x hx).2⟩, q.lvl, q.own, ⟨fun p hp => q.ms.1 p (List.mem_reverse.mp hp), by show d.2.ms.reverse.length ≤ 300; rw [List.length_reverse]; exact q.ms.2⟩⟩
  ch := fun n hn => by
    rw [look_turn h.nd, Option.isSome_map] at hn
    obtain ⟨l, h1, h2, h3⟩ := h.ch n hn
    exact ⟨l, h1.turn h.nd, by rw [fieldsL_turn h.nd]; exact h2, by rw [fieldsL_turn h.nd]; exact h3⟩
/-! the method of the nearest -/
theorem valV_merge : ∀ {ms : List (Str × Str)} {kvs : List (Key × V)} {k : Key}, (ms.map (·.1)).Nodup → valV (mergeK kvs (skv ms)) k = (valV (skv ms) k).orElse fun _ => valV kvs k
  | [], kvs, k, _ => rfl
  | p :: ms, kvs, k, hn => by
    rw [List.map_cons, List.nodup_cons] at hn
    show valV (mergeK (putK kvs (Sum.inr p.1) (.str p.2)) (skv ms)) k = _
    rw [valV_merge hn.2, valV_put]
    show _ = (valV ((Sum.inr p.1, V.str p.2) :: skv ms) k).orElse _
    by_cases e : k = Sum.inr p.1
    · subst e
      rw [valV_pos rfl, skv_fresh hn.1, if_pos rfl]
      rfl
    · rw [valV_neg (fun z => e z.symm), if_neg e]
def msL (cs : List (Str × Cl)) (l : List Str) : List (Key × V) := l.reverse.foldl (fun acc y => mergeK acc (skv (msOf cs y))) []
theorem Chain.ms {cs : List (Str × Cl)} {n : Str} {l : List Str} (h : Chain cs n l) : allMs cs n = msL cs l := by
  unfold allMs msL
  rw [h.family]
theorem msL_cons {cs : List (Str × Cl)} {n : Str} {l : List Str} : msL cs (n :: l) = mergeK (msL cs l) (skv (msOf cs n)) := by
  unfold msL
  rw [List.reverse_cons, List.foldl_append]
  rfl
def hasM (cs : List (Str × Cl)) (m : Str) (y : Str) : Bool := (valV (skv (msOf cs y)) (Sum.inr m : Key)).isSome
theorem msOf_nd {cs : List (Str × Cl)} (h : MsVals cs) (y : Str) : ((msOf cs y).map (·.1)).Nodup := by
  unfold msOf
  cases hh : look cs y with
  | none => exact List.nodup_nil
  | some c => exact (h _ (look_in hh)).nd
theorem valV_msL {cs : List (Str × Cl)} (h : MsVals cs) (m : Str) : ∀ l : List Str, valV (msL cs l) (Sum.inr m : Key) = (l.find? (hasM cs m)).bind fun y => valV (skv (msOf cs y)) (Sum.inr m : Key)
  | [] => rfl
  | y :: l => by
    rw [msL_cons, valV_merge (msOf_nd h y), valV_msL h m l]
    cases hy : valV (skv (msOf cs y)) (Sum.inr m : Key) with
    | none => rw [List.find?_cons_of_neg (by unfold hasM; rw [hy]; simp)]; rfl
    | some v => rw [List.find?_cons_of_pos (by unfold hasM; rw [hy]; rfl)]; exact hy.symm
end EE
set_option Elab.async false
set_option linter.all false
set_option maxRecDepth 100000
set_option maxHeartbeats 4000000
namespace EE
open PySem L2 Evl
theorem eqvAll_self : ∀ zs : List Str, PyData.eqvAll (zs.map PyData.str) (zs.map PyData.str) = true
  | [] => rfl
  | z :: zs => by
    show (PyData.eqv (.str z) (.str z) && PyData.eqvAll (zs.map PyData.str) (zs.map PyData.str)) = true
    rw [eqvAll_self zs, Bool.and_true]
    show (z == z) = true
    exact beq_self_eq_true z
section
variable {K : PySem.W.Frag} {σ : L2.St} {H H' : Hp} {ta tb : TE}
theorem s_asgCat2 {i : Nat} {D : Ends} {t o : Addr} {xs ys : List V} (ha : Ev ta σ H (.ref t)) (ht : SqT K H t xs) (hb : Ev tb σ H (.ref o)) (ho : SqT K H o ys) (hz : xs.length + ys.length ≤ 100000) (k : ∀ tf H2, Ex H H2 → SqT K H2 tf (xs ++ ys) → D.nx (σ.set i (some (.ref tf))) H2) : tAsg (tOp (rCatA K) ta tb) (gName i) D σ H :=
  ha H (Ex.refl H) _ fun H1 e1 => hb H1 e1 _ fun H2 e2 => r_catA (ex_t (e1.trans e2) ht) (ex_t (e1.trans e2) ho) hz fun tf H3 e3 h3 => k tf H3 ((e1.trans e2).trans e3) h3
theorem dpAll_strs : ∀ zs : List Str, DpAll K H (zs.map V.str) (zs.map PyData.str)
  | [] => .nil
  | z :: zs => .cons (.str z) (dpAll_strs zs)
theorem ProgAt.lock {N : Addr → Prop} {CS a : Addr} {fsx : List (Str × V)} {cs : List (Str × Cl)} {kvs : List (Key × V)} {od : Obj} (hN : ∀ x, N x → x ≠ a) (h : ProgAt N CS H fsx cs) : ProgAt N CS (Lk H a kvs od) fsx cs := by
  have dc : ∀ {p : Addr} {U : Str → Option HO} {ks : List Str}, DcAt N H p U ks → DcAt N (Lk H a kvs od) p U ks := fun {p U ks} ⟨q, out, h1, h2⟩ => ⟨q, out, by unfold Lk; rw [upd_ne (hN p q)]; exact h1, Paired.imp (fun _ _ r => ⟨r.1, fun u hu => let ⟨x, x1, x2, x3⟩ := r.2 u hu; ⟨x, x1, x2, by unfold Lk; rw [upd_ne (hN x x2)]; exact x3⟩⟩) h2⟩
  obtain ⟨s, dxs, fss, h1, hs, h2, F, M, h3, h4, h5, h6⟩ := h
  exact ⟨s, dxs, fss, h1, hs, by unfold Lk; rw [upd_ne (hN s hs)]; exact h2, F, M, h3, h4, dc h5, dc h6⟩
end
theorem fieldsL_snoc {cs : List (Str × Cl)} {l : List Str} {y : Str} : fieldsL cs (l ++ [y]) = ownOf cs y ++ fieldsL cs l := by
  unfold fieldsL
  rw [List.reverse_append, List.reverse_singleton, List.singleton_append, List.map_cons, List.flatten_cons]
theorem nm_ascii {z : Str} (h : OkNm z) : Txt.isascii z = true := by
  have q := h.1
  unfold isNm at q
  rw [Bool.and_eq_true, Bool.and_eq_true, Bool.and_eq_true] at q
  exact q.2.1
theorem lay_nm {z : Str} (h : OkNm z) : PyData.canLay0 (.str z) = true := by
  have q : z.cps.all (· < 128) = true := nm_ascii h
  show z.cps.all (· < 0x110000) = true
  rw [Array.all_eq_true] at q ⊢
  exact fun i hi => decide_eq_true (Nat.lt_trans (of_decide_eq_true (q i hi)) (by decide))
theorem layAll_nm : ∀ {zs : List Str}, (∀ z ∈ zs, OkNm z) → PyData.canLayAll0 (zs.map PyData.str) = true ∧ PyData.depthAll (zs.map PyData.str) = 0
  | [], _ => ⟨rfl, rfl⟩
  | z :: zs, h => by
    obtain ⟨h1, h2⟩ := layAll_nm fun y hy => h y (List.mem_cons_of_mem _ hy)
    refine ⟨?_, ?_⟩
    · show (PyData.canLay0 (.str z) && PyData.canLayAll0 (zs.map PyData.str)) = true
      rw [lay_nm (h z (List.mem_cons_self ..)), h1]; rfl
    · show max 0 (PyData.depthAll (zs.map PyData.str)) = 0
      rw [h2]; rfl
theorem shaped_nms {zs : List Str} (h : ∀ z ∈ zs, OkNm z) : SeqAt.shaped (.tuple (zs.map PyData.str)) = true := by
  obtain ⟨h1, h2⟩ := layAll_nm h
  show (PyData.canLayAll0 (zs.map PyData.str) && decide (PyData.depthAll (zs.map PyData.str) + 1 ≤ 64)) = true
  rw [h1, h2]
  rfl
theorem rv_neT {K : PySem.W.Frag} {H : Hp} {a b : Addr} {zs : List Str} (h1 : SqT K H a (zs.map V.str)) (h2 : SqT K H b (zs.map V.str)) (ok : ∀ z ∈ zs, OkNm z) : RV (rNeD K) (.ref a) (.ref b) H (.bl false) := fun H1 e Q q =>
  ⟨.tuple (zs.map PyData.str), .tuple (zs.map PyData.str), .tup (ex_t e h1) (dpAll_strs zs), .tup (ex_t e h2) (dpAll_strs zs), shaped_nms ok, shaped_nms ok, by
    rw [show PyData.eqv (.tuple (zs.map PyData.str)) (.tuple (zs.map PyData.str)) = PyData.eqvAll (zs.map PyData.str) (zs.map PyData.str) from rfl, eqvAll_self]
    exact q H1 (Ex.refl H1)⟩
end EE
namespace EE
open PySem L2 Evl
theorem given_filter (P : Str → Bool) (l : List Str) : given (l.map V.str).length (fun i => P (l.getD i Str.empty)) (fun i => V.str (l.getD i Str.empty)) = (l.filter P).map V.str := by
  have e : (List.range l.length).map (fun i => l.getD i Str.empty) = l := by
    apply List.ext_getElem?
    intro i
    by_cases hi : i < l.length
    · simp [hi, List.getElem?_range hi]
    · simp [hi, List.getElem?_eq_none (Nat.le_of_not_lt hi)]
  unfold given
  rw [List.length_map]
  conv => rhs; rw [← e]
  rw [List.filter_map, List.map_map]
  rfl
theorem skv_str : ∀ {ms : List (Str × Str)} {k : Key} {v : V}, valV (skv ms) k = some v → ∃ z, v = .str z
  | [], _, _, h => by cases h
  | p :: ms, k, v, h => by
    by_cases e : (Sum.inr p.1 : Key) = k
    · rw [show skv (p :: ms) = (Sum.inr p.1, V.str p.2) :: skv ms from rfl, valV_pos e] at h
      cases h
      exact ⟨_, rfl⟩
    · rw [show skv (p :: ms) = (Sum.inr p.1, V.str p.2) :: skv ms from rfl, valV_neg e] at h
      exact skv_str h
end EE
set_option Elab.async false
set_option linter.all false
set_option maxRecDepth 100000
set_option maxHeartbeats 4000000
namespace EE
open PySem L2 Evl
open C8 (Cal Mak cal0 mak0 pe_c pe_mk pe_gc fnScope_by)
section
variable {X : Cx} {k j : Nat} {x : Str} {sp : Sp} {p pos : Pos} {e : Expr} {es : List Expr} {t : TA}
theorem pe_cX (c : CalX X.prog X.w X.K X.mg X.base k x sp) (hr : Room j X.A) (hk : k ≤ j) (hg : Gl X x) (ha : PA X (e :: es) t)
    (hdb : (x == ("__debug__" : Str)) = false := by decide) (he : starEach (e :: es) X.env = (false, eval e X.env) :: starEach es X.env := by rfl) (hpl : (backTo pos (starEach es X.env)).any (·.1) = false := by rfl) :
    PE X (.Call (.Name x p) (e :: es) [] pos) (tCall sp [] L2.E0 t) := by
  obtain ⟨f, fd, ps, F, hm, kp, b⟩ := c.ex
  exact pe_call F (hr.mono hk) hg hm kp b .nil passL ha hdb he hpl
end
section
variable {P : Program} {w : World} {K : PySem.W.Frag} {mg : Str → Option Value} {base : Heap}
def sp_right (K : PySem.W.Frag) (CP CS : Addr) : Sp := PuV fun vs H z => ∃ p a ml fsx dx cs, ∃ ms : List Str, vs = [.ref p, .ref a, .ref ml] ∧ z = .bl true ∧ H p = some (.ins CP dx fsx) ∧ ProgAt (fun x => x ≠ a) CS H fsx cs ∧ RepD K H a cs ∧ Built cs ∧ cs.length ≤ 6 ∧ MsVals cs ∧ SqL K H ml (ms.map V.str) ∧ (∀ m ∈ ms, OkNm m) ∧ ms.length ≤ 1000
theorem sc_right : FnScope N__law_right P__law_right (C8.fnScope s__law_right) := fnScope_by (by decide +kernel)
theorem ok_right (T : Txt6 w K mg) {CP CS CN : Addr} (MP : MkC K mg "Program" "Program.__init__" s_Program_init P_Program_init F_Program CP) (MS : MkC K mg "Sheet" "Sheet.__init__" s_Sheet_init P_Sheet_init F_Sheet CS) (MN : NnX K mg CN) : Cal P w K mg base 4 "_law_right" (sp_right K CP CS) [] := by
  refine mk_cal T.d_right sc_right (fun vs H Q E h => ?_) (fun f cdv A outer s H vs Q E hr h => ?_)
  · obtain ⟨_, ⟨_, _, _, _, _, _, _, rfl, _⟩, _⟩ := h
    rfl
  · obtain ⟨z, ⟨p, a, ml, fsx, dx, cs, ms, rfl, rfl, hp, hpa, hrep, hb, h6, hms, hml, hmo, hmz⟩, k⟩ := h
    have nd := sc_right.nd
    have hu := hu_of hr
    have hu64 : (A.deeper (PyProof.Rows.envOfC "_law_right" (C8.fnScope s__law_right) s.heap.objs.size f cdv)).units + 64 < cLine := by have := hr.un; omega
    refine ⟨_, pss_cons (ps_lock (ps_for PassesOwn.never rfl (pi_keys (pv 1)) (pg_name (i := 3) nd rfl (Or.inl rfl))
        (pss_cons (ps_set (i := 4) nd rfl (Or.inl rfl) (pe_c (ok_line T) hr (by decide) (by rfl) (pa_cons (pv 1) (pa_cons (pv 3) pa_nil))))
        (pss_cons (ps_set (i := 5) nd rfl (Or.inl rfl) (pe_tup pa_nil))
        (Evl.pss_cut (ps_for PassesOwn.never rfl (pi_list (pv 4)) (pg_name (i := 6) nd rfl (Or.inl rfl)) (pss_one (ps_set (i := 5) nd rfl (Or.inl rfl) (pe_op op_catA (pe_ix ix_tup (pe_dget hu (pv 1) (pv 6) (fun _ _ => rfl)) pe_int (fun _ _ => rfl)) (pv 5)))))
        (pss_cons (ps_set (i := 7) nd rfl (Or.inl rfl) (pe_cX (ok_fields_of T.toTxt5 MP MS MN) hr (by decide) (by rfl) (pa_cons (pv 0) (pa_cons (pv 3) pa_nil))))
        (pss_cons (ps_if (PW.pt (pw_or (pt_not (pt_val (pe_callB call_isi (by rfl) T.isi (by decide +kernel) (pa_cons (pv 7) (pa_cons (pe_bltn (v := .ty "tuple") (by rfl) T.tupT (u := .type "tuple") (by decide +kernel) (by rfl)) pa_nil))))) (pw_or1 (pt_cmpR (op_neD hu64) (pv 7) (pv 5) (nomark _))))) (pss_one ps_never) pss_nil)
        (pss_one (ps_for PassesOwn.never rfl (pi_list (pv 2)) (pg_name (i := 8) nd rfl (Or.inr rfl))
          (pss_cons (ps_setLc (i := 9) (own := [("above", 6)]) (g := gName 6) rfl nd rfl rfl (by rfl) (pi_list (pv 4)) (blkOk_by (N := N__law_right) (sc := C8.fnScope s__law_right) (by decide +kernel))
              (fun _ _ _ _ _ => pg_name (i := 6) nd rfl (Or.inl rfl)) (fun _ _ _ _ _ => pts_one (pt_cmp (pc_din hu (pv 8) (pe_ix (show IxR _ (rIxT K) from ix_tup) (pe_dget hu (pv 1) (pv 6) (fun _ _ => rfl)) pe_int (fun _ _ => rfl))))) (fun _ _ _ _ _ => pv 6))
          (pss_cons (ps_set (i := 7) nd rfl (Or.inl rfl) (pe_cX (ok_method_of T.toTxt5 MP MS MN) hr (by decide) (by rfl) (pa_cons (pv 0) (pa_cons (pv 3) (pa_cons (pv 8) pa_nil)))))
          (pss_cons (ps_if (PW.pt (pw_and (pt_cmpR op_eq (pe_callB call_len_seq (by rfl) T.len (by decide +kernel) (pa_cons (pv 9) pa_nil)) pe_int (nomark _)) (pw_and1 (pt_cmpR op_notN (pv 7) pe_non (nomark _))))) (pss_one ps_never) pss_nil)
          (pss_one (ps_if (PW.pt (pw_and (pt_cmpR op_gt (pe_callB call_len_seq (by rfl) T.len (by decide +kernel) (pa_cons (pv 9) pa_nil)) pe_int (nomark _)) (pw_and1 (PW.pt (pw_or (pt_not (pt_val (pe_callB call_isi (by rfl) T.isi (by decide +kernel) (pa_cons (pv 7) (pa_cons (pe_bltn (v := .ty "str") (by rfl) T.strT (u := .type "str") (by decide +kernel) (by rfl)) pa_nil)))))
            (pw_or1 (pt_cmpR op_ne (pv 7) (pe_dget hu (pe_ix ix_tup (pe_dget hu (pv 1) (pe_ix ix_list (pv 9) pe_int (fun _ _ => rfl)) (fun _ _ => rfl)) pe_int (fun _ _ => rfl)) (pv 8) (fun _ _ => rfl)) (nomark _)))))))) (pss_one ps_never) pss_nil))))))))))))))
      (pss_one (ps_ret pe_bl)), ?_⟩
    obtain ⟨kvs, hk1, hk2⟩ := hrep
    have hpa' : p ≠ a := fun z => by subst z; rw [hk1] at hp; cases hp
    refine q_forLock hk1 (fun od => ei_keys (ev_var rfl) upd_same) (fun _ σ' => ∃ v3 v4 v5 v6 v7 v8 v9, σ' = [some (.ref p), some (.ref a), some (.ref ml), v3, v4, v5, v6, v7, v8, v9]) ⟨_, _, _, _, _, _, _, rfl⟩ ?_ ?_
    · rintro od i x σ' H1 e1 hx ⟨v3, v4, v5, v6, v7, v8, v9, rfl⟩ D hD
      obtain ⟨n, hn, rfl⟩ : ∃ n, n ∈ cnames cs ∧ x = .str n := by
        have e : (kvs.map fun kv => kV kv.1) = (cnames cs).map V.str := by
          have := congrArg (List.map kV) (pairC_keys1 hk2)
          rw [List.map_map, List.map_map] at this
          exact this
        rw [e] at hx
        obtain ⟨n, hn, rfl⟩ := List.mem_map.mp (List.mem_of_getElem? hx)
        exact ⟨n, hn, rfl⟩
      have hls := mem_look hn
      obtain ⟨l, hch, hfn, hf4⟩ := hb.ch n hls
      have hl6 : l.length ≤ 6 := Nat.le_trans hch.len h6
      have hnok : OkNm n := by
        obtain ⟨d, hd, e⟩ := List.mem_map.mp hn
        rw [← e]; exact (hb.nm d hd).1
      have pL : H1 p = some (.ins CP dx fsx) := e1 _ _ (by unfold Lk; rw [upd_ne hpa']; exact hp)
      have paL : ProgAt (fun x => x ≠ a) CS H1 fsx cs := (hpa.lock (fun _ h => h)).ex e1
      have rL : RepCs K H1 a cs := RepCs.ex e1 ⟨kvs, .inr ⟨od, upd_same⟩, repCs_lock hk1 hk2⟩
      have mL : SqL K H1 ml (ms.map V.str) := ex_l e1 ((Le.lock hk1).l hml)
      have fokL : ∀ z ∈ fieldsL cs l, OkNm z := by
        rw [← hch.fields]
        exact allFields_ok (hb.right h6).owns
      refine q_asgL (el_call (ea_cons (ev_var (v := .ref a) rfl) (ea_cons (ev_var (v := .str n) rfl) ea_nil)) (l_line rL hch (by omega))) fun ll H2 hll e2 h2 => ?_
      refine q_asgU (eu_tup ea_nil (show 0 ≤ 100000 by decide)) fun d0 H3 _ e3 h3 => ?_
      refine q_cut (M := fun σ'' H'' => ∃ w6 td, σ'' = [some (.ref p), some (.ref a), some (.ref ml), some (.str n), some (.ref ll), some (.ref td), w6, v7, v8, v9] ∧ SqT K H'' td ((fieldsL cs l).map V.str) ∧ Ex H3 H'') ?_ ?_
      · refine s_forL (ev_var (v := .ref ll) rfl) (sq_of (e3 _ _ h2)) (fun j σ'' H'' => ∃ w6 td, σ'' = [some (.ref p), some (.ref a), some (.ref ml), some (.str n), some (.ref ll), some (.ref td), w6, v7, v8, v9] ∧ SqT K H'' td ((fieldsL cs (l.take j)).map V.str) ∧ Ex H3 H'')
          (fun H4 e4 => ⟨_, d0, rfl, st_of (e4 _ _ h3), e4⟩) (fun j σ'' H'' _ q => by obtain ⟨_, _, _, _, q⟩ := q; exact sq_of (q _ _ (e3 _ _ h2))) ?_ ?_
        · rintro j y σ'' H'' hy ⟨w6, td, rfl, q1, q2⟩
          obtain ⟨m, hm, rfl⟩ : ∃ m, l[j]? = some m ∧ y = .str m := by
            rw [List.getElem?_map] at hy
            cases hh : l[j]? with
            | none => rw [hh] at hy; cases hy
            | some m => rw [hh] at hy; cases hy; exact ⟨m, rfl, rfl⟩
          obtain ⟨c, hc⟩ := Option.isSome_iff_exists.mp (hch.mem m (List.mem_of_getElem? hm))
          obtain ⟨kv2, v, g1, g2, g3⟩ := repC_at (RepCs.ex ((e2.trans e3).trans q2) rL) hc
          obtain ⟨_, t, fa, mm, rfl, g4, g5, _⟩ := g3
          have hown : ownOf cs m = c.own := by unfold ownOf; rw [hc]; rfl
          have h3o : c.own.length ≤ 3 := (hb.cl _ (look_in hc)).own.2.2
          have hfl : (fieldsL cs (l.take j)).length ≤ 300 * 6 := by
            have := flat_len (hb.right h6).small (l.take j).reverse
            unfold fieldsL
            refine Nat.le_trans this ?_
            rw [List.length_reverse, List.length_take]
            omega
          refine s_asgCat2 (xs := c.own.map V.str) (ys := (fieldsL cs (l.take j)).map V.str) (ev_op (ev_dget (k := Sum.inr m) (ev_var (v := .ref a) rfl) (ev_var (v := .str m) rfl) g1 g2) ev_c (rv_ixT g4 (at_of (j := 2) rfl rfl))) g5 (ev_var (v := .ref td) rfl) q1 (by rw [List.length_map, List.length_map]; omega) fun tf H4 e4 h4 => ⟨_, tf, rfl, ?_, q2.trans e4⟩
          rw [List.take_add_one, hm, Option.toList_some, fieldsL_snoc, hown, List.map_append]
          exact h4
        · rintro σ'' H'' ⟨w6, td, rfl, q1, q2⟩
          rw [List.length_map, List.take_length] at q1
          exact ⟨w6, td, rfl, q1, q2⟩
      · rintro σ'' H4 ⟨w6, td, rfl, htd, e4⟩
        have f4 := (e2.trans e3).trans e4
        refine ⟨_, rfl, _, rfl, p, .str n, fsx, dx, cs, _, rfl, f4 _ _ pL, paL.ex f4, .inl ⟨n, rfl, hnok, hn, fun H5 ta e5 h5 => ?_⟩⟩
        rw [hch.fields] at h5
        refine q_no (et_orF (et_notT (et_B (ev_cb (ea_cons (ev_var (v := .ref ta) rfl) (ea_cons ev_c ea_nil)) (rc_isi (.ty "tuple") (tyx_sqT (st_of h5)) (kit_ty (by decide +kernel)))))) (et_test (ev_op (ev_var (v := .ref ta) rfl) (ev_var (v := .ref td) rfl) (rv_neT (st_of h5) (ex_t e5 htd) fokL)))) fun H6 e6 => ?_
        have f6 := (f4.trans e5).trans e6
        have l6 : H6 ll = some (.lst (l.map V.str)) := e6 _ _ (e5 _ _ (e4 _ _ (e3 _ _ h2)))
        refine s_forL (ev_var (v := .ref ml) rfl) (ex_l f6 mL) (fun _ σ'' H'' => (∃ w6 w7 w8 w9, σ'' = [some (.ref p), some (.ref a), some (.ref ml), some (.str n), some (.ref ll), some (.ref td), w6, w7, w8, w9]) ∧ Ex H6 H'') (fun H7 e7 => ⟨⟨_, _, _, _, rfl⟩, e7⟩) (fun j σ'' H'' _ q => ex_l (f6.trans q.2) mL) ?_ ?_
        · rintro j y σ'' H7 hy ⟨⟨w6, w7, w8, w9, rfl⟩, e7⟩
          obtain ⟨m, hm, rfl⟩ := List.mem_map.mp (List.mem_of_getElem? hy)
          have hmok := hmo m hm
          have f7 := f6.trans e7
          have l7 := e7 _ _ l6
          have cls : ∀ {z : Str} {G : Hp}, z ∈ l → Ex H7 G → ∃ c kv2 t fa mm, look cs z = some c ∧ Rd G a (.dK kv2) ∧ valV kv2 (Sum.inr z : Key) = some (.ref t) ∧ SqT K G t [optV c.par, .int c.lvl, .ref fa, .ref mm] ∧ G mm = some (.dK (skv (msOf cs z))) := fun {z G} hz eG => by
            obtain ⟨c, hc⟩ := Option.isSome_iff_exists.mp (hch.mem z hz)
            obtain ⟨kv2, v, g1, g2, g3⟩ := repC_at (RepCs.ex (f7.trans eG) rL) hc
            obtain ⟨_, t, fa, mm, rfl, g4, _, g5⟩ := g3
            exact ⟨c, kv2, t, fa, mm, hc, g1, g2, g4, by rw [show msOf cs z = c.ms by unfold msOf; rw [hc]; rfl]; exact g5⟩
          have geti : ∀ {i : Nat} {x : V}, (l.map V.str)[i]? = some x → ∃ z, z ∈ l ∧ x = .str z ∧ l.getD i Str.empty = z := fun {i x} h => by
            rw [List.getElem?_map] at h
            cases hh : l[i]? with
            | none => rw [hh] at h; cases h
            | some z => rw [hh] at h; cases h; exact ⟨z, List.mem_of_getElem? hh, rfl, by rw [List.getD_eq_getElem?_getD, hh]; rfl⟩
          refine q_asgL (el_lcW (fun i => hasM cs m (l.getD i Str.empty)) (fun i => .str (l.getD i Str.empty)) (ei_list (ev_var (v := .ref ll) rfl) (sq_of l7)) (by rw [List.length_map]; omega) (fun _ => rfl) (fun i x H8 e8 hx => ?_) (fun i x H8 e8 hx _ => ?_)) fun hv H8 hhv e8 h8 => ?_
          · obtain ⟨z, hz, rfl, hd⟩ := geti hx
            rw [hd]
            obtain ⟨c, kv2, t, fa, mm, _, g1, g2, g4, g5⟩ := cls hz e8
            exact et_B (et_din (k := Sum.inr m) (ev_var (v := .str m) rfl) (ev_op (ev_dget (k := Sum.inr z) (ev_var (v := .ref a) rfl) (ev_var (v := .str z) rfl) g1 g2) ev_c (rv_ixT g4 (at_of (j := 3) rfl rfl))) (.inl g5))
          · obtain ⟨z, hz, rfl, hd⟩ := geti hx
            rw [hd]
            exact ev_var rfl
          · rw [given_filter (hasM cs m) l] at h8
            refine ⟨_, rfl, _, rfl, _, rfl, p, .str n, m, fsx, dx, cs, _, rfl, hmok, e8 _ _ (f7 _ _ pL), paL.ex (f7.trans e8), .inl ⟨n, rfl, hnok, hn, fun H9 e9 => ?_⟩⟩
            have h9 := e9 _ _ h8
            have hmv : methV cs n m = ((l.find? (hasM cs m)).bind fun y => valV (skv (msOf cs y)) (Sum.inr m : Key)).getD .non := by unfold methV; rw [hch.ms, valV_msL hms]
            rw [hmv, ← List.head?_filter]
            cases hfl : l.filter (hasM cs m) with
            | nil =>
              rw [hfl] at h9
              refine q_no (et_andF2 (b := true) (et_test (ev_is (ev_op (ev_cb (ea_cons (ev_var (v := .ref hv) rfl) ea_nil) (rc_lenS (xs := []) (.inl (sq_of h9)))) (ev_c (v := .int 0)) (rv_eq rfl)) rfl)) fun _ => et_test (ev_is (ev_op (ev_var (v := .non) rfl) ev_c rv_notN) rfl)) fun H10 e10 => ?_
              exact s_when (b := false) (et_is (et_and (a := false) (b := false) (et_test (ev_is (ev_op (ev_cb (ea_cons (ev_var (v := .ref hv) rfl) ea_nil) (rc_lenS (xs := []) (.inl (sq_of (e10 _ _ h9))))) (ev_c (v := .int 0)) rv_I0) rfl)) (fun z => nomatch z)) rfl) (fun z => nomatch z) fun _ H11 e11 => ⟨⟨_, _, _, _, rfl⟩, (((e7.trans e8).trans e9).trans e10).trans e11⟩
            | cons y0 r =>
              rw [hfl] at h9
              have hy0 : y0 ∈ l.filter (hasM cs m) := by rw [hfl]; exact List.mem_cons_self ..
              have hy0l := (List.mem_filter.mp hy0).1
              have hy0h : hasM cs m y0 = true := (List.mem_filter.mp hy0).2
              obtain ⟨v0, hv0⟩ := Option.isSome_iff_exists.mp (show (valV (skv (msOf cs y0)) (Sum.inr m : Key)).isSome = true from hy0h)
              obtain ⟨s0, rfl⟩ := skv_str hv0
              have e0 : (((y0 :: r).head?).bind fun y => valV (skv (msOf cs y)) (Sum.inr m : Key)).getD .non = .str s0 := by
                show (valV (skv (msOf cs y0)) (Sum.inr m : Key)).getD .non = .str s0
                rw [hv0]; rfl
              rw [e0]
              refine q_no (et_is (et_and (a := false) (b := false) (et_test (ev_is (ev_op (ev_cb (ea_cons (ev_var (v := .ref hv) rfl) ea_nil) (rc_lenS (.inl (sq_of h9)))) (ev_c (v := .int 0)) (rv_eq rfl)) (by congr 1))) (fun z => nomatch z)) rfl) fun H10 e10 => ?_
              have h10 := e10 _ _ h9
              obtain ⟨c, kv2, t, fa, mm, _, g1, g2, g4, g5⟩ := cls hy0l ((e8.trans e9).trans e10)
              exact s_when (b := false) (et_andF2 (b := true) (et_test (ev_is (ev_op (ev_cb (ea_cons (ev_var (v := .ref hv) rfl) ea_nil) (rc_lenS (.inl (sq_of h10)))) (ev_c (v := .int 0)) rv_I0) (by congr 1; simp))) fun _ =>
                et_orF (et_notT (et_B (ev_cb (ea_cons (ev_var (v := .str s0) rfl) (ea_cons ev_c ea_nil)) (rc_isi (.ty "str") (.base (.str s0)) (kit_ty (by decide +kernel))))))
                  (et_test (ev_is (ev_op (ev_var (v := .str s0) rfl) (ev_dget (k := Sum.inr m) (ev_op (ev_dget (k := Sum.inr y0) (ev_var (v := .ref a) rfl) (ev_op (ev_var (v := .ref hv) rfl) ev_c (rv_ixL (v := .str y0) (sq_of h10) (at_of (j := 0) rfl rfl))) g1 g2) ev_c (rv_ixT g4 (at_of (j := 3) rfl rfl))) (ev_var (v := .str m) rfl) (.inl g5) hv0) (rv_ne rfl)) (by simp)))) (fun z => nomatch z) fun _ H11 e11 => ⟨⟨_, _, _, _, rfl⟩, (((e7.trans e8).trans e9).trans e10).trans e11⟩
        · rintro σ'' H'' ⟨⟨w6, w7, w8, w9, rfl⟩, e7⟩
          exact hD _ _ ⟨_, _, _, _, _, _, _, rfl⟩ (f6.trans e7)
    · rintro σ' H1 ⟨v3, v4, v5, v6, v7, v8, v9, rfl⟩ e1
      exact s_ret (v := .bl true) ev_c fun H2 e2 => k H2 (e1.trans e2)
end
end EE
set_option Elab.async false
set_option linter.all false
set_option maxRecDepth 100000
set_option maxHeartbeats 4000000
namespace EE
open PySem L2 Evl
/-- != of two lists with the same items -/
def rNeSame (K : PySem.W.Frag) : R2 := fun x y H Q => ∃ a b xs, x = .ref a ∧ y = .ref b ∧ SqL K H a xs ∧ SqL K H b xs ∧ (∀ v ∈ xs, flatB v = true ∨ ∃ r, v = .ref r) ∧ Q (.bl false) H
theorem op_neSame {X : Cx} (hu : X.A.units + 64 < cLine) : OpR X (compareOp .NotEq) (rNeSame X.K) := by
  intro pins s σ H x y v u Q I rx ry h
  obtain ⟨a, b, xs, rfl, rfl, ha, hb, hf, q⟩ := h
  cases (show v = Value.ref a from rx)
  cases (show u = Value.ref b from ry)
  obtain ⟨us, r1, p1, _⟩ := I.list ha
  obtain ⟨ws, r2, p2, _⟩ := I.list hb
  have hsz : us.toArray.size = ws.toArray.size := by rw [List.size_toArray, List.size_toArray, ← r1.length, ← r2.length]
  have he : ∀ j (h1 : j < us.toArray.size) (h2 : j < ws.toArray.size), SeqAt.EqAt X.A.in1 s us.toArray[j] ws.toArray[j] true := fun j h1 h2 => by
    have g1 : us[j]? = some us.toArray[j] := by simp
    have g2 : ws[j]? = some ws.toArray[j] := by simp
    obtain ⟨x1, k1, k2⟩ := vals_at r1 g1
    obtain ⟨x2, k3, k4⟩ := vals_at r2 g2
    rw [k1] at k3
    cases k3
    rcases hf x1 (List.mem_of_getElem? k1) with f | ⟨r, rfl⟩
    · exact eqAt_same k2 k4 f
    · rw [show us.toArray[j] = Value.ref r from k2, show ws.toArray[j] = Value.ref r from k4]
      exact SeqAt.EqAt.same _
  have z := SeqAt.RcNeAt.lists (e := fun _ => true) p1.isList p2.isList hsz (by omega) he
  refine z X.prog X.w _ _ ?_
  rw [show ((List.range us.toArray.size).all fun _ => true) = true from List.all_eq_true.mpr fun _ _ => rfl]
  exact ⟨.bl false, H, I, rfl, q⟩
end EE
set_option Elab.async false
set_option linter.all false
set_option maxRecDepth 100000
set_option maxHeartbeats 4000000
namespace EE
open PySem L2 Evl
section
variable {K : PySem.W.Frag} {σ : L2.St} {B H H' : Hp}
theorem RepFD.hid {p g a : Addr} {fs : List (Str × Fn)} (hp : PotAt B H p g) (h : RepFD K H a fs) : RepFD K (hid p g H) a fs := by
  obtain ⟨kvs, h1, h2⟩ := h
  exact ⟨kvs, dK_hid hp h1, Paired.imp (fun c p r => r.leT fun _ _ => sqT_hid hp) h2⟩
def fnsL : List (Str × Fn) := [("f", ⟨["a"], 1, .nil⟩), ("g", ⟨["a", "b"], 2, .nil⟩), ("h", ⟨["x"], 2, .ret "x"⟩)]
theorem ok1 {z : Str} (h : (isNm z && decide (z.length ≤ 100000)) = true) : OkNm z := by
  rw [Bool.and_eq_true, decide_eq_true_eq] at h
  exact ⟨h.1, sz_of h.2⟩
theorem fnsL_right : RightFs fnsL where
  len := by decide
  nm := fun c hc => by
    have e : (fnsL.all fun c => isNm c.1 && decide (c.1.length ≤ 100000)) = true := by decide +kernel
    exact ok1 (List.all_eq_true.mp e c hc)
  fn := fun c hc => by
    have e : (fnsL.all fun c => c.2.ps.all fun z => isNm z && decide (z.length ≤ 100000)) = true := by decide +kernel
    have q := List.all_eq_true.mp e c hc
    have h3 : c = (Str.ofString "f", Fn.mk ["a"] 1 .nil) ∨ c = (Str.ofString "g", Fn.mk ["a", "b"] 2 .nil) ∨ c = (Str.ofString "h", Fn.mk ["x"] 2 (.ret "x")) := by simpa [fnsL] using hc
    have okx : OkNm "x" := ok1 (by decide +kernel)
    rcases h3 with rfl | rfl | rfl
    · exact ⟨by decide, ⟨fun z hz => ok1 (List.all_eq_true.mp q z hz), by decide, by decide⟩, fun x h => by cases h⟩
    · exact ⟨by decide, ⟨fun z hz => ok1 (List.all_eq_true.mp q z hz), by decide, by decide⟩, fun x h => by cases h⟩
    · exact ⟨by decide, ⟨fun z hz => ok1 (List.all_eq_true.mp q z hz), by decide, by decide⟩, fun x h => by cases h; exact okx⟩
  nd := by decide
theorem meth_ok {cs : List (Str × Cl)} (h : MsVals cs) : MethOk cs fnsL := fun c hc p hp => by
  have q := ((h c hc).ok p hp).2
  have h3 : p.2 = "f" ∨ p.2 = "g" ∨ p.2 = "h" := by simpa using q
  rcases h3 with e | e | e <;> rw [e]
  · exact ⟨_, rfl, by decide⟩
  · exact ⟨_, rfl, by decide⟩
  · exact ⟨_, rfl, by decide⟩
/-- the functions of the law -/
theorem r_funcs {Q : VK} (k : ∀ b H2, H b = none → Ex H H2 → RepFD K H2 b fnsL → Q (.ref b) H2) :
    tDisp [(tC (.str "f"), tTup (tCons (tTup (tCons (tC (.str "a")) tNil)) (tCons (tC (.int 1)) (tCons (tTup tNil) tNil)))),
      (tC (.str "g"), tTup (tCons (tTup (tCons (tC (.str "a")) (tCons (tC (.str "b")) tNil))) (tCons (tC (.int 2)) (tCons (tTup tNil) tNil)))),
      (tC (.str "h"), tTup (tCons (tTup (tCons (tC (.str "x")) tNil)) (tCons (tC (.int 2)) (tCons (tTup (tCons (tTup (tCons (tC (.str "return")) (tCons (tC (.str "x")) tNil))) tNil)) tNil))))] σ H Q := fun b hb =>
  ⟨by decide, fun a1 h1 => ⟨by decide, fun a2 h2 => ⟨show 3 ≤ sizeLine by decide, fun a3 h3 =>
  ⟨by decide, fun b1 h4 => ⟨by decide, fun b2 h5 => ⟨show 3 ≤ sizeLine by decide, fun b3 h6 =>
  ⟨by decide, fun c1 h7 => ⟨by decide, fun c2 h8 => ⟨show 1 ≤ sizeLine by decide, fun c3 h9 => ⟨show 3 ≤ sizeLine by decide, fun c4 h10 => by
    have x1 := Ex.new (o := .tup [.str "a"]) h1
    have x2 := Ex.new (o := .tup []) h2
    have x3 := Ex.new (o := .tup [.ref a1, .int 1, .ref a2]) h3
    have x4 := Ex.new (o := .tup [.str "a", .str "b"]) h4
    have x5 := Ex.new (o := .tup []) h5
    have x6 := Ex.new (o := .tup [.ref b1, .int 2, .ref b2]) h6
    have x7 := Ex.new (o := .tup [.str "x"]) h7
    have x8 := Ex.new (o := .tup [.str "return", .str "x"]) h8
    have x9 := Ex.new (o := .tup [.ref c2]) h9
    have x10 := Ex.new (o := .tup [.ref c1, .int 2, .ref c3]) h10
    have y10 := x10
    have y9 := x9.trans y10
    have y8 := x8.trans y9
    have y7 := x7.trans y8
    have y6 := x6.trans y7
    have y5 := x5.trans y6
    have y4 := x4.trans y5
    have y3 := x3.trans y4
    have y2 := x2.trans y3
    have y1 := x1.trans y2
    have hbb := y1 b _ upd_same
    refine ⟨hbb, [(Sum.inr "f", .ref a3), (Sum.inr "g", .ref b3), (Sum.inr "h", .ref c4)], rfl, (show 3 ≤ 15 by decide), k b _ hb (((Ex.new hb).trans y1).mut hb) ⟨_, upd_same, ?_⟩⟩
    have tr : ∀ {x : Addr} {xs : List V}, SqT K _ x xs → SqT K (upd _ b (.dK (mergeK [] [(Sum.inr "f", .ref a3), (Sum.inr "g", .ref b3), (Sum.inr "h", .ref c4)]))) x xs := fun h => sqT_put hbb h
    refine .cons ⟨rfl, a3, a1, a2, rfl, tr (ex_t y4 (st_of upd_same)), tr (ex_t y2 (st_of upd_same)), tr (ex_t y3 (st_of upd_same))⟩ (.cons ⟨rfl, b3, b1, b2, rfl, tr (ex_t y7 (st_of upd_same)), tr (ex_t y5 (st_of upd_same)), tr (ex_t y6 (st_of upd_same))⟩ (.cons ⟨rfl, c4, c1, c3, rfl, tr (st_of upd_same), tr (ex_t y8 (st_of upd_same)), c2, tr (ex_t y10 (st_of upd_same)), tr (ex_t y9 (st_of upd_same))⟩ .nil))⟩⟩⟩⟩⟩⟩⟩⟩⟩⟩
end
end EE
set_option Elab.async false
set_option linter.all false
set_option maxRecDepth 100000
set_option maxHeartbeats 4000000
namespace EE
open PySem L2 Evl
section
variable {K : PySem.W.Frag} {σ : L2.St} {H : Hp}
theorem skv_keys1 (l : List (Str × Str)) : (skv l).map (·.1) = (l.map (·.1)).map Sum.inr := by unfold skv; rw [List.map_map, List.map_map]; rfl
theorem q_extNames {i : Nat} {d ml : Addr} {cs : List (Str × Cl)} {xs0 : List Str} {H0 : Hp} {D : Ends} {tz : TS} {td : TE} (S : L2.St → Prop) (hS0 : S σ) (hS : ∀ σ' x, S σ' → S (σ'.set 7 (some x))) (hSi : ∀ σ', S σ' → σ'[i]? = some (some (.ref d)))
    (htd : ∀ (σ' : L2.St) (G : Hp) (n : Str) (kvs : List (Key × V)) (v : V), S σ' → Rd G d (.dK kvs) → valV kvs (Sum.inr n : Key) = some v → Ev td (σ'.set 7 (some (.str n))) G v) (hS6 : ∀ σ', S σ' → σ'[6]? = some (some (.ref ml)))
    (hrep : RepD K H0 d cs) (e0 : Ex H0 H) (h0 : H0 ml = none) (hml : H ml = some (.lst (xs0.map V.str))) (hx0 : ∀ x ∈ xs0, OkNm x) (hz : xs0.length ≤ 100) (hnd : (cnames cs).Nodup) (hms : MsVals cs) (hmk : ∀ c ∈ cs, ∀ p ∈ c.2.ms, OkNm p.1) (h6 : cs.length ≤ 6)
    (k : ∀ (σ' : L2.St) (xs : List Str) (H' : Hp), S σ' → Ex H0 H' → H' ml = some (.lst (xs.map V.str)) → (∀ x ∈ xs, OkNm x) → xs.length ≤ xs0.length + 2 * 6 → tz D σ' H') :
    tSeq (tLock (tFor (iKeys (tVar i)) (gName 7) (tDrop (tBM K "list" rExtend (tVar 6) (tCons (tCB rSortD (tCons (tOp (rIxT K) td (tC (.int 3))) tNil)) tNil))))) tz D σ H := by
  obtain ⟨kvs, h1, h2⟩ := hrep
  have hd := e0 _ _ h1
  have hmd : ml ≠ d := fun z => by subst z; rw [h1] at h0; cases h0
  have hlen : kvs.length = cs.length := (Paired.length h2).symm
  refine ⟨d, .dK kvs, hd, trivial, fun od => ⟨.ref d, hSi σ hS0, d, od, rfl, .inl ⟨kvs, upd_same, ?_⟩⟩⟩
  have eL : Ex (Lk H0 d kvs od) (Lk H d kvs od) := fun x o hx => by
    unfold Lk at hx ⊢
    by_cases e : x = d
    · subst e; rw [upd_same] at hx ⊢; exact hx
    · rw [upd_ne e] at hx ⊢; exact e0 x o hx
  have hLm : Lk H0 d kvs od ml = none := by unfold Lk; rw [upd_ne hmd]; exact h0
  refine for_it (walk_keys (d := d) (o := od) (kvs := kvs)) (fun j σ' H' => S σ' ∧ Ex (Lk H0 d kvs od) H' ∧ ∃ xs : List Str, H' ml = some (.lst (xs.map V.str)) ∧ (∀ x ∈ xs, OkNm x) ∧ xs.length ≤ xs0.length + 2 * j) ⟨hS0, eL, xs0, by rw [upd_ne hmd]; exact hml, hx0, Nat.le_refl _⟩ (fun j σ' H' _ q => Lk.at q.2.1) (fun j x σ' H' H'' hj q y => ?_) fun σ' H' q => ?_
  · obtain ⟨rfl, kk, vv, hkv, rfl⟩ := y
    obtain ⟨q1, q2, xs, q3, q4, q5⟩ := q
    obtain ⟨c, hc, hrc⟩ : ∃ c, cs[j]? = some c ∧ RepC K (Lk H0 d kvs od) c (kk, vv) := by
      have hv : (kvs.map fun p => p.2)[j]? = some vv := by rw [List.getElem?_map, hkv]; rfl
      obtain ⟨c, h3, h4⟩ := pairC_get (repCs_lock (od := od) h1 h2) hv
      have hk2 : (kvs.map (·.1))[j]? = some kk := by rw [List.getElem?_map, hkv]; rfl
      rw [pairC_keys1 h2, List.getElem?_map, List.getElem?_map, h3] at hk2
      have e : kk = Sum.inr c.1 := (Option.some.inj hk2).symm
      exact ⟨c, h3, by rw [e]; exact h4⟩
    obtain ⟨hk0, t, fa, mm, hvt, r1, r2, r3⟩ := hrc.ex q2
    replace hk0 : kk = Sum.inr c.1 := hk0
    replace hvt : vv = .ref t := hvt
    subst hk0 hvt
    have hcm := List.mem_of_getElem? hc
    have hval : valV kvs (Sum.inr c.1 : Key) = some (.ref t) := by
      have gen : ∀ {l : List (Str × Cl)} {kk : List (Key × V)} {j : Nat}, Paired (RepC K H0) l kk → (l.map (·.1)).Nodup → l[j]? = some c → kk[j]? = some (Sum.inr c.1, .ref t) → valV kk (Sum.inr c.1 : Key) = some (.ref t) := by
        intro l kk j hp
        induction hp generalizing j with
        | nil => intro _ h; simp at h
        | @cons a b l' k' r _ ih =>
          intro hn hl hk
          cases j with
          | zero =>
            simp at hl hk
            subst hl hk
            exact valV_pos rfl
          | succ j =>
            rw [List.map_cons, List.nodup_cons] at hn
            have hl' : l'[j]? = some c := by simpa using hl
            rw [valV_neg (fun e => hn.1 (by rw [Sum.inr.inj (r.1.symm.trans e)]; exact List.mem_map.mpr ⟨c, List.mem_of_getElem? hl', rfl⟩))]
            exact ih hn.2 hl' (by simpa using hk)
      exact gen h2 hnd hc hkv
    have hm2 := hms c hcm
    refine ⟨.ref ml, (by rw [List.getElem?_set_ne (by decide)]; exact hS6 σ' q1), Or.inl ⟨rfl, _, sq_of q3⟩, ?_⟩
    refine (ev_op (htd σ' H'' c.1 kvs (.ref t) q1 (.inr ⟨od, Lk.at q2⟩) hval) ev_c (rv_ixT r1 (at_of (j := 3) rfl rfl))) H'' (Ex.refl _) _ fun H1 e1 => ⟨mm, _, c.2.ms.map (·.1), rfl, .inl (e1 _ _ r3), skv_keys1 _, by rw [List.length_map]; have := hm2.len; omega, fun ys pp hperm _ hpp => ?_⟩
    have hyl : ys.length ≤ 2 := by rw [hperm.length_eq, List.length_map]; exact hm2.len
    have q3' : upd H1 pp (.lst (ys.map V.str)) ml = some (.lst (xs.map V.str)) := (Ex.new hpp) _ _ (e1 _ _ q3)
    have hj6 : j < 6 := by have : j < kvs.length := hj; omega
    refine ⟨ml, pp, xs.map V.str, ys.map V.str, rfl, rfl, q3', upd_same, sz_of (by rw [List.length_map, List.length_map]; omega), hS σ' _ q1, ((q2.trans e1).trans (Ex.new hpp)).mut hLm, xs ++ ys, by rw [upd_same, List.map_append], fun x hx => ?_, by rw [List.length_append]; omega⟩
    rcases List.mem_append.mp hx with hx | hx
    · exact q4 x hx
    · obtain ⟨p, hp, rfl⟩ := List.mem_map.mp (hperm.mem_iff.mp hx)
      exact hmk c hcm p hp
  · obtain ⟨q1, q2, xs, q3, q4, q5⟩ := q
    refine ⟨Lk.at q2, k σ' xs _ q1 (Lk.back h1 q2) (by rw [upd_ne hmd]; exact q3) q4 ?_⟩
    omega
end
end EE
set_option Elab.async false
set_option linter.all false
set_option maxRecDepth 100000
set_option maxHeartbeats 400000
namespace EE
open PySem L2 Evl
section
variable {K : PySem.W.Frag} {σ : L2.St} {H H' : Hp} {ta tb tc te tv : TE}
/-- an odd thing: a text, or what is none -/
def OddV (K : PySem.W.Frag) (H : Hp) (v : V) : Prop := (∃ z, v = .str z ∧ z.length ≤ sizeLine) ∨ ((flatB v = true ∨ ∃ r, v = .ref r) ∧ ∃ t, TyX K H v t ∧ PySem.W.kitOne K t (.type "str") = some false)
theorem OddV.ex {v : V} (e : Ex H H') (h : OddV K H v) : OddV K H' v := by
  rcases h with h | ⟨h, t, h1, h2⟩
  · exact .inl h
  · exact .inr ⟨h, t, tyx_mono e h1, h2⟩
theorem OddV.flat {v : V} (h : OddV K H v) : flatB v = true ∨ ∃ r, v = .ref r := by
  rcases h with ⟨z, rfl, _⟩ | ⟨h, _⟩
  · exact .inl rfl
  · exact h
theorem RefV.ex {cs : List (Str × Cl)} {v : V} {xs : List V} (e : Ex H H') (h : RefV K H cs v xs) : RefV K H' cs v xs := by
  rcases h with h | ⟨h1, h2⟩
  · exact .inl h
  · exact .inr ⟨h1.ex e, h2⟩
theorem rv_neSame {a b : Addr} {xs : List V} (ha : SqL K H a xs) (hb : SqL K H b xs) (hf : ∀ v ∈ xs, flatB v = true ∨ ∃ r, v = .ref r) : RV (rNeSame K) (.ref a) (.ref b) H (.bl false) := fun H1 e Q q => ⟨a, b, xs, rfl, rfl, ex_l e ha, ex_l e hb, hf, q H1 (Ex.refl H1)⟩
theorem l_refused {CP CS p dx : Addr} {v : V} {fsx : List (Str × V)} {cs : List (Str × Cl)} {N : Addr → Prop} {xs : List V} (hp : H p = some (.ins CP dx fsx)) (hpa : ProgAt N CS H fsx cs) (hv : RefV K H cs v xs) : SpL (sp_refused K CP CS) [.ref p, v] H xs :=
  spl fun H1 e => ⟨p, v, fsx, dx, cs, N, rfl, e _ _ hp, hpa.ex e, hv.ex e⟩
theorem et_refused {CP CS p dx : Addr} {v : V} {fsx : List (Str × V)} {cs : List (Str × Cl)} {N : Addr → Prop} {xs : List V} {E : XK} (hp : H p = some (.ins CP dx fsx)) (hpa : ProgAt N CS H fsx cs) (hv : RefV K H cs v xs) (hf : flatB v = true ∨ ∃ r, v = .ref r)
    (h1 : Ev ta σ H (.ref p)) (h2 : Ev tb σ H v) (hl : EvL tc σ H xs) : EvT (tTest (tOp (rNeSame K) (tCall (sp_refused K CP CS) [] E (tCons ta (tCons tb tNil))) tc)) σ H false :=
  et_test (ev_opLL (el_call (ea_cons h1 (ea_cons h2 ea_nil)) (l_refused hp hpa hv)) hl fun p q H1 hp hq _ => rv_neSame (sq_of hp) (sq_of hq) fun x hx => by
    rcases hv with ⟨_, _, _, _, rfl⟩ | ⟨_, rfl⟩
    · cases hx
    · simp at hx
      subst hx
      exact hf)
/-- one odd thing is asked for -/
theorem s_oddTurn {D : Ends} {n1 n2 : TS} {CP CS p a dx : Addr} {v : V} {fsx : List (Str × V)} {cs : List (Str × Cl)} {N : Addr → Prop} {E1 E2 : XK} (h8 : σ[8]? = some (some (.ref p))) (h4 : σ[4]? = some (some (.ref a))) (h12 : σ[12]? = some (some v))
    (hp : H p = some (.ins CP dx fsx)) (hpa : ProgAt N CS H fsx cs) (hrep : RepD K H a cs) (hnm : ∀ n ∈ cnames cs, OkNm n) (hv : OddV K H v) (k : ∀ H1, Ex H H1 → D.nx σ H1) :
    tIfS (tAnd (tB (tCB (rIsi K) (tCons (tVar 12) (tCons (tC (.ty "str")) tNil)))) (tB (tDIn (tVar 12) (tVar 4))))
      (tIfS (tTest (tOp (rNeSame K) (tCall (sp_refused K CP CS) [] E1 (tCons (tVar 8) (tCons (tVar 12) tNil))) (tLst tNil))) n1 tNext)
      (tIfS (tTest (tOp (rNeSame K) (tCall (sp_refused K CP CS) [] E2 (tCons (tVar 8) (tCons (tVar 12) tNil))) (tLst (tCons (tVar 12) (tCons (tVar 12) tNil))))) n2 tNext) D σ H := by
  obtain ⟨kvs, q1, q2⟩ := hrep
  have hf := hv.flat
  have no : NotCls K H cs v → EvT (tAnd (tB (tCB (rIsi K) (tCons (tVar 12) (tCons (tC (.ty "str")) tNil)))) (tB (tDIn (tVar 12) (tVar 4)))) σ H false → tIfS (tAnd (tB (tCB (rIsi K) (tCons (tVar 12) (tCons (tC (.ty "str")) tNil)))) (tB (tDIn (tVar 12) (tVar 4))))
      (tIfS (tTest (tOp (rNeSame K) (tCall (sp_refused K CP CS) [] E1 (tCons (tVar 8) (tCons (tVar 12) tNil))) (tLst tNil))) n1 tNext)
      (tIfS (tTest (tOp (rNeSame K) (tCall (sp_refused K CP CS) [] E2 (tCons (tVar 8) (tCons (tVar 12) tNil))) (tLst (tCons (tVar 12) (tCons (tVar 12) tNil))))) n2 tNext) D σ H := fun hn ht =>
    s_if (b := false) ht (fun z => nomatch z) fun _ H1 e1 => s_when (b := false) (et_refused (e1 _ _ hp) (hpa.ex e1) (.inr ⟨hn.ex e1, rfl⟩) hf (ev_var h8) (ev_var h12) (el_lst (ea_cons (ev_var h12) (ea_cons (ev_var h12) ea_nil)) (show 2 ≤ 100000 by decide))) (fun z => nomatch z) fun _ H2 e2 => k H2 (e1.trans e2)
  rcases hv with ⟨z, rfl, hz⟩ | ⟨_, t, ht, hk⟩
  · have hi : EvT (tB (tCB (rIsi K) (tCons (tVar 12) (tCons (tC (.ty "str")) tNil)))) σ H true := et_B (ev_cb (ea_cons (ev_var h12) (ea_cons ev_c ea_nil)) (rc_isi (.ty "str") (.base (.str z)) (kit_ty (by decide +kernel))))
    by_cases hm : z ∈ cnames cs
    · have hs : (valV kvs (Sum.inr z : Key)).isSome = true := by
        rcases pairC_look (n := z) q2 with ⟨g, _⟩ | ⟨c', v, g1, g2, g3⟩
        · have := mem_look hm
          rw [g] at this
          cases this
        · rw [g2]; rfl
      exact s_if (b := true) (et_is (et_and hi fun _ => et_B (et_din (k := Sum.inr z) (ev_var h12) (ev_var h4) (.inl q1))) (by rw [hs]; rfl)) (fun _ H1 e1 => s_when (b := false) (et_refused (e1 _ _ hp) (hpa.ex e1) (.inl ⟨z, rfl, hnm z hm, hm, rfl⟩) (.inl rfl) (ev_var h8) (ev_var h12) (el_lst ea_nil (show 0 ≤ 100000 by decide))) (fun z => nomatch z) fun _ H2 e2 => k H2 (e1.trans e2)) (fun z => nomatch z)
    · have hs : (valV kvs (Sum.inr z : Key)).isSome = false := by
        rw [valV_fresh (R := RepC K H) (fun _ _ r => r.1) q2 hm]; rfl
      exact no ⟨isNm z, .inl ⟨z, rfl, hz, rfl⟩, fun _ => ⟨z, rfl, hm⟩⟩ (et_is (et_and hi fun _ => et_B (et_din (k := Sum.inr z) (ev_var h12) (ev_var h4) (.inl q1))) (by rw [hs]; rfl))
  · exact no ⟨false, .inr ⟨rfl, t, ht, hk⟩, fun z => nomatch z⟩ (et_is (et_and (a := false) (b := false) (et_B (ev_cb (ea_cons (ev_var h12) (ea_cons ev_c ea_nil)) (rc_isi (.ty "str") ht hk))) (fun z => nomatch z)) rfl)
theorem q_take {B : Hp} {i j : Nat} {p g : Addr} {m : Int} {E : XK} {D : Ends} {tz : TS} (hv : σ[i]? = some (some (.ref p))) (hp : PotAt B H p g) (h1 : 1 ≤ m) (h2 : m ≤ 1000) (k : ∀ r H2, 0 ≤ r → r < m → PotAt B H2 p g → Ex (hid p g H) H2 → tz D (σ.set j (some (.int r))) H2) :
    tSeq (tAsg (tCall sp_take [] E (tCons (tVar i) (tCons (tC (.int m)) tNil))) (gName j)) tz D σ H := r_take hv hp h1 h2 k
theorem q_funcs {D : Ends} {tz : TS} (k : ∀ b H2, H b = none → Ex H H2 → RepFD K H2 b fnsL → tz D (σ.set 3 (some (.ref b))) H2) :
    tSeq (tAsg (tDisp [(tC (.str "f"), tTup (tCons (tTup (tCons (tC (.str "a")) tNil)) (tCons (tC (.int 1)) (tCons (tTup tNil) tNil)))),
      (tC (.str "g"), tTup (tCons (tTup (tCons (tC (.str "a")) (tCons (tC (.str "b")) tNil))) (tCons (tC (.int 2)) (tCons (tTup tNil) tNil)))),
      (tC (.str "h"), tTup (tCons (tTup (tCons (tC (.str "x")) tNil)) (tCons (tC (.int 2)) (tCons (tTup (tCons (tTup (tCons (tC (.str "return")) (tCons (tC (.str "x")) tNil))) tNil)) tNil))))]) (gName 3)) tz D σ H := by
  unfold tSeq tAsg
  exact r_funcs (K := K) k
/-- classes are drawn -/
theorem q_classes {B : Hp} {i j : Nat} {p g : Addr} {E : XK} {D : Ends} {tz : TS} (hv : σ[i]? = some (some (.ref p))) (hp : PotAt B H p g)
    (k : ∀ cs a H2, Built cs → cs.length ≤ 6 → MsVals cs → PotAt B H2 p g → Ex (hid p g H) H2 → (hid p g H) a = none → RepD K H2 a cs → tz D (σ.set j (some (.ref a))) H2) :
    tSeq (tAsg (tCall (sp_classes K) [] E (tCons (tVar i) tNil)) (gName j)) tz D σ H :=
  ⟨_, hv, p, g, hid p g H, rfl, hp.wide, fun cs a H2 b1 b2 b3 b4 b5 b6 => k cs a H2 b1 b2 b3 (b4.back hp.sub) b4.ex b5 b6⟩
end
end EE
set_option Elab.async false
set_option linter.all false
set_option maxRecDepth 100000
set_option maxHeartbeats 400000
namespace EE
open PySem L2 Evl
section
variable {K : PySem.W.Frag} {σ : L2.St} {B H H' : Hp} {ta tb tc te tv : TE} {D : Ends} {tz : TS}
theorem o_hid {p g : Addr} (hp : PotAt B H p g) {a : Addr} {o : HO} (h : H a = some o) (ho : ∀ xs, o ≠ .lst xs) : hid p g H a = some o := by
  obtain ⟨ns, s, c, m, q1, q2⟩ := hp.at_
  rw [hid_ne (fun z => by subst z; rw [q1] at h; exact ho _ (Option.some.inj h).symm) (fun z => by subst z; rw [q2] at h; exact ho _ (Option.some.inj h).symm)]
  exact h
theorem ProgAt.hid {N : Addr → Prop} {CS p g : Addr} {fsx : List (Str × V)} {cs : List (Str × Cl)} (hp : PotAt B H p g) (h : ProgAt N CS H fsx cs) : ProgAt N CS (hid p g H) fsx cs := by
  have dc : ∀ {p' : Addr} {U : Str → Option HO} {ks : List Str}, (∀ n u, U n = some u → ∀ xs, u ≠ .lst xs) → DcAt N H p' U ks → DcAt N (EE.hid p g H) p' U ks := fun {p' U ks} hU ⟨q, out, h1, h2⟩ => ⟨q, out, dK_hid hp h1, Paired.imp (fun n _ r => ⟨r.1, fun u hu => let ⟨x, x1, x2, x3⟩ := r.2 u hu; ⟨x, x1, x2, o_hid hp x3 (hU n u hu)⟩⟩) h2⟩
  obtain ⟨s, dxs, fss, h1, hs, h2, F, M, h3, h4, h5, h6⟩ := h
  exact ⟨s, dxs, fss, h1, hs, o_hid hp h2 (fun _ z => by cases z), F, M, h3, h4, dc (fun n u hu xs z => by subst z; unfold UF at hu; cases hu) h5, dc (fun n u hu xs z => by subst z; unfold UM at hu; cases hu) h6⟩
theorem ProgAt.weak {N N' : Addr → Prop} {CS : Addr} {fsx : List (Str × V)} {cs : List (Str × Cl)} (w : ∀ a, N a → N' a) (h : ProgAt N CS H fsx cs) : ProgAt N' CS H fsx cs := by
  obtain ⟨s, dxs, fss, h1, hs, h2, h3⟩ := h
  exact ⟨s, dxs, fss, h1, w s hs, h2, h3.weak w⟩
theorem Built.keys {cs : List (Str × Cl)} (h : MsVals cs) : ∀ c ∈ cs, ∀ p ∈ c.2.ms, OkNm p.1 := fun c hc p hp => ((h c hc).ok p hp).1
/-- a program is made -/
theorem r_prog {C CS b ca : Addr} {i : Nat} {cs : List (Str × Cl)} {E : XK} {Q : VK} (hi : σ[i]? = some (some (.ref ca))) (h3 : σ[3]? = some (some (.ref b))) (hrep : RepD K H ca cs) (hf : RepFD K H b fnsL) (hb : Built cs) (h6 : cs.length ≤ 6) (hm : MsVals cs) (hne : ca ≠ b)
    (k : ∀ x dx fsx H2, Ex H H2 → H2 x = some (.ins C dx fsx) → ProgAt (fun y => y ≠ ca) CS H2 fsx cs → Q (.ref x) H2) : tMake C (sp_Program K C CS) [] E (tCons tDNewK (tCons (tVar i) (tCons (tVar 3) tNil))) σ H Q :=
  fun sh hsh => ⟨_, hi, _, h3, fun x dx hx hdx hdn => by
    have e1 : Ex H (upd H sh (.dK [])) := Ex.new hsh
    refine ⟨x, sh, ca, b, cs, upd H sh (.dK []), dx, rfl, hx, (Ex.new hdx).mut hx, upd_same, ⟨fnsL, upd_same, hrep.ex e1, hb.right h6, hf.ex e1, fnsL_right, meth_ok hm, hne⟩, fun H2 fsx e2 h2 hpa => ⟨rfl, k x dx fsx H2 (e1.trans e2) h2 (hpa.weak fun y hy z => ?_)⟩⟩
    subst z
    obtain ⟨kvs, q1, _⟩ := hrep
    rw [e1 _ _ q1] at hy
    cases hy⟩
theorem q_prog {C CS b ca : Addr} {i j : Nat} {cs : List (Str × Cl)} {E : XK} (hi : σ[i]? = some (some (.ref ca))) (h3 : σ[3]? = some (some (.ref b))) (hrep : RepD K H ca cs) (hf : RepFD K H b fnsL) (hb : Built cs) (h6 : cs.length ≤ 6) (hm : MsVals cs) (hne : ca ≠ b)
    (k : ∀ x dx fsx H2, Ex H H2 → H2 x = some (.ins C dx fsx) → ProgAt (fun y => y ≠ ca) CS H2 fsx cs → tz D (σ.set j (some (.ref x))) H2) : tSeq (tAsg (tMake C (sp_Program K C CS) [] E (tCons tDNewK (tCons (tVar i) (tCons (tVar 3) tNil)))) (gName j)) tz D σ H := by
  unfold tSeq tAsg
  exact r_prog hi h3 hrep hf hb h6 hm hne k
theorem q_extL {l : Addr} {xs zs : List V} (hl : H l = some (.lst xs)) (ha : Ev ta σ H (.ref l)) (h : EvL te σ H zs) (hz : xs.length + zs.length ≤ 100000) (k : ∀ H1, Ex H H1 → tz D σ (upd H1 l (.lst (xs ++ zs)))) :
    tSeq (tDrop (tBM K "list" rExtend ta (tCons te tNil))) tz D σ H := by
  unfold tSeq tDrop
  exact ha H (Ex.refl H) _ fun H1 e1 => ⟨Or.inl ⟨rfl, xs, sq_of (e1 l _ hl)⟩, h H1 e1 _ fun p H2 _ e2 h2 => ⟨l, p, xs, zs, rfl, rfl, e2 l _ (e1 l _ hl), h2, sz_of hz, k H2 (e1.trans e2)⟩⟩
theorem q_catLL {i : Nat} {xs ys : List V} (ha : EvL ta σ H xs) (hb : EvL tb σ H ys) (hz : xs.length + ys.length ≤ 100000) (k : ∀ l H1, H l = none → Ex H H1 → H1 l = some (.lst (xs ++ ys)) → tz D (σ.set i (some (.ref l))) H1) : tSeq (tAsg (tOp rCat ta tb) (gName i)) tz D σ H := by
  unfold tSeq tAsg
  exact ha H (Ex.refl H) _ fun a H1 _ e1 h1 => hb H1 e1 _ fun b H2 _ e2 h2 => ⟨a, b, xs, ys, rfl, rfl, e2 _ _ h1, h2, sz_of hz, fun l hl => k l _ (fresh_back (e1.trans e2) hl) ((e1.trans e2).trans (Ex.new hl)) upd_same⟩
/-- the odd things -/
theorem q_odd {p g : Addr} {E : XK} (h1 : σ[1]? = some (some (.ref p))) (hp : PotAt B H p g)
    (k : ∀ l xs G, Ex (hid p g H) G → G l = none → xs.length = 14 → (∀ v ∈ xs, OddV K G v) → tz D (σ.set 11 (some (.ref l))) (upd G l (.lst xs))) :
    tSeq (tAsg (tLst (tCons (tC .non) (tCons (tC (.bl true)) (tCons (tC (.int 0)) (tCons (tC (.str "")) (tCons (tC (.str "A")) (tCons (tC (.str "abcdefghi")) (tCons (tC (.str "word")) (tCons (tC (.str "f")) (tCons (tTup tNil) (tCons (tTup (tCons (tC (.str "a")) tNil)) (tCons (tLst tNil) (tCons tDNewK (tCons (tC (.str "nothing")) (tCons (tCall sp_name [] E (tCons (tVar 1) tNil)) tNil))))))))))))))) (gName 11)) tz D σ H := by
  unfold tSeq tAsg
  refine ⟨show 0 ≤ sizeLine by decide, fun a1 n1 => ⟨show 1 ≤ sizeLine by decide, fun a2 n2 => ⟨show 0 ≤ sizeLine by decide, fun a3 n3 => fun a4 n4 => ?_⟩⟩⟩
  have x1 := Ex.new (o := .tup []) n1
  have x2 := Ex.new (o := .tup [.str "a"]) n2
  have x3 := Ex.new (o := .lst []) n3
  have x4 := Ex.new (o := .dK []) n4
  have y4 := ((x1.trans x2).trans x3).trans x4
  have hp4 := hp.mono y4
  refine r_name h1 hp4 fun z G hz p5 ex5 => ⟨show 14 ≤ sizeLine by decide, fun l hl => ?_⟩
  have t1 := ex5 _ _ (o_hid hp4 (((x2.trans x3).trans x4) _ _ upd_same) fun _ z => by cases z)
  have t2 := ex5 _ _ (o_hid hp4 ((x3.trans x4) _ _ upd_same) fun _ z => by cases z)
  have ne3 := (((hp.mono x1).mono x2)).new n3
  have t3 := ex5 a3 (.lst []) (by rw [hid_ne ne3.1 ne3.2]; exact x4 _ _ upd_same)
  have t4 := ex5 _ _ (o_hid hp4 upd_same fun _ z => by cases z)
  refine k l _ G ?_ hl rfl ?_
  · exact Ex.trans (fun a o ha => by
      have hne : a ≠ p ∧ a ≠ g := ⟨fun z => (by subst z; rw [hp.wide.bp] at ha; cases ha), fun z => (by subst z; rw [hp.wide.bg] at ha; cases ha)⟩
      rw [hid_ne hne.1 hne.2] at ha ⊢
      exact y4 _ _ ha) ex5
  · have kb : ∀ {t : Value} {v : V}, (flatB v = true ∨ ∃ r, v = .ref r) → TyX K G v t → PySem.W.kitOne K t (.type "str") = some false → OddV K G v := fun h1 h2 h3 => .inr ⟨h1, _, h2, h3⟩
    intro v hv
    rcases List.mem_cons.mp hv with rfl | hv
    · exact kb (.inl rfl) (.base .non) (kit_ty (by decide +kernel))
    rcases List.mem_cons.mp hv with rfl | hv
    · exact kb (.inl rfl) (.base (.bl _)) (kit_ty (by decide +kernel))
    rcases List.mem_cons.mp hv with rfl | hv
    · exact kb (.inl rfl) (.base (.int _)) (kit_ty (by decide +kernel))
    rcases List.mem_cons.mp hv with rfl | hv
    · exact .inl ⟨_, rfl, sz_of (by decide)⟩
    rcases List.mem_cons.mp hv with rfl | hv
    · exact .inl ⟨_, rfl, sz_of (by decide)⟩
    rcases List.mem_cons.mp hv with rfl | hv
    · exact .inl ⟨_, rfl, sz_of (by decide)⟩
    rcases List.mem_cons.mp hv with rfl | hv
    · exact .inl ⟨_, rfl, sz_of (by decide)⟩
    rcases List.mem_cons.mp hv with rfl | hv
    · exact .inl ⟨_, rfl, sz_of (by decide)⟩
    rcases List.mem_cons.mp hv with rfl | hv
    · exact kb (.inr ⟨_, rfl⟩) (.base (.tup t1)) (kit_ty (by decide +kernel))
    rcases List.mem_cons.mp hv with rfl | hv
    · exact kb (.inr ⟨_, rfl⟩) (.base (.tup t2)) (kit_ty (by decide +kernel))
    rcases List.mem_cons.mp hv with rfl | hv
    · exact kb (.inr ⟨_, rfl⟩) (.base (.lst t3)) (kit_ty (by decide +kernel))
    rcases List.mem_cons.mp hv with rfl | hv
    · exact kb (.inr ⟨_, rfl⟩) (.base (.dK t4)) (kit_ty (by decide +kernel))
    rcases List.mem_cons.mp hv with rfl | hv
    · exact .inl ⟨_, rfl, sz_of (by decide)⟩
    rcases List.mem_cons.mp hv with rfl | hv
    · exact .inl ⟨z, rfl, hz.2⟩
    cases hv
end
end EE
set_option Elab.async false
set_option linter.all false
set_option maxRecDepth 100000
set_option maxHeartbeats 1000000
namespace EE
open PySem L2 Evl
open C8 (Cal Mak cal0 mak0 pe_c pe_mk pe_gc fnScope_by)
section
variable {P : Program} {w : World} {K : PySem.W.Frag} {mg : Str → Option Value} {base : Heap}
def sp_law (K : PySem.W.Frag) : Sp := PuV fun vs H z => ∃ (a : Addr) (ns : List Int), vs = [.ref a] ∧ SqL K H a (ns.map V.int) ∧ ns.length ≤ 63 ∧ z = .bl true
theorem sc_law : FnScope N_law P_law (C8.fnScope s_law) := fnScope_by (by decide +kernel)
theorem fn_law (T : Txt6 w K mg) {f : Addr} {fd : FuncData} (F : C8.Fun K "law" "law" s_law f fd) : FnOk P w K mg base C8.CX0 12 f fd P_law (sp_law K) := by
  obtain ⟨CP, MP⟩ := T.m_Program
  obtain ⟨CS, MS⟩ := T.m_Sheet
  obtain ⟨CN, MN⟩ := T.m_NoName
  refine C8.fn0 F sc_law (fun vs H Q E h => ?_) (fun cdv A outer s H vs Q E hr h => ?_)
  · obtain ⟨_, ⟨_, _, rfl, _⟩, _⟩ := h
    rfl
  · obtain ⟨z, ⟨a, ns, rfl, hs, hz, rfl⟩, k⟩ := h
    have nd := sc_law.nd
    have hu := hu_of hr
    have hu64 : (A.deeper (PyProof.Rows.envOfC "law" (C8.fnScope s_law) s.heap.objs.size f cdv)).units + 64 < cLine := by have := hr.un; omega
    refine ⟨_, pss_cons (ps_set (i := 1) nd rfl (Or.inl rfl) (pe_c (ok_pot T) hr (by decide) (by rfl) (pa_cons (pv 0) (pa_cons pe_int pa_nil))))
      (pss_cons (ps_set (i := 2) nd rfl (Or.inl rfl) (pe_c (ok_take T) hr (by decide) (by rfl) (pa_cons (pv 1) (pa_cons pe_int pa_nil))))
      (pss_cons (ps_set (i := 3) nd rfl (Or.inl rfl) (pe_disp (pps_cons pe_str (pe_tup (pa_cons (pe_tup (pa_cons pe_str pa_nil)) (pa_cons pe_int (pa_cons (pe_tup pa_nil) pa_nil))))
          (pps_cons pe_str (pe_tup (pa_cons (pe_tup (pa_cons pe_str (pa_cons pe_str pa_nil))) (pa_cons pe_int (pa_cons (pe_tup pa_nil) pa_nil))))
          (pps_cons pe_str (pe_tup (pa_cons (pe_tup (pa_cons pe_str pa_nil)) (pa_cons pe_int (pa_cons (pe_tup (pa_cons (pe_tup (pa_cons pe_str (pa_cons pe_str pa_nil))) pa_nil)) pa_nil)))) pps_nil))) (by rfl) (by rfl) (by simp) (by decide)))
      (pss_cons (ps_set (i := 4) nd rfl (Or.inl rfl) (pe_c (ok_classes T) hr (by decide) (by rfl) (pa_cons (pv 1) pa_nil)))
      (pss_cons (ps_set (i := 5) nd rfl (Or.inl rfl) (pe_c (ok_classes T) hr (by decide) (by rfl) (pa_cons (pv 1) pa_nil)))
      (pss_cons (ps_set (i := 6) nd rfl (Or.inl rfl) (pe_lst (pa_cons pe_str pa_nil)))
      (pss_cons (ps_lock (ps_for PassesOwn.never rfl (pi_keys (pv 4)) (pg_name (i := 7) nd rfl (Or.inl rfl)) (pss_one (ps_expr (pe_bm PySem.F.plainAttrs_list PySem.F.slot_list_extend PySem.F.type_list_extend mt_extend (pv 6) (pa_cons (pe_callB (cr_sortD rfl) (by rfl) T.sortedT (by decide +kernel) (pa_cons (pe_ix ix_tup (pe_dget hu (pv 4) (pv 7) (fun _ _ => rfl)) pe_int (fun _ _ => rfl)) pa_nil)) pa_nil))))))
      (pss_cons (ps_lock (ps_for PassesOwn.never rfl (pi_keys (pv 5)) (pg_name (i := 7) nd rfl (Or.inl rfl)) (pss_one (ps_expr (pe_bm PySem.F.plainAttrs_list PySem.F.slot_list_extend PySem.F.type_list_extend mt_extend (pv 6) (pa_cons (pe_callB (cr_sortD rfl) (by rfl) T.sortedT (by decide +kernel) (pa_cons (pe_ix ix_tup (pe_dget hu (pv 5) (pv 7) (fun _ _ => rfl)) pe_int (fun _ _ => rfl)) pa_nil)) pa_nil))))))
      (Evl.pss_cut (ps_if (pt_cmpR op_eq (pv 2) pe_int (nomark _)) (pss_one (ps_set (i := 4) nd rfl (Or.inl rfl) (pe_c (ok_turn1 T) hr (by decide) (by rfl) (pa_cons (pv 4) pa_nil)))) pss_nil)
      (pss_cons (ps_set (i := 8) nd rfl (Or.inl rfl) (pe_mk (mk_Program T.toTxt4 MP MS) hr (by decide) (by rfl) (pa_cons pe_dnewK (pa_cons (pv 4) (pa_cons (pv 3) pa_nil)))))
      (pss_cons (ps_set (i := 9) nd rfl (Or.inl rfl) (pe_mk (mk_Program T.toTxt4 MP MS) hr (by decide) (by rfl) (pa_cons pe_dnewK (pa_cons (pv 5) (pa_cons (pv 3) pa_nil)))))
      (Evl.pss_cut (ps_for PassesOwn.never rfl (pi_range1 (by rfl) T.rangeT (pa_cons pe_int pa_nil)) (pg_name (i := 10) nd rfl (Or.inl rfl))
        (pss_one (ps_if (PW.pt (pw_or (pt_not (pt_val (pe_c (ok_right T MP MS MN) hr (by decide) (by rfl) (pa_cons (pv 8) (pa_cons (pv 4) (pa_cons (pv 6) pa_nil)))))) (pw_or1 (pt_not (pt_val (pe_c (ok_right T MP MS MN) hr (by decide) (by rfl) (pa_cons (pv 9) (pa_cons (pv 5) (pa_cons (pv 6) pa_nil))))))))) (pss_one ps_never) pss_nil)))
      (pss_cons (ps_set (i := 11) nd rfl (Or.inl rfl) (pe_lst (pa_cons pe_non (pa_cons pe_bl (pa_cons pe_int (pa_cons pe_str (pa_cons pe_str (pa_cons pe_str (pa_cons pe_str (pa_cons pe_str (pa_cons (pe_tup pa_nil) (pa_cons (pe_tup (pa_cons pe_str pa_nil)) (pa_cons (pe_lst pa_nil) (pa_cons pe_dnewK (pa_cons pe_str (pa_cons (pe_c (ok_name T) hr (by decide) (by rfl) (pa_cons (pv 1) pa_nil)) pa_nil))))))))))))))))
      (pss_cons (ps_expr (pe_bm PySem.F.plainAttrs_list PySem.F.slot_list_extend PySem.F.type_list_extend mt_extend (pv 11) (pa_cons (pe_lst (pa_cons pe_str (pa_cons pe_str (pa_cons pe_str (pa_cons pe_str (pa_cons pe_str pa_nil)))))) pa_nil)))
      (Evl.pss_cut (ps_for PassesOwn.never rfl (pi_list (pv 11)) (pg_name (i := 12) nd rfl (Or.inl rfl))
        (pss_one (ps_if (PW.pt (pw_and (pt_val (pe_callB call_isi (by rfl) T.isi (by decide +kernel) (pa_cons (pv 12) (pa_cons (pe_bltn (v := .ty "str") (by rfl) T.strT (u := .type "str") (by decide +kernel) (by rfl)) pa_nil)))) (pw_and1 (pt_cmp (pc_din hu (pv 12) (pv 4))))))
          (pss_one (ps_if (pt_cmpR (op_neSame hu64) (pe_c (ok_refused T MP MS MN) hr (by decide) (by rfl) (pa_cons (pv 8) (pa_cons (pv 12) pa_nil))) (pe_lst pa_nil) (nomark _)) (pss_one ps_never) pss_nil))
          (pss_one (ps_if (pt_cmpR (op_neSame hu64) (pe_c (ok_refused T MP MS MN) hr (by decide) (by rfl) (pa_cons (pv 8) (pa_cons (pv 12) pa_nil))) (pe_lst (pa_cons (pv 12) (pa_cons (pv 12) pa_nil))) (nomark _)) (pss_one ps_never) pss_nil)))))
      (pss_cons (ps_set (i := 13) nd rfl (Or.inl rfl) (pe_op op_cat (pe_c (ok_refused T MP MS MN) hr (by decide) (by rfl) (pa_cons (pv 8) (pa_cons pe_bl pa_nil))) (pe_c (ok_refused T MP MS MN) hr (by decide) (by rfl) (pa_cons (pv 8) (pa_cons pe_int pa_nil)))))
      (pss_one (ps_ret (pe_cmpR op_eq (pe_callB call_len_seq (by rfl) T.len (by decide +kernel) (pa_cons (pe_lc (own := [("thing", 12)]) (g := gName 12) rfl nd (pi_list (pv 13)) (blkOk_by (N := N_law) (sc := C8.fnScope s_law) (by decide +kernel))
          (fun _ _ _ _ _ => pg_name (i := 12) nd rfl (Or.inl rfl)) (fun _ _ _ _ _ => pts_one (pt_val (pe_callB (show CallR _ (.builtin "isinstance") (rIsi K) from call_isi) (by rfl) T.isi (by decide +kernel) (pa_cons (pv 12) (pa_cons (pe_bltn (v := .ty "bool") (by rfl) T.boolT (u := .type "bool") (by decide +kernel) (by rfl)) pa_nil))))) (fun _ _ _ _ _ => pv 12)) pa_nil)) pe_int (nomark _))))))))))))))))))), ?_⟩
    refine ⟨_, rfl, a, ns, 0, rfl, hs, hz, fun p g H1 p1 => ?_⟩
    refine q_take rfl p1 (by decide) (by decide) fun way H2 w0 w1 p2 x2 => ?_
    refine q_funcs (K := K) fun b H3 hb e3 fF3 => ?_
    have p3 := p2.mono e3
    refine q_classes rfl p3 fun cs ca H4 bt c6 mv p4 ex4 hca rep => ?_
    have fF4 := (fF3.hid p3).ex ex4
    have hcab : ca ≠ b := fun z => by
      obtain ⟨kk, q1, _⟩ := fF3.hid p3
      subst z
      rw [q1] at hca
      cases hca
    refine q_classes rfl p4 fun os oa H5 bto o6 mvo p5 ex5 hoa repo => ?_
    have fF5 := (fF4.hid p4).ex ex5
    have rep5 := (rep.hid p4).ex ex5
    have hoab : oa ≠ b := fun z => by
      obtain ⟨kk, q1, _⟩ := fF4.hid p4
      subst z
      rw [q1] at hoa
      cases hoa
    refine q_asgL (el_lst (ea_cons (ev_c (v := .str "nothing")) ea_nil) (show 1 ≤ 100000 by decide)) fun ml H6 hml e6 h6 => ?_
    have okn : ∀ x ∈ ([Str.ofString "nothing"] : List Str), OkNm x := fun x hx => by
      obtain rfl := List.mem_singleton.mp hx
      exact ok1 (by decide +kernel)
    refine q_extNames (i := 4) (H0 := H5) (xs0 := [Str.ofString "nothing"]) (fun σ' => ∃ v7, σ' = [some (.ref a), some (.ref p), some (.int way), some (.ref b), some (.ref ca), some (.ref oa), some (.ref ml), v7, none, none, none, none, none, none]) ⟨_, rfl⟩ (fun σ' x ⟨v, h⟩ => ⟨some x, by rw [h]; rfl⟩) (fun σ' ⟨v, h⟩ => by rw [h]; rfl)
      (fun σ' G n kvs v ⟨w, h⟩ hd hv => by rw [h]; exact ev_dget (k := Sum.inr n) (ev_var (v := .ref ca) rfl) (ev_var (v := .str n) rfl) hd hv) (fun σ' ⟨v, h⟩ => by rw [h]; rfl) rep5 e6 hml h6 okn (by decide) bt.nd mv (Built.keys mv) c6 fun σ' xs H7 hS e7 h7 hx hl => ?_
    obtain ⟨v7, rfl⟩ := hS
    have hl1 : xs.length ≤ 13 := hl
    refine q_extNames (i := 5) (H0 := H5) (xs0 := xs) (fun σ' => ∃ v7, σ' = [some (.ref a), some (.ref p), some (.int way), some (.ref b), some (.ref ca), some (.ref oa), some (.ref ml), v7, none, none, none, none, none, none]) ⟨_, rfl⟩ (fun σ' x ⟨v, h⟩ => ⟨some x, by rw [h]; rfl⟩) (fun σ' ⟨v, h⟩ => by rw [h]; rfl)
      (fun σ' G n kvs v ⟨w, h⟩ hd hv => by rw [h]; exact ev_dget (k := Sum.inr n) (ev_var (v := .ref oa) rfl) (ev_var (v := .str n) rfl) hd hv) (fun σ' ⟨v, h⟩ => by rw [h]; rfl) repo e7 hml h7 hx (by omega) bto.nd mvo (Built.keys mvo) o6 fun σ' ys H8 hS e8 h8 hy hyl => ?_
    obtain ⟨w7, rfl⟩ := hS
    refine q_cut (M := fun σ'' H'' => ∃ cs' ca', σ'' = [some (.ref a), some (.ref p), some (.int way), some (.ref b), some (.ref ca'), some (.ref oa), some (.ref ml), w7, none, none, none, none, none, none] ∧ Built cs' ∧ cs'.length ≤ 6 ∧ MsVals cs' ∧ RepD K H'' ca' cs' ∧ Ex H8 H'' ∧ ca' ≠ b) ?_ ?_
    · refine s_when (b := decide (V.int way = V.int 1)) (et_test (ev_op (ev_var (v := .int way) rfl) ev_c (rv_eq rfl))) (fun _ H9 e9 => ?_) (fun _ H9 e9 => ⟨cs, ca, rfl, bt, c6, mv, (rep5.ex e8).ex e9, e9, hcab⟩)
      refine ⟨_, rfl, ca, cs, rfl, (rep5.ex e8).ex e9, bt.nd, mv, by omega, fun pt H10 hpt e10 hr2 => ⟨turnCs cs, pt, rfl, bt.turn, by unfold turnCs; rw [List.length_map, List.length_reverse]; exact c6, mv.turn, hr2, e9.trans e10, fun z => ?_⟩⟩
      obtain ⟨kk, q1, _⟩ := (fF5.ex e8).ex e9
      subst z
      rw [q1] at hpt
      cases hpt
    · rintro σ'' H9 ⟨cs', ca', rfl, bt', c6', mv', rep9, e9, hne'⟩
      have f9 := e8.trans e9
      refine q_prog rfl rfl rep9 (fF5.ex f9) bt' c6' mv' hne' fun x1 dx1 fs1 H10 e10 hx1 pa1 => ?_
      refine q_prog rfl rfl (repo.ex (f9.trans e10)) (fF5.ex (f9.trans e10)) bto o6 mvo hoab fun x2 dx2 fs2 H11 e11 hx2 pa2 => ?_
      have f11 := (f9.trans e10).trans e11
      have ml11 : H11 ml = some (.lst (ys.map V.str)) := e11 _ _ (e10 _ _ (e9 _ _ h8))
      have rep11 := (rep9.ex e10).ex e11
      have repo11 := repo.ex f11
      have hx1' := e11 _ _ hx1
      have pa1' := pa1.ex e11
      refine q_cut (M := fun σ'' H'' => ∃ v10, σ'' = [some (.ref a), some (.ref p), some (.int way), some (.ref b), some (.ref ca'), some (.ref oa), some (.ref ml), w7, some (.ref x1), some (.ref x2), v10, none, none, none] ∧ Ex H11 H'') ?_ ?_
      · refine s_forR1 (n := 2) (ea_cons ev_c ea_nil) ⟨by decide, by decide⟩ (fun j σ'' H'' => ∃ v10, σ'' = [some (.ref a), some (.ref p), some (.int way), some (.ref b), some (.ref ca'), some (.ref oa), some (.ref ml), w7, some (.ref x1), some (.ref x2), v10, none, none, none] ∧ Ex H11 H'') (fun H12 e12 => ⟨_, rfl, e12⟩) ?_ (fun _ _ q => q)
        rintro i σ'' H12 hi ⟨v10, rfl, e12⟩
        refine s_when (b := false) (et_orF (et_notT (et_B (ev_call (ea_cons (ev_var (v := .ref x1) rfl) (ea_cons (ev_var (v := .ref ca') rfl) (ea_cons (ev_var (v := .ref ml) rfl) ea_nil))) (spv fun H13 e13 => ⟨x1, ca', ml, fs1, dx1, cs', ys, rfl, rfl, e13 _ _ (e12 _ _ hx1'), pa1'.ex (e12.trans e13), rep11.ex (e12.trans e13), bt', c6', mv', sq_of (e13 _ _ (e12 _ _ ml11)), hy, by omega⟩))))
          (et_notT (et_B (ev_call (ea_cons (ev_var (v := .ref x2) rfl) (ea_cons (ev_var (v := .ref oa) rfl) (ea_cons (ev_var (v := .ref ml) rfl) ea_nil))) (spv fun H13 e13 => ⟨x2, oa, ml, fs2, dx2, os, ys, rfl, rfl, e13 _ _ (e12 _ _ hx2), pa2.ex (e12.trans e13), repo11.ex (e12.trans e13), bto, o6, mvo, sq_of (e13 _ _ (e12 _ _ ml11)), hy, by omega⟩)))))
          (fun z => nomatch z) fun _ H13 e13 => ⟨_, rfl, e12.trans e13⟩
      · rintro σ'' H12 ⟨v10, rfl, e12⟩
        have p12 := (p5.mono f11).mono e12
        refine q_odd (K := K) rfl p12 fun l xs G exG hl hxl hod => ?_
        have hx1G : G x1 = some (.ins CP dx1 fs1) := exG _ _ (o_hid p12 (e12 _ _ hx1') fun _ z => by cases z)
        have pa1G := ((pa1'.ex e12).hid p12).ex exG
        have repG := ((rep11.ex e12).hid p12).ex exG
        have z5 : EvL (tLst (tCons (tC (.str "a1")) (tCons (tC (.str "a_b")) (tCons (tC (.str "1")) (tCons (tC (.str "a\n")) (tCons (tC (.str "-")) tNil)))))) [some (.ref a), some (.ref p), some (.int way), some (.ref b), some (.ref ca'), some (.ref oa), some (.ref ml), w7, some (.ref x1), some (.ref x2), v10, some (.ref l), none, none] (upd G l (.lst xs)) [.str "a1", .str "a_b", .str "1", .str "a\n", .str "-"] :=
          el_lst (ea_cons ev_c (ea_cons ev_c (ea_cons ev_c (ea_cons ev_c (ea_cons ev_c ea_nil))))) (show 5 ≤ 100000 by decide)
        refine q_extL (xs := xs) upd_same (ev_var (v := .ref l) rfl) z5 (by rw [hxl]; decide) fun H14 e14 => ?_
        have e15 : Ex G (upd H14 l (.lst (xs ++ [V.str "a1", .str "a_b", .str "1", .str "a\n", .str "-"]))) := ((Ex.new hl).trans e14).mut hl
        have h15 : upd H14 l (.lst (xs ++ [V.str "a1", .str "a_b", .str "1", .str "a\n", .str "-"])) l = some (.lst (xs ++ [V.str "a1", .str "a_b", .str "1", .str "a\n", .str "-"])) := upd_same
        have hod' : ∀ v ∈ xs ++ [V.str "a1", .str "a_b", .str "1", .str "a\n", .str "-"], OddV K G v := fun v hv => by
          rcases List.mem_append.mp hv with hv | hv
          · exact hod v hv
          · simp at hv
            rcases hv with rfl | rfl | rfl | rfl | rfl <;> exact .inl ⟨_, rfl, sz_of (by decide)⟩
        generalize xs ++ [V.str "a1", .str "a_b", .str "1", .str "a\n", .str "-"] = zs at h15 e15 hod'
        generalize upd H14 l (.lst zs) = H15 at e15 h15
        refine q_cut (M := fun σ'' H'' => ∃ v12, σ'' = [some (.ref a), some (.ref p), some (.int way), some (.ref b), some (.ref ca'), some (.ref oa), some (.ref ml), w7, some (.ref x1), some (.ref x2), v10, some (.ref l), v12, none] ∧ Ex H15 H'') ?_ ?_
        · refine s_forL (ev_var (v := .ref l) rfl) (sq_of h15) (fun j σ'' H'' => ∃ v12, σ'' = [some (.ref a), some (.ref p), some (.int way), some (.ref b), some (.ref ca'), some (.ref oa), some (.ref ml), w7, some (.ref x1), some (.ref x2), v10, some (.ref l), v12, none] ∧ Ex H15 H'') (fun H16 e16 => ⟨_, rfl, e16⟩) (fun j σ'' H'' _ ⟨_, _, q⟩ => sq_of (q _ _ h15)) ?_ (fun _ _ q => q)
          rintro j v σ'' H16 hj ⟨v12, rfl, e16⟩
          have f16 := e15.trans e16
          exact s_oddTurn (a := ca') (p := x1) rfl rfl rfl (f16 _ _ hx1G) (pa1G.ex f16) (repG.ex f16) (fun n hn => by obtain ⟨c, hc, rfl⟩ := List.mem_map.mp hn; exact (bt'.nm c hc).1) ((hod' v (List.mem_of_getElem? hj)).ex f16) fun H17 e17 => ⟨_, rfl, e16.trans e17⟩
        · rintro σ'' H16 ⟨v12, rfl, e16⟩
          have f16 := e15.trans e16
          have lr : ∀ {v : V}, (v = .bl true ∨ v = .int 0) → SpL (sp_refused K CP CS) [.ref x1, v] H16 [v, v] := fun {v} hv => l_refused (f16 _ _ hx1G) (pa1G.ex f16) (.inr ⟨by
            rcases hv with rfl | rfl
            · exact ⟨false, .inr ⟨rfl, _, .base (.bl true), kit_ty (by decide +kernel)⟩, fun z => nomatch z⟩
            · exact ⟨false, .inr ⟨rfl, _, .base (.int 0), kit_ty (by decide +kernel)⟩, fun z => nomatch z⟩, rfl⟩)
          refine q_catLL (el_call (ea_cons (ev_var (v := .ref x1) rfl) (ea_cons (ev_c (v := .bl true)) ea_nil)) (lr (.inl rfl))) (el_call (ea_cons (ev_var (v := .ref x1) rfl) (ea_cons (ev_c (v := .int 0)) ea_nil)) (lr (.inr rfl))) (show 2 + 2 ≤ 100000 by decide) fun tl H17 _ e17 h17 => ?_
          have isB : ∀ {σ' : L2.St} {G' : Hp} {x : V} {t : Value} {b : Bool}, σ'[12]? = some (some x) → TyX K G' x t → PySem.W.kitOne K t (.type "bool") = some b → EvT (tB (tCB (rIsi K) (tCons (tVar 12) (tCons (tC (.ty "bool")) tNil)))) σ' G' b := fun h1 h2 h3 =>
            et_B (ev_cb (ea_cons (ev_var h1) (ea_cons ev_c ea_nil)) (rc_isi (.ty "bool") h2 h3))
          refine s_ret (v := .bl true) (ev_is (ev_op (ev_cbL (el_lcW (fun i => decide (i < 2)) (fun i => .bl true) (ei_list (ev_var (v := .ref tl) rfl) (sq_of h17)) (by decide) (fun _ => rfl) (fun i x H18 e18 hx => ?_) (fun i x H18 e18 hx hi => ?_)) (fun pq H18 _ h18 => rc_lenS (.inl (sq_of h18)))) ev_c (rv_eq rfl)) rfl) fun H18 e18 => k H18 (p12.sub.trans (exG.trans (f16.trans (e17.trans e18))))
          · match i, hx with
            | 0, hx => cases hx; exact isB rfl (.base (.bl true)) (kit_ty (by decide +kernel))
            | 1, hx => cases hx; exact isB rfl (.base (.bl true)) (kit_ty (by decide +kernel))
            | 2, hx => cases hx; exact isB rfl (.base (.int 0)) (kit_ty (by decide +kernel))
            | 3, hx => cases hx; exact isB rfl (.base (.int 0)) (kit_ty (by decide +kernel))
            | n + 4, hx => cases hx
          · match i, hx with
            | 0, hx => cases hx; exact ev_var rfl
            | 1, hx => cases hx; exact ev_var rfl
            | n + 2, _ => exact absurd (of_decide_eq_true hi) (by omega)
end
end EE
set_option Elab.async false
set_option linter.all false
set_option maxRecDepth 100000
set_option maxHeartbeats 1000000
namespace EE
open PySem L2 Evl
open C8 (Cal cal0 pe_c fnScope_by)

section
variable {w : World} {K : PySem.W.Frag} {mg : Str → Option Value} {h : Heap}
theorem defx_mk (X : K.In h) (G : h.Ns mainGlobals mg) {x : Str} {st : Stmt} {ps : List Str} {f : Addr} {oc kV dc pm cd ct : Value} {od an : Option Addr} {sl : Array (Option Value)}
    (a : PySem.W.nsIn K mainGlobals x = some (some (.ref f))) (l : K.lookup f = some ⟨oc, od, .func (PySem.W.fnOf x x (C8.fnArgs st) (C8.fnBody st) (C8.fnScope st) .none kV dc pm an cd ct), sl⟩) (c : PySem.W.codeIn K cd x = true) (k : PySem.W.keepIn K (.ref f) = true)
    (hb : ∀ (kV doc pm : Value) (an : Option Addr) (cdv ct : Value) (us : List Value), us.length = ps.length → bindArgs (PySem.W.fnOf x x (C8.fnArgs st) (C8.fnBody st) (C8.fnScope st) .none kV doc pm an cdv ct) ⟨us, []⟩ = pure (ps.zip us)) : DefX K mg x st ps := by
  have F : C8.Fun K x x st f (PySem.W.fnOf x x (C8.fnArgs st) (C8.fnBody st) (C8.fnScope st) .none kV dc pm an cd ct) := ⟨oc, od, .none, kV, dc, pm, an, cd, ct, sl, rfl, l, c⟩
  exact ⟨f, _, ⟨F, PySem.W.mg_of X G a, k⟩, F.binds rfl hb⟩
theorem cval_mk (X : K.In h) (G : h.Ns mainGlobals mg) {x : Str} {v : V} {u : Value} (a : PySem.W.nsIn K mainGlobals x = some (some u)) (r : RelV v u) : ∃ u, mg x = some u ∧ RelV v u := ⟨_, PySem.W.mg_of X G a, r⟩
theorem ktup_mk {a : Addr} {xs : List V} {od : Option Addr} {its : Array Value} {n : Nat} {sl : Array (Option Value)} (l : K.lookup a = some ⟨.type "tuple", od, .seq its n, sl⟩) (hz : its.size ≤ sizeLine) (hv : Vals xs its.toList) : ∀ H, SqT K H a xs :=
  fun H => .inr ⟨_, its, n, l, rfl, rfl, hz, hv⟩
theorem ctup_mk (X : K.In h) (G : h.Ns mainGlobals mg) {x : Str} {a : Addr} {xs : List V} {od : Option Addr} {its : Array Value} {n : Nat} {sl : Array (Option Value)} (e : PySem.W.nsIn K mainGlobals x = some (some (.ref a))) (l : K.lookup a = some ⟨.type "tuple", od, .seq its n, sl⟩) (hz : its.size ≤ sizeLine) (hv : Vals xs its.toList) :
    ∃ a, mg x = some (.ref a) ∧ ∀ H, SqT K H a xs := ⟨a, PySem.W.mg_of X G e, ktup_mk l hz hv⟩
theorem shapes_mk (X : K.In h) (G : h.Ns mainGlobals mg) {x key : Str} {a r : Addr} {xs : List V} {es : Array DictEntry} {m : Nat} {od : Option Addr} {its : Array Value} {n : Nat} {sl : Array (Option Value)} (e : PySem.W.nsIn K mainGlobals x = some (some (.ref a)))
    (d : K.lookup a = some ⟨.type "dict", none, .dict es m, #[]⟩) (kl : PySem.W.KeysLit w.params es.toList) (ns : (a == sysModules) = false) (g : PySem.W.nsIn K a key = some (some (.ref r)))
    (l : K.lookup r = some ⟨.type "tuple", od, .seq its n, sl⟩) (hz : its.size ≤ sizeLine) (hv : Vals xs its.toList) :
    ∃ a r, mg x = some (.ref a) ∧ KD K w a ∧ PySem.W.nsIn K a key = some (some (.ref r)) ∧ ∀ H, SqT K H r xs := ⟨a, r, PySem.W.mg_of X G e, ⟨es, m, d, kl, ns⟩, g, ktup_mk l hz hv⟩
theorem checks_mk (X : K.In h) (G : h.Ns mainGlobals mg) {x y key : Str} {a f : Addr} {es : Array DictEntry} {m : Nat} (e : PySem.W.nsIn K mainGlobals x = some (some (.ref a)))
    (d : K.lookup a = some ⟨.type "dict", none, .dict es m, #[]⟩) (kl : PySem.W.KeysLit w.params es.toList) (ns : (a == sysModules) = false) (e2 : PySem.W.nsIn K mainGlobals y = some (some (.ref f))) (g : PySem.W.nsIn K a key = some (some (.ref f))) :
    ∃ a f, mg x = some (.ref a) ∧ KD K w a ∧ mg y = some (.ref f) ∧ PySem.W.nsIn K a key = some (some (.ref f)) := ⟨a, f, PySem.W.mg_of X G e, ⟨es, m, d, kl, ns⟩, PySem.W.mg_of X G e2, g⟩
theorem no_nil {C : Addr} : ∀ n ∈ ([] : List Str), NoAttr K C n := fun _ h => by cases h
theorem no_cons {C : Addr} {f : Str} {fs : List Str} (h : PySem.W.findIn K (.ref C) f = some none) (t : ∀ n ∈ fs, NoAttr K C n) : ∀ n ∈ f :: fs, NoAttr K C n := fun n hn => by
  rcases List.mem_cons.mp hn with rfl | hn
  · exact h
  · exact t n hn
theorem mkC_mk (X : K.In h) (G : h.Ns mainGlobals mg) {x qual : Str} {st : Stmt} {ps fields : List Str} {C f : Addr} {oc kV dc pm cd ct : Value} {od an : Option Addr} {sl : Array (Option Value)} (a : PySem.W.nsIn K mainGlobals x = some (some (.ref C)))
    (pg : PySem.W.plainGet K C Str.empty = true) (hd : PySem.W.hasDictIn K C = true) (po : PySem.W.plainOver K C = true) (sa : PySem.W.findIn K (.ref C) "__setattr__" = some (some (.builtin "object.__setattr__")))
    (mk : PySem.W.makesIn K C = true) (i : PySem.W.findIn K (.ref C) "__init__" = some (some (.ref f))) (isf : PySem.W.isFn K (.ref f) = true) (kc : PySem.W.keepIn K (.ref C) = true)
    (l : K.lookup f = some ⟨oc, od, .func (PySem.W.fnOf "__init__" qual (C8.fnArgs st) (C8.fnBody st) (C8.fnScope st) .none kV dc pm an cd ct), sl⟩) (c : PySem.W.codeIn K cd qual = true) (no : ∀ n ∈ fields, NoAttr K C n)
    (hb : ∀ (kV doc pm : Value) (an : Option Addr) (cdv ct : Value) (us : List Value), us.length = ps.length → bindArgs (PySem.W.fnOf "__init__" qual (C8.fnArgs st) (C8.fnBody st) (C8.fnScope st) .none kV doc pm an cdv ct) ⟨us, []⟩ = pure (ps.zip us)) : ∃ C, MkC K mg x qual st ps fields C := by
  have F : C8.Fun K "__init__" qual st f (PySem.W.fnOf "__init__" qual (C8.fnArgs st) (C8.fnBody st) (C8.fnScope st) .none kV dc pm an cd ct) := ⟨oc, od, .none, kV, dc, pm, an, cd, ct, sl, rfl, l, c⟩
  exact ⟨C, PySem.W.mg_of X G a, ⟨pg, hd, po, sa⟩, ⟨f, _, ⟨mk, i, isf, kc⟩, F, F.binds rfl hb⟩, no⟩
theorem exm_own {C : Addr} (b : PySem.W.subIn K (.ref C) (.type "BaseException") = some true) (i : PySem.W.isClsIn K C = true) (t : PySem.W.typeIn K (.ref C) = some (.type "type")) (s : PySem.W.subIn K (.ref C) (.ref C) = some true) : PySem.W.exmOne K (.ref C) (.ref C) = some true := by
  unfold PySem.W.exmOne
  rw [b]
  show PySem.W.kitCls K (.ref C) (.ref C) = some true
  unfold PySem.W.kitCls
  have q : (PySem.W.clsIn K C).isSome = true := i
  simp [q, t, s]
theorem nn_mk (X : K.In h) (G : h.Ns mainGlobals mg) {C f N : Addr} {nm q : Str} {bs bm sub : List Value} {sn : List Str} {ab : Bool} {col : Option Bool} {dd : Option Addr} {k0 k1 k2 k3 k5 : Option Value} {oc kV dc pm cd ct : Value} {od an : Option Addr} {sl : Array (Option Value)} (a : PySem.W.nsIn K mainGlobals "NoName" = some (some (.ref C)))
    (cl : K.lookup C = some (PySem.excClassObj nm q C N bs bm true sn sub ab col dd k0 k1 k2 k3 k5 "ValueError.__new__")) (rv : PySem.HandSPX.refsVE bm = true)
    (sa : PySem.W.findIn K (.ref C) "__setattr__" = some (some (.builtin "object.__setattr__"))) (exC : PySem.W.subIn K (.ref C) (.type "BaseException") = some true) (tyC : PySem.W.typeIn K (.ref C) = some (.type "type")) (kC : PySem.W.keepIn K (.ref C) = true)
    (ga : PySem.W.findIn K (.ref C) "__getattribute__" = some (some (.builtin "BaseException.__getattribute__"))) (gg : PySem.W.findIn K (.ref C) "__getattr__" = some none) (hdC : PySem.W.hasDictIn K C = true)
    (no : PySem.W.findIn K (.ref C) "name" = some none) (is : PySem.W.isClsIn K C = true) (sb : PySem.W.subIn K (.ref C) (.ref C) = some true) (i : PySem.W.findIn K (.ref C) "__init__" = some (some (.ref f))) (ti : PySem.W.typeIn K (.ref f) = some (.type "function"))
    (l : K.lookup f = some ⟨oc, od, .func (PySem.W.fnOf "__init__" "NoName.__init__" (C8.fnArgs s_NoName_init) (C8.fnBody s_NoName_init) (C8.fnScope s_NoName_init) .none kV dc pm an cd ct), sl⟩) (c : PySem.W.codeIn K cd "NoName.__init__" = true)
    (hb : ∀ (kV doc pm : Value) (an : Option Addr) (cdv ct : Value) (us : List Value), us.length = P_NoName_init.length → bindArgs (PySem.W.fnOf "__init__" "NoName.__init__" (C8.fnArgs s_NoName_init) (C8.fnBody s_NoName_init) (C8.fnScope s_NoName_init) .none kV doc pm an cdv ct) ⟨us, []⟩ = pure (P_NoName_init.zip us)) : ∃ C, NnX K mg C := by
  have F : C8.Fun K "__init__" "NoName.__init__" s_NoName_init f (PySem.W.fnOf "__init__" "NoName.__init__" (C8.fnArgs s_NoName_init) (C8.fnBody s_NoName_init) (C8.fnScope s_NoName_init) .none kV dc pm an cd ct) := ⟨oc, od, .none, kV, dc, pm, an, cd, ct, sl, rfl, l, c⟩
  exact ⟨C, PySem.W.mg_of X G a, ⟨⟨_, _, _, _, _, _, _, _, _, _, _, _, _, _, _, cl, rv⟩, sa, exC, tyC, kC⟩, ⟨ga, gg, exC, hdC⟩, no, exm_own exC is tyC sb, f, _, i, ti, F, F.binds rfl hb⟩
theorem fin {l : PySem.W.OpenLaw} {fa f : Addr} {oc kV dc pm cd ct : Value} {od an : Option Addr} {sl : Array (Option Value)} (X : K.In h) (G : h.Ns mainGlobals mg) (hfa : mg "law" = some (.ref fa)) (T : Txt6 w K mg)
    (a : PySem.W.nsIn K mainGlobals "law" = some (some (.ref f))) (lk : K.lookup f = some ⟨oc, od, .func (PySem.W.fnOf "law" "law" (C8.fnArgs s_law) (C8.fnBody s_law) (C8.fnScope s_law) .none kV dc pm an cd ct), sl⟩) (c : PySem.W.codeIn K cd "law" = true) :
    ∃ fd : FuncData, (∀ (s : Shared) (v : Value), BindsTo s fd ⟨[v], []⟩ [("script", v)]) ∧ ∀ base : Heap, K.In base → base.Ns mainGlobals mg → FnOk l.prog w K mg base C8.CX0 12 fa fd ["script"] (sp_law K) := by
  have e := hfa.symm.trans (PySem.W.mg_of X G a)
  cases e
  have F : C8.Fun K "law" "law" s_law fa (PySem.W.fnOf "law" "law" (C8.fnArgs s_law) (C8.fnBody s_law) (C8.fnScope s_law) .none kV dc pm an cd ct) := ⟨oc, od, .none, kV, dc, pm, an, cd, ct, sl, rfl, lk, c⟩
  exact ⟨_, fun s v => .of_eq rfl, fun base _ _ => fn_law T F⟩
end
end EE
set_option Elab.async false
open PySem PySem.W PyProof.Rows
set_option maxRecDepth 100000
set_option maxHeartbeats 0
open_top hd06 for PySem.Challenge.rw_everyend_k06_fields_and_methods_by_paren
set_option Elab.async false
set_option linter.all false
open PySem PySem.W PyProof.Rows in
set_option maxRecDepth 100000 in
set_option maxHeartbeats 0 in
theorem PySem.Challenge.cw_everyend_k06_fields_and_methods_by_paren_holds : PySem.Challenge.rw_everyend_k06_fields_and_methods_by_paren.Holds := by
  refine hd06 ?_
  k_fill
  refine L2.walk_ofK (l := PySem.Challenge.rw_everyend_k06_fields_and_methods_by_paren) (n := 63) (k := 12) (x := "script") (CX := C8.CX0) (sp := EE.sp_law) rfl (by decide) rfl ⟨rfl, by decide, by decide⟩ (fun w h Y => PySem.W.kIn_of Y) ?F ?G fun _ _ _ _ z => z
  case G => exact fun K H a ns hl _ hS => ⟨.bl true, ⟨a, ns, rfl, hS, hl, rfl⟩, fun _ _ => rfl⟩
  case F =>
    intro w mg fa h KX G hmg
    refine' EE.fin KX G hmg ?T ?a ?lk ?c
    (case a => k_is)
    (case lk => k_is)
    (case c => k_is)
    (case T =>
      refine' EE.Txt6.mk ?to4 ?absT ?rangeT ?d_pot ?d_take ?d_name ?d_turned ?d_methods ?d_classes ?d_line ?d_refused ?d_right ?d_law
      (case to4 =>
        refine' EE.Txt5.mk ?to3 ?m_NoName ?d_fields_of ?d_method_of
        (case to3 =>
          refine' EE.Txt4.mk ?to2 ?m_Program
          (case to2 =>
            refine' EE.Txt3.mk ?to1 ?m_Sheet
            (case to1 =>
              refine' EE.Txt2.mk ?to0 ?m_Spot ?enumT
              (case to0 =>
                refine' EE.Txt.mk ?isi ?len ?all ?strT ?d_is_name ?d_are_names ?setT ?intT ?boolT ?tupT ?dictT ?listT ?d_is_integer_between ?d_is_tuple_of_names ?d_is_tuple_of_unlike_names ?d_family_of ?d_goes_in_a_ring ?d_all_fields ?d_all_methods ?revT ?any ?zipT ?sumT ?sortedT ?d_is_block ?d_is_statement ?d_shape_of ?d_is_part ?d_has_return ?d_blocks_of ?d_parts_of ?d_statements_of ?d_size_of ?d_is_expression ?d_plain_functions ?d_count_lasts ?d_free_names ?d_strings_in ?d_without_lasts ?d_plain_statements ?d_spots_of ?d_lay_block ?d_lay_statement ?d_lay_inner ?d_expressions_of ?d_copy_of_classes ?d_are_classes ?d_is_class ?d_has_right_family ?d_are_functions ?d_is_function ?d_are_methods_of ?d_first_wrong_part ?c_MOST_SHARED ?c_MOST_CLASSES ?c_MOST_FUNCTIONS ?c_MOST_PARAMETERS ?c_MOST_OWN_FIELDS ?c_MOST_FIELDS ?c_SHAPES ?c_CHECKS ?c_BLOCKS ?c_MOST_DEEP ?c_MOST_STATEMENTS ?c_SECOND_LETTERS ?c_KINDS ?d_is_dict_of_names
                (case isi => refine' PySem.W.mg_none_of KX G ?_; k_is)
                (case len => refine' PySem.W.mg_none_of KX G ?_; k_is)
                (case all => refine' PySem.W.mg_none_of KX G ?_; k_is)
                (case strT => refine' PySem.W.mg_none_of KX G ?_; k_is)
                (case d_is_name => refine' EE.defx_mk KX G ?a ?l ?c ?k ?hb; (case a => k_is); (case l => k_is); (case c => k_is); (case k => k_is); (case hb => exact fun _ _ _ _ _ _ us hl => match us, hl with | [_], _ => rfl))
                (case d_are_names => refine' EE.defx_mk KX G ?a ?l ?c ?k ?hb; (case a => k_is); (case l => k_is); (case c => k_is); (case k => k_is); (case hb => exact fun _ _ _ _ _ _ us hl => match us, hl with | [_], _ => rfl))
                (case setT => refine' PySem.W.mg_none_of KX G ?_; k_is)
                (case intT => refine' PySem.W.mg_none_of KX G ?_; k_is)
                (case boolT => refine' PySem.W.mg_none_of KX G ?_; k_is)
                (case tupT => refine' PySem.W.mg_none_of KX G ?_; k_is)
                (case dictT => refine' PySem.W.mg_none_of KX G ?_; k_is)
                (case listT => refine' PySem.W.mg_none_of KX G ?_; k_is)
                (case d_is_integer_between => refine' EE.defx_mk KX G ?a ?l ?c ?k ?hb; (case a => k_is); (case l => k_is); (case c => k_is); (case k => k_is); (case hb => exact fun _ _ _ _ _ _ us hl => match us, hl with | [_, _, _], _ => rfl))
                (case d_is_tuple_of_names => refine' EE.defx_mk KX G ?a ?l ?c ?k ?hb; (case a => k_is); (case l => k_is); (case c => k_is); (case k => k_is); (case hb => exact fun _ _ _ _ _ _ us hl => match us, hl with | [_, _], _ => rfl))
                (case d_is_tuple_of_unlike_names => refine' EE.defx_mk KX G ?a ?l ?c ?k ?hb; (case a => k_is); (case l => k_is); (case c => k_is); (case k => k_is); (case hb => exact fun _ _ _ _ _ _ us hl => match us, hl with | [_, _], _ => rfl))
                (case d_family_of => refine' EE.defx_mk KX G ?a ?l ?c ?k ?hb; (case a => k_is); (case l => k_is); (case c => k_is); (case k => k_is); (case hb => exact fun _ _ _ _ _ _ us hl => match us, hl with | [_, _], _ => rfl))
                (case d_goes_in_a_ring => refine' EE.defx_mk KX G ?a ?l ?c ?k ?hb; (case a => k_is); (case l => k_is); (case c => k_is); (case k => k_is); (case hb => exact fun _ _ _ _ _ _ us hl => match us, hl with | [_, _], _ => rfl))
                (case d_all_fields => refine' EE.defx_mk KX G ?a ?l ?c ?k ?hb; (case a => k_is); (case l => k_is); (case c => k_is); (case k => k_is); (case hb => exact fun _ _ _ _ _ _ us hl => match us, hl with | [_, _], _ => rfl))
                (case d_all_methods => refine' EE.defx_mk KX G ?a ?l ?c ?k ?hb; (case a => k_is); (case l => k_is); (case c => k_is); (case k => k_is); (case hb => exact fun _ _ _ _ _ _ us hl => match us, hl with | [_, _], _ => rfl))
                (case revT => refine' PySem.W.mg_none_of KX G ?_; k_is)
                (case any => refine' PySem.W.mg_none_of KX G ?_; k_is)
                (case zipT => refine' PySem.W.mg_none_of KX G ?_; k_is)
                (case sumT => refine' PySem.W.mg_none_of KX G ?_; k_is)
                (case sortedT => refine' PySem.W.mg_none_of KX G ?_; k_is)
                (case d_is_block => refine' EE.defx_mk KX G ?a ?l ?c ?k ?hb; (case a => k_is); (case l => k_is); (case c => k_is); (case k => k_is); (case hb => exact fun _ _ _ _ _ _ us hl => match us, hl with | [_, _, _], _ => rfl))
                (case d_is_statement => refine' EE.defx_mk KX G ?a ?l ?c ?k ?hb; (case a => k_is); (case l => k_is); (case c => k_is); (case k => k_is); (case hb => exact fun _ _ _ _ _ _ us hl => match us, hl with | [_, _, _], _ => rfl))
                (case d_shape_of => refine' EE.defx_mk KX G ?a ?l ?c ?k ?hb; (case a => k_is); (case l => k_is); (case c => k_is); (case k => k_is); (case hb => exact fun _ _ _ _ _ _ us hl => match us, hl with | [_], _ => rfl))
                (case d_is_part => refine' EE.defx_mk KX G ?a ?l ?c ?k ?hb; (case a => k_is); (case l => k_is); (case c => k_is); (case k => k_is); (case hb => exact fun _ _ _ _ _ _ us hl => match us, hl with | [_, _, _, _], _ => rfl))
                (case d_has_return => refine' EE.defx_mk KX G ?a ?l ?c ?k ?hb; (case a => k_is); (case l => k_is); (case c => k_is); (case k => k_is); (case hb => exact fun _ _ _ _ _ _ us hl => match us, hl with | [_], _ => rfl))
                (case d_blocks_of => refine' EE.defx_mk KX G ?a ?l ?c ?k ?hb; (case a => k_is); (case l => k_is); (case c => k_is); (case k => k_is); (case hb => exact fun _ _ _ _ _ _ us hl => match us, hl with | [_], _ => rfl))
                (case d_parts_of => refine' EE.defx_mk KX G ?a ?l ?c ?k ?hb; (case a => k_is); (case l => k_is); (case c => k_is); (case k => k_is); (case hb => exact fun _ _ _ _ _ _ us hl => match us, hl with | [_], _ => rfl))
                (case d_statements_of => refine' EE.defx_mk KX G ?a ?l ?c ?k ?hb; (case a => k_is); (case l => k_is); (case c => k_is); (case k => k_is); (case hb => exact fun _ _ _ _ _ _ us hl => match us, hl with | [_], _ => rfl))
                (case d_size_of => refine' EE.defx_mk KX G ?a ?l ?c ?k ?hb; (case a => k_is); (case l => k_is); (case c => k_is); (case k => k_is); (case hb => exact fun _ _ _ _ _ _ us hl => match us, hl with | [_], _ => rfl))
                (case d_is_expression => refine' EE.defx_mk KX G ?a ?l ?c ?k ?hb; (case a => k_is); (case l => k_is); (case c => k_is); (case k => k_is); (case hb => exact fun _ _ _ _ _ _ us hl => match us, hl with | [_, _], _ => rfl))
                (case d_plain_functions => refine' EE.defx_mk KX G ?a ?l ?c ?k ?hb; (case a => k_is); (case l => k_is); (case c => k_is); (case k => k_is); (case hb => exact fun _ _ _ _ _ _ us hl => match us, hl with | [_], _ => rfl))
                (case d_count_lasts => refine' EE.defx_mk KX G ?a ?l ?c ?k ?hb; (case a => k_is); (case l => k_is); (case c => k_is); (case k => k_is); (case hb => exact fun _ _ _ _ _ _ us hl => match us, hl with | [_], _ => rfl))
                (case d_free_names => refine' EE.defx_mk KX G ?a ?l ?c ?k ?hb; (case a => k_is); (case l => k_is); (case c => k_is); (case k => k_is); (case hb => exact fun _ _ _ _ _ _ us hl => match us, hl with | [_], _ => rfl))
                (case d_strings_in => refine' EE.defx_mk KX G ?a ?l ?c ?k ?hb; (case a => k_is); (case l => k_is); (case c => k_is); (case k => k_is); (case hb => exact fun _ _ _ _ _ _ us hl => match us, hl with | [_], _ => rfl))
                (case d_without_lasts => refine' EE.defx_mk KX G ?a ?l ?c ?k ?hb; (case a => k_is); (case l => k_is); (case c => k_is); (case k => k_is); (case hb => exact fun _ _ _ _ _ _ us hl => match us, hl with | [_, _], _ => rfl))
                (case d_plain_statements => refine' EE.defx_mk KX G ?a ?l ?c ?k ?hb; (case a => k_is); (case l => k_is); (case c => k_is); (case k => k_is); (case hb => exact fun _ _ _ _ _ _ us hl => match us, hl with | [_, _], _ => rfl))
                (case d_spots_of => refine' EE.defx_mk KX G ?a ?l ?c ?k ?hb; (case a => k_is); (case l => k_is); (case c => k_is); (case k => k_is); (case hb => exact fun _ _ _ _ _ _ us hl => match us, hl with | [_], _ => rfl))
                (case d_lay_block => refine' EE.defx_mk KX G ?a ?l ?c ?k ?hb; (case a => k_is); (case l => k_is); (case c => k_is); (case k => k_is); (case hb => exact fun _ _ _ _ _ _ us hl => match us, hl with | [_, _, _, _], _ => rfl))
                (case d_lay_statement => refine' EE.defx_mk KX G ?a ?l ?c ?k ?hb; (case a => k_is); (case l => k_is); (case c => k_is); (case k => k_is); (case hb => exact fun _ _ _ _ _ _ us hl => match us, hl with | [_, _, _, _], _ => rfl))
                (case d_lay_inner => refine' EE.defx_mk KX G ?a ?l ?c ?k ?hb; (case a => k_is); (case l => k_is); (case c => k_is); (case k => k_is); (case hb => exact fun _ _ _ _ _ _ us hl => match us, hl with | [_, _, _, _], _ => rfl))
                (case d_expressions_of => refine' EE.defx_mk KX G ?a ?l ?c ?k ?hb; (case a => k_is); (case l => k_is); (case c => k_is); (case k => k_is); (case hb => exact fun _ _ _ _ _ _ us hl => match us, hl with | [_], _ => rfl))
                (case d_copy_of_classes => refine' EE.defx_mk KX G ?a ?l ?c ?k ?hb; (case a => k_is); (case l => k_is); (case c => k_is); (case k => k_is); (case hb => exact fun _ _ _ _ _ _ us hl => match us, hl with | [_], _ => rfl))
                (case d_are_classes => refine' EE.defx_mk KX G ?a ?l ?c ?k ?hb; (case a => k_is); (case l => k_is); (case c => k_is); (case k => k_is); (case hb => exact fun _ _ _ _ _ _ us hl => match us, hl with | [_], _ => rfl))
                (case d_is_class => refine' EE.defx_mk KX G ?a ?l ?c ?k ?hb; (case a => k_is); (case l => k_is); (case c => k_is); (case k => k_is); (case hb => exact fun _ _ _ _ _ _ us hl => match us, hl with | [_, _], _ => rfl))
                (case d_has_right_family => refine' EE.defx_mk KX G ?a ?l ?c ?k ?hb; (case a => k_is); (case l => k_is); (case c => k_is); (case k => k_is); (case hb => exact fun _ _ _ _ _ _ us hl => match us, hl with | [_, _], _ => rfl))
                (case d_are_functions => refine' EE.defx_mk KX G ?a ?l ?c ?k ?hb; (case a => k_is); (case l => k_is); (case c => k_is); (case k => k_is); (case hb => exact fun _ _ _ _ _ _ us hl => match us, hl with | [_], _ => rfl))
                (case d_is_function => refine' EE.defx_mk KX G ?a ?l ?c ?k ?hb; (case a => k_is); (case l => k_is); (case c => k_is); (case k => k_is); (case hb => exact fun _ _ _ _ _ _ us hl => match us, hl with | [_], _ => rfl))
                (case d_are_methods_of => refine' EE.defx_mk KX G ?a ?l ?c ?k ?hb; (case a => k_is); (case l => k_is); (case c => k_is); (case k => k_is); (case hb => exact fun _ _ _ _ _ _ us hl => match us, hl with | [_, _], _ => rfl))
                (case d_first_wrong_part => refine' EE.defx_mk KX G ?a ?l ?c ?k ?hb; (case a => k_is); (case l => k_is); (case c => k_is); (case k => k_is); (case hb => exact fun _ _ _ _ _ _ us hl => match us, hl with | [_, _, _], _ => rfl))
                (case c_MOST_SHARED => refine' EE.cval_mk KX G ?a ?r; (case a => k_is); (case r => exact ⟨_, rfl⟩))
                (case c_MOST_CLASSES => refine' EE.cval_mk KX G ?a ?r; (case a => k_is); (case r => exact ⟨_, rfl⟩))
                (case c_MOST_FUNCTIONS => refine' EE.cval_mk KX G ?a ?r; (case a => k_is); (case r => exact ⟨_, rfl⟩))
                (case c_MOST_PARAMETERS => refine' EE.cval_mk KX G ?a ?r; (case a => k_is); (case r => exact ⟨_, rfl⟩))
                (case c_MOST_OWN_FIELDS => refine' EE.cval_mk KX G ?a ?r; (case a => k_is); (case r => exact ⟨_, rfl⟩))
                (case c_MOST_FIELDS => refine' EE.cval_mk KX G ?a ?r; (case a => k_is); (case r => exact ⟨_, rfl⟩))
                (case c_SHAPES => refine' EE.shapes_mk KX G ?a ?d ?kl ?ns ?g ?l ?hz ?hv; (case a => k_is); (case d => k_is); (case kl => exact ⟨⟨_, _, rfl, rfl⟩, ⟨⟨_, _, rfl, rfl⟩, ⟨⟨_, _, rfl, rfl⟩, ⟨⟨_, _, rfl, rfl⟩, ⟨⟨_, _, rfl, rfl⟩, ⟨⟨_, _, rfl, rfl⟩, ⟨⟨_, _, rfl, rfl⟩, ⟨⟨_, _, rfl, rfl⟩, ⟨⟨_, _, rfl, rfl⟩, ⟨⟨_, _, rfl, rfl⟩, ⟨⟨_, _, rfl, rfl⟩, ⟨⟨_, _, rfl, rfl⟩, ⟨⟨_, _, rfl, rfl⟩, ⟨⟨_, _, rfl, rfl⟩, ⟨⟨_, _, rfl, rfl⟩, ⟨⟨_, _, rfl, rfl⟩, ⟨⟨_, _, rfl, rfl⟩, ⟨⟨_, _, rfl, rfl⟩, ⟨⟨_, _, rfl, rfl⟩, trivial⟩⟩⟩⟩⟩⟩⟩⟩⟩⟩⟩⟩⟩⟩⟩⟩⟩⟩⟩); (case ns => decide); (case g => k_is); (case l => k_is); (case hz => decide); (case hv => exact .cons ⟨_, rfl⟩ (.nil)))
                (case c_CHECKS => refine' EE.checks_mk KX G ?a ?d ?kl ?ns ?e2 ?g; (case a => k_is); (case d => k_is); (case kl => exact ⟨⟨_, _, rfl, rfl⟩, ⟨⟨_, _, rfl, rfl⟩, ⟨⟨_, _, rfl, rfl⟩, ⟨⟨_, _, rfl, rfl⟩, ⟨⟨_, _, rfl, rfl⟩, ⟨⟨_, _, rfl, rfl⟩, ⟨⟨_, _, rfl, rfl⟩, ⟨⟨_, _, rfl, rfl⟩, ⟨⟨_, _, rfl, rfl⟩, ⟨⟨_, _, rfl, rfl⟩, trivial⟩⟩⟩⟩⟩⟩⟩⟩⟩⟩); (case ns => decide); (case e2 => k_is); (case g => k_is))
                (case c_BLOCKS => refine' EE.ctup_mk KX G ?a ?l ?hz ?hv; (case a => k_is); (case l => k_is); (case hz => decide); (case hv => exact .cons ⟨_, rfl⟩ (.cons ⟨_, rfl⟩ (.nil))))
                (case c_MOST_DEEP => refine' EE.cval_mk KX G ?a ?r; (case a => k_is); (case r => exact ⟨_, rfl⟩))
                (case c_MOST_STATEMENTS => refine' EE.cval_mk KX G ?a ?r; (case a => k_is); (case r => exact ⟨_, rfl⟩))
                (case c_SECOND_LETTERS => refine' EE.cval_mk KX G ?a ?r; (case a => k_is); (case r => exact ⟨_, rfl⟩))
                (case c_KINDS => refine' EE.ctup_mk KX G ?a ?l ?hz ?hv; (case a => k_is); (case l => k_is); (case hz => decide); (case hv => exact .cons ⟨_, rfl⟩ (.cons ⟨_, rfl⟩ (.cons ⟨_, rfl⟩ (.nil)))))
                (case d_is_dict_of_names => refine' EE.defx_mk KX G ?a ?l ?c ?k ?hb; (case a => k_is); (case l => k_is); (case c => k_is); (case k => k_is); (case hb => exact fun _ _ _ _ _ _ us hl => match us, hl with | [_], _ => rfl)))
              (case m_Spot => refine' EE.mkC_mk KX G ?a ?pg ?hd ?po ?sa ?mk ?i ?isf ?kc ?l ?c ?no ?hb; (case a => k_is); (case pg => k_is); (case hd => k_is); (case po => k_is); (case sa => k_is); (case mk => k_is); (case i => k_is); (case isf => k_is); (case kc => k_is); (case l => k_is); (case c => k_is); (case no => refine' EE.no_cons ?n0 (EE.no_cons ?n1 (EE.no_cons ?n2 (EE.no_cons ?n3 (EE.no_cons ?n4 (EE.no_cons ?n5 (EE.no_nil)))))); (case n0 => k_is); (case n1 => k_is); (case n2 => k_is); (case n3 => k_is); (case n4 => k_is); (case n5 => k_is)); (case hb => exact fun _ _ _ _ _ _ us hl => match us, hl with | [_, _, _, _], _ => rfl))
              (case enumT => refine' PySem.W.mg_none_of KX G ?_; k_is))
            (case m_Sheet => refine' EE.mkC_mk KX G ?a ?pg ?hd ?po ?sa ?mk ?i ?isf ?kc ?l ?c ?no ?hb; (case a => k_is); (case pg => k_is); (case hd => k_is); (case po => k_is); (case sa => k_is); (case mk => k_is); (case i => k_is); (case isf => k_is); (case kc => k_is); (case l => k_is); (case c => k_is); (case no => refine' EE.no_cons ?n0 (EE.no_cons ?n1 (EE.no_cons ?n2 (EE.no_cons ?n3 (EE.no_cons ?n4 (EE.no_cons ?n5 (EE.no_cons ?n6 (EE.no_cons ?n7 (EE.no_cons ?n8 (EE.no_nil))))))))); (case n0 => k_is); (case n1 => k_is); (case n2 => k_is); (case n3 => k_is); (case n4 => k_is); (case n5 => k_is); (case n6 => k_is); (case n7 => k_is); (case n8 => k_is)); (case hb => exact fun _ _ _ _ _ _ us hl => match us, hl with | [_, _, _, _], _ => rfl)))
          (case m_Program => refine' EE.mkC_mk KX G ?a ?pg ?hd ?po ?sa ?mk ?i ?isf ?kc ?l ?c ?no ?hb; (case a => k_is); (case pg => k_is); (case hd => k_is); (case po => k_is); (case sa => k_is); (case mk => k_is); (case i => k_is); (case isf => k_is); (case kc => k_is); (case l => k_is); (case c => k_is); (case no => refine' EE.no_cons ?n0 (EE.no_cons ?n1 (EE.no_cons ?n2 (EE.no_cons ?n3 (EE.no_cons ?n4 (EE.no_nil))))); (case n0 => k_is); (case n1 => k_is); (case n2 => k_is); (case n3 => k_is); (case n4 => k_is)); (case hb => exact fun _ _ _ _ _ _ us hl => match us, hl with | [_, _, _, _], _ => rfl)))
        (case m_NoName => refine' EE.nn_mk KX G ?a ?cl ?rv ?sa ?exC ?tyC ?kC ?ga ?gg ?hdC ?nn ?is ?sb ?i ?ti ?l ?c ?hb; (case a => k_is); (case cl => k_is); (case rv => decide +kernel); (case sa => k_is); (case exC => k_is); (case tyC => k_is); (case kC => k_is); (case ga => k_is); (case gg => k_is); (case hdC => k_is); (case nn => k_is); (case is => k_is); (case sb => k_is); (case i => k_is); (case ti => k_is); (case l => k_is); (case c => k_is); (case hb => exact fun _ _ _ _ _ _ us hl => match us, hl with | [_, _], _ => rfl))
        (case d_fields_of => refine' EE.defx_mk KX G ?a ?l ?c ?k ?hb; (case a => k_is); (case l => k_is); (case c => k_is); (case k => k_is); (case hb => exact fun _ _ _ _ _ _ us hl => match us, hl with | [_, _], _ => rfl))
        (case d_method_of => refine' EE.defx_mk KX G ?a ?l ?c ?k ?hb; (case a => k_is); (case l => k_is); (case c => k_is); (case k => k_is); (case hb => exact fun _ _ _ _ _ _ us hl => match us, hl with | [_, _, _], _ => rfl)))
      (case absT => refine' PySem.W.mg_none_of KX G ?_; k_is)
      (case rangeT => refine' PySem.W.mg_none_of KX G ?_; k_is)
      (case d_pot => refine' EE.defx_mk KX G ?a ?l ?c ?k ?hb; (case a => k_is); (case l => k_is); (case c => k_is); (case k => k_is); (case hb => exact fun _ _ _ _ _ _ us hl => match us, hl with | [_, _], _ => rfl))
      (case d_take => refine' EE.defx_mk KX G ?a ?l ?c ?k ?hb; (case a => k_is); (case l => k_is); (case c => k_is); (case k => k_is); (case hb => exact fun _ _ _ _ _ _ us hl => match us, hl with | [_, _], _ => rfl))
      (case d_name => refine' EE.defx_mk KX G ?a ?l ?c ?k ?hb; (case a => k_is); (case l => k_is); (case c => k_is); (case k => k_is); (case hb => exact fun _ _ _ _ _ _ us hl => match us, hl with | [_], _ => rfl))
      (case d_turned => refine' EE.defx_mk KX G ?a ?l ?c ?k ?hb; (case a => k_is); (case l => k_is); (case c => k_is); (case k => k_is); (case hb => exact fun _ _ _ _ _ _ us hl => match us, hl with | [_], _ => rfl))
      (case d_methods => refine' EE.defx_mk KX G ?a ?l ?c ?k ?hb; (case a => k_is); (case l => k_is); (case c => k_is); (case k => k_is); (case hb => exact fun _ _ _ _ _ _ us hl => match us, hl with | [_], _ => rfl))
      (case d_classes => refine' EE.defx_mk KX G ?a ?l ?c ?k ?hb; (case a => k_is); (case l => k_is); (case c => k_is); (case k => k_is); (case hb => exact fun _ _ _ _ _ _ us hl => match us, hl with | [_], _ => rfl))
      (case d_line => refine' EE.defx_mk KX G ?a ?l ?c ?k ?hb; (case a => k_is); (case l => k_is); (case c => k_is); (case k => k_is); (case hb => exact fun _ _ _ _ _ _ us hl => match us, hl with | [_, _], _ => rfl))
      (case d_refused => refine' EE.defx_mk KX G ?a ?l ?c ?k ?hb; (case a => k_is); (case l => k_is); (case c => k_is); (case k => k_is); (case hb => exact fun _ _ _ _ _ _ us hl => match us, hl with | [_, _], _ => rfl))
      (case d_right => refine' EE.defx_mk KX G ?a ?l ?c ?k ?hb; (case a => k_is); (case l => k_is); (case c => k_is); (case k => k_is); (case hb => exact fun _ _ _ _ _ _ us hl => match us, hl with | [_, _, _], _ => rfl))
      (case d_law => refine' EE.defx_mk KX G ?a ?l ?c ?k ?hb; (case a => k_is); (case l => k_is); (case c => k_is); (case k => k_is); (case hb => exact fun _ _ _ _ _ _ us hl => match us, hl with | [_], _ => rfl)))
