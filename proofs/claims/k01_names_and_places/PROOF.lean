import PyProof.Rows.All
import Wide.All
import OpenK.AllK
import Wide.FinOn
import HandS.ForMost
import HandS.More
import PyProof.TypeEq
import PyProof.InstEq
import HandS.AnyAll
import HandS.IsInst
import HandS.Wide
import PyProof.ReprRoads
import PyProof.ReprText
import PyProof.ReprLen
import PyProof.Rows.RuleB_pow
import HandS.Style
import HandS.TupAny
import PyProof.Rows.IntBool
import PyProof.Rows.EqBoolInt
import PyProof.StrOps2
import KE.KRevSl
import HandS.EndTab
import PyProof.StrBlock
import HandS.Base
import HandS.Text
import HandS.StrMore
import PySem.Challenge.RW_leanfar_k01_names_and_places
set_option Elab.async false
set_option linter.all false
set_option maxRecDepth 100000
set_option maxHeartbeats 2000000
/-! types compared by == and != -/
namespace Ld
open PySem PySem.Spec PyProof.Rows L2
theorem slot_type_ne : Slot "type" (cmpInfo .NotEq).2.1 "object.__ne__" :=
  .of (owner := "object") (n := "__ne__") (by rw [typeLookup_type, builtinLookup_eq_fast]; kernel_rfl) (by decide +kernel) (by decide +kernel) (by decide +kernel)
    (by first | exact .inl (by decide +kernel) | exact .inr (by decide +kernel)) (by rw [isSubtype_type]; kernel_rfl)
theorem slot_type_ne_refl : Slot "type" (cmpInfo .NotEq).2.2 "object.__ne__" :=
  .of (owner := "object") (n := "__ne__") (by rw [typeLookup_type, builtinLookup_eq_fast]; kernel_rfl) (by decide +kernel) (by decide +kernel) (by decide +kernel)
    (by first | exact .inl (by decide +kernel) | exact .inr (by decide +kernel)) (by rw [isSubtype_type]; kernel_rfl)
theorem slot_type_eqN : Slot "type" (Str.ofString "__eq__") "object.__eq__" :=
  .of (owner := "object") (n := "__eq__") (by rw [typeLookup_type, builtinLookup_eq_fast]; kernel_rfl) (by decide +kernel) (by decide +kernel) (by decide +kernel)
    (by first | exact .inl (by decide +kernel) | exact .inr (by decide +kernel)) (by rw [isSubtype_type]; kernel_rfl)
section
variable {prog : Program} {w : World} {A : Around} {E : Value → Shared → Prop} {s : Shared}
theorem ne_body_same {X : String} (hX : ∀ s' : Shared, s'.TypeIs (.type X) "type") (hu : A.units < cLine) {Q : Fin → Shared → Prop} (h : Q (.done (.ret (.bool false))) s) :
    wpAny (model prog w) A (Builtin.«object.__ne__» ⟨[.type X, .type X], []⟩) Q E s := by
  unfold Builtin.«object.__ne__»
  repeat (first
    | with_reducible refine wpAny_cRoomFor hu ?_
    | (refine wpAny_bind (m := callSpecialIfBound? (.type X) (Str.ofString "__eq__") [.type X])
        (wpAny_callSpecialIfBound?_slot (hX _) slot_type_eqN
          (call_gives slot_type_eqN (hX _) F.entry_object_eq (F.args_object_eq_2 _ _) (TypeEq.object_eq_same rfl (by simp)) ?_))
       repeat (first | exact h | exact wpAny_pure h | exact wpAny_truthy_bool h | (refine wpAny_bind (m := truthy (.bool _)) (wpAny_truthy_bool ?_)) | wp_step))
    | wp_step)
theorem ne_body_other {X Y : String} (hX : ∀ s' : Shared, s'.TypeIs (.type X) "type") (hne : (Value.type X == Value.type Y) = false) (hu : A.units < cLine) {Q : Fin → Shared → Prop} (h : Q (.done (.ret .notImplemented)) s) :
    wpAny (model prog w) A (Builtin.«object.__ne__» ⟨[.type X, .type Y], []⟩) Q E s := by
  unfold Builtin.«object.__ne__»
  repeat (first
    | with_reducible refine wpAny_cRoomFor hu ?_
    | (refine wpAny_bind (m := callSpecialIfBound? (.type X) (Str.ofString "__eq__") [.type Y])
        (wpAny_callSpecialIfBound?_slot (hX _) slot_type_eqN
          (call_gives slot_type_eqN (hX _) F.entry_object_eq (F.args_object_eq_2 _ _) (TypeEq.object_eq_other rfl hne) ?_))
       repeat (first | exact h | exact wpAny_pure h | wp_step))
    | wp_step)
theorem call_ne_same {X : String} (hX : ∀ s' : Shared, s'.TypeIs (.type X) "type") (hu : A.units + 1 < cLine) {Q : Value → Shared → Prop} (h : Q (.bool false) s) :
    wpAny (model prog w) A (call (.builtin "object.__ne__") [.type X, .type X]) Q E s :=
  wpAny_call (codeAny_call_builtin slot_type_ne.plain F.cmpEntry_ne (slot_type_ne.check _ _ _ _ _ _ _ _ (hX _) (F.cmpArgs_ne _ _) (ne_body_same (A := A.in1) hX hu h)))
theorem call_ne_other {X Y : String} (hX : ∀ s' : Shared, s'.TypeIs (.type X) "type") (hne : (Value.type X == Value.type Y) = false) (hu : A.units + 1 < cLine) {Q : Value → Shared → Prop} (h : Q .notImplemented s) :
    wpAny (model prog w) A (call (.builtin "object.__ne__") [.type X, .type Y]) Q E s :=
  wpAny_call (codeAny_call_builtin slot_type_ne.plain F.cmpEntry_ne (slot_type_ne.check _ _ _ _ _ _ _ _ (hX _) (F.cmpArgs_ne _ _) (ne_body_other (A := A.in1) hX hne hu h)))
theorem rich_ne_decline {a b : Value} {T id : String} {k : Bool} {Q : Value → Shared → Prop} (ha : ∀ s' : Shared, s'.TypeIs a T) (hb : ∀ s' : Shared, s'.TypeIs b T)
    (h1 : Slot T (cmpInfo .NotEq).2.1 id) (h2 : Slot T (cmpInfo .NotEq).2.2 id) (hv : [a, b].any Value.onHeap = false) (hk : isSame a b = pure k)
    (hc : wpAny (model prog w) A (call (.builtin id) [a, b]) (fun v s₁ => v = .notImplemented ∧ wpAny (model prog w) A (call (.builtin id) [b, a]) (fun v s₂ => v = .notImplemented ∧ Q (.bool (!k)) s₂) E s₁) E s) :
    wpAny (model prog w) A (richCompare .NotEq a b) Q E s := by
  rcases hi : cmpInfo CmpOp.NotEq with ⟨sym, f, r⟩
  rw [hi] at h1 h2
  simp only [richCompare, hi, (ha s).oneThing_none]
  try with_reducible refine wpAny_holding ?_
  refine wpAny_bind (wpAny_cRoomFor_or (.inl hv) ?_)
  refine wpAny_bind (wpAny_typeOf (ha s) (wpAny_bind (wpAny_typeOf (hb s) ?_)))
  simp only [bne_self_eq_false, Bool.false_eq_true, if_false, pure_bind, Bool.not_false, if_true]
  refine wpAny_bind (m := tryCompare a _ b) (wpAny_tryCompare_declines (ha s) h1 (wpAny_mono hc (fun v s₁ h₁ => ⟨h₁.1, ?_⟩) fun _ _ x => x))
  refine wpAny_bind (m := tryCompare b _ a) (wpAny_tryCompare_declines (hb s₁) h2 (wpAny_mono h₁.2 (fun v s₂ h₂ => ⟨h₂.1, ?_⟩) fun _ _ x => x))
  refine wpAny_bind (wpAny_rule (wpAny_bind (wpAny_of_eq hk (wpAny_pure h₂.2))))
theorem ne_type {X Y : String} (hX : ∀ s' : Shared, s'.TypeIs (.type X) "type") (hY : ∀ s' : Shared, s'.TypeIs (.type Y) "type") (hu : A.units + 1 < cLine) {Q : Value → Shared → Prop} (h : Q (.bool (!decide (X = Y))) s) :
    wpAny (model prog w) A (compareOp .NotEq (.type X) (.type Y)) Q E s := by
  show wpAny _ A (richCompare .NotEq _ _) Q E s
  by_cases e : X = Y
  · subst e
    rw [decide_eq_true rfl] at h
    exact wpAny_richCompare_same (T := "type") (hX s) (hX s) slot_type_ne (call_ne_same hX hu ⟨(by intro e; cases e), h⟩)
  · rw [decide_eq_false e] at h
    have hne : (Value.type X == Value.type Y) = false := by rw [ty_beq]; exact decide_eq_false e
    have hne' : (Value.type Y == Value.type X) = false := by rw [ty_beq]; exact decide_eq_false fun z => e z.symm
    exact rich_ne_decline (T := "type") (k := false) hX hY slot_type_ne slot_type_ne_refl rfl (by rw [isSame_plain rfl, hne])
      (call_ne_other hX hne hu ⟨rfl, call_ne_other hY hne' hu ⟨rfl, h⟩⟩)
theorem eq_type {X Y : String} (hX : ∀ s' : Shared, s'.TypeIs (.type X) "type") (hY : ∀ s' : Shared, s'.TypeIs (.type Y) "type") {Q : Value → Shared → Prop} (h : Q (.bool (decide (X = Y))) s) :
    wpAny (model prog w) A (compareOp .Eq (.type X) (.type Y)) Q E s := by
  by_cases e : X = Y
  · subst e
    rw [decide_eq_true rfl] at h
    exact TypeEq.eq_type_same hX h
  · rw [decide_eq_false e] at h
    exact TypeEq.eq_type_other hX hY (by rw [ty_beq]; exact decide_eq_false e) h
end
/-- the kinds that are compared -/
inductive K7 : String → Prop
  | int : K7 "int" | str : K7 "str" | bool : K7 "bool" | none : K7 "NoneType" | list : K7 "list" | tuple : K7 "tuple" | dict : K7 "dict"
theorem K7.meta {X : String} (h : K7 X) (s' : Shared) : s'.TypeIs (.type X) "type" := by
  cases h with
  | int => exact TypeEq.meta_int s'
  | str => exact TypeEq.meta_str s'
  | bool => exact TypeEq.meta_bool s'
  | none => exact TypeEq.meta_NoneType s'
  | list => exact TypeEq.meta_list s'
  | tuple => exact TypeEq.meta_tuple s'
  | dict => exact TypeEq.meta_dict s'
/-- type(x) == T, type(x) != T -/
def rTyEq : R2 := fun x y H Q => ∃ a b, x = .ty a ∧ y = .ty b ∧ K7 a ∧ K7 b ∧ Q (.bl (decide (a = b))) H
def rTyNe : R2 := fun x y H Q => ∃ a b, x = .ty a ∧ y = .ty b ∧ K7 a ∧ K7 b ∧ Q (.bl (!decide (a = b))) H
section
variable {X : Cx}
theorem op_eqTy : OpR X (compareOp .Eq) rTyEq := by
  intro pins s σ H x y v u Q I rx ry h
  obtain ⟨a, b, rfl, rfl, ka, kb, q⟩ := h
  cases (show v = Value.type a from rx)
  cases (show u = Value.type b from ry)
  exact eq_type ka.meta kb.meta ⟨.bl _, H, I, rfl, q⟩
theorem op_neTy (hu : X.A.units + 1 < cLine) : OpR X (compareOp .NotEq) rTyNe := by
  intro pins s σ H x y v u Q I rx ry h
  obtain ⟨a, b, rfl, rfl, ka, kb, q⟩ := h
  cases (show v = Value.type a from rx)
  cases (show u = Value.type b from ry)
  exact ne_type ka.meta kb.meta hu ⟨.bl _, H, I, rfl, q⟩
end
end Ld
set_option Elab.async false
set_option linter.all false
set_option maxRecDepth 100000
set_option maxHeartbeats 2000000
/-! data over the abstract heap, dicts too; repr of them -/
namespace Ld
open PySem PySem.Spec PyProof.Rows L2
mutual
inductive Da (H : Hp) : V → PyData → Prop
  | non : Da H .non .none
  | bl (b : Bool) : Da H (.bl b) (.bool b)
  | int (i : Int) : Da H (.int i) (.int i)
  | str (x : Str) : Da H (.str x) (.str x)
  | lst {a : Addr} {xs : List V} {ds : List PyData} : H a = some (.lst xs) → DaAll H xs ds → Da H (.ref a) (.list ds)
  | tup {a : Addr} {xs : List V} {ds : List PyData} : H a = some (.tup xs) → DaAll H xs ds → Da H (.ref a) (.tuple ds)
  | dct {a : Addr} {kvs : List (Key × V)} {ps : List (PyData × PyData)} : H a = some (.dK kvs) → DaAll H (kvs.map fun p => kV p.1) (ps.map (·.1)) → DaAll H (kvs.map (·.2)) (ps.map (·.2)) → Da H (.ref a) (.dict ps)
inductive DaAll (H : Hp) : List V → List PyData → Prop
  | nil : DaAll H [] []
  | cons {v : V} {vs : List V} {d : PyData} {ds : List PyData} : Da H v d → DaAll H vs ds → DaAll H (v :: vs) (d :: ds)
end
/-- what a datum leans on is kept -/
def Kp (S : Addr → Prop) (H H' : Hp) : Prop := ∀ a o, ¬ S a → H a = some o → H' a = some o
mutual
theorem Da.keep {H H' : Hp} (k : ∀ a o, H a = some o → (∀ ps, o ≠ .tbl ps) → H' a = some o) : ∀ {v : V} {d : PyData}, Da H v d → Da H' v d
  | _, _, .non => .non
  | _, _, .bl b => .bl b
  | _, _, .int i => .int i
  | _, _, .str x => .str x
  | _, _, .lst h hs => .lst (k _ _ h fun _ e => nomatch e) (DaAll.keep k hs)
  | _, _, .tup h hs => .tup (k _ _ h fun _ e => nomatch e) (DaAll.keep k hs)
  | _, _, .dct h h1 h2 => .dct (k _ _ h fun _ e => nomatch e) (DaAll.keep k h1) (DaAll.keep k h2)
theorem DaAll.keep {H H' : Hp} (k : ∀ a o, H a = some o → (∀ ps, o ≠ .tbl ps) → H' a = some o) : ∀ {vs : List V} {ds : List PyData}, DaAll H vs ds → DaAll H' vs ds
  | _, _, .nil => .nil
  | _, _, .cons h hs => .cons (Da.keep k h) (DaAll.keep k hs)
end
theorem DaAll.len {H : Hp} : ∀ {vs : List V} {ds : List PyData}, DaAll H vs ds → vs.length = ds.length
  | _, _, .nil => rfl
  | _, _, .cons _ h => congrArg (· + 1) h.len
theorem DaAll.get {H : Hp} : ∀ {vs : List V} {ds : List PyData}, DaAll H vs ds → ∀ (i : Nat) (v : V), vs[i]? = some v → ∃ d, ds[i]? = some d ∧ Da H v d
  | _, _, .nil, i, v, h => by simp at h
  | _, _, .cons h hs, 0, v, e => by
    have e' : _ = v := Option.some.inj e
    subst e'
    exact ⟨_, rfl, h⟩
  | _, _, .cons h hs, i + 1, v, e => hs.get i v e
theorem DaAll.snoc {H : Hp} {v : V} {d : PyData} (h : Da H v d) : ∀ {vs : List V} {ds : List PyData}, DaAll H vs ds → DaAll H (vs ++ [v]) (ds ++ [d])
  | _, _, .nil => .cons h .nil
  | _, _, .cons a as => .cons a (as.snoc h)
theorem DaAll.app {H : Hp} {us : List V} {es : List PyData} (h : DaAll H us es) : ∀ {vs : List V} {ds : List PyData}, DaAll H vs ds → DaAll H (vs ++ us) (ds ++ es)
  | _, _, .nil => h
  | _, _, .cons a as => by
    show DaAll H (_ :: (_ ++ us)) (_ :: (_ ++ es))
    exact .cons a (DaAll.app h as)
theorem DaAll.set {H : Hp} {v : V} {d : PyData} (h : Da H v d) : ∀ {vs : List V} {ds : List PyData} (i : Nat), DaAll H vs ds → DaAll H (vs.set i v) (ds.set i d)
  | _, _, _, .nil => .nil
  | _, _, 0, .cons a as => .cons h as
  | _, _, i + 1, .cons a as => .cons a (as.set h i)

section
variable {X : Cx} {pins : List (Addr × Obj)} {σ : L2.St} {H : Hp} {s : Shared}
/-- a dict's keys and values, as the heap has them -/
theorem pairs_read {prog : Program} {w : World} : ∀ {es : List DictEntry} {kvs : List (Key × Value)}, Pairs (mixKind prog w) es kvs → ∀ {vs : List (Key × V)}, KV vs kvs →
    Vals (vs.map fun p => kV p.1) (es.map (·.key)) ∧ Vals (vs.map (·.2)) (es.map (·.val))
  | _, _, .nil, _, .nil => ⟨.nil, .nil⟩
  | _, _, .cons (e := e) (kv := kv) h1 h2 h3, _, .cons (a := p) r1 r2 => by
    obtain ⟨q1, q2⟩ := pairs_read h3 r2
    obtain ⟨e1, e2⟩ := r1
    refine ⟨.cons ?_ q1, .cons ?_ q2⟩
    · show RelV (kV p.1) e.key
      rw [e1]
      rcases keyIs_shape h1 with ⟨i, t, ek, ev⟩ | ⟨x, t, ek, ev⟩
      · rw [ek, ev]
        exact ⟨t, rfl⟩
      · rw [ek, ev]
        exact ⟨t, rfl⟩
    · show RelV p.2 e.val
      rw [h2]
      exact e2
mutual
/-- what is read of a datum, and how repr shows it -/
theorem Da.rep (prog : Program) (w : World) (I : Inv X pins σ H s) : ∀ {v : V} {d : PyData}, Da H v d → ∀ {u : Value}, RelV v u → d.showable = true → d.shown.length ≤ sizeLine →
    (∃ as, Reads s.heap u d as) ∧ ∃ bs, ReadAtMost s.heap d.depth bs ∧ ReprK prog w bs s.heap d.depth u d.shown
  | _, _, .non, _, r, _, _ => by
    cases r
    exact ⟨⟨_, Reads.none⟩, [], (fun _ h => nomatch h), by simp only [PyData.shown]; exact .of_is ReprIs.none _ _ _⟩
  | _, _, .bl b, _, r, _, _ => by
    cases r
    exact ⟨⟨_, Reads.bool b⟩, [], (fun _ h => nomatch h), by simp only [PyData.shown]; exact .of_is (ReprIs.bool b) _ _ _⟩
  | _, _, .int i, _, r, hs, _ => by
    obtain ⟨t, rfl⟩ := r
    exact ⟨⟨_, Reads.int i t⟩, [], (fun _ h => nomatch h), by simp only [PyData.shown]; exact .of_is (ReprIs.int t (by simpa [PyData.showable] using hs)) _ _ _⟩
  | _, _, .str x, _, r, _, hz => by
    obtain ⟨t, rfl⟩ := r
    exact ⟨⟨_, Reads.str x t⟩, [], (fun _ h => nomatch h), by simp only [PyData.shown]; exact .of_is (ReprIs.str x t (by simpa only [PyData.shown] using hz)) _ _ _⟩
  | _, _, .lst (a := a) (xs := xs) (ds := ds) ha h, _, r, hs, hz => by
    cases r
    obtain ⟨_, its, n, rv, e⟩ := I.hok _ _ ha
    have hz' : (listText (PyData.shownAll ds)).length ≤ sizeLine := by simpa only [PyData.shown] using hz
    obtain ⟨⟨as, hr⟩, bs, hb, hk⟩ := DaAll.rep prog w I h rv (by simpa [PyData.showable] using hs) fun t ht => Nat.le_trans (listText_mem_le ht) hz'
    have rd : Reads s.heap (.ref a) (.list ds) _ := Reads.list e rfl rfl hr
    have hna : a ∉ bs := not_mem_of_deeper rd (by simp only [PyData.depth]; omega) hb
    refine ⟨⟨_, rd⟩, a :: bs, ReadAtMost.cons rd (by simp only [PyData.depth]; omega) hb, ?_⟩
    simp only [PyData.depth, PyData.shown]
    cases its with
    | nil =>
      cases hr
      simp only [PyData.shownAll, listText_nil]
      exact ReprK.listEmpty e rfl rfl
    | cons x l => exact ReprK.list e rfl rfl hna (by simpa using hk.length_eq) fun i y q => hk.item i y (by simpa using q)
  | _, _, .tup (a := a) (xs := xs) (ds := ds) ha h, _, r, hs, hz => by
    cases r
    obtain ⟨_, its, rv, o, e, hc, n, hd⟩ := I.hok _ _ ha
    have hz' : (tupleText (PyData.shownAll ds)).length ≤ sizeLine := by simpa only [PyData.shown] using hz
    obtain ⟨⟨as, hr⟩, bs, hb, hk⟩ := DaAll.rep prog w I h rv (by simpa [PyData.showable] using hs) fun t ht => Nat.le_trans (tupleText_mem_le ht) hz'
    have rd : Reads s.heap (.ref a) (.tuple ds) _ := Reads.tuple e hc hd hr
    have hna : a ∉ bs := not_mem_of_deeper rd (by simp only [PyData.depth]; omega) hb
    refine ⟨⟨_, rd⟩, a :: bs, ReadAtMost.cons rd (by simp only [PyData.depth]; omega) hb, ?_⟩
    simp only [PyData.depth, PyData.shown]
    exact ReprK.tuple e hc hd hna hk
  | _, _, .dct (a := a) (kvs := kvs) (ps := ps) ha h1 h2, _, r, hs, hz => by
    cases r
    obtain ⟨_, hsys, vs, rv, o, es, ep, e, hx, hd, _, hp, _⟩ := I.hok _ _ ha
    obtain ⟨q1, q2⟩ := pairs_read hp rv
    have hz' : (dictText (PyData.shownKv ps)).length ≤ sizeLine := by simpa only [PyData.shown] using hz
    obtain ⟨hs1, hs2⟩ := PyData.showableKv_split ps (by simpa [PyData.showable] using hs)
    obtain ⟨⟨as, hr1⟩, b1, hb1, k1⟩ := DaAll.rep prog w I h1 q1 hs1 fun t ht =>
      let ⟨p, hp, hl⟩ := PyData.shownKv_key_le ps t ht
      Nat.le_trans hl (Nat.le_trans (dictText_mem_le hp) hz')
    obtain ⟨⟨cs, hr2⟩, b2, hb2, k2⟩ := DaAll.rep prog w I h2 q2 hs2 fun t ht =>
      let ⟨p, hp, hl⟩ := PyData.shownKv_val_le ps t ht
      Nat.le_trans hl (Nat.le_trans (dictText_mem_le hp) hz')
    have rd : Reads s.heap (.ref a) (.dict ps) _ := Reads.dict e hx.1 hd hr1 hr2
    have hb : ReadAtMost s.heap (PyData.depthKv ps) (b1 ++ b2) := (hb1.mono (PyData.depthAll_keys_le ps)).append (hb2.mono (PyData.depthAll_vals_le ps))
    have hna : a ∉ b1 ++ b2 := not_mem_of_deeper rd (by simp only [PyData.depth]; omega) hb
    refine ⟨⟨_, rd⟩, a :: (b1 ++ b2), ReadAtMost.cons rd (by simp only [PyData.depth]; omega) hb, ?_⟩
    simp only [PyData.depth, PyData.shown, PyData.shownKv_eq]
    exact ReprK.dict e hx.1 hd hsys hna (ReprEntriesK.of_two es.toList _ _
      (k1.more_le (fun b hb => List.mem_append_left _ hb) (PyData.depthAll_keys_le ps)) (k2.more_le (fun b hb => List.mem_append_right _ hb) (PyData.depthAll_vals_le ps)))
theorem DaAll.rep (prog : Program) (w : World) (I : Inv X pins σ H s) : ∀ {vs : List V} {ds : List PyData}, DaAll H vs ds → ∀ {us : List Value}, Vals vs us → PyData.showableAll ds = true → (∀ t ∈ PyData.shownAll ds, t.length ≤ sizeLine) →
    (∃ as, ReadsAll s.heap us ds as) ∧ ∃ bs, ReadAtMost s.heap (PyData.depthAll ds) bs ∧ ReprAllK prog w bs s.heap (PyData.depthAll ds) us (PyData.shownAll ds)
  | _, _, .nil, _, r, _, _ => by
    cases r
    exact ⟨⟨_, ReadsAll.nil⟩, [], (fun _ h => nomatch h), by simp only [PyData.shownAll]; exact .nil⟩
  | _, _, .cons (d := d) (ds := ds) h hs, _, r, hw, hz => by
    cases r with
    | cons r1 r2 =>
      have hw' : d.showable = true ∧ PyData.showableAll ds = true := by simpa [PyData.showableAll] using hw
      obtain ⟨⟨as, q1⟩, b1, hb1, k1⟩ := Da.rep prog w I h r1 hw'.1 (hz _ (by simp only [PyData.shownAll]; exact List.mem_cons_self ..))
      obtain ⟨⟨cs, q2⟩, b2, hb2, k2⟩ := DaAll.rep prog w I hs r2 hw'.2 fun t ht => hz t (by simp only [PyData.shownAll]; exact List.mem_cons_of_mem _ ht)
      refine ⟨⟨_, ReadsAll.cons q1 q2⟩, b1 ++ b2, ?_, ?_⟩
      · simp only [PyData.depthAll]
        exact (hb1.mono (Nat.le_max_left _ _)).append (hb2.mono (Nat.le_max_right _ _))
      · simp only [PyData.depthAll, PyData.shownAll]
        exact .cons ((k1.more fun b hb => List.mem_append_left _ hb).level_le (Nat.le_max_left _ _)) (k2.more_le (fun b hb => List.mem_append_right _ hb) (Nat.le_max_right _ _))
end
end
/-- data of a size that repr can show -/
def Sm (d : PyData) : Bool := d.showable && d.leavesShort 600 && decide (d.depth ≤ 32) && decide (d.weight ≤ 20000)
theorem Sm.parts {d : PyData} (h : Sm d = true) : d.showable = true ∧ d.leavesShort 600 = true ∧ d.depth ≤ 32 ∧ d.weight ≤ 20000 := by
  unfold Sm at h
  simp only [Bool.and_eq_true, decide_eq_true_eq] at h
  exact ⟨h.1.1.1, h.1.1.2, h.1.2, h.2⟩
theorem Sm.fits {d : PyData} (h : Sm d = true) : d.shown.length ≤ sizeLine := by
  obtain ⟨_, h2, _, h4⟩ := Sm.parts h
  have e := PyData.shown_le 600 (by decide) d h2
  have z : sizeLine = 16777216 := sizeLine_eq
  omega
section
variable {X : Cx}
/-- repr(x) -/
def rRepr : List V → Hp → VK → Prop := fun xs H Q => ∃ v d, xs = [v] ∧ Da H v d ∧ Sm d = true ∧ Q (.str d.shown) H
theorem call_repr (hu : X.A.units + 64 < cLine) (hg : X.A.guards = some []) : CallR X (.builtin "repr") rRepr := by
  intro pins s σ H xs us Q I r h
  obtain ⟨v, d, rfl, hd, hs, q⟩ := h
  obtain ⟨u, rfl, ru⟩ := vals1 r
  have hz := Sm.fits hs
  obtain ⟨h1, h2, h3, h4⟩ := Sm.parts hs
  cases hd with
  | non =>
    cases ru
    exact P.repr_of_none ⟨.str _, H, I.tok _, ⟨_, rfl⟩, by simpa only [PyData.shown] using q⟩
  | bl b =>
    cases ru
    exact P.repr_of_bool ⟨.str _, H, I.tok _, ⟨_, rfl⟩, by simpa only [PyData.shown] using q⟩
  | int i =>
    obtain ⟨t, rfl⟩ := ru
    exact P.repr_of_int (by simpa [PyData.showable] using h1) ⟨.str _, H, I.tok _, ⟨_, rfl⟩, by simpa only [PyData.shown] using q⟩
  | str x =>
    obtain ⟨t, rfl⟩ := ru
    exact P.repr_of_str ⟨.str _, H, I.tok _, ⟨_, rfl⟩, by simpa only [PyData.shown] using q⟩ (by simpa only [PyData.shown] using hz)
  | @lst a xs ds ha hall =>
    cases ru
    obtain ⟨_, its, n, rv, e⟩ := I.hok _ _ ha
    have hz' : (listText (PyData.shownAll ds)).length ≤ sizeLine := by simpa only [PyData.shown] using hz
    obtain ⟨⟨as, hr⟩, bs, hb, hk⟩ := hall.rep X.prog X.w I rv (by simpa [PyData.showable] using h1) fun t ht => Nat.le_trans (listText_mem_le ht) hz'
    have rd : Reads s.heap (.ref a) (.list ds) _ := Reads.list e rfl rfl hr
    have hna : a ∉ bs := not_mem_of_deeper rd (by simp only [PyData.depth]; omega) hb
    simp only [PyData.depth] at h3
    simp only [PyData.shown] at q
    refine call_repr_slot (T := "list") (by omega) ⟨_, e, rfl⟩ F.slot_list_repr.toG ?_
    cases its with
    | nil =>
      cases hr
      simp only [PyData.shownAll, listText_nil] at q
      exact call_list_repr_empty ⟨_, e, rfl⟩ e rfl ⟨_, _, rfl, .str _, H, I.tok _, ⟨_, rfl⟩, q⟩
    | cons x l =>
      exact call_list_reprK e rfl rfl hna (by simpa using hk.length_eq) (fun i y q => hk.item i y (by simpa using q)) hg (fun b _ => Clear.nil b) (by show X.A.units + 1 + (PyData.depthAll ds + 1) < cLine; omega) (fun _ _ e => e)
        (fun h' u tk hk' => ⟨_, _, rfl, .str _, H, I.kept hk', ⟨_, rfl⟩, q⟩) hz'
  | @tup a xs ds ha hall =>
    cases ru
    obtain ⟨_, its, rv, o, e, hc, n, hd⟩ := I.hok _ _ ha
    have hz' : (tupleText (PyData.shownAll ds)).length ≤ sizeLine := by simpa only [PyData.shown] using hz
    obtain ⟨⟨as, hr⟩, bs, hb, hk⟩ := hall.rep X.prog X.w I rv (by simpa [PyData.showable] using h1) fun t ht => Nat.le_trans (tupleText_mem_le ht) hz'
    have rd : Reads s.heap (.ref a) (.tuple ds) _ := Reads.tuple e hc hd hr
    have hna : a ∉ bs := not_mem_of_deeper rd (by simp only [PyData.depth]; omega) hb
    simp only [PyData.depth] at h3
    simp only [PyData.shown] at q
    refine call_repr_slot (T := "tuple") (by omega) ⟨_, e, hc⟩ F.slot_tuple_repr ?_
    exact call_tuple_reprK e hc hd hna hk hg (fun b _ => Clear.nil b) (by show X.A.units + 1 + (PyData.depthAll ds + 1) < cLine; omega) (fun _ _ e => e)
      (fun h' u tk hk' => ⟨_, _, rfl, .str _, H, I.kept hk', ⟨_, rfl⟩, q⟩) hz'
  | @dct a kvs ps ha hk1 hk2 =>
    cases ru
    obtain ⟨_, hsys, vs, rv, o, es, ep, e, hx, hd, _, hp, _⟩ := I.hok _ _ ha
    obtain ⟨q1, q2⟩ := pairs_read hp rv
    have hz' : (dictText (PyData.shownKv ps)).length ≤ sizeLine := by simpa only [PyData.shown] using hz
    obtain ⟨hs1, hs2⟩ := PyData.showableKv_split ps (by simpa [PyData.showable] using h1)
    obtain ⟨⟨as, hr1⟩, b1, hb1, k1⟩ := hk1.rep X.prog X.w I q1 hs1 fun t ht =>
      let ⟨p, hp, hl⟩ := PyData.shownKv_key_le ps t ht
      Nat.le_trans hl (Nat.le_trans (dictText_mem_le hp) hz')
    obtain ⟨⟨cs, hr2⟩, b2, hb2, k2⟩ := hk2.rep X.prog X.w I q2 hs2 fun t ht =>
      let ⟨p, hp, hl⟩ := PyData.shownKv_val_le ps t ht
      Nat.le_trans hl (Nat.le_trans (dictText_mem_le hp) hz')
    have rd : Reads s.heap (.ref a) (.dict ps) _ := Reads.dict e hx.1 hd hr1 hr2
    have hb : ReadAtMost s.heap (PyData.depthKv ps) (b1 ++ b2) := (hb1.mono (PyData.depthAll_keys_le ps)).append (hb2.mono (PyData.depthAll_vals_le ps))
    have hna : a ∉ b1 ++ b2 := not_mem_of_deeper rd (by simp only [PyData.depth]; omega) hb
    simp only [PyData.depth] at h3
    simp only [PyData.shown, PyData.shownKv_eq] at q hz'
    refine call_repr_slot (T := "dict") (by omega) ⟨_, e, hx.1⟩ F.slot_dict_repr ?_
    exact call_dict_reprK e hx.1 hd hsys hna (ReprEntriesK.of_two es.toList _ _
      (k1.more_le (fun b hb => List.mem_append_left _ hb) (PyData.depthAll_keys_le ps)) (k2.more_le (fun b hb => List.mem_append_right _ hb) (PyData.depthAll_vals_le ps)))
      hg (fun b _ => Clear.nil b) (by show X.A.units + 1 + (PyData.depthKv ps + 1) < cLine; omega) (fun _ _ e => e)
      (fun h' u tk hk' => ⟨_, _, rfl, .str _, H, I.kept hk', ⟨_, rfl⟩, q⟩) hz'
/-- a ** n of greater numbers -/
def CPowW (i j : Int) : Prop := 0 ≤ j ∧ j ≤ 64 ∧ i.natAbs.log2 < 1000000
theorem op_powW : OpR X (binaryOp .Pow) (rI CPowW fun i j => .int (i ^ j.toNat)) := opI fun i j _ _ _ _ _ hc q => by
  refine pow_int hc.1 ?_ q
  have b : Builtin.Int.intBits i ≤ i.natAbs.log2 + 1 := by
    unfold Builtin.Int.intBits
    split <;> omega
  have h1 := hc.2.1
  have h2 := hc.2.2
  have h0 := hc.1
  have : (Builtin.Int.intBits i : Int) * j ≤ 1000000 * 64 := Int.mul_le_mul (by omega) h1 h0 (by decide)
  omega
end
end Ld
set_option Elab.async false
set_option linter.all false
set_option maxRecDepth 100000
set_option maxHeartbeats 4000000
/-! truths among whole numbers; a text many times; a tuple backwards -/
namespace Ld
open PySem PySem.Spec PyProof.Rows L2
section
variable {X : Cx}
theorem op_add_bi : OpR X (binaryOp .Add) (fun x y H Q => ∃ k j, x = .bl k ∧ y = .int j ∧ Q (.int (b2i k + j)) H) := by
  intro pins s σ H x y v u Q I rx ry h
  obtain ⟨k, j, rfl, rfl, q⟩ := h
  obtain ⟨t, rfl⟩ := ry
  cases rx
  exact PySem.IntBool.add_bool_int ⟨.int (b2i k + j), H, I.tok _, ⟨_, rfl⟩, q⟩
theorem op_sub_bi : OpR X (binaryOp .Sub) (fun x y H Q => ∃ k j, x = .bl k ∧ y = .int j ∧ Q (.int (b2i k - j)) H) := by
  intro pins s σ H x y v u Q I rx ry h
  obtain ⟨k, j, rfl, rfl, q⟩ := h
  obtain ⟨t, rfl⟩ := ry
  cases rx
  exact PySem.IntBool.sub_bool_int ⟨.int (b2i k - j), H, I.tok _, ⟨_, rfl⟩, q⟩
theorem op_sub_ib : OpR X (binaryOp .Sub) (fun x y H Q => ∃ i k, x = .int i ∧ y = .bl k ∧ Q (.int (i - b2i k)) H) := by
  intro pins s σ H x y v u Q I rx ry h
  obtain ⟨i, k, rfl, rfl, q⟩ := h
  obtain ⟨t, rfl⟩ := rx
  cases ry
  exact PySem.IntBool.sub_int_bool ⟨.int (i - b2i k), H, I.tok _, ⟨_, rfl⟩, q⟩
theorem op_eq_bi : OpR X (compareOp .Eq) (fun x y H Q => ∃ k j, x = .bl k ∧ y = .int j ∧ Q (.bl (b2i k == j)) H) := by
  intro pins s σ H x y v u Q I rx ry h
  obtain ⟨k, j, rfl, rfl, q⟩ := h
  obtain ⟨t, rfl⟩ := ry
  cases rx
  exact PySem.EqBoolInt.eq_bool_int ⟨.bl (b2i k == j), H, I, rfl, q⟩
theorem call_str_bool : CallR X (.type "str") (fun xs H Q => ∃ k, xs = [.bl k] ∧ Q (.str (if k then "True" else "False")) H) := by
  intro pins s σ H xs us Q I r h
  obtain ⟨k, rfl, q⟩ := h
  obtain ⟨u, rfl, ru⟩ := vals1 r
  cases ru
  exact PySem.P.str_of_bool ⟨.str _, H, I.tok _, ⟨_, rfl⟩, q⟩
/-- a text, eight times -/
def rep8 (x : Str) : Str := ⟨(List.replicate 8 x.cps).foldl (· ++ ·) #[]⟩
theorem rep8_cps (x : Str) : (rep8 x).cps = x.cps ++ x.cps ++ x.cps ++ x.cps ++ x.cps ++ x.cps ++ x.cps ++ x.cps := by
  show #[] ++ x.cps ++ x.cps ++ x.cps ++ x.cps ++ x.cps ++ x.cps ++ x.cps ++ x.cps = _
  rw [Array.empty_append]
theorem rep8_len (x : Str) : (rep8 x).length = 8 * x.length := by
  show (rep8 x).cps.size = 8 * x.cps.size
  rw [rep8_cps]
  simp only [Array.size_append]
  omega
def r8 (x : Str) : Str := if x.length = 0 then x else rep8 x
theorem r8_len (x : Str) : (r8 x).length = 8 * x.length := by
  unfold r8
  split
  · omega
  · exact rep8_len x
theorem r8_mem {x : Str} {c : Nat} (h : c ∈ (r8 x).cps.toList) : c ∈ x.cps.toList := by
  unfold r8 at h
  split at h
  · exact h
  · rw [rep8_cps] at h
    simpa using h
def rRep8 : R2 := fun x y H Q => ∃ z, x = .str z ∧ y = .int 8 ∧ z.length ≤ 2500 ∧ Q (.str (r8 z)) H
theorem op_rep8 : OpR X (binaryOp .Mult) rRep8 := by
  intro pins s σ H x y v u Q I rx ry h
  obtain ⟨z, rfl, rfl, h3, q⟩ := h
  obtain ⟨t, rfl⟩ := rx
  obtain ⟨t', rfl⟩ := ry
  unfold r8 at q
  have hs : 20000 ≤ sizeLine := by decide
  refine PySem.P.mul_str (by decide) (fun _ _ => ?_) (fun _ _ => ?_) ?_
  · have e : ((2 : Int) ^ 63 - 1) / 8 = 1152921504606846975 := by decide
    rw [e]
    omega
  · show decide (z.length * Int.toNat 8 > sizeLine) = false
    refine decide_eq_false ?_
    have e : Int.toNat 8 = 8 := rfl
    rw [e]
    omega
  · rw [if_neg (by decide)]
    by_cases hz : z.length = 0
    · rw [if_pos (by rw [hz]; simp)]
      rw [if_pos hz] at q
      exact ⟨.str z, H, I, ⟨_, rfl⟩, q⟩
    · rw [if_neg (by simpa using hz)]
      rw [if_neg hz] at q
      refine ⟨?_, .str (rep8 z), H, I.tok _, ⟨_, rfl⟩, q⟩
      show (rep8 z).length ≤ sizeLine
      rw [rep8_len]
      omega
end
/-! ### t[::-1] -/
section
variable {prog : Program} {w : World} {A : Around} {E : Value → Shared → Prop} {s : Shared}
theorem back_pick (xs : Array Value) : ((List.range xs.size).filterMap fun (k : Nat) => xs[((xs.size : Int) - 1 + (k : Int) * (-1)).toNat]?).toArray = xs.toList.reverse.toArray := by
  have e : ((List.range xs.size).filterMap fun (k : Nat) => xs[((xs.size : Int) - 1 + (k : Int) * (-1)).toNat]?) = xs.toList.reverse := by
    have h : ∀ n, n ≤ xs.size → ((List.range n).filterMap fun (k : Nat) => xs[((xs.size : Int) - 1 + (k : Int) * (-1)).toNat]?) = xs.toList.reverse.take n := by
      intro n
      induction n with
      | zero => intro _; simp
      | succ n ih =>
        intro hn
        rw [List.range_succ, List.filterMap_append, ih (by omega)]
        have e1 : ((xs.size : Int) - 1 + (n : Int) * (-1)).toNat = xs.size - 1 - n := by omega
        have e2 : xs.size - 1 - n < xs.size := by omega
        have e3 : xs.toList.reverse[n]? = some xs[xs.size - 1 - n] := by
          rw [List.getElem?_reverse (by simpa using (show n < xs.size by omega))]
          simp [e2]
        rw [List.take_add_one, e3]
        simp only [List.filterMap_cons, List.filterMap_nil, e1, Array.getElem?_eq_getElem e2, Option.toList_some]
    rw [h xs.size (Nat.le_refl _), List.take_of_length_le (by simp)]
  rw [e]
theorem applied_back {sl : Addr} {vl vu vs : Value} {n : Nat} {Q : Int × Int × Nat → Shared → Prop} (hs : s.heap.IsSliceOf sl vl vu vs) (pl : IsPart vl none) (pu : IsPart vu none) (ps : IsPart vs (some (-1)))
    (h : Q ((n : Int) - 1, -1, n) s) : wpAny (model prog w) A (Builtin.Slice.sliceApplied (.ref sl) (pure (n : Int))) Q E s := by
  obtain ⟨os, hos, hcs, hds⟩ := id hs
  unfold Builtin.Slice.sliceApplied Builtin.Slice.sliceFields
  refine wpAny_bind (wpAny_bind (wpAny_field hos hds (x := vl) rfl (wpAny_bind (wpAny_field hos hds (x := vu) rfl (wpAny_bind (wpAny_field hos hds (x := vs) rfl (wpAny_pure ?_)))))))
  refine wpAny_bind (HT.slicePart_ ps ?_)
  show wpAny _ _ (if ((-1 : Int) == 0) = true then _ else _) _ _ s
  rw [if_neg (by decide)]
  refine wpAny_bind (HT.slicePart_ pl (wpAny_bind (HT.slicePart_ pu (wpAny_bind (wpAny_pure ?_)))))
  have e : Builtin.Slice.slicePlaces ((n : Int) - 1) (-1) (-1) = n := by
    unfold Builtin.Slice.slicePlaces
    rw [if_neg (by decide)]
    by_cases hn : n = 0
    · subst hn
      rfl
    · rw [if_pos (by omega)]
      have this : ((n : Int) - 1 - -1 - 1) / (- -1) + 1 = n := by
        have e1 : (- -1 : Int) = 1 := by decide
        rw [e1, Int.ediv_one]
        omega
      rw [this]
      exact Int.toNat_natCast n
  show wpAny _ _ (pure ((n : Int) - 1, (-1 : Int), Builtin.Slice.slicePlaces ((n : Int) - 1) (-1) (-1))) _ _ s
  rw [e]
  exact wpAny_pure h
theorem getItem_tuple_back {t sl : Addr} {items : Array Value} {vl vu vs : Value} {Q : Value → Shared → Prop} (ht : IsTup s.heap t items) (hs : s.heap.IsSliceOf sl vl vu vs) (pl : IsPart vl none) (pu : IsPart vu none) (ps : IsPart vs (some (-1)))
    (h : Q (.ref s.heap.objs.size) { s with heap := s.heap.push { cls := .type "tuple", data := .seq items.toList.reverse.toArray } }) (hsz : items.size ≤ sizeLine) : wpAny (model prog w) A (getItem (.ref t) (.ref sl)) Q E s := by
  have hfit : sizeOk (.seq items.toList.reverse.toArray) := by
    show items.toList.reverse.toArray.size ≤ sizeLine
    rw [List.size_toArray, List.length_reverse, Array.length_toList]
    exact hsz
  obtain ⟨os, hos, hcs, hds⟩ := id hs
  have hTs : s.TypeIs (.ref sl) "slice" := ⟨os, hos, hcs⟩
  unfold getItem
  try with_reducible refine wpAny_holding ?_
  first | refine wpAny_bind (wpAny_pure ?_) | skip
  refine wpAny_bind (wpAny_sequenceKey ht.typeIs (by decide) ?_)
  refine wpAny_bind (wpAny_callSpecial?_slot (name := Str.ofString "__getitem__") ht.typeIs PyProof.Rows.slot_tuple_getitem
    (wpAny_call_entry PyProof.Rows.slot_tuple_getitem ht.typeIs entry_tuple_getitem ?_ (args_tuple_getitem _ _)))
  show wpAny _ _ (Builtin.Tuple.tupleItemsOf (.ref t) >>= _) _ _ s
  refine wpAny_bind (tupleItemsOf_ ht ?_)
  refine wpAny_bind (wpAny_typeOf hTs ?_)
  rw [if_pos (by decide)]
  refine wpAny_bind (applied_back hs pl pu ps ?_)
  have hno : ¬ ((((items.size : Int) - 1) == 0 && (-1 : Int) == 1 && items.size == items.size) = true) := by
    intro q
    rw [Bool.and_eq_true, Bool.and_eq_true] at q
    exact absurd q.1.2 (by decide)
  show wpAny _ _ (if (((items.size : Int) - 1) == 0 && (-1 : Int) == 1 && items.size == items.size) = true then _ else _) _ _ s
  rw [if_neg hno, back_pick]
  first
    | exact wpAny_bind (m := Builtin.Tuple.tupleExact _) (wpAny_newObj_type (wpAny_pure ⟨_, rfl, wpAny_pure h⟩) hfit)
    | exact wpAny_bind (wpAny_bind (m := Builtin.Tuple.tupleExact _) (wpAny_newObj_type (wpAny_pure ⟨_, rfl, wpAny_pure h⟩) hfit))
end
section
variable {X : Cx}
/-- x[::-1], a list's or a tuple's -/
def tRevS (K : PySem.W.Frag) (te : TE) : TE := fun σ H Q => te σ H fun x H1 => ∃ a xs, x = .ref a ∧ ((SqL K H1 a xs ∧ ∀ p, H1 p = none → Q (.ref p) (upd H1 p (.lst xs.reverse))) ∨ (SqT K H1 a xs ∧ ∀ p, H1 p = none → Q (.ref p) (upd H1 p (.tup xs.reverse))))
theorem pe_revS {e : Expr} {te : TE} {k : Nat} {p1 p2 p3 pos : Pos} (he : PE X e te) : PE X (.Subscript e (.Slice none none (some (.UnaryOp .USub (.Constant (.int 1) k p1) p2)) p3) pos) (tRevS X.K te) := by
  refine ⟨fun pins s σ H Q I h => ?_⟩
  have back : PO X (some (.UnaryOp .USub (.Constant (.int 1) k p1) p2)) (tPart (tUn (rU fun i => .int (-i)) (tC (.int 1)))) := po_some (pe_un un_neg pe_int)
  refine Subscript_ (thn (he.run pins s σ H _ I h) fun v s1 hv => ?_)
  obtain ⟨x, H1, I1, r1, a, xs, ex, q⟩ := hv
  subst ex
  cases r1
  refine wpAny_Slice (thn (po_none.run pins s1 σ H1 (fun o G => o = none ∧ G = H1) I1 ⟨rfl, rfl⟩) fun vl s2 h2 => ?_)
  obtain ⟨l, H2, I2, pl, el, e2⟩ := h2
  subst el e2
  refine thn (po_none.run pins s2 σ H2 (fun o G => o = none ∧ G = H2) I2 ⟨rfl, rfl⟩) fun vu s3 h3 => ?_
  obtain ⟨u, H3, I3, pu, eu, e3⟩ := h3
  subst eu e3
  refine thn (back.run pins s3 σ H3 (fun o G => o = some (-1) ∧ G = H3) I3 ⟨1, rfl, -1, rfl, rfl, rfl⟩) fun vs s4 h4 => ?_
  obtain ⟨o, H4, I4, ps, eo, e4⟩ := h4
  subst eo e4
  have I5 : Inv X pins σ H4 { s4 with heap := s4.heap.push { cls := .type "slice", data := .fields #[vl, vu, vs] } } := I4.kept (t' := s4.toks) fun b ob z => Heap.get?_push_of_some _ z
  show wpAny _ X.A (subscriptTail e (.Slice none none (some (.UnaryOp .USub (.Constant (.int 1) k p1) p2)) p3) (.ref a) (.ref s4.heap.objs.size)) _ X.xe { s4 with heap := s4.heap.push { cls := .type "slice", data := .fields #[vl, vu, vs] } }
  rcases q with ⟨hx, q⟩ | ⟨hx, q⟩
  · obtain ⟨its, r, ht, hz⟩ := I5.list hx
    have hlen := r.length
    refine tail_any (ops := [.ref a, .ref s4.heap.objs.size]) ht.isList.typeIs (PySem.slot_list_getitem.lookup) ?_ (by with_unfolding_all rfl)
    refine wpAny_getItem_list_slice ht.isList (Heap.IsSliceOf.new _ vl vu vs) pl pu ps (by decide) ?_ (by rw [List.size_toArray]; omega)
    rw [PySem.W.krv_pick]
    refine ⟨.ref _, _, I5.laid (t' := s4.toks) (o := .lst xs.reverse) (fun b ob z => Heap.get?_push_of_some _ z) (Nat.le_refl _) ?_, rfl, q _ (I5.hok.fresh (Nat.le_refl _))⟩
    exact ⟨by rw [List.length_reverse]; exact hz, _, 0, r.reverse, Heap.get?_push_size _ rfl⟩
  · obtain ⟨its, r, ht, hz⟩ := I5.tuple hx
    have hlen := r.length
    refine tail_any (ops := [.ref a, .ref s4.heap.objs.size]) ht.typeIs PyProof.Rows.slot_tuple_getitem.lookup ?_ (by with_unfolding_all rfl)
    refine getItem_tuple_back ht (Heap.IsSliceOf.new _ vl vu vs) pl pu ps ?_ (by rw [List.size_toArray]; omega)
    refine ⟨.ref _, _, I5.laid (t' := s4.toks) (o := .tup xs.reverse) (fun b ob z => Heap.get?_push_of_some _ z) (Nat.le_refl _) ?_, rfl, q _ (I5.hok.fresh (Nat.le_refl _))⟩
    refine ⟨by rw [List.length_reverse]; exact hz, its.reverse, r.reverse, ?_⟩
    exact ⟨_, Heap.get?_push_size _ rfl, rfl, 0, by simp⟩
end
end Ld
set_option Elab.async false
set_option linter.all false
set_option maxRecDepth 100000
set_option maxHeartbeats 4000000
/-! the end of a law that is run at the caller itself (what runs around is known there), beside one table -/
namespace Ld
open PySem PySem.Spec PyProof.Rows L2 GxR
/-- what the run is told of, and what it has to come to -/
def RunsTrue (P : Program) (w : World) (K : PySem.W.Frag) (mg : Str → Option Value) (fa a c T : Addr) (ns : List Int) (s : Shared) : Prop :=
  ∀ (base : Heap) (H : Hp), K.In base → base.Ns mainGlobals mg → TabB base mg c T → Env0 P w K mg base callerA [] s H → H T = some (.tbl #[]) → SqL K H a (ns.map V.int) →
    codeAny (model P w) callerA (.call (.ref fa) ⟨[.ref a], []⟩) (CR CX0 [] P w H s (fun v _ => v = .bl true) fun _ _ _ => False) s
theorem no_mem {α : Type} {x : α} (h : x ∈ ([] : List α)) : False := by cases h
section
variable {P : Program} {w : World} {K : PySem.W.Frag} {mg mb : Str → Option Value} {fa a c T : Addr} {s : Shared} {vs : List Value} {ns : List Int}
/-- what is seen at the start: the table, and the script where it is no written one -/
structure Seen (K : PySem.W.Frag) (a T : Addr) (H : Hp) : Prop where
  tab : H T = some (.tbl #[])
  only : ∀ b u, H b = some u → b = T ∨ (b = a ∧ ∃ o xs, u = .frz o (.lst xs))
  out : H a ≠ none → K.lookup a = none
theorem seen_run (KX : K.In s.heap) (hns : s.heap.Ns mainGlobals mg) (hb : s.heap.Ns builtinsNs mb) (hbb : ∀ x : Str, x ≠ "__name__" → mb x = bootBuiltins x) (hlim : s.heap.NoLimit) (hg : s.gens = #[])
    (hT : s.heap.get? T = some { cls := .none, data := .fields #[] }) (nT : K.lookup T = none) (C : PySem.W.CodeHd s.heap c T)
    (hbm : ∃ (bm : Addr) (ob : Obj), mg "__builtins__" = some (.ref bm) ∧ bm ≠ builtinsNs ∧ s.heap.get? bm = some ob ∧ ob.cls = .type "module" ∧ ob.dict = some builtinsNs ∧ ob.data = .plain)
    (ha : s.heap.get? a = some { cls := .type "list", data := .seq vs.toArray }) (R : RunsTrue P w K mg fa a c T ns s) {H : Hp} (S : Seen K a T H) (hok : HOk P w H s.heap) (hS : SqL K H a (ns.map V.int)) :
    codeAny (model P w) callerA (.call (.ref fa) ⟨[.ref a], []⟩) (fun r s' => r = .ok (.ret (.bool true)) ∧ OldK s.heap s'.heap ∧ s'.os = s.os ∧ AllBare s'.gens) s := by
  -- an object that is neither a list nor an empty table is not seen
  have unseen : ∀ {b : Addr} {o : Obj}, s.heap.get? b = some o → (∀ ws n, o.data ≠ .seq ws n) → o.data ≠ .fields #[] → H b = none := fun {b o} e h1 h2 => by
    cases q : H b with
    | none => rfl
    | some u =>
      exfalso
      rcases S.only b u q with z | ⟨z, _⟩
      · rw [z, hT] at e
        cases e
        exact h2 rfl
      · rw [z, ha] at e
        cases e
        exact h1 _ _ rfl
  have unseenD : ∀ {b : Addr} {o : Obj} {es : Array DictEntry} {n : Nat}, s.heap.get? b = some o → o.data = .dict es n → (hidT s.heap H).get? b = some o := fun {b o es n} e d =>
    hidT_get e (unseen e (fun ws m z => by rw [d] at z; cases z) fun z => by rw [d] at z; cases z)
  have nsUp : ∀ {b : Addr} {m : Str → Option Value}, s.heap.Ns b m → (hidT s.heap H).Ns b m := fun {b m} ⟨o, es, n, e, d, r⟩ => ⟨o, es, n, unseenD e d, d, r⟩
  have kUp : K.In (hidT s.heap H) := fun b o e => hidT_get (KX b o e) (by
    cases q : H b with
    | none => rfl
    | some u =>
      exfalso
      rcases S.only b u q with z | ⟨z, _⟩
      · rw [z, nT] at e
        cases e
      · rw [z, S.out (by rw [← z, q]; exact fun y => nomatch y)] at e
        cases e)
  have tb : TabB (hidT s.heap H) mg c T := by
    refine ⟨?_, ?_, fun z => ?_⟩
    · obtain ⟨o, us, file, tf, flags, tg, inF, text, tt, e1, r1, r2, r3, r⟩ := C
      refine ⟨o, us, file, tf, flags, tg, inF, text, tt, hidT_get e1 (unseen e1 (fun ws n z => ?_) fun z => ?_), r1, r2, r3, r⟩
      · rw [r2] at z
        cases z
      · rw [r2] at z
        cases z
        simp at r3
    · obtain ⟨bm, ob, b1, b2, b3, b4, b5, b6⟩ := hbm
      refine ⟨bm, ob, b1, b2, fun z => ?_, fun z => ?_, hidT_get b3 (unseen b3 (fun ws n z => ?_) fun z => ?_), b4, b5, b6⟩
      · obtain ⟨o, es, n, e, d, _⟩ := hns
        rw [z, e] at b3
        cases b3
        rw [d] at b6
        cases b6
      · rw [z, hT] at b3
        cases b3
        cases b6
      · rw [b6] at z
        cases z
      · rw [b6] at z
        cases z
    · obtain ⟨o, es, n, e, d, _⟩ := hns
      rw [z, hT] at e
      cases e
      cases d
  have md : L2.Mod K mg (hidT s.heap H) := ⟨kUp, nsUp hns, ⟨mb, nsUp hb, hbb⟩, let ⟨mc, h1, h2⟩ := hlim; ⟨mc, nsUp h1, h2⟩⟩
  have e0 : Env0 P w K mg (hidT s.heap H) callerA [] s H := ⟨rfl, md, fun b o e => of_hidT e, Nat.le_of_eq (hidT_size _ _), trivial, fun b z => (no_mem (show b ∈ ([] : List Addr) from z)).elim, hok, .of_eq hg⟩
  refine codeAny_mono (R _ H kUp (nsUp hns) tb e0 S.tab hS) fun r s' h => ?_
  match r, h with
  | .error e, h => exact (show False from h).elim
  | .ok .next, h => exact False.elim h
  | .ok .brk, h => exact False.elim h
  | .ok .cont, h => exact False.elim h
  | .ok (.ret u), h =>
    obtain ⟨v, H', os, bare, un, hok', r', q⟩ := h
    obtain rfl : v = .bl true := q
    obtain rfl : u = Value.bool true := r'
    -- what stood stands as before, but for the table
    have old : ∀ b o, b ≠ T → s.heap.get? b = some o → s'.heap.get? b = some o := fun b o nb e => by
      cases q : H b with
      | none => exact un.keep b o e q (fun z => no_mem (show b ∈ ([] : List Addr) from z)) fun z => no_mem z
      | some u =>
        rcases S.only b u q with z | ⟨_, ob, xs, z⟩
        · exact absurd z nb
        · rw [z] at q
          obtain ⟨e1, _⟩ := hok b _ q
          obtain ⟨e2, _⟩ := hok' b _ (un.frzs b ob _ q)
          rw [e] at e1
          cases e1
          exact e2
    obtain ⟨more, hm⟩ : ∃ more : Array Value, s'.heap.get? T = some { cls := .none, data := .fields more } := by
      obtain ⟨more, z⟩ := un.tbls T #[] S.tab
      exact ⟨_, hok' T _ z⟩
    refine ⟨rfl, ⟨fun b o e => ?_, fun b o e => ?_⟩, os, bare⟩
    · by_cases hbT : b = T
      · subst hbT
        rw [hT] at e
        cases e
        exact .inr (.inl ⟨(C.tab hT).isCodeTable, rfl, #[], more, rfl, by rw [Array.empty_append]; exact hm⟩)
      · exact .inl (old b o hbT e)
    · by_cases hbT : b = T
      · subst hbT
        exact ⟨_, hm⟩
      · exact ⟨o, old b o hbT e⟩
theorem run_of_true (KX : K.In s.heap) (hns : s.heap.Ns mainGlobals mg) (hb : s.heap.Ns builtinsNs mb) (hbb : ∀ x : Str, x ≠ "__name__" → mb x = bootBuiltins x) (hlim : s.heap.NoLimit) (hg : s.gens = #[])
    (hT : s.heap.get? T = some { cls := .none, data := .fields #[] }) (nT : K.lookup T = none) (C : PySem.W.CodeHd s.heap c T)
    (hbm : ∃ (bm : Addr) (ob : Obj), mg "__builtins__" = some (.ref bm) ∧ bm ≠ builtinsNs ∧ s.heap.get? bm = some ob ∧ ob.cls = .type "module" ∧ ob.dict = some builtinsNs ∧ ob.data = .plain)
    (ha : s.heap.get? a = some { cls := .type "list", data := .seq vs.toArray }) (hi : IntsAre vs ns) (hl : ns.length ≤ sizeLine) (R : RunsTrue P w K mg fa a c T ns s) :
    codeAny (model P w) callerA (.call (.ref fa) ⟨[.ref a], []⟩) (fun r s' => r = .ok (.ret (.bool true)) ∧ OldK s.heap s'.heap ∧ s'.os = s.os ∧ AllBare s'.gens) s := by
  have rv := vals_ints hi
  have lv := hi.length
  have aT : a ≠ T := fun z => by
    rw [z, hT] at ha
    cases ha
  by_cases hk : K.lookup a = none
  · -- the script is seen as it stands
    refine seen_run KX hns hb hbb hlim hg hT nT C hbm ha R (H := fun b => if b = a then some (.frz { cls := .type "list", data := .seq vs.toArray } (.lst (ns.map V.int))) else if b = T then some (.tbl #[]) else none)
      ⟨(if_neg aT.symm).trans (if_pos rfl), fun b u e => ?_, fun _ => hk⟩ (fun b u e => ?_) (.inl (.inr ⟨_, if_pos rfl⟩))
    · by_cases z : b = a
      · exact .inr ⟨z, _, _, (Option.some.inj ((if_pos z).symm.trans e)).symm⟩
      · by_cases y : b = T
        · exact .inl y
        · exact absurd ((if_neg y).symm.trans ((if_neg z).symm.trans e)) (fun x => nomatch x)
    · by_cases z : b = a
      · have e' := Option.some.inj ((if_pos z).symm.trans e)
        subst e'
        rw [z]
        exact ⟨ha, by rw [List.length_map]; exact hl, vs, _, rv, ha⟩
      · by_cases y : b = T
        · have e' := Option.some.inj ((if_pos y).symm.trans ((if_neg z).symm.trans e))
          subst e'
          rw [y]
          exact hT
        · exact absurd ((if_neg y).symm.trans ((if_neg z).symm.trans e)) (fun x => nomatch x)
  · obtain ⟨o, ho⟩ := Option.ne_none_iff_exists'.mp hk
    have e := KX a o ho
    rw [ha] at e
    cases e
    refine seen_run KX hns hb hbb hlim hg hT nT C hbm ha R (H := fun b => if b = T then some (.tbl #[]) else none) ⟨if_pos rfl, fun b u e => ?_, fun z => absurd (if_neg aT) z⟩ (fun b u e => ?_)
      (.inr ⟨_, vs.toArray, _, ho, rfl, rfl, rfl, by rw [List.size_toArray, lv]; exact hl, by simpa using rv⟩)
    · by_cases y : b = T
      · exact .inl y
      · exact absurd ((if_neg y).symm.trans e) (fun x => nomatch x)
    · by_cases y : b = T
      · have e' := Option.some.inj ((if_pos y).symm.trans e)
        subst e'
        rw [y]
        exact hT
      · exact absurd ((if_neg y).symm.trans e) (fun x => nomatch x)
end
end Ld
set_option Elab.async false
set_option linter.all false
set_option maxRecDepth 100000
set_option maxHeartbeats 4000000
/-! small letters: isascii, isalpha, islower together -/
namespace Tx
open PySem
theorem below : ∀ c, c < 128 → (Unicode.isAlpha c = (decide (65 ≤ c ∧ c ≤ 90) || decide (97 ≤ c ∧ c ≤ 122)) ∧ Unicode.isLower c = decide (97 ≤ c ∧ c ≤ 122) ∧ (Unicode.isUpper c || Unicode.isTitle c) = decide (65 ≤ c ∧ c ≤ 90)) := by decide +kernel
theorem small_eq {p : Nat → Bool} (hp : ∀ c, p c = true ↔ 97 ≤ c ∧ c ≤ 122) (x : Str) : (Txt.isascii x && (Txt.isalpha x && Txt.islower x)) = (decide (0 < x.length) && x.cps.toList.all p) := by
  unfold Txt.isascii Txt.isalpha Txt.islower
  rw [← Array.all_toList, ← Array.all_toList, ← Array.any_toList, ← Array.any_toList]
  have hl : x.length = x.cps.toList.length := by
    first
      | exact (Array.length_toList).symm
      | simp [Str.length]
  rw [hl]
  generalize x.cps.toList = L
  rw [Bool.eq_iff_iff]
  simp only [Bool.and_eq_true, List.all_eq_true, List.any_eq_true, decide_eq_true_eq, Bool.not_eq_true', gt_iff_lt]
  constructor
  · rintro ⟨ha, ⟨hn, hal⟩, _, hu⟩
    refine ⟨by simpa using hn, fun c hc => (hp c).mpr ?_⟩
    have h1 : c < 128 := by simpa using ha c hc
    obtain ⟨b1, b2, b3⟩ := below c h1
    have a1 := hal c hc
    rw [b1] at a1
    have nu : ¬ (65 ≤ c ∧ c ≤ 90) := fun z => by
      have : (L.any fun c => Unicode.isUpper c || Unicode.isTitle c) = true := List.any_eq_true.mpr ⟨c, hc, by rw [b3]; exact decide_eq_true z⟩
      rw [hu] at this
      cases this
    rw [decide_eq_false nu, Bool.false_or] at a1
    exact of_decide_eq_true a1
  · rintro ⟨hn, h⟩
    have hb : ∀ c ∈ L, 97 ≤ c ∧ c ≤ 122 := fun c hc => (hp c).mp (h c hc)
    refine ⟨fun c hc => ?_, ⟨by simpa using hn, fun c hc => ?_⟩, ?_, ?_⟩
    · have := hb c hc
      first
        | omega
        | (simp; omega)
    · have z := hb c hc
      rw [(below c (by omega)).1, decide_eq_true z, Bool.or_true]
    · match L, hn with
      | c :: r, _ =>
        have z := hb c List.mem_cons_self
        exact ⟨c, List.mem_cons_self, by rw [(below c (by omega)).2.1]; exact decide_eq_true z⟩
    · rw [Bool.eq_false_iff]
      intro q
      obtain ⟨c, hc, e⟩ := List.any_eq_true.mp q
      have z := hb c hc
      rw [(below c (by omega)).2.2] at e
      have := of_decide_eq_true e
      omega
end Tx
set_option Elab.async false
set_option linter.all false
set_option maxRecDepth 100000
set_option maxHeartbeats 4000000
namespace K01
open PySem L2 Ld GxR
def topS (i : Nat) : Stmt := PySem.Challenge.pw_leanfar_k01_names_and_places.main.body.getD i (.Pass ⟨0, 0, 0, 0⟩)
abbrev s__law_dip : Stmt := topS 6
abbrev N__law_dip : List Str := ["pot", "many", "mixed", "found"]
theorem sc__law_dip : FnScope N__law_dip ["pot", "many"] (defScope s__law_dip) := ⟨rfl, rfl, rfl, by decide +kernel, rfl, by decide +kernel, by decide +kernel⟩
/-- the pot: what is drawn from -/
def Pot (H : Hp) (a : Addr) (x b c : Int) : Prop := H a = some (.lst [.int x, .int b, .int c])
def spDip : Sp := fun vs H Q _ => ∃ (a : Addr) (x b c m : Int), vs = [.ref a, .int m] ∧ Pot H a x b c ∧ (0 ≤ b ∧ b < 2 ^ 200) ∧ (0 ≤ c ∧ c < 2 ^ 60) ∧ (0 < m ∧ m < 2 ^ 29) ∧
  ∀ x' c' r : Int, c ≤ c' → c' ≤ c + 1 → 0 ≤ r → r < m → Q (.int r) (upd H a (.lst [.int x', .int b, .int c']))
theorem pow_small {i : Int} {n : Nat} (h : 0 ≤ i ∧ i < 2 ^ n) (hn : 0 < n ∧ n ≤ 1000000) : i.natAbs.log2 < 1000000 := by
  have e : i.natAbs < 2 ^ n := by
    have h1 : ((i.natAbs : Nat) : Int) = i := Int.natAbs_of_nonneg h.1
    have h2 : ((i.natAbs : Nat) : Int) < ((2 ^ n : Nat) : Int) := by
      rw [h1, Int.natCast_pow]
      exact h.2
    exact Int.ofNat_lt.mp h2
  exact Nat.lt_of_lt_of_le (PySem.Flt.log2_lt_of hn.1 e) hn.2
section
variable {P : Program} {w : World} {K : PySem.W.Frag} {mg : Str → Option Value} {base : Heap}
theorem ok_dip {f : Addr} {fd : FuncData} (F : Fun K "_law_dip" "_law_dip" s__law_dip f fd) : FnOk P w K mg base CX0 1 f fd ["pot", "many"] spDip := by
  refine F.ok sc__law_dip (fun vs H Q E h => ?_) (fun cdv A outer s H vs Q E hr h => ?_)
  · obtain ⟨a, x, b, c, m, rfl, _⟩ := h
    rfl
  · obtain ⟨a, x, b, c, m, rfl, hp, ⟨hb0, hb1⟩, ⟨hc0, hc1⟩, ⟨hm0, hm1⟩, q⟩ := h
    refine ⟨_, (pss_cons (ps_if (pt_cmpR op_gt (pe_ix ix_list (pv 0) pe_int (fun _ _ => rfl)) pe_int (nomark _)) (pss_cons (ps_set (i := 3) sc__law_dip.nd rfl (Or.inl rfl) (pe_op op_mod (pe_ix ix_list (pv 0) pe_int (fun _ _ => rfl)) (pv 1)))
  (pss_cons (ps_asg (pe_op op_fdiv (pe_ix ix_list (pv 0) pe_int (fun _ _ => rfl)) (pv 1)) (pg_sub (pv 0) pe_int set_list))
  (pss_one (ps_ret (pv 3))))) pss_nil)
  (pss_cons (ps_asg (pe_op op_add (pe_ix ix_list (pv 0) pe_int (fun _ _ => rfl)) pe_int) (pg_sub (pv 0) pe_int set_list))
  (pss_cons (ps_set (i := 2) sc__law_dip.nd rfl (Or.inl rfl) (pe_op op_mod (pe_op op_powW (pe_op op_add (pe_ix ix_list (pv 0) pe_int (fun _ _ => rfl)) (pe_op op_mul pe_int (pe_ix ix_list (pv 0) pe_int (fun _ _ => rfl)))) pe_int) (pe_op op_add (pe_op op_powW pe_int pe_int) pe_int)))
  (pss_cons (ps_set (i := 2) sc__law_dip.nd rfl (Or.inl rfl) (pe_op op_mod (pe_op op_powW (pe_op op_add (pv 2) (pe_op op_mul pe_int (pe_ix ix_list (pv 0) pe_int (fun _ _ => rfl)))) pe_int) (pe_op op_add (pe_op op_powW pe_int pe_int) pe_int)))
  (pss_one (ps_ret (pe_op op_mod (pe_op op_fdiv (pv 2) pe_int) (pv 1)))))))), ?_⟩
    -- if pot[0] > 0
    refine ⟨_, rfl, a, _, 0, _, rfl, rfl, .inl (.inl hp), atI_nat (j := 0) rfl, _, _, rfl, rfl, _, rfl, ?_⟩
    refine ite2 (fun h => ?_) (fun h => ?_)
    · -- found = pot[0] % many; pot[0] = pot[0] // many; return found
      refine ⟨_, rfl, a, _, 0, _, rfl, rfl, .inl (.inl hp), atI_nat (j := 0) rfl, _, rfl, _, _, rfl, rfl, hm0, ?_⟩
      refine ⟨_, rfl, a, _, 0, _, rfl, rfl, .inl (.inl hp), atI_nat (j := 0) rfl, _, rfl, _, _, rfl, rfl, ⟨hm0, by omega⟩, ?_⟩
      refine ⟨_, rfl, a, _, 0, 0, rfl, rfl, hp, rfl, _, rfl, ?_⟩
      exact q (x / m) c (x % m) (by omega) (by omega) (Int.emod_nonneg _ (by omega)) (Int.emod_lt_of_pos _ hm0)
    · -- pot[2] = pot[2] + 1
      refine ⟨_, rfl, a, _, 2, _, rfl, rfl, .inl (.inl hp), atI_nat (j := 2) rfl, _, _, rfl, rfl, ?_⟩
      refine ⟨_, rfl, a, _, 2, 2, rfl, rfl, hp, rfl, ?_⟩
      have hq : (upd H a (.lst [.int x, .int b, .int (c + 1)])) a = some (.lst [.int x, .int b, .int (c + 1)]) := upd_same
      -- mixed = (pot[1] + .. * pot[2]) ** 3 % ..
      have e1 : (0 : Int) ≤ 104395301 * (c + 1) ∧ 104395301 * (c + 1) < 2 ^ 100 := by omega
      refine ⟨_, rfl, a, _, 1, _, rfl, rfl, .inl (.inl hq), atI_nat (j := 1) rfl, _, rfl, a, _, 2, _, rfl, rfl, .inl (.inl hq), atI_nat (j := 2) rfl, _, _, rfl, rfl, .inl (by decide), _, _, rfl, rfl, ?_⟩
      refine ⟨_, _, rfl, rfl, ⟨by decide, by decide, pow_small (n := 201) (by omega) (by decide)⟩, ?_⟩
      refine ⟨_, _, rfl, rfl, ⟨by decide, by decide, by decide +kernel⟩, _, _, rfl, rfl, ?_⟩
      refine ⟨_, _, rfl, rfl, (by show (0 : Int) < 10 ^ Int.toNat _ + _; decide +kernel), ?_⟩
      generalize hz : (b + 104395301 * (c + 1)) ^ (Int.toNat 3) % (10 ^ (Int.toNat 41) + 37) = z
      have hz0 : 0 ≤ z := by
        rw [← hz]
        exact Int.emod_nonneg _ (by decide +kernel)
      have hz1 : z < 2 ^ 200 := by
        rw [← hz]
        exact Int.lt_trans (Int.emod_lt_of_pos _ (by decide +kernel)) (by decide +kernel)
      -- mixed = (mixed + .. * pot[2]) ** 5 % ..
      have e2 : (0 : Int) ≤ 982451653 * (c + 1) ∧ 982451653 * (c + 1) < 2 ^ 100 := by omega
      refine ⟨_, rfl, _, rfl, a, _, 2, _, rfl, rfl, .inl (.inl hq), atI_nat (j := 2) rfl, _, _, rfl, rfl, .inl (by decide), _, _, rfl, rfl, ?_⟩
      refine ⟨_, _, rfl, rfl, ⟨by decide, by decide, pow_small (n := 201) (by omega) (by decide)⟩, ?_⟩
      refine ⟨_, _, rfl, rfl, ⟨by decide, by decide, by decide +kernel⟩, _, _, rfl, rfl, ?_⟩
      refine ⟨_, _, rfl, rfl, (by show (0 : Int) < 10 ^ Int.toNat _ + _; decide +kernel), ?_⟩
      -- return mixed // 65539 % many
      refine ⟨_, rfl, _, _, rfl, rfl, ⟨by decide, by decide⟩, _, rfl, _, _, rfl, rfl, hm0, ?_⟩
      exact q x (c + 1) _ (by omega) (by omega) (Int.emod_nonneg _ (by omega)) (Int.emod_lt_of_pos _ hm0)
end
end K01
set_option Elab.async false
set_option linter.all false
set_option maxRecDepth 100000
set_option maxHeartbeats 4000000
namespace K01
open PySem L2 Ld GxR
theorem itY {c A B : Prop} [Decidable c] (h : c) (q : A) : if c then A else B := by
  rw [if_pos h]
  exact q
theorem itN {c A B : Prop} [Decidable c] (h : ¬ c) (q : B) : if c then A else B := by
  rw [if_neg h]
  exact q
/-- a def of the text whose code object is known -/
structure FunC (K : PySem.W.Frag) (x qual : Str) (st : Stmt) (f c : Addr) (fd : FuncData) : Prop where
  ex : ∃ (oc : Value) (od : Option Addr) (kV doc pm : Value) (an : Option Addr) (ct : Value) (osl : Array (Option Value)),
    fd = PySem.W.fnOf x qual (defArgs st) (defBody st) (defScope st) .none kV doc pm an (.ref c) ct ∧ K.lookup f = some ⟨oc, od, .func fd, osl⟩ ∧ PySem.W.codeIn K (.ref c) qual = true
  kp : PySem.W.keepIn K (.ref f) = true
section
variable {P : Program} {w : World} {K : PySem.W.Frag} {mg : Str → Option Value} {base : Heap}
theorem FunC.ok {x qual : Str} {st : Stmt} {f c : Addr} {fd : FuncData} {N ps : List Str} {k : Nat} {sp : Sp} (F : FunC K x qual st f c fd) (S : FnScope N ps (defScope st)) (len : ∀ vs H Q E, sp vs H Q E → vs.length = ps.length)
    (hbody : ∀ (A : Around) (outer : List Env) (s : Shared) (H : Hp) (vs : List V) (Q : VK) (E : XK), Room k (A.deeper (PyProof.Rows.envOfC qual (defScope st) s.heap.objs.size f (.ref c))) → sp vs H Q E →
      ∃ t, PSs (cxOf CX0 P w K mg base N qual (defScope st) f (.ref c) A outer s H E).nox (defBody st) t ∧ t { nx := fun _ H' => Q .non H', rt := Q } (L2.start N vs) H) : FnOk P w K mg base CX0 (k + 1) f fd ps sp := by
  obtain ⟨oc, od, kV, doc, pm, an, ct, osl, rfl, lk, hcd⟩ := F.ex
  refine fn_of lk hcd S len fun A outer s H vs Q E hr hsp => ?_
  obtain ⟨t, h, q⟩ := hbody A outer s H vs Q E hr hsp
  exact ⟨t, h.nox, q⟩
end
/-- a sign from a to z -/
def signB (c : Nat) : Bool := !decide ([c] < [97]) && !decide ([122] < [c])
theorem signB_iff (c : Nat) : signB c = true ↔ 97 ≤ c ∧ c ≤ 122 := by
  unfold signB
  rw [Bool.and_eq_true, Bool.not_eq_true', Bool.not_eq_true', decide_eq_false_iff_not, decide_eq_false_iff_not]
  constructor
  · intro ⟨h1, h2⟩
    refine ⟨Nat.le_of_not_lt fun z => h1 (List.Lex.rel z), Nat.le_of_not_lt fun z => h2 (List.Lex.rel z)⟩
  · intro ⟨h1, h2⟩
    refine ⟨fun z => ?_, fun z => ?_⟩
    · cases z with
      | rel z => omega
      | cons z => cases z
    · cases z with
      | rel z => omega
      | cons z => cases z
def nameD : PyData → Bool
  | .str x => decide (1 ≤ x.length ∧ x.length ≤ 8) && x.cps.toList.all signB
  | _ => false
def placeD : PyData → Bool
  | .tuple [a, b] => nameD a && nameD b
  | _ => false
abbrev s_is_name : Stmt := topS 1
abbrev N_is_name : List Str := ["thing"]
theorem sc_is_name : FnScope N_is_name ["thing"] (defScope s_is_name) := ⟨rfl, rfl, rfl, by decide +kernel, rfl, by decide +kernel, by decide +kernel⟩
theorem Da.ty {K : PySem.W.Frag} {H : Hp} {v : V} {d : PyData} (h : Da H v d) : ∃ T, TyB K H v T ∧ K7 T ∧ ((T = "str" ↔ ∃ x, d = .str x) ∧ (T = "tuple" ↔ ∃ xs, d = .tuple xs)) := by
  cases h with
  | non => exact ⟨_, .non, .none, ⟨fun e => absurd e (by decide), fun ⟨_, e⟩ => nomatch e⟩, ⟨fun e => absurd e (by decide), fun ⟨_, e⟩ => nomatch e⟩⟩
  | bl b => exact ⟨_, .bl b, .bool, ⟨fun e => absurd e (by decide), fun ⟨_, e⟩ => nomatch e⟩, ⟨fun e => absurd e (by decide), fun ⟨_, e⟩ => nomatch e⟩⟩
  | int i => exact ⟨_, .int i, .int, ⟨fun e => absurd e (by decide), fun ⟨_, e⟩ => nomatch e⟩, ⟨fun e => absurd e (by decide), fun ⟨_, e⟩ => nomatch e⟩⟩
  | str x => exact ⟨_, .str x, .str, ⟨fun _ => ⟨x, rfl⟩, fun _ => rfl⟩, ⟨fun e => absurd e (by decide), fun ⟨_, e⟩ => nomatch e⟩⟩
  | lst e _ => exact ⟨_, .lst (.inl (.inl e)), .list, ⟨fun e => absurd e (by decide), fun ⟨_, e⟩ => nomatch e⟩, ⟨fun e => absurd e (by decide), fun ⟨_, e⟩ => nomatch e⟩⟩
  | tup e _ => exact ⟨_, .tup (.inl (.inl e)), .tuple, ⟨fun e => absurd e (by decide), fun ⟨_, e⟩ => nomatch e⟩, ⟨fun _ => ⟨_, rfl⟩, fun _ => rfl⟩⟩
  | dct e _ _ => exact ⟨_, .dK e, .dict, ⟨fun e => absurd e (by decide), fun ⟨_, e⟩ => nomatch e⟩, ⟨fun e => absurd e (by decide), fun ⟨_, e⟩ => nomatch e⟩⟩
def spName (T : Addr) : Sp := fun vs H Q _ => ∃ (v : V) (d : PyData), vs = [v] ∧ Da H v d ∧ d.weight ≤ 20000 ∧ TabG H T ∧ ∀ H', Tabbed T H H' → Q (.bl (nameD d)) H'
theorem small20 {n : Nat} (h : n ≤ 20000) : n ≤ sizeLine := Nat.le_trans h (by decide)
abbrev s_are_small_letters : Stmt := topS 2
abbrev N_are_small_letters : List Str := ["text"]
theorem sc_are_small_letters : FnScope N_are_small_letters ["text"] (defScope s_are_small_letters) := ⟨rfl, rfl, rfl, by decide +kernel, rfl, by decide +kernel, by decide +kernel⟩
/-- small letters alone, one at least -/
def smallS (x : Str) : Bool := decide (0 < x.length) && x.cps.toList.all signB
theorem smallS_eq (x : Str) : (Txt.isascii x && (Txt.isalpha x && Txt.islower x)) = smallS x := Tx.small_eq signB_iff x
def spSmall : Sp := fun vs H Q _ => ∃ x : Str, vs = [.str x] ∧ Q (.bl (smallS x)) H
section
variable {P : Program} {w : World} {K : PySem.W.Frag} {mg : Str → Option Value} {base : Heap}
theorem ok_are_small_letters {f : Addr} {fd : FuncData} (F : Fun K "are_small_letters" "are_small_letters" s_are_small_letters f fd) : FnOk P w K mg base CX0 1 f fd ["text"] spSmall := by
  refine F.ok sc_are_small_letters (fun vs H Q E h => ?_) (fun cdv A outer s H vs Q E hr h => ?_)
  · obtain ⟨x, rfl, _⟩ := h
    rfl
  · obtain ⟨x, rfl, q⟩ := h
    refine ⟨_, (pss_one (ps_ret (pe_and (pe_m0 PySem.F.slot_str_isascii PySem.F.type_str_isascii mt_isascii (pv 0)) (pe_and (pe_m0 PySem.F.slot_str_isalpha PySem.F.type_str_isalpha mt_isalpha (pv 0)) (pe_one (pe_m0 PySem.F.slot_str_islower PySem.F.type_str_islower mt_islower (pv 0))))))), ?_⟩
    rw [← smallS_eq] at q
    refine ⟨_, rfl, ⟨x, rfl⟩, x, rfl, rfl, trivial, _, rfl, ?_⟩
    by_cases h1 : Txt.isascii x = true
    · refine itY h1 ⟨_, rfl, ⟨x, rfl⟩, x, rfl, rfl, trivial, _, rfl, ?_⟩
      rw [h1, Bool.true_and] at q
      by_cases h2 : Txt.isalpha x = true
      · refine itY h2 ⟨_, rfl, ⟨x, rfl⟩, x, rfl, rfl, trivial, ?_⟩
        rw [h2, Bool.true_and] at q
        exact q
      · refine itN h2 ?_
        rw [Bool.not_eq_true] at h2
        rw [h2, Bool.false_and] at q
        exact q
    · refine itN h1 ?_
      rw [Bool.not_eq_true] at h1
      rw [h1, Bool.false_and] at q
      exact q
theorem ok_is_name {f fS T : Addr} {fd fdS : FuncData} (F : Fun K "is_name" "is_name" s_is_name f fd) (G_are_small_letters : FnOk P w K mg base CX0 1 fS fdS ["text"] spSmall) (g_are_small_letters : mg "are_small_letters" = some (.ref fS)) (k_are_small_letters : PySem.W.keepIn K (.ref fS) = true) (b_are_small_letters : Binds K fdS ["text"] [])
    (z_type : mg "type" = none) (z_str : mg "str" = none) (z_len : mg "len" = none) :
    FnOk P w K mg base CX0 2 f fd ["thing"] (spName T) := by
  refine F.ok sc_is_name (fun vs H Q E h => ?_) (fun cdv A outer s H vs Q E hr h => ?_)
  · obtain ⟨v, d, rfl, _⟩ := h
    rfl
  · obtain ⟨v, d, rfl, hd, hw, hT, q⟩ := h
    have hu1 := hu_of hr
    have q := q H ⟨hT, fun _ _ => rfl⟩
    refine ⟨_, (pss_one (ps_ret (pe_and (pe_cmpR op_eqTy (pe_callTy call_type1 (by rfl) z_type (by decide +kernel) (pa_cons (pv 0) pa_nil)) (pe_bltn (v := .ty "str") (by rfl) z_str (by decide +kernel) rfl) (nomark _)) (pe_and (pe_chain op_le op_le pe_int (pe_callB (call_len_str) (by rfl) z_len (by decide +kernel) (pa_cons (pv 0) pa_nil)) pe_int) (pe_one (pe_call G_are_small_letters (hr.mono (by decide)) (by rfl) g_are_small_letters k_are_small_letters b_are_small_letters .nil pass0 (pa_cons (pv 0) pa_nil))))))), ?_⟩
    obtain ⟨t, ht, hk, hs, _⟩ := Da.ty (K := K) hd
    refine ⟨_, rfl, _, t, rfl, ht, t, "str", rfl, rfl, hk, .str, ?_⟩
    by_cases e : t = "str"
    · obtain ⟨x, rfl⟩ := hs.mp e
      cases hd
      have hx : x.length ≤ 20000 := hw
      refine ⟨_, rfl, itY (by simp [e]) ?_⟩
      refine ⟨_, rfl, _, rfl, small20 hx, _, _, rfl, rfl, _, rfl, ?_⟩
      by_cases h1 : (1 : Int) ≤ (x.length : Int)
      · refine itY (by simpa using h1) ?_
        refine ⟨_, _, rfl, rfl, _, rfl, ?_⟩
        by_cases h2 : (x.length : Int) ≤ 8
        · refine itY (by simp [h2]) ?_
          refine ⟨_, rfl, x, rfl, ?_⟩
          have e1 : nameD (.str x) = smallS x := by
            show (decide _ && _) = (decide _ && _)
            rw [decide_eq_true (show 1 ≤ x.length ∧ x.length ≤ 8 from ⟨by omega, by omega⟩), decide_eq_true (show 0 < x.length by omega)]
          rw [← e1]
          exact q
        · refine itN (by simp [h2]) ?_
          have e1 : nameD (.str x) = false := by
            show (decide _ && _) = _
            rw [decide_eq_false (by omega), Bool.false_and]
          rw [e1] at q
          simpa [h2] using q
      · refine itN (by simpa using h1) ?_
        have e1 : nameD (.str x) = false := by
          show (decide _ && _) = _
          rw [decide_eq_false (by omega), Bool.false_and]
        rw [e1] at q
        refine ⟨_, rfl, itN (by simpa using h1) ?_⟩
        simpa [h1] using q
    · refine ⟨_, rfl, itN (by simpa using e) ?_⟩
      have e1 : nameD d = false := by
        cases d with
        | str x => exact absurd (hs.mpr ⟨x, rfl⟩) e
        | _ => rfl
      rw [e1] at q
      simpa [e] using q
end
end K01
set_option Elab.async false
set_option linter.all false
set_option maxRecDepth 100000
set_option maxHeartbeats 4000000
namespace K01
open PySem L2 Ld GxR
theorem Tabbed.refl {T : Addr} {H : Hp} (h : TabG H T) : Tabbed T H H := ⟨h, fun _ _ => rfl⟩
theorem Tabbed.trans {T : Addr} {H H1 H2 : Hp} (a : Tabbed T H H1) (b : Tabbed T H1 H2) : Tabbed T H H2 := ⟨b.1, fun c h => (b.2 c h).trans (a.2 c h)⟩
theorem Tabbed.keep {T : Addr} {H H1 : Hp} (g : TabG H T) (t : Tabbed T H H1) : ∀ a o, H a = some o → (∀ ps, o ≠ .tbl ps) → H1 a = some o := fun a o e n => by
  obtain ⟨ps, hp, _⟩ := g
  rw [t.2 a fun z => by
    rw [z, hp] at e
    exact n ps (Option.some.inj e).symm]
  exact e
abbrev s_is_place : Stmt := topS 3
abbrev N_is_place : List Str := ["thing"]
theorem sc_is_place : FnScope N_is_place ["thing"] (defScope s_is_place) := ⟨rfl, rfl, rfl, by decide +kernel, rfl, by decide +kernel, by decide +kernel⟩
def spPlace (T : Addr) : Sp := fun vs H Q _ => ∃ (v : V) (d : PyData), vs = [v] ∧ Da H v d ∧ d.weight ≤ 20000 ∧ TabG H T ∧ ∀ H', Tabbed T H H' → Q (.bl (placeD d)) H'
theorem w_pair {a b : PyData} (h : (PyData.tuple [a, b]).weight ≤ 20000) : a.weight ≤ 20000 ∧ b.weight ≤ 20000 := by
  simp only [PyData.weight, PyData.weightAll] at h
  omega
theorem placeD_len {ds : List PyData} (h : ds.length ≠ 2) : placeD (.tuple ds) = false := by
  match ds, h with
  | [], _ => rfl
  | [_], _ => rfl
  | [_, _], h => exact absurd rfl h
  | _ :: _ :: _ :: _, _ => rfl
theorem two_of {H : Hp} {xs : List V} {ds : List PyData} (h : DaAll H xs ds) (e : xs.length = 2) : ∃ v0 v1 d0 d1, xs = [v0, v1] ∧ ds = [d0, d1] ∧ Da H v0 d0 ∧ Da H v1 d1 := by
  match xs, ds, h, e with
  | _, _, .cons h0 (.cons h1 .nil), _ => exact ⟨_, _, _, _, rfl, rfl, h0, h1⟩
section
variable {P : Program} {w : World} {K : PySem.W.Frag} {mg : Str → Option Value} {base : Heap}
theorem ok_is_place {f fN T : Addr} {fd fdN : FuncData} (F : Fun K "is_place" "is_place" s_is_place f fd) (G_is_name : FnOk P w K mg base CX0 2 fN fdN ["thing"] (spName T)) (g_is_name : mg "is_name" = some (.ref fN)) (k_is_name : PySem.W.keepIn K (.ref fN) = true) (b_is_name : Binds K fdN ["thing"] [])
    (z_type : mg "type" = none) (z_tuple : mg "tuple" = none) (z_len : mg "len" = none) : FnOk P w K mg base CX0 3 f fd ["thing"] (spPlace T) := by
  refine F.ok sc_is_place (fun vs H Q E h => ?_) (fun cdv A outer s H vs Q E hr h => ?_)
  · obtain ⟨v, d, rfl, _⟩ := h
    rfl
  · obtain ⟨v, d, rfl, hd, hw, hT, q⟩ := h
    have hu1 := hu_of hr
    refine ⟨_, (pss_cons (ps_if (PW.pt (pw_or (pt_cmpR (op_neTy hu1) (pe_callTy call_type1 (by rfl) z_type (by decide +kernel) (pa_cons (pv 0) pa_nil)) (pe_bltn (v := .ty "tuple") (by rfl) z_tuple (by decide +kernel) rfl) (nomark _)) (pw_or1 (pt_cmpR op_ne (pe_callB (call_len_seq) (by rfl) z_len (by decide +kernel) (pa_cons (pv 0) pa_nil)) pe_int (nomark _))))) (pss_one (ps_ret pe_bl)) pss_nil)
  (pss_one (ps_ret (pe_and (pe_call G_is_name (hr.mono (by decide)) (by rfl) g_is_name k_is_name b_is_name .nil pass0 (pa_cons (pe_ix ix_tup (pv 0) pe_int (fun _ _ => rfl)) pa_nil)) (pe_one (pe_call G_is_name (hr.mono (by decide)) (by rfl) g_is_name k_is_name b_is_name .nil pass0 (pa_cons (pe_ix ix_tup (pv 0) pe_int (fun _ _ => rfl)) pa_nil))))))), ?_⟩
    obtain ⟨t, ht, hk, _, hs⟩ := Da.ty (K := K) hd
    refine ⟨_, rfl, _, t, rfl, ht, t, "tuple", rfl, rfl, hk, .tuple, _, rfl, ?_⟩
    by_cases e : t = "tuple"
    · obtain ⟨ds, rfl⟩ := hs.mp e
      cases hd with
      | @tup a xs _ ea hall =>
        refine itN (by simp [e]) ?_
        refine ⟨_, rfl, _, xs, rfl, .inr (.inl (.inl ea)), rfl, _, rfl, ?_⟩
        by_cases h2 : xs.length = 2
        · refine itN (by simp [h2]) ?_
          obtain ⟨v0, v1, d0, d1, rfl, rfl, h0, h1⟩ := two_of hall h2
          obtain ⟨w0, w1⟩ := w_pair hw
          refine ⟨_, rfl, a, _, 0, v0, rfl, rfl, .inl (.inl ea), atI_nat (j := 0) rfl, v0, d0, rfl, h0, w0, hT, fun H1 t1 => ?_⟩
          have kp := Tabbed.keep hT t1
          refine ⟨_, rfl, ?_⟩
          by_cases c0 : nameD d0 = true
          · refine itY c0 ?_
            refine ⟨_, rfl, a, _, 1, v1, rfl, rfl, .inl (.inl (kp _ _ ea fun _ z => nomatch z)), atI_nat (j := 1) rfl, v1, d1, rfl, h1.keep kp, w1, t1.1, fun H2 t2 => ?_⟩
            have e1 : placeD (.tuple [d0, d1]) = nameD d1 := by
              show (nameD d0 && nameD d1) = _
              rw [c0, Bool.true_and]
            rw [← e1]
            exact q H2 (Tabbed.trans t1 t2)
          · refine itN c0 ?_
            have e1 : placeD (.tuple [d0, d1]) = false := by
              show (nameD d0 && nameD d1) = _
              rw [Bool.not_eq_true] at c0
              rw [c0, Bool.false_and]
            rw [e1] at q
            exact q H1 t1
        · refine itY (by simp; omega) ?_
          rw [placeD_len (by rw [← hall.len]; exact h2)] at q
          exact q H (Tabbed.refl hT)
    · refine itY (by simpa using e) ?_
      refine itY rfl ?_
      have e1 : placeD d = false := by
        cases d with
        | tuple x => exact absurd (hs.mpr ⟨x, rfl⟩) e
        | _ => rfl
      rw [e1] at q
      exact q H (Tabbed.refl hT)
/-- over a text's signs -/
theorem lc_str {x : Str} {g : TG} {tt : TT} {te : TE} {vs : List Nat} {σ : L2.St} {H1 : Hp} {D : Addr} {Qd : Hp → Prop} (Pv : Nat → Hp → Prop) (h0 : Pv 0 (upd H1 D (.lst [])))
    (hs : ∀ i c H, x.cps[i]? = some c → Pv i H → g (.str ⟨#[c]⟩) (wipe σ vs) H fun σ2 H2 => wipe σ2 vs = wipe σ vs ∧ tt σ2 H2 fun b H3 =>
      if b = true then te σ2 H3 fun y H4 => ∃ acc, H4 D = some (.lst acc) ∧ acc.length < sizeLine ∧ Pv (i + 1) (upd H4 D (.lst (acc ++ [y]))) else Pv (i + 1) H3) (hd : ∀ H, Pv x.cps.size H → Qd H) :
    ∃ W : Nat → Nat → Hp → Prop, (∃ m, W 0 m (upd H1 D (.lst []))) ∧ ∀ i m H, W i m H →
      ((Its x).stop i H ∧ Qd H) ∨ ((Its x).go i H ∧ ∃ Nx : Hp → Prop, (∀ H', Nx H' → ∃ m', m' < m ∧ W (i + 1) m' H') ∧ ∀ y H', (Its x).yld i H y H' → g y (wipe σ vs) H' fun σ2 H2 => wipe σ2 vs = wipe σ vs ∧ tt σ2 H2 fun b H3 =>
        if b = true then te σ2 H3 fun y H4 => ∃ acc, H4 D = some (.lst acc) ∧ acc.length < sizeLine ∧ Nx (upd H4 D (.lst (acc ++ [y]))) else Nx H3) := by
  refine ⟨fun i m H => m = x.cps.size - i ∧ i ≤ x.cps.size ∧ Pv i H, ⟨_, rfl, Nat.zero_le _, h0⟩, ?_⟩
  rintro i m H ⟨rfl, hi, p⟩
  by_cases hlt : i < x.cps.size
  · refine .inr ⟨hlt, Pv (i + 1), fun H' p' => ⟨x.cps.size - (i + 1), by omega, rfl, hlt, p'⟩, fun y H' z => ?_⟩
    obtain ⟨e, c, hc, ey⟩ := z
    subst e ey
    exact hs i c _ hc p
  · have e : i = x.cps.size := by omega
    subst e
    exact .inl ⟨Nat.le_refl _, hd H p⟩
end
abbrev s__law_is_name : Stmt := topS 9
abbrev N__law_is_name : List Str := ["thing", "sign"]
theorem sc__law_is_name : FnScope N__law_is_name ["thing"] (defScope s__law_is_name) := ⟨rfl, rfl, rfl, by decide +kernel, rfl, by decide +kernel, by decide +kernel⟩
theorem tyx_of {K : PySem.W.Frag} {H : Hp} {v : V} {d : PyData} (h : Da H v d) : ∃ T, TyX K H v (.type T) ∧ K7 T ∧ ((T = "str" ↔ ∃ x, d = .str x) ∧ (T = "tuple" ↔ ∃ xs, d = .tuple xs)) ∧ (T = "bool" ↔ ∃ b, d = .bool b) := by
  cases h with
  | non => exact ⟨_, .base .non, .none, ⟨⟨fun e => absurd e (by decide), fun ⟨_, e⟩ => nomatch e⟩, ⟨fun e => absurd e (by decide), fun ⟨_, e⟩ => nomatch e⟩⟩, ⟨fun e => absurd e (by decide), fun ⟨_, e⟩ => nomatch e⟩⟩
  | bl b => exact ⟨_, .base (.bl b), .bool, ⟨⟨fun e => absurd e (by decide), fun ⟨_, e⟩ => nomatch e⟩, ⟨fun e => absurd e (by decide), fun ⟨_, e⟩ => nomatch e⟩⟩, ⟨fun _ => ⟨b, rfl⟩, fun _ => rfl⟩⟩
  | int i => exact ⟨_, .base (.int i), .int, ⟨⟨fun e => absurd e (by decide), fun ⟨_, e⟩ => nomatch e⟩, ⟨fun e => absurd e (by decide), fun ⟨_, e⟩ => nomatch e⟩⟩, ⟨fun e => absurd e (by decide), fun ⟨_, e⟩ => nomatch e⟩⟩
  | str x => exact ⟨_, .base (.str x), .str, ⟨⟨fun _ => ⟨x, rfl⟩, fun _ => rfl⟩, ⟨fun e => absurd e (by decide), fun ⟨_, e⟩ => nomatch e⟩⟩, ⟨fun e => absurd e (by decide), fun ⟨_, e⟩ => nomatch e⟩⟩
  | lst e _ => exact ⟨_, .base (.lst e), .list, ⟨⟨fun e => absurd e (by decide), fun ⟨_, e⟩ => nomatch e⟩, ⟨fun e => absurd e (by decide), fun ⟨_, e⟩ => nomatch e⟩⟩, ⟨fun e => absurd e (by decide), fun ⟨_, e⟩ => nomatch e⟩⟩
  | tup e _ => exact ⟨_, .base (.tup e), .tuple, ⟨⟨fun e => absurd e (by decide), fun ⟨_, e⟩ => nomatch e⟩, ⟨fun _ => ⟨_, rfl⟩, fun _ => rfl⟩⟩, ⟨fun e => absurd e (by decide), fun ⟨_, e⟩ => nomatch e⟩⟩
  | dct e _ _ => exact ⟨_, .base (.dK e), .dict, ⟨⟨fun e => absurd e (by decide), fun ⟨_, e⟩ => nomatch e⟩, ⟨fun e => absurd e (by decide), fun ⟨_, e⟩ => nomatch e⟩⟩, ⟨fun e => absurd e (by decide), fun ⟨_, e⟩ => nomatch e⟩⟩
theorem kit_str {K : PySem.W.Frag} {T : String} (h : K7 T) : PySem.W.kitOne K (.type T) (.type "str") = some (decide (T = "str")) := by
  cases h <;> exact kit_ty (by decide +kernel)
theorem kit_tuple {K : PySem.W.Frag} {T : String} (h : K7 T) : PySem.W.kitOne K (.type T) (.type "tuple") = some (decide (T = "tuple")) := by
  cases h <;> exact kit_ty (by decide +kernel)
theorem kit_bool {K : PySem.W.Frag} {T : String} (h : K7 T) : PySem.W.kitOne K (.type T) (.type "bool") = some (decide (T = "bool")) := by
  cases h <;> exact kit_ty (by decide +kernel)
/-- a text of written signs -/
def TxOk (x : Str) : Prop := ∀ c ∈ x.cps.toList, c < 128
def sgn (c : Nat) : V := .str ⟨#[c]⟩
def letters : List Nat := ("abcdefghijklmnopqrstuvwxyz" : Str).cps.toList
theorem letters_iff (c : Nat) : c ∈ letters ↔ signB c = true := by
  rw [signB_iff]
  have e : letters = List.range' 97 26 := by decide +kernel
  rw [e, List.mem_range'_1]
  omega
theorem dp_signs {K : PySem.W.Frag} {H : Hp} : ∀ l : List Nat, DpAll K H (l.map sgn) (l.map fun c => .str ⟨#[c]⟩)
  | [] => .nil
  | c :: l => .cons (.str _) (dp_signs l)
theorem lay_signs : ∀ l : List Nat, (∀ c ∈ l, c < 128) → PyData.canLayAll0 (l.map fun c => .str ⟨#[c]⟩) = true ∧ PyData.depthAll (l.map fun c => .str ⟨#[c]⟩) = 0
  | [], _ => ⟨rfl, rfl⟩
  | c :: l, h => by
    obtain ⟨h1, h2⟩ := lay_signs l fun x hx => h x (List.mem_cons_of_mem _ hx)
    have hc := h c List.mem_cons_self
    refine ⟨?_, ?_⟩
    · show (PyData.canLay0 (.str ⟨#[c]⟩) && _) = true
      rw [h1, Bool.and_true]
      show PyData.strOk ⟨#[c]⟩ = true
      simp [PyData.strOk]
      omega
    · show max 0 _ = 0
      rw [h2]
      rfl
theorem shaped_signs {l : List Nat} (h : ∀ c ∈ l, c < 128) : SeqAt.shaped (.list (l.map fun c => .str ⟨#[c]⟩)) = true := by
  obtain ⟨h1, h2⟩ := lay_signs l h
  unfold SeqAt.shaped
  rw [Bool.and_eq_true]
  refine ⟨h1, decide_eq_true ?_⟩
  show PyData.depthAll _ + 1 ≤ 64
  rw [h2]
  decide
def spLName : Sp := fun vs H Q _ => ∃ (v : V) (d : PyData), vs = [v] ∧ Da H v d ∧ d.weight ≤ 20000 ∧ (∀ x, d = .str x → TxOk x) ∧ ∀ H', Same H H' → Q (.bl (nameD d)) H'
section
variable {P : Program} {w : World} {K : PySem.W.Frag} {mg : Str → Option Value} {base : Heap}
theorem ok__law_is_name {f : Addr} {fd : FuncData} (F : Fun K "_law_is_name" "_law_is_name" s__law_is_name f fd) (z_isinstance : mg "isinstance" = none) (z_str : mg "str" = none) (z_len : mg "len" = none) :
    FnOk P w K mg base CX0 1 f fd ["thing"] spLName := by
  refine F.ok sc__law_is_name (fun vs H Q E h => ?_) (fun cdv A outer s H vs Q E hr h => ?_)
  · obtain ⟨v, d, rfl, _⟩ := h
    rfl
  · obtain ⟨v, d, rfl, hd, hw, hx, q⟩ := h
    have hu64 := hr.units
    refine ⟨_, (pss_cons (ps_if (PW.pt (pw_or (pt_not (pt_val (pe_callB (call_isi) (by rfl) z_isinstance (by decide +kernel) (pa_cons (pv 0) (pa_cons (pe_bltn (v := .ty "str") (by rfl) z_str (by decide +kernel) rfl) pa_nil))))) (pw_or (pt_cmpR op_lt (pe_callB (call_len_str) (by rfl) z_len (by decide +kernel) (pa_cons (pv 0) pa_nil)) pe_int (nomark _)) (pw_or1 (pt_cmpR op_gt (pe_callB (call_len_str) (by rfl) z_len (by decide +kernel) (pa_cons (pv 0) pa_nil)) pe_int (nomark _)))))) (pss_one (ps_ret pe_bl)) pss_nil)
  (pss_one (ps_ret (pe_cmpR (op_eqD hu64) (pe_lc (own := [("sign", 1)]) (g := gName 1) rfl sc__law_is_name.nd (pi_str (pv 0)) (blkOk_by (own := [("sign", 1)]) (N := N__law_is_name) (sc := defScope s__law_is_name) (by decide +kernel)) (fun _ _ _ _ _ => pg_name (i := 1) sc__law_is_name.nd rfl (Or.inl rfl)) (fun _ _ _ _ _ => (pts_one (pt_cmpR op_notIn_sign (pv 1) pe_str rfl))) (fun _ _ _ _ _ => (pv 1))) (pe_lst pa_nil) (nomark _))))), ?_⟩
    obtain ⟨t, ht, hk, ⟨hs, _⟩, _⟩ := tyx_of (K := K) hd
    refine ⟨_, rfl, _, _, _, _, _, rfl, .ty "str", ht, kit_str hk, _, rfl, ?_⟩
    by_cases e : t = "str"
    · obtain ⟨x, rfl⟩ := hs.mp e
      cases hd
      have hxl : x.length ≤ 20000 := hw
      have htx := hx x rfl
      refine itN (by simp [e]) ?_
      refine ⟨_, rfl, _, rfl, small20 hxl, _, _, rfl, rfl, _, rfl, ?_⟩
      by_cases h1 : (x.length : Int) < 1
      · refine itY (by simpa using h1) ?_
        have e1 : nameD (.str x) = false := by
          show (decide _ && _) = _
          rw [decide_eq_false (by omega), Bool.false_and]
        rw [e1] at q
        exact itY rfl (q H (Same.refl H))
      · refine itN (by simpa using h1) ?_
        refine ⟨_, rfl, _, rfl, small20 hxl, _, _, rfl, rfl, _, rfl, ?_⟩
        by_cases h2 : (8 : Int) < (x.length : Int)
        · refine itY (by simpa using h2) ?_
          have e1 : nameD (.str x) = false := by
            show (decide _ && _) = _
            rw [decide_eq_false (by omega), Bool.false_and]
          rw [e1] at q
          exact q H (Same.refl H)
        · refine itN (by simpa using h2) ?_
          -- [sign for sign in thing if sign not in letters] == []
          refine ⟨_, rfl, x, rfl, fun D hD => lc_str (fun i H' => Same H H' ∧ H D = none ∧ H' D = some (.lst (((x.cps.toList.take i).filter fun c => !decide (c ∈ letters)).map sgn))) ⟨fun b o eb => ?_, hD, upd_same⟩ (fun i c H' hc hP => ?_) fun H' hP => ?_⟩
          · rw [upd_ne (ne_of_none eb hD)]
            exact eb
          · obtain ⟨p1, p2, p3⟩ := hP
            have hc' : x.cps.toList[i]? = some c := by rw [Array.getElem?_toList]; exact hc
            have hl : (((x.cps.toList.take i).filter fun c => !decide (c ∈ letters)).map sgn).length < sizeLine := by
              rw [List.length_map]
              have h1 := List.length_filter_le (fun c => !decide (c ∈ letters)) (x.cps.toList.take i)
              have h2 : (x.cps.toList.take i).length ≤ x.cps.size := by
                rw [List.length_take, Array.length_toList]
                exact Nat.min_le_right _ _
              have h3 : x.cps.size ≤ 20000 := hxl
              exact Nat.lt_of_le_of_lt (Nat.le_trans h1 (Nat.le_trans h2 h3)) (by decide)
            refine ⟨rfl, _, rfl, c, _, rfl, rfl, _, rfl, ?_⟩
            rw [List.take_add_one, hc', List.filter_append, List.map_append]
            by_cases hm : c ∈ letters
            · refine itN (by show ¬ (!decide (c ∈ letters)) = true; simp [hm]) ⟨p1, p2, ?_⟩
              rw [p3]
              simp [hm]
            · refine itY (by show (!decide (c ∈ letters)) = true; simp [hm]) ⟨_, rfl, _, p3, hl, fun b o eb => ?_, p2, ?_⟩
              · rw [upd_ne (ne_of_none eb p2)]
                exact p1 b o eb
              · rw [upd_same]
                simp [hm, sgn]
          · obtain ⟨p1, p2, p3⟩ := hP
            have et : x.cps.toList.take x.cps.size = x.cps.toList := List.take_of_length_le (by rw [Array.length_toList]; exact Nat.le_refl _)
            rw [et] at p3
            refine ⟨Nat.zero_le _, fun p hp => ?_⟩
            have p3' : (upd H' p (.lst [])) D = some (.lst ((x.cps.toList.filter fun c => !decide (c ∈ letters)).map sgn)) := by
              rw [upd_ne (ne_of_none p3 hp)]
              exact p3
            have hf : ∀ c ∈ x.cps.toList.filter (fun c => !decide (c ∈ letters)), c < 128 := fun c hc => htx c (List.mem_filter.mp hc).1
            refine ⟨_, .list [], .lst (.inl (.inl p3')) (dp_signs _), .lst (.inl (.inl upd_same)) .nil, shaped_signs hf, by decide, ?_⟩
            have e1 : PyData.eqv (.list ((x.cps.toList.filter fun c => !decide (c ∈ letters)).map fun c => .str ⟨#[c]⟩)) (.list []) = nameD (.str x) := by
              have e2 : nameD (.str x) = x.cps.toList.all signB := by
                show (decide _ && _) = _
                rw [decide_eq_true ⟨by omega, by omega⟩, Bool.true_and]
              rw [e2]
              have e3 : ∀ l : List Nat, PyData.eqv (.list ((l.filter fun c => !decide (c ∈ letters)).map fun c => .str ⟨#[c]⟩)) (.list []) = l.all signB := fun l => by
                induction l with
                | nil => rfl
                | cons c l ih =>
                  rw [List.filter_cons, List.all_cons]
                  by_cases hm : c ∈ letters
                  · rw [if_neg (by simp [hm]), ih, (letters_iff c).mp hm, Bool.true_and]
                  · rw [if_pos (by simp [hm])]
                    have hb : signB c = false := by
                      rw [← Bool.not_eq_true]
                      exact fun z => hm ((letters_iff c).mpr z)
                    rw [hb, Bool.false_and]
                    rfl
              exact e3 _
            rw [e1]
            exact q _ fun b o eb => by
              have := p1 b o eb
              rw [upd_ne (ne_of_none this hp)]
              exact this
    · refine itY (by simp [e]) ?_
      refine itY rfl ?_
      have e1 : nameD d = false := by
        cases d with
        | str x => exact absurd (hs.mpr ⟨x, rfl⟩) e
        | _ => rfl
      rw [e1] at q
      exact q H (Same.refl H)
end
end K01
set_option Elab.async false
set_option linter.all false
set_option maxRecDepth 100000
set_option maxHeartbeats 4000000
namespace K01
open PySem L2 Ld GxR
theorem Same.da {H H' : Hp} (s : Same H H') {v : V} {d : PyData} (h : Da H v d) : Da H' v d := h.keep fun a o e _ => s a o e
theorem same_upd {H : Hp} {p : Addr} {o : HO} (h : H p = none) : Same H (upd H p o) := fun b x e => by
  rw [upd_ne (ne_of_none e h)]
  exact e
abbrev s__law_is_place : Stmt := topS 10
abbrev N__law_is_place : List Str := ["thing"]
theorem sc__law_is_place : FnScope N__law_is_place ["thing"] (defScope s__law_is_place) := ⟨rfl, rfl, rfl, by decide +kernel, rfl, by decide +kernel, by decide +kernel⟩
def TxAll (d : PyData) : Prop := (∀ x, d = .str x → TxOk x) ∧ ∀ ds, d = .tuple ds → ∀ e ∈ ds, ∀ x, e = .str x → TxOk x
def spLPlace : Sp := fun vs H Q _ => ∃ (v : V) (d : PyData), vs = [v] ∧ Da H v d ∧ d.weight ≤ 20000 ∧ TxAll d ∧ ∀ H', Same H H' → Q (.bl (placeD d)) H'
section
variable {P : Program} {w : World} {K : PySem.W.Frag} {mg : Str → Option Value} {base : Heap}
theorem ok__law_is_place {f fN : Addr} {fd fdN : FuncData} (F : Fun K "_law_is_place" "_law_is_place" s__law_is_place f fd) (G__law_is_name : FnOk P w K mg base CX0 1 fN fdN ["thing"] spLName) (g__law_is_name : mg "_law_is_name" = some (.ref fN)) (k__law_is_name : PySem.W.keepIn K (.ref fN) = true)
    (b__law_is_name : Binds K fdN ["thing"] []) (z_isinstance : mg "isinstance" = none) (z_tuple : mg "tuple" = none) (z_len : mg "len" = none) : FnOk P w K mg base CX0 2 f fd ["thing"] spLPlace := by
  refine F.ok sc__law_is_place (fun vs H Q E h => ?_) (fun cdv A outer s H vs Q E hr h => ?_)
  · obtain ⟨v, d, rfl, _⟩ := h
    rfl
  · obtain ⟨v, d, rfl, hd, hw, hx, q⟩ := h
    refine ⟨_, (pss_cons (ps_if (PW.pt (pw_or (pt_not (pt_val (pe_callB (call_isi) (by rfl) z_isinstance (by decide +kernel) (pa_cons (pv 0) (pa_cons (pe_bltn (v := .ty "tuple") (by rfl) z_tuple (by decide +kernel) rfl) pa_nil))))) (pw_or1 (pt_cmpR op_ne (pe_callB (call_len_seq) (by rfl) z_len (by decide +kernel) (pa_cons (pv 0) pa_nil)) pe_int (nomark _))))) (pss_one (ps_ret pe_bl)) pss_nil)
  (pss_one (ps_ret (pe_and (pe_call G__law_is_name (hr.mono (by decide)) (by rfl) g__law_is_name k__law_is_name b__law_is_name .nil pass0 (pa_cons (pe_ix ix_tup (pv 0) pe_int (fun _ _ => rfl)) pa_nil)) (pe_one (pe_call G__law_is_name (hr.mono (by decide)) (by rfl) g__law_is_name k__law_is_name b__law_is_name .nil pass0 (pa_cons (pe_ix ix_tup (pv 0) pe_int (fun _ _ => rfl)) pa_nil))))))), ?_⟩
    obtain ⟨t, ht, hk, ⟨_, hs⟩, _⟩ := tyx_of (K := K) hd
    refine ⟨_, rfl, _, _, _, _, _, rfl, .ty "tuple", ht, kit_tuple hk, _, rfl, ?_⟩
    by_cases e : t = "tuple"
    · obtain ⟨ds, rfl⟩ := hs.mp e
      cases hd with
      | @tup a xs _ ea hall =>
        refine itN (by simp [e]) ?_
        refine ⟨_, rfl, _, xs, rfl, .inr (.inl (.inl ea)), rfl, _, rfl, ?_⟩
        by_cases h2 : xs.length = 2
        · refine itN (by simp [h2]) ?_
          obtain ⟨v0, v1, d0, d1, rfl, rfl, h0, h1⟩ := two_of hall h2
          obtain ⟨w0, w1⟩ := w_pair hw
          refine ⟨_, rfl, a, _, 0, v0, rfl, rfl, .inl (.inl ea), atI_nat (j := 0) rfl, v0, d0, rfl, h0, w0, hx.2 _ rfl d0 (by simp), fun H1 t1 => ?_⟩
          refine ⟨_, rfl, ?_⟩
          by_cases c0 : nameD d0 = true
          · refine itY c0 ?_
            refine ⟨_, rfl, a, _, 1, v1, rfl, rfl, .inl (.inl (t1 _ _ ea)), atI_nat (j := 1) rfl, v1, d1, rfl, Same.da t1 h1, w1, hx.2 _ rfl d1 (by simp), fun H2 t2 => ?_⟩
            have e1 : placeD (.tuple [d0, d1]) = nameD d1 := by
              show (nameD d0 && nameD d1) = _
              rw [c0, Bool.true_and]
            rw [← e1]
            exact q H2 (t1.trans t2)
          · refine itN c0 ?_
            have e1 : placeD (.tuple [d0, d1]) = false := by
              show (nameD d0 && nameD d1) = _
              rw [Bool.not_eq_true] at c0
              rw [c0, Bool.false_and]
            rw [e1] at q
            exact q H1 t1
        · refine itY (by simp; omega) ?_
          rw [placeD_len (by rw [← hall.len]; exact h2)] at q
          exact q H (Same.refl H)
    · refine itY (by simp [e]) ?_
      refine itY rfl ?_
      have e1 : placeD d = false := by
        cases d with
        | tuple x => exact absurd (hs.mpr ⟨x, rfl⟩) e
        | _ => rfl
      rw [e1] at q
      exact q H (Same.refl H)
end
/-! ### the pot -/
abbrev s__law_pot : Stmt := topS 5
abbrev N__law_pot : List Str := ["script", "k", "cell"]
theorem sc__law_pot : FnScope N__law_pot ["script", "k"] (defScope s__law_pot) := ⟨rfl, rfl, rfl, by decide +kernel, rfl, by decide +kernel, by decide +kernel⟩
def spPot (K : PySem.W.Frag) : Sp := fun vs H Q _ => ∃ (sa : Addr) (ns : List Int) (k : Int), vs = [.ref sa, .int k] ∧ SqL K H sa (ns.map V.int) ∧ (0 ≤ k ∧ k < 2 ^ 20) ∧
  ∀ (p : Addr) (x b : Int), H p = none → 0 ≤ b → b < 2 ^ 200 → Q (.ref p) (upd H p (.lst [.int x, .int b, .int 0]))
section
variable {P : Program} {w : World} {K : PySem.W.Frag} {mg : Str → Option Value} {base : Heap}
theorem ok__law_pot {f : Addr} {fd : FuncData} (F : Fun K "_law_pot" "_law_pot" s__law_pot f fd) (z_len : mg "len" = none) (z_max : mg "max" = none) : FnOk P w K mg base CX0 1 f fd ["script", "k"] (spPot K) := by
  refine F.ok sc__law_pot (fun vs H Q E h => ?_) (fun cdv A outer s H vs Q E hr h => ?_)
  · obtain ⟨sa, ns, k, rfl, _⟩ := h
    rfl
  · obtain ⟨sa, ns, k, rfl, hS, ⟨hk0, hk1⟩, q⟩ := h
    refine ⟨_, (pss_cons (ps_set (i := 2) sc__law_pot.nd rfl (Or.inl rfl) pe_int)
  (pss_cons (ps_if (pt_cmpR op_lt (pv 1) (pe_callB (call_len_seq) (by rfl) z_len (by decide +kernel) (pa_cons (pv 0) pa_nil)) (nomark _)) (pss_one (ps_set (i := 2) sc__law_pot.nd rfl (Or.inl rfl) (pe_ix ix_list (pv 0) (pv 1) (fun _ _ => rfl)))) pss_nil)
  (pss_one (ps_ret (pe_lst (pa_cons (pe_callB ((call_max2 rfl)) (by rfl) z_max (by decide +kernel) (pa_cons pe_int (pa_cons (pe_op op_sub (pv 2) (pe_op op_powW pe_int pe_int)) pa_nil))) (pa_cons (pe_op op_add (pe_op op_add (pe_op op_mul (pe_op op_mod (pv 2) (pe_op op_add (pe_op op_powW pe_int pe_int) pe_int)) pe_int) (pv 1)) pe_int) (pa_cons pe_int pa_nil)))))))), ?_⟩
    have bd : ∀ z : Int, 0 ≤ z % (10 ^ Int.toNat 43 + 63) * 64 + k + 1 ∧ z % (10 ^ Int.toNat 43 + 63) * 64 + k + 1 < 2 ^ 200 := fun z => by
      have e0 : (10 : Int) ^ Int.toNat 43 + 63 = 10000000000000000000000000000000000000000063 := by decide +kernel
      rw [e0]
      have h1 := Int.emod_nonneg z (b := 10000000000000000000000000000000000000000063) (by decide)
      have h2 := Int.emod_lt_of_pos z (b := 10000000000000000000000000000000000000000063) (by decide)
      omega
    refine ⟨_, rfl, _, rfl, sa, _, rfl, .inl hS, _, _, rfl, rfl, _, rfl, ?_⟩
    refine ite2 (fun hl => ?_) (fun hl => ?_)
    · have hl' : k < (ns.length : Int) := by simpa using hl
      have hg : (ns.map V.int)[k.toNat]? = some (.int ns[k.toNat]!) := by
        rw [List.getElem?_map, List.getElem?_eq_getElem (by omega), getElem!_pos ns k.toNat (by omega)]
        rfl
      refine ⟨_, rfl, _, rfl, sa, _, k, _, rfl, rfl, hS, at_of (j := k.toNat) (by omega) hg, ?_⟩
      refine ⟨_, rfl, _, _, rfl, rfl, ⟨by decide, by decide, by decide +kernel⟩, _, _, rfl, rfl, _, _, rfl, ?_⟩
      refine ⟨_, rfl, _, _, rfl, rfl, ⟨by decide, by decide, by decide +kernel⟩, _, _, rfl, rfl, _, _, rfl, rfl, (by show (0 : Int) < 10 ^ Int.toNat _ + _; decide +kernel), _, _, rfl, rfl, .inr (by decide), _, rfl, _, _, rfl, rfl, _, _, rfl, rfl, ?_⟩
      exact ⟨by show 3 ≤ sizeLine; decide, fun p hp => q p _ _ hp (bd _).1 (bd _).2⟩
    · refine ⟨_, rfl, _, _, rfl, rfl, ⟨by decide, by decide, by decide +kernel⟩, _, _, rfl, rfl, _, _, rfl, ?_⟩
      refine ⟨_, rfl, _, _, rfl, rfl, ⟨by decide, by decide, by decide +kernel⟩, _, _, rfl, rfl, _, _, rfl, rfl, (by show (0 : Int) < 10 ^ Int.toNat _ + _; decide +kernel), _, _, rfl, rfl, .inr (by decide), _, rfl, _, _, rfl, rfl, _, _, rfl, rfl, ?_⟩
      exact ⟨by show 3 ≤ sizeLine; decide, fun p hp => q p _ _ hp (bd _).1 (bd _).2⟩
end
end K01
set_option Elab.async false
set_option linter.all false
set_option maxRecDepth 100000
set_option maxHeartbeats 4000000
namespace K01
open PySem L2 Ld GxR
/-- the heap without the pot -/
def hid (a : Addr) (H : Hp) : Hp := fun b => if b = a then none else H b
theorem hid_of {a b : Addr} {H : Hp} {o : HO} (h : H b = some o) (n : b ≠ a) : hid a H b = some o := by
  unfold hid
  rw [if_neg n]
  exact h
theorem of_hid {a b : Addr} {H : Hp} {o : HO} (h : hid a H b = some o) : H b = some o ∧ b ≠ a := by
  unfold hid at h
  by_cases e : b = a
  · rw [if_pos e] at h
    cases h
  · rw [if_neg e] at h
    exact ⟨h, e⟩
/-- all but the pot is kept -/
def Ka (a : Addr) (H H' : Hp) : Prop := ∀ b o, b ≠ a → H b = some o → H' b = some o
theorem Ka.refl (a : Addr) (H : Hp) : Ka a H H := fun _ _ _ h => h
theorem Ka.trans {a : Addr} {H H1 H2 : Hp} (x : Ka a H H1) (y : Ka a H1 H2) : Ka a H H2 := fun b o n h => y b o n (x b o n h)
theorem Ka.of {a : Addr} {H H' : Hp} (s : Same H H') : Ka a H H' := fun b o _ h => s b o h
theorem Ka.pot (a : Addr) (H : Hp) (o : HO) : Ka a H (upd H a o) := fun b u n h => by rw [upd_ne n]; exact h
theorem Ka.da {a : Addr} {H H' : Hp} (k : Ka a H H') {v : V} {d : PyData} (h : Da (hid a H) v d) : Da (hid a H') v d :=
  h.keep fun b o e _ => let ⟨e1, n⟩ := of_hid e; hid_of (k b o n e1) n
theorem Ka.daAll {a : Addr} {H H' : Hp} (k : Ka a H H') {v : List V} {d : List PyData} (h : DaAll (hid a H) v d) : DaAll (hid a H') v d :=
  h.keep fun b o e _ => let ⟨e1, n⟩ := of_hid e; hid_of (k b o n e1) n
theorem da_hid {a : Addr} {H : Hp} {v : V} {d : PyData} (h : Da (hid a H) v d) : Da H v d := h.keep fun b o e _ => (of_hid e).1
theorem daAll_hid {a : Addr} {H : Hp} {v : List V} {d : List PyData} (h : DaAll (hid a H) v d) : DaAll H v d := h.keep fun b o e _ => (of_hid e).1
theorem Same.pot {H H' : Hp} {a : Addr} {x b c : Int} (s : Same H H') (h : Pot H a x b c) : Pot H' a x b c := s _ _ h
/-- a new object: the heap behind it by what it holds -/
theorem absn {H : Hp} {p : Addr} {o : HO} {motive : Hp → Prop} (n : H p = none) (h : ∀ H1, Same H H1 → H1 p = some o → motive H1) : motive (upd H p o) := h _ (same_upd n) upd_same
theorem newH {H : Hp} {p : Addr} (n : H p = none) {o : HO} : ∃ H1, Same H H1 ∧ H1 p = some o ∧ upd H p o = H1 := ⟨_, same_upd n, upd_same, rfl⟩
theorem mutH {H : Hp} {p : Addr} {o : HO} : ∃ H1, (∀ b u, b ≠ p → H b = some u → H1 b = some u) ∧ H1 p = some o ∧ upd H p o = H1 := ⟨_, fun b u n e => by rw [upd_ne n]; exact e, upd_same, rfl⟩
theorem DaAll.some {H : Hp} {vs : List V} {ds : List PyData} (h : DaAll H vs ds) {i : Nat} (hi : i < ds.length) : ∃ v d, vs[i]? = some v ∧ ds[i]? = some d ∧ Da H v d := by
  have hl := h.len
  have hv : vs[i]? = Option.some (vs[i]'(by omega)) := List.getElem?_eq_getElem (by omega)
  obtain ⟨d, h1, h2⟩ := h.get _ _ hv
  exact ⟨_, d, hv, h1, h2⟩
theorem pot_ne {H : Hp} {a p : Addr} {x b c : Int} (h : Pot H a x b c) (n : H p = none) : p ≠ a := fun e => by
  have h' : H a = _ := h
  rw [← e, n] at h'
  cases h'
/-- what is new behind H0 -/
def frs (H0 H : Hp) : Hp := fun b => match H0 b with
  | none => H b
  | some _ => none
theorem frs_of {b : Addr} {H0 H : Hp} {o : HO} (h : H b = some o) (n : H0 b = none) : frs H0 H b = some o := by
  unfold frs
  rw [n]
  exact h
theorem of_frs {b : Addr} {H0 H : Hp} {o : HO} (h : frs H0 H b = some o) : H b = some o ∧ H0 b = none := by
  unfold frs at h
  cases e : H0 b with
  | none =>
    rw [e] at h
    exact ⟨h, rfl⟩
  | some u =>
    rw [e] at h
    cases h
theorem frs_da {H0 H H' : Hp} (k : ∀ b o, H0 b = none → H b = some o → H' b = some o) {v : V} {d : PyData} (h : Da (frs H0 H) v d) : Da (frs H0 H') v d :=
  h.keep fun b o e _ => let ⟨e1, n⟩ := of_frs e; frs_of (k b o n e1) n
theorem frs_all {H0 H H' : Hp} (k : ∀ b o, H0 b = none → H b = some o → H' b = some o) {v : List V} {d : List PyData} (h : DaAll (frs H0 H) v d) : DaAll (frs H0 H') v d :=
  h.keep fun b o e _ => let ⟨e1, n⟩ := of_frs e; frs_of (k b o n e1) n
theorem Same.fd {H0 H H' : Hp} (s : Same H H') {v : V} {d : PyData} (h : Da (frs H0 H) v d) : Da (frs H0 H') v d := frs_da (fun b o _ => s b o) h
theorem Same.fa {H0 H H' : Hp} (s : Same H H') {v : List V} {d : List PyData} (h : DaAll (frs H0 H) v d) : DaAll (frs H0 H') v d := frs_all (fun b o _ => s b o) h
theorem frs_hid {a : Addr} {H0 H : Hp} {o : HO} (ha : H0 a = some o) {v : V} {d : PyData} (h : Da (frs H0 H) v d) : Da (hid a H) v d :=
  h.keep fun b u e _ => let ⟨e1, n⟩ := of_frs e; hid_of e1 fun z => by rw [z, ha] at n; cases n
def st (x : String) : PyData := .str x
def oddD : List PyData :=
  [.none, .bool true, .bool false, .int 0, .int 1, .int (-1), .int 9, st "", st "a", st "an", st "abcdefghi", st "Wet", st "we t", st "an.a", st "a1", .list []] ++
  [.tuple [], .dict [], .tuple [st "an", st "a"], .list [st "an", st "a"], .list [.tuple [st "an", st "a"]], .tuple [st "an"], .tuple [st "an", st "a", st "b"], .tuple [st "an", st ""]] ++
  [.tuple [st "bo", st "an"]] ++
  [.tuple [st "an", st "a", .int 1, .list [.tuple [st "an", st "a"]]], .tuple [.list [], .list [], .list []], .dict [(st "an", st "a")], .int (10 ^ Int.toNat 8), .tuple [st "an", .int 1]]
def txB : PyData → Bool
  | .str x => x.cps.toList.all fun c => decide (c < 128)
  | _ => true
def txI : PyData → Bool
  | .str x => x.cps.toList.all fun c => decide (c < 128)
  | .tuple ds => ds.all txB
  | _ => true
/-- small data of written signs -/
def okB (d : PyData) : Bool := d.showable && d.leavesShort 600 && decide (d.depth ≤ 8) && decide (d.weight ≤ 200) && txI d
theorem odd_ok : oddD.all okB = true := by decide +kernel
abbrev s__law_odd : Stmt := topS 7
abbrev N__law_odd : List Str := ["pot", "some"]
theorem sc__law_odd : FnScope N__law_odd ["pot"] (defScope s__law_odd) := ⟨rfl, rfl, rfl, by decide +kernel, rfl, by decide +kernel, by decide +kernel⟩
def spOdd : Sp := fun vs H Q _ => ∃ (a : Addr) (x b c : Int), vs = [.ref a] ∧ Pot H a x b c ∧ (0 ≤ b ∧ b < 2 ^ 200) ∧ (0 ≤ c ∧ c < 2 ^ 60) ∧
  ∀ (v : V) (d : PyData) (H' : Hp) (x' c' : Int), Da (frs H H') v d → okB d = true → Pot H' a x' b c' → c ≤ c' → c' ≤ c + 1 → Ka a H H' → Q v H'
section
variable {P : Program} {w : World} {K : PySem.W.Frag} {mg : Str → Option Value} {base : Heap}
theorem new_tup {H0 H H1 : Hp} {p : Addr} {xs : List V} {ds : List PyData} (g : Same H H1) (e : H1 p = some (.tup xs)) (n : H0 p = none) (h : DaAll (frs H0 H) xs ds) : Da (frs H0 H1) (.ref p) (.tuple ds) := .tup (frs_of e n) (Same.fa g h)
theorem new_lst {H0 H H1 : Hp} {p : Addr} {xs : List V} {ds : List PyData} (g : Same H H1) (e : H1 p = some (.lst xs)) (n : H0 p = none) (h : DaAll (frs H0 H) xs ds) : Da (frs H0 H1) (.ref p) (.list ds) := .lst (frs_of e n) (Same.fa g h)
theorem ok__law_odd {f fN : Addr} {fd fdN : FuncData} (F : Fun K "_law_odd" "_law_odd" s__law_odd f fd) (G__law_dip : FnOk P w K mg base CX0 1 fN fdN ["pot", "many"] spDip) (g__law_dip : mg "_law_dip" = some (.ref fN)) (k__law_dip : PySem.W.keepIn K (.ref fN) = true)
    (b__law_dip : Binds K fdN ["pot", "many"] []) (z_len : mg "len" = none) : FnOk P w K mg base CX0 2 f fd ["pot"] spOdd := by
  refine F.ok sc__law_odd (fun vs H Q E h => ?_) (fun cdv A outer s H vs Q E hr h => ?_)
  · obtain ⟨a, x, b, c, rfl, _⟩ := h
    rfl
  · obtain ⟨a, x, b, c, rfl, hp, ⟨hb0, hb1⟩, ⟨hc0, hc1⟩, q⟩ := h
    refine ⟨_, (pss_cons (ps_set (i := 1) sc__law_odd.nd rfl (Or.inl rfl) (pe_lst (pa_cons pe_non (pa_cons pe_bl (pa_cons pe_bl (pa_cons pe_int (pa_cons pe_int (pa_cons (pe_un un_neg pe_int) (pa_cons pe_int (pa_cons pe_str (pa_cons pe_str (pa_cons pe_str (pa_cons pe_str (pa_cons pe_str (pa_cons pe_str (pa_cons pe_str (pa_cons pe_str (pa_cons (pe_lst pa_nil) pa_nil))))))))))))))))))
  (pss_cons (ps_set (i := 1) sc__law_odd.nd rfl (Or.inl rfl) (pe_op op_cat (pv 1) (pe_lst (pa_cons (pe_tup pa_nil) (pa_cons pe_dnewK (pa_cons (pe_tup (pa_cons pe_str (pa_cons pe_str pa_nil))) (pa_cons (pe_lst (pa_cons pe_str (pa_cons pe_str pa_nil))) (pa_cons (pe_lst (pa_cons (pe_tup (pa_cons pe_str (pa_cons pe_str pa_nil))) pa_nil)) (pa_cons (pe_tup (pa_cons pe_str pa_nil)) (pa_cons (pe_tup (pa_cons pe_str (pa_cons pe_str (pa_cons pe_str pa_nil)))) (pa_cons (pe_tup (pa_cons pe_str (pa_cons pe_str pa_nil))) pa_nil)))))))))))
  (pss_cons (ps_expr (pe_bm PySem.F.plainAttrs_list PySem.F.slot_list_append PySem.F.type_list_append mt_append (pv 1) (pa_cons (pe_tup (pa_cons pe_str (pa_cons pe_str pa_nil))) pa_nil)))
  (pss_cons (ps_set (i := 1) sc__law_odd.nd rfl (Or.inl rfl) (pe_op op_cat (pv 1) (pe_lst (pa_cons (pe_tup (pa_cons pe_str (pa_cons pe_str (pa_cons pe_int (pa_cons (pe_lst (pa_cons (pe_tup (pa_cons pe_str (pa_cons pe_str pa_nil))) pa_nil)) pa_nil))))) (pa_cons (pe_tup (pa_cons (pe_lst pa_nil) (pa_cons (pe_lst pa_nil) (pa_cons (pe_lst pa_nil) pa_nil)))) (pa_cons (pe_disp (pps_cons pe_str pe_str pps_nil) (by rfl) (by rfl) (fun z => by cases z) (by decide)) (pa_cons (pe_op op_powW pe_int pe_int) (pa_cons (pe_tup (pa_cons pe_str (pa_cons pe_int pa_nil))) pa_nil))))))))
  (pss_one (ps_ret (pe_ix ix_list (pv 1) (pe_call G__law_dip (hr.mono (by decide)) (by rfl) g__law_dip k__law_dip b__law_dip .nil pass0 (pa_cons (pv 0) (pa_cons (pe_callB (call_len_seq) (by rfl) z_len (by decide +kernel) (pa_cons (pv 1) pa_nil)) pa_nil))) (fun _ _ => rfl)))))))), ?_⟩
    -- the first list
    refine ⟨_, rfl, ?_⟩
    refine ⟨small20 (Nat.le_of_ble_eq_true rfl), fun p1 n1 => ?_⟩
    obtain ⟨H1, g1, e1, hq1⟩ := newH n1 (o := _)
    rw [hq1]
    have q1 : Pot H1 a x b c := Same.pot g1 hp
    have a1 : H p1 = none := Same.free (Same.refl H) n1
    have S1 : Same H H1 := Same.trans (Same.refl H) g1
    have d1 := new_lst g1 e1 a1 .nil
    refine ⟨small20 (Nat.le_of_ble_eq_true rfl), fun p2 n2 => ?_⟩
    obtain ⟨H2, g2, e2, hq2⟩ := newH n2 (o := _)
    rw [hq2]
    have q2 : Pot H2 a x b c := Same.pot g2 q1
    have a2 : H p2 = none := Same.free (S1) n2
    have S2 : Same H H2 := Same.trans (S1) g2
    have all2 : DaAll (frs H H2) _ (oddD.take 16) := Same.fa g2 (.cons .non (.cons (.bl true) (.cons (.bl false) (.cons (.int 0) (.cons (.int 1) (.cons (.int (-1)) (.cons (.int 9) (.cons (.str _) (.cons (.str _) (.cons (.str _) (.cons (.str _) (.cons (.str _) (.cons (.str _) (.cons (.str _) (.cons (.str _) (.cons d1 .nil))))))))))))))))
    -- the second
    refine ⟨_, rfl, ?_⟩
    refine ⟨small20 (Nat.le_of_ble_eq_true rfl), fun p3 n3 => ?_⟩
    obtain ⟨H3, g3, e3, hq3⟩ := newH n3 (o := _)
    rw [hq3]
    have q3 : Pot H3 a x b c := Same.pot g3 q2
    have a3 : H p3 = none := Same.free (S2) n3
    have S3 : Same H H3 := Same.trans (S2) g3
    have d3 := new_tup g3 e3 a3 .nil
    refine fun p4 n4 => ?_
    obtain ⟨H4, g4, e4, hq4⟩ := newH n4 (o := _)
    rw [hq4]
    have q4 : Pot H4 a x b c := Same.pot g4 q3
    have a4 : H p4 = none := Same.free (S3) n4
    have S4 : Same H H4 := Same.trans (S3) g4
    have d4 : Da (frs H H4) (.ref p4) (.dict []) := .dct (frs_of e4 a4) .nil .nil
    refine ⟨small20 (Nat.le_of_ble_eq_true rfl), fun p5 n5 => ?_⟩
    obtain ⟨H5, g5, e5, hq5⟩ := newH n5 (o := _)
    rw [hq5]
    have q5 : Pot H5 a x b c := Same.pot g5 q4
    have a5 : H p5 = none := Same.free (S4) n5
    have S5 : Same H H5 := Same.trans (S4) g5
    have d5 := new_tup g5 e5 a5 (.cons (.str _) (.cons (.str _) .nil))
    refine ⟨small20 (Nat.le_of_ble_eq_true rfl), fun p6 n6 => ?_⟩
    obtain ⟨H6, g6, e6, hq6⟩ := newH n6 (o := _)
    rw [hq6]
    have q6 : Pot H6 a x b c := Same.pot g6 q5
    have a6 : H p6 = none := Same.free (S5) n6
    have S6 : Same H H6 := Same.trans (S5) g6
    have d6 := new_lst g6 e6 a6 (.cons (.str _) (.cons (.str _) .nil))
    refine ⟨small20 (Nat.le_of_ble_eq_true rfl), fun p7 n7 => ?_⟩
    obtain ⟨H7, g7, e7, hq7⟩ := newH n7 (o := _)
    rw [hq7]
    have q7 : Pot H7 a x b c := Same.pot g7 q6
    have a7 : H p7 = none := Same.free (S6) n7
    have S7 : Same H H7 := Same.trans (S6) g7
    have d7 := new_tup g7 e7 a7 (.cons (.str _) (.cons (.str _) .nil))
    refine ⟨small20 (Nat.le_of_ble_eq_true rfl), fun p8 n8 => ?_⟩
    obtain ⟨H8, g8, e8, hq8⟩ := newH n8 (o := _)
    rw [hq8]
    have q8 : Pot H8 a x b c := Same.pot g8 q7
    have a8 : H p8 = none := Same.free (S7) n8
    have S8 : Same H H8 := Same.trans (S7) g8
    have d8 := new_lst g8 e8 a8 (.cons d7 .nil)
    refine ⟨small20 (Nat.le_of_ble_eq_true rfl), fun p9 n9 => ?_⟩
    obtain ⟨H9, g9, e9, hq9⟩ := newH n9 (o := _)
    rw [hq9]
    have q9 : Pot H9 a x b c := Same.pot g9 q8
    have a9 : H p9 = none := Same.free (S8) n9
    have S9 : Same H H9 := Same.trans (S8) g9
    have d9 := new_tup g9 e9 a9 (.cons (.str _) .nil)
    refine ⟨small20 (Nat.le_of_ble_eq_true rfl), fun p10 n10 => ?_⟩
    obtain ⟨H10, g10, e10, hq10⟩ := newH n10 (o := _)
    rw [hq10]
    have q10 : Pot H10 a x b c := Same.pot g10 q9
    have a10 : H p10 = none := Same.free (S9) n10
    have S10 : Same H H10 := Same.trans (S9) g10
    have d10 := new_tup g10 e10 a10 (.cons (.str _) (.cons (.str _) (.cons (.str _) .nil)))
    refine ⟨small20 (Nat.le_of_ble_eq_true rfl), fun p11 n11 => ?_⟩
    obtain ⟨H11, g11, e11, hq11⟩ := newH n11 (o := _)
    rw [hq11]
    have q11 : Pot H11 a x b c := Same.pot g11 q10
    have a11 : H p11 = none := Same.free (S10) n11
    have S11 : Same H H11 := Same.trans (S10) g11
    have d11 := new_tup g11 e11 a11 (.cons (.str _) (.cons (.str _) .nil))
    refine ⟨small20 (Nat.le_of_ble_eq_true rfl), fun p12 n12 => ?_⟩
    obtain ⟨H12, g12, e12, hq12⟩ := newH n12 (o := _)
    rw [hq12]
    have q12 : Pot H12 a x b c := Same.pot g12 q11
    have a12 : H p12 = none := Same.free (S11) n12
    have S12 : Same H H12 := Same.trans (S11) g12
    have k2 : Same H2 H12 := ((((((((g3.trans g4).trans g5).trans g6).trans g7).trans g8).trans g9).trans g10).trans g11).trans g12
    have all12 : DaAll (frs H H12) _ ((oddD.drop 16).take 8) := .cons (Same.fd (Same.trans (Same.trans (Same.trans (Same.trans (Same.trans (Same.trans (Same.trans (Same.trans g4 g5) g6) g7) g8) g9) g10) g11) g12) d3) (.cons (Same.fd (Same.trans (Same.trans (Same.trans (Same.trans (Same.trans (Same.trans (Same.trans g5 g6) g7) g8) g9) g10) g11) g12) d4) (.cons (Same.fd (Same.trans (Same.trans (Same.trans (Same.trans (Same.trans (Same.trans g6 g7) g8) g9) g10) g11) g12) d5) (.cons (Same.fd (Same.trans (Same.trans (Same.trans (Same.trans (Same.trans g7 g8) g9) g10) g11) g12) d6) (.cons (Same.fd (Same.trans (Same.trans (Same.trans g9 g10) g11) g12) d8) (.cons (Same.fd (Same.trans (Same.trans g10 g11) g12) d9) (.cons (Same.fd (Same.trans g11 g12) d10) (.cons (Same.fd g12 d11) .nil)))))))
    refine ⟨p2, p12, _, _, rfl, rfl, k2 _ _ e2, e12, small20 (Nat.le_of_ble_eq_true rfl), ?_⟩
    refine fun p13 n13 => ?_
    obtain ⟨H13, g13, e13, hq13⟩ := newH n13 (o := _)
    rw [hq13]
    have q13 : Pot H13 a x b c := Same.pot g13 q12
    have a13 : H p13 = none := Same.free (S12) n13
    have S13 : Same H H13 := Same.trans (S12) g13
    have all13 := DaAll.app (Same.fa g13 all12) (Same.fa (Same.trans k2 g13) all2)
    -- some.append(('bo', 'an'))
    refine ⟨_, rfl, .inl ⟨rfl, _, .inl (.inl e13)⟩, ?_⟩
    refine ⟨small20 (Nat.le_of_ble_eq_true rfl), fun p14 n14 => ?_⟩
    obtain ⟨H14, g14, e14, hq14⟩ := newH n14 (o := _)
    rw [hq14]
    have q14 : Pot H14 a x b c := Same.pot g14 q13
    have a14 : H p14 = none := Same.free (S13) n14
    have S14 : Same H H14 := Same.trans (S13) g14
    have d14 := new_tup g14 e14 a14 (.cons (.str _) (.cons (.str _) .nil))
    refine ⟨p13, _, _, rfl, rfl, g14 _ _ e13, Nat.lt_of_le_of_lt (Nat.le_of_ble_eq_true rfl : _ ≤ 20000) (by decide), ?_⟩
    have m14 : p14 ≠ p13 := (ne_of_none e13 n14).symm
    obtain ⟨H15, g15, e15, hq15⟩ := mutH (H := H14) (p := p13) (o := _)
    rw [hq15]
    have q15 : Pot H15 a x b c := g15 _ _ (ne_of_none hp a13) q14
    have k15 : Same H12 H15 := fun b o e => g15 b o (ne_of_none e n13) (g14 _ _ (g13 _ _ e))
    have k2' : Same H2 H15 := Same.trans k2 k15
    have S15 : Same H H15 := Same.trans S2 k2'
    have d14' : Da (frs H H15) (.ref p14) _ := .tup (frs_of (g15 _ _ m14 e14) a14) (.cons (.str _) (.cons (.str _) .nil))
    have all15 := DaAll.app (.cons d14' .nil) (DaAll.app (Same.fa k15 all12) (Same.fa k2' all2))
    -- the third
    refine ⟨_, rfl, ?_⟩
    refine ⟨small20 (Nat.le_of_ble_eq_true rfl), fun p16 n16 => ?_⟩
    obtain ⟨H16, g16, e16, hq16⟩ := newH n16 (o := _)
    rw [hq16]
    have q16 : Pot H16 a x b c := Same.pot g16 q15
    have a16 : H p16 = none := Same.free (S15) n16
    have S16 : Same H H16 := Same.trans (S15) g16
    have d16 := new_tup g16 e16 a16 (.cons (.str _) (.cons (.str _) .nil))
    refine ⟨small20 (Nat.le_of_ble_eq_true rfl), fun p17 n17 => ?_⟩
    obtain ⟨H17, g17, e17, hq17⟩ := newH n17 (o := _)
    rw [hq17]
    have q17 : Pot H17 a x b c := Same.pot g17 q16
    have a17 : H p17 = none := Same.free (S16) n17
    have S17 : Same H H17 := Same.trans (S16) g17
    have d17 := new_lst g17 e17 a17 (.cons d16 .nil)
    refine ⟨small20 (Nat.le_of_ble_eq_true rfl), fun p18 n18 => ?_⟩
    obtain ⟨H18, g18, e18, hq18⟩ := newH n18 (o := _)
    rw [hq18]
    have q18 : Pot H18 a x b c := Same.pot g18 q17
    have a18 : H p18 = none := Same.free (S17) n18
    have S18 : Same H H18 := Same.trans (S17) g18
    have d18 := new_tup g18 e18 a18 (.cons (.str _) (.cons (.str _) (.cons (.int 1) (.cons d17 .nil))))
    refine ⟨small20 (Nat.le_of_ble_eq_true rfl), fun p19 n19 => ?_⟩
    obtain ⟨H19, g19, e19, hq19⟩ := newH n19 (o := _)
    rw [hq19]
    have q19 : Pot H19 a x b c := Same.pot g19 q18
    have a19 : H p19 = none := Same.free (S18) n19
    have S19 : Same H H19 := Same.trans (S18) g19
    have d19 := new_lst g19 e19 a19 .nil
    refine ⟨small20 (Nat.le_of_ble_eq_true rfl), fun p20 n20 => ?_⟩
    obtain ⟨H20, g20, e20, hq20⟩ := newH n20 (o := _)
    rw [hq20]
    have q20 : Pot H20 a x b c := Same.pot g20 q19
    have a20 : H p20 = none := Same.free (S19) n20
    have S20 : Same H H20 := Same.trans (S19) g20
    have d20 := new_lst g20 e20 a20 .nil
    refine ⟨small20 (Nat.le_of_ble_eq_true rfl), fun p21 n21 => ?_⟩
    obtain ⟨H21, g21, e21, hq21⟩ := newH n21 (o := _)
    rw [hq21]
    have q21 : Pot H21 a x b c := Same.pot g21 q20
    have a21 : H p21 = none := Same.free (S20) n21
    have S21 : Same H H21 := Same.trans (S20) g21
    have d21 := new_lst g21 e21 a21 .nil
    refine ⟨small20 (Nat.le_of_ble_eq_true rfl), fun p22 n22 => ?_⟩
    obtain ⟨H22, g22, e22, hq22⟩ := newH n22 (o := _)
    rw [hq22]
    have q22 : Pot H22 a x b c := Same.pot g22 q21
    have a22 : H p22 = none := Same.free (S21) n22
    have S22 : Same H H22 := Same.trans (S21) g22
    have d22 := new_tup g22 e22 a22 (.cons (Same.fd (Same.trans g20 g21) d19) (.cons (Same.fd g21 d20) (.cons d21 .nil)))
    refine fun p23 n23 => ?_
    refine ⟨upd_same, [(Sum.inr "an", .str "a")], rfl, by decide, ?_⟩
    rw [upd_upd]
    obtain ⟨H23, g23, e23, hq23⟩ := newH n23 (o := _)
    rw [hq23]
    have q23 : Pot H23 a x b c := Same.pot g23 q22
    have a23 : H p23 = none := Same.free (S22) n23
    have S23 : Same H H23 := Same.trans (S22) g23
    have e23' : H23 p23 = some (.dK [(Sum.inr "an", .str "a")]) := e23
    have d23 : Da (frs H H23) (.ref p23) (.dict [(st "an", st "a")]) := .dct (frs_of e23' a23) (.cons (.str _) .nil) (.cons (.str _) .nil)
    refine ⟨_, _, rfl, rfl, ⟨by decide, by decide, by decide +kernel⟩, ?_⟩
    refine ⟨small20 (Nat.le_of_ble_eq_true rfl), fun p24 n24 => ?_⟩
    obtain ⟨H24, g24, e24, hq24⟩ := newH n24 (o := _)
    rw [hq24]
    have q24 : Pot H24 a x b c := Same.pot g24 q23
    have a24 : H p24 = none := Same.free (S23) n24
    have S24 : Same H H24 := Same.trans (S23) g24
    have d24 := new_tup g24 e24 a24 (.cons (.str _) (.cons (.int 1) .nil))
    refine ⟨small20 (Nat.le_of_ble_eq_true rfl), fun p25 n25 => ?_⟩
    obtain ⟨H25, g25, e25, hq25⟩ := newH n25 (o := _)
    rw [hq25]
    have q25 : Pot H25 a x b c := Same.pot g25 q24
    have a25 : H p25 = none := Same.free (S24) n25
    have S25 : Same H H25 := Same.trans (S24) g25
    have all25 : DaAll (frs H H25) _ (oddD.drop 25) := .cons (Same.fd (Same.trans (Same.trans (Same.trans (Same.trans (Same.trans (Same.trans g19 g20) g21) g22) g23) g24) g25) d18) (.cons (Same.fd (Same.trans (Same.trans g23 g24) g25) d22) (.cons (Same.fd (Same.trans g24 g25) d23) (.cons (.int _) (.cons (Same.fd g25 d24) .nil))))
    have k25 : Same H15 H25 := (Same.trans (Same.trans (Same.trans (Same.trans (Same.trans (Same.trans (Same.trans (Same.trans (Same.trans g16 g17) g18) g19) g20) g21) g22) g23) g24) g25)
    refine ⟨p13, p25, _, _, rfl, rfl, k25 _ _ e15, e25, small20 (Nat.le_of_ble_eq_true rfl), ?_⟩
    refine fun p26 n26 => ?_
    obtain ⟨H26, g26, e26, hq26⟩ := newH n26 (o := _)
    rw [hq26]
    have q26 : Pot H26 a x b c := Same.pot g26 q25
    have a26 : H p26 = none := Same.free (S25) n26
    have S26 : Same H H26 := Same.trans (S25) g26
    have all26 : DaAll (frs H H26) _ oddD := DaAll.app (Same.fa g26 all25) (Same.fa (Same.trans k25 g26) all15)
    -- some[_law_dip(pot, len(some))]
    refine ⟨_, rfl, _, rfl, _, rfl, p26, _, rfl, .inl (.inl (.inl e26)), ?_⟩
    refine ⟨a, x, b, c, _, rfl, q26, ⟨hb0, hb1⟩, ⟨hc0, hc1⟩, ⟨by show (0 : Int) < 30; decide, by show (30 : Int) < 2 ^ 29; decide⟩, fun x' c' r h1 h2 h3 h4 => ?_⟩
    have e27 : (upd H26 a (.lst [.int x', .int b, .int c'])) p26 = _ := (upd_ne (ne_of_none hp a26).symm).trans e26
    have kall : Ka a H26 (upd H26 a (.lst [.int x', .int b, .int c'])) := Ka.pot _ _ _
    have all27 := frs_all (H' := upd H26 a (.lst [.int x', .int b, .int c'])) (fun b o n e => kall b o (fun z => by rw [z] at n; exact absurd (hp.symm.trans n) (by simp)) e) all26
    have hlen : r.toNat < 30 := by
      have h5 : r < 30 := h4
      omega
    obtain ⟨v, d, hv, hd, hda⟩ := DaAll.some all27 (i := r.toNat) hlen
    refine ⟨p26, _, r, v, rfl, rfl, .inl (.inl e27), at_of (j := r.toNat) (by omega) hv, ?_⟩
    exact q v d _ x' c' hda (List.all_eq_true.mp odd_ok d (List.mem_of_getElem? hd)) upd_same h1 h2 fun p o n e => kall _ _ n (g26 _ _ (k25 _ _ (k2' _ _ (g2 _ _ (g1 _ _ e)))))
end
end K01
set_option Elab.async false
set_option linter.all false
set_option maxRecDepth 100000
set_option maxHeartbeats 4000000
namespace K01
open PySem L2 Ld GxR
theorem dip {H : Hp} {a : Addr} {x b c m : Int} {Q : VK} {E : XK} (hp : Pot H a x b c) (hb : 0 ≤ b ∧ b < 2 ^ 200) (hc : 0 ≤ c ∧ c < 2 ^ 60) (hm : 0 < m ∧ m < 2 ^ 29)
    (k : ∀ (x' c' r : Int) (H' : Hp), c ≤ c' → c' ≤ c + 1 → 0 ≤ r → r < m → Pot H' a x' b c' → Ka a H H' → Q (.int r) H') : spDip [.ref a, .int m] H Q E :=
  ⟨a, x, b, c, m, rfl, hp, hb, hc, hm, fun x' c' r h1 h2 h3 h4 => k x' c' r _ h1 h2 h3 h4 upd_same (Ka.pot _ _ _)⟩
theorem potH {H : Hp} {a : Addr} (x b c : Int) : ∃ H1, Pot H1 a x b c ∧ Ka a H H1 ∧ upd H a (.lst [.int x, .int b, .int c]) = H1 := ⟨_, upd_same, Ka.pot _ _ _, rfl⟩
theorem at_nat {α : Type} {xs : List α} {i : Int} (h0 : 0 ≤ i) (h : i.toNat < xs.length) : atI xs i = some (xs[i.toNat]'h) := by
  have e : i = ((i.toNat : Nat) : Int) := by omega
  have q := atI_nat (List.getElem?_eq_getElem h)
  rw [← e] at q
  exact q
theorem TxOk.app {x y : Str} (hx : TxOk x) (hy : TxOk y) : TxOk (x ++ y) := fun c h => by
  have e : (x ++ y).cps.toList = x.cps.toList ++ y.cps.toList := by
    show (x.cps ++ y.cps).toList = _
    simp
  rw [e] at h
  rcases List.mem_append.mp h with h | h
  · exact hx c h
  · exact hy c h
theorem TxOk.cut {x : Str} (hx : TxOk x) (lo hi : Option Int) : TxOk (cutS x lo hi) := fun c h => by
  unfold cutS at h
  exact hx c (List.mem_of_mem_drop (List.mem_of_mem_take (by simpa using h)))
theorem letters_lt {c : Nat} (h : c ∈ letters) : c < 128 := by
  have := (signB_iff c).mp ((letters_iff c).mp h)
  omega
def signs16 : List Str := ["", "", "", "", "A", "7", " ", ".", "_", "-", "\n", "Z", "`", "{", "@", "["]
theorem signs_ok : ∀ s ∈ signs16, TxOk s ∧ s.length ≤ 1 := by
  have h : (signs16.all fun s => (s.cps.toList.all fun c => decide (c < 128)) && decide (s.length ≤ 1)) = true := by decide +kernel
  intro s hs
  have q := List.all_eq_true.mp h s hs
  simp only [Bool.and_eq_true, List.all_eq_true, decide_eq_true_eq] at q
  exact q
abbrev s__law_text : Stmt := topS 11
abbrev N__law_text : List Str := ["pot", "text", "k", "at", "sign"]
theorem sc__law_text : FnScope N__law_text ["pot"] (defScope s__law_text) := ⟨rfl, rfl, rfl, by decide +kernel, rfl, by decide +kernel, by decide +kernel⟩
def spText : Sp := fun vs H Q _ => ∃ (a : Addr) (x b c : Int), vs = [.ref a] ∧ Pot H a x b c ∧ (0 ≤ b ∧ b < 2 ^ 200) ∧ (0 ≤ c ∧ c < 2 ^ 59) ∧
  ∀ (z : Str) (H' : Hp) (x' c' : Int), TxOk z → z.length ≤ 21 → Pot H' a x' b c' → c ≤ c' → c' ≤ c + 20 → Ka a H H' → Q (.str z) H'
theorem newK {H : Hp} {p a : Addr} {x b c : Int} (n : H p = none) (hp : Pot H a x b c) {o : HO} : ∃ H1, Same H H1 ∧ H1 p = some o ∧ Pot H1 a x b c ∧ p ≠ a ∧ upd H p o = H1 := ⟨_, same_upd n, upd_same, Same.pot (same_upd n) hp, pot_ne hp n, rfl⟩
section
variable {P : Program} {w : World} {K : PySem.W.Frag} {mg : Str → Option Value} {base : Heap}
theorem ok__law_text {f fN : Addr} {fd fdN : FuncData} (F : Fun K "_law_text" "_law_text" s__law_text f fd) (G__law_dip : FnOk P w K mg base CX0 1 fN fdN ["pot", "many"] spDip) (g__law_dip : mg "_law_dip" = some (.ref fN)) (k__law_dip : PySem.W.keepIn K (.ref fN) = true)
    (b__law_dip : Binds K fdN ["pot", "many"] []) (z_len : mg "len" = none) (z_range : mg "range" = none) : FnOk P w K mg base CX0 2 f fd ["pot"] spText := by
  refine F.ok sc__law_text (fun vs H Q E h => ?_) (fun cdv A outer s H vs Q E hr h => ?_)
  · obtain ⟨a, x, b, c, rfl, _⟩ := h
    rfl
  · obtain ⟨a, x, b, c, rfl, hp, hb, ⟨hc0, hc1⟩, q⟩ := h
    refine ⟨_, (pss_cons (ps_set (i := 1) sc__law_text.nd rfl (Or.inl rfl) pe_str)
  (pss_cons (ps_for PassesOwn.never rfl (pi_range1 (by rfl) z_range (pa_cons (pe_ix ix_list (pe_lst (pa_cons pe_int (pa_cons pe_int (pa_cons pe_int (pa_cons (pe_call G__law_dip (hr.mono (by decide)) (by rfl) g__law_dip k__law_dip b__law_dip .nil pass0 (pa_cons (pv 0) (pa_cons pe_int pa_nil))) pa_nil))))) (pe_call G__law_dip (hr.mono (by decide)) (by rfl) g__law_dip k__law_dip b__law_dip .nil pass0 (pa_cons (pv 0) (pa_cons pe_int pa_nil))) (fun _ _ => rfl)) pa_nil)) (pg_name (i := 2) sc__law_text.nd rfl (Or.inl rfl))
  (pss_one (ps_set (i := 1) sc__law_text.nd rfl (Or.inl rfl) (pe_op op_add_str (pv 1) (pe_ix ix_str pe_str (pe_call G__law_dip (hr.mono (by decide)) (by rfl) g__law_dip k__law_dip b__law_dip .nil pass0 (pa_cons (pv 0) (pa_cons pe_int pa_nil))) (fun _ _ => rfl))))))
  (pss_cons (ps_set (i := 3) sc__law_text.nd rfl (Or.inl rfl) (pe_call G__law_dip (hr.mono (by decide)) (by rfl) g__law_dip k__law_dip b__law_dip .nil pass0 (pa_cons (pv 0) (pa_cons (pe_op op_add (pe_callB (call_len_str) (by rfl) z_len (by decide +kernel) (pa_cons (pv 1) pa_nil)) pe_int) pa_nil))))
  (pss_cons (ps_set (i := 4) sc__law_text.nd rfl (Or.inl rfl) (pe_ix ix_list (pe_lst (pa_cons pe_str (pa_cons pe_str (pa_cons pe_str (pa_cons pe_str (pa_cons pe_str (pa_cons pe_str (pa_cons pe_str (pa_cons pe_str (pa_cons pe_str (pa_cons pe_str (pa_cons pe_str (pa_cons pe_str (pa_cons pe_str (pa_cons pe_str (pa_cons pe_str (pa_cons pe_str pa_nil))))))))))))))))) (pe_call G__law_dip (hr.mono (by decide)) (by rfl) g__law_dip k__law_dip b__law_dip .nil pass0 (pa_cons (pv 0) (pa_cons pe_int pa_nil))) (fun _ _ => rfl)))
  (pss_one (ps_ret (pe_op op_add_str (pe_op op_add_str (pe_slice sl_str (pv 1) po_none (po_some (pv 3))) (pv 4)) (pe_slice sl_str (pv 1) (po_some (pv 3)) po_none)))))))), ?_⟩
    -- range([1, 8, 9, dip(11)][dip(4)])
    refine ⟨_, rfl, a, _, b, _, _, rfl, hp, hb, ⟨hc0, by omega⟩, ⟨by decide, by decide⟩, fun x1 c1 r1 u1 u2 u3 u4 => ?_⟩
    obtain ⟨H1, q1, k1, hqH1⟩ := potH (a := a) x1 b c1 (H := _)
    rw [hqH1]
    refine ⟨small20 (Nat.le_of_ble_eq_true rfl), fun p n => ?_⟩
    obtain ⟨H2, g2, e2, q2, a2, hq2⟩ := newK n q1 (o := _)
    rw [hq2]
    refine ⟨_, rfl, a, _, b, _, _, rfl, q2, hb, ⟨by omega, by omega⟩, ⟨by decide, by decide⟩, fun x3 c3 r3 v1 v2 v3 v4 => ?_⟩
    obtain ⟨H3, q3, k3, hqH3⟩ := potH (a := a) x3 b c3 (H := _)
    rw [hqH3]
    have k03 : Ka a H H3 := (k1.trans (Ka.of g2)).trans k3
    have hr3 : r3.toNat < 4 := by omega
    obtain ⟨n4, hn4, hn0, hn1⟩ : ∃ n4 : Int, [V.int 1, V.int 8, V.int 9, V.int r1][r3.toNat]'hr3 = V.int n4 ∧ 0 ≤ n4 ∧ n4 ≤ 10 := by
      have h4 : r3.toNat = 0 ∨ r3.toNat = 1 ∨ r3.toNat = 2 ∨ r3.toNat = 3 := by omega
      rcases h4 with h | h | h | h
      · exact ⟨1, by simp [h], by decide, by decide⟩
      · exact ⟨8, by simp [h], by decide, by decide⟩
      · exact ⟨9, by simp [h], by decide, by decide⟩
      · exact ⟨r1, by simp [h], by omega, by omega⟩
    refine ⟨p, [V.int 1, V.int 8, V.int 9, V.int r1], r3, _, rfl, rfl, .inl (.inl (k3 _ _ a2 e2)), at_nat (xs := [V.int 1, V.int 8, V.int 9, V.int r1]) v3 hr3, ?_⟩
    rw [hn4]
    refine ⟨n4, rfl, by omega, by omega, ?_⟩
    refine for_range (lo := 0) (n := n4.toNat) (fun i σ H' => ∃ (z : Str) (kv : Option V) (x' c' : Int), σ = [some (.ref a), some (.str z), kv, none, none] ∧ z.length = i ∧ TxOk z ∧ Pot H' a x' b c' ∧ c ≤ c' ∧ c' ≤ c + 2 + i ∧ Ka a H H')
      ⟨"", none, x3, c3, rfl, rfl, fun c h => absurd (show c ∈ ([] : List Nat) from h) List.not_mem_nil, q3, by omega, by omega, k03⟩ ?_ ?_
    · rintro i σ H4 hi ⟨z, kv, x4, c4, rfl, hz, htx, q4, w1, w2, k4⟩
      refine ⟨_, rfl, _, rfl, a, _, b, _, _, rfl, q4, hb, ⟨by omega, by omega⟩, ⟨by decide, by decide⟩, fun x5 c5 r5 y1 y2 y3 y4 => ?_⟩
      obtain ⟨H5, q5, k5, hqH5⟩ := potH (a := a) x5 b c5 (H := _)
      rw [hqH5]
      have hr5 : r5.toNat < ("abcdefghijklmnopqrstuvwxyz" : Str).cps.toList.length := by
        show r5.toNat < 26
        omega
      refine ⟨_, _, _, rfl, rfl, small20 (Nat.le_of_ble_eq_true rfl), at_nat (xs := ("abcdefghijklmnopqrstuvwxyz" : Str).cps.toList) y3 hr5, ?_⟩
      have hmem : ("abcdefghijklmnopqrstuvwxyz" : Str).cps.toList[r5.toNat] ∈ letters := List.getElem_mem hr5
      generalize ("abcdefghijklmnopqrstuvwxyz" : Str).cps.toList[r5.toNat] = ch at hmem
      have hl1 : ((⟨#[ch]⟩ : Str)).length = 1 := rfl
      have hl2 : (z ++ (⟨#[ch]⟩ : Str)).length = i + 1 := by
        rw [strLen_append, hz, hl1]
      refine ⟨z, _, rfl, rfl, by rw [hz, hl1]; exact small20 (by omega), ?_⟩
      exact ⟨_, _, x5, c5, rfl, hl2, TxOk.app htx fun c h => by
        have e : c = ch := by simpa using h
        rw [e]
        exact letters_lt hmem, q5, by omega, by omega, k4.trans k5⟩
    · rintro σ H4 ⟨z, kv, x4, c4, rfl, hz, htx, q4, w1, w2, k4⟩
      -- at = dip(len(text) + 1)
      refine ⟨_, rfl, _, rfl, z, rfl, small20 (by omega), _, _, rfl, rfl, a, _, b, _, _, rfl, q4, hb, ⟨by omega, by omega⟩, ⟨by omega, by omega⟩, fun x5 c5 r5 y1 y2 y3 y4 => ?_⟩
      obtain ⟨H5, q5, k5, hqH5⟩ := potH (a := a) x5 b c5 (H := _)
      rw [hqH5]
      -- sign
      refine ⟨small20 (Nat.le_of_ble_eq_true rfl), fun p6 n6 => ?_⟩
      obtain ⟨H6, g6, e6, q6, a6, hq6⟩ := newK n6 q5 (o := _)
      rw [hq6]
      refine ⟨_, rfl, a, _, b, _, _, rfl, q6, hb, ⟨by omega, by omega⟩, ⟨by decide, by decide⟩, fun x7 c7 r7 i1 i2 i3 i4 => ?_⟩
      obtain ⟨H7, q7, k7, hqH7⟩ := potH (a := a) x7 b c7 (H := _)
      rw [hqH7]
      have e6' : H7 p6 = some (.lst (signs16.map V.str)) := k7 _ _ a6 e6
      have hr7 : r7.toNat < signs16.length := by
        show r7.toNat < 16
        omega
      have hv7 : (signs16.map V.str)[r7.toNat]? = some (.str signs16[r7.toNat]) := by
        rw [List.getElem?_map, List.getElem?_eq_getElem hr7]
        rfl
      refine ⟨p6, signs16.map V.str, r7, _, rfl, rfl, .inl (.inl e6'), at_of (j := r7.toNat) (by omega) hv7, ?_⟩
      obtain ⟨s1, s2⟩ := signs_ok _ (List.getElem_mem hr7)
      generalize signs16[r7.toNat] = sg at s1 s2
      -- text[:at] + sign + text[at:]
      have b1 := cutS_length z none (some r5)
      have b2 := cutS_length z (some r5) none
      refine ⟨_, rfl, _, rfl, r5, rfl, z, rfl, small20 (by omega), _, rfl, _, _, rfl, rfl, small20 (by omega), ?_⟩
      have b3 : (cutS z none (some r5) ++ sg).length = (cutS z none (some r5)).length + sg.length := strLen_append _ _
      refine ⟨_, rfl, _, rfl, r5, rfl, z, rfl, small20 (by omega), _, _, rfl, rfl, small20 (by omega), ?_⟩
      exact q _ H7 x7 c7 (TxOk.app (TxOk.app (TxOk.cut htx _ _) s1) (TxOk.cut htx _ _)) (by rw [strLen_append]; omega) q7 (by omega) (by omega) (((k4.trans k5).trans (Ka.of g6)).trans k7)
end
end K01
set_option Elab.async false
set_option linter.all false
set_option maxRecDepth 100000
set_option maxHeartbeats 4000000
namespace K01
open PySem L2 Ld GxR
/-- what the law draws -/
def okT (d : PyData) : Bool := d.showable && d.leavesShort 600 && decide (d.depth ≤ 32) && decide (d.weight ≤ 20000) && txI d
theorem okT.sm {d : PyData} (h : okT d = true) : Sm d = true := (Bool.and_eq_true_iff.mp h).1
theorem okT.w {d : PyData} (h : okT d = true) : d.weight ≤ 20000 := (Sm.parts (okT.sm h)).2.2.2
theorem txB_ok {x : Str} (h : txB (.str x) = true) : TxOk x := fun c hc => of_decide_eq_true (List.all_eq_true.mp (show (x.cps.toList.all fun c => decide (c < 128)) = true from h) c hc)
theorem okT.tx {d : PyData} (h : okT d = true) : TxAll d := by
  have h2 : txI d = true := (Bool.and_eq_true_iff.mp h).2
  refine ⟨fun x e => ?_, fun ds e e' he x ex => ?_⟩
  · subst e
    exact txB_ok h2
  · subst e
    have h3 : ds.all txB = true := h2
    have h4 := List.all_eq_true.mp h3 e' he
    rw [ex] at h4
    exact txB_ok h4
theorem okB.parts {d : PyData} (h : okB d = true) : d.showable = true ∧ d.leavesShort 600 = true ∧ d.depth ≤ 8 ∧ d.weight ≤ 200 ∧ txI d = true := by
  unfold okB at h
  simp only [Bool.and_eq_true, decide_eq_true_eq] at h
  exact ⟨h.1.1.1.1, h.1.1.1.2, h.1.1.2, h.1.2, h.2⟩
theorem okT_of {d : PyData} (h1 : d.showable = true) (h2 : d.leavesShort 600 = true) (h3 : d.depth ≤ 32) (h4 : d.weight ≤ 20000) (h5 : txI d = true) : okT d = true := by
  unfold okT
  simp only [Bool.and_eq_true, decide_eq_true_eq]
  exact ⟨⟨⟨⟨h1, h2⟩, h3⟩, h4⟩, h5⟩
theorem okT_okB {d : PyData} (h : okB d = true) : okT d = true := by
  obtain ⟨h1, h2, h3, h4, h5⟩ := okB.parts h
  exact okT_of h1 h2 (by omega) (by omega) h5
theorem txB_of {d : PyData} (h : txI d = true) : txB d = true := by
  cases d <;> first | exact h | rfl
theorem okB_str {x : Str} (h : TxOk x) (hl : x.length ≤ 21) : okB (.str x) = true := by
  unfold okB
  have hl' : x.cps.size ≤ 21 := hl
  simp only [Bool.and_eq_true, decide_eq_true_eq]
  refine ⟨⟨⟨⟨rfl, ?_⟩, by simp [PyData.depth]⟩, ?_⟩, ?_⟩
  · simp only [PyData.leavesShort, List.all_eq_true, decide_eq_true_eq]
    intro c hc
    have := h c hc
    omega
  · simp only [PyData.weight]
    omega
  · show (x.cps.toList.all fun c => decide (c < 128)) = true
    exact List.all_eq_true.mpr fun c hc => decide_eq_true (h c hc)
theorem all_okB : ∀ {ds : List PyData}, (∀ e ∈ ds, okB e = true) → PyData.showableAll ds = true ∧ PyData.leavesShortAll 600 ds = true ∧ PyData.depthAll ds ≤ 8 ∧ PyData.weightAll ds ≤ 201 * ds.length ∧ ds.all txB = true
  | [], _ => ⟨rfl, rfl, Nat.zero_le _, Nat.zero_le _, rfl⟩
  | d :: ds, h => by
    obtain ⟨a1, a2, a3, a4, a5⟩ := all_okB (ds := ds) fun e he => h e (List.mem_cons_of_mem _ he)
    obtain ⟨b1, b2, b3, b4, b5⟩ := okB.parts (h d List.mem_cons_self)
    refine ⟨?_, ?_, ?_, ?_, ?_⟩
    · simp only [PyData.showableAll, a1, b1, Bool.and_true]
    · simp only [PyData.leavesShortAll, a2, b2, Bool.and_true]
    · simp only [PyData.depthAll]
      omega
    · simp only [PyData.weightAll, List.length_cons]
      omega
    · rw [List.all_cons, a5, txB_of b5, Bool.and_true]
theorem okT_list {ds : List PyData} (h : ∀ e ∈ ds, okB e = true) (hl : ds.length ≤ 4) : okT (.list ds) = true := by
  obtain ⟨a1, a2, a3, a4, a5⟩ := all_okB h
  refine okT_of (by simpa [PyData.showable] using a1) (by simpa [PyData.leavesShort] using a2) ?_ ?_ rfl
  · simp only [PyData.depth]
    omega
  · simp only [PyData.weight]
    omega
theorem okT_tuple {ds : List PyData} (h : ∀ e ∈ ds, okB e = true) (hl : ds.length ≤ 4) : okT (.tuple ds) = true := by
  obtain ⟨a1, a2, a3, a4, a5⟩ := all_okB h
  refine okT_of (by simpa [PyData.showable] using a1) (by simpa [PyData.leavesShort] using a2) ?_ ?_ a5
  · simp only [PyData.depth]
    omega
  · simp only [PyData.weight]
    omega
theorem dp_strs {K : PySem.W.Frag} {H : Hp} : ∀ l : List Str, DpAll K H (l.map V.str) (l.map PyData.str)
  | [] => .nil
  | c :: l => .cons (.str _) (dp_strs l)
theorem da_strs {H : Hp} : ∀ l : List Str, DaAll H (l.map V.str) (l.map PyData.str)
  | [] => .nil
  | c :: l => .cons (.str _) (da_strs l)
theorem lay_strs : ∀ l : List Str, (∀ c ∈ l, TxOk c) → PyData.canLayAll0 (l.map PyData.str) = true ∧ PyData.depthAll (l.map PyData.str) = 0
  | [], _ => ⟨rfl, rfl⟩
  | c :: l, h => by
    obtain ⟨h1, h2⟩ := lay_strs l fun x hx => h x (List.mem_cons_of_mem _ hx)
    have hc := h c List.mem_cons_self
    refine ⟨?_, ?_⟩
    · show (PyData.canLay0 (.str c) && _) = true
      rw [h1, Bool.and_true]
      show PyData.strOk c = true
      unfold PyData.strOk
      rw [← Array.all_toList, List.all_eq_true]
      intro x hx
      have := hc x hx
      exact decide_eq_true (by omega)
    · show max 0 _ = 0
      rw [h2]
      rfl
theorem shaped_strs {l : List Str} (h : ∀ c ∈ l, TxOk c) : SeqAt.shaped (.list (l.map PyData.str)) = true := by
  obtain ⟨h1, h2⟩ := lay_strs l h
  unfold SeqAt.shaped
  rw [Bool.and_eq_true]
  refine ⟨h1, decide_eq_true ?_⟩
  show PyData.depthAll _ + 1 ≤ 64
  rw [h2]
  decide
theorem yes {σ : L2.St} {H : Hp} {Q : Bool → Hp → Prop} (h : Q true H) : tYes σ H Q := h
theorem ixN_at {n j : Nat} (hj : j < n) : ixN n (j : Int) = some j := by
  unfold ixN
  rw [if_pos (by omega), if_pos (by omega)]
  simp
abbrev s__law_thing : Stmt := topS 12
abbrev N__law_thing : List Str := ["pot", "way", "some", "k"]
theorem sc__law_thing : FnScope N__law_thing ["pot"] (defScope s__law_thing) := ⟨rfl, rfl, rfl, by decide +kernel, rfl, by decide +kernel, by decide +kernel⟩
def spThing : Sp := fun vs H Q _ => ∃ (a : Addr) (x b c : Int), vs = [.ref a] ∧ Pot H a x b c ∧ (0 ≤ b ∧ b < 2 ^ 200) ∧ (0 ≤ c ∧ c < 2 ^ 58) ∧
  ∀ (v : V) (d : PyData) (H' : Hp) (x' c' : Int), Da (hid a H') v d → okT d = true → Pot H' a x' b c' → c ≤ c' → c' ≤ c + 100 → Ka a H H' → Q v H'
section
variable {P : Program} {w : World} {K : PySem.W.Frag} {mg : Str → Option Value} {base : Heap}
theorem ok__law_thing {f fN fO fT : Addr} {fd fdN fdO fdT : FuncData} (F : Fun K "_law_thing" "_law_thing" s__law_thing f fd) (G__law_dip : FnOk P w K mg base CX0 1 fN fdN ["pot", "many"] spDip) (g__law_dip : mg "_law_dip" = some (.ref fN)) (k__law_dip : PySem.W.keepIn K (.ref fN) = true)
    (b__law_dip : Binds K fdN ["pot", "many"] []) (G__law_odd : FnOk P w K mg base CX0 2 fO fdO ["pot"] spOdd) (g__law_odd : mg "_law_odd" = some (.ref fO)) (k__law_odd : PySem.W.keepIn K (.ref fO) = true) (b__law_odd : Binds K fdO ["pot"] [])
    (G__law_text : FnOk P w K mg base CX0 2 fT fdT ["pot"] spText) (g__law_text : mg "_law_text" = some (.ref fT)) (k__law_text : PySem.W.keepIn K (.ref fT) = true) (b__law_text : Binds K fdT ["pot"] []) (z_len : mg "len" = none) (z_range : mg "range" = none) (z_tuple : mg "tuple" = none) :
    FnOk P w K mg base CX0 3 f fd ["pot"] spThing := by
  refine F.ok sc__law_thing (fun vs H Q E h => ?_) (fun cdv A outer s H vs Q E hr h => ?_)
  · obtain ⟨a, x, b, c, rfl, _⟩ := h
    rfl
  · obtain ⟨a, x, b, c, rfl, hp, hb, ⟨hc0, hc1⟩, q⟩ := h
    have hu64 := hr.units
    refine ⟨_, (pss_cons (ps_set (i := 1) sc__law_thing.nd rfl (Or.inl rfl) (pe_call G__law_dip (hr.mono (by decide)) (by rfl) g__law_dip k__law_dip b__law_dip .nil pass0 (pa_cons (pv 0) (pa_cons pe_int pa_nil))))
  (pss_cons (ps_if (pt_cmpR op_eq (pv 1) pe_int (nomark _)) (pss_one (ps_ret (pe_call G__law_odd (hr.mono (by decide)) (by rfl) g__law_odd k__law_odd b__law_odd .nil pass0 (pa_cons (pv 0) pa_nil)))) pss_nil)
  (pss_cons (ps_if (pt_cmpR op_eq (pv 1) pe_int (nomark _)) (pss_one (ps_ret (pe_call G__law_text (hr.mono (by decide)) (by rfl) g__law_text k__law_text b__law_text .nil pass0 (pa_cons (pv 0) pa_nil)))) pss_nil)
  (pss_cons (ps_setLc (i := 2) (own := [("k", 3)]) (g := gName 3) rfl sc__law_thing.nd rfl rfl (sw_true rfl rfl rfl (by decide +kernel)) (pi_range1 (by rfl) z_range (pa_cons (pe_ix ix_list (pe_lst (pa_cons pe_int (pa_cons pe_int (pa_cons pe_int (pa_cons (pe_call G__law_dip (hr.mono (by decide)) (by rfl) g__law_dip k__law_dip b__law_dip .nil pass0 (pa_cons (pv 0) (pa_cons pe_int pa_nil))) pa_nil))))) (pe_call G__law_dip (hr.mono (by decide)) (by rfl) g__law_dip k__law_dip b__law_dip .nil pass0 (pa_cons (pv 0) (pa_cons pe_int pa_nil))) (fun _ _ => rfl)) pa_nil)) (blkOk_by (own := [("k", 3)]) (N := N__law_thing) (sc := defScope s__law_thing) (by decide +kernel)) (fun _ _ _ _ _ => pg_name (i := 3) sc__law_thing.nd rfl (Or.inl rfl)) (fun _ _ _ _ _ => pts_nil) (fun _ _ _ _ _ => (pe_call G__law_text (hr.mono (by decide)) (by rfl) g__law_text k__law_text b__law_text .nil pass0 (pa_cons (pv 0) pa_nil))))
  (pss_cons (ps_if (PW.pt (pw_and (pt_cmpR (op_neD hu64) (pv 2) (pe_lst pa_nil) (nomark _)) (pw_and1 (pt_cmpR op_eq (pe_call G__law_dip (hr.mono (by decide)) (by rfl) g__law_dip k__law_dip b__law_dip .nil pass0 (pa_cons (pv 0) (pa_cons pe_int pa_nil))) pe_int (nomark _))))) (pss_one (ps_asg (pe_call G__law_odd (hr.mono (by decide)) (by rfl) g__law_odd k__law_odd b__law_odd .nil pass0 (pa_cons (pv 0) pa_nil)) (pg_sub (pv 2) (pe_call G__law_dip (hr.mono (by decide)) (by rfl) g__law_dip k__law_dip b__law_dip .nil pass0 (pa_cons (pv 0) (pa_cons (pe_callB (call_len_seq) (by rfl) z_len (by decide +kernel) (pa_cons (pv 2) pa_nil)) pa_nil))) set_list))) pss_nil)
  (pss_one (ps_ret (pe_ifExp (pt_cmpR op_eq (pv 1) pe_int (nomark _)) (pv 2) (pe_callTy call_tuple_of (by rfl) z_tuple (by decide +kernel) (pa_cons (pv 2) pa_nil)))))))))), ?_⟩
    -- way = dip(6)
    refine ⟨_, rfl, a, _, b, _, _, rfl, hp, hb, ⟨hc0, by omega⟩, ⟨by decide, by decide⟩, fun x1 c1 r1 u1 u2 u3 u4 => ?_⟩
    obtain ⟨H1, q1, k1, hqH1⟩ := potH (a := a) x1 b c1 (H := _)
    rw [hqH1]
    refine ⟨_, rfl, rfl, _, rfl, ?_⟩
    refine ite2 (fun w0 => ?_) (fun w0 => ?_)
    · refine ⟨_, rfl, a, _, b, _, rfl, q1, hb, ⟨by omega, by omega⟩, fun v d H2 x2 c2 h1 h2 h3 h4 h5 h6 => ?_⟩
      exact q v d H2 x2 c2 (frs_hid q1 h1) (okT_okB h2) h3 (by omega) (by omega) (k1.trans h6)
    refine ⟨_, rfl, rfl, _, rfl, ?_⟩
    refine ite2 (fun w1 => ?_) (fun w1 => ?_)
    · refine ⟨_, rfl, a, _, b, _, rfl, q1, hb, ⟨by omega, by omega⟩, fun z H2 x2 c2 h1 h2 h3 h4 h5 h6 => ?_⟩
      exact q _ _ H2 x2 c2 (.str z) (okT_okB (okB_str h1 h2)) h3 (by omega) (by omega) (k1.trans h6)
    -- range([2, 2, 2, dip(4)][dip(4)])
    refine ⟨_, rfl, a, _, b, _, _, rfl, q1, hb, ⟨by omega, by omega⟩, ⟨by decide, by decide⟩, fun x2 c2 r2 v1 v2 v3 v4 => ?_⟩
    obtain ⟨H2, q2, k2, hqH2⟩ := potH (a := a) x2 b c2 (H := _)
    rw [hqH2]
    refine ⟨small20 (Nat.le_of_ble_eq_true rfl), fun p n => ?_⟩
    obtain ⟨H3, g3, e3, q3, a3, hq3⟩ := newK n q2 (o := _)
    rw [hq3]
    refine ⟨_, rfl, a, _, b, _, _, rfl, q3, hb, ⟨by omega, by omega⟩, ⟨by decide, by decide⟩, fun x4 c4 r4 w1 w2 w3 w4 => ?_⟩
    obtain ⟨H4, q4, k4, hqH4⟩ := potH (a := a) x4 b c4 (H := _)
    rw [hqH4]
    have k04 : Ka a H H4 := ((k1.trans k2).trans (Ka.of g3)).trans k4
    have hr4 : r4.toNat < 4 := by omega
    obtain ⟨n4, hn4, hn0, hn1⟩ : ∃ n4 : Int, [V.int 2, V.int 2, V.int 2, V.int r2][r4.toNat]'hr4 = V.int n4 ∧ 0 ≤ n4 ∧ n4 ≤ 3 := by
      have h4 : r4.toNat = 0 ∨ r4.toNat = 1 ∨ r4.toNat = 2 ∨ r4.toNat = 3 := by omega
      rcases h4 with h | h | h | h
      · exact ⟨2, by simp [h], by decide, by decide⟩
      · exact ⟨2, by simp [h], by decide, by decide⟩
      · exact ⟨2, by simp [h], by decide, by decide⟩
      · exact ⟨r2, by simp [h], by omega, by omega⟩
    refine ⟨p, [V.int 2, V.int 2, V.int 2, V.int r2], r4, _, rfl, rfl, .inl (.inl (k4 _ _ a3 e3)), at_nat (xs := [V.int 2, V.int 2, V.int 2, V.int r2]) w3 hr4, ?_⟩
    rw [hn4]
    refine ⟨n4, rfl, by omega, by omega, fun D hD => ?_⟩
    have aD : D ≠ a := pot_ne q4 hD
    refine lc_range (lo := 0) (n := n4.toNat) (fun i H' => ∃ (zs : List Str) (x' c' : Int), H' D = some (.lst (zs.map V.str)) ∧ zs.length = i ∧ (∀ z ∈ zs, TxOk z ∧ z.length ≤ 21) ∧ Pot H' a x' b c' ∧ c ≤ c' ∧ c' ≤ c + 3 + 20 * i ∧ Ka a H4 H')
      ⟨[], x4, c4, upd_same, rfl, fun z h => absurd h List.not_mem_nil, Same.pot (same_upd hD) q4, by omega, by omega, Ka.of (same_upd hD)⟩ ?_ ?_
    · rintro i H5 hi ⟨zs, x5, c5, eD, hz, hzs, q5, y1, y2, k5⟩
      refine ⟨rfl, yes (itY rfl ?_)⟩
      refine ⟨_, rfl, a, _, b, _, rfl, q5, hb, ⟨by omega, by omega⟩, fun z H6 x6 c6 h1 h2 h3 h4 h5 h6 => ?_⟩
      have eD6 := h6 _ _ aD eD
      refine ⟨_, eD6, Nat.lt_of_le_of_lt (by rw [List.length_map]; omega : _ ≤ 20000) (by decide), zs ++ [z], x6, c6, ?_, by rw [List.length_append, hz]; rfl, fun y hy => ?_, ?_, by omega, by omega, ?_⟩
      · rw [upd_same, List.map_append]
        rfl
      · rcases List.mem_append.mp hy with hy | hy
        · exact hzs y hy
        · rw [List.mem_singleton.mp hy]
          exact ⟨h1, h2⟩
      · show (upd H6 D _) a = _
        rw [upd_ne aD.symm]
        exact h3
      · intro o u no ho
        have hoD : o ≠ D := ne_of_none ho hD
        rw [upd_ne hoD]
        exact h6 _ _ no (k5 _ _ no ho)
    · rintro H5 ⟨zs, x5, c5, eD, hz, hzs, q5, y1, y2, k5⟩
      have hzl : zs.length ≤ 3 := by omega
      have k05 : Ka a H H5 := k04.trans k5
      have hx : ∀ z ∈ zs, TxOk z := fun z h => (hzs z h).1
      -- some != []
      refine ⟨_, rfl, small20 (Nat.le_of_ble_eq_true rfl), fun p6 n6 => ?_⟩
      obtain ⟨H6, g6, e6, q6, a6, hq6⟩ := newK n6 q5 (o := _)
      rw [hq6]
      have eD6 : H6 D = some (.lst (zs.map V.str)) := g6 _ _ eD
      have k06 : Ka a H H6 := k05.trans (Ka.of g6)
      -- what stands at the end
      have fin : ∀ (vs : List V) (ds : List PyData) (H7 : Hp) (x7 c7 : Int) (s4 : Option V), H7 D = some (.lst vs) → DaAll (hid a H7) vs ds → (∀ e ∈ ds, okB e = true) → ds.length ≤ 4 → Pot H7 a x7 b c7 → c ≤ c7 → c7 ≤ c + 100 → Ka a H H7 →
          tRet (tIf (tTest (tOp rEq (tVar 1) (tC (.int 2)))) (tVar 2) (tCB (fun xs H Q => ∃ p ys, xs = [.ref p] ∧ ((SqL K H p ys ∧ ∀ l, H l = none → Q (.ref l) (upd H l (.tup ys))) ∨ (SqT K H p ys ∧ Q (.ref p) H))) (tCons (tVar 2) tNil))) { nx := fun _ H' => Q .non H', rt := Q } [some (.ref a), some (.int r1), some (.ref D), s4] H7 := by
        intro vs ds H7 x7 c7 s4 e7 d7 o7 l7 q7 m1 m2 k7
        refine ⟨_, rfl, rfl, _, rfl, ?_⟩
        refine ite2 (fun w2 => ?_) (fun w2 => ?_)
        · refine ⟨_, rfl, ?_⟩
          exact q _ (.list ds) H7 x7 c7 (.lst (hid_of e7 aD) d7) (okT_list o7 l7) q7 m1 m2 k7
        · refine ⟨_, rfl, D, vs, rfl, .inl ⟨.inl (.inl e7), fun l nl => ?_⟩⟩
          obtain ⟨H8, g8, e8, q8, a8, hq8⟩ := newK nl q7 (o := _)
          rw [hq8]
          exact q _ (.tuple ds) H8 x7 c7 (.tup (hid_of e8 a8) (Ka.daAll (Ka.of g8) d7)) (okT_tuple o7 l7) q8 m1 m2 (k7.trans (Ka.of g8))
      have ok0 : ∀ e ∈ zs.map PyData.str, okB e = true := fun e he => by
        obtain ⟨z, hz1, rfl⟩ := List.mem_map.mp he
        exact okB_str (hzs z hz1).1 (hzs z hz1).2
      refine ⟨.list (zs.map PyData.str), .list [], .lst (.inl (.inl eD6)) (dp_strs zs), .lst (.inl (.inl e6)) .nil, shaped_strs hx, by decide, _, rfl, ?_⟩
      refine ite2 (fun ne => ?_) (fun ne => ?_)
      · -- dip(6) == 0
        refine ⟨_, rfl, a, _, b, _, _, rfl, q6, hb, ⟨by omega, by omega⟩, ⟨by decide, by decide⟩, fun x7 c7 r7 m1 m2 m3 m4 => ?_⟩
        obtain ⟨H7, q7, k7, hqH7⟩ := potH (a := a) x7 b c7 (H := _)
        rw [hqH7]
        have eD7 := k7 _ _ aD eD6
        have k07 : Ka a H H7 := k06.trans k7
        refine ⟨rfl, _, rfl, ?_⟩
        refine ite2 (fun z0 => ?_) (fun z0 => ?_)
        · -- some[dip(len(some))] = odd(pot)
          have hpos : 0 < zs.length := by
            cases zs with
            | nil => exact absurd ne (by decide)
            | cons _ _ => exact Nat.succ_pos _
          refine ⟨_, rfl, a, _, b, _, rfl, q7, hb, ⟨by omega, by omega⟩, fun v d H8 x8 c8 h1 h2 h3 h4 h5 h6 => ?_⟩
          have eD8 := h6 _ _ aD eD7
          refine ⟨_, rfl, _, rfl, _, rfl, D, _, rfl, .inl (.inl (.inl eD8)), ?_⟩
          refine ⟨a, _, b, _, _, rfl, h3, hb, ⟨by omega, by omega⟩, ⟨by rw [List.length_map]; omega, by rw [List.length_map]; omega⟩, fun x9 c9 r9 j1 j2 j3 j4 => ?_⟩
          obtain ⟨H9, q9, k9, hqH9⟩ := potH (a := a) x9 b c9 (H := _)
          rw [hqH9]
          have eD9 := k9 _ _ aD eD8
          rw [List.length_map] at j4
          have hix : ixN (zs.map V.str).length r9 = some r9.toNat := by
            have e9 : r9 = ((r9.toNat : Nat) : Int) := by omega
            have := ixN_at (n := (zs.map V.str).length) (j := r9.toNat) (by rw [List.length_map]; omega)
            rw [← e9] at this
            exact this
          refine ⟨D, _, r9, r9.toNat, rfl, rfl, eD9, hix, ?_⟩
          have nD : ∀ o, H7 o = none → o ≠ D := fun o z e => by
            rw [e, eD7] at z
            cases z
          have dv : Da (hid a (upd H9 D (.lst ((zs.map V.str).set r9.toNat v)))) v d := frs_hid q7 (frs_da (fun o u no ho => by
            rw [upd_ne (nD o no)]
            exact k9 _ _ (fun z => by rw [z] at no; exact absurd (q7.symm.trans no) (by simp)) ho) h1)
          refine fin ((zs.map V.str).set r9.toNat v) ((zs.map PyData.str).set r9.toNat d) _ x9 c9 none upd_same (DaAll.set dv _ (da_strs zs)) (fun e he => ?_) (by rw [List.length_set, List.length_map]; omega) ?_ (by omega) (by omega) fun o u no ho => ?_
          · rcases List.mem_or_eq_of_mem_set he with he | he
            · exact ok0 e he
            · rw [he]
              exact h2
          · show (upd H9 D _) a = _
            rw [upd_ne aD.symm]
            exact q9
          · have hoD : o ≠ D := by
              intro z
              rw [z] at ho
              have h4D : H4 D = none := hD
              rw [k04 _ _ aD ho] at h4D
              cases h4D
            rw [upd_ne hoD]
            exact k9 _ _ no (h6 _ _ no (k07 _ _ no ho))
        · exact fin _ _ H7 x7 c7 none eD7 (da_strs zs) ok0 (by rw [List.length_map]; omega) q7 (by omega) (by omega) k07
      · exact itN (by decide) (fin _ _ H6 x5 c5 none eD6 (da_strs zs) ok0 (by rw [List.length_map]; omega) q6 (by omega) (by omega) k06)
end
end K01
set_option Elab.async false
set_option linter.all false
set_option maxRecDepth 100000
set_option maxHeartbeats 4000000
namespace K01
open PySem L2 Ld GxR
/-- all is kept but the pot and the table -/
def Kt (a T : Addr) (H H' : Hp) : Prop := ∀ b o, b ≠ a → b ≠ T → H b = some o → H' b = some o
theorem Kt.refl (a T : Addr) (H : Hp) : Kt a T H H := fun _ _ _ _ h => h
theorem Kt.trans {a T : Addr} {H H1 H2 : Hp} (x : Kt a T H H1) (y : Kt a T H1 H2) : Kt a T H H2 := fun b o n m h => y b o n m (x b o n m h)
theorem Kt.ka {a T : Addr} {H H1 : Hp} (x : Ka a H H1) : Kt a T H H1 := fun b o n _ h => x b o n h
theorem Kt.same {a T : Addr} {H H1 : Hp} (x : Same H H1) : Kt a T H H1 := fun b o _ _ h => x b o h
theorem Kt.tab {a T : Addr} {H H1 : Hp} (x : Tabbed T H H1) : Kt a T H H1 := fun b o _ m h => by rw [x.2 b m]; exact h
theorem TabG.ka {a T : Addr} {H H1 : Hp} {x b c : Int} (g : TabG H T) (p : Pot H a x b c) (k : Ka a H H1) : TabG H1 T := by
  obtain ⟨ps, h1, h2⟩ := g
  refine ⟨ps, k _ _ (fun z => ?_) h1, h2⟩
  have p' : H a = _ := p
  rw [← z, h1] at p'
  cases p'
theorem TabG.same {T : Addr} {H H1 : Hp} (g : TabG H T) (k : Same H H1) : TabG H1 T := by
  obtain ⟨ps, h1, h2⟩ := g
  exact ⟨ps, k _ _ h1, h2⟩
theorem Pot.tab {a T : Addr} {H H1 : Hp} {x b c : Int} (g : TabG H T) (p : Pot H a x b c) (t : Tabbed T H H1) : Pot H1 a x b c := Tabbed.keep g t _ _ p fun _ z => nomatch z
abbrev s_law : Stmt := topS 13
abbrev N_law : List Str := ["script", "k", "pot", "turn", "thing", "kept", "told", "one"]
theorem sc_law : FnScope N_law ["script"] (defScope s_law) := ⟨rfl, rfl, rfl, by decide +kernel, rfl, by decide +kernel, by decide +kernel⟩
theorem eqv_two (p q : Bool) : PyData.eqv (.list [.bool p, .bool q]) (.list [.bool p, .bool q]) = true := by cases p <;> cases q <;> rfl
section
variable {P : Program} {w : World} {K : PySem.W.Frag} {mg : Str → Option Value} {base : Heap}
theorem law_reads {f fP fTh fN fPl fLN fLP T sa : Addr} {cdv : Value} {fdP fdTh fdN fdPl fdLN fdLP : FuncData} {A : Around} {outer : List Env} {s : Shared} {H : Hp} {E : XK} {ns : List Int}
    (G__law_pot : FnOk P w K mg base CX0 1 fP fdP ["script", "k"] (spPot K)) (g__law_pot : mg "_law_pot" = some (.ref fP)) (k__law_pot : PySem.W.keepIn K (.ref fP) = true) (b__law_pot : Binds K fdP ["script", "k"] [])
    (G__law_thing : FnOk P w K mg base CX0 3 fTh fdTh ["pot"] spThing) (g__law_thing : mg "_law_thing" = some (.ref fTh)) (k__law_thing : PySem.W.keepIn K (.ref fTh) = true) (b__law_thing : Binds K fdTh ["pot"] [])
    (G_is_name : FnOk P w K mg base CX0 2 fN fdN ["thing"] (spName T)) (g_is_name : mg "is_name" = some (.ref fN)) (k_is_name : PySem.W.keepIn K (.ref fN) = true) (b_is_name : Binds K fdN ["thing"] [])
    (G_is_place : FnOk P w K mg base CX0 3 fPl fdPl ["thing"] (spPlace T)) (g_is_place : mg "is_place" = some (.ref fPl)) (k_is_place : PySem.W.keepIn K (.ref fPl) = true) (b_is_place : Binds K fdPl ["thing"] [])
    (G__law_is_name : FnOk P w K mg base CX0 1 fLN fdLN ["thing"] spLName) (g__law_is_name : mg "_law_is_name" = some (.ref fLN)) (k__law_is_name : PySem.W.keepIn K (.ref fLN) = true) (b__law_is_name : Binds K fdLN ["thing"] [])
    (G__law_is_place : FnOk P w K mg base CX0 2 fLP fdLP ["thing"] spLPlace) (g__law_is_place : mg "_law_is_place" = some (.ref fLP)) (k__law_is_place : PySem.W.keepIn K (.ref fLP) = true) (b__law_is_place : Binds K fdLP ["thing"] [])
    (z_range : mg "range" = none) (z_max : mg "max" = none) (z_min : mg "min" = none) (z_len : mg "len" = none) (z_repr : mg "repr" = none) (z_isinstance : mg "isinstance" = none) (z_bool : mg "bool" = none)
    (hr : Room 3 (A.deeper (PyProof.Rows.envOfC "law" (defScope s_law) s.heap.objs.size f cdv))) (hgA : A.guards = some []) (hT : TabG H T) (hS : SqL K H sa (ns.map V.int)) (hl : ns.length ≤ 63) :
    ∃ t, PSs (cxOf CX0 P w K mg base N_law "law" (defScope s_law) f cdv A outer s H E).nox (defBody s_law) t ∧ t { nx := fun _ H' => (fun (v : V) (_ : Hp) => v = .bl true) .non H', rt := fun v _ => v = .bl true } (L2.start N_law [.ref sa]) H := by
  have hu64 : (A.deeper (PyProof.Rows.envOfC "law" (defScope s_law) s.heap.objs.size f cdv)).units + 64 < cLine := hr.units
  have hgd : (A.deeper (PyProof.Rows.envOfC "law" (defScope s_law) s.heap.objs.size f cdv)).guards = some [] := hgA
  refine ⟨_, (pss_cons (ps_for PassesOwn.never rfl (pi_range1 (by rfl) z_range (pa_cons (pe_callB ((call_max2 rfl)) (by rfl) z_max (by decide +kernel) (pa_cons pe_int (pa_cons (pe_callB ((call_min2 rfl)) (by rfl) z_min (by decide +kernel) (pa_cons pe_int (pa_cons (pe_callB (call_len_seq) (by rfl) z_len (by decide +kernel) (pa_cons (pv 0) pa_nil)) pa_nil))) pa_nil))) pa_nil)) (pg_name (i := 1) sc_law.nd rfl (Or.inl rfl))
  (pss_cons (ps_set (i := 2) sc_law.nd rfl (Or.inl rfl) (pe_call G__law_pot (hr.mono (by decide)) (by rfl) g__law_pot k__law_pot b__law_pot .nil pass0 (pa_cons (pv 0) (pa_cons (pv 1) pa_nil))))
  (pss_one (ps_for PassesOwn.never rfl (pi_range1 (by rfl) z_range (pa_cons pe_int pa_nil)) (pg_name (i := 3) sc_law.nd rfl (Or.inl rfl))
  (pss_cons (ps_set (i := 4) sc_law.nd rfl (Or.inl rfl) (pe_call G__law_thing (hr.mono (by decide)) (by rfl) g__law_thing k__law_thing b__law_thing .nil pass0 (pa_cons (pv 2) pa_nil)))
  (pss_cons (ps_set (i := 5) sc_law.nd rfl (Or.inl rfl) (pe_callB (call_repr hu64 hgd) (by rfl) z_repr (by decide +kernel) (pa_cons (pv 4) pa_nil)))
  (pss_cons (ps_set (i := 6) sc_law.nd rfl (Or.inl rfl) (pe_lst (pa_cons (pe_call G_is_name (hr.mono (by decide)) (by rfl) g_is_name k_is_name b_is_name .nil pass0 (pa_cons (pv 4) pa_nil)) (pa_cons (pe_call G_is_place (hr.mono (by decide)) (by rfl) g_is_place k_is_place b_is_place .nil pass0 (pa_cons (pv 4) pa_nil)) pa_nil))))
  (pss_cons (ps_if (PW.pt (pw_or (pt_cmpR (op_neD hu64) (pv 6) (pe_lst (pa_cons (pe_call G__law_is_name (hr.mono (by decide)) (by rfl) g__law_is_name k__law_is_name b__law_is_name .nil pass0 (pa_cons (pv 4) pa_nil)) (pa_cons (pe_call G__law_is_place (hr.mono (by decide)) (by rfl) g__law_is_place k__law_is_place b__law_is_place .nil pass0 (pa_cons (pv 4) pa_nil)) pa_nil))) (nomark _)) (pw_or1 (pt_cmpR op_ne (pe_callB (call_repr hu64 hgd) (by rfl) z_repr (by decide +kernel) (pa_cons (pv 4) pa_nil)) (pv 5) (nomark _))))) (pss_one (ps_ret pe_bl)) pss_nil)
  (pss_one (ps_if (pt_cmpR (op_neD hu64) (pe_lc (own := [("one", 7)]) (g := gName 7) rfl sc_law.nd (pi_list (pv 6)) (blkOk_by (own := [("one", 7)]) (N := N_law) (sc := defScope s_law) (by decide +kernel)) (fun _ _ _ _ _ => pg_name (i := 7) sc_law.nd rfl (Or.inl rfl)) (fun _ _ _ _ _ => (pts_one (pt_not (pt_val (pe_callB (r := rIsi K) (id := "isinstance") (call_isi) (by rfl) z_isinstance (by decide +kernel) (pa_cons (pv 7) (pa_cons (pe_bltn (v := .ty "bool") (by rfl) z_bool (by decide +kernel) rfl) pa_nil))))))) (fun _ _ _ _ _ => (pv 7))) (pe_lst pa_nil) (nomark _)) (pss_one (ps_ret pe_bl)) pss_nil))))))))))
  (pss_one (ps_ret pe_bl))), ?_⟩
  -- range(max(1, min(20, len(script))))
  refine ⟨_, rfl, sa, _, rfl, .inl hS, _, _, rfl, _, _, rfl, ?_⟩
  have hnb : ∀ (n : Nat), (if (if (n : Int) < 20 then (n : Int) else 20) > 1 then (if (n : Int) < 20 then (n : Int) else 20) else 1) ≤ 20 ∧ 0 ≤ (if (if (n : Int) < 20 then (n : Int) else 20) > 1 then (if (n : Int) < 20 then (n : Int) else 20) else 1) := fun n => by
    split <;> split <;> omega
  obtain ⟨m1, m2⟩ := hnb (ns.map V.int).length
  generalize hM : (if (if ((ns.map V.int).length : Int) < 20 then ((ns.map V.int).length : Int) else 20) > 1 then (if ((ns.map V.int).length : Int) < 20 then ((ns.map V.int).length : Int) else 20) else 1) = M at m1 m2
  refine ⟨M, rfl, by omega, by omega, ?_⟩
  refine for_range (lo := 0) (n := M.toNat) (fun i σ H' => ∃ s1 s2 s3 s4 s5 s6 : Option V, σ = [some (.ref sa), s1, s2, s3, s4, s5, s6, none] ∧ TabG H' T ∧ SqL K H' sa (ns.map V.int))
    ⟨none, none, none, none, none, none, rfl, hT, hS⟩ ?_ ?_
  · rintro i σ H1 hi ⟨s1, s2, s3, s4, s5, s6, rfl, hT1, hS1⟩
    -- pot = _law_pot(script, k)
    refine ⟨_, rfl, _, rfl, sa, ns, _, rfl, hS1, ⟨by omega, by omega⟩, fun a x b na hb0 hb1 => ?_⟩
    obtain ⟨H2, g2, e2, hq2⟩ := newH na (o := _)
    rw [hq2]
    have q2 : Pot H2 a x b 0 := e2
    have hb : 0 ≤ b ∧ b < 2 ^ 200 := ⟨hb0, hb1⟩
    have hT2 : TabG H2 T := TabG.same hT1 g2
    -- for turn in range(8)
    refine ⟨8, rfl, by decide, by decide, ?_⟩
    refine for_range (lo := 0) (n := 8) (fun j σ H' => ∃ (s3 s4 s5 s6 : Option V) (x' c' : Int), σ = [some (.ref sa), some (.int (0 + (i : Int))), some (.ref a), s3, s4, s5, s6, none] ∧ TabG H' T ∧ Pot H' a x' b c' ∧ 0 ≤ c' ∧ c' ≤ 100 * (j : Int) ∧ Kt a T H2 H')
      ⟨s3, s4, s5, s6, x, 0, rfl, hT2, q2, by omega, by omega, Kt.refl _ _ _⟩ ?_ ?_
    · rintro j σ H3 hj ⟨s3, s4, s5, s6, x3, c3, rfl, hT3, q3, hc0, hc1, k3⟩
      -- thing, kept
      refine ⟨_, rfl, a, x3, b, c3, rfl, q3, hb, ⟨hc0, by omega⟩, fun v d H4 x4 c4 da4 okd q4 h1 h2 k4 => ?_⟩
      have hT4 : TabG H4 T := TabG.ka hT3 q3 k4
      refine ⟨_, rfl, v, d, rfl, da_hid da4, okT.sm okd, ?_⟩
      -- told
      have hw := okT.w okd
      refine ⟨_, rfl, v, d, rfl, da_hid da4, hw, hT4, fun H5 t5 => ?_⟩
      have kp5 := Tabbed.keep hT4 t5
      have da5 : Da H5 v d := (da_hid da4).keep kp5
      refine ⟨_, rfl, v, d, rfl, da5, hw, t5.1, fun H6 t6 => ?_⟩
      have da6 : Da H6 v d := da5.keep (Tabbed.keep t5.1 t6)
      have q6 : Pot H6 a x4 b c4 := Pot.tab t5.1 (Pot.tab hT4 q4 t5) t6
      refine ⟨small20 (Nat.le_of_ble_eq_true rfl), fun p n => ?_⟩
      obtain ⟨H7, g7, e7, q7, a7, hq7⟩ := newK n q6 (o := _)
      rw [hq7]
      have da7 : Da H7 v d := Same.da g7 da6
      -- told != [..]
      have tx := okT.tx okd
      refine ⟨_, rfl, _, rfl, v, d, rfl, da7, hw, tx.1, fun H8 g8 => ?_⟩
      have da8 : Da H8 v d := Same.da g8 da7
      refine ⟨_, rfl, v, d, rfl, da8, hw, tx, fun H9 g9 => ?_⟩
      have da9 : Da H9 v d := Same.da g9 da8
      refine ⟨small20 (Nat.le_of_ble_eq_true rfl), fun p10 n10 => ?_⟩
      obtain ⟨H10, g10, e10, hq10⟩ := newH n10 (o := _)
      rw [hq10]
      have g710 : Same H7 H10 := (g8.trans g9).trans g10
      have e7' := g710 _ _ e7
      refine ⟨.list [.bool (nameD d), .bool (placeD d)], .list [.bool (nameD d), .bool (placeD d)], .lst (.inl (.inl e7')) (.cons (.bl _) (.cons (.bl _) .nil)), .lst (.inl (.inl e10)) (.cons (.bl _) (.cons (.bl _) .nil)), by rfl, by rfl, _, rfl, ?_⟩
      refine itN (by rw [eqv_two]; decide) ?_
      -- repr(thing) != kept
      refine ⟨_, rfl, v, d, rfl, Same.da g10 da9, okT.sm okd, _, rfl, rfl, _, rfl, ?_⟩
      refine itN (by simp) ?_
      -- [one for one in told if not isinstance(one, bool)] != []
      refine ⟨_, rfl, p, rfl, ⟨_, .inl (.inl e7')⟩, fun D hD => ?_⟩
      refine lc_list (K := K) (a := p) (xs := [.bl (nameD d), .bl (placeD d)]) (fun i H' => Same H10 H' ∧ H10 D = none ∧ H' D = some (.lst [])) ⟨same_upd hD, hD, upd_same⟩ (fun i H' _ hP => .inl (.inl (hP.1 _ _ e7'))) (fun i y H' hy hP => ?_) fun H' hP => ?_
      · obtain ⟨bv, rfl⟩ : ∃ bv, y = .bl bv := by
          match i, hy with
          | 0, hy => exact ⟨_, (Option.some.inj hy).symm⟩
          | 1, hy => exact ⟨_, (Option.some.inj hy).symm⟩
          | i + 2, hy => simp at hy
        refine ⟨rfl, _, rfl, _, _, _, _, _, rfl, .ty "bool", .base (.bl bv), kit_bool .bool, _, rfl, ?_⟩
        exact itN (by decide) hP
      · obtain ⟨p1, p2, p3⟩ := hP
        refine ⟨Nat.zero_le _, fun p11 n11 => ?_⟩
        obtain ⟨H11, g11, e11, hq11⟩ := newH n11 (o := _)
        rw [hq11]
        refine ⟨.list [], .list [], .lst (.inl (.inl (g11 _ _ p3))) .nil, .lst (.inl (.inl e11)) .nil, by decide, by decide, _, rfl, ?_⟩
        refine itN (by decide) ?_
        have g7e : Same H7 H11 := (g710.trans p1).trans g11
        have kk : Kt a T H3 H11 := (Kt.ka k4).trans (((Kt.tab t5).trans (Kt.tab t6)).trans ((Kt.same g7).trans (Kt.same g7e)))
        exact ⟨_, _, _, _, x4, c4, rfl, TabG.same (TabG.same t6.1 g7) g7e, Same.pot g7e q7, by omega, by omega, k3.trans kk⟩
    · rintro σ H3 ⟨s3, s4, s5, s6, x3, c3, rfl, hT3, q3, hc0, hc1, k3⟩
      refine ⟨_, _, _, _, _, _, rfl, hT3, ?_⟩
      have nT : ∀ u, H2 sa = some u → (∀ ps, u ≠ .tbl ps) → sa ≠ T := fun u e z y => by
        obtain ⟨ps, h1, _⟩ := hT2
        rw [y, h1] at e
        exact z ps (Option.some.inj e).symm
      rcases hS1 with (h | ⟨o, h⟩) | h
      · exact .inl (.inl (k3 _ _ (ne_of_none h na) (nT _ (g2 _ _ h) fun _ z => nomatch z) (g2 _ _ h)))
      · exact .inl (.inr ⟨o, k3 _ _ (ne_of_none h na) (nT _ (g2 _ _ h) fun _ z => nomatch z) (g2 _ _ h)⟩)
      · exact .inr h
  · rintro σ H1 ⟨s1, s2, s3, s4, s5, s6, rfl, hT1, hS1⟩
    rfl
end
end K01
set_option Elab.async false
set_option linter.all false
set_option maxRecDepth 100000
set_option maxHeartbeats 4000000
namespace K01
open PySem L2 Ld GxR
theorem walk {l : PySem.W.OpenLaw} {q : Program} {loose : List Str} {XP : (Str → Option Value) → Heap → Prop} {YP : World → Heap → Prop} {d : DefRec} {K : Params → PySem.W.Frag} (hn : l.most = some 63) (hdf : d.params.defaults = [])
    (hrec : ((PyProof.Rows.recsOf q).find? fun e => e.name == ("is_name" : Str)).isSome = true) (hY : ∀ (w : World) (h : Heap), YP w h → (K w.params).In h)
    (F : ∀ (w : World) (mg : Str → Option Value) (fa : Addr) (h : Heap), (K w.params).In h → h.Ns mainGlobals mg → mg d.name = some (.ref fa) →
      ∃ c T : Addr, PySem.W.tabIn (K w.params) "is_name" = some (c, T) ∧ (K w.params).lookup T = none ∧ ∀ (a : Addr) (ns : List Int) (s : Shared), ns.length ≤ 63 → RunsTrue l.prog w (K w.params) mg fa a c T ns s) :
    PySem.W.WalkO q loose XP YP l.row.toRowW d [] (fun f vs => PySem.call f vs) := by
  refine Att.attach_callB hn hdf fun w s0 s1 mg mb fa o pm cd doc a vs ns G Y ho hd hcd hmg hobj hints hlen hbits hg => ?_
  have KX := hY w _ Y
  obtain ⟨c, T, ht, nT, R⟩ := F w mg fa _ KX G.T.g hmg
  obtain ⟨d', hr⟩ := Option.isSome_iff_exists.mp hrec
  obtain ⟨C, hT⟩ := PySem.W.tab_of G.T KX hr ht
  exact run_of_true KX G.T.g G.T.b G.T.builtins G.T.nolimit hg hT nT C G.T.bmain hobj hints (Nat.le_trans hlen (by decide)) (R a ns _ hlen)

theorem all_mk {P : Program} {w : World} {K : PySem.W.Frag} {h : Heap} {mg : Str → Option Value} {fa c T f0 f1 f2 f3 f4 f5 f6 f7 f8 f9 f10 : Addr} (X : K.In h) (G : h.Ns mainGlobals mg) (hfa : mg "law" = some (.ref fa))
    {od0 an0 od1 an1 od2 an2 od3 an3 od4 an4 od5 an5 od6 an6 od7 an7 od8 an8 od9 an9 od10 an10 : Option Addr} {sl0 sl1 sl2 sl3 sl4 sl5 sl6 sl7 sl8 sl9 sl10 : Array (Option Value)} {oc0 kV0 dc0 pm0 ct0 oc1 kV1 dc1 pm1 ct1 cd1 oc2 kV2 dc2 pm2 ct2 cd2 oc3 kV3 dc3 pm3 ct3 cd3 oc4 kV4 dc4 pm4 ct4 cd4 oc5 kV5 dc5 pm5 ct5 cd5 oc6 kV6 dc6 pm6 ct6 cd6 oc7 kV7 dc7 pm7 ct7 cd7 oc8 kV8 dc8 pm8 ct8 cd8 oc9 kV9 dc9 pm9 ct9 cd9 oc10 kV10 dc10 pm10 ct10 cd10 : Value}
    (a0 : PySem.W.nsIn K mainGlobals "is_name" = some (some (.ref f0))) (l0 : K.lookup f0 = some ⟨oc0, od0, .func (PySem.W.fnOf "is_name" "is_name" (defArgs s_is_name) (defBody s_is_name) (defScope s_is_name) .none kV0 dc0 pm0 an0 (.ref c) ct0), sl0⟩) (c0 : PySem.W.codeIn K (.ref c) "is_name" = true) (k0 : PySem.W.keepIn K (.ref f0) = true)
    (a1 : PySem.W.nsIn K mainGlobals "are_small_letters" = some (some (.ref f1))) (l1 : K.lookup f1 = some ⟨oc1, od1, .func (PySem.W.fnOf "are_small_letters" "are_small_letters" (defArgs s_are_small_letters) (defBody s_are_small_letters) (defScope s_are_small_letters) .none kV1 dc1 pm1 an1 cd1 ct1), sl1⟩) (c1 : PySem.W.codeIn K cd1 "are_small_letters" = true) (k1 : PySem.W.keepIn K (.ref f1) = true)
    (a2 : PySem.W.nsIn K mainGlobals "is_place" = some (some (.ref f2))) (l2 : K.lookup f2 = some ⟨oc2, od2, .func (PySem.W.fnOf "is_place" "is_place" (defArgs s_is_place) (defBody s_is_place) (defScope s_is_place) .none kV2 dc2 pm2 an2 cd2 ct2), sl2⟩) (c2 : PySem.W.codeIn K cd2 "is_place" = true) (k2 : PySem.W.keepIn K (.ref f2) = true)
    (a3 : PySem.W.nsIn K mainGlobals "_law_pot" = some (some (.ref f3))) (l3 : K.lookup f3 = some ⟨oc3, od3, .func (PySem.W.fnOf "_law_pot" "_law_pot" (defArgs s__law_pot) (defBody s__law_pot) (defScope s__law_pot) .none kV3 dc3 pm3 an3 cd3 ct3), sl3⟩) (c3 : PySem.W.codeIn K cd3 "_law_pot" = true) (k3 : PySem.W.keepIn K (.ref f3) = true)
    (a4 : PySem.W.nsIn K mainGlobals "_law_dip" = some (some (.ref f4))) (l4 : K.lookup f4 = some ⟨oc4, od4, .func (PySem.W.fnOf "_law_dip" "_law_dip" (defArgs s__law_dip) (defBody s__law_dip) (defScope s__law_dip) .none kV4 dc4 pm4 an4 cd4 ct4), sl4⟩) (c4 : PySem.W.codeIn K cd4 "_law_dip" = true) (k4 : PySem.W.keepIn K (.ref f4) = true)
    (a5 : PySem.W.nsIn K mainGlobals "_law_odd" = some (some (.ref f5))) (l5 : K.lookup f5 = some ⟨oc5, od5, .func (PySem.W.fnOf "_law_odd" "_law_odd" (defArgs s__law_odd) (defBody s__law_odd) (defScope s__law_odd) .none kV5 dc5 pm5 an5 cd5 ct5), sl5⟩) (c5 : PySem.W.codeIn K cd5 "_law_odd" = true) (k5 : PySem.W.keepIn K (.ref f5) = true)
    (a6 : PySem.W.nsIn K mainGlobals "_law_is_name" = some (some (.ref f6))) (l6 : K.lookup f6 = some ⟨oc6, od6, .func (PySem.W.fnOf "_law_is_name" "_law_is_name" (defArgs s__law_is_name) (defBody s__law_is_name) (defScope s__law_is_name) .none kV6 dc6 pm6 an6 cd6 ct6), sl6⟩) (c6 : PySem.W.codeIn K cd6 "_law_is_name" = true) (k6 : PySem.W.keepIn K (.ref f6) = true)
    (a7 : PySem.W.nsIn K mainGlobals "_law_is_place" = some (some (.ref f7))) (l7 : K.lookup f7 = some ⟨oc7, od7, .func (PySem.W.fnOf "_law_is_place" "_law_is_place" (defArgs s__law_is_place) (defBody s__law_is_place) (defScope s__law_is_place) .none kV7 dc7 pm7 an7 cd7 ct7), sl7⟩) (c7 : PySem.W.codeIn K cd7 "_law_is_place" = true) (k7 : PySem.W.keepIn K (.ref f7) = true)
    (a8 : PySem.W.nsIn K mainGlobals "_law_text" = some (some (.ref f8))) (l8 : K.lookup f8 = some ⟨oc8, od8, .func (PySem.W.fnOf "_law_text" "_law_text" (defArgs s__law_text) (defBody s__law_text) (defScope s__law_text) .none kV8 dc8 pm8 an8 cd8 ct8), sl8⟩) (c8 : PySem.W.codeIn K cd8 "_law_text" = true) (k8 : PySem.W.keepIn K (.ref f8) = true)
    (a9 : PySem.W.nsIn K mainGlobals "_law_thing" = some (some (.ref f9))) (l9 : K.lookup f9 = some ⟨oc9, od9, .func (PySem.W.fnOf "_law_thing" "_law_thing" (defArgs s__law_thing) (defBody s__law_thing) (defScope s__law_thing) .none kV9 dc9 pm9 an9 cd9 ct9), sl9⟩) (c9 : PySem.W.codeIn K cd9 "_law_thing" = true) (k9 : PySem.W.keepIn K (.ref f9) = true)
    (a10 : PySem.W.nsIn K mainGlobals "law" = some (some (.ref f10))) (l10 : K.lookup f10 = some ⟨oc10, od10, .func (PySem.W.fnOf "law" "law" (defArgs s_law) (defBody s_law) (defScope s_law) .none kV10 dc10 pm10 an10 cd10 ct10), sl10⟩) (c10 : PySem.W.codeIn K cd10 "law" = true) (k10 : PySem.W.keepIn K (.ref f10) = true)
    (z_type : PySem.W.nsIn K mainGlobals "type" = some none)
    (z_str : PySem.W.nsIn K mainGlobals "str" = some none)
    (z_tuple : PySem.W.nsIn K mainGlobals "tuple" = some none)
    (z_len : PySem.W.nsIn K mainGlobals "len" = some none)
    (z_isinstance : PySem.W.nsIn K mainGlobals "isinstance" = some none)
    (z_bool : PySem.W.nsIn K mainGlobals "bool" = some none)
    (z_max : PySem.W.nsIn K mainGlobals "max" = some none)
    (z_min : PySem.W.nsIn K mainGlobals "min" = some none)
    (z_range : PySem.W.nsIn K mainGlobals "range" = some none)
    (z_repr : PySem.W.nsIn K mainGlobals "repr" = some none)
    {co : Value} {cdd : Option Addr} {cvs : Array Value} {csl : Array (Option Value)} (lc : K.lookup c = some ⟨co, cdd, .fields cvs, csl⟩) (hv : cvs[11]? = some (.ref T)) (nT : K.lookup T = none) :
    ∃ c T : Addr, PySem.W.tabIn K "is_name" = some (c, T) ∧ K.lookup T = none ∧ ∀ (a : Addr) (ns : List Int) (s : Shared), ns.length ≤ 63 → RunsTrue P w K mg fa a c T ns s := by
  have e := hfa.symm.trans (PySem.W.mg_of X G a10)
  cases e
  have F0 := fun_mk (st := s_is_name) l0 c0 k0
  have b0 : Binds K _ ["thing"] [] := Binds.all (fd := PySem.W.fnOf "is_name" "is_name" (defArgs s_is_name) (defBody s_is_name) (defScope s_is_name) .none kV0 dc0 pm0 an0 (.ref c) ct0) fun us hl => match us, hl with | [_], _ => rfl
  have F1 := fun_mk (st := s_are_small_letters) l1 c1 k1
  have b1 := F1.binds (ps := ["text"]) fun _ _ _ _ _ _ us hl => match us, hl with | [_], _ => rfl
  have F2 := fun_mk (st := s_is_place) l2 c2 k2
  have b2 := F2.binds (ps := ["thing"]) fun _ _ _ _ _ _ us hl => match us, hl with | [_], _ => rfl
  have F3 := fun_mk (st := s__law_pot) l3 c3 k3
  have b3 := F3.binds (ps := ["script", "k"]) fun _ _ _ _ _ _ us hl => match us, hl with | [_, _], _ => rfl
  have F4 := fun_mk (st := s__law_dip) l4 c4 k4
  have b4 := F4.binds (ps := ["pot", "many"]) fun _ _ _ _ _ _ us hl => match us, hl with | [_, _], _ => rfl
  have F5 := fun_mk (st := s__law_odd) l5 c5 k5
  have b5 := F5.binds (ps := ["pot"]) fun _ _ _ _ _ _ us hl => match us, hl with | [_], _ => rfl
  have F6 := fun_mk (st := s__law_is_name) l6 c6 k6
  have b6 := F6.binds (ps := ["thing"]) fun _ _ _ _ _ _ us hl => match us, hl with | [_], _ => rfl
  have F7 := fun_mk (st := s__law_is_place) l7 c7 k7
  have b7 := F7.binds (ps := ["thing"]) fun _ _ _ _ _ _ us hl => match us, hl with | [_], _ => rfl
  have F8 := fun_mk (st := s__law_text) l8 c8 k8
  have b8 := F8.binds (ps := ["pot"]) fun _ _ _ _ _ _ us hl => match us, hl with | [_], _ => rfl
  have F9 := fun_mk (st := s__law_thing) l9 c9 k9
  have b9 := F9.binds (ps := ["pot"]) fun _ _ _ _ _ _ us hl => match us, hl with | [_], _ => rfl
  have F10 := fun_mk (st := s_law) l10 c10 k10
  have g0 := PySem.W.mg_of X G a0
  have g1 := PySem.W.mg_of X G a1
  have g2 := PySem.W.mg_of X G a2
  have g3 := PySem.W.mg_of X G a3
  have g4 := PySem.W.mg_of X G a4
  have g5 := PySem.W.mg_of X G a5
  have g6 := PySem.W.mg_of X G a6
  have g7 := PySem.W.mg_of X G a7
  have g8 := PySem.W.mg_of X G a8
  have g9 := PySem.W.mg_of X G a9
  have y_type := PySem.W.mg_none_of X G z_type
  have y_str := PySem.W.mg_none_of X G z_str
  have y_tuple := PySem.W.mg_none_of X G z_tuple
  have y_len := PySem.W.mg_none_of X G z_len
  have y_isinstance := PySem.W.mg_none_of X G z_isinstance
  have y_bool := PySem.W.mg_none_of X G z_bool
  have y_max := PySem.W.mg_none_of X G z_max
  have y_min := PySem.W.mg_none_of X G z_min
  have y_range := PySem.W.mg_none_of X G z_range
  have y_repr := PySem.W.mg_none_of X G z_repr
  have ht : PySem.W.tabIn K "is_name" = some (c, T) := by
    unfold PySem.W.tabIn
    rw [a0]
    dsimp only
    rw [l0]
    dsimp only [PySem.W.fnOf]
    rw [lc]
    dsimp only
    rw [hv]
  refine ⟨c, T, ht, nT, fun a ns s hl base H KB GB TB e0 hT hS => ?_⟩
  have G4 := ok_dip (P := P) (w := w) (mg := mg) (base := base) F4
  have G1 := ok_are_small_letters (P := P) (w := w) (mg := mg) (base := base) F1
  have G0 := ok_is_name (P := P) (w := w) (T := T) F0 G1 g1 k1 b1 y_type y_str y_len
  have G2 := ok_is_place F2 G0 g0 k0 b0 y_type y_tuple y_len
  have G6 := ok__law_is_name (P := P) (w := w) (base := base) F6 y_isinstance y_str y_len
  have G7 := ok__law_is_place F7 G6 g6 k6 b6 y_isinstance y_tuple y_len
  have G3 := ok__law_pot (P := P) (w := w) (base := base) F3 y_len y_max
  have G5 := ok__law_odd F5 G4 g4 k4 b4 y_len
  have G8 := ok__law_text F8 G4 g4 k4 b4 y_len y_range
  have G9 := ok__law_thing F9 G4 g4 k4 b4 G5 g5 k5 b5 G8 g8 k8 b8 y_len y_range y_tuple
  refine LamX.run_ofS (N := N_law) (ps := ["script"]) (us := [.ref a]) (vs := [.ref a]) l10 c10 sc_law (k := 3) ⟨rfl, by decide, by decide⟩ e0 (.of_eq rfl) (.cons rfl .nil) rfl fun hr => ?_
  obtain ⟨t, ht1, ht2⟩ := law_reads (E := fun _ _ _ => False) G3 g3 k3 b3 G9 g9 k9 b9 G0 g0 k0 b0 G2 g2 k2 b2 G6 g6 k6 b6 G7 g7 k7 b7 y_range y_max y_min y_len y_repr y_isinstance y_bool hr rfl ⟨#[], hT, by first | trivial | decide | rfl⟩ hS hl
  exact ⟨t, ht1.nox, ht2⟩
end K01
open PySem PySem.W PyProof.Rows
set_option maxRecDepth 100000 in
set_option maxHeartbeats 0 in
theorem PySem.Challenge.cw_leanfar_k01_names_and_places_holds : PySem.Challenge.rw_leanfar_k01_names_and_places.Holds := by
  w_on; o_law; k_head; (case hw => w_witness2)
  k_fill
  refine K01.walk (l := PySem.Challenge.rw_leanfar_k01_names_and_places) rfl rfl ?hrec (fun w h Y => PySem.W.kIn_of Y) ?F
  case hrec => decide +kernel
  case F =>
    intro w mg fa h KX G hmg
    refine' K01.all_mk KX G hmg ?a0 ?l0 ?c0 ?k0 ?a1 ?l1 ?c1 ?k1 ?a2 ?l2 ?c2 ?k2 ?a3 ?l3 ?c3 ?k3 ?a4 ?l4 ?c4 ?k4 ?a5 ?l5 ?c5 ?k5 ?a6 ?l6 ?c6 ?k6 ?a7 ?l7 ?c7 ?k7 ?a8 ?l8 ?c8 ?k8 ?a9 ?l9 ?c9 ?k9 ?a10 ?l10 ?c10 ?k10 ?z_type ?z_str ?z_tuple ?z_len ?z_isinstance ?z_bool ?z_max ?z_min ?z_range ?z_repr ?lc ?hv ?nT
    (case a0 => k_is); (case l0 => k_is); (case c0 => k_is); (case k0 => k_is)
    (case a1 => k_is); (case l1 => k_is); (case c1 => k_is); (case k1 => k_is)
    (case a2 => k_is); (case l2 => k_is); (case c2 => k_is); (case k2 => k_is)
    (case a3 => k_is); (case l3 => k_is); (case c3 => k_is); (case k3 => k_is)
    (case a4 => k_is); (case l4 => k_is); (case c4 => k_is); (case k4 => k_is)
    (case a5 => k_is); (case l5 => k_is); (case c5 => k_is); (case k5 => k_is)
    (case a6 => k_is); (case l6 => k_is); (case c6 => k_is); (case k6 => k_is)
    (case a7 => k_is); (case l7 => k_is); (case c7 => k_is); (case k7 => k_is)
    (case a8 => k_is); (case l8 => k_is); (case c8 => k_is); (case k8 => k_is)
    (case a9 => k_is); (case l9 => k_is); (case c9 => k_is); (case k9 => k_is)
    (case a10 => k_is); (case l10 => k_is); (case c10 => k_is); (case k10 => k_is)
    (case z_type => k_is); (case z_str => k_is); (case z_tuple => k_is); (case z_len => k_is); (case z_isinstance => k_is); (case z_bool => k_is); (case z_max => k_is); (case z_min => k_is); (case z_range => k_is); (case z_repr => k_is)
    (case lc => k_is); (case hv => rfl); (case nT => first | k_is | rfl | kernel_rfl)
