import PyProof.Rows.All
import Wide.All
import OpenK.AllK
import Wide.FinOn
import Lean
import PyProof.EqAt
import PyProof.EqKinds
import PyProof.TupleCall
import PySem.Challenge.RW_plustables_k13_whole_none_greater
set_option Elab.async false
set_option linter.all false
set_option maxRecDepth 100000
set_option maxHeartbeats 4000000
set_option compiler.extract_closed false
namespace Internal
-- CHANGE: your row's module here, as the last of these rows
set_option Elab.async false
set_option linter.all false
set_option maxRecDepth 100000
namespace L2
open PySem PySem.Spec PyProof.Rows
noncomputable abbrev Key := Sum Int Str
noncomputable def keyIs : Key → Value → Bool
  | .inl k, v => Value.isInt k v
  | .inr x, v => Value.isStrOf x v
noncomputable def keyH (w : World) : Key → Int
  | .inl k => hashInt k
  | .inr x => hashStr w x
theorem keyIs_shape : ∀ {k : Key} {v : Value}, keyIs k v = true → (∃ i t, k = Sum.inl i ∧ v = Value.int i t) ∨ (∃ x t, k = Sum.inr x ∧ v = Value.str x t)
  | .inl i, v, h => by
    obtain ⟨t, e⟩ := Value.isInt_shape (k := i) (v := v) h
    exact .inl ⟨i, t, rfl, e⟩
  | .inr x, v, h => by
    obtain ⟨t, e⟩ := Value.isStrOf_shape (x := x) (v := v) h
    exact .inr ⟨x, t, rfl, e⟩
theorem key_ll (a b : Int) : decide ((Sum.inl a : Key) = Sum.inl b) = (a == b) := by
  by_cases e : a = b
  · subst e; simp
  · have h : ¬ (Sum.inl a : Key) = Sum.inl b := fun q => e (Sum.inl.inj q)
    rw [decide_eq_false h]
    exact (beq_eq_false_iff_ne.mpr e).symm
theorem key_rr (a b : Str) : decide ((Sum.inr a : Key) = Sum.inr b) = decide (a = b) := by
  by_cases e : a = b
  · subst e; simp
  · have h : ¬ (Sum.inr a : Key) = Sum.inr b := fun q => e (Sum.inr.inj q)
    rw [decide_eq_false h, decide_eq_false e]
theorem key_lr (a : Int) (b : Str) : decide ((Sum.inl a : Key) = Sum.inr b) = false := decide_eq_false (fun q => nomatch q)
theorem key_rl (a : Str) (b : Int) : decide ((Sum.inr a : Key) = Sum.inl b) = false := decide_eq_false (fun q => nomatch q)
noncomputable def mixKind (prog : Program) (w : World) : PySem.KeyKind prog w Key where
  is := keyIs
  hash := keyH w
  inj := fun v a b ha hb => by
    rcases keyIs_shape ha with ⟨i, t, rfl, rfl⟩ | ⟨x, t, rfl, rfl⟩
    · rcases keyIs_shape hb with ⟨j, u, rfl, e⟩ | ⟨y, u, rfl, e⟩
      · injection e with e1 _; rw [e1]
      · exact nomatch e
    · rcases keyIs_shape hb with ⟨j, u, rfl, e⟩ | ⟨y, u, rfl, e⟩
      · exact nomatch e
      · injection e with e1 _; rw [e1]
  byValue := fun k v h => by
    rcases keyIs_shape h with ⟨i, t, rfl, rfl⟩ | ⟨x, t, rfl, rfl⟩ <;> rfl
  pyHash := fun hv h => by
    rcases keyIs_shape hv with ⟨i, t, rfl, rfl⟩ | ⟨x, t, rfl, rfl⟩
    · exact wpAny_pyHash_int h
    · exact wpAny_pyHash_str h
  eqBool := fun hu hv h => by
    rcases keyIs_shape hu with ⟨i, t, rfl, rfl⟩ | ⟨x, t, rfl, rfl⟩
    · rcases keyIs_shape hv with ⟨j, u, rfl, rfl⟩ | ⟨y, u, rfl, rfl⟩
      · rw [key_ll] at h; exact wpAny_eqBool_int h
      · rw [key_lr] at h; exact SeqAt.EqAt.int_str i t y u _ _ _ _ h
    · rcases keyIs_shape hv with ⟨j, u, rfl, rfl⟩ | ⟨y, u, rfl, rfl⟩
      · rw [key_rl] at h; exact SeqAt.EqAt.str_int x t j u _ _ _ _ h
      · rw [key_rr] at h; exact wpAny_eqBool_str h
  «strs» := fun k x t v h => by
    rcases keyIs_shape h with ⟨i, u, rfl, e⟩ | ⟨y, u, rfl, e⟩
    · exact nomatch e
    · injection e with e1 _
      subst e1
      cases v <;> rfl
end L2
namespace L2
open PySem PySem.Spec PyProof.Rows
inductive V where
  | non | bl (b : Bool) | int (i : Int) | str (x : Str) | byt (b : Array UInt8) | flt (b : UInt64) | ref (a : Addr) | ty (n : String)
  deriving DecidableEq
noncomputable def RelV : V → Value → Prop
  | .non, u => u = Value.none
  | .bl b, u => u = Value.bool b
  | .int i, u => ∃ t, u = Value.int i t
  | .str x, u => ∃ t, u = Value.str x t
  | .byt b, u => ∃ t, u = Value.bytes b t
  | .flt b, u => ∃ t, u = Value.float b t
  | .ref a, u => u = Value.ref a
  | .ty n, u => u = Value.type n
noncomputable abbrev Vals : List V → List Value → Prop := Paired RelV
theorem Vals.length {xs : List V} {us : List Value} (r : Vals xs us) : xs.length = us.length := Paired.length r
theorem Vals.get : ∀ {xs : List V} {us : List Value} {i : Nat} {x : V}, Vals xs us → xs[i]? = some x → ∃ u, us[i]? = some u ∧ RelV x u
  | _, _, _, _, .nil, e => by simp at e
  | _, _, 0, _, .cons r _, e => by simp at e; subst e; exact ⟨_, rfl, r⟩
  | _, _, i + 1, x, .cons _ t, e => by
    obtain ⟨u, h1, h2⟩ := Vals.get (i := i) (x := x) t (by simpa using e)
    exact ⟨u, by simpa using h1, h2⟩
theorem Vals.set {x : V} {u : Value} (r : RelV x u) : ∀ {xs : List V} {us : List Value} (i : Nat), Vals xs us → Vals (xs.set i x) (us.set i u)
  | _, _, _, .nil => .nil
  | _, _, 0, .cons _ t => .cons r t
  | _, _, i + 1, .cons q t => .cons q (Vals.set r i t)
theorem Vals.append {xs ys : List V} {us ws : List Value} (h : Vals xs us) (s : Vals ys ws) : Vals (xs ++ ys) (us ++ ws) := by
  induction h with
  | nil => exact s
  | cons r _ ih => exact .cons r ih
theorem Vals.take : ∀ {xs : List V} {us : List Value} (n : Nat), Vals xs us → Vals (xs.take n) (us.take n)
  | _, _, 0, _ => .nil
  | _, _, _ + 1, .nil => .nil
  | _, _, n + 1, .cons r t => .cons r (Vals.take n t)
theorem Vals.drop : ∀ {xs : List V} {us : List Value} (n : Nat), Vals xs us → Vals (xs.drop n) (us.drop n)
  | _, _, 0, r => r
  | _, _, _ + 1, .nil => .nil
  | _, _, n + 1, .cons _ t => Vals.drop n t
theorem Vals.none_of : ∀ {xs : List V} {us : List Value} {i : Nat}, Vals xs us → xs[i]? = none → us[i]? = none := fun {xs us i} r e => by
  have h1 := r.length
  have h2 : xs.length ≤ i := List.getElem?_eq_none_iff.mp e
  exact List.getElem?_eq_none_iff.mpr (by omega)
noncomputable def RelO : Option V → Option Value → Prop
  | some v, some u => RelV v u
  | none, none => True
  | _, _ => False
noncomputable def KV {κ : Type} : List (κ × V) → List (κ × Value) → Prop := Paired fun (p : κ × V) (q : κ × Value) => p.1 = q.1 ∧ RelV p.2 q.2
noncomputable def kV : Key → V
  | .inl i => .int i
  | .inr x => .str x
inductive HO where
  | lst (xs : List V)
  | tup (xs : List V)
  | dK (kvs : List (Key × V)) | dT (kvs : List (List Key × V))
  | set (S : Int → Bool) (n : Nat)
  | ins (C dx : Addr) (fs : List (Str × V))
  | own (x : Addr)
  | xd (fs : List (Str × V))
  | met (f x : Addr)
  | rng (lo hi : Int)
  | frz (o : Obj) (u : HO)
  | tbl (ps : Array Value)
  | ext (φ : Heap → Prop)
noncomputable abbrev Hp := Addr → Option HO
noncomputable def upd (H : Hp) (a : Addr) (o : HO) : Hp := fun b => if b = a then some o else H b
theorem upd_same {H : Hp} {a : Addr} {o : HO} : upd H a o a = some o := by unfold upd; rw [if_pos rfl]
theorem upd_ne {H : Hp} {a b : Addr} {o : HO} (h : b ≠ a) : upd H a o b = H b := by unfold upd; rw [if_neg h]
theorem ne_of_none {H : Hp} {a b : Addr} {o : HO} (h : H a = some o) (h' : H b = none) : a ≠ b := by
  intro e; subst e; rw [h] at h'; cases h'
section
variable (P : Program) (w : World)
noncomputable def ObjOk (H : Hp) (h : Heap) (a : Addr) : HO → Prop
  | .lst xs => xs.length ≤ sizeLine ∧ ∃ (its : List Value) (n : Nat), Vals xs its ∧ h.get? a = some { cls := .type "list", data := .seq its.toArray n }
  | .tup xs => xs.length ≤ sizeLine ∧ ∃ its : List Value, Vals xs its ∧ IsTup h a its.toArray
  | .dK kvs => kvs.length ≤ sizeLine ∧ (a == sysModules) = false ∧ ∃ vs, KV kvs vs ∧ h.DictOf (mixKind P w) a vs
  | .dT kvs => kvs.length ≤ sizeLine ∧ (a == sysModules) = false ∧ ∃ xs : List (List Key × Addr × Value),
      Paired (fun (p : List Key × V) (q : List Key × Addr × Value) => p.1 = q.1 ∧ H q.2.1 = some (.tup (p.1.map kV)) ∧ RelV p.2 q.2.2) kvs xs ∧
      ∃ o es ep, h.get? a = some o ∧ o.ExactDict ∧ o.data = .dict es ep ∧ es.toList = xs.map (entryOfKey (tupleKind (mixKind P w))) ∧ (xs.map (·.1)).Nodup
  | .set S n => h.SetOf (intKind P w) a S n
  | .ins C dx fs => H dx = some (.own a) ∧ fs.length ≤ 1000 ∧ dx ≠ a ∧ h.get? a = some (PySem.W.instObj C dx) ∧
      ∃ mA, h.Ns1 dx mA ∧ (∀ f, RelO (fs.lookup f) (mA f)) ∧ PySem.Within mA (fs.map (·.1))
  | .own _ => ∃ o, h.get? a = some o
  | .xd fs => ∃ mA, h.Ns1 a mA ∧ ∀ f, RelO (fs.lookup f) (mA f)
  | .rng lo hi => ∃ t u v, h.get? a = some { cls := .type "range", data := .fields #[.int lo t, .int hi u, .int 1 v] }
  | .frz o u => h.get? a = some o ∧ ObjOk H h a u
  | .tbl ps => h.get? a = some { cls := .none, data := .fields ps }
  | .met f x => h.get? a = some (PySem.W.methodObj (.ref f) (.ref x))
  | .ext φ => φ h ∧ (∃ o, h.get? a = some o) ∧ ∀ h1 h2 : Heap, φ h1 → (∀ o, h1.get? a = some o → h2.get? a = some o) → φ h2
noncomputable def HOk (H : Hp) (h : Heap) : Prop := ∀ a o, H a = some o → ObjOk P w H h a o
end
section
variable {P : Program} {w : World} {H H' : Hp} {h h' : Heap} {a : Addr} {o : HO}
theorem ObjOk.lt (x : ObjOk P w H h a o) : a < h.objs.size := by
  cases o with
  | lst xs => obtain ⟨_, _, _, _, e⟩ := x; exact Heap.lt_size e
  | tup xs => obtain ⟨_, _, _, p⟩ := x; exact p.lt
  | dK kvs => obtain ⟨_, _, _, _, o, _, _, e, _⟩ := x; exact Heap.lt_size e
  | dT kvs => obtain ⟨_, _, _, _, o, _, _, e, _⟩ := x; exact Heap.lt_size e
  | set S n => obtain ⟨o, _, _, _, e, _⟩ := x; exact Heap.lt_size e
  | ins C dx fs => obtain ⟨_, _, _, e, _⟩ := x; exact Heap.lt_size e
  | own y => obtain ⟨_, e⟩ := x; exact Heap.lt_size e
  | xd fs => obtain ⟨_, ⟨_, _, _, e, _⟩, _⟩ := x; exact Heap.lt_size e
  | rng lo hi => obtain ⟨_, _, _, e⟩ := x; exact Heap.lt_size e
  | frz ob u => obtain ⟨e, _⟩ := x; exact Heap.lt_size e
  | tbl ps => exact Heap.lt_size (show h.get? a = some _ from x)
  | met f y => exact Heap.lt_size (show h.get? a = some _ from x)
  | ext φ => obtain ⟨_, ⟨_, e⟩, _⟩ := x; exact Heap.lt_size e
theorem Paired.mapP {α β : Type} {F G : α → β → Prop} : ∀ {l₁ : List α} {l₂ : List β}, Paired F l₁ l₂ → (∀ a b, F a b → G a b) → Paired G l₁ l₂
  | _, _, .nil, _ => .nil
  | _, _, .cons r t, f => .cons (f _ _ r) (Paired.mapP t f)
theorem ObjOk.stay (x : ObjOk P w H h a o) (k : ∀ b u, (b = a ∨ H b = some (.own a)) → h.get? b = some u → h'.get? b = some u)
    (ho : ∀ b, H b = some (.own a) → H' b = some (.own a)) (ht : ∀ b xs, H b = some (.tup xs) → H' b = some (.tup xs)) : ObjOk P w H' h' a o := by
  induction o with
  | lst xs => obtain ⟨z, its, n, r, e⟩ := x; exact ⟨z, its, n, r, k _ _ (.inl rfl) e⟩
  | tup xs => obtain ⟨z, its, r, ob, e, c⟩ := x; exact ⟨z, its, r, ob, k _ _ (.inl rfl) e, c⟩
  | dK kvs => obtain ⟨z, y, vs, r, ob, es, ep, e, c⟩ := x; exact ⟨z, y, vs, r, ob, es, ep, k _ _ (.inl rfl) e, c⟩
  | dT kvs =>
    obtain ⟨z, y, xs, r, ob, es, ep, e, c⟩ := x
    exact ⟨z, y, xs, Paired.mapP r fun p q z => ⟨z.1, ht _ _ z.2.1, z.2.2⟩, ob, es, ep, k _ _ (.inl rfl) e, c⟩
  | set S n => obtain ⟨ob, es, ep, t, e, c⟩ := x; exact ⟨ob, es, ep, t, k _ _ (.inl rfl) e, c⟩
  | ins C dx fs =>
    obtain ⟨d, z, ne, e, mA, ⟨od, es, ep, e2, c⟩, r⟩ := x
    exact ⟨ho _ d, z, ne, k _ _ (.inl rfl) e, mA, ⟨od, es, ep, k _ _ (.inr d) e2, c⟩, r⟩
  | own y => obtain ⟨ob, e⟩ := x; exact ⟨ob, k _ _ (.inl rfl) e⟩
  | xd fs => obtain ⟨mA, ⟨od, es, ep, e, c⟩, r⟩ := x; exact ⟨mA, ⟨od, es, ep, k _ _ (.inl rfl) e, c⟩, r⟩
  | rng lo hi => obtain ⟨t, u, v, e⟩ := x; exact ⟨t, u, v, k _ _ (.inl rfl) e⟩
  | frz ob u ih => obtain ⟨e, q⟩ := x; exact ⟨k _ _ (.inl rfl) e, ih q⟩
  | tbl ps =>
    have e : h.get? a = some { cls := .none, data := .fields ps } := x
    show h'.get? a = some { cls := .none, data := .fields ps }
    exact k a _ (.inl rfl) e
  | met f y =>
    have e : h.get? a = some (PySem.W.methodObj (.ref f) (.ref y)) := x
    show h'.get? a = some (PySem.W.methodObj (.ref f) (.ref y))
    exact k a _ (.inl rfl) e
  | ext φ => obtain ⟨p, ⟨o, e⟩, st⟩ := x; exact ⟨st _ _ p fun o q => k _ _ (.inl rfl) q, ⟨o, k _ _ (.inl rfl) e⟩, st⟩
theorem HOk.lt (x : HOk P w H h) (e : H a = some o) : a < h.objs.size := (x a o e).lt
theorem HOk.fresh (x : HOk P w H h) (e : h.objs.size ≤ a) : H a = none := by
  cases q : H a with
  | none => rfl
  | some u => exact absurd (Nat.lt_of_lt_of_le (x.lt q) e) (Nat.lt_irrefl _)
theorem HOk.kept (x : HOk P w H h) (k : ∀ b u, h.get? b = some u → h'.get? b = some u) : HOk P w H h' := fun a o e =>
  (x a o e).stay (fun b u _ q => k b u q) (fun _ q => q) fun _ _ q => q
theorem HOk.laid (x : HOk P w H h) (k : ∀ b u, h.get? b = some u → h'.get? b = some u) (hp : h.objs.size ≤ a) (new : ObjOk P w (upd H a o) h' a o) : HOk P w (upd H a o) h' := fun b u e => by
  have hn := x.fresh hp
  by_cases hb : b = a
  · subst hb; rw [upd_same] at e; cases e; exact new
  · rw [upd_ne hb] at e
    exact (x b u e).stay (fun c v _ q => k c v q) (fun c q => by rw [upd_ne (ne_of_none q hn)]; exact q) fun c xs q => by rw [upd_ne (ne_of_none q hn)]; exact q
end
noncomputable def Rd (H : Hp) (a : Addr) (u : HO) : Prop := H a = some u ∨ ∃ o, H a = some (.frz o u)
theorem Rd.of {H : Hp} {a : Addr} {u : HO} (h : H a = some u) : Rd H a u := .inl h
theorem Rd.ok {P : Program} {w : World} {H : Hp} {h : Heap} {a : Addr} {u : HO} (r : Rd H a u) (x : HOk P w H h) : ObjOk P w H h a u := by
  rcases r with r | ⟨o, r⟩
  · exact x a u r
  · obtain ⟨_, q⟩ := x a _ r
    exact q
noncomputable def Mut : Option HO → Prop
  | some (.lst _) => True
  | some (.dK _) => True
  | some (.dT _) => True
  | some (.set _ _) => True
  | some (.ins _ _ _) => True
  | some (.ext _) => True
  | _ => False
section
variable {P : Program} {w : World} {H : Hp} {h h' : Heap} {x e : Addr} {o' : HO}
theorem HOk.write (ok : HOk P w H h) (mu : Mut (H x)) (he : e = x ∨ H e = some (.own x)) (k : ∀ b u, b ≠ e → h.get? b = some u → h'.get? b = some u) (heo : ∃ u, h'.get? e = some u)
    (new : ObjOk P w (upd H x o') h' x o') : HOk P w (upd H x o') h' := fun b u q => by
  have nown : ∀ c y, H c = some (.own y) → c ≠ x := fun c y r z => by subst z; rw [r] at mu; exact mu
  have ntup : ∀ c xs, H c = some (.tup xs) → c ≠ x := fun c xs r z => by subst z; rw [r] at mu; exact mu
  by_cases hb : b = x
  · subst hb; rw [upd_same] at q; cases q; exact new
  · rw [upd_ne hb] at q
    by_cases hbe : b = e
    · have q' : H b = some (.own x) := by
        rcases he with z | z
        · exact absurd (hbe.trans z) hb
        · rw [hbe]; exact z
      rw [q] at q'; cases q'
      obtain ⟨v, hv⟩ := heo
      exact ⟨v, by rw [hbe]; exact hv⟩
    · refine (ok b u q).stay (fun c v hc r => k c v ?_ r) (fun c r => by rw [upd_ne (nown c b r)]; exact r) fun c xs r => by rw [upd_ne (ntup c xs r)]; exact r
      rcases hc with rfl | hc
      · exact hbe
      · rintro rfl
        rcases he with z | z
        · exact nown c b hc z
        · rw [hc] at z; cases z; exact hb rfl
end
structure Un (fs ex : List Addr) (H H' : Hp) (h h' : Heap) : Prop where
  keep : ∀ b o, h.get? b = some o → H b = none → b ∉ fs → b ∉ ex → h'.get? b = some o
  slot : ∀ b o, h.get? b = some o → H b = none → b ∈ fs → b ∉ ex → ∃ sl, h'.get? b = some { o with slots := sl }
  free : ∀ b o, h.get? b = some o → H b = none → b ∉ ex → H' b = none
  there : ∀ b o, h.get? b = some o → b ∉ ex → ∃ o', h'.get? b = some o'
  tups : ∀ b xs, H b = some (.tup xs) → H' b = some (.tup xs)
  frzs : ∀ b o u, H b = some (.frz o u) → H' b = some (.frz o u)
  tbls : ∀ b ps, H b = some (.tbl ps) → ∃ more, H' b = some (.tbl (ps ++ more))
section
variable {fs fs' ex ex' : List Addr} {H H1 H2 : Hp} {h h1 h2 h' : Heap} {a x e : Addr} {o : HO}
theorem Un.any (u : Un fs ex H H1 h h1) {b : Addr} {ob : Obj} (q : h.get? b = some ob) (n : H b = none) (hx : b ∉ ex) : ∃ sl, h1.get? b = some { ob with slots := sl } := by
  by_cases hb : b ∈ fs
  · exact u.slot b ob q n hb hx
  · exact ⟨ob.slots, u.keep b ob q n hb hx⟩
theorem Un.trans (a : Un fs ex H H1 h h1) (b : Un fs ex H1 H2 h1 h2) : Un fs ex H H2 h h2 where
  keep := fun c ob q n hc hx => b.keep c ob (a.keep c ob q n hc hx) (a.free c ob q n hx) hc hx
  slot := fun c ob q n hc hx => by
    obtain ⟨sl, e1⟩ := a.slot c ob q n hc hx
    obtain ⟨sl', e2⟩ := b.slot c _ e1 (a.free c ob q n hx) hc hx
    exact ⟨sl', e2⟩
  free := fun c ob q n hx => by
    obtain ⟨o', e1⟩ := a.there c ob q hx
    exact b.free c o' e1 (a.free c ob q n hx) hx
  there := fun c ob q hx => by
    obtain ⟨o', e1⟩ := a.there c ob q hx
    exact b.there c o' e1 hx
  tups := fun c xs q => b.tups c xs (a.tups c xs q)
  frzs := fun c ob xs q => b.frzs c ob xs (a.frzs c ob xs q)
  tbls := fun c ps q => by
    obtain ⟨m1, e1⟩ := a.tbls c ps q
    obtain ⟨m2, e2⟩ := b.tbls c _ e1
    exact ⟨m1 ++ m2, by rw [e2, Array.append_assoc]⟩
theorem Un.kept (k : ∀ b u, h.get? b = some u → h'.get? b = some u) : Un fs ex H H h h' :=
  ⟨fun b ob q _ _ _ => k b ob q, fun b ob q _ _ _ => ⟨ob.slots, k b ob q⟩, fun _ _ _ n _ => n, fun b ob q _ => ⟨ob, k b ob q⟩, fun _ _ q => q, fun _ _ _ q => q, fun _ ps q => ⟨#[], by rw [q]; simp⟩⟩
theorem Un.refl : Un fs ex H H h h := Un.kept fun _ _ q => q
theorem Un.laid (k : ∀ b u, h.get? b = some u → h'.get? b = some u) (hp : h.objs.size ≤ a) (hn : H a = none) : Un fs ex H (upd H a o) h h' where
  keep := fun b u q _ _ _ => k b u q
  slot := fun b u q _ _ _ => ⟨u.slots, k b u q⟩
  free := fun b u q n _ => by rw [upd_ne (Nat.ne_of_lt (Nat.lt_of_lt_of_le (Heap.lt_size q) hp))]; exact n
  there := fun b u q _ => ⟨u, k b u q⟩
  tups := fun b xs q => by rw [upd_ne (ne_of_none q hn)]; exact q
  frzs := fun b u xs q => by rw [upd_ne (ne_of_none q hn)]; exact q
  tbls := fun b ps q => ⟨#[], by rw [upd_ne (ne_of_none q hn), q]; simp⟩
theorem Un.write (mu : Mut (H x)) (he : e = x ∨ H e = some (.own x)) (k : ∀ b u, b ≠ e → h.get? b = some u → h'.get? b = some u) (heo : ∃ u, h'.get? e = some u) : Un fs ex H (upd H x o) h h' := by
  have hx : ∀ b, H b = none → b ≠ x := fun b n z => by subst z; rw [n] at mu; exact mu
  have hb : ∀ b, H b = none → b ≠ e := fun b n z => by
    subst z
    rcases he with r | r
    · exact hx b n r
    · rw [n] at r; cases r
  have hm : ∀ b u, H b = some u → ¬ Mut (some u) → b ≠ x := fun b u q nm z => by subst z; rw [q] at mu; exact nm mu
  refine ⟨fun b u q n _ _ => k b u (hb b n) q, fun b u q n _ _ => ⟨u.slots, k b u (hb b n) q⟩, fun b u q n _ => by rw [upd_ne (hx b n)]; exact n, fun b u q _ => ?_,
    fun b xs q => by rw [upd_ne (hm b _ q fun z => z)]; exact q, fun b u xs q => by rw [upd_ne (hm b _ q fun z => z)]; exact q, fun b ps q => ⟨#[], by rw [upd_ne (hm b _ q fun z => z), q]; simp⟩⟩
  by_cases hbe : b = e
  · subst hbe; exact heo
  · exact ⟨u, k b u hbe q⟩
theorem Un.mono (u : Un fs ex H H1 h h1) (hs : ∀ b ∈ fs, b ∈ fs') (hx : ∀ b ∈ ex, b ∈ ex') : Un fs' ex' H H1 h h1 :=
  ⟨fun b ob q n hb he => u.keep b ob q n (fun z => hb (hs b z)) fun z => he (hx b z), fun _ _ q n _ he => u.any q n fun z => he (hx _ z), fun b ob q n he => u.free b ob q n fun z => he (hx b z), fun b ob q he => u.there b ob q fun z => he (hx b z), u.tups, u.frzs, u.tbls⟩
end
noncomputable def trk (h : Heap) (H : Hp) : List Addr := (List.range h.objs.size).filter fun a => (H a).isSome
noncomputable def hidT (h : Heap) (H : Hp) : Heap := PySem.W.hideAll h (trk h H)
theorem hidT_size (h : Heap) (H : Hp) : (hidT h H).objs.size = h.objs.size := PySem.W.hideAll_size _ _
theorem hidT_get {h : Heap} {H : Hp} {b : Addr} {o : Obj} (e : h.get? b = some o) (n : H b = none) : (hidT h H).get? b = some o :=
  PySem.W.hideAll_get _ e fun hm => by
    have q : (H b).isSome = true := (List.mem_filter.mp hm).2
    rw [n] at q; simp at q
theorem of_hidT {h : Heap} {H : Hp} {b : Addr} {o : Obj} (e : (hidT h H).get? b = some o) : h.get? b = some o ∧ H b = none := by
  have e' : h.get? b = some o := PySem.W.of_hideAll (trk h H) e
  refine ⟨e', ?_⟩
  cases q : H b with
  | none => rfl
  | some x =>
    have hm : b ∈ trk h H := List.mem_filter.mpr ⟨List.mem_range.mpr (Heap.lt_size e'), by simp [q]⟩
    have z : (hidT h H).get? b = none := PySem.W.hideAll_none (trk h H) hm
    rw [z] at e; cases e
noncomputable def allNews (g h : Heap) (L : Addr) : List (Addr × Obj) := (List.range h.objs.size).filterMap fun a => if a = L ∨ (g.get? a).isSome = true then none else (h.get? a).map fun o => (a, o)
noncomputable def rest (g h : Heap) (L d : Addr) : List (Addr × Obj) := (allNews g h L).filter fun p => decide (p.1 ≠ d)
end L2
namespace L2
open PySem PySem.Spec PyProof.Rows
structure Mod (K : PySem.W.Frag) (mg : Str → Option Value) (base : Heap) : Prop where
  kin : K.In base
  glob : base.Ns mainGlobals mg
  blt : ∃ mb, base.Ns builtinsNs mb ∧ ∀ x : Str, x ≠ "__name__" → mb x = bootBuiltins x
  nolimit : base.NoLimit
structure Cx where
  prog : Program
  w : World
  K : PySem.W.Frag
  mg : Str → Option Value
  base : Heap
  A : Around
  N : List Str
  s₀ : Shared
  H₀ : Hp
  env : Env
  outer : List Env
  stack : List Env
  ex : List Addr
  fn : Str → Bool
  calm : Bool
  pn : List (Addr × Obj)
  xe : Value → Shared → Prop
noncomputable def frs (l : List Env) : List Addr := l.filterMap (·.frame)
noncomputable abbrev Cx.fs (X : Cx) : List Addr := frs X.outer
noncomputable def Vis (sc : Scope) (x : Str) : Prop := sc.names.lookup x = some .local ∨ sc.names.lookup x = some .cell ∨ sc.names.lookup x = some .free
noncomputable def Loc (sc : Scope) (x : Str) : Prop := sc.names.lookup x = some .local ∨ sc.names.lookup x = some .cell
theorem vis_of {sc : Scope} {x : Str} {k : NameKind} (h : sc.names.lookup x = some k) (hk : (decide (k = .local) || decide (k = .cell) || decide (k = .free)) = true) : Vis sc x := by
  simp only [Bool.or_eq_true, decide_eq_true_eq] at hk
  rcases hk with (rfl | rfl) | rfl
  · exact .inl h
  · exact .inr (.inl h)
  · exact .inr (.inr h)
theorem loc_of {sc : Scope} {x : Str} {k : NameKind} (h : sc.names.lookup x = some k) (hk : (decide (k = .local) || decide (k = .cell)) = true) : Loc sc x := by
  simp only [Bool.or_eq_true, decide_eq_true_eq] at hk
  rcases hk with rfl | rfl
  · exact .inl h
  · exact .inr h
noncomputable def Look (env : Env) (h : Heap) (m : Str → Option Value) (x : Str) (u : Value) : Prop :=
  (env.kindOf x = some .local ∧ m x = some u) ∨ ((env.kindOf x = some .cell ∨ env.kindOf x = some .free) ∧ ∃ c, env.cells.lookup x = some c ∧ h.IsCell c (some u))
structure Cx.Ok (X : Cx) : Prop where
  mod : Mod X.K X.mg X.base
  kind : X.env.scope.kind = .function
  glob : X.env.globals = mainGlobals
  blt : X.env.builtins = builtinsNs
  above : X.s₀.heap.objs.size ≤ X.env.locals
  inj : ∀ x y c, X.env.cells.lookup x = some c → X.env.cells.lookup y = some c → x = y
  has : ∀ x, (X.env.kindOf x = some .cell ∨ X.env.kindOf x = some .free) → ∃ c, X.env.cells.lookup x = some c
  cab : ∀ x c, X.fn x = true → X.env.cells.lookup x = some c → X.s₀.heap.objs.size ≤ c
  hd : X.calm = true → X.A.handled = none
  frames : X.A.frames = some X.stack
  stk : X.stack = X.outer ∨ (X.stack = X.env :: X.outer ∧ X.env.frame = some X.env.locals)
  exf : ∀ b ∈ X.ex, b ≠ X.env.locals ∧ ∀ x c, X.env.cells.lookup x = some c → c ≠ b
  bs : ∀ b o, X.base.get? b = some o → X.s₀.heap.get? b = some o ∧ X.H₀ b = none
  bsz : X.base.objs.size ≤ X.s₀.heap.objs.size
  noex : ∀ b o, X.base.get? b = some o → b ∉ X.ex
  exfs : ∀ b ∈ X.ex, b ∉ X.fs
  funs : X.s₀.heap.FunFrames X.base X.outer
  frf : ∀ b ∈ X.fs, X.H₀ b = none
structure Inv (X : Cx) (pins : List (Addr × Obj)) (σ : List (Option V)) (H : Hp) (s : Shared) : Prop where
  ok : X.Ok
  os : s.os = X.s₀.os
  bare : AllBare s.gens
  base : Un X.fs X.ex X.H₀ H X.s₀.heap s.heap
  loc : ∃ m, s.heap.Ns X.env.locals m ∧ ∀ (i : Nat) (x : Str) (v : V), X.N[i]? = some x → σ[i]? = some (some v) → Vis X.env.scope x → ∃ u, RelV v u ∧ Look X.env s.heap m x u
  cell : ∀ x c, X.env.cells.lookup x = some c → ∃ v, s.heap.IsCell c v
  free : H X.env.locals = none
  freeC : ∀ x c, X.env.cells.lookup x = some c → H c = none
  pin : ∀ p ∈ X.pn ++ pins, s.heap.get? p.1 = some p.2 ∧ H p.1 = none ∧ p.1 ≠ X.env.locals ∧ p.1 ∉ X.fs ∧ ∀ v, p.2.data ≠ .cell v
  hok : HOk X.prog X.w H s.heap
  len : σ.length = X.N.length
section
variable {X : Cx} {pins : List (Addr × Obj)} {σ : List (Option V)} {H H' : Hp} {s : Shared} {h' : Heap}
theorem Cx.Ok.nofr (ok : X.Ok) {b : Addr} {o : Obj} (e : X.base.get? b = some o) : b ∉ X.fs := fun hb => by
  have := (ok.funs.mem hb).1
  rw [e] at this; cases this
theorem Inv.bs (I : Inv X pins σ H s) : ∀ b o, X.base.get? b = some o → s.heap.get? b = some o ∧ H b = none := fun b o e =>
  ⟨I.base.keep b o (I.ok.bs b o e).1 (I.ok.bs b o e).2 (I.ok.nofr e) (I.ok.noex b o e), I.base.free b o (I.ok.bs b o e).1 (I.ok.bs b o e).2 (I.ok.noex b o e)⟩
theorem Inv.bk (I : Inv X pins σ H s) : ∀ b o, X.base.get? b = some o → s.heap.get? b = some o := fun b o e => (I.bs b o e).1
theorem Inv.mod (I : Inv X pins σ H s) : Mod X.K X.mg X.base := I.ok.mod
theorem Inv.kIn (I : Inv X pins σ H s) : X.K.In s.heap := I.ok.mod.kin.keeps I.bk
theorem Inv.nolimit (I : Inv X pins σ H s) : s.heap.NoLimit := I.ok.mod.nolimit.keeps I.bk
theorem Inv.fr (I : Inv X pins σ H s) : ∃ m, Fr X.base X.env.locals s.heap m :=
  let ⟨m, hn, _⟩ := I.loc
  ⟨m, hn, I.bk, Nat.le_trans I.ok.bsz I.ok.above⟩
theorem Inv.lt (I : Inv X pins σ H s) : X.env.locals < s.heap.objs.size := let ⟨_, hn, _⟩ := I.loc; hn.lt
theorem Inv.sz (I : Inv X pins σ H s) : X.s₀.heap.objs.size ≤ s.heap.objs.size := Nat.le_trans I.ok.above (Nat.le_of_lt I.lt)
theorem Inv.nofs (I : Inv X pins σ H s) {a : Addr} (h : s.heap.objs.size ≤ a) : a ∉ X.fs := fun hb => by
  obtain ⟨_, o, ho, _⟩ := I.ok.funs.mem hb
  exact absurd (Nat.lt_of_lt_of_le (Heap.lt_size ho) (Nat.le_trans I.sz h)) (Nat.lt_irrefl _)
theorem Inv.cne (I : Inv X pins σ H s) : ∀ x c, X.env.cells.lookup x = some c → c ≠ X.env.locals := fun x c e z => by
  obtain ⟨v, o, ho, hd⟩ := I.cell x c e
  obtain ⟨m, ⟨o', es, ep, ho', hd', _⟩, _⟩ := I.loc
  rw [z, ho'] at ho; cases ho; rw [hd'] at hd; cases hd
theorem Inv.funs (I : Inv X pins σ H s) : s.heap.FunFrames X.base X.outer := by
  have all : ∀ (l : List Env), (∀ b ∈ frs l, b ∈ X.fs) → X.s₀.heap.FunFrames X.base l → s.heap.FunFrames X.base l := by
    intro l
    induction l with
    | nil => intro _ _; trivial
    | cons env r ih =>
      intro hs hl
      obtain ⟨hk, ⟨L, o, hf, hn, ho, hd⟩, hr⟩ := hl
      have hL : L ∈ X.fs := hs L (by unfold frs; rw [List.filterMap_cons, hf]; exact List.mem_cons_self)
      obtain ⟨sl, e⟩ := I.base.slot L o ho (I.ok.frf L hL) hL fun z => I.ok.exfs L z hL
      exact ⟨hk, ⟨L, _, hf, hn, e, hd⟩, ih (fun b hb => hs b (by unfold frs; rw [List.filterMap_cons, hf]; exact List.mem_cons_of_mem _ hb)) hr⟩
  exact all X.outer (fun _ hb => hb) I.ok.funs
theorem Inv.stack (I : Inv X pins σ H s) : s.heap.FunFrames X.base X.stack := by
  rcases I.ok.stk with e | ⟨e, hf⟩
  · rw [e]; exact I.funs
  · rw [e]
    obtain ⟨m, hn, _⟩ := I.loc
    refine .cons (by rw [I.ok.kind]; decide) hf hn ?_ I.funs
    exact Heap.get?_none_of_le (Nat.le_trans I.ok.bsz I.ok.above)
theorem Inv.stkSub (I : Inv X pins σ H s) : ∀ b ∈ frs X.stack, b ∈ X.env.locals :: X.fs := fun b hb => by
  rcases I.ok.stk with e | ⟨e, hf⟩
  · rw [e] at hb; exact List.mem_cons_of_mem _ hb
  · rw [e] at hb
    unfold frs at hb
    rw [List.filterMap_cons, hf] at hb
    exact hb
theorem Inv.stkFree (I : Inv X pins σ H s) : ∀ b ∈ frs X.stack, H b = none := fun b hb => by
  rcases List.mem_cons.mp (I.stkSub b hb) with e | hb
  · rw [e]; exact I.free
  · obtain ⟨_, o, ho, _⟩ := I.ok.funs.mem hb
    exact I.base.free b o ho (I.ok.frf b hb) fun z => I.ok.exfs b z hb
theorem Inv.step {g' : Array GenState} {t' : Nat} {d' : Drawn} {ch : List Addr} (I : Inv X pins σ H s)
    (hch : ∀ b ∈ ch, (b ∈ X.ex ∨ X.s₀.heap.objs.size ≤ b) ∧ b ≠ X.env.locals ∧ (∀ x c, X.env.cells.lookup x = some c → c ≠ b) ∧ ∀ p ∈ X.pn ++ pins, p.1 ≠ b)
    (keep : ∀ b o, b ≠ X.env.locals → b ∉ X.fs → b ∉ ch → s.heap.get? b = some o → H b = none → h'.get? b = some o)
    (slot : ∀ b o, b ≠ X.env.locals → b ∈ X.fs → b ∉ ch → s.heap.get? b = some o → H b = none → ∃ sl, h'.get? b = some { o with slots := sl }) (free : ∀ b o, b ∉ ch → s.heap.get? b = some o → H b = none → H' b = none)
    (there : ∀ b o, b ∉ ch → s.heap.get? b = some o → ∃ o', h'.get? b = some o')
    (tups : ∀ b xs, H b = some (.tup xs) → H' b = some (.tup xs)) (frzs : ∀ b o u, H b = some (.frz o u) → H' b = some (.frz o u)) (tbls : ∀ b ps, H b = some (.tbl ps) → ∃ more, H' b = some (.tbl (ps ++ more)))
    (ns : ∀ m, s.heap.Ns X.env.locals m → h'.Ns X.env.locals m) (hok : HOk X.prog X.w H' h') (hg : AllBare g') :
    Inv X pins σ H' { s with heap := h', gens := g', drawn := d', toks := t' } := by
  have neL : ∀ b o, X.s₀.heap.get? b = some o → b ≠ X.env.locals := fun b o e => Nat.ne_of_lt (Nat.lt_of_lt_of_le (Heap.lt_size e) I.ok.above)
  have neC : ∀ b o, X.s₀.heap.get? b = some o → b ∉ X.ex → b ∉ ch := fun b o e hx hb => by
    rcases (hch b hb).1 with z | z
    · exact hx z
    · exact absurd (Nat.lt_of_lt_of_le (Heap.lt_size e) z) (Nat.lt_irrefl _)
  have cellK : ∀ x c, X.env.cells.lookup x = some c → ∀ v, s.heap.IsCell c v → h'.IsCell c v := fun x c e v ⟨o, ho, hd⟩ => by
    have nch : c ∉ ch := fun z => (hch c z).2.2.1 x c e rfl
    by_cases hc : c ∈ X.fs
    · obtain ⟨sl, q⟩ := slot c o (I.cne x c e) hc nch ho (I.freeC x c e)
      exact ⟨_, q, hd⟩
    · exact ⟨o, keep c o (I.cne x c e) hc nch ho (I.freeC x c e), hd⟩
  refine ⟨I.ok, I.os, hg, ⟨fun b o e n hb hx => ?_, fun b o e n hb hx => ?_, fun b o e n hx => ?_, fun b o e hx => ?_, fun b xs e => tups b xs (I.base.tups b xs e), fun b o xs e => frzs b o xs (I.base.frzs b o xs e), fun b ps e => ?_⟩, ?_, fun x c e => ?_, ?_, fun x c e => ?_, fun p hp => ?_, hok, I.len⟩
  · exact keep b o (neL b o e) hb (neC b o e hx) (I.base.keep b o e n hb hx) (I.base.free b o e n hx)
  · obtain ⟨sl, e1⟩ := I.base.slot b o e n hb hx
    obtain ⟨sl', e2⟩ := slot b _ (neL b o e) hb (neC b o e hx) e1 (I.base.free b o e n hx)
    exact ⟨sl', e2⟩
  · obtain ⟨o', e1⟩ := I.base.there b o e hx
    exact free b o' (neC b o e hx) e1 (I.base.free b o e n hx)
  · obtain ⟨o', e1⟩ := I.base.there b o e hx
    exact there b o' (neC b o e hx) e1
  · obtain ⟨m1, e1⟩ := I.base.tbls b ps e
    obtain ⟨m2, e2⟩ := tbls b _ e1
    exact ⟨m1 ++ m2, by rw [e2, Array.append_assoc]⟩
  · obtain ⟨m, hn, hl⟩ := I.loc
    refine ⟨m, ns m hn, fun i x v e1 e2 e3 => ?_⟩
    obtain ⟨u, r, l⟩ := hl i x v e1 e2 e3
    refine ⟨u, r, ?_⟩
    rcases l with l | ⟨k, c, e, z⟩
    · exact .inl l
    · exact .inr ⟨k, c, e, cellK x c e _ z⟩
  · obtain ⟨v, z⟩ := I.cell x c e
    exact ⟨v, cellK x c e v z⟩
  · obtain ⟨m, ⟨o, _, _, ho, _⟩, _⟩ := I.loc
    exact free _ o (fun z => (hch _ z).2.1 rfl) ho I.free
  · obtain ⟨v, o, ho, hd⟩ := I.cell x c e
    exact free c o (fun z => (hch c z).2.2.1 x c e rfl) ho (I.freeC x c e)
  · obtain ⟨e, n, ne, nf, d⟩ := I.pin p hp
    have nch : p.1 ∉ ch := fun z => (hch p.1 z).2.2.2 p hp rfl
    exact ⟨keep p.1 p.2 ne nf nch e n, free p.1 p.2 nch e n, ne, nf, d⟩
theorem Inv.un {t' : Nat} (I : Inv X pins σ H s) (u : Un X.fs [] H H' s.heap h') (hok : HOk X.prog X.w H' h') : Inv X pins σ H' { s with heap := h', toks := t' } := by
  obtain ⟨m, ⟨o, es, ep, ho, r⟩, _⟩ := id I.loc
  obtain ⟨sl, hL⟩ := u.any ho I.free (by simp)
  exact I.step (g' := s.gens) (d' := s.drawn) (ch := []) (fun _ z => nomatch z) (fun b o _ hb _ e n => u.keep b o e n hb (by simp)) (fun b o _ hb _ e n => u.slot b o e n hb (by simp)) (fun b o _ e n => u.free b o e n (by simp)) (fun b o _ e => u.there b o e (by simp)) u.tups u.frzs u.tbls (fun m' hm => by
    obtain ⟨o', es', ep', ho', r'⟩ := hm
    rw [ho] at ho'; cases ho'
    exact ⟨_, es', ep', hL, r'⟩) hok I.bare
theorem Inv.call {g' : Array GenState} {t' : Nat} {d' : Drawn} {ch : List Addr} (I : Inv X pins σ H s) (u : Un (frs X.stack) ch H H' s.heap h') (hok : HOk X.prog X.w H' h') (hg : AllBare g')
    (hch : ∀ b ∈ ch, (b ∈ X.ex ∨ X.s₀.heap.objs.size ≤ b) ∧ b ≠ X.env.locals ∧ (∀ x c, X.env.cells.lookup x = some c → c ≠ b) ∧ ∀ p ∈ X.pn ++ pins, p.1 ≠ b) :
    Inv X pins σ H' { s with heap := h', gens := g', drawn := d', toks := t' } := by
  obtain ⟨m, ⟨o, es, ep, ho, r⟩, _⟩ := id I.loc
  obtain ⟨sl, hL⟩ := u.any ho I.free fun z => (hch _ z).2.1 rfl
  exact I.step (ch := ch) hch (fun b o hL hb hc e n => u.keep b o e n (fun z => (List.mem_cons.mp (I.stkSub b z)).elim hL hb) hc) (fun b o _ _ hc e n => u.any e n hc) (fun b o hc e n => u.free b o e n hc) (fun b o hc e => u.there b o e hc) u.tups u.frzs u.tbls (fun m' hm => by
    obtain ⟨o', es', ep', ho', r'⟩ := hm
    rw [ho] at ho'; cases ho'
    exact ⟨_, es', ep', hL, r'⟩) hok hg
theorem Inv.turned {t' : Nat} {it : Addr} (I : Inv X pins σ H s) (k : ∀ b o, b ≠ it → s.heap.get? b = some o → h'.get? b = some o) (hn : H it = none) (hL : it ≠ X.env.locals)
    (h1 : it ∈ X.ex ∨ X.s₀.heap.objs.size ≤ it) (h2 : ∀ x c, X.env.cells.lookup x = some c → c ≠ it) (h3 : ∀ p ∈ X.pn ++ pins, p.1 ≠ it) : Inv X pins σ H { s with heap := h', toks := t' } := by
  have nit : ∀ b u, H b = some u → b ≠ it := fun b u e z => by rw [z, hn] at e; cases e
  refine I.step (g' := s.gens) (d' := s.drawn) (ch := [it]) (fun b hb => ?_) (fun b o _ _ hc e _ => k b o (fun z => hc (by simp [z])) e) (fun b o _ _ hc e _ => ⟨o.slots, k b o (fun z => hc (by simp [z])) e⟩) (fun _ _ _ _ n => n)
    (fun b o hc e => ⟨o, k b o (fun z => hc (by simp [z])) e⟩) (fun _ _ e => e) (fun _ _ _ e => e) (fun b ps e => ⟨#[], by rw [e]; simp⟩) (fun m hm => ?_) (fun b u e => ?_) I.bare
  · have e : b = it := by simpa using hb
    subst e
    exact ⟨h1, hL, h2, h3⟩
  · obtain ⟨o, es, ep, ho, r⟩ := hm
    exact ⟨o, es, ep, k _ o (Ne.symm hL) ho, r⟩
  · refine (I.hok b u e).stay (fun c v hc q => k c v ?_ q) (fun _ q => q) fun _ _ q => q
    rcases hc with z | z
    · rw [z]; exact nit b u e
    · exact nit c _ z
theorem Inv.tok (I : Inv X pins σ H s) (t : Nat) : Inv X pins σ H { s with toks := t } := I.un (h' := s.heap) (t' := t) Un.refl I.hok
theorem Inv.kept {t' : Nat} (I : Inv X pins σ H s) (k : ∀ b u, s.heap.get? b = some u → h'.get? b = some u) : Inv X pins σ H { s with heap := h', toks := t' } := I.un (Un.kept k) (I.hok.kept k)
theorem Inv.laid {a : Addr} {o : HO} {t' : Nat} (I : Inv X pins σ H s) (k : ∀ b u, s.heap.get? b = some u → h'.get? b = some u) (hp : s.heap.objs.size ≤ a) (new : ObjOk X.prog X.w (upd H a o) h' a o) :
    Inv X pins σ (upd H a o) { s with heap := h', toks := t' } := I.un (Un.laid k hp (I.hok.fresh hp)) (I.hok.laid k hp new)
theorem Inv.write {x e : Addr} {o : HO} {t' : Nat} (I : Inv X pins σ H s) (mu : Mut (H x)) (he : e = x ∨ H e = some (.own x)) (k : ∀ b u, b ≠ e → s.heap.get? b = some u → h'.get? b = some u) (heo : ∃ u, h'.get? e = some u)
    (new : ObjOk X.prog X.w (upd H x o) h' x o) : Inv X pins σ (upd H x o) { s with heap := h', toks := t' } := I.un (Un.write mu he k heo) (I.hok.write mu he k heo new)
theorem Inv.pins_of {pins' : List (Addr × Obj)} (I : Inv X pins σ H s) (h : ∀ p ∈ pins', s.heap.get? p.1 = some p.2 ∧ H p.1 = none ∧ p.1 ≠ X.env.locals ∧ p.1 ∉ X.fs ∧ ∀ v, p.2.data ≠ .cell v) : Inv X pins' σ H s :=
  ⟨I.ok, I.os, I.bare, I.base, I.loc, I.cell, I.free, I.freeC, fun p hp => (List.mem_append.mp hp).elim (fun z => I.pin p (List.mem_append_left _ z)) (h p), I.hok, I.len⟩
theorem nodup_ix {N : List Str} (hN : N.Nodup) {i j : Nat} {x : Str} (a : N[i]? = some x) (b : N[j]? = some x) : i = j := by
  obtain ⟨h1, e1⟩ := List.getElem?_eq_some_iff.mp a
  obtain ⟨h2, e2⟩ := List.getElem?_eq_some_iff.mp b
  exact (List.getElem_inj hN).mp (e1.trans e2.symm)
theorem store_ok2 {M : Model} {A : Around} {E : Value → Shared → Prop} {i : Nat} {x : Str} {v : V} {u : Value} {Q : Unit → Shared → Prop} (I : Inv X pins σ H s) (hN : X.N.Nodup) (hi : X.N[i]? = some x) (hx : Loc X.env.scope x) (r : RelV v u)
    (h : ∀ s', Inv X pins (σ.set i (some v)) H s' → (∃ a, Heap.SameBut a s.heap s'.heap ∧ (a = X.env.locals ∨ X.env.cells.lookup x = some a)) → Q () s') (hf : X.fn x = true ∨ X.env.scope.names.lookup x = some .local := by first | exact .inl rfl | exact .inr rfl | assumption) : wpAny M A (storeName X.env x u) Q E s := by
  obtain ⟨m, hn, hl⟩ := id I.loc
  have hcls : (X.env.scope.kind == .class || (X.env.scope.kind == .module && X.env.locals != X.env.globals)) = false := by rw [I.ok.kind]; rfl
  have hiσ : i < σ.length := by rw [I.len]; exact (List.getElem?_eq_some_iff.mp hi).1
  have cne := I.cne
  have tracked : ∀ {a : Addr} {h' : Heap}, (∃ o, s.heap.get? a = some o ∧ H a = none) → Heap.SameBut a s.heap h' → HOk X.prog X.w H h' := fun {a h'} ha hs b ob e => by
    obtain ⟨_, _, hfree⟩ := ha
    refine (I.hok b ob e).stay (fun c w' hc q => (hs.2 c ?_).trans q) (fun _ q => q) fun _ _ q => q
    rintro rfl
    rcases hc with rfl | hc
    · rw [hfree] at e; cases e
    · rw [hfree] at hc; cases hc
  rcases hx with hk | hk
  · refine wpAny_storeName_local hk hn (fun h' hn' hs => ?_) hcls
    obtain ⟨oL, _, _, hoL, _⟩ := id hn
    refine h _ ⟨I.ok, I.os, I.bare, ⟨fun b o e n hb hx => ?_, fun b o e n hb hx => ?_, I.base.free, fun b o e hx => ?_, I.base.tups, I.base.frzs, I.base.tbls⟩, ⟨_, hn', fun j y v' e1 e2 e3 => ?_⟩, fun y c e => ?_, I.free, I.freeC, fun p hp => ?_, tracked ⟨oL, hoL, I.free⟩ hs, by simpa using I.len⟩ ⟨_, hs, .inl rfl⟩
    · exact (hs.2 b (Nat.ne_of_lt (Nat.lt_of_lt_of_le (Heap.lt_size e) I.ok.above))).trans (I.base.keep b o e n hb hx)
    · obtain ⟨sl, e1⟩ := I.base.slot b o e n hb hx
      exact ⟨sl, (hs.2 b (Nat.ne_of_lt (Nat.lt_of_lt_of_le (Heap.lt_size e) I.ok.above))).trans e1⟩
    · obtain ⟨o', e1⟩ := I.base.there b o e hx
      exact ⟨o', (hs.2 b (Nat.ne_of_lt (Nat.lt_of_lt_of_le (Heap.lt_size e) I.ok.above))).trans e1⟩
    · by_cases hj : j = i
      · subst hj
        rw [hi] at e1; cases e1
        rw [List.getElem?_set_self hiσ] at e2
        cases e2
        exact ⟨u, r, .inl ⟨hk, by simp⟩⟩
      · rw [List.getElem?_set_ne (Ne.symm hj)] at e2
        obtain ⟨u', r', q⟩ := hl j y v' e1 e2 e3
        refine ⟨u', r', ?_⟩
        rcases q with ⟨k, e⟩ | ⟨k, c, e, z⟩
        · refine .inl ⟨k, ?_⟩
          have : y ≠ x := fun e => hj (nodup_ix hN e1 (e ▸ hi))
          simp [this, e]
        · exact .inr ⟨k, c, e, z.sameBut hs (cne y c e)⟩
    · obtain ⟨w', z⟩ := I.cell y c e
      exact ⟨w', z.sameBut hs (cne y c e)⟩
    · obtain ⟨e, n, ne, nf, d⟩ := I.pin p hp
      exact ⟨(hs.2 p.1 ne).trans e, n, ne, nf, d⟩
  · have hfn : X.fn x = true := by
      rcases hf with z | z
      · exact z
      · rw [z] at hk; cases hk
    obtain ⟨c, hc⟩ := I.ok.has x (.inl hk)
    obtain ⟨w', z⟩ := I.cell x c hc
    refine wpAny_storeName_cell I.ok.kind hk hc z (fun h' hc' hs => ?_)
    obtain ⟨oc, hoc, hocd⟩ := id z
    refine h { s with heap := h' } ⟨I.ok, I.os, I.bare, ⟨fun b o e n hb hx => ?_, fun b o e n hb hx => ?_, I.base.free, fun b o e hx => ?_, I.base.tups, I.base.frzs, I.base.tbls⟩, ⟨m, hn.sameBut hs (Ne.symm (cne x c hc)), fun j y v' e1 e2 e3 => ?_⟩, fun y c' e => ?_, I.free, I.freeC, fun p hp => ?_, tracked ⟨oc, hoc, I.freeC x c hc⟩ hs, by simpa using I.len⟩ ⟨c, hs, .inr hc⟩
    · exact (hs.2 b (Nat.ne_of_lt (Nat.lt_of_lt_of_le (Heap.lt_size e) (I.ok.cab x c hfn hc)))).trans (I.base.keep b o e n hb hx)
    · obtain ⟨sl, e1⟩ := I.base.slot b o e n hb hx
      exact ⟨sl, (hs.2 b (Nat.ne_of_lt (Nat.lt_of_lt_of_le (Heap.lt_size e) (I.ok.cab x c hfn hc)))).trans e1⟩
    · obtain ⟨o', e1⟩ := I.base.there b o e hx
      exact ⟨o', (hs.2 b (Nat.ne_of_lt (Nat.lt_of_lt_of_le (Heap.lt_size e) (I.ok.cab x c hfn hc)))).trans e1⟩
    · by_cases hj : j = i
      · subst hj
        rw [hi] at e1; cases e1
        rw [List.getElem?_set_self hiσ] at e2
        cases e2
        exact ⟨u, r, .inr ⟨.inl hk, c, hc, hc'⟩⟩
      · rw [List.getElem?_set_ne (Ne.symm hj)] at e2
        obtain ⟨u', r', q⟩ := hl j y v' e1 e2 e3
        refine ⟨u', r', ?_⟩
        rcases q with q | ⟨k, c', e, z'⟩
        · exact .inl q
        · refine .inr ⟨k, c', e, z'.sameBut hs ?_⟩
          rintro rfl
          exact hj (nodup_ix hN e1 (I.ok.inj _ _ _ e hc ▸ hi))
    · by_cases hcc : c' = c
      · subst hcc; exact ⟨_, hc'⟩
      · obtain ⟨w2, z2⟩ := I.cell y c' e
        exact ⟨w2, z2.sameBut hs hcc⟩
    · obtain ⟨e, n, ne, nf, d⟩ := I.pin p hp
      refine ⟨(hs.2 p.1 ?_).trans e, n, ne, nf, d⟩
      intro q
      rw [q, hoc] at e
      have q' : oc = p.2 := Option.some.inj e
      exact d w' (by rw [← q']; exact hocd)
theorem store_ok {M : Model} {A : Around} {E : Value → Shared → Prop} {i : Nat} {x : Str} {v : V} {u : Value} {Q : Unit → Shared → Prop} (I : Inv X pins σ H s) (hN : X.N.Nodup) (hi : X.N[i]? = some x) (hx : Loc X.env.scope x) (r : RelV v u)
    (h : ∀ s', Inv X pins (σ.set i (some v)) H s' → Q () s') (hf : X.fn x = true ∨ X.env.scope.names.lookup x = some .local := by first | exact .inl rfl | exact .inr rfl | assumption) : wpAny M A (storeName X.env x u) Q E s :=
  store_ok2 I hN hi hx r (fun s' I' _ => h s' I') hf
theorem Inv.call' {s' : Shared} {ch : List Addr} (I : Inv X pins σ H s) (ho : s'.os = s.os) (u : Un (frs X.stack) ch H H' s.heap s'.heap) (hok : HOk X.prog X.w H' s'.heap) (hg : AllBare s'.gens)
    (hch : ∀ b ∈ ch, (b ∈ X.ex ∨ X.s₀.heap.objs.size ≤ b) ∧ b ≠ X.env.locals ∧ (∀ x c, X.env.cells.lookup x = some c → c ≠ b) ∧ ∀ p ∈ X.pn ++ pins, p.1 ≠ b) : Inv X pins σ H' s' := by
  obtain ⟨h', g', d', t', o'⟩ := s'
  have e : o' = s.os := ho
  subst e
  exact I.call (g' := g') (t' := t') (d' := d') u hok hg hch
end
noncomputable abbrev XK := Value → Option Addr → Hp → Prop
noncomputable abbrev St := List (Option V)
noncomputable abbrev VK := V → Hp → Prop
noncomputable abbrev TE := St → Hp → VK → Prop
noncomputable abbrev TT := St → Hp → (Bool → Hp → Prop) → Prop
noncomputable abbrev TA := St → Hp → (List V → Hp → Prop) → Prop
structure Ends where
  nx : St → Hp → Prop
  rt : VK
  bk : St → Hp → Prop := fun _ _ => False
  ct : St → Hp → Prop := fun _ _ => False
noncomputable abbrev TS := Ends → St → Hp → Prop
noncomputable def EP (X : Cx) (pins : List (Addr × Obj)) (σ : St) (Q : VK) (u : Value) (s' : Shared) : Prop := ∃ v H', Inv X pins σ H' s' ∧ RelV v u ∧ Q v H'
noncomputable def TP (X : Cx) (pins : List (Addr × Obj)) (σ : St) (Q : Bool → Hp → Prop) (b : Bool) (s' : Shared) : Prop := ∃ H', Inv X pins σ H' s' ∧ Q b H'
noncomputable def AP (X : Cx) (pins : List (Addr × Obj)) (σ : St) (Q : List V → Hp → Prop) (us : List Value) (s' : Shared) : Prop := ∃ vs H', Inv X pins σ H' s' ∧ Vals vs us ∧ Q vs H'
noncomputable def SP (X : Cx) (pins : List (Addr × Obj)) (D : Ends) (f : Flow) (s' : Shared) : Prop :=
  match f with
  | .next => ∃ σ' H', Inv X pins σ' H' s' ∧ D.nx σ' H'
  | .brk => ∃ σ' H', Inv X pins σ' H' s' ∧ D.bk σ' H'
  | .cont => ∃ σ' H', Inv X pins σ' H' s' ∧ D.ct σ' H'
  | .ret u => ∃ v σ' H', Inv X pins σ' H' s' ∧ RelV v u ∧ D.rt v H'
noncomputable def PE (X : Cx) (e : Expr) (t : TE) : Prop :=
  ∀ (pins : List (Addr × Obj)) (s : Shared) (σ : St) (H : Hp) (Q : VK), Inv X pins σ H s → t σ H Q → wpAny (model X.prog X.w) X.A (eval e X.env) (EP X pins σ Q) X.xe s
noncomputable def PT (X : Cx) (e : Expr) (t : TT) : Prop :=
  ∀ (pins : List (Addr × Obj)) (s : Shared) (σ : St) (H : Hp) (Q : Bool → Hp → Prop), Inv X pins σ H s → t σ H Q → wpAny (model X.prog X.w) X.A (isTrue e X.env (eval e X.env)) (TP X pins σ Q) X.xe s
noncomputable def PW (X : Cx) (e : Expr) (t : TT) : Prop :=
  ∀ (whole : Sem Value) (pins : List (Addr × Obj)) (s : Shared) (σ : St) (H : Hp) (Q : Bool → Hp → Prop), Inv X pins σ H s → t σ H Q → wpAny (model X.prog X.w) X.A (isTrue e X.env whole) (TP X pins σ Q) X.xe s
theorem PW.pt {X : Cx} {e : Expr} {t : TT} (h : PW X e t) : PT X e t := h _
noncomputable def PA (X : Cx) (es : List Expr) (t : TA) : Prop :=
  ∀ (pos : Pos) (pins : List (Addr × Obj)) (s : Shared) (σ : St) (H : Hp) (Q : List V → Hp → Prop), Inv X pins σ H s → t σ H Q → wpAny (model X.prog X.w) X.A (spliced (backTo pos (starEach es X.env))) (AP X pins σ Q) X.xe s
noncomputable def PS (X : Cx) (st : Stmt) (t : TS) : Prop :=
  ∀ (pins : List (Addr × Obj)) (s : Shared) (σ : St) (H : Hp) (D : Ends), Inv X pins σ H s → t D σ H → wpAny (model X.prog X.w) X.A (exec st X.env) (SP X pins D) X.xe s
noncomputable def PSs (X : Cx) (st : List Stmt) (t : TS) : Prop :=
  ∀ (pins : List (Addr × Obj)) (s : Shared) (σ : St) (H : Hp) (D : Ends), Inv X pins σ H s → t D σ H → wpAny (model X.prog X.w) X.A (execs st X.env) (SP X pins D) X.xe s
theorem thn {α : Type} {t : Sem α} {Q Q' : α → Shared → Prop} {M : Model} {A : Around} {E : Value → Shared → Prop} {s : Shared} (h : wpAny M A t Q E s) (hQ : ∀ a s, Q a s → Q' a s) : wpAny M A t Q' E s := wpAny_mono h hQ fun _ _ x => x
end L2
namespace L2
open PySem PySem.Spec PyProof.Rows
section
variable {X : Cx}
theorem bin {a b : Expr} {ta tb : TE} (ha : PE X a ta) (hb : PE X b tb) {pins : List (Addr × Obj)} {s : Shared} {σ : St} {H : Hp} {R : V → V → Hp → Prop} (I : Inv X pins σ H s) (h : ta σ H fun x H1 => tb σ H1 fun y H2 => R x y H2)
    {α : Type} {Q : α → Shared → Prop} {f : Value → Value → Sem α}
    (hf : ∀ v u s2 x y H2, Inv X pins σ H2 s2 → RelV x v → RelV y u → R x y H2 → wpAny (model X.prog X.w) X.A (f v u) Q X.xe s2) :
    wpAny (model X.prog X.w) X.A (eval a X.env) (fun v s₁ => wpAny (model X.prog X.w) X.A (eval b X.env) (fun u s₂ => wpAny (model X.prog X.w) X.A (f v u) Q X.xe s₂) X.xe s₁) X.xe s := by
  refine thn (ha pins s σ H _ I h) fun v s1 ⟨x, H1, I1, r1, q1⟩ => ?_
  refine thn (hb pins s1 σ H1 _ I1 q1) fun u s2 ⟨y, H2, I2, r2, q2⟩ => ?_
  exact hf v u s2 x y H2 I2 r1 r2 q2
noncomputable def tVar (i : Nat) : TE := fun σ H Q => ∃ v, σ[i]? = some (some v) ∧ Q v H
noncomputable def tC (v : V) : TE := fun _ H Q => Q v H
theorem pe_var {i : Nat} {x : Str} {pos : Pos} (hN : X.N[i]? = some x) (hv : Vis X.env.scope x) (hd : (x == ("__debug__" : Str)) = false := by decide) (hcd : (x == ("__classdict__" : Str)) = false := by decide) : PE X (.Name x pos) (tVar i) := by
  intro pins s σ H Q I h
  obtain ⟨v, e, h⟩ := h
  obtain ⟨m, hn, hl⟩ := I.loc
  obtain ⟨u, r, l⟩ := hl i x v hN e hv
  have fin : EP X pins σ Q u s := ⟨v, H, I, r, h⟩
  rcases l with ⟨hk, hm⟩ | ⟨hk, c, hc, hcell⟩
  · exact wpAny_Name (wpAny_loadName_local I.ok.kind hk hn hm fin) hd
  · rcases hk with hk | hk
    · exact wpAny_Name (wpAny_loadName_cell I.ok.kind hk hc hcell fin) hd
    · exact wpAny_Name (wpAny_loadName_free I.ok.kind hk hc hcell fin hcd) hd
theorem pe_int {i j pos} : PE X (.Constant (.int i) j pos) (tC (.int i)) := fun _ _ _ H _ I h => wpAny_Constant_int ⟨.int i, H, I.tok _, ⟨_, rfl⟩, h⟩
theorem pe_bl {b j pos} : PE X (.Constant (.bool b) j pos) (tC (.bl b)) := fun _ _ _ H _ I h => Constant_bool ⟨.bl b, H, I, rfl, h⟩
noncomputable def Gl (X : Cx) (x : Str) : Prop := X.env.kindOf x = some .globalImplicit
theorem ld_glob {E : Value → Shared → Prop} {pins : List (Addr × Obj)} {s : Shared} {σ : St} {H : Hp} {x : Str} {u : Value} {pos : Pos} {Q : Value → Shared → Prop} (I : Inv X pins σ H s) (hg : Gl X x) (hm : X.mg x = some u) (h : Q u s)
    (hd : (x == ("__debug__" : Str)) = false := by decide) : wpAny (model X.prog X.w) X.A (eval (.Name x pos) X.env) Q E s :=
  Calls.Name_function_global I.ok.kind hg (Calls.loadGlobal_global (by rw [I.ok.glob]; exact I.mod.glob.keeps I.bk) hm h) hd
theorem ld_blt {E : Value → Shared → Prop} {pins : List (Addr × Obj)} {s : Shared} {σ : St} {H : Hp} {x : Str} {u : Value} {pos : Pos} {Q : Value → Shared → Prop} (I : Inv X pins σ H s) (hg : Gl X x) (hm : X.mg x = none) (hv : bootBuiltins x = some u) (h : Q u s)
    (hn : x ≠ "__name__" := by decide) (hd : (x == ("__debug__" : Str)) = false := by decide) : wpAny (model X.prog X.w) X.A (eval (.Name x pos) X.env) Q E s := by
  obtain ⟨mb, h1, h2⟩ := I.mod.blt
  exact Calls.Name_function_global I.ok.kind hg (Calls.loadGlobal_builtin (by rw [I.ok.glob]; exact I.mod.glob.keeps I.bk) hm (by rw [I.ok.blt]; exact h1.keeps I.bk) ((h2 x hn).trans hv) h) hd
theorem pe_glob {x : Str} {v : V} {u : Value} {pos : Pos} (hg : Gl X x) (hm : X.mg x = some u) (r : RelV v u) (hd : (x == ("__debug__" : Str)) = false := by decide) : PE X (.Name x pos) (tC v) :=
  fun _ _ _ H _ I h => ld_glob I hg hm ⟨v, H, I, r, h⟩ hd
theorem pe_bltn {x : Str} {v : V} {u : Value} {pos : Pos} (hg : Gl X x) (hm : X.mg x = none) (hv : bootBuiltins x = some u) (r : RelV v u) (hn : x ≠ "__name__" := by decide) (hd : (x == ("__debug__" : Str)) = false := by decide) : PE X (.Name x pos) (tC v) :=
  fun _ _ _ H _ I h => ld_blt I hg hm hv ⟨v, H, I, r, h⟩ hn hd
variable {a b : Expr} {ta tb : TE} {pos : Pos}
variable {tA tB' : TT} {rest : List Expr}
noncomputable def tAnd (t u : TT) : TT := fun σ H Q => t σ H fun c H1 => if c = true then u σ H1 Q else Q false H1
noncomputable def tOr (t u : TT) : TT := fun σ H Q => t σ H fun c H1 => if c = true then Q true H1 else u σ H1 Q
noncomputable def tNot (t : TT) : TT := fun σ H Q => t σ H fun c H1 => Q (!c) H1
theorem pw_and1 (ha : PT X a tA) : PW X (.BoolOp .And [a] pos) tA := by
  intro wh pins s σ H Q I h
  refine isTrue_and (thn (ha pins s σ H Q I h) fun c s1 e => ?_)
  cases c with
  | true => exact isTrue_and_nil e
  | false => exact e
theorem pw_or1 (ha : PT X a tA) : PW X (.BoolOp .Or [a] pos) tA := by
  intro wh pins s σ H Q I h
  refine isTrue_or (thn (ha pins s σ H Q I h) fun c s1 e => ?_)
  cases c with
  | false => exact isTrue_or_nil e
  | true => exact e
theorem pw_and (ha : PT X a tA) (hb : PW X (.BoolOp .And (b :: rest) pos) tB') : PW X (.BoolOp .And (a :: b :: rest) pos) (tAnd tA tB') := by
  intro wh pins s σ H Q I h
  refine isTrue_and (thn (ha pins s σ H _ I h) fun c s1 ⟨H1, I1, q1⟩ => ?_)
  cases c with
  | true => exact hb wh pins s1 σ H1 Q I1 q1
  | false => exact ⟨H1, I1, q1⟩
theorem pw_or (ha : PT X a tA) (hb : PW X (.BoolOp .Or (b :: rest) pos) tB') : PW X (.BoolOp .Or (a :: b :: rest) pos) (tOr tA tB') := by
  intro wh pins s σ H Q I h
  refine isTrue_or (thn (ha pins s σ H _ I h) fun c s1 ⟨H1, I1, q1⟩ => ?_)
  cases c with
  | true => exact ⟨H1, I1, q1⟩
  | false => exact hb wh pins s1 σ H1 Q I1 q1
theorem pt_not (ha : PT X a tA) : PT X (.UnaryOp .Not a pos) (tNot tA) := by
  intro pins s σ H Q I h
  exact isTrue_not (ha pins s σ H (fun c H1 => Q (!c) H1) I h)
noncomputable def tAndV (ta tb : TE) : TE := fun σ H Q => ta σ H fun x H1 => ∃ c, x = .bl c ∧ if c = true then tb σ H1 Q else Q (.bl false) H1
noncomputable def tNotV (ta : TE) : TE := fun σ H Q => ta σ H fun x H1 => ∃ c, x = .bl c ∧ Q (.bl (!c)) H1
theorem pe_one {op} {t : TE} (h : PE X a t) : PE X (.BoolOp op [a] pos) t := fun pins s σ H Q I hw => BoolOp_one (h pins s σ H Q I hw)
theorem pe_and (ha : PE X a ta) (hb : PE X (.BoolOp .And (b :: rest) pos) tb) : PE X (.BoolOp .And (a :: b :: rest) pos) (tAndV ta tb) := by
  intro pins s σ H Q I h
  refine BoolOp_and (thn (ha pins s σ H _ I h) fun v s1 ⟨x, H1, I1, r1, q1⟩ => ?_)
  obtain ⟨c, rfl, q1⟩ := q1
  cases r1
  refine wpAny_truthy_bool ?_
  cases c with
  | true => exact hb pins s1 σ H1 Q I1 q1
  | false => exact ⟨.bl false, H1, I1, rfl, q1⟩
theorem pe_not (ha : PE X a ta) : PE X (.UnaryOp .Not a pos) (tNotV ta) := by
  intro pins s σ H Q I h
  refine UnaryOp_ (thn (ha pins s σ H _ I h) fun v s1 ⟨x, H1, I1, r1, q1⟩ => ?_)
  obtain ⟨c, rfl, q1⟩ := q1
  cases r1
  exact not_of (wpAny_truthy_bool ⟨.bl (!c), H1, I1, rfl, q1⟩)
noncomputable def tIf (t : TT) (ta tb : TE) : TE := fun σ H Q => t σ H fun c H1 => if c = true then ta σ H1 Q else tb σ H1 Q
theorem pe_ifExp {c : Expr} (hc : PT X c tA) (ha : PE X a ta) (hb : PE X b tb) : PE X (.IfExp c a b pos) (tIf tA ta tb) := by
  intro pins s σ H Q I h
  refine wpAny_IfExp (thn (hc pins s σ H _ I h) fun d s1 ⟨H1, I1, q1⟩ => ?_)
  cases d with
  | true => exact ha pins s1 σ H1 Q I1 q1
  | false => exact hb pins s1 σ H1 Q I1 q1
end
end L2
namespace L2
open PySem PySem.Spec PyProof.Rows
noncomputable def SqL (K : PySem.W.Frag) (H : Hp) (a : Addr) (xs : List V) : Prop :=
  Rd H a (.lst xs) ∨
    ∃ (o : Obj) (its : Array Value) (n : Nat), K.lookup a = some o ∧ o.cls = .type "list" ∧ o.dict = none ∧ o.data = .seq its n ∧ its.size ≤ sizeLine ∧ Vals xs its.toList
noncomputable def SqT (K : PySem.W.Frag) (H : Hp) (a : Addr) (xs : List V) : Prop :=
  Rd H a (.tup xs) ∨
    ∃ (o : Obj) (its : Array Value) (n : Nat), K.lookup a = some o ∧ o.cls = .type "tuple" ∧ o.data = .seq its n ∧ its.size ≤ sizeLine ∧ Vals xs its.toList
noncomputable def absV : Value → Option V
  | .none => some .non
  | .bool b => some (.bl b)
  | .int i _ => some (.int i)
  | .str x _ => some (.str x)
  | .bytes b _ => some (.byt b)
  | .float b _ => some (.flt b)
  | .ref a => some (.ref a)
  | .type n => some (.ty n)
  | _ => none
theorem RelV.abs {x : V} {u : Value} (r : RelV x u) : absV u = some x := by
  cases x with
  | non => cases r; rfl
  | bl _ => cases r; rfl
  | int _ => obtain ⟨t, rfl⟩ := r; rfl
  | str _ => obtain ⟨t, rfl⟩ := r; rfl
  | byt _ => obtain ⟨t, rfl⟩ := r; rfl
  | flt _ => obtain ⟨t, rfl⟩ := r; rfl
  | ref _ => cases r; rfl
  | ty _ => cases r; rfl
theorem RelV.inj {x y : V} {u : Value} (r : RelV x u) (q : RelV y u) : x = y := Option.some.inj (r.abs.symm.trans q.abs)
theorem Vals.inj {xs ys : List V} {us : List Value} (h : Vals xs us) (h' : Vals ys us) : xs = ys := by
  induction h generalizing ys with
  | nil => cases h'; rfl
  | cons r _ ih =>
    cases h' with
    | cons r' t' => rw [r.inj r', ih t']
section
variable {X : Cx} {pins : List (Addr × Obj)} {σ : St} {H : Hp} {s : Shared} {a : Addr} {xs ys : List V}
theorem SqL.of {K : PySem.W.Frag} (h : H a = some (.lst xs)) : SqL K H a xs := .inl (.inl h)
theorem SqT.of {K : PySem.W.Frag} (h : H a = some (.tup xs)) : SqT K H a xs := .inl (.inl h)
theorem Inv.list (I : Inv X pins σ H s) (h : SqL X.K H a xs) : ∃ its : List Value, Vals xs its ∧ PlainL s.heap a its.toArray ∧ xs.length ≤ sizeLine := by
  rcases h with h | ⟨o, its, n, hk, hc, hd, hs, hz, r⟩
  · obtain ⟨z, its, n, r, e⟩ := h.ok I.hok
    exact ⟨its, r, ⟨_, n, e, rfl, rfl, rfl⟩, z⟩
  · refine ⟨its.toList, r, ⟨o, n, I.kIn a o hk, hc, hd, by simpa using hs⟩, ?_⟩
    have e := r.length
    simp only [Array.length_toList] at e
    omega
theorem Inv.tuple (I : Inv X pins σ H s) (h : SqT X.K H a xs) : ∃ its : List Value, Vals xs its ∧ IsTup s.heap a its.toArray ∧ xs.length ≤ sizeLine := by
  rcases h with h | ⟨o, its, n, hk, hc, hs, hz, r⟩
  · obtain ⟨z, its, r, p⟩ := h.ok I.hok
    exact ⟨its, r, p, z⟩
  · refine ⟨its.toList, r, ⟨o, I.kIn a o hk, hc, n, by simpa using hs⟩, ?_⟩
    have e := r.length
    simp only [Array.length_toList] at e
    omega
theorem Inv.list_inj (I : Inv X pins σ H s) (h : SqL X.K H a xs) (h' : SqL X.K H a ys) : xs = ys := by
  obtain ⟨its, r, ⟨o, n, e, _, _, d⟩, _⟩ := I.list h
  obtain ⟨its', r', ⟨o', n', e', _, _, d'⟩, _⟩ := I.list h'
  rw [e] at e'; cases e'
  rw [d] at d'
  injection d' with d1 _
  have : its = its' := by simpa using congrArg Array.toList d1
  subst this
  exact r.inj r'
theorem Inv.tuple_inj (I : Inv X pins σ H s) (h : SqT X.K H a xs) (h' : SqT X.K H a ys) : xs = ys := by
  obtain ⟨its, r, ⟨o, e, _, n, d⟩, _⟩ := I.tuple h
  obtain ⟨its', r', ⟨o', e', _, n', d'⟩, _⟩ := I.tuple h'
  rw [e] at e'; cases e'
  rw [d] at d'
  injection d' with d1 _
  have : its = its' := by simpa using congrArg Array.toList d1
  subst this
  exact r.inj r'
end
noncomputable abbrev Cx.wish (X : Cx) (E : Value → Shared → Prop) : Cx := { X with xe := E }
noncomputable abbrev Cx.nox (X : Cx) : Cx := X.wish fun _ _ => False
theorem Cx.Ok.wish {X : Cx} (ok : X.Ok) (E : Value → Shared → Prop) : (X.wish E).Ok :=
  ⟨ok.mod, ok.kind, ok.glob, ok.blt, ok.above, ok.inj, ok.has, ok.cab, ok.hd, ok.frames, ok.stk, ok.exf, ok.bs, ok.bsz, ok.noex, ok.exfs, ok.funs, ok.frf⟩
theorem Cx.Ok.unwish {X : Cx} {E : Value → Shared → Prop} (ok : (X.wish E).Ok) : X.Ok :=
  ⟨ok.mod, ok.kind, ok.glob, ok.blt, ok.above, ok.inj, ok.has, ok.cab, ok.hd, ok.frames, ok.stk, ok.exf, ok.bs, ok.bsz, ok.noex, ok.exfs, ok.funs, ok.frf⟩
section
variable {X : Cx} {pins : List (Addr × Obj)} {σ : St} {H : Hp} {s : Shared} {E : Value → Shared → Prop}
theorem Inv.wish (I : Inv X pins σ H s) (E : Value → Shared → Prop) : Inv (X.wish E) pins σ H s := ⟨I.ok.wish E, I.os, I.bare, I.base, I.loc, I.cell, I.free, I.freeC, I.pin, I.hok, I.len⟩
theorem Inv.unwish (I : Inv (X.wish E) pins σ H s) : Inv X pins σ H s := ⟨I.ok.unwish, I.os, I.bare, I.base, I.loc, I.cell, I.free, I.freeC, I.pin, I.hok, I.len⟩
theorem SP.unwish {D : Ends} {f : Flow} {s' : Shared} (h : SP (X.wish E) pins D f s') : SP X pins D f s' := by
  cases f with
  | next => obtain ⟨σ', H', I, q⟩ := h; exact ⟨σ', H', I.unwish, q⟩
  | brk => obtain ⟨σ', H', I, q⟩ := h; exact ⟨σ', H', I.unwish, q⟩
  | cont => obtain ⟨σ', H', I, q⟩ := h; exact ⟨σ', H', I.unwish, q⟩
  | ret u => obtain ⟨v, σ', H', I, r, q⟩ := h; exact ⟨v, σ', H', I.unwish, r, q⟩
theorem PE.nox {e : Expr} {t : TE} (h : PE X.nox e t) : PE X e t := fun pins s σ H Q I hw =>
  wpAny_mono (h pins s σ H Q (I.wish _) hw) (fun _ _ ⟨v, H', I', r, q⟩ => ⟨v, H', I'.unwish, r, q⟩) fun _ _ z => False.elim z
theorem PT.nox {e : Expr} {t : TT} (h : PT X.nox e t) : PT X e t := fun pins s σ H Q I hw =>
  wpAny_mono (h pins s σ H Q (I.wish _) hw) (fun _ _ ⟨H', I', q⟩ => ⟨H', I'.unwish, q⟩) fun _ _ z => False.elim z
theorem PSs.nox {st : List Stmt} {t : TS} (h : PSs X.nox st t) : PSs X st t := fun pins s σ H D I hw =>
  wpAny_mono (h pins s σ H D (I.wish _) hw) (fun _ _ q => q.unwish) fun _ _ z => False.elim z
end
section
variable {X : Cx} {st : Stmt} {rest : List Stmt} {t u : TS} {e : Expr} {te : TE} {pos : Pos}
noncomputable def tNext : TS := fun D σ H => D.nx σ H
noncomputable def tSeq (t u : TS) : TS := fun D σ H => t { D with nx := u D } σ H
theorem pss_nil : PSs X [] tNext := fun _ _ σ H _ I h => wpAny_execs_nil ⟨σ, H, I, h⟩
theorem pss_cons (h1 : PS X st t) (h2 : PSs X rest u) : PSs X (st :: rest) (tSeq t u) := by
  intro pins s σ H D I h
  refine wpAny_execs_cons (thn (h1 pins s σ H { D with nx := u D } I h) fun f s1 q => ?_)
  cases f with
  | next =>
    obtain ⟨σ', H', I', q⟩ := q
    exact h2 pins s1 σ' H' D I' q
  | ret v => exact q
  | brk => exact q
  | cont => exact q
theorem pss_one (h1 : PS X st t) : PSs X [st] t := by
  intro pins s σ H D I h
  refine wpAny_execs_cons (thn (h1 pins s σ H D I h) fun f s1 q => ?_)
  cases f with
  | next => exact wpAny_execs_nil q
  | ret v => exact q
  | brk => exact q
  | cont => exact q
theorem Inv.quiet {pins : List (Addr × Obj)} {σ : St} {H : Hp} {s : Shared} (I : Inv X pins σ H s) : interactive X.env = false := by simp [interactive, I.ok.kind]
noncomputable def tDrop (te : TE) : TS := fun D σ H => te σ H fun _ H1 => D.nx σ H1
theorem ps_expr (he : PE X e te) (hs : swapsWith e none pos.line X.env = pure false := by rfl) : PS X (.Expr e pos) (tDrop te) := by
  intro pins s σ H D I h
  exact wpAny_Expr_any (thn (he pins s σ H _ I h) fun v s1 ⟨x, H1, I1, r1, q1⟩ => ⟨σ, H1, I1, q1⟩) I.quiet hs
noncomputable def tRet (te : TE) : TS := fun D σ H => te σ H D.rt
theorem ps_ret (he : PE X e te) : PS X (.Return (some e) pos) (tRet te) := by
  intro pins s σ H D I h
  exact wpAny_Return_some (thn (he pins s σ H _ I h) fun v s1 ⟨x, H1, I1, r1, q1⟩ => ⟨x, σ, H1, I1, r1, q1⟩)
noncomputable def tIfS (c : TT) (t u : TS) : TS := fun D σ H => c σ H fun b H1 => if b = true then t D σ H1 else u D σ H1
theorem ps_if {c : Expr} {a b : List Stmt} {tc : TT} (hc : PT X c tc) (ha : PSs X a t) (hb : PSs X b u) : PS X (.If c a b pos) (tIfS tc t u) := by
  intro pins s σ H D I h
  refine wpAny_If (thn (hc pins s σ H _ I h) fun d s1 ⟨H1, I1, q1⟩ => ?_)
  cases d with
  | true => exact ha pins s1 σ H1 D I1 q1
  | false => exact hb pins s1 σ H1 D I1 q1
end
noncomputable abbrev TG := V → St → Hp → (St → Hp → Prop) → Prop
noncomputable abbrev TGs := List V → St → Hp → (St → Hp → Prop) → Prop
noncomputable def PG (X : Cx) (target : Expr) (t : TG) : Prop :=
  ∀ (pins : List (Addr × Obj)) (s : Shared) (σ : St) (H : Hp) (v : V) (u : Value) (Q : St → Hp → Prop), Inv X pins σ H s → RelV v u → t v σ H Q →
    wpAny (model X.prog X.w) X.A (assign target X.env u) (fun _ s' => ∃ σ' H', Inv X pins σ' H' s' ∧ Q σ' H') X.xe s
noncomputable def PGs (X : Cx) (ts : List Expr) (t : TGs) : Prop :=
  ∀ (pins : List (Addr × Obj)) (s : Shared) (σ : St) (H : Hp) (vs : List V) (us : List Value) (Q : St → Hp → Prop), Inv X pins σ H s → Vals vs us → t vs σ H Q →
    wpAny (model X.prog X.w) X.A (assignInOrder ((assignEach ts X.env).map (·.2)) us) (fun _ s' => ∃ σ' H', Inv X pins σ' H' s' ∧ Q σ' H') X.xe s
noncomputable abbrev TSet := V → V → V → Hp → (Hp → Prop) → Prop
noncomputable def PSet (X : Cx) (t : TSet) : Prop :=
  ∀ (pins : List (Addr × Obj)) (s : Shared) (σ : St) (H : Hp) (o i v : V) (ov iv u : Value) (Q : Hp → Prop), Inv X pins σ H s → RelV o ov → RelV i iv → RelV v u → t o i v H Q →
    wpAny (model X.prog X.w) X.A (setItem ov iv u) (fun _ s' => ∃ H', Inv X pins σ H' s' ∧ Q H') X.xe s
section
variable {X : Cx} {pos : Pos}
noncomputable def gName (i : Nat) : TG := fun v σ H Q => Q (σ.set i (some v)) H
theorem pg_name {i : Nat} {x : Str} (hN : X.N.Nodup) (hi : X.N[i]? = some x) (hx : Loc X.env.scope x) (hf : X.fn x = true ∨ X.env.scope.names.lookup x = some .local := by first | exact .inl rfl | exact .inr rfl | assumption) : PG X (.Name x pos) (gName i) := by
  intro pins s σ H v u Q I r h
  exact wpAny_assign_Name (store_ok I hN hi hx r (fun s' I' => ⟨_, H, I', h⟩) hf)
noncomputable def gNil : TGs := fun vs σ H Q => vs = [] ∧ Q σ H
noncomputable def gCons (t : TG) (u : TGs) : TGs := fun vs σ H Q => ∃ v r, vs = v :: r ∧ t v σ H fun σ' H' => u r σ' H' Q
theorem pgs_nil : PGs X [] gNil := by
  intro pins s σ H vs us Q I r h
  obtain ⟨e, h⟩ := h
  subst e
  cases r
  exact assignInOrder_nil ⟨σ, H, I, h⟩
theorem pgs_cons {e : Expr} {es : List Expr} {t : TG} {u : TGs} (h1 : PG X e t) (h2 : PGs X es u)
    (hs : (assignEach (e :: es) X.env).map (·.2) = assign e X.env :: (assignEach es X.env).map (·.2) := by rfl) : PGs X (e :: es) (gCons t u) := by
  intro pins s σ H vs us Q I r h
  obtain ⟨v, vr, e1, h⟩ := h
  subst e1
  cases r with
  | cons r rr =>
    rw [hs]
    refine assignInOrder_cons (thn (h1 pins s σ H _ _ _ I r h) fun _ s1 ⟨σ1, H1, I1, q1⟩ => ?_)
    exact h2 pins s1 σ1 H1 _ _ Q I1 rr q1
noncomputable def gTup (K : PySem.W.Frag) (n : Nat) (t : TGs) : TG := fun v σ H Q => ∃ a xs, v = .ref a ∧ SqT K H a xs ∧ xs.length = n ∧ t xs σ H Q
theorem pg_tup {es : List Expr} {k : Nat} {t : TGs} {n : Nat} (hc : X.calm = true) (h : PGs X es t)
    (hn : (assignEach es X.env).length = n := by rfl) (hst : (assignEach es X.env).findIdx? (·.1) = none := by rfl) : PG X (.Tuple es k pos) (gTup X.K n t) := by
  intro pins s σ H v u Q I r hw
  obtain ⟨a, xs, e1, hq, hl, hw⟩ := hw
  subst e1
  cases r
  obtain ⟨its, rv, ht, hz⟩ := I.tuple hq
  refine assign_Tuple_tuple (I.ok.hd hc) ht (by simp [hn, ← hl, rv.length]) hst fun h' hx => ?_
  have I1 : Inv X pins σ H { s with heap := h' } := I.kept (t' := s.toks) fun b o e => hx b o (Nat.ne_of_lt (Heap.lt_size e)) e
  exact h pins _ σ H xs _ Q I1 (by simpa using rv) hw
noncomputable def gSub (to ti : TE) (t : TSet) : TG := fun v σ H Q => to σ H fun o H1 => ti σ H1 fun i H2 => t o i v H2 fun H3 => Q σ H3
theorem pg_sub {o i : Expr} {to ti : TE} {t : TSet} (ho : PE X o to) (hi : PE X i ti) (hs : PSet X t)
    (ha : ∀ v, assign (.Subscript o i pos) X.env v = (do
      let ov ← holding [v] (eval o X.env)
      let iv ← holding [v, ov] (eval i X.env)
      standAt pos
      holding [v, ov, iv] (setItem ov iv v)
      release [v, ov, iv] []) := by intro _; rfl) : PG X (.Subscript o i pos) (gSub to ti t) := by
  intro pins s σ H v u Q I r h
  rw [ha]
  refine wpAny_bind (wpAny_holding (thn (ho pins s σ H _ I h) fun ov s1 ⟨x, H1, I1, r1, q1⟩ => ?_))
  refine wpAny_bind (wpAny_holding (thn (hi pins s1 σ H1 _ I1 q1) fun iv s2 ⟨y, H2, I2, r2, q2⟩ => ?_))
  refine wpAny_bind (wpAny_standAt (wpAny_bind (wpAny_holding (thn (hs pins s2 σ H2 x y v ov iv u _ I2 r1 r2 r q2) fun _ s3 ⟨H3, I3, q3⟩ => ?_))))
  exact wpAny_release ⟨σ, H3, I3, q3⟩
noncomputable def tAsg (te : TE) (g : TG) : TS := fun D σ H => te σ H fun x H1 => g x σ H1 D.nx
theorem ps_asg {tg e : Expr} {te : TE} {g : TG} (he : PE X e te) (hg : PG X tg g) (hs : swapsWithSole [tg] e pos.line X.env = pure false := by rfl) (hw : swappedStores [tg] e X.env = pure none := by rfl)
    (h1 : (assignEach [tg] X.env).map (·.2) = [assign tg X.env] := by rfl) : PS X (.Assign [tg] e pos) (tAsg te g) := by
  intro pins s σ H D I h
  refine wpAny_Assign_stores (thn (he pins s σ H _ I h) fun v s1 ⟨x, H1, I1, r1, q1⟩ => ?_) hs hw
  rw [h1]
  exact thn (hg pins s1 σ H1 x v _ I1 r1 q1) fun _ s2 q => q
theorem ps_set {i : Nat} {x : Str} {e : Expr} {te : TE} {pos' : Pos} (hN : X.N.Nodup) (hi : X.N[i]? = some x) (hx : Loc X.env.scope x) (he : PE X e te) (hs : swapsWith e (some (.Name x pos')) pos.line X.env = pure false := by rfl) (hf : X.fn x = true ∨ X.env.scope.names.lookup x = some .local := by first | exact .inl rfl | exact .inr rfl | assumption) :
    PS X (.Assign [.Name x pos'] e pos) (tAsg te (gName i)) := by
  intro pins s σ H D I h
  refine wpAny_Assign_Name (thn (he pins s σ H _ I h) fun v s1 ⟨y, H1, I1, r1, q1⟩ => ?_) hs
  exact store_ok I1 hN hi hx r1 (fun s2 I2 => ⟨_, H1, I2, q1⟩) hf
end
section
variable {X : Cx} {pos : Pos}
noncomputable def tWhile (c : TT) (tb : TS) : TS := fun D σ H => ∃ W : Nat → St → Hp → Prop, (∃ m, W m σ H) ∧ ∀ m σ H, W m σ H →
  c σ H fun b H1 => if b = true then ∃ N : St → Hp → Prop, (∀ σ' H', N σ' H' → ∃ m', m' < m ∧ W m' σ' H') ∧ tb { D with nx := N, ct := N, bk := D.nx } σ H1 else D.nx σ H1
theorem ps_while {c : Expr} {body : List Stmt} {tc : TT} {tb : TS} (hp : PassesOwn (model X.prog X.w) X.A X.env X.xe) (hc : PT X c tc) (hb : PSs X body tb) : PS X (.While c body [] pos) (tWhile tc tb) := by
  intro pins s σ H D I h
  obtain ⟨W, ⟨m0, w0⟩, turn⟩ := h
  refine wpAny_While (codeAny_whileLoop (fun n s' => ∃ σ' H', Inv X pins σ' H' s' ∧ W n σ' H') ?_ m0 ⟨σ, H, I, w0⟩)
  rintro n s1 ⟨σ1, H1, I1, w1⟩
  refine wpAny_passesOwn hp (thn (hc pins s1 σ1 H1 _ I1 (turn n σ1 H1 w1)) fun b s2 ⟨H2, I2, q2⟩ => ?_)
  cases b with
  | true =>
    obtain ⟨N, hN, q2⟩ := q2
    rw [if_pos rfl]
    refine wpAny_passesOwn hp (thn (hb pins s2 σ1 H2 _ I2 q2) fun f s3 q3 => ?_)
    cases f with
    | next =>
      obtain ⟨σ3, H3, I3, n3⟩ := q3
      obtain ⟨m', hm, w3⟩ := hN σ3 H3 n3
      exact ⟨m', hm, σ3, H3, I3, w3⟩
    | cont =>
      obtain ⟨σ3, H3, I3, n3⟩ := q3
      obtain ⟨m', hm, w3⟩ := hN σ3 H3 n3
      exact ⟨m', hm, σ3, H3, I3, w3⟩
    | brk => exact q3
    | ret v => exact q3
  | false =>
    rw [if_neg Bool.false_ne_true]
    exact wpAny_execs_nil ⟨σ1, H2, I2, q2⟩
end
structure It where
  go : Nat → Hp → Prop
  yld : Nat → Hp → V → Hp → Prop
  stop : Nat → Hp → Prop
noncomputable def FpOk (X : Cx) (pins : List (Addr × Obj)) (H : Hp) (b : Addr) : Prop :=
  H b = none ∧ b ≠ X.env.locals ∧ b ∉ X.fs ∧ (b ∈ X.ex ∨ X.s₀.heap.objs.size ≤ b) ∧ (∀ x c, X.env.cells.lookup x = some c → c ≠ b) ∧ ∀ p ∈ X.pn ++ pins, p.1 ≠ b
theorem Inv.fpOk {X : Cx} {pins : List (Addr × Obj)} {σ : St} {H H' : Hp} {s : Shared} {b : Addr} (I : Inv X pins σ H s) (hb : s.heap.objs.size ≤ b) (hn : H' b = none) : FpOk X pins H' b := by
  refine ⟨hn, Nat.ne_of_gt (Nat.lt_of_lt_of_le I.lt hb), I.nofs hb, .inr (Nat.le_trans I.sz hb), fun x c e z => ?_, fun p hp z => ?_⟩
  · obtain ⟨v, q⟩ := I.cell x c e
    exact absurd (Nat.lt_of_lt_of_le q.lt (by rw [z]; exact hb)) (Nat.lt_irrefl _)
  · exact absurd (Nat.lt_of_lt_of_le (Heap.lt_size (I.pin p hp).1) (by rw [z]; exact hb)) (Nat.lt_irrefl _)
structure Turn (P : Program) (w : World) (K : PySem.W.Frag) (tg : Expr) (J : It) (fp : List Addr) (it : Addr) (tn : Nat → Heap → Prop) : Prop where
  mem : it ∈ fp
  obj : ∀ i h, tn i h → ∀ b ∈ fp, ∃ o, h.get? b = some o ∧ ∀ v, o.data ≠ .cell v
  keep : ∀ i h h', tn i h → (∀ b ∈ fp, ∀ o, h.get? b = some o → h'.get? b = some o) → tn i h'
  item : ∀ (X : Cx), X.prog = P → X.w = w → X.K = K → X.calm = true → ∀ (i : Nat) (pins : List (Addr × Obj)) (s : Shared) (σ : St) (H : Hp) (E : Value → Shared → Prop), Inv X pins σ H s → (∀ b ∈ fp, FpOk X pins H b) → tn i s.heap → J.go i H →
    wpAny (model P w) X.A (pyNext (.ref it)) (fun r s1 => ∃ u, r = some u ∧
      wpAny (model P w) X.A (letOwnedTupleGo tg (.ref it) u) (fun _ s2 => ∃ x H', Inv X pins σ H' s2 ∧ RelV x u ∧ J.yld i H x H' ∧ tn (i + 1) s2.heap ∧ ∀ b ∈ fp, H' b = none) E s1) E s
  done : ∀ (X : Cx), X.prog = P → X.w = w → X.K = K → X.calm = true → ∀ (i : Nat) (pins : List (Addr × Obj)) (s : Shared) (σ : St) (H : Hp) (E : Value → Shared → Prop), Inv X pins σ H s → (∀ b ∈ fp, FpOk X pins H b) → tn i s.heap → J.stop i H →
    wpAny (model P w) X.A (pyNext (.ref it)) (fun r s1 => r = none ∧ Inv X pins σ H s1) E s
  self : ∀ (A : Around) (i : Nat) (s : Shared) (Q : Value → Shared → Prop) (E : Value → Shared → Prop), tn i s.heap → Q (.ref it) s → wpAny (model P w) A (pyIter (.ref it)) Q E s
noncomputable abbrev TI := St → Hp → (It → Hp → Prop) → Prop
noncomputable def PIE (X : Cx) (pins : List (Addr × Obj)) (σ : St) (tg : Expr) (R : It → Hp → Prop) (itv : Value) (s2 : Shared) : Prop :=
  ∃ (it : Addr) (fp : List Addr) (tn : Nat → Heap → Prop) (J : It) (H' : Hp), itv = .ref it ∧ Inv X pins σ H' s2 ∧ Turn X.prog X.w X.K tg J fp it tn ∧ tn 0 s2.heap ∧ (∀ b ∈ fp, FpOk X pins H' b) ∧ R J H'
noncomputable def PI (X : Cx) (tg iter : Expr) (wi : TI) : Prop :=
  ∀ (pins : List (Addr × Obj)) (s : Shared) (σ : St) (H : Hp) (R : It → Hp → Prop), Inv X pins σ H s → wi σ H R →
    wpAny (model X.prog X.w) X.A (eval iter X.env) (fun v s1 => wpAny (model X.prog X.w) X.A (pyIter v) (PIE X pins σ tg R) X.xe s1) X.xe s
theorem go_of {M : Model} {A : Around} {E : Value → Shared → Prop} {s : Shared} {tg : Expr} {it : Addr} {u : Value} {o : Obj} {n : String} {vs : Array Value} {Q : Unit → Shared → Prop} (ho : s.heap.get? it = some o) (hc : o.cls = .type n) (hd : o.data = .fields vs)
    (hn : ["enumerate", "zip", "dict_itemiterator", "dict_reverseitemiterator", "odict_iterator", "itertools.zip_longest", "itertools.pairwise"].contains n = false) (hQ : Q () s) : wpAny M A (letOwnedTupleGo tg (.ref it) u) Q E s := by
  unfold letOwnedTupleGo
  cases tg <;> first
    | exact wpAny_pure hQ
    | (cases u <;> first
        | exact wpAny_pure hQ
        | (refine wpAny_bind (wpAny_load ho ?_)
           rw [hc, hd]
           show wpAny M A (if (["enumerate", "zip", "dict_itemiterator", "dict_reverseitemiterator", "odict_iterator", "itertools.zip_longest", "itertools.pairwise"].contains n && vs[0]? == some (rawInt _)) = true then _ else _) Q E s
           rw [if_neg (by intro h; rw [hn, Bool.false_and] at h; cases h)]
           exact wpAny_pure hQ))
noncomputable def Itl (K : PySem.W.Frag) (a : Addr) : It :=
  ⟨fun i H => ∃ xs x, SqL K H a xs ∧ xs[i]? = some x, fun i H x H' => H' = H ∧ ∀ xs, SqL K H a xs → xs[i]? = some x, fun i H => ∃ xs, SqL K H a xs ∧ xs.length ≤ i⟩
noncomputable def Itr (lo : Int) (n : Nat) : It := ⟨fun i _ => i < n, fun i H x H' => H' = H ∧ x = .int (lo + i), fun i _ => n ≤ i⟩
theorem turn_list {P : Program} {w : World} {K : PySem.W.Frag} {tg : Expr} (a it : Addr) : Turn P w K tg (Itl K a) [it] it (fun i h => h.IsListIter it a i) where
  mem := by simp
  obj := fun i h st b hb => by
    have e : b = it := by simpa using hb
    subst e
    obtain ⟨o, e, c, d⟩ := st
    exact ⟨o, e, fun v z => by rw [d] at z; cases z⟩
  keep := fun i h h' st k => st.at fun o e => k it (by simp) o e
  item := by
    intro X hP hw hK hc i pins s σ H E I hf st hg
    subst hP hw hK
    obtain ⟨xs, x, hq, hx⟩ := hg
    obtain ⟨its, rv, p, hz⟩ := I.list hq
    obtain ⟨u, hu, ru⟩ := rv.get hx
    obtain ⟨f0, f1, f2, f3, f4, f5⟩ := hf it (by simp)
    refine wpAny_pyNext_list_item st p.isList (x := u) (by simpa using hu) fun h' st' sb => ?_
    have I1 : Inv X pins σ H { s with heap := h' } := I.turned (t' := s.toks) (fun b o hb e => (sb.2 b hb).trans e) f0 f1 f3 f4 f5
    obtain ⟨o, e, c, d⟩ := id st'
    exact ⟨u, rfl, go_of (s := { s with heap := h' }) e c d (by decide) ⟨x, H, I1, ru, ⟨rfl, fun ys hy => by rw [I.list_inj hy hq]; exact hx⟩, st', fun b hb => (hf b hb).1⟩⟩
  done := by
    intro X hP hw hK hc i pins s σ H E I hf st hg
    subst hP hw hK
    obtain ⟨xs, hq, hx⟩ := hg
    obtain ⟨its, rv, p, hz⟩ := I.list hq
    obtain ⟨f0, f1, f2, f3, f4, f5⟩ := hf it (by simp)
    have hl := rv.length
    exact wpAny_pyNext_list_end (I.ok.hd hc) st p.isList (by simp; omega) fun h' eb => ⟨rfl, I.turned (t' := s.toks) (fun b o hb e => eb b o hb e) f0 f1 f3 f4 f5⟩
  self := fun _ _ _ _ _ st h => wpAny_pyIter_listiter st h
theorem turn_range {P : Program} {w : World} {K : PySem.W.Frag} {tg : Expr} (it : Addr) (lo : Int) (n : Nat) : Turn P w K tg (Itr lo n) [it] it (fun i h => IsRangeIter h it (lo + (i : Nat) * 1) ((n : Int) - (i : Nat)) 1) where
  mem := by simp
  obj := fun i h st b hb => by
    have e : b = it := by simpa using hb
    subst e
    exact ⟨_, st, fun v z => by
      have z' : Data.fields _ = Data.cell v := z
      cases z'⟩
  keep := fun i h h' st k => k it (by simp) _ st
  item := by
    intro X hP hw hK hc i pins s σ H E I hf st hg
    subst hP hw hK
    obtain ⟨f0, f1, f2, f3, f4, f5⟩ := hf it (by simp)
    have W := Walks.range (prog := X.prog) (w := X.w) (I.ok.hd hc) it lo 1 n
    refine W.item i s _ _ hg st fun v h' tk hv st' kk => ?_
    obtain ⟨t, rfl⟩ := hv
    have I1 : Inv X pins σ H { s with heap := h', toks := tk } := I.turned (fun b o hb e => kk b o (by simpa using hb) e) f0 f1 f3 f4 f5
    refine ⟨_, rfl, go_of (s := { s with heap := h', toks := tk }) (n := "range_iterator") st' rfl rfl (by decide) ⟨.int (lo + i), H, I1, ⟨t, ?_⟩, ⟨rfl, rfl⟩, st', fun b hb => (hf b hb).1⟩⟩
    rw [Int.mul_one]
  done := by
    intro X hP hw hK hc i pins s σ H E I hf st hg
    subst hP hw hK
    obtain ⟨f0, f1, f2, f3, f4, f5⟩ := hf it (by simp)
    exact wpAny_pyNext_range_end (I.ok.hd hc) st (by have : n ≤ i := hg; omega) fun h' eb => ⟨rfl, I.turned (t' := s.toks) (fun b o hb e => eb b o hb e) f0 f1 f3 f4 f5⟩
  self := fun _ _ _ _ _ st h => wpAny_pyIter_rangeiter st h
end L2
namespace L2
open PySem PySem.Spec PyProof.Rows
section
variable {X : Cx} {tg : Expr}
noncomputable def iList (K : PySem.W.Frag) (tl : TE) : TI := fun σ H R => tl σ H fun x H1 => ∃ a, x = .ref a ∧ (∃ xs, SqL K H1 a xs) ∧ R (Itl K a) H1
theorem pi_list {l : Expr} {tl : TE} (hl : PE X l tl) : PI X tg l (iList X.K tl) := by
  intro pins s σ H R I h
  refine thn (hl pins s σ H _ I h) fun v s1 ⟨x, H1, I1, r1, q1⟩ => ?_
  obtain ⟨a, e, ⟨xs, hq⟩, q⟩ := q1
  subst e
  cases r1
  obtain ⟨its, rv, p, hz⟩ := I1.list hq
  refine wpAny_pyIter_list p.isList ?_
  refine ⟨s1.heap.objs.size, [s1.heap.objs.size], _, _, H1, rfl, I1.kept (t' := s1.toks) fun b o e => Heap.get?_push_of_some _ e, turn_list a _, ⟨_, Heap.get?_push_size _ rfl, rfl, rfl⟩, fun b hb => ?_, q⟩
  have e : b = s1.heap.objs.size := by simpa using hb
  subst e
  exact I1.fpOk (Nat.le_refl _) (I1.hok.fresh (Nat.le_refl _))
theorem range_it {pins : List (Addr × Obj)} {σ : St} {H : Hp} {s : Shared} {R : It → Hp → Prop} {E : Value → Shared → Prop} {lo hi : Int} {t u v : Tok} {tk : Nat} (I : Inv X pins σ H s) (h1 : -(2 ^ 62) ≤ lo) (h2 : lo < 2 ^ 62) (h3 : -(2 ^ 62) ≤ hi) (h4 : hi < 2 ^ 62)
    (q : R (Itr lo (hi - lo).toNat) H) : wpAny (model X.prog X.w) X.A (pyIter (.ref s.heap.objs.size)) (PIE X pins σ tg R) E { s with heap := s.heap.push { cls := .type "range", data := .fields #[.int lo t, .int hi u, .int 1 v] }, toks := tk } := by
  refine wpAny_pyIter_range (IsRange.new ..) (small_one h1 h2 h3 h4) ?_
  have I1 : Inv X pins σ H { s with heap := s.heap.push { cls := .type "range", data := .fields #[.int lo t, .int hi u, .int 1 v] }, toks := tk } := I.kept fun b o e => Heap.get?_push_of_some _ e
  refine ⟨(s.heap.push { cls := .type "range", data := .fields #[.int lo t, .int hi u, .int 1 v] }).objs.size, [(s.heap.push { cls := .type "range", data := .fields #[.int lo t, .int hi u, .int 1 v] }).objs.size], _, _, H, rfl,
    I1.kept (t' := tk) fun b o e => Heap.get?_push_of_some _ e, turn_range _ lo (hi - lo).toNat, ?_, fun b hb => ?_, q⟩
  · have e1 : lo + ((0 : Nat) : Int) * 1 = lo := by simp
    have e2 : (((hi - lo).toNat : Nat) : Int) - ((0 : Nat) : Int) = Builtin.Range.rangeSize lo hi 1 := by rw [rangeSize_one]; split <;> omega
    show IsRangeIter _ _ (lo + ((0 : Nat) : Int) * 1) ((((hi - lo).toNat : Nat) : Int) - ((0 : Nat) : Int)) 1
    rw [e1, e2]
    exact Heap.get?_push_size _ rfl
  · have e : b = (s.heap.push { cls := .type "range", data := .fields #[.int lo t, .int hi u, .int 1 v] }).objs.size := by simpa using hb
    subst e
    exact I1.fpOk (Nat.le_refl _) (I1.hok.fresh (Nat.le_refl _))
noncomputable def iRng1 (ta : TA) : TI := fun σ H R => ta σ H fun vs H1 => ∃ j : Int, vs = [.int j] ∧ -(2 ^ 62) ≤ j ∧ j < 2 ^ 62 ∧ R (Itr 0 j.toNat) H1
noncomputable def iRng2 (ta : TA) : TI := fun σ H R => ta σ H fun vs H1 => ∃ i j : Int, vs = [.int i, .int j] ∧ (-(2 ^ 62) ≤ i ∧ i < 2 ^ 62 ∧ -(2 ^ 62) ≤ j ∧ j < 2 ^ 62) ∧ R (Itr i (j - i).toNat) H1
theorem pi_range1 {a : Expr} {ta : TA} {p pos : Pos} (hg : Gl X "range") (hm : X.mg "range" = none) (ha : PA X [a] ta) (hs : starEach [a] X.env = [(false, eval a X.env)] := by rfl) : PI X tg (.Call (.Name "range" p) [a] [] pos) (iRng1 ta) := by
  intro pins s σ H R I h
  refine Call_ (ld_blt I hg hm boot_range (PyProof.Rows.callWith_type1 (thn (ha pos pins s σ H _ I h) fun us s1 ⟨vs, H1, I1, r1, q1⟩ => ?_) hs rfl))
  obtain ⟨j, e, q1, q2, q⟩ := q1
  subst e
  cases r1 with
  | cons r rr =>
    cases rr
    obtain ⟨t, rfl⟩ := r
    exact call_range_1 (range_it I1 (by omega) (by omega) q1 q2 (by simpa using q))
theorem pi_range2 {a b : Expr} {ta : TA} {p pos : Pos} (hg : Gl X "range") (hm : X.mg "range" = none) (ha : PA X [a, b] ta) (hs : starEach [a, b] X.env = [(false, eval a X.env), (false, eval b X.env)] := by rfl) (hs2 : starEach [b] X.env = [(false, eval b X.env)] := by rfl) :
    PI X tg (.Call (.Name "range" p) [a, b] [] pos) (iRng2 ta) := by
  intro pins s σ H R I h
  refine Call_ (ld_blt I hg hm boot_range (PyProof.Rows.callWith_type1 (thn (ha pos pins s σ H _ I h) fun us s1 ⟨vs, H1, I1, r1, q1⟩ => ?_) (by rw [hs, hs2]) (by rw [hs2]; rfl)))
  obtain ⟨i, j, e, ⟨q1, q2, q3, q4⟩, q⟩ := q1
  subst e
  cases r1 with
  | cons r rr =>
    cases rr with
    | cons r' rr =>
      cases rr
      obtain ⟨t, rfl⟩ := r
      obtain ⟨t', rfl⟩ := r'
      exact call_range_2 (range_it I1 q1 q2 q3 q4 q)
noncomputable def tFor (wi : TI) (g : TG) (tb : TS) : TS := fun D σ H => wi σ H fun J H1 => ∃ W : Nat → Nat → St → Hp → Prop, (∃ m, W 0 m σ H1) ∧ ∀ i m σ H, W i m σ H →
  (J.stop i H ∧ D.nx σ H) ∨ (J.go i H ∧ ∃ N : St → Hp → Prop, (∀ σ' H', N σ' H' → ∃ m', m' < m ∧ W (i + 1) m' σ' H') ∧ ∀ x H', J.yld i H x H' → g x σ H' fun σ2 H2 => tb { D with nx := N, ct := N, bk := D.nx } σ2 H2)
noncomputable def pinsAt (fp : List Addr) (h : Heap) : List (Addr × Obj) := fp.filterMap fun b => (h.get? b).map fun o => (b, o)
theorem mem_pinsAt {fp : List Addr} {h : Heap} {b : Addr} {o : Obj} (hb : b ∈ fp) (e : h.get? b = some o) : (b, o) ∈ pinsAt fp h := List.mem_filterMap.mpr ⟨b, hb, by rw [e]; rfl⟩
theorem of_pinsAt {fp : List Addr} {h : Heap} {p : Addr × Obj} (hp : p ∈ pinsAt fp h) : p.1 ∈ fp ∧ h.get? p.1 = some p.2 := by
  obtain ⟨b, hb, e⟩ := List.mem_filterMap.mp hp
  cases q : h.get? b with
  | none => rw [q] at e; cases e
  | some o =>
    rw [q] at e
    have e' : (b, o) = p := Option.some.inj e
    subst e'
    exact ⟨hb, q⟩
theorem Inv.pinned {pins : List (Addr × Obj)} {σ : St} {H : Hp} {s : Shared} {fp : List Addr} (I : Inv X pins σ H s) (hf : ∀ b ∈ fp, FpOk X pins H b) (ho : ∀ b ∈ fp, ∃ o, s.heap.get? b = some o ∧ ∀ v, o.data ≠ .cell v) : Inv X (pins ++ pinsAt fp s.heap) σ H s :=
  I.pins_of fun p hp => (List.mem_append.mp hp).elim (fun z => I.pin p (List.mem_append_right _ z)) fun z => by
    obtain ⟨hb, e⟩ := of_pinsAt z
    obtain ⟨f0, f1, f2, _⟩ := hf p.1 hb
    obtain ⟨o, e', d⟩ := ho p.1 hb
    rw [e] at e'; cases e'
    exact ⟨e, f0, f1, f2, d⟩
theorem Inv.unpinned {pins pl : List (Addr × Obj)} {σ : St} {H : Hp} {s : Shared} (I : Inv X (pins ++ pl) σ H s) : Inv X pins σ H s := I.pins_of fun p hp => I.pin p (List.mem_append_right _ (List.mem_append_left _ hp))
theorem ps_for {iter : Expr} {body : List Stmt} {wi : TI} {g : TG} {tb : TS} {pos : Pos} (hp : PassesOwn (model X.prog X.w) X.A X.env X.xe) (hc : X.calm = true) (hi : PI X tg iter wi) (hg : PG X tg g) (hb : PSs X body tb)
    (hs : ∀ x, foldedSetIterable iter X.env x = pure x := by intro _; rfl) : PS X (.For tg iter body [] pos) (tFor wi g tb) := by
  intro pins s σ H D I h
  refine wpAny_For (thn (hi pins s σ H _ I h) fun v s1 h1 => thn h1 fun itv s2 h2 => ?_) hs
  obtain ⟨it, fp, tn, J, H2, e, I2, T, st2, f2, W, ⟨m0, w0⟩, turn⟩ := h2
  subst e
  -- what stays true of the iterator's objects through the loop
  have stat : ∀ {H' : Hp}, (∀ b ∈ fp, H' b = none) → ∀ b ∈ fp, FpOk X pins H' b := fun hn b hb => ⟨hn b hb, (f2 b hb).2⟩
  refine codeAny_forLoop_any (fun n s' => ∃ i σ' H', Inv X pins σ' H' s' ∧ tn i s'.heap ∧ (∀ b ∈ fp, H' b = none) ∧ W i n σ' H') ?_ m0 ⟨0, σ, H2, I2, st2, fun b hb => (f2 b hb).1, w0⟩
  rintro n s3 ⟨i, σ3, H3, I3, st3, fr3, w3⟩
  rcases turn i n σ3 H3 w3 with ⟨stop, qn⟩ | ⟨go, N, hN, step⟩
  · refine wpAny_passesOwn hp (thn (T.done X rfl rfl rfl hc i pins s3 σ3 H3 X.xe I3 (stat fr3) st3 stop) fun r s4 ⟨hr, I4⟩ => ?_)
    subst hr
    exact wpAny_execs_nil ⟨σ3, H3, I4, qn⟩
  · refine wpAny_passesOwn hp (thn (T.item X rfl rfl rfl hc i pins s3 σ3 H3 X.xe I3 (stat fr3) st3 go) fun r s4 ⟨u, hr, h4⟩ => ?_)
    subst hr
    refine wpAny_passesOwn hp (thn h4 fun _ s5 ⟨x, H5, I5, r5, y5, st5, fr5⟩ => ?_)
    have I5' := I5.pinned (stat fr5) (T.obj _ _ st5)
    refine wpAny_passesOwn hp (thn (hg _ s5 σ3 H5 x u _ I5' r5 (step x H5 y5)) fun _ s6 ⟨σ6, H6, I6, q6⟩ => ?_)
    refine wpAny_passesOwn hp (thn (hb _ s6 σ6 H6 _ I6 q6) fun f s7 q7 => ?_)
    have again : ∀ {σ7 : St} {H7 : Hp}, Inv X (pins ++ pinsAt fp s5.heap) σ7 H7 s7 → N σ7 H7 → ∃ m, m < n ∧ ∃ i σ' H', Inv X pins σ' H' s7 ∧ tn i s7.heap ∧ (∀ b ∈ fp, H' b = none) ∧ W i m σ' H' := fun {σ7 H7} I7 n7 => by
      obtain ⟨m', hm, w7⟩ := hN σ7 H7 n7
      refine ⟨m', hm, i + 1, σ7, H7, I7.unpinned, T.keep _ _ _ st5 fun b hb o e => (I7.pin (b, o) (List.mem_append_right _ (List.mem_append_right _ (mem_pinsAt hb e)))).1, fun b hb => ?_, w7⟩
      obtain ⟨o, e, d⟩ := T.obj _ _ st5 b hb
      exact (I7.pin (b, o) (List.mem_append_right _ (List.mem_append_right _ (mem_pinsAt hb e)))).2.1
    cases f with
    | next => obtain ⟨σ7, H7, I7, n7⟩ := q7; exact again I7 n7
    | cont => obtain ⟨σ7, H7, I7, n7⟩ := q7; exact again I7 n7
    | brk => obtain ⟨σ7, H7, I7, q7⟩ := q7; exact ⟨σ7, H7, I7.unpinned, q7⟩
    | ret v => obtain ⟨x7, σ7, H7, I7, r7, q7⟩ := q7; exact ⟨x7, σ7, H7, I7.unpinned, r7, q7⟩
end
end L2
namespace L2
open PySem PySem.Spec PyProof.Rows
noncomputable abbrev R2 := V → V → Hp → VK → Prop
noncomputable def OpR (X : Cx) (f : Value → Value → Sem Value) (r : R2) : Prop :=
  ∀ (pins : List (Addr × Obj)) (s : Shared) (σ : St) (H : Hp) (x y : V) (v u : Value) (Q : VK), Inv X pins σ H s → RelV x v → RelV y u → r x y H Q →
    wpAny (model X.prog X.w) X.A (f v u) (EP X pins σ Q) X.xe s
noncomputable def UnR (X : Cx) (f : Value → Sem Value) (r : V → Hp → VK → Prop) : Prop :=
  ∀ (pins : List (Addr × Obj)) (s : Shared) (σ : St) (H : Hp) (x : V) (v : Value) (Q : VK), Inv X pins σ H s → RelV x v → r x H Q →
    wpAny (model X.prog X.w) X.A (f v) (EP X pins σ Q) X.xe s
noncomputable def CallR (X : Cx) (f : Value) (r : List V → Hp → VK → Prop) : Prop :=
  ∀ (pins : List (Addr × Obj)) (s : Shared) (σ : St) (H : Hp) (xs : List V) (us : List Value) (Q : VK), Inv X pins σ H s → Vals xs us → r xs H Q →
    wpAny (model X.prog X.w) X.A (call f us) (EP X pins σ Q) X.xe s
noncomputable def TruR (X : Cx) (r : V → Hp → (Bool → Hp → Prop) → Prop) : Prop :=
  ∀ (pins : List (Addr × Obj)) (s : Shared) (σ : St) (H : Hp) (x : V) (v : Value) (Q : Bool → Hp → Prop), Inv X pins σ H s → RelV x v → r x H Q →
    wpAny (model X.prog X.w) X.A (truthy v) (TP X pins σ Q) X.xe s
noncomputable def tOp (r : R2) (ta tb : TE) : TE := fun σ H Q => ta σ H fun x H1 => tb σ H1 fun y H2 => r x y H2 Q
noncomputable def tUn (r : V → Hp → VK → Prop) (ta : TE) : TE := fun σ H Q => ta σ H fun x H1 => r x H1 Q
noncomputable def rI (C : Int → Int → Prop) (g : Int → Int → V) : R2 := fun x y H Q => ∃ i j, x = .int i ∧ y = .int j ∧ C i j ∧ Q (g i j) H
noncomputable def rI0 (g : Int → Int → V) : R2 := fun x y H Q => ∃ i j, x = .int i ∧ y = .int j ∧ Q (g i j) H
noncomputable def rU (g : Int → V) : V → Hp → VK → Prop := fun x H Q => ∃ i, x = .int i ∧ Q (g i) H
section
variable {X : Cx} {a b c : Expr} {ta tb tc : TE} {pos : Pos}
theorem binT (ha : PE X a ta) (hb : PE X b tb) {pins : List (Addr × Obj)} {s : Shared} {σ : St} {H : Hp} {R : V → V → Hp → Prop} (I : Inv X pins σ H s)
    (h : ta σ H fun x H1 => tb σ H1 fun y H2 => R x y H2) {Q : Value → Shared → Prop} {f : Value → Value → Sem Value}
    (hf : ∀ v u s2 x y H2, Inv X pins σ H2 s2 → RelV x v → RelV y u → R x y H2 → wpAny (model X.prog X.w) X.A (f v u) Q X.xe s2) :
    wpAny (model X.prog X.w) X.A (eval a X.env) (fun v s₁ => wpAny (model X.prog X.w) X.A (eval b X.env) (fun u s₂ => wpAny (model X.prog X.w) X.A (f v u) Q X.xe s₂) X.xe s₁) X.xe s := by
  refine thn (ha pins s σ H _ I h) fun v s1 ⟨x, H1, I1, r1, q1⟩ => ?_
  refine thn (hb pins s1 σ H1 _ I1 q1) fun u s2 ⟨y, H2, I2, r2, q2⟩ => ?_
  exact hf v u s2 x y H2 I2 r1 r2 q2
theorem pe_op {op : Operator} {r : R2} (ho : OpR X (binaryOp op) r) (ha : PE X a ta) (hb : PE X b tb) : PE X (.BinOp a op b pos) (tOp r ta tb) := by
  intro pins s σ H Q I h
  exact wpAny_BinOp (binT ha hb I h fun v u s2 x y H2 I2 rx ry q => ho pins s2 σ H2 x y v u Q I2 rx ry q)
theorem pe_un {op : UnaryOp} {r : V → Hp → VK → Prop} (ho : UnR X (unaryOp op) r) (ha : PE X a ta) : PE X (.UnaryOp op a pos) (tUn r ta) := by
  intro pins s σ H Q I h
  exact UnaryOp_ (thn (ha pins s σ H _ I h) fun v s1 ⟨x, H1, I1, r1, q1⟩ => ho pins s1 σ H1 x v Q I1 r1 q1)
theorem opI {f : Value → Value → Sem Value} {C : Int → Int → Prop} {g : Int → Int → Int}
    (rule : ∀ (i j : Int) (t u : Tok) (s : Shared) (Q : Value → Shared → Prop) (E : Value → Shared → Prop), C i j → Q (.int (g i j) s.toks) { s with toks := s.toks + 1 } → wpAny (model X.prog X.w) X.A (f (.int i t) (.int j u)) Q E s) :
    OpR X f (rI C fun i j => .int (g i j)) := by
  intro pins s σ H x y v u Q I rx ry h
  obtain ⟨i, j, rfl, rfl, hc, q⟩ := h
  obtain ⟨t, rfl⟩ := rx
  obtain ⟨t', rfl⟩ := ry
  exact rule i j t t' s _ _ hc ⟨.int (g i j), H, I.tok _, ⟨_, rfl⟩, q⟩
theorem opI0 {f : Value → Value → Sem Value} {g : Int → Int → Int}
    (rule : ∀ (i j : Int) (t u : Tok) (s : Shared) (Q : Value → Shared → Prop) (E : Value → Shared → Prop), Q (.int (g i j) s.toks) { s with toks := s.toks + 1 } → wpAny (model X.prog X.w) X.A (f (.int i t) (.int j u)) Q E s) :
    OpR X f (rI0 fun i j => .int (g i j)) := by
  intro pins s σ H x y v u Q I rx ry h
  obtain ⟨i, j, rfl, rfl, q⟩ := h
  obtain ⟨t, rfl⟩ := rx
  obtain ⟨t', rfl⟩ := ry
  exact rule i j t t' s _ _ ⟨.int (g i j), H, I.tok _, ⟨_, rfl⟩, q⟩
theorem opB0 {f : Value → Value → Sem Value} {g : Int → Int → Bool}
    (rule : ∀ (i j : Int) (t u : Tok) (s : Shared) (Q : Value → Shared → Prop) (E : Value → Shared → Prop), Q (.bool (g i j)) s → wpAny (model X.prog X.w) X.A (f (.int i t) (.int j u)) Q E s) :
    OpR X f (rI0 fun i j => .bl (g i j)) := by
  intro pins s σ H x y v u Q I rx ry h
  obtain ⟨i, j, rfl, rfl, q⟩ := h
  obtain ⟨t, rfl⟩ := rx
  obtain ⟨t', rfl⟩ := ry
  exact rule i j t t' s _ _ ⟨.bl (g i j), H, I, rfl, q⟩
noncomputable def CDiv (i j : Int) : Prop := 0 < j ∧ j < 1073741824
noncomputable def CMul (i j : Int) : Prop := (-(2 ^ 64) < i ∧ i < 2 ^ 64) ∨ (-(2 ^ 64) < j ∧ j < 2 ^ 64)
theorem CMul.ok {i j : Int} (h : CMul i j) : IntMulOk i j := by
  rcases h with ⟨h1, h2⟩ | ⟨h1, h2⟩
  · exact .of_left (intBits_le_64 h1 h2)
  · exact .of_right (intBits_le_64 h1 h2)
theorem op_add : OpR X (binaryOp .Add) (rI0 fun i j => .int (i + j)) := opI0 fun _ _ _ _ _ _ _ q => add_int q
theorem op_sub : OpR X (binaryOp .Sub) (rI0 fun i j => .int (i - j)) := opI0 fun _ _ _ _ _ _ _ q => sub_int q
theorem op_mul : OpR X (binaryOp .Mult) (rI CMul fun i j => .int (i * j)) := opI fun _ _ _ _ _ _ _ hc q => mul_int q hc.ok
theorem op_fdiv : OpR X (binaryOp .FloorDiv) (rI CDiv fun i j => .int (i / j)) := opI fun i j _ _ _ _ _ hc q => by
  have h1 : (0 : Int) < j := hc.1
  have h2 : j < 1073741824 := hc.2
  exact floordiv_int (by omega) (by rw [Int.fdiv_eq_ediv_of_nonneg i (by omega)]; exact q) (.inl (PyProof.noPylong_small (by omega)))
theorem op_mod : OpR X (binaryOp .Mod) (rI (fun _ j => 0 < j) fun i j => .int (i % j)) := opI fun i j _ _ _ _ _ hc q => by
  have h1 : (0 : Int) < j := hc
  exact mod_int' (by omega) (by rw [Int.fmod_eq_emod_of_nonneg i (by omega)]; exact q)
theorem unI {f : Value → Sem Value} {g : Int → Int}
    (rule : ∀ (i : Int) (t : Tok) (s : Shared) (Q : Value → Shared → Prop) (E : Value → Shared → Prop), Q (.int (g i) s.toks) { s with toks := s.toks + 1 } → wpAny (model X.prog X.w) X.A (f (.int i t)) Q E s) :
    UnR X f (rU fun i => .int (g i)) := by
  intro pins s σ H x v Q I rx h
  obtain ⟨i, rfl, q⟩ := h
  obtain ⟨t, rfl⟩ := rx
  exact rule i t s _ _ ⟨.int (g i), H, I.tok _, ⟨_, rfl⟩, q⟩
theorem un_neg : UnR X (unaryOp .USub) (rU fun i => .int (-i)) := unI fun _ _ _ _ _ q => neg_int q
end
noncomputable def scal : V → V → Bool
  | .non, .non => true | .non, .int _ => true | .int _, .non => true | .non, .bl _ => true | .bl _, .non => true | .non, .str _ => true | .str _, .non => true
  | .int _, .int _ => true | .bl _, .bl _ => true | .str _, .str _ => true | .byt _, .byt _ => true
  | .int _, .str _ => true | .str _, .int _ => true | .bl _, .str _ => true | .str _, .bl _ => true
  | _, _ => false
noncomputable def rEq : R2 := fun x y H Q => scal x y = true ∧ Q (.bl (decide (x = y))) H
noncomputable def rNe : R2 := fun x y H Q => scal x y = true ∧ Q (.bl (!decide (x = y))) H
theorem dec_int {i j : Int} : decide (V.int i = V.int j) = (i == j) := by
  rw [Bool.eq_iff_iff]
  simp
theorem dec_bl {i j : Bool} : decide (V.bl i = V.bl j) = (i == j) := by
  rw [Bool.eq_iff_iff]
  simp
theorem dec_str {i j : Str} : decide (V.str i = V.str j) = (i == j) := by
  rw [Bool.eq_iff_iff]
  simp
theorem dec_byt {i j : Array UInt8} : decide (V.byt i = V.byt j) = (i.toList == j.toList) := by
  rw [Bool.eq_iff_iff]
  cases i
  cases j
  simp
section
variable {X : Cx} {a b c : Expr} {ta tb tc : TE} {pos : Pos}
theorem fin_bl {pins : List (Addr × Obj)} {σ : St} {H : Hp} {s : Shared} {Q : VK} {k k' : Bool} (I : Inv X pins σ H s) (q : Q (.bl k) H) (e : k = k') : EP X pins σ Q (.bool k') s := by
  subst e
  exact ⟨.bl k, H, I, rfl, q⟩
theorem op_eq : OpR X (compareOp .Eq) rEq := by
  intro pins s σ H x y v u Q I rx ry h
  obtain ⟨hs, q⟩ := h
  cases x with
  | non =>
    cases rx
    cases y with
    | non => cases ry; exact PySem.EqNone.eq_none_none (fin_bl I q (by simp))
    | bl j => cases ry; exact PySem.EqNone.eq_none_bool (fin_bl I q (by simp))
    | int j => obtain ⟨t', rfl⟩ := ry; exact PySem.EqNone.eq_none_int (fin_bl I q (by simp))
    | str j => obtain ⟨t', rfl⟩ := ry; exact PySem.EqNone.eq_none_str (fin_bl I q (by simp))
    | _ => exact absurd (show false = true from hs) Bool.false_ne_true
  | bl i =>
    cases rx
    cases y with
    | non => cases ry; exact PySem.EqNone.eq_bool_none (fin_bl I q (by simp))
    | bl j => cases ry; exact eq_bool (fin_bl I q dec_bl)
    | str j => obtain ⟨t', rfl⟩ := ry; exact PySem.EqMixed.eq_bool_str (fin_bl I q (by simp))
    | _ => exact absurd (show false = true from hs) Bool.false_ne_true
  | int i =>
    obtain ⟨t, rfl⟩ := rx
    cases y with
    | non => cases ry; exact PySem.EqNone.eq_int_none (fin_bl I q (by simp))
    | int j => obtain ⟨t', rfl⟩ := ry; exact eq_int (fin_bl I q dec_int)
    | str j => obtain ⟨t', rfl⟩ := ry; exact PySem.EqMixed.eq_int_str (fin_bl I q (by simp))
    | _ => exact absurd (show false = true from hs) Bool.false_ne_true
  | str i =>
    obtain ⟨t, rfl⟩ := rx
    cases y with
    | non => cases ry; exact PySem.EqNone.eq_str_none (fin_bl I q (by simp))
    | bl j => cases ry; exact PySem.EqMixed.eq_str_bool (fin_bl I q (by simp))
    | int j => obtain ⟨t', rfl⟩ := ry; exact PySem.EqMixed.eq_str_int (fin_bl I q (by simp))
    | str j => obtain ⟨t', rfl⟩ := ry; exact eq_str (fin_bl I q dec_str)
    | _ => exact absurd (show false = true from hs) Bool.false_ne_true
  | byt i =>
    obtain ⟨t, rfl⟩ := rx
    cases y with
    | byt j => obtain ⟨t', rfl⟩ := ry; exact PySem.W.eq_bytes (fin_bl I q dec_byt)
    | _ => exact absurd (show false = true from hs) Bool.false_ne_true
  | _ => cases y <;> exact absurd (show false = true from hs) Bool.false_ne_true
theorem op_ne : OpR X (compareOp .NotEq) rNe := by
  intro pins s σ H x y v u Q I rx ry h
  obtain ⟨hs, q⟩ := h
  cases x with
  | non =>
    cases rx
    cases y with
    | non => cases ry; exact PySem.EqNone.ne_none_none (fin_bl I q (by simp))
    | bl j => cases ry; exact PySem.EqNone.ne_none_bool (fin_bl I q (by simp))
    | int j => obtain ⟨t', rfl⟩ := ry; exact PySem.EqNone.ne_none_int (fin_bl I q (by simp))
    | str j => obtain ⟨t', rfl⟩ := ry; exact PySem.EqNone.ne_none_str (fin_bl I q (by simp))
    | _ => exact absurd (show false = true from hs) Bool.false_ne_true
  | bl i =>
    cases rx
    cases y with
    | non => cases ry; exact PySem.EqNone.ne_bool_none (fin_bl I q (by simp))
    | bl j => cases ry; exact ne_bool (fin_bl I q (congrArg not dec_bl))
    | str j => obtain ⟨t', rfl⟩ := ry; exact PySem.EqMixed.ne_bool_str (fin_bl I q (by simp))
    | _ => exact absurd (show false = true from hs) Bool.false_ne_true
  | int i =>
    obtain ⟨t, rfl⟩ := rx
    cases y with
    | non => cases ry; exact PySem.EqNone.ne_int_none (fin_bl I q (by simp))
    | int j => obtain ⟨t', rfl⟩ := ry; exact ne_int (fin_bl I q (congrArg not dec_int))
    | str j => obtain ⟨t', rfl⟩ := ry; exact PySem.EqMixed.ne_int_str (fin_bl I q (by simp))
    | _ => exact absurd (show false = true from hs) Bool.false_ne_true
  | str i =>
    obtain ⟨t, rfl⟩ := rx
    cases y with
    | non => cases ry; exact PySem.EqNone.ne_str_none (fin_bl I q (by simp))
    | bl j => cases ry; exact PySem.EqMixed.ne_str_bool (fin_bl I q (by simp))
    | int j => obtain ⟨t', rfl⟩ := ry; exact PySem.EqMixed.ne_str_int (fin_bl I q (by simp))
    | str j => obtain ⟨t', rfl⟩ := ry; exact ne_str (fin_bl I q (congrArg not dec_str))
    | _ => exact absurd (show false = true from hs) Bool.false_ne_true
  | byt i =>
    obtain ⟨t, rfl⟩ := rx
    cases y with
    | byt j => obtain ⟨t', rfl⟩ := ry; exact PySem.W.ne_bytes (fin_bl I q (congrArg not dec_byt))
    | _ => exact absurd (show false = true from hs) Bool.false_ne_true
  | _ => cases y <;> exact absurd (show false = true from hs) Bool.false_ne_true
theorem op_lt : OpR X (compareOp .Lt) (rI0 fun i j => .bl (decide (i < j))) := opB0 fun _ _ _ _ _ _ _ q => lt_int q
theorem op_le : OpR X (compareOp .LtE) (rI0 fun i j => .bl (decide (i ≤ j))) := opB0 fun _ _ _ _ _ _ _ q => le_int q
theorem op_gt : OpR X (compareOp .Gt) (rI0 fun i j => .bl (decide (j < i))) := opB0 fun _ _ _ _ _ _ _ q => gt_int q
theorem OpR.or {f : Value → Value → Sem Value} {r r' : R2} (h : OpR X f r) (h' : OpR X f r') : OpR X f (fun x y H Q => r x y H Q ∨ r' x y H Q) := by
  intro pins s σ H x y v u Q I rx ry q
  rcases q with q | q
  · exact h pins s σ H x y v u Q I rx ry q
  · exact h' pins s σ H x y v u Q I rx ry q
theorem nomark (b : Expr) {op : CmpOp} (h : op ≠ .In := by decide) (h2 : op ≠ .NotIn := by decide) : behindInMarks op b = false := by
  have e1 : (op == CmpOp.In) = false := by cases op <;> first | rfl | exact absurd rfl h
  have e2 : (op == CmpOp.NotIn) = false := by cases op <;> first | rfl | exact absurd rfl h2
  cases b <;> simp [behindInMarks, e1, e2]
theorem pe_cmpR {op : CmpOp} {r : R2} (ho : OpR X (compareOp op) r) (ha : PE X a ta) (hb : PE X b tb) (hm : behindInMarks op b = false) : PE X (.Compare a [op] [b] pos) (tOp r ta tb) := by
  intro pins s σ H Q I h
  exact wpAny_Compare1 (binT ha hb I h fun v u s2 x y H2 I2 rx ry q => ho pins s2 σ H2 x y v u Q I2 rx ry q) hm
noncomputable def tTest (t : TE) : TT := fun σ H Q => t σ H fun x H' => ∃ k, x = .bl k ∧ Q k H'
theorem pt_cmpR {op : CmpOp} {r : R2} (ho : OpR X (compareOp op) r) (ha : PE X a ta) (hb : PE X b tb) (hm : behindInMarks op b = false) : PT X (.Compare a [op] [b] pos) (tTest (tOp r ta tb)) := by
  intro pins s σ H Q I h
  refine wpAny_isTrue_Compare1 (thn (ha pins s σ H _ I h) fun v s1 ⟨x, H1, I1, r1, q1⟩ => thn (hb pins s1 σ H1 _ I1 q1) fun u s2 ⟨y, H2, I2, r2, q2⟩ =>
    thn (ho pins s2 σ H2 x y v u _ I2 r1 r2 q2) fun c s3 ⟨z, H3, I3, r3, k, e, q3⟩ => ?_) hm
  subst e
  cases r3
  exact wpAny_truthy_bool ⟨H3, I3, q3⟩
noncomputable def tChain (r r' : R2) (ta tb tc : TE) : TE := fun σ H Q => ta σ H fun x H1 => tb σ H1 fun y H2 => r x y H2 fun z H3 => ∃ k, z = .bl k ∧
  (if k = true then tc σ H3 fun w' H4 => r' y w' H4 Q else Q (.bl false) H3)
theorem pe_chain {op op' : CmpOp} {r r' : R2} (ho : OpR X (compareOp op) r) (ho' : OpR X (compareOp op') r') (ha : PE X a ta) (hb : PE X b tb) (hc : PE X c tc)
    (hm : lastMarks [op, op'] [b, c] = false := by with_unfolding_all rfl) : PE X (.Compare a [op, op'] [b, c] pos) (tChain r r' ta tb tc) := by
  intro pins s σ H Q I h
  refine Compare_chain (thn (ha pins s σ H _ I h) fun v s1 ⟨x, H1, I1, r1, q1⟩ => chain_link (thn (hb pins s1 σ H1 _ I1 q1) fun u s2 ⟨y, H2, I2, r2, q2⟩ =>
    thn (ho pins s2 σ H2 x y v u _ I2 r1 r2 q2) fun d s3 ⟨z, H3, I3, r3, k, e, q3⟩ => ?_)) hm
  subst e
  cases r3
  refine wpAny_truthy_bool ?_
  cases k with
  | false => exact ite_ff ⟨.bl false, H3, I3, rfl, q3⟩
  | true => exact ite_tt (chain_last (thn (hc pins s3 σ H3 _ I3 q3) fun w' s4 ⟨z', H4, I4, r4, q4⟩ => ho' pins s4 σ H4 y z' u w' Q I4 r2 r4 q4))
noncomputable def TruV (K : PySem.W.Frag) (x : V) (H : Hp) (k : Bool) : Prop :=
  match x with
  | .non => k = false
  | .bl b => k = b
  | .int i => k = (i != 0)
  | .str y => y.length ≤ sizeLine ∧ k = ((y.length : Int) != 0)
  | .byt y => y.size ≤ sizeLine ∧ k = ((y.size : Int) != 0)
  | .ref p => (∃ xs, SqL K H p xs ∧ k = !xs.isEmpty) ∨ (∃ xs, SqT K H p xs ∧ k = !xs.isEmpty) ∨ ∃ kvs, H p = some (.dK kvs) ∧ k = !kvs.isEmpty
  | _ => False
theorem isEmpty_kv {κ : Type} {kvs : List (κ × V)} {vs : List (κ × Value)} (r : KV kvs vs) : (!vs.isEmpty) = !kvs.isEmpty := by
  cases r <;> rfl
theorem isEmpty_of {xs : List V} {its : List Value} (r : Vals xs its) : (!its.toArray.isEmpty) = !xs.isEmpty := by
  cases r <;> simp
theorem line63 : (sizeLine : Nat) < 2 ^ 63 := by rw [sizeLine_eq]; decide
theorem tru_ok : TruR X (fun x H Q => ∃ k, TruV X.K x H k ∧ Q k H) := by
  intro pins s σ H x v Q I rx h
  obtain ⟨k, e, q⟩ := h
  have hl := line63
  have hs : sizeLine = 16777216 := sizeLine_eq
  cases x with
  | non =>
    cases rx
    have e' : k = false := e
    subst e'
    exact truthy_none ⟨H, I, q⟩
  | bl b =>
    cases rx
    have e' : k = b := e
    subst e'
    exact wpAny_truthy_bool ⟨H, I, q⟩
  | int i =>
    obtain ⟨t, rfl⟩ := rx
    have e' : k = (i != 0) := e
    subst e'
    exact PySem.P.truthy_int ⟨H, I, q⟩
  | str y =>
    obtain ⟨t, rfl⟩ := rx
    obtain ⟨hy, e'⟩ : y.length ≤ sizeLine ∧ k = ((y.length : Int) != 0) := e
    subst e'
    exact PySem.P.truthy_str (by omega) ⟨H, I.tok _, q⟩
  | byt y =>
    obtain ⟨t, rfl⟩ := rx
    obtain ⟨hy, e'⟩ : y.size ≤ sizeLine ∧ k = ((y.size : Int) != 0) := e
    subst e'
    exact PySem.W.truthy_bytes (by omega) ⟨H, I.tok _, q⟩
  | ref p =>
    cases rx
    have e' : (∃ xs, SqL X.K H p xs ∧ k = !xs.isEmpty) ∨ (∃ xs, SqT X.K H p xs ∧ k = !xs.isEmpty) ∨ ∃ kvs, H p = some (.dK kvs) ∧ k = !kvs.isEmpty := e
    rcases e' with ⟨xs, hx, e'⟩ | ⟨xs, hx, e'⟩ | ⟨kvs, hx, e'⟩
    · subst e'
      obtain ⟨its, r, pl, hz⟩ := I.list hx
      have hlen := r.length
      exact wpAny_truthy_list pl.isList (by simp only [List.size_toArray]; omega) ⟨H, I.tok _, by rw [isEmpty_of r]; exact q⟩
    · subst e'
      obtain ⟨its, r, pl, hz⟩ := I.tuple hx
      have hlen := r.length
      exact truthy_tuple pl (by simp only [List.size_toArray]; omega) ⟨H, I.tok _, by rw [isEmpty_of r]; exact q⟩
    · subst e'
      obtain ⟨hz, hS, vs, r, m⟩ : kvs.length ≤ sizeLine ∧ (p == sysModules) = false ∧ ∃ vs, KV kvs vs ∧ s.heap.DictOf (mixKind X.prog X.w) p vs := I.hok p _ hx
      have hlen : kvs.length = vs.length := Paired.length r
      exact wpAny_truthy_dict hS m (by omega) ⟨H, I.tok _, by rw [isEmpty_kv r]; exact q⟩
  | _ => exact (show False from e).elim
theorem pt_truth (ha : PE X a ta) (he : ∀ whole, isTrue a X.env whole = (do let v ← whole; standAt a.pos; holding [v] (truthy v))) :
    PT X a (fun σ H Q => ta σ H fun x H' => ∃ k, TruV X.K x H' k ∧ Q k H') := by
  intro pins s σ H Q I h
  exact isTrue_plain (thn (ha pins s σ H _ I h) fun v s1 ⟨x, H1, I1, r1, q1⟩ => tru_ok pins s1 σ H1 x v Q I1 r1 q1) (he _)
theorem op_add_str : OpR X (binaryOp .Add) (fun x y H Q => ∃ i j, x = .str i ∧ y = .str j ∧ i.length + j.length ≤ sizeLine ∧ Q (.str (i ++ j)) H) := by
  intro pins s σ H x y v u Q I rx ry h
  obtain ⟨i, j, rfl, rfl, hz, q⟩ := h
  obtain ⟨t, rfl⟩ := rx
  obtain ⟨t', rfl⟩ := ry
  exact add_str (fun t' tk => ⟨.str (i ++ j), H, I.tok _, ⟨_, rfl⟩, q⟩) hz
theorem vals1 {x : V} {us : List Value} (r : Vals [x] us) : ∃ u, us = [u] ∧ RelV x u := by
  cases r with
  | cons r1 r2 => cases r2; exact ⟨_, rfl, r1⟩
theorem vals2 {x y : V} {us : List Value} (r : Vals [x, y] us) : ∃ u w', us = [u, w'] ∧ RelV x u ∧ RelV y w' := by
  cases r with
  | cons r1 r2 =>
    cases r2 with
    | cons r3 r4 => cases r4; exact ⟨_, _, rfl, r1, r3⟩
end
end L2
namespace L2
open PySem PySem.Spec PyProof.Rows
structure ObjM (h : Heap) (x dx C : Addr) (mA : Str → Option Value) : Prop where
  obj : h.get? x = some (PySem.W.instObj C dx)
  ns : h.Ns1 dx mA
  ne : dx ≠ x
theorem lookIn_ns {h : Heap} {dx : Addr} {mA : Str → Option Value} (n : h.Ns1 dx mA) : ∃ od, h.get? dx = some od ∧ ∀ name, PySem.W.lookIn name od = some (mA name) := by
  obtain ⟨o, es, ep, ho, hd, hk, _, hm⟩ := n
  refine ⟨o, ho, fun name => ?_⟩
  have e := hm name
  unfold nsFind findBy at e
  rw [← Array.find?_toList] at e
  unfold PySem.W.lookIn
  rw [hd]
  dsimp only
  split
  · rename_i y q
    rw [q] at e
    exact congrArg some e
  · rename_i q
    rw [q] at e
    have a : es.toList.any (·.refKey) = false := by
      rw [List.any_eq_false]
      intro y hy
      obtain ⟨z, t, hkey⟩ := hk y (Array.mem_toList_iff.mp hy)
      simp [DictEntry.refKey, hkey]
    have a' : ¬ es.toList.any (·.refKey) = true := by rw [a]; exact Bool.false_ne_true
    rw [if_neg a']
    exact congrArg some e
theorem ObjM.look {h : Heap} {x dx C : Addr} {mA : Str → Option Value} (I : ObjM h x dx C mA) : ∃ od, PySem.W.InstAt h x (PySem.W.instObj C dx) C (some od) ∧ ∀ name, PySem.W.lookIn name od = some (mA name) :=
  let ⟨od, ho, hl⟩ := lookIn_ns I.ns
  ⟨od, ⟨I.obj, rfl, rfl, ho⟩, hl⟩
section
variable {prog : Program} {w : World} {A : Around} {E : Value → Shared → Prop} {s : Shared} {K : PySem.W.Frag} {x dx C f : Addr} {mA : Str → Option Value} {name : Str} {v : Value}
end
noncomputable def putF (f : Str) (v : V) : List (Str × V) → List (Str × V)
  | [] => [(f, v)]
  | (g, x) :: r => if g = f then (g, v) :: r else (g, x) :: putF f v r
theorem RelO.none_of {o : Option Value} (r : RelO none o) : o = none := by
  cases o with
  | none => rfl
  | some u => exact (show False from r).elim
section
variable {P : Program} {w : World} {H H' : Hp} {h h' : Heap} {a C dx : Addr} {fs fs' : List (Str × V)}
theorem ins_get (hok : HOk P w H h) (e : H a = some (.ins C dx fs)) : ∃ mA, ObjM h a dx C mA ∧ (∀ f, RelO (fs.lookup f) (mA f)) ∧ PySem.Within mA (fs.map (·.1)) ∧ fs.length ≤ 1000 ∧ H dx = some (.own a) := by
  obtain ⟨d, z, ne, ob, mA, n, r, q⟩ := (show ObjOk P w H h a (.ins C dx fs) from hok a _ e)
  exact ⟨mA, ⟨ob, n, ne⟩, r, q, z, d⟩
end
structure Cls (K : PySem.W.Frag) (C : Addr) : Prop where
  pg : PySem.W.plainGet K C Str.empty = true
  hd : PySem.W.hasDictIn K C = true
  po : PySem.W.plainOver K C = true
  sa : PySem.W.findIn K (.ref C) "__setattr__" = some (some (.builtin "object.__setattr__"))
theorem Cls.get {K : PySem.W.Frag} {C : Addr} (c : Cls K C) (f : Str) : PySem.W.plainGet K C f = true := c.pg
structure Con (K : PySem.W.Frag) (C : Addr) (f : Str) (v : V) (u : Value) : Prop where
  at_ : PySem.W.findIn K (.ref C) f = some (some u)
  rel : RelV v u
  get : PySem.W.specialIn K u "__get__" = some none
  cp : PySem.W.copiedNames.contains f = false
structure Meth (K : PySem.W.Frag) (C : Addr) (m : Str) (f : Addr) : Prop where
  at_ : PySem.W.findIn K (.ref C) m = some (some (.ref f))
  fn : PySem.W.isFn K (.ref f) = true
  kp : PySem.W.keepIn K (.ref f) = true
section
variable {X : Cx} {pins : List (Addr × Obj)} {σ : St} {H : Hp} {s : Shared} {a C dx : Addr} {fs : List (Str × V)} {f : Str} {v : V} {A : Around} {E : Value → Shared → Prop}
theorem Inv.made (I : Inv X pins σ H s) : Inv X pins σ (upd (upd H s.heap.objs.size (.own (s.heap.objs.size + 1))) (s.heap.objs.size + 1) (.ins C s.heap.objs.size []))
    { s with heap := (s.heap.push PySem.W.emptyDict).push (PySem.W.instObj C s.heap.objs.size) } := by
  have e1 : (s.heap.push PySem.W.emptyDict).get? s.heap.objs.size = some PySem.W.emptyDict := Heap.get?_push_size s.heap rfl
  have e2 : ((s.heap.push PySem.W.emptyDict).push (PySem.W.instObj C s.heap.objs.size)).get? (s.heap.objs.size + 1) = some (PySem.W.instObj C s.heap.objs.size) := by
    have := Heap.get?_push_size (s.heap.push PySem.W.emptyDict) (o := PySem.W.instObj C s.heap.objs.size) rfl
    rwa [Heap.size_push] at this
  have e3 : (s.heap.push PySem.W.emptyDict).Ns s.heap.objs.size (fun _ => none) := ⟨PySem.W.emptyDict, #[], _, e1, rfl, (fun e he => absurd he (by simp)), fun _ => rfl⟩
  have I1 := I.laid (a := s.heap.objs.size) (o := .own (s.heap.objs.size + 1)) (h' := s.heap.push PySem.W.emptyDict) (t' := s.toks) (fun b u q => Heap.get?_push_of_some _ q) (Nat.le_refl _) ⟨_, e1⟩
  refine I1.laid (a := s.heap.objs.size + 1) (o := .ins C s.heap.objs.size []) (t' := s.toks) (fun b u q => Heap.get?_push_of_some _ q) (Nat.le_of_eq (Heap.size_push _ _)) ?_
  have ne : s.heap.objs.size ≠ s.heap.objs.size + 1 := Nat.ne_of_lt (Nat.lt_succ_self _)
  refine ⟨by rw [upd_ne ne, upd_same], Nat.zero_le _, ne, e2, fun _ => none, (Heap.Ns1.of_empty e3).at fun o q => Heap.get?_push_of_some _ q, fun _ => True.intro, fun y hy => absurd rfl hy⟩
end
section
variable {X : Cx} {o e value : Expr} {f : Str} {pos pos' tpos : Pos} {ta tv : TE}
end
section
variable {X : Cx} {pins : List (Addr × Obj)} {σ : St} {H : Hp} {s : Shared} {A : Around} {E : Value → Shared → Prop} {Q : Value → Shared → Prop} {c : Value} {b : Bool}
inductive TyOf (K : PySem.W.Frag) (H : Hp) : V → Value → Prop where
  | non : TyOf K H .non (.type "NoneType")
  | bl (x : Bool) : TyOf K H (.bl x) (.type "bool")
  | int (i : Int) : TyOf K H (.int i) (.type "int")
  | str (x : Str) : TyOf K H (.str x) (.type "str")
  | flt (x : UInt64) : TyOf K H (.flt x) (.type "float")
  | lst {a : Addr} {xs : List V} (e : H a = some (.lst xs)) : TyOf K H (.ref a) (.type "list")
  | frz {a : Addr} {o : Obj} {xs : List V} (e : H a = some (.frz o (.lst xs))) : TyOf K H (.ref a) (.type "list")
  | tup {a : Addr} {xs : List V} (e : H a = some (.tup xs)) : TyOf K H (.ref a) (.type "tuple")
  | dK {a : Addr} {kvs : List (Key × V)} (e : H a = some (.dK kvs)) : TyOf K H (.ref a) (.type "dict")
  | dT {a : Addr} {kvs : List (List Key × V)} (e : H a = some (.dT kvs)) : TyOf K H (.ref a) (.type "dict")
  | ins {a C dx : Addr} {fs : List (Str × V)} (e : H a = some (.ins C dx fs)) (cl : Cls K C) (ha : PySem.W.findIn K (.ref C) "__class__" = some (some (.builtin "object.__class__")))
      (hn : PySem.W.specialIn K (.builtin "object.__class__") "__get__" = some (some (.builtin "getset_descriptor.__get__"))) (htk : PySem.W.takesIn K (.builtin "object.__class__") = some true)
      (hm : PySem.W.mroIn K C (.type "object") = some true) : TyOf K H (.ref a) (.ref C)
theorem isinst_ok {x : V} {u t : Value} (I : Inv X pins σ H s) (rx : RelV x u) (ty : TyOf X.K H x t) (e : PySem.W.kitOne X.K t c = some b) (h : ∀ tk, Q (.bool b) { s with toks := tk }) :
    wpAny (model X.prog X.w) A (call (.builtin "isinstance") [u, c]) Q E s := by
  cases ty with
  | non => cases (show u = Value.none from rx); exact PySem.W.kia_one PySem.W.kitx_none I.kIn True.intro e (fun z => nomatch z) h
  | bl y => cases (show u = Value.bool y from rx); exact PySem.W.kia_one PySem.W.kitx_bool I.kIn True.intro e (fun z => nomatch z) h
  | int i => obtain ⟨t, q⟩ := (show ∃ t, u = Value.int i t from rx); cases q; exact PySem.W.kia_one PySem.W.kitx_int I.kIn True.intro e (fun z => nomatch z) h
  | str y => obtain ⟨t, q⟩ := (show ∃ t, u = Value.str y t from rx); cases q; exact PySem.W.kia_one PySem.W.kitx_str I.kIn True.intro e (fun z => nomatch z) h
  | flt y => obtain ⟨t, q⟩ := (show ∃ t, u = Value.float y t from rx); cases q; exact PySem.W.kia_one PySem.W.kitx_float I.kIn True.intro e (fun z => nomatch z) h
  | @lst a xs ea =>
    cases (show u = Value.ref a from rx)
    obtain ⟨_, _, n, _, h1⟩ := (show ObjOk X.prog X.w H s.heap a (.lst xs) from I.hok a _ ea)
    exact PySem.W.kia_one PySem.W.kitx_list I.kIn ⟨_, h1, rfl⟩ e (fun z => nomatch z) h
  | @frz a ob xs ea =>
    cases (show u = Value.ref a from rx)
    obtain ⟨_, _, _, n, _, h1⟩ := (show ObjOk X.prog X.w H s.heap a (.frz ob (.lst xs)) from I.hok a _ ea)
    exact PySem.W.kia_one PySem.W.kitx_list I.kIn ⟨_, h1, rfl⟩ e (fun z => nomatch z) h
  | @tup a xs ea =>
    cases (show u = Value.ref a from rx)
    obtain ⟨_, _, _, p⟩ := (show ObjOk X.prog X.w H s.heap a (.tup xs) from I.hok a _ ea)
    obtain ⟨o, h1, h2, _⟩ := p
    exact PySem.W.kia_one PySem.W.kitx_tuple I.kIn ⟨o, h1, h2⟩ e (fun z => nomatch z) h
  | @dK a kvs ea =>
    cases (show u = Value.ref a from rx)
    obtain ⟨_, _, vs, _, p⟩ := (show ObjOk X.prog X.w H s.heap a (.dK kvs) from I.hok a _ ea)
    obtain ⟨o, es, ep, h1, h2, _⟩ := p
    exact PySem.W.kia_one PySem.W.kitx_dict I.kIn ⟨o, h1, h2.1⟩ e (fun z => nomatch z) h
  | @dT a kvs ea =>
    cases (show u = Value.ref a from rx)
    obtain ⟨_, _, xs, _, o, es, ep, h1, h2, _⟩ := (show ObjOk X.prog X.w H s.heap a (.dT kvs) from I.hok a _ ea)
    exact PySem.W.kia_one PySem.W.kitx_dict I.kIn ⟨o, h1, h2.1⟩ e (fun z => nomatch z) h
  | @ins a C dx fs ea cl ha hn htk hm =>
    cases (show u = Value.ref a from rx)
    obtain ⟨mA, O, _⟩ := ins_get I.hok ea
    obtain ⟨od, J, _⟩ := O.look
    exact PySem.W.kia_one (PySem.W.kitx_own (cl.get _) cl.hd ha hn htk hm) I.kIn J e (fun z => nomatch z) h
end
end L2
namespace L2
open PySem PySem.Spec PyProof.Rows
structure Room (k : Nat) (A : Around) : Prop where
  hd : A.handled = none
  dp : A.depth + 3 * k + 5 < recursionLimit
  un : A.units + 16 * k + 200 < cLine
theorem Room.mono {j k : Nat} {A : Around} (r : Room k A) (h : j ≤ k) : Room j A := ⟨r.hd, by have := r.dp; omega, by have := r.un; omega⟩
theorem Room.deeper {k : Nat} {A : Around} (r : Room (k + 1) A) (env : Env) : Room k (A.deeper env) :=
  ⟨r.hd, by have := r.dp; show A.depth + 1 + 3 * k + 5 < _; omega, by have := r.un; show A.units + 3 + 16 * k + 200 < _; omega⟩
theorem Room.in1 {k : Nat} {A : Around} (r : Room (k + 1) A) : Room k A.in1 :=
  ⟨r.hd, by have := r.dp; show A.depth + 3 * k + 5 < _; omega, by have := r.un; show A.units + 1 + 16 * k + 200 < _; omega⟩
theorem Room.depth {k : Nat} {A : Around} (r : Room k A) : A.depth < recursionLimit := by have := r.dp; omega
theorem Room.units {k : Nat} {A : Around} (r : Room k A) : A.units + 64 < cLine := by have := r.un; omega
noncomputable def tNil : TA := fun _ H Q => Q [] H
noncomputable def tCons (ta : TE) (tr : TA) : TA := fun σ H Q => ta σ H fun x H1 => tr σ H1 fun xs H2 => Q (x :: xs) H2
section
variable {X : Cx} {e : Expr} {es : List Expr} {te : TE} {t : TA} {pos : Pos}
theorem pa_nil : PA X [] tNil := fun _ _ _ _ H Q I h => Calls.spliced_nil ⟨[], H, I, .nil, h⟩
theorem pa_cons (ha : PE X e te) (hr : PA X es t) (hs : starEach (e :: es) X.env = (false, eval e X.env) :: starEach es X.env := by rfl) : PA X (e :: es) (tCons te t) := by
  intro pos pins s σ H Q I h
  rw [hs]
  show wpAny _ _ (spliced ((false, eval e X.env) :: backTo pos (starEach es X.env))) _ _ s
  refine Calls.spliced_cons (thn (ha pins s σ H _ I h) fun u s1 ⟨x, H1, I1, r1, q1⟩ => ?_)
  exact thn (hr pos pins s1 σ H1 _ I1 q1) fun us s2 ⟨xs, H2, I2, r2, q2⟩ => ⟨x :: xs, H2, I2, .cons r1 r2, q2⟩
noncomputable def tTup (t : TA) : TE := fun σ H Q => t σ H fun xs H1 => xs.length ≤ sizeLine ∧ ∀ p, H1 p = none → Q (.ref p) (upd H1 p (.tup xs))
noncomputable def tLst (t : TA) : TE := fun σ H Q => t σ H fun xs H1 => xs.length ≤ sizeLine ∧ ∀ p, H1 p = none → Q (.ref p) (upd H1 p (.lst xs))
theorem pe_tup {x1} (h : PA X es t) : PE X (.Tuple es x1 pos) (tTup t) := by
  intro pins s σ H Q I hq
  refine wpAny_Tuple_spliced (thn (h pos pins s σ H _ I hq) fun us s1 ⟨xs, H1, I1, r, z, q⟩ => ⟨by rw [← r.length]; exact z, ?_⟩)
  have hf : H1 s1.heap.objs.size = none := I1.hok.fresh (Nat.le_refl _)
  refine ⟨.ref s1.heap.objs.size, upd H1 s1.heap.objs.size (.tup xs), I1.laid (t' := s1.toks) (fun b u e => Heap.get?_push_of_some _ e) (Nat.le_refl _) ?_, rfl, q _ hf⟩
  exact ⟨z, us, r, ⟨_, Heap.get?_push_size _ rfl, rfl, _, rfl⟩⟩
theorem pe_lst (h : PA X es t) : PE X (.List es pos) (tLst t) := by
  intro pins s σ H Q I hq
  refine wpAny_List_spliced (thn (h pos pins s σ H _ I hq) fun us s1 ⟨xs, H1, I1, r, z, q⟩ => ⟨by rw [← r.length]; exact z, ?_⟩)
  have hf : H1 s1.heap.objs.size = none := I1.hok.fresh (Nat.le_refl _)
  refine ⟨.ref s1.heap.objs.size, upd H1 s1.heap.objs.size (.lst xs), I1.laid (t' := s1.toks) (fun b u e => Heap.get?_push_of_some _ e) (Nat.le_refl _) ?_, rfl, q _ hf⟩
  exact ⟨z, us, 0, r, Heap.get?_push_size _ rfl⟩
end
noncomputable abbrev Sp := List V → Hp → VK → XK → Prop
noncomputable abbrev CXT := List Env → Hp → Shared → XK → Value → Shared → Prop
structure Env0 (P : Program) (w : World) (K : PySem.W.Frag) (mg : Str → Option Value) (base : Heap) (A : Around) (outer : List Env) (s : Shared) (H : Hp) : Prop where
  frames : A.frames = some outer
  mod : Mod K mg base
  bs : ∀ b o, base.get? b = some o → s.heap.get? b = some o ∧ H b = none
  bsz : base.objs.size ≤ s.heap.objs.size
  funs : s.heap.FunFrames base outer
  frf : ∀ b ∈ frs outer, H b = none
  hok : HOk P w H s.heap
  bare : AllBare s.gens
noncomputable def CE (outer : List Env) (P : Program) (w : World) (H : Hp) (s : Shared) (Q : VK) (u : Value) (s' : Shared) : Prop :=
  ∃ v H', s'.os = s.os ∧ AllBare s'.gens ∧ Un (frs outer) [] H H' s.heap s'.heap ∧ HOk P w H' s'.heap ∧ RelV v u ∧ Q v H'
noncomputable def CR (CX : CXT) (outer : List Env) (P : Program) (w : World) (H : Hp) (s : Shared) (Q : VK) (E : XK) (r : Result) (s' : Shared) : Prop :=
  match r with
  | .ok (.ret u) => CE outer P w H s Q u s'
  | .ok _ => False
  | .error e => CX outer H s E e s'
structure FnOk (P : Program) (w : World) (K : PySem.W.Frag) (mg : Str → Option Value) (base : Heap) (CX : CXT) (k : Nat) (f : Addr) (fd : FuncData) (ps : List Str) (sp : Sp) : Prop where
  len : ∀ vs H Q E, sp vs H Q E → vs.length = ps.length
  run : ∀ (A : Around) (outer : List Env) (s : Shared) (H : Hp) (args : Args) (us : List Value) (vs : List V) (Q : VK) (E : XK), Room k A → Env0 P w K mg base A outer s H → BindsTo s fd args (ps.zip us) → Vals vs us → sp vs H Q E →
    codeAny (model P w) A (.call (.ref f) args) (CR CX outer P w H s Q E) s
theorem FnOk.mono {P : Program} {w : World} {K : PySem.W.Frag} {mg : Str → Option Value} {base : Heap} {CX : CXT} {j k : Nat} {f : Addr} {fd : FuncData} {ps : List Str} {sp : Sp} (F : FnOk P w K mg base CX j f fd ps sp) (h : j ≤ k) :
    FnOk P w K mg base CX k f fd ps sp := ⟨F.len, fun A outer s H args us vs Q E hr => F.run A outer s H args us vs Q E (hr.mono h)⟩
theorem FnOk.imp {P : Program} {w : World} {K : PySem.W.Frag} {mg : Str → Option Value} {base : Heap} {CX : CXT} {k : Nat} {f : Addr} {fd : FuncData} {ps : List Str} {sp sp' : Sp} (F : FnOk P w K mg base CX k f fd ps sp)
    (h : ∀ vs H Q E, sp' vs H Q E → sp vs H Q E) : FnOk P w K mg base CX k f fd ps sp' :=
  ⟨fun vs H Q E q => F.len vs H Q E (h _ _ _ _ q), fun A outer s H args us vs Q E hr he hb hv hs => F.run A outer s H args us vs Q E hr he hb hv (h _ _ _ _ hs)⟩
theorem Env0.in1 {P : Program} {w : World} {K : PySem.W.Frag} {mg : Str → Option Value} {base : Heap} {A : Around} {outer : List Env} {s : Shared} {H : Hp} (e : Env0 P w K mg base A outer s H) :
    Env0 P w K mg base A.in1 outer s H := ⟨e.frames, e.mod, e.bs, e.bsz, e.funs, e.frf, e.hok, e.bare⟩
section
variable {X : Cx} {pins : List (Addr × Obj)} {σ : St} {H : Hp} {s s' : Shared}
theorem Inv.env0 (I : Inv X pins σ H s) : Env0 X.prog X.w X.K X.mg X.base X.A X.stack s H :=
  ⟨I.ok.frames, I.ok.mod, I.bs, Nat.le_trans I.ok.bsz I.sz, I.stack, I.stkFree, I.hok, I.bare⟩
theorem Inv.after {Q : VK} {u : Value} (I : Inv X pins σ H s) (h : CE X.stack X.prog X.w H s Q u s') : EP X pins σ Q u s' := by
  obtain ⟨v, H', os, bare, un, hok, r, q⟩ := h
  obtain ⟨hh, g, d, t, os'⟩ := s'
  obtain rfl : os' = s.os := os
  exact ⟨v, H', I.call (h' := hh) (g' := g) (d' := d) (t' := t) (ch := []) un hok bare (fun b z => absurd z (by simp)), r, q⟩
end
noncomputable def tCall (sp : Sp) (dvs : List V) (E : XK) (t : TA) : TE := fun σ H Q => t σ H fun vs H1 => sp (vs ++ dvs) H1 Q E
noncomputable def Binds (K : PySem.W.Frag) (fd : FuncData) (ps : List Str) (ds : List Value) : Prop :=
  ∀ (s : Shared) (us : List Value), K.In s.heap → (us ++ ds).length = ps.length → BindsTo s fd ⟨us, []⟩ (ps.zip (us ++ ds))
theorem Binds.all {K : PySem.W.Frag} {fd : FuncData} {ps : List Str} (h : ∀ us : List Value, us.length = ps.length → bindArgs fd ⟨us, []⟩ = pure (ps.zip us)) : Binds K fd ps [] := fun s us _ hl => by
  rw [List.append_nil] at hl ⊢
  exact .of_eq (h us hl)
noncomputable def Passes (CX : CXT) (X : Cx) (E : XK) : Prop := ∀ (pins : List (Addr × Obj)) (σ : St) (H : Hp) (s : Shared) (e : Value) (s' : Shared), Inv X pins σ H s → CX X.stack H s E e s' → X.xe e s'
section
variable {X : Cx} {CX : CXT} {k : Nat} {f C : Addr} {fd : FuncData} {ps : List Str} {sp : Sp} {dvs : List V} {ds : List Value} {E : XK} {x m : Str} {p pos apos : Pos} {e o : Expr} {es : List Expr} {ta : TE} {t : TA}
theorem run_fn {pins : List (Addr × Obj)} {σ : St} {H : Hp} {s : Shared} {Q : VK} {us : List Value} {vs : List V} (F : FnOk X.prog X.w X.K X.mg X.base CX k f fd ps sp) (hr : Room k X.A) (hb : Binds X.K fd ps ds) (hd : Vals dvs ds) (hx : Passes CX X E)
    (I : Inv X pins σ H s) (r : Vals vs us) (h : sp (vs ++ dvs) H Q E) : wpAny (model X.prog X.w) X.A (call (.ref f) us) (EP X pins σ Q) X.xe s := by
  have r2 : Vals (vs ++ dvs) (us ++ ds) := r.append hd
  have hl : (us ++ ds).length = ps.length := by rw [← r2.length]; exact F.len _ _ _ _ h
  refine wpAny_call (codeAny_mono (F.run X.A X.stack s H ⟨us, []⟩ (us ++ ds) (vs ++ dvs) Q E hr I.env0 (hb s us I.kIn hl) r2 h) fun r s' hq => ?_)
  cases r with
  | error e => exact hx pins σ H s e s' I hq
  | ok fl =>
    cases fl with
    | ret u => exact I.after hq
    | next => exact False.elim hq
    | brk => exact False.elim hq
    | cont => exact False.elim hq
theorem pe_call (F : FnOk X.prog X.w X.K X.mg X.base CX k f fd ps sp) (hr : Room k X.A) (hg : Gl X x) (hm : X.mg x = some (.ref f)) (hk : PySem.W.keepIn X.K (.ref f) = true) (hb : Binds X.K fd ps ds) (hd : Vals dvs ds) (hx : Passes CX X E)
    (ha : PA X (e :: es) t) (hdb : (x == ("__debug__" : Str)) = false := by decide) (he : starEach (e :: es) X.env = (false, eval e X.env) :: starEach es X.env := by rfl) (hpl : (backTo pos (starEach es X.env)).any (·.1) = false := by rfl) :
    PE X (.Call (.Name x p) (e :: es) [] pos) (tCall sp dvs E t) := by
  intro pins s σ H Q I h
  refine wpAny_Call_Name_kw (ld_glob I hg hm ?_ hdb)
  refine PySem.W.callWith_K (h₀ := X.base) I.ok.mod.kin hk (thn (ha pos pins s σ H _ I h) fun us s1 ⟨vs, H1, I1, r, q⟩ => ⟨I1.kIn, ?_⟩) he hpl
  exact run_fn F hr hb hd hx I1 r q
structure Mk (K : PySem.W.Frag) (C f : Addr) : Prop where
  makes : PySem.W.makesIn K C = true
  init : PySem.W.findIn K (.ref C) "__init__" = some (some (.ref f))
  fn : PySem.W.isFn K (.ref f) = true
  kp : PySem.W.keepIn K (.ref C) = true
end
section
variable {X : Cx} {CX : CXT} {k : Nat} {f C : Addr} {fd : FuncData} {ps ks : List Str} {sp : Sp} {E : XK} {x m : Str} {p pos apos kpos : Pos} {e o : Expr} {es : List Expr} {kws : List Keyword} {te ta : TE} {t tk : TA} {nm : Option Str}
structure KBinds (K : PySem.W.Frag) (fd : FuncData) (ps ks : List Str) (g : List Value → List Value → List Value) (gV : List V → List V → List V) : Prop where
  to : ∀ (s : Shared) (us ws : List Value), K.In s.heap → (g us ws).length = ps.length → BindsTo s fd ⟨us, ks.zip ws⟩ (ps.zip (g us ws))
  rel : ∀ {vs : List V} {us : List Value} {zs : List V} {ws : List Value}, Vals vs us → Vals zs ws → Vals (gV vs zs) (g us ws)
variable {g : List Value → List Value → List Value} {gV : List V → List V → List V}
end
structure FnScope (N P : List Str) (sc : Scope) : Prop where
  kind : sc.kind = .function
  co : sc.isCoroutine = false
  gen : sc.isGenerator = false
  nd : N.Nodup
  pre : N.take P.length = P
  par : ∀ x ∈ P, sc.names.lookup x = some .local ∨ sc.names.lookup x = some .cell
  nofree : ∀ y ∈ sc.names, y.2 ≠ .free
theorem bindL_out {kindOf : Str → Option NameKind} {x : Str} : ∀ {binds : List (Str × Value)} {m : Str → Option Value}, (∀ v, (x, v) ∉ binds) → bindL kindOf binds m x = m x
  | [], _, _ => rfl
  | (n, v) :: r, m, h => by
    unfold bindL
    rw [bindL_out fun w hw => h w (List.mem_cons_of_mem _ hw)]
    split
    · have : x ≠ n := by rintro rfl; exact h v List.mem_cons_self
      simp [this]
    · rfl
theorem bindC_out {kindOf : Str → Option NameKind} {x : Str} : ∀ {binds : List (Str × Value)} {m : Str → Option Value}, (∀ v, (x, v) ∉ binds) → bindC kindOf binds m x = m x
  | [], _, _ => rfl
  | (n, v) :: r, m, h => by
    unfold bindC
    rw [bindC_out fun w hw => h w (List.mem_cons_of_mem _ hw)]
    split
    · rfl
    · have : x ≠ n := by rintro rfl; exact h v List.mem_cons_self
      simp [this]
theorem bindL_get {kindOf : Str → Option NameKind} {x : Str} {v : Value} : ∀ {P : List Str} {vs : List Value} {i : Nat} {m : Str → Option Value}, P.Nodup → P[i]? = some x → vs[i]? = some v → kindOf x = some .local →
    bindL kindOf (P.zip vs) m x = some v
  | [], _, _, _, _, h, _, _ => by simp at h
  | _ :: _, [], _, _, _, _, h, _ => by simp at h
  | p :: P, w :: vs, 0, m, nd, h1, h2, hk => by
    simp at h1 h2; subst h1; subst h2
    show bindL kindOf ((p, w) :: P.zip vs) m p = _
    unfold bindL
    rw [bindL_out fun v hv => (List.nodup_cons.mp nd).1 (List.of_mem_zip hv).1, if_pos hk]
    simp
  | p :: P, w :: vs, i + 1, m, nd, h1, h2, hk => by
    show bindL kindOf ((p, w) :: P.zip vs) m x = _
    unfold bindL
    exact bindL_get (i := i) (List.nodup_cons.mp nd).2 (by simpa using h1) (by simpa using h2) hk
theorem bindC_get {kindOf : Str → Option NameKind} {x : Str} {v : Value} : ∀ {P : List Str} {vs : List Value} {i : Nat} {m : Str → Option Value}, P.Nodup → P[i]? = some x → vs[i]? = some v → kindOf x ≠ some .local →
    bindC kindOf (P.zip vs) m x = some v
  | [], _, _, _, _, h, _, _ => by simp at h
  | _ :: _, [], _, _, _, _, h, _ => by simp at h
  | p :: P, w :: vs, 0, m, nd, h1, h2, hk => by
    simp at h1 h2; subst h1; subst h2
    show bindC kindOf ((p, w) :: P.zip vs) m p = _
    unfold bindC
    rw [bindC_out fun v hv => (List.nodup_cons.mp nd).1 (List.of_mem_zip hv).1, if_neg hk]
    simp
  | p :: P, w :: vs, i + 1, m, nd, h1, h2, hk => by
    show bindC kindOf ((p, w) :: P.zip vs) m x = _
    unfold bindC
    exact bindC_get (i := i) (List.nodup_cons.mp nd).2 (by simpa using h1) (by simpa using h2) hk
noncomputable def start (N : List Str) (vs : List V) : St := vs.map some ++ List.replicate (N.length - vs.length) none
noncomputable def cxOf (CX : CXT) (P : Program) (w : World) (K : PySem.W.Frag) (mg : Str → Option Value) (base : Heap) (N : List Str) (qual : Str) (scope : Scope) (f : Addr) (cd : Value) (A : Around) (outer : List Env) (s : Shared) (H : Hp) (E : XK) : Cx where
  prog := P
  w := w
  K := K
  mg := mg
  base := base
  A := A.deeper (envOfC qual scope s.heap.objs.size f cd)
  N := N
  s₀ := s
  H₀ := H
  env := envOfC qual scope s.heap.objs.size f cd
  outer := outer
  stack := envOfC qual scope s.heap.objs.size f cd :: outer
  ex := []
  calm := true
  fn := fun _ => true
  pn := []
  xe := fun e s' => wpAny (model P w) (A.deeper (envOfC qual scope s.heap.objs.size f cd)) (leaving (envOfC qual scope s.heap.objs.size f cd) e) (fun _ s'' => CX outer H s E e s'') (fun e' s'' => CX outer H s E e' s'') s'
theorem cell_has {sc : Scope} {n : Nat} {x : Str} (h : sc.names.lookup x = some .cell) : ∃ c, (cellsFrom n sc.names []).lookup x = some c := by
  have q := PySem.W.cellsFrom_some sc.names n [] (.inl h)
  exact Option.isSome_iff_exists.mp q
theorem inv_start {CX : CXT} {P : Program} {w : World} {K : PySem.W.Frag} {mg : Str → Option Value} {base : Heap} {N ps : List Str} {qual : Str} {scope : Scope} {f : Addr} {cd : Value} {A : Around} {outer : List Env} {s s1 : Shared} {H : Hp} {E : XK} {us : List Value} {vs : List V}
    (S : FnScope N ps scope) (hd : A.handled = none) (e0 : Env0 P w K mg base A outer s H) (hl : vs.length = ps.length) (r : Vals vs us)
    (x : InCallC s s.heap.objs.size (bindL (envOfC qual scope s.heap.objs.size f cd).kindOf (ps.zip us) fun _ => none) (cellsFrom (s.heap.objs.size + 1) scope.names []) (bindC (envOfC qual scope s.heap.objs.size f cd).kindOf (ps.zip us) fun _ => none) s1) :
    Inv (cxOf CX P w K mg base N qual scope f cd A outer s H E) [] (start N vs) H s1 := by
  have hpl : ps.length ≤ N.length := by have := congrArg List.length S.pre; rw [List.length_take] at this; omega
  obtain ⟨h1, tk, rfl, hk⟩ := x.done
  have noA : ∀ b : Addr, b ∉ (cxOf CX P w K mg base N qual scope f cd A outer s H E).ex := fun b z => absurd (show b ∈ ([] : List Addr) from z) (by simp)
  refine ⟨⟨e0.mod, S.kind, rfl, rfl, Nat.le_refl _, fun y z c h1 h2 => ?_, fun y hy => ?_, fun y c _ h => ?_, fun _ => hd, Around.frames_deeper e0.frames, .inr ⟨rfl, rfl⟩, fun b z => absurd z (noA b), e0.bs, e0.bsz, fun b _ _ => noA b, fun b z => absurd z (noA b), e0.funs, e0.frf⟩,
    rfl, e0.bare, Un.kept hk, ⟨_, x.toInCall.ns, fun i y v h1 h2 h3 => ?_⟩, fun y c h => ⟨_, x.cell y c h⟩, e0.hok.fresh (Nat.le_refl _), fun y c h => ?_, fun p hp => absurd (show p ∈ ([] : List (Addr × Obj)) from hp) (by simp), e0.hok.kept hk, ?_⟩
  · exact name_of_addr x.apart (PySem.mem_of_lookup h1) (PySem.mem_of_lookup h2)
  · have hy : scope.names.lookup y = some .cell ∨ scope.names.lookup y = some .free := hy
    rcases hy with hy | hy
    · exact cell_has hy
    · exact absurd rfl (S.nofree _ (PySem.mem_of_lookup hy))
  · exact Nat.le_of_lt (x.above y c (PySem.mem_of_lookup h))
  · have hi : i < vs.length := by
      unfold start at h2
      by_cases hi : i < vs.length
      · exact hi
      · rw [List.getElem?_append_right (by simpa using hi)] at h2
        rw [List.getElem?_replicate] at h2
        split at h2 <;> cases h2
    have ha : vs[i]? = some v := by
      unfold start at h2
      rw [List.getElem?_append_left (by simpa using hi), List.getElem?_map] at h2
      cases e : vs[i]? with
      | none => rw [e] at h2; cases h2
      | some a => rw [e] at h2; cases h2; rfl
    obtain ⟨u, hu, rv⟩ := r.get ha
    have hp : ps[i]? = some y := by
      rw [← S.pre, List.getElem?_take_of_lt (by omega)]; exact h1
    have ndP : ps.Nodup := by rw [← S.pre]; exact S.nd.sublist (List.take_sublist _ _)
    refine ⟨u, rv, ?_⟩
    rcases S.par y (List.mem_of_getElem? hp) with k | k
    · exact .inl ⟨k, bindL_get ndP hp hu k⟩
    · obtain ⟨c, e⟩ := cell_has (n := s.heap.objs.size + 1) k
      refine .inr ⟨.inl k, c, e, ?_⟩
      have q := x.cell y c e
      rw [bindC_get ndP hp hu (by show scope.names.lookup y ≠ _; rw [k]; decide)] at q
      exact q
  · exact e0.hok.fresh (Nat.le_of_lt (x.above y c (PySem.mem_of_lookup h)))
  · unfold start
    show _ = N.length
    rw [List.length_append, List.length_map, List.length_replicate]
    omega
theorem fn_of {CX : CXT} {P : Program} {w : World} {K : PySem.W.Frag} {mg : Str → Option Value} {base : Heap} {k : Nat} {f : Addr} {name qual : Str} {params : Arguments} {body : List Stmt} {scope : Scope} {dV kV doc pm cdv ct oc : Value} {an od : Option Addr}
    {osl : Array (Option Value)} {N ps : List Str} {sp : Sp} (lk : K.lookup f = some ⟨oc, od, .func (PySem.W.fnOf name qual params body scope dV kV doc pm an cdv ct), osl⟩) (hcd : PySem.W.codeIn K cdv qual = true) (S : FnScope N ps scope)
    (len : ∀ vs H Q E, sp vs H Q E → vs.length = ps.length)
    (hbody : ∀ (A : Around) (outer : List Env) (s : Shared) (H : Hp) (vs : List V) (Q : VK) (E : XK), Room k (A.deeper (envOfC qual scope s.heap.objs.size f cdv)) → sp vs H Q E →
      ∃ t, PSs (cxOf CX P w K mg base N qual scope f cdv A outer s H E) body t ∧ t { nx := fun _ H' => Q .non H', rt := Q } (start N vs) H) :
    FnOk P w K mg base CX (k + 1) f (PySem.W.fnOf name qual params body scope dV kV doc pm an cdv ct) ps sp := by
  refine ⟨len, fun A outer s H args us vs Q E hr e0 hb r hsp => ?_⟩
  have hl := len _ _ _ _ hsp
  have KX : K.In s.heap := e0.mod.kin.keeps fun b o e => (e0.bs b o e).1
  have lim : s.heap.NoLimit := e0.mod.nolimit.keeps fun b o e => (e0.bs b o e).1
  have hkind : ∀ y ∈ ps.zip us, scope.names.lookup y.1 = some .local ∨ (scope.names.lookup y.1 = some .cell ∧ ((cellsFrom (s.heap.objs.size + 1) scope.names []).lookup y.1).isSome = true) := fun ⟨n, v⟩ hy => by
    rcases S.par n (List.of_mem_zip hy).1 with q | q
    · exact .inl q
    · exact .inr ⟨q, PySem.W.cellsFrom_some _ _ _ (.inl q)⟩
  refine codeAny_call_function hr.depth (KX _ _ lk) rfl S.co S.gen rfl (PySem.W.codeRec_of KX hcd) (hb _ _ _ _ ?_)
  refine wpAny_newFunctionEnv_cells S.kind hkind fun env he s1 x => ?_
  subst he
  refine ⟨lim.keeps x.toInCall.keep, codeAny_func ?_⟩
  obtain ⟨t, ht, hq⟩ := hbody A outer s H vs Q E (hr.deeper _) hsp
  have I : Inv (cxOf CX P w K mg base N qual scope f cdv A outer s H E) [] (start N vs) H s1 := inv_start S hr.hd e0 hl r x
  refine wpAny_mono (ht [] s1 (start N vs) H _ I hq) (fun fl s' hs => ?_) fun e s' hs => hs
  have fin : ∀ {σ' : St} {H' : Hp} {v : V} {u : Value}, Inv (cxOf CX P w K mg base N qual scope f cdv A outer s H E) [] σ' H' s' → RelV v u → Q v H' → CE outer P w H s Q u s' :=
    fun {σ' H' v u} J rv q => ⟨v, H', J.os, J.bare, J.base, J.hok, rv, q⟩
  cases fl with
  | ret u =>
    obtain ⟨v, σ', H', J, rv, q⟩ := hs
    exact fin J rv q
  | next =>
    obtain ⟨σ', H', J, q⟩ := hs
    exact fin (v := V.non) (u := Value.none) J rfl q
  | brk =>
    obtain ⟨_, _, _, q⟩ := hs
    exact False.elim q
  | cont =>
    obtain ⟨_, _, _, q⟩ := hs
    exact False.elim q
end L2
namespace L2
open PySem PySem.Spec PyProof.Rows
section
variable {X : Cx} {x : Str} {p pos : Pos} {e : Expr} {es : List Expr} {t : TA} {id T : String} {r : List V → Hp → VK → Prop}
noncomputable def tCB (r : List V → Hp → VK → Prop) (t : TA) : TE := fun σ H Q => t σ H fun vs H1 => r vs H1 Q
theorem pe_callB (hc : CallR X (.builtin id) r) (hg : Gl X x) (hm : X.mg x = none) (hv : bootBuiltins x = some (.builtin id)) (ha : PA X (e :: es) t) (hn : x ≠ "__name__" := by decide) (hdb : (x == ("__debug__" : Str)) = false := by decide)
    (he : starEach (e :: es) X.env = (false, eval e X.env) :: starEach es X.env := by rfl) (hpl : (backTo pos (starEach es X.env)).any (·.1) = false := by rfl) : PE X (.Call (.Name x p) (e :: es) [] pos) (tCB r t) := by
  intro pins s σ H Q I h
  refine wpAny_Call_Name_kw (ld_blt I hg hm hv ?_ hn hdb)
  exact PyProof.Rows.callWith_builtin1 (thn (ha pos pins s σ H _ I h) fun us s1 ⟨vs, H1, I1, r1, q1⟩ => hc pins s1 σ H1 vs us Q I1 r1 q1) he hpl
theorem pe_callTy (hc : CallR X (.type T) r) (hg : Gl X x) (hm : X.mg x = none) (hv : bootBuiltins x = some (.type T)) (ha : PA X (e :: es) t) (hn : x ≠ "__name__" := by decide) (hdb : (x == ("__debug__" : Str)) = false := by decide)
    (he : starEach (e :: es) X.env = (false, eval e X.env) :: starEach es X.env := by rfl) (hpl : (backTo pos (starEach es X.env)).any (·.1) = false := by rfl) : PE X (.Call (.Name x p) (e :: es) [] pos) (tCB r t) := by
  intro pins s σ H Q I h
  refine wpAny_Call_Name_kw (ld_blt I hg hm hv ?_ hn hdb)
  exact PyProof.Rows.callWith_type1 (thn (ha pos pins s σ H _ I h) fun us s1 ⟨vs, H1, I1, r1, q1⟩ => hc pins s1 σ H1 vs us Q I1 r1 q1) he hpl
end
end L2
namespace HT
open PySem PyProof.Rows
section
open PySem.SeqAt
open PySem.AutoSeq1 (wpAny_loadPart')
open PySem.MeetsSeq PySem.MeetsSeq2 PySem.MeetsSeq3
end
section
variable {prog : Program} {w : World} {A : Around} {E : Value → Shared → Prop} {s : Shared}
noncomputable def sIx (n d : Nat) : Option Int → Nat
  | none => d
  | some v => if v < 0 then (v + (n : Int)).toNat else min v.toNat n
theorem sIx_none (n d : Nat) : sIx n d none = d := rfl
theorem sIx_nat (n d k : Nat) : sIx n d (some (k : Int)) = min k n := by
  show (if (k : Int) < 0 then ((k : Int) + (n : Int)).toNat else min (k : Int).toNat n) = min k n
  rw [if_neg (by omega), Int.toNat_natCast]
end
end HT
namespace L2
open PySem PySem.Spec PyProof.Rows
noncomputable abbrev TO := St → Hp → (Option Int → Hp → Prop) → Prop
noncomputable def PO (X : Cx) (e : Option Expr) (t : TO) : Prop :=
  ∀ (pins : List (Addr × Obj)) (s : Shared) (σ : St) (H : Hp) (Q : Option Int → Hp → Prop), Inv X pins σ H s → t σ H Q →
    wpAny (model X.prog X.w) X.A (evalPart e X.env) (fun u s' => ∃ o H', Inv X pins σ H' s' ∧ IsPart u o ∧ Q o H') X.xe s
noncomputable def tNoPart : TO := fun _ H Q => Q none H
noncomputable def tPart (t : TE) : TO := fun σ H Q => t σ H fun x H1 => ∃ i, x = .int i ∧ Q (some i) H1
section
variable {X : Cx} {e : Expr} {te : TE} {lo hi : Option Expr} {tl th : TO} {pos p2 : Pos}
theorem po_none : PO X none tNoPart := by
  intro pins s σ H Q I h
  rw [evalPart_none]
  exact wpAny_pure ⟨none, H, I, .none, h⟩
theorem po_some (h : PE X e te) : PO X (some e) (tPart te) := by
  intro pins s σ H Q I hw
  rw [evalPart_some]
  refine thn (h pins s σ H _ I hw) fun u s1 ⟨x, H1, I1, r1, q1⟩ => ?_
  obtain ⟨i, rfl, q⟩ := q1
  obtain ⟨t, rfl⟩ := r1
  exact ⟨some i, H1, I1, .int i t, q⟩
noncomputable def SlR (X : Cx) (r : V → Option Int → Option Int → Hp → VK → Prop) : Prop :=
  ∀ (pins : List (Addr × Obj)) (s : Shared) (σ : St) (H : Hp) (x : V) (v vl vu : Value) (lo hi : Option Int) (sl : Addr) (Q : VK), Inv X pins σ H s → RelV x v → s.heap.IsSliceOf sl vl vu .none → IsPart vl lo → IsPart vu hi → r x lo hi H Q →
    ∃ T id, typeLookup (.type T) "__getitem__" = pure (some (.builtin id)) ∧ s.TypeIs v T ∧ wpAny (model X.prog X.w) X.A (getItem v (.ref sl)) (EP X pins σ Q) X.xe s
theorem SlR.or {r r' : V → Option Int → Option Int → Hp → VK → Prop} (h : SlR X r) (h' : SlR X r') : SlR X (fun x lo hi H Q => r x lo hi H Q ∨ r' x lo hi H Q) := by
  intro pins s σ H x v vl vu lo hi sl Q I rx hs pl pu q
  rcases q with q | q
  · exact h pins s σ H x v vl vu lo hi sl Q I rx hs pl pu q
  · exact h' pins s σ H x v vl vu lo hi sl Q I rx hs pl pu q
noncomputable def tSl (r : V → Option Int → Option Int → Hp → VK → Prop) (te : TE) (tl th : TO) : TE := fun σ H Q => te σ H fun x H1 => tl σ H1 fun l H2 => th σ H2 fun u H3 => r x l u H3 Q
theorem pe_slice {r : V → Option Int → Option Int → Hp → VK → Prop} (hr : SlR X r) (he : PE X e te) (hl : PO X lo tl) (hu : PO X hi th) : PE X (.Subscript e (.Slice lo hi none p2) pos) (tSl r te tl th) := by
  intro pins s σ H Q I h
  refine Subscript_ (thn (he pins s σ H _ I h) fun v s1 ⟨x, H1, I1, r1, q1⟩ => ?_)
  refine wpAny_Slice (thn (hl pins s1 σ H1 _ I1 q1) fun vl s2 ⟨l, H2, I2, pl, q2⟩ => thn (hu pins s2 σ H2 _ I2 q2) fun vu s3 ⟨u, H3, I3, pu, q3⟩ => ?_)
  rw [evalPart_none]
  refine wpAny_pure ?_
  have I4 : Inv X pins σ H3 { s3 with heap := s3.heap.push { cls := .type "slice", data := .fields #[vl, vu, .none] } } := I3.kept (t' := s3.toks) fun b ob q => Heap.get?_push_of_some _ q
  obtain ⟨T, id, hT, ht, hg⟩ := hr pins { s3 with heap := s3.heap.push { cls := .type "slice", data := .fields #[vl, vu, .none] } } σ H3 x v vl vu l u s3.heap.objs.size Q I4 r1 (Heap.IsSliceOf.new ..) pl pu q3
  show wpAny (model X.prog X.w) X.A (subscriptTail e (.Slice lo hi none p2) v (.ref s3.heap.objs.size)) (EP X pins σ Q) X.xe { s3 with heap := s3.heap.push { cls := .type "slice", data := .fields #[vl, vu, .none] } }
  exact tail_any (ops := [.ref s3.heap.objs.size, v]) ht hT hg (by with_unfolding_all rfl)
noncomputable def cutV (xs : List V) (lo hi : Option Int) : List V := (xs.drop (HT.sIx xs.length 0 lo)).take (HT.sIx xs.length xs.length hi - HT.sIx xs.length 0 lo)
theorem cutV_length (xs : List V) (lo hi : Option Int) : (cutV xs lo hi).length ≤ xs.length := by
  unfold cutV
  rw [List.length_take, List.length_drop]
  omega
end
end L2
namespace L2
open PySem PySem.Spec PyProof.Rows
noncomputable def ixN (n : Nat) (i : Int) : Option Nat := if 0 ≤ i then (if i < n then some i.toNat else none) else if -(n : Int) ≤ i then some (i + n).toNat else none
noncomputable def atI {α : Type} (xs : List α) (i : Int) : Option α := (ixN xs.length i).bind fun j => xs[j]?
theorem ixN_seq {n : Nat} {i : Int} {j : Nat} (h : ixN n i = some j) : seqIndex? i n = some j ∧ j < n ∧ -(n : Int) ≤ i ∧ i < n := by
  unfold ixN at h
  by_cases h0 : 0 ≤ i
  · rw [if_pos h0] at h
    by_cases h1 : i < n
    · rw [if_pos h1] at h
      have e : i.toNat = j := Option.some.inj h
      exact ⟨by rw [seqIndex_of h0 h1, e], by omega, by omega, h1⟩
    · rw [if_neg h1] at h; cases h
  · rw [if_neg h0] at h
    by_cases h1 : -(n : Int) ≤ i
    · rw [if_pos h1] at h
      have e : (i + n).toNat = j := Option.some.inj h
      exact ⟨by rw [seqIndex_neg (by omega) h1, e], by omega, h1, by omega⟩
    · rw [if_neg h1] at h; cases h
theorem atI_get {α : Type} {xs : List α} {i : Int} {v : α} (h : atI xs i = some v) : ∃ j, seqIndex? i xs.length = some j ∧ xs[j]? = some v ∧ j < xs.length ∧ -(xs.length : Int) ≤ i ∧ i < xs.length := by
  unfold atI at h
  cases e : ixN xs.length i with
  | none => rw [e] at h; cases h
  | some j =>
    rw [e] at h
    obtain ⟨h1, h2, h3, h4⟩ := ixN_seq e
    exact ⟨j, h1, h, h2, h3, h4⟩
noncomputable def PlainIx (b : Expr) : Prop := ∀ o i, subscripted b false o i = operate [o, i] (getItem o i)
noncomputable def IxR (X : Cx) (r : R2) : Prop :=
  ∀ (value slice : Expr) (pins : List (Addr × Obj)) (s : Shared) (σ : St) (H : Hp) (x y : V) (v u : Value) (Q : VK), Inv X pins σ H s → RelV x v → RelV y u → r x y H Q →
    subscripted slice false v u = operate [v, u] (getItem v u) → wpAny (model X.prog X.w) X.A (subscriptTail value slice v u) (EP X pins σ Q) X.xe s
noncomputable def MtR (X : Cx) (id : String) (r : V → List V → Hp → VK → Prop) : Prop :=
  ∀ (pins : List (Addr × Obj)) (s : Shared) (σ : St) (H : Hp) (x : V) (xs : List V) (v : Value) (us : List Value) (Q : VK), Inv X pins σ H s → RelV x v → Vals xs us → r x xs H Q →
    wpAny (model X.prog X.w) X.A (call (.builtin id) (v :: us)) (EP X pins σ Q) X.xe s
section
variable {X : Cx} {a b : Expr} {ta tb : TE} {pos : Pos}
theorem IxR.or {r r' : R2} (h : IxR X r) (h' : IxR X r') : IxR X (fun x y H Q => r x y H Q ∨ r' x y H Q) := by
  intro value slice pins s σ H x y v u Q I rx ry q hs
  rcases q with q | q
  · exact h value slice pins s σ H x y v u Q I rx ry q hs
  · exact h' value slice pins s σ H x y v u Q I rx ry q hs
theorem MtR.or {id : String} {r r' : V → List V → Hp → VK → Prop} (h : MtR X id r) (h' : MtR X id r') : MtR X id (fun x xs H Q => r x xs H Q ∨ r' x xs H Q) := by
  intro pins s σ H x xs v us Q I rx rs q
  rcases q with q | q
  · exact h pins s σ H x xs v us Q I rx rs q
  · exact h' pins s σ H x xs v us Q I rx rs q
theorem pe_ix {r : R2} (hr : IxR X r) (ha : PE X a ta) (hb : PE X b tb) (hs : PlainIx b) : PE X (.Subscript a b pos) (tOp r ta tb) := by
  intro pins s σ H Q I h
  exact Subscript_ (binT ha hb I h fun v u s2 x y H2 I2 rx ry q => hr a b pins s2 σ H2 x y v u Q I2 rx ry q (hs _ _))
noncomputable def rIxL (K : PySem.W.Frag) : R2 := fun x y H Q => ∃ p xs i v, x = .ref p ∧ y = .int i ∧ SqL K H p xs ∧ atI xs i = some v ∧ Q v H
noncomputable def rIxT (K : PySem.W.Frag) : R2 := fun x y H Q => ∃ p xs i v, x = .ref p ∧ y = .int i ∧ SqT K H p xs ∧ atI xs i = some v ∧ Q v H
noncomputable def rIxS : R2 := fun x y H Q => ∃ z i c, x = .str z ∧ y = .int i ∧ z.length ≤ sizeLine ∧ atI z.cps.toList i = some c ∧ Q (.str ⟨#[c]⟩) H
theorem ix_list : IxR X (rIxL X.K) := by
  intro value slice pins s σ H x y v u Q I rx ry h hs
  obtain ⟨p, xs, i, z, rfl, rfl, hq, he, q⟩ := h
  cases rx
  obtain ⟨t, rfl⟩ := ry
  obtain ⟨its, r, pl, hz⟩ := I.list hq
  obtain ⟨j, h1, h2, h3, h4, h5⟩ := atI_get he
  obtain ⟨w, ew, rw'⟩ := r.get h2
  have hl := r.length
  have hn := line63
  have fin : EP X pins σ Q w s := ⟨z, H, I, rw', q⟩
  by_cases h0 : 0 ≤ i
  · have hj : i.toNat = j := by
      rw [seqIndex_of h0 h5] at h1
      exact Option.some.inj h1
    exact item_listR pl.isList h0 (by omega) (by rw [hj]; simpa using ew) fin hs
  · have hj : (i + (its.toArray.size : Int)).toNat = j := by
      rw [seqIndex_neg (by omega) h4] at h1
      rw [List.size_toArray, ← hl]
      exact Option.some.inj h1
    exact subscriptTail_builtinR (x := w) pl.isList.typeIs slot_list_getitem.lookup
      (wpAny_getItem_list_neg (Q := fun r s' => r = w ∧ EP X pins σ Q r s') pl.isList (by omega) (by rw [List.size_toArray] <;> omega) (by omega) (by rw [hj]; simpa using ew) ⟨rfl, fin⟩) hs
theorem ix_tup : IxR X (rIxT X.K) := by
  intro value slice pins s σ H x y v u Q I rx ry h hs
  obtain ⟨p, xs, i, z, rfl, rfl, hq, he, q⟩ := h
  cases rx
  obtain ⟨t, rfl⟩ := ry
  obtain ⟨its, r, pl, hz⟩ := I.tuple hq
  obtain ⟨j, h1, h2, h3, h4, h5⟩ := atI_get he
  obtain ⟨w, ew, rw'⟩ := r.get h2
  have hl := r.length
  have hn := line63
  have fin : EP X pins σ Q w s := ⟨z, H, I, rw', q⟩
  exact subscriptTail_builtinR (x := w) pl.typeIs slot_tuple_getitem.lookup
    (getItem_tuple (j := j) (Q := fun r s' => r = w ∧ EP X pins σ Q r s') pl (by omega) (by omega) (by rw [List.size_toArray, ← hl]; exact h1) (by simpa using ew) ⟨rfl, fin⟩) hs
theorem ix_str : IxR X rIxS := by
  intro value slice pins s σ H x y v u Q I rx ry h hs
  obtain ⟨z, i, c, rfl, rfl, hz, he, q⟩ := h
  obtain ⟨t, rfl⟩ := rx
  obtain ⟨t', rfl⟩ := ry
  obtain ⟨j, h1, h2, h3, h4, h5⟩ := atI_get he
  have hl : z.cps.toList.length = z.length := by simp [Str.length]
  rw [hl] at h1 h4 h5
  have hn := line63
  exact tail_any (typeIs_str s z t) slot_str_getitem.lookup (getItem_str (c := c) (by
    have e1 : decide (i < -(2 ^ 63 : Int)) = false := decide_eq_false (by omega)
    have e2 : decide (i ≥ 2 ^ 63) = false := decide_eq_false (by omega)
    rw [e1, e2, Bool.or_false]) (by rw [h1]; simpa using h2) ⟨.str ⟨#[c]⟩, H, I.tok _, ⟨_, rfl⟩, q⟩) hs
noncomputable def rIx (K : PySem.W.Frag) : R2 := fun x y H Q => rIxL K x y H Q ∨ rIxT K x y H Q ∨ rIxS x y H Q
theorem ix_seq : IxR X (rIx X.K) := ix_list.or (ix_tup.or ix_str)
theorem mapSeq_set (its : List Value) (n j : Nat) (u : Value) : Obj.mapSeq (·.setIfInBounds j u) { cls := .type "list", data := .seq its.toArray n } = { cls := .type "list", data := .seq (its.set j u).toArray n } := by
  simp [Obj.mapSeq]
theorem Inv.lst {pins : List (Addr × Obj)} {σ : St} {H : Hp} {s : Shared} {p : Addr} {xs : List V} (I : Inv X pins σ H s) (h : H p = some (.lst xs)) :
    ∃ (its : List Value) (n : Nat), Vals xs its ∧ s.heap.get? p = some { cls := .type "list", data := .seq its.toArray n } ∧ xs.length ≤ sizeLine := by
  obtain ⟨z, its, n, r, e⟩ := I.hok p _ h
  exact ⟨its, n, r, e, z⟩
theorem Inv.lstUpd {pins : List (Addr × Obj)} {σ : St} {H : Hp} {s : Shared} {p : Addr} {xs ys : List V} {its its' : List Value} {n n' : Nat} {f : Obj → Obj} (I : Inv X pins σ H s) (h : H p = some (.lst xs))
    (ho : s.heap.get? p = some { cls := .type "list", data := .seq its.toArray n }) (hf : f { cls := .type "list", data := .seq its.toArray n } = { cls := .type "list", data := .seq its'.toArray n' }) (r : Vals ys its') (hz : ys.length ≤ sizeLine) (t : Nat) :
    Inv X pins σ (upd H p (.lst ys)) { s with heap := s.heap.update p f, toks := t } := by
  have e : (s.heap.update p f).get? p = some { cls := .type "list", data := .seq its'.toArray n' } := by
    rw [Heap.get?_update_self f ho (by rw [hf] <;> rfl), hf]
  refine I.write (x := p) (e := p) (by rw [h]; trivial) (.inl rfl) (fun b u hb q => (Heap.get?_update_other _ _ (Ne.symm hb)).trans q) ⟨_, e⟩ ?_
  exact ⟨hz, its', n', r, e⟩
noncomputable def rSetL : V → V → V → Hp → (Hp → Prop) → Prop := fun o i v H Q => ∃ p xs k j, o = .ref p ∧ i = .int k ∧ H p = some (.lst xs) ∧ ixN xs.length k = some j ∧ Q (upd H p (.lst (xs.set j v)))
theorem set_list : PSet X rSetL := by
  intro pins s σ H o i v ov iv u Q I ro ri rv h
  obtain ⟨p, xs, k, j, rfl, rfl, hp, hj, q⟩ := h
  cases ro
  obtain ⟨t, rfl⟩ := ri
  obtain ⟨its, n, r, ho, hz⟩ := I.lst hp
  obtain ⟨h1, h2, h3, h4⟩ := ixN_seq hj
  have hl := r.length
  have hn := line63
  have I' : Inv X pins σ (upd H p (.lst (xs.set j v))) { s with heap := s.heap.update p (Obj.mapSeq (·.setIfInBounds j u)) } :=
    I.lstUpd hp ho (mapSeq_set its n j u) (r.set rv j) (by rw [List.length_set]; exact hz) s.toks
  by_cases h0 : 0 ≤ k
  · have hk : k.toNat = j := by
      rw [seqIndex_of h0 h4] at h1
      exact Option.some.inj h1
    exact PySem.W.ki_setAt ho h0 (by omega) (by rw [List.size_toArray, ← hl]; exact h4) (by rw [hk]; exact ⟨_, I', q⟩)
  · have hk : (k + (its.toArray.size : Int)).toNat = j := by
      rw [seqIndex_neg (by omega) h3] at h1
      rw [List.size_toArray, ← hl]
      exact Option.some.inj h1
    exact PySem.W.ki_setBack ho (by omega) (by rw [List.size_toArray, ← hl]; exact h3) (by omega) (by rw [hk]; exact ⟨_, I', q⟩)
theorem slice_bounds (lo hi : Option Int) (n : Nat) : (sliceBounds lo hi none n).1 = ((HT.sIx n 0 lo : Nat) : Int) ∧ (sliceBounds lo hi none n).2.1 = ((HT.sIx n n hi : Nat) : Int) ∧ (sliceBounds lo hi none n).2.2 = 1 := by
  refine ⟨?_, ?_, rfl⟩
  · cases lo with
    | none => simp [sliceBounds, HT.sIx]
    | some i =>
      simp only [sliceBounds, HT.sIx, Option.getD_none, show (1 : Int) > 0 by decide, if_true]
      by_cases h : i < 0
      · simp only [h, if_true] <;> omega
      · simp only [h, if_false] <;> omega
  · cases hi with
    | none => simp [sliceBounds, HT.sIx]
    | some i =>
      simp only [sliceBounds, HT.sIx, Option.getD_none, show (1 : Int) > 0 by decide, if_true]
      by_cases h : i < 0
      · simp only [h, if_true] <;> omega
      · simp only [h, if_false] <;> omega
theorem slicePick_cut (its : List Value) (lo hi : Option Int) : slicePick its.toArray lo hi none = ((its.drop (HT.sIx its.length 0 lo)).take (HT.sIx its.length its.length hi - HT.sIx its.length 0 lo)).toArray := by
  obtain ⟨h1, h2, h3⟩ := slice_bounds lo hi its.toArray.size
  unfold slicePick
  rw [h1, h2, h3]
  simp only [sliceRange_one, pick_run, List.size_toArray] <;> rfl
noncomputable def rSlL (K : PySem.W.Frag) : V → Option Int → Option Int → Hp → VK → Prop := fun x lo hi H Q => ∃ a xs, x = .ref a ∧ SqL K H a xs ∧ ∀ p, H p = none → Q (.ref p) (upd H p (.lst (cutV xs lo hi)))
theorem sl_list : SlR X (rSlL X.K) := by
  intro pins s σ H x v vl vu lo hi sl Q I rx hs pl pu h
  obtain ⟨a, xs, rfl, hx, q⟩ := h
  cases rx
  obtain ⟨its, r, ht, hz⟩ := I.list hx
  have hlen := r.length
  refine ⟨"list", _, slot_list_getitem.lookup, ht.isList.typeIs, ?_⟩
  refine wpAny_getItem_list_slice ht.isList hs pl pu .none (by simp) ?_ (by rw [List.size_toArray] <;> omega)
  rw [slicePick_cut, ← hlen]
  refine ⟨.ref s.heap.objs.size, _, I.laid (t' := s.toks) (o := .lst (cutV xs lo hi)) (fun b ob q => Heap.get?_push_of_some _ q) (Nat.le_refl _) ?_, rfl, q _ (I.hok.fresh (Nat.le_refl _))⟩
  exact ⟨Nat.le_trans (cutV_length xs lo hi) hz, _, 0, (r.drop (HT.sIx xs.length 0 lo)).take (HT.sIx xs.length xs.length hi - HT.sIx xs.length 0 lo), Heap.get?_push_size _ rfl⟩
noncomputable def flatV : V → Bool
  | .non => true
  | .bl _ => true
  | .int _ => true
  | .str _ => true
  | _ => false
noncomputable def eqV : V → V → Bool
  | .non, .non => true
  | .bl a, .bl b => a == b
  | .bl a, .int b => (if a then 1 else 0) == b
  | .int a, .bl b => a == (if b then 1 else 0)
  | .int a, .int b => a == b
  | .str a, .str b => a == b
  | _, _ => false
theorem eqAt_V {A : Around} {s : Shared} {y x : V} {u v : Value} (ry : RelV y u) (rx : RelV x v) (fy : flatV y = true) (fx : flatV x = true) : SeqAt.EqAt A s u v (eqV y x) := by
  cases y with
  | non =>
    cases ry
    cases x with
    | non => cases rx; exact SeqAt.EqAt.same _
    | bl b => cases rx; exact SeqAt.EqAt.none_bool b
    | int b => obtain ⟨t, rfl⟩ := rx; exact SeqAt.EqAt.none_int b t
    | str b => obtain ⟨t, rfl⟩ := rx; exact SeqAt.EqAt.none_str b t
    | _ => exact absurd (show false = true from fx) Bool.false_ne_true
  | bl a =>
    cases ry
    cases x with
    | non => cases rx; exact SeqAt.EqAt.bool_none a
    | bl b => cases rx; exact SeqAt.EqAt.bool_bool a b
    | int b => obtain ⟨t, rfl⟩ := rx; exact SeqAt.EqAt.bool_int a b t
    | str b => obtain ⟨t, rfl⟩ := rx; exact SeqAt.EqAt.bool_str a b t
    | _ => exact absurd (show false = true from fx) Bool.false_ne_true
  | int a =>
    obtain ⟨t', rfl⟩ := ry
    cases x with
    | non => cases rx; exact SeqAt.EqAt.int_none a t'
    | bl b => cases rx; exact SeqAt.EqAt.int_bool a t' b
    | int b => obtain ⟨t, rfl⟩ := rx; exact SeqAt.EqAt.int_int a t' b t
    | str b => obtain ⟨t, rfl⟩ := rx; exact SeqAt.EqAt.int_str a t' b t
    | _ => exact absurd (show false = true from fx) Bool.false_ne_true
  | str a =>
    obtain ⟨t', rfl⟩ := ry
    cases x with
    | non => cases rx; exact SeqAt.EqAt.str_none a t'
    | bl b => cases rx; exact SeqAt.EqAt.str_bool a t' b
    | int b => obtain ⟨t, rfl⟩ := rx; exact SeqAt.EqAt.str_int a t' b t
    | str b => obtain ⟨t, rfl⟩ := rx; exact SeqAt.EqAt.str_str a t' b t
    | _ => exact absurd (show false = true from fx) Bool.false_ne_true
  | _ => exact absurd (show false = true from fy) Bool.false_ne_true
noncomputable def eqU (x : V) (u : Value) : Bool := match u with
  | .none => eqV .non x
  | .bool b => eqV (.bl b) x
  | .int i _ => eqV (.int i) x
  | .str z _ => eqV (.str z) x
  | _ => false
theorem eqU_of {x y : V} {u : Value} (r : RelV y u) (f : flatV y = true) : eqU x u = eqV y x := by
  cases y with
  | non => cases r; rfl
  | bl b => cases r; rfl
  | int i => obtain ⟨t, rfl⟩ := r; rfl
  | str z => obtain ⟨t, rfl⟩ := r; rfl
  | _ => exact absurd (show false = true from f) Bool.false_ne_true
theorem any_eqU {x : V} : ∀ {xs : List V} {us : List Value}, Vals xs us → xs.all flatV = true → us.any (eqU x) = xs.any fun y => eqV y x
  | _, _, .nil, _ => rfl
  | y :: xs, u :: us, .cons r t, f => by
    rw [List.all_cons, Bool.and_eq_true] at f
    rw [List.any_cons, List.any_cons, eqU_of r f.1, any_eqU t f.2]
theorem mem_eqAt {A : Around} {s : Shared} {x : V} {v : Value} (rx : RelV x v) (fx : flatV x = true) : ∀ {xs : List V} {us : List Value}, Vals xs us → xs.all flatV = true → ∀ u ∈ us, SeqAt.EqAt A s u v (eqU x u)
  | _, _, .nil, _ => fun u hu => by cases hu
  | y :: xs, u :: us, .cons r t, f => fun u' hu => by
    rw [List.all_cons, Bool.and_eq_true] at f
    rcases List.mem_cons.mp hu with rfl | hu
    · rw [eqU_of r f.1]; exact eqAt_V r rx f.1 fx
    · exact mem_eqAt rx fx t f.2 u' hu
noncomputable def inV (x : V) (xs : List V) : Bool := xs.any fun y => eqV y x
noncomputable def rIn (K : PySem.W.Frag) (neg : Bool) : R2 := fun x y H Q => ∃ p xs, y = .ref p ∧ (SqL K H p xs ∨ SqT K H p xs) ∧ flatV x = true ∧ xs.all flatV = true ∧ Q (.bl (if neg then !inV x xs else inV x xs)) H
theorem op_in_seq : OpR X (compareOp .In) (rIn X.K false) := by
  intro pins s σ H x y v u Q I rx ry h
  obtain ⟨p, xs, rfl, hq, fx, fs, q⟩ := h
  cases ry
  rcases hq with hq | hq
  · obtain ⟨its, r, pl, hz⟩ := I.list hq
    refine SeqAt.in_listAt (eqU x) pl.isList (fun w hw => mem_eqAt rx fx r fs w (by simpa using hw)) ⟨.bl _, H, I, rfl, ?_⟩
    rw [show its.toArray.any (eqU x) = its.any (eqU x) by simp, any_eqU r fs]
    exact q
  · obtain ⟨its, r, pl, hz⟩ := I.tuple hq
    refine SeqAt.in_tupleAt (eqU x) pl (fun w hw => mem_eqAt rx fx r fs w (by simpa using hw)) ⟨.bl _, H, I, rfl, ?_⟩
    rw [show its.toArray.any (eqU x) = its.any (eqU x) by simp, any_eqU r fs]
    exact q
theorem call_len_seq : CallR X (.builtin "len") (fun xs H Q => ∃ p ys, xs = [.ref p] ∧ (SqL X.K H p ys ∨ SqT X.K H p ys) ∧ Q (.int ys.length) H) := by
  intro pins s σ H xs us Q I r h
  obtain ⟨p, ys, rfl, hq, q⟩ := h
  obtain ⟨u, rfl, rx⟩ := vals1 r
  cases rx
  have hn := line63
  rcases hq with hq | hq
  · obtain ⟨its, r', pl, hz⟩ := I.list hq
    have hlen := r'.length
    exact Calls.call_len_list pl.isList (by simp only [List.size_toArray] <;> omega) ⟨.int ys.length, H, I.tok _, ⟨s.toks + 1, by rw [List.size_toArray, hlen]⟩, q⟩
  · obtain ⟨its, r', pl, hz⟩ := I.tuple hq
    have hlen := r'.length
    exact len_tuple pl (by simp only [List.size_toArray] <;> omega) ⟨.int ys.length, H, I.tok _, ⟨s.toks + 1, by rw [List.size_toArray, hlen]⟩, q⟩
theorem call_len_str : CallR X (.builtin "len") (fun xs H Q => ∃ z, xs = [.str z] ∧ z.length ≤ sizeLine ∧ Q (.int z.length) H) := by
  intro pins s σ H xs us Q I r h
  obtain ⟨z, rfl, hz, q⟩ := h
  obtain ⟨u, rfl, t, rfl⟩ := vals1 r
  have hn := line63
  exact len_str (by omega) ⟨.int z.length, H, I.tok _, ⟨_, rfl⟩, q⟩
theorem CallR.or {f : Value} {r r' : List V → Hp → VK → Prop} (h : CallR X f r) (h' : CallR X f r') : CallR X f (fun xs H Q => r xs H Q ∨ r' xs H Q) := by
  intro pins s σ H xs us Q I rs q
  rcases q with q | q
  · exact h pins s σ H xs us Q I rs q
  · exact h' pins s σ H xs us Q I rs q
theorem call_list_of : CallR X (.type "list") (fun xs H Q => ∃ p ys, xs = [.ref p] ∧ (SqL X.K H p ys ∨ SqT X.K H p ys) ∧ ∀ l, H l = none → Q (.ref l) (upd H l (.lst ys))) := by
  intro pins s σ H xs us Q I r h
  obtain ⟨p, ys, rfl, hq, q⟩ := h
  obtain ⟨u, rfl, rx⟩ := vals1 r
  cases rx
  have fin : ∀ (its : List Value), Vals ys its → ys.length ≤ sizeLine → ∀ (h' : Heap) (c' : Nat), (∀ b o', s.heap.get? b = some o' → h'.get? b = some o') →
      h'.get? s.heap.objs.size = some { cls := .type "list", dict := none, data := .seq its.toArray c', slots := #[] } → EP X pins σ Q (.ref s.heap.objs.size) { s with heap := h' } := fun its r' hz h' c' kp e =>
    ⟨.ref s.heap.objs.size, _, I.laid (t' := s.toks) kp (Nat.le_refl _) (show ObjOk X.prog X.w _ h' _ (.lst ys) from ⟨hz, its, c', r', e⟩), rfl, q _ (I.hok.fresh (Nat.le_refl _))⟩
  rcases hq with hq | hq
  · obtain ⟨its, r', pl, hz⟩ := I.list hq
    have hlen := r'.length
    obtain ⟨o, ho, hc, n, hd⟩ := pl.isList
    exact call_list_seq p (.inl rfl) ho hc hd (fun h' c' kp e => fin its r' hz h' c' kp e) (by simp only [List.size_toArray] <;> omega)
  · obtain ⟨its, r', pl, hz⟩ := I.tuple hq
    have hlen := r'.length
    obtain ⟨o, ho, hc, n, hd⟩ := pl
    exact call_list_seq p (.inr rfl) ho hc hd (fun h' c' kp e => fin its r' hz h' c' kp e) (by simp only [List.size_toArray] <;> omega)
noncomputable def tyV (K : PySem.W.Frag) (T : String) (x : V) (H : Hp) : Prop := match x with
  | .str _ => T = "str"
  | .int _ => T = "int"
  | .ref p => (T = "list" ∧ ∃ xs, SqL K H p xs) ∨ (T = "tuple" ∧ ∃ o, K.lookup p = some o ∧ o.cls = .type "tuple" ∧ o.dict = none) ∨
      (T = "dict" ∧ ((∃ kvs, H p = some (.dK kvs)) ∨ ∃ kvs, H p = some (.dT kvs))) ∨ (T = "set" ∧ ∃ S n, H p = some (.set S n))
  | _ => False
theorem tyV_is {pins : List (Addr × Obj)} {σ : St} {H : Hp} {s : Shared} {T : String} {x : V} {v : Value} (I : Inv X pins σ H s) (r : RelV x v) (ty : tyV X.K T x H) :
    s.TypeIs v T ∧ ∀ a, v = .ref a → ∃ ob, s.heap.get? a = some ob ∧ ob.dict = none := by
  cases x with
  | str z =>
    obtain ⟨t, rfl⟩ := r
    cases (show T = "str" from ty)
    exact ⟨typeIs_str s z t, fun _ e => nomatch e⟩
  | int i =>
    obtain ⟨t, rfl⟩ := r
    cases (show T = "int" from ty)
    exact ⟨typeIs_int s i t, fun _ e => nomatch e⟩
  | ref p =>
    cases r
    rcases ty with ⟨rfl, xs, hq⟩ | ⟨rfl, o, hk, hc, hd⟩ | ⟨rfl, hk⟩ | ⟨rfl, S, n, hk⟩
    · obtain ⟨its, _, pl, _⟩ := I.list hq
      refine ⟨pl.isList.typeIs, fun a e => ?_⟩
      cases e
      obtain ⟨o, n, e, c, hd, _⟩ := pl
      exact ⟨o, e, hd⟩
    · refine ⟨⟨o, I.kIn p o hk, hc⟩, fun a e => ?_⟩
      cases e
      exact ⟨o, I.kIn _ o hk, hd⟩
    · have z : ∃ o, s.heap.get? p = some o ∧ o.ExactDict := by
        rcases hk with ⟨kvs, hk⟩ | ⟨kvs, hk⟩
        · obtain ⟨_, _, _, _, o, _, _, e, ex, _⟩ := I.hok p _ hk
          exact ⟨o, e, ex⟩
        · obtain ⟨_, _, _, _, o, _, _, e, ex, _⟩ := I.hok p _ hk
          exact ⟨o, e, ex⟩
      obtain ⟨o, e, ex⟩ := z
      refine ⟨⟨o, e, ex.1⟩, fun a e2 => ?_⟩
      cases e2
      exact ⟨o, e, ex.2.1⟩
    · obtain ⟨o, _, _, _, e, ex, _⟩ := I.hok p _ hk
      refine ⟨⟨o, e, ex.1⟩, fun a e2 => ?_⟩
      cases e2
      exact ⟨o, e, ex.2.1⟩
  | _ => exact False.elim ty
noncomputable def tBM (K : PySem.W.Frag) (T : String) (r : V → List V → Hp → VK → Prop) (to : TE) (t : TA) : TE := fun σ H Q => to σ H fun x H1 => tyV K T x H1 ∧ t σ H1 fun xs H2 => r x xs H2 Q
variable {o e : Expr} {es : List Expr} {to : TE} {t : TA} {name : Str} {apos cpos : Pos} {T id : String} {r : V → List V → Hp → VK → Prop}
theorem pe_bm (pa : PlainAttrs T) (slot : Slot T name id) (hty : typeOf (.builtin id) = pure (.type "method_descriptor")) (hm : MtR X id r) (ho : PE X o to) (ha : PA X (e :: es) t)
    (hbase : attributeBase o name X.env (eval o X.env) = eval o X.env := by rfl)
    (hfew : ((backTo cpos (starEach (e :: es) X.env)).all (fun x => !x.1) && (backToKw cpos (keywordEach [] X.env)).all (fun x => x.1.isSome)
      && decide ((e :: es).length + ([] : List Keyword).length + (if ([] : List Keyword).isEmpty then 0 else 1) < 30)) = true := by rfl)
    (hline : (apos.endLine == cpos.line) = true := by rfl) (hs : starEach (e :: es) X.env = (false, eval e X.env) :: starEach es X.env := by rfl) (hplain : (backTo cpos (starEach es X.env)).any (·.1) = false := by rfl) :
    PE X (.Call (.Attribute o name apos) (e :: es) [] cpos) (tBM X.K T r to t) := by
  intro pins s σ H Q I h
  refine wpAny_Call_method_late hbase hfew hline rfl (thn (ho pins s σ H _ I h) fun v s1 ⟨x, H1, I1, r1, ty, q1⟩ => ?_)
  obtain ⟨h1, h2⟩ := tyV_is I1 r1 ty
  refine ⟨T, id, pa, slot, hty, h1, h2, ?_⟩
  have hA := ha cpos pins s1 σ H1 _ I1 q1
  rw [hs] at hA ⊢
  refine Calls.callWith_builtin (by show (false || (backTo cpos (starEach es X.env)).any (·.1)) = false; rw [hplain] <;> rfl) (Calls.evalArgs_plain ?_)
  exact thn hA fun us s2 ⟨vs, H2, I2, r2, q2⟩ => hm pins s2 σ H2 x vs v us Q I2 r1 r2 q2
end
end L2
namespace L2
open PySem PySem.Spec PyProof.Rows
noncomputable def MtM (X : Cx) (id : String) (r : V → List V → Hp → VK → Prop) : Prop :=
  ∀ (pins : List (Addr × Obj)) (s : Shared) (σ : St) (H : Hp) (x : V) (xs : List V) (v : Value) (us : List Value) (Q : VK), Inv X pins σ H s → RelV x v → Vals xs us → r x xs H Q →
    wpAny (model X.prog X.w) X.A (call (.builtin id) (v :: us)) (EP X pins σ Q) X.xe s
theorem Vals.one {x : V} {us : List Value} (h : Vals [x] us) : ∃ u, us = [u] ∧ RelV x u := vals1 h
theorem Vals.two {x y : V} {us : List Value} (h : Vals [x, y] us) : ∃ u v, us = [u, v] ∧ RelV x u ∧ RelV y v := vals2 h
theorem Vals.zero : ∀ {us : List Value}, Vals [] us → us = []
  | _, .nil => rfl
theorem Vals.eraseIdx : ∀ {xs : List V} {us : List Value} (i : Nat), Vals xs us → Vals (xs.eraseIdx i) (us.eraseIdx i)
  | _, _, _, .nil => .nil
  | _, _, 0, .cons _ t => t
  | _, _, i + 1, .cons r t => .cons r (Vals.eraseIdx i t)
theorem Vals.rep {xs : List V} {us : List Value} (h : Vals xs us) : ∀ k : Nat, Vals (List.replicate k xs).flatten (List.replicate k us).flatten
  | 0 => .nil
  | k + 1 => by
    rw [List.replicate_succ, List.replicate_succ, List.flatten_cons, List.flatten_cons]
    exact Vals.append h (Vals.rep h k)
theorem foldl_rep (its : List Value) : ∀ (k : Nat) (acc : List Value),
    List.foldl (fun x1 x2 => x1 ++ x2) acc.toArray (List.replicate k its.toArray) = (acc ++ (List.replicate k its).flatten).toArray
  | 0, acc => by simp
  | k + 1, acc => by
    have e : acc.toArray ++ its.toArray = (acc ++ its).toArray := by simp
    have e2 : (acc ++ its) ++ (List.replicate k its).flatten = acc ++ (List.replicate (k + 1) its).flatten := by
      rw [List.replicate_succ, List.flatten_cons, List.append_assoc]
    rw [← e2, ← foldl_rep its k (acc ++ its), ← e, List.replicate_succ, List.foldl_cons]
section
variable {X : Cx} {pins : List (Addr × Obj)} {σ : St} {H : Hp} {s : Shared} {l b : Addr} {xs ys zs : List V}
theorem Inv.lset {its its' : List Value} {n : Nat} {f : Array Value → Array Value} {t' : Nat} (I : Inv X pins σ H s) (hH : H l = some (.lst xs))
    (e : s.heap.get? l = some { cls := .type "list", data := .seq its.toArray n }) (hf : f its.toArray = its'.toArray) (hv : Vals ys its') (hz : ys.length ≤ sizeLine) :
    Inv X pins σ (upd H l (.lst ys)) { s with heap := s.heap.update l (Obj.mapSeq f), toks := t' } := by
  have q := PySem.IsL.update e f
  rw [hf] at q
  refine I.write (x := l) (e := l) (by rw [hH]; exact trivial) (.inl rfl) (fun b' u hb hu => (Heap.get?_update_other s.heap (Obj.mapSeq f) (Ne.symm hb)).trans hu) ⟨_, q⟩ ?_
  exact ⟨hz, its', _, hv, q⟩
theorem Inv.lnew {its : List Value} {t' : Nat} (I : Inv X pins σ H s) (hv : Vals ys its) (hz : ys.length ≤ sizeLine) :
    Inv X pins σ (upd H s.heap.objs.size (.lst ys)) { s with heap := s.heap.push { cls := .type "list", data := .seq its.toArray }, toks := t' } :=
  I.laid (fun _ _ q => Heap.get?_push_of_some _ q) (Nat.le_refl _) ⟨hz, its, 0, hv, Heap.get?_push_size _ rfl⟩
theorem Inv.fresh (I : Inv X pins σ H s) : H s.heap.objs.size = none := I.hok.fresh (Nat.le_refl _)
theorem Inv.lstM (I : Inv X pins σ H s) (hH : H l = some (.lst xs)) : xs.length ≤ sizeLine ∧ ∃ (its : List Value) (n : Nat), Vals xs its ∧ xs.length = its.length ∧ s.heap.get? l = some { cls := .type "list", data := .seq its.toArray n } := by
  obtain ⟨z, its, n, r, e⟩ := I.hok l _ hH
  exact ⟨z, its, n, r, r.length, e⟩
theorem notLongL {n : Nat} (h : n ≤ sizeLine) : Builtin.List.listTooLong n = false := by
  unfold Builtin.List.listTooLong
  exact decide_eq_false (by omega)
end
section
variable {X : Cx}
noncomputable def rAppend : V → List V → Hp → VK → Prop := fun x vs H Q => ∃ l xs y, x = .ref l ∧ vs = [y] ∧ H l = some (.lst xs) ∧ xs.length < sizeLine ∧ Q .non (upd H l (.lst (xs ++ [y])))
theorem mt_append : MtM X "list.append" rAppend := by
  intro pins s σ H x vs v us Q I rx rv h
  obtain ⟨l, xs, y, rfl, rfl, hH, hz, q⟩ := h
  cases rx
  obtain ⟨u, rfl, ru⟩ := rv.one
  obtain ⟨z, its, n, r, hl, e⟩ := I.lstM hH
  refine call_meets F.slot_list_append ⟨_, e, rfl⟩ F.entry_list_append (F.args_list_append_2 _ _) (PySem.list_append l its.toArray n u (by rw [List.size_toArray]; omega)) ⟨e, ?_⟩
  refine ⟨.non, _, I.lset (its' := its ++ [u]) hH e (by simp) (r.append (.cons ru .nil)) ?_, rfl, q⟩
  rw [List.length_append, List.length_singleton]
  omega
noncomputable def rExtend : V → List V → Hp → VK → Prop := fun x vs H Q => ∃ l b xs zs, x = .ref l ∧ vs = [.ref b] ∧ H l = some (.lst xs) ∧ H b = some (.lst zs) ∧ xs.length + zs.length ≤ sizeLine ∧ Q .non (upd H l (.lst (xs ++ zs)))
theorem mt_extend : MtM X "list.extend" rExtend := by
  intro pins s σ H x vs v us Q I rx rv h
  obtain ⟨l, b, xs, zs, rfl, rfl, hH, hB, hz, q⟩ := h
  cases rx
  obtain ⟨u, rfl, ru⟩ := rv.one
  cases ru
  obtain ⟨z, its, n, r, hl, e⟩ := I.lstM hH
  obtain ⟨z2, its2, n2, r2, hl2, e2⟩ := I.lstM hB
  have hsz : its.toArray.size + its2.toArray.size ≤ sizeLine := by rw [List.size_toArray, List.size_toArray]; omega
  have hlong : ¬ (!its.toArray.isEmpty && Builtin.List.listTooLong (its.toArray.size + its2.toArray.size)) = true := by
    rw [notLongL hsz, Bool.and_false]
    exact Bool.false_ne_true
  refine call_meets F.slot_list_extend ⟨_, e, rfl⟩ F.entry_list_extend (F.args_list_extend_2 _ _)
    (AutoSeq1.list_extend_list_list_0 l its.toArray n b its2.toArray n2 hlong (by rw [List.size_toArray]; omega) (by omega)) ⟨e, e2, ?_⟩
  refine ⟨.non, _, I.lset (its' := its ++ its2) hH e (by simp) (r.append r2) ?_, rfl, q⟩
  rw [List.length_append]
  omega
noncomputable def rCat : R2 := fun x y H Q => ∃ l b xs zs, x = .ref l ∧ y = .ref b ∧ H l = some (.lst xs) ∧ H b = some (.lst zs) ∧ xs.length + zs.length ≤ sizeLine ∧ ∀ p, H p = none → Q (.ref p) (upd H p (.lst (xs ++ zs)))
theorem op_cat : OpR X (binaryOp .Add) rCat := by
  intro pins s σ H x y v u Q I rx ry h
  obtain ⟨l, b, xs, zs, rfl, rfl, hH, hB, hz, q⟩ := h
  cases rx
  cases ry
  obtain ⟨z, its, n, r, hl, e⟩ := I.lstM hH
  obtain ⟨z2, its2, n2, r2, hl2, e2⟩ := I.lstM hB
  refine PySem.P.add_list e e2 ?_ (by rw [List.size_toArray, List.size_toArray]; omega)
  have ea : its.toArray ++ its2.toArray = (its ++ its2).toArray := by simp
  rw [ea]
  exact ⟨.ref _, _, I.lnew (t' := s.toks) (r.append r2) (by rw [List.length_append]; omega), rfl, q _ I.fresh⟩
noncomputable def rRep : R2 := fun x y H Q => ∃ l k xs, x = .ref l ∧ y = .int k ∧ H l = some (.lst xs) ∧ -(2 ^ 63) ≤ k ∧ k < 2 ^ 63 ∧ xs.length * k.toNat ≤ sizeLine ∧
  ∀ p, H p = none → Q (.ref p) (upd H p (.lst (List.replicate k.toNat xs).flatten))
theorem len_rep {α : Type} (xs : List α) (k : Nat) : (List.replicate k xs).flatten.length = k * xs.length := by
  induction k with
  | zero => simp
  | succ k ih => rw [List.replicate_succ, List.flatten_cons, List.length_append, ih, Nat.succ_mul, Nat.add_comm]
theorem op_rep : OpR X (binaryOp .Mult) rRep := by
  intro pins s σ H x y v u Q I rx ry h
  obtain ⟨l, k, xs, rfl, rfl, hH, h1, h2, hz, q⟩ := h
  cases rx
  obtain ⟨t, rfl⟩ := ry
  obtain ⟨z, its, n, r, hl, e⟩ := I.lstM hH
  have hlen : its.toArray.size * k.toNat ≤ sizeLine := by rw [List.size_toArray, ← hl]; exact hz
  have hcap : ¬ its.toArray.size * k.toNat > (2 ^ 63 - 1) / 8 := by
    have : (sizeLine : Nat) ≤ (2 ^ 63 - 1) / 8 := by decide
    omega
  have hfit : ¬ (!Builtin.List.listFitsIndex k) = true := by
    rw [fitsIndex_both h1 h2]
    exact Bool.false_ne_true
  have hlong : ¬ Builtin.List.listTooLong (its.toArray.size * k.toNat) = true := by
    rw [notLongL hlen]
    exact Bool.false_ne_true
  have hnew : List.foldl (fun x1 x2 => x1 ++ x2) #[] (List.replicate (if its.toArray.isEmpty = true then 0 else k.toNat) its.toArray) = (List.replicate k.toNat its).flatten.toArray := by
    have f0 : ∀ m : Nat, List.foldl (fun x1 x2 => x1 ++ x2) #[] (List.replicate m its.toArray) = (List.replicate m its).flatten.toArray := fun m => by
      have := foldl_rep its m []
      rw [List.nil_append] at this
      exact this
    rw [f0]
    cases its with
    | nil => simp
    | cons a r' => rw [if_neg (by simp)]
  refine wpAny_binaryOp_repeat_ref (T := "list") (U := "int") (by decide) ⟨_, e, rfl⟩ (fun s' => typeIs_int s' k t) noFill_list_mul F.fills_int_mul F.slot_int_rmul repeat_list F.slot_int_index.lookup
    (call_meets F.slot_int_rmul (typeIs_int s k t) F.entry_int_rmul (F.args_int_rmul_2 _ _) (int___rmul___int_list k t l its.toArray n)
      ⟨e, rfl, ⟨_, e, rfl⟩, call_meets F.slot_list_mul ⟨_, e, rfl⟩ F.entry_list_mul (F.args_list_mul_2 _ _) (AutoListH.list___mul___list_int_3 l its.toArray n k t hfit hcap hlong) ⟨e, ?_⟩⟩)
  rw [hnew]
  exact ⟨.ref _, _, I.lnew (t' := s.toks) (r.rep k.toNat) (by rw [len_rep, Nat.mul_comm]; exact hz), rfl, q _ I.fresh⟩
end
section
variable {prog : Program} {w : World} {A : Around} {E : Value → Shared → Prop} {s : Shared}
set_option maxRecDepth 100000 in
end
section
variable {X : Cx}
end
end L2
namespace Att
open PySem PySem.W PySem.Calls PyProof.Rows
theorem ints_of_wellAll {P : Params} {h : Heap} : ∀ (ns : List Int) (vs : List Value), WellAll P h vs (ns.map WData.int) → IntsAre vs ns := by
  intro ns
  induction ns with
  | nil =>
    intro vs w
    rw [List.map_nil] at w
    cases w
    exact .nil
  | cons n ns ih =>
    intro vs w
    rw [List.map_cons] at w
    cases w with
    | cons a b =>
      cases a
      exact .cons _ _ (ih _ b)
theorem script_of {l : OpenLaw} {n : Nat} (hn : l.most = some n) {P : Params} {h : Heap} {args : List WData} {vals : List Value}
    (hpre : l.row.toRowW.claim.pre args = true) (hwl : WellAll P h vals args) :
    ∃ a vs ns, vals = [Value.ref a] ∧ args = [WData.list (ns.map WData.int)] ∧ h.get? a = some { cls := .type "list", data := .seq vs.toArray } ∧ IntsAre vs ns ∧ ns.length ≤ n := by
  have hsh : WShape.hasAll [] args [.list .int] = true := (pre_splitW hpre).1
  have hc : l.pre.holds [] { args := args } = true := (pre_splitW hpre).2
  obtain ⟨d, r, rfl, h1, h2⟩ := hasAllW_cons hsh
  obtain rfl := hasAllW_nil h2
  obtain ⟨xs, rfl, h3⟩ := hasW_list h1
  obtain ⟨ns, rfl⟩ := items_int h3
  have hlen : ns.length ≤ n := by
    unfold OpenLaw.pre at hc
    have h4 : (WTm.not (.lt (.lit (.int (n : Int))) (.len (.arg 0)))).holds [] { args := [.list (ns.map .int)] } = true := by
      have h4 := (holds_andW hc).1
      rw [hn] at h4
      exact h4
    have h5 := condW_of h4 (w_not (w_lt w_lit (w_len_list (w_arg rfl))))
    rw [List.length_map] at h5
    refine Nat.le_of_not_lt fun q => ?_
    have q' : (n : Int) < ((ns.length : Nat) : Int) := by omega
    first
      | (rw [decide_eq_true q'] at h5; exact absurd h5 (by decide))
      | (simp at h5; omega)
  cases hwl with
  | cons w1 w2 =>
    cases w2
    cases w1 with
    | list ho hall => exact ⟨_, _, ns, rfl, rfl, ho, ints_of_wellAll ns _ hall, hlen⟩
theorem post_true (l : OpenLaw) (args : List WData) : l.row.toRowW.claim.post args (.bool true) args = true :=
  postW_of (r := l.row.toRowW) (X := (true == true))
    (show WShape.has [] (.bool true) .bool = true by first | rfl | decide | simp [WShape.has, WShape.arms, WShape.armsAll])
    (show (WTm.eq .res (.lit (.bool true))).value [] { args := args, res := some (.bool true), after := args } = some (.bool (true == true)) from w_eq_bool (w_res rfl) w_lit) rfl
theorem attach_call {l : OpenLaw} {n : Nat} {q : Program} {loose : List Str} {XP : (Str → Option Value) → Heap → Prop} {YP : World → Heap → Prop} {d : DefRec}
    (hn : l.most = some n) (hdf : d.params.defaults = [])
    (call : ∀ (w : World) (s₀ s₁ : Shared) (mg mb : Str → Option Value) (fa : Addr) (o : Obj) (pm cd doc : Value) (a : Addr) (vs : List Value) (ns : List Int),
      Ground q loose [] XP w s₀ mg mb s₁.heap → YP w s₁.heap →
      s₁.heap.get? fa = some o → o.data = .func (docDef d.name d.params d.body d.scope pm cd doc) → s₁.heap.CodeRec cd d.name → mg d.name = some (.ref fa) →
      s₁.heap.get? a = some { cls := .type "list", data := .seq vs.toArray } → IntsAre vs ns → ns.length ≤ n → s₁.gens = #[] →
      codeAny (model l.prog w) callerA (.call (.ref fa) ⟨[.ref a], []⟩) (fun r s' => r = .ok (.ret (.bool true)) ∧ OldK s₁.heap s'.heap ∧ s'.os = s₁.os ∧ AllBare s'.gens) s₁) :
    WalkO q loose XP YP l.row.toRowW d [] (fun f vs => PySem.call f vs) := by
  intro w s₀ s₁ mg mb G Y fa o pm cd doc dV kV ho hd hcd hD hmg hg args vals as hpre hlay hrd hwl hlo
  obtain rfl : dV = .none := Dflts.none hD hdf
  obtain rfl : kV = .none := Dflts.noKw hD
  obtain ⟨a, vs, ns, rfl, rfl, hobj, hints, hlen⟩ := script_of hn hpre hwl
  refine enter_call (codeAny_mono (call w s₀ s₁ mg mb fa o pm cd doc a vs ns G Y ho (fd_plain hd) hcd hmg hobj hints hlen hg) fun r s' hq => ?_)
  obtain ⟨rfl, h2, h3, h4⟩ := hq
  exact ⟨.inl ⟨.bool true, .bool true, [], rfl, fun _ => rfl, .bool true, post_true l _, fun _ => ⟨List.Pairwise.nil, fun _ hm => (nomatch hm)⟩⟩, h2, h3, h4⟩
section
variable {prog : Program} {w : World} {A : Around} {E : Value → Shared → Prop} {s : Shared} {K : Frag}
noncomputable def ledger (h : Heap) (L d : Addr) : List (Addr × Obj) := (List.range h.objs.size).filterMap fun a => if a = L ∨ a = d then none else (h.get? a).map fun o => (a, o)
end
end Att
namespace L2
open PySem PySem.Spec PyProof.Rows
theorem vals_ints : ∀ {vs : List Value} {ns : List Int}, IntsAre vs ns → Vals (ns.map V.int) vs
  | _, _, .nil => .nil
  | _, _, .cons n t h => .cons ⟨t, rfl⟩ (vals_ints h)
noncomputable def Only (H : Hp) : Prop := ∀ b, H b = none ∨ ∃ o xs, H b = some (.frz o (.lst xs))
theorem law_call {P : Program} {w : World} {K : PySem.W.Frag} {mg mb : Str → Option Value} {CX : CXT} {k : Nat} {fa a : Addr} {fd : FuncData} {x : Str} {sp : Sp} {s₁ : Shared} {vs : List Value} {ns : List Int}
    (KX : K.In s₁.heap) (hns : s₁.heap.Ns mainGlobals mg) (hb : s₁.heap.Ns builtinsNs mb) (hbb : ∀ x : Str, x ≠ "__name__" → mb x = bootBuiltins x) (hlim : s₁.heap.NoLimit) (hg : s₁.gens = #[])
    (ha : s₁.heap.get? a = some { cls := .type "list", data := .seq vs.toArray }) (hi : IntsAre vs ns) (hl : ns.length ≤ sizeLine) (hr : Room k callerA)
    (F : ∀ base : Heap, K.In base → base.Ns mainGlobals mg → FnOk P w K mg base CX k fa fd [x] sp) (hbind : ∀ (s : Shared) (u : Value), BindsTo s fd ⟨[u], []⟩ [(x, u)])
    (hsp : ∀ H : Hp, Only H → SqL K H a (ns.map V.int) → sp [.ref a] H (fun v _ => v = .bl true) fun _ _ _ => False)
    (hCX : ∀ H e s', CX [] H s₁ (fun _ _ _ => False) e s' → False) :
    codeAny (model P w) callerA (.call (.ref fa) ⟨[.ref a], []⟩) (fun r s' => r = .ok (.ret (.bool true)) ∧ OldK s₁.heap s'.heap ∧ s'.os = s₁.os ∧ AllBare s'.gens) s₁ := by
  have rv := vals_ints hi
  have lenV := hi.length
  -- from an abstract heap in which nothing but the script may be tracked
  have core : ∀ H : Hp, Only H → SqL K H a (ns.map V.int) → HOk P w H s₁.heap → (∀ b, H b ≠ none → b = a) → (H a ≠ none → K.lookup a = none) →
      codeAny (model P w) callerA (.call (.ref fa) ⟨[.ref a], []⟩) (fun r s' => r = .ok (.ret (.bool true)) ∧ OldK s₁.heap s'.heap ∧ s'.os = s₁.os ∧ AllBare s'.gens) s₁ := by
    intro H hO hS hok hA hK
    have base_of : ∀ {b : Addr} {o : Obj}, s₁.heap.get? b = some o → H b = none → (hidT s₁.heap H).get? b = some o := fun e n => hidT_get e n
    have noA : ∀ {b : Addr} {o : Obj} {es : Array DictEntry} {ep : Nat}, s₁.heap.get? b = some o → o.data = .dict es ep → H b = none := fun {b o es ep} e d => by
      cases q : H b with
      | none => rfl
      | some u =>
        have e' : b = a := hA b (by rw [q]; simp)
        subst e'
        rw [ha] at e; cases e
        have d' : Data.seq vs.toArray _ = Data.dict es ep := d
        cases d'
    have nsK : ∀ {b : Addr} {m : Str → Option Value}, s₁.heap.Ns b m → (hidT s₁.heap H).Ns b m := fun {b m} ⟨o, es, ep, e, d, r⟩ => ⟨o, es, ep, base_of e (noA e d), d, r⟩
    have hKb : K.In (hidT s₁.heap H) := fun b o e => base_of (KX b o e) (by
      cases q : H b with
      | none => rfl
      | some u =>
        have e' : b = a := hA b (by rw [q]; simp)
        subst e'
        rw [hK (by rw [q]; simp)] at e; cases e)
    have hM : Mod K mg (hidT s₁.heap H) := ⟨hKb, nsK hns, ⟨mb, nsK hb, hbb⟩, let ⟨mc, h1, h2⟩ := hlim; ⟨mc, nsK h1, h2⟩⟩
    have e0 : Env0 P w K mg (hidT s₁.heap H) callerA [] s₁ H := ⟨rfl, hM, fun b o e => of_hidT e, Nat.le_of_eq (hidT_size _ _), trivial, fun b hb => absurd (show b ∈ ([] : List Addr) from hb) (by simp), hok, .of_eq hg⟩
    refine codeAny_mono ((F _ hKb (nsK hns)).run callerA [] s₁ H ⟨[.ref a], []⟩ [.ref a] [.ref a] _ _ hr e0 (hbind s₁ (.ref a)) (.cons rfl .nil) (hsp H hO hS)) fun r s' h => ?_
    cases r with
    | error e => exact (hCX H e s' h).elim
    | ok fl =>
      cases fl with
      | next => exact False.elim h
      | brk => exact False.elim h
      | cont => exact False.elim h
      | ret u =>
        obtain ⟨v, H', os, bare, un, hok', r', q⟩ := h
        have q' : v = .bl true := q
        subst q'
        obtain rfl : u = Value.bool true := r'
        refine ⟨rfl, OldK.of_keep fun b o e => ?_, os, bare⟩
        cases q : H b with
        | none => exact un.keep b o e q (by intro z; exact absurd (show b ∈ ([] : List Addr) from z) (by simp)) (by simp)
        | some u =>
          rcases hO b with z | ⟨ob, xs, z⟩
          · rw [q] at z; cases z
          · have z2 := un.frzs b ob _ z
            obtain ⟨e1, _⟩ := hok b _ z
            obtain ⟨e2, _⟩ := hok' b _ z2
            rw [e] at e1; cases e1
            exact e2
  cases hk : K.lookup a with
  | some o =>
    -- the script is one of the module's own objects
    have e := KX a o hk
    rw [ha] at e
    cases e
    refine core (fun _ => none) (fun _ => .inl rfl) (.inr ⟨_, vs.toArray, _, hk, rfl, rfl, rfl, by rw [List.size_toArray, lenV]; exact hl, by simpa using rv⟩) (fun b u z => by have z' : (none : Option HO) = some u := z; cases z') (fun b z => absurd rfl z) fun z => absurd rfl z
  | none =>
    refine core (fun b => if b = a then some (.frz { cls := .type "list", data := .seq vs.toArray } (.lst (ns.map V.int))) else none) (fun b => ?_) (.inl (.inr ⟨{ cls := .type "list", data := .seq vs.toArray }, if_pos rfl⟩)) (fun b u z => ?_) (fun b z => ?_) fun _ => hk
    · by_cases hb : b = a
      · exact .inr ⟨_, _, if_pos hb⟩
      · exact .inl (if_neg hb)
    · by_cases hb : b = a
      · have z' := (if_pos hb).symm.trans z
        cases z'
        subst hb
        exact ⟨ha, by rw [List.length_map]; exact hl, vs, _, rv, ha⟩
      · have z' := (if_neg hb).symm.trans z
        cases z'
    · by_cases hb : b = a
      · exact hb
      · exact absurd (if_neg hb) z
end L2
namespace L2
open PySem PySem.Spec PyProof.Rows
noncomputable abbrev KOf {K : PySem.W.Frag} {h : Heap} (_ : K.In h) : PySem.W.Frag := K
theorem walk_of {l : PySem.W.OpenLaw} {n k : Nat} {q : Program} {loose : List Str} {XP : (Str → Option Value) → Heap → Prop} {YP : World → Heap → Prop} {d : DefRec} {K : Params → PySem.W.Frag} {CX : World → CXT} {sp : World → Sp} {x : Str}
    (hn : l.most = some n) (hn2 : n ≤ sizeLine) (hdf : d.params.defaults = []) (hr : Room k callerA)
    (hY : ∀ (w : World) (h : Heap), YP w h → (K w.params).In h)
    (F : ∀ (w : World) (mg : Str → Option Value) (fa : Addr) (h : Heap), (K w.params).In h → h.Ns mainGlobals mg → mg d.name = some (.ref fa) →
      ∃ fd : FuncData, (∀ (s : Shared) (u : Value), BindsTo s fd ⟨[u], []⟩ [(x, u)]) ∧
        ∀ base : Heap, (K w.params).In base → base.Ns mainGlobals mg → FnOk l.prog w (K w.params) mg base (CX w) k fa fd [x] (sp w))
    (hsp : ∀ (w : World) (H : Hp) (a : Addr) (ns : List Int), ns.length ≤ n → Only H → SqL (K w.params) H a (ns.map V.int) → sp w [.ref a] H (fun v _ => v = .bl true) fun _ _ _ => False)
    (hCX : ∀ (w : World) (H : Hp) (s : Shared) (e : Value) (s' : Shared), CX w [] H s (fun _ _ _ => False) e s' → False) :
    PySem.W.WalkO q loose XP YP l.row.toRowW d [] (fun f vs => PySem.call f vs) := by
  refine Att.attach_call hn hdf fun w s₀ s₁ mg mb fa o pm cd doc a vs ns G Y ho hd hcd hmg hobj hints hlen hg => ?_
  have KX := hY w _ Y
  obtain ⟨fd, hb, hF⟩ := F w mg fa _ KX G.T.g hmg
  exact law_call KX G.T.g G.T.b G.T.builtins G.T.nolimit hg hobj hints (Nat.le_trans hlen hn2) hr hF hb (fun H hO hS => hsp w H a ns hlen hO hS) fun H e s' => hCX w H s₁ e s'
end L2
namespace L2
open PySem PySem.Spec PyProof.Rows
noncomputable def defArgs (s : Stmt) : Arguments := match s with
  | .FunctionDef _ a _ _ _ _ _ _ _ _ => a
  | _ => { posonlyargs := [], args := [], vararg := none, kwonlyargs := [], kw_defaults := [], kwarg := none, defaults := [] }
noncomputable def defBody (s : Stmt) : List Stmt := match s with
  | .FunctionDef _ _ b _ _ _ _ _ _ _ => b
  | _ => []
noncomputable def defScope (s : Stmt) : Scope := match s with
  | .FunctionDef _ _ _ _ _ _ sc _ _ _ => sc
  | _ => { kind := .function, names := [], isGenerator := false, isCoroutine := false }
noncomputable abbrev CX0 : CXT := fun _ _ _ _ _ _ => False
noncomputable abbrev E0 : XK := fun _ _ _ => False
theorem pass0 {X : Cx} : Passes CX0 X E0 := fun _ _ _ _ _ _ _ h => h.elim
structure Fun (K : PySem.W.Frag) (x qual : Str) (st : Stmt) (f : Addr) (fd : FuncData) : Prop where
  ex : ∃ (oc : Value) (od : Option Addr) (kV doc pm : Value) (an : Option Addr) (cdv ct : Value) (osl : Array (Option Value)),
    fd = PySem.W.fnOf x qual (defArgs st) (defBody st) (defScope st) .none kV doc pm an cdv ct ∧ K.lookup f = some ⟨oc, od, .func fd, osl⟩ ∧ PySem.W.codeIn K cdv qual = true
  kp : PySem.W.keepIn K (.ref f) = true
section
variable {P : Program} {w : World} {K : PySem.W.Frag} {mg : Str → Option Value} {base : Heap}
theorem Fun.ok {x qual : Str} {st : Stmt} {f : Addr} {fd : FuncData} {N ps : List Str} {k : Nat} {sp : Sp} (F : Fun K x qual st f fd) (S : FnScope N ps (defScope st)) (len : ∀ vs H Q E, sp vs H Q E → vs.length = ps.length)
    (hbody : ∀ (cdv : Value) (A : Around) (outer : List Env) (s : Shared) (H : Hp) (vs : List V) (Q : VK) (E : XK), Room k (A.deeper (envOfC qual (defScope st) s.heap.objs.size f cdv)) → sp vs H Q E →
      ∃ t, PSs (cxOf CX0 P w K mg base N qual (defScope st) f cdv A outer s H E).nox (defBody st) t ∧ t { nx := fun _ H' => Q .non H', rt := Q } (start N vs) H) : FnOk P w K mg base CX0 (k + 1) f fd ps sp := by
  obtain ⟨oc, od, kV, doc, pm, an, cdv, ct, osl, rfl, lk, hcd⟩ := F.ex
  refine fn_of lk hcd S len fun A outer s H vs Q E hr hsp => ?_
  obtain ⟨t, h, q⟩ := hbody cdv A outer s H vs Q E hr hsp
  exact ⟨t, h.nox, q⟩
theorem Fun.binds {x qual : Str} {st : Stmt} {f : Addr} {fd : FuncData} {ps : List Str} (F : Fun K x qual st f fd)
    (h : ∀ (kV doc pm : Value) (an : Option Addr) (cdv ct : Value) (us : List Value), us.length = ps.length → bindArgs (PySem.W.fnOf x qual (defArgs st) (defBody st) (defScope st) .none kV doc pm an cdv ct) ⟨us, []⟩ = pure (ps.zip us)) : Binds K fd ps [] := by
  obtain ⟨oc, od, kV, doc, pm, an, cdv, ct, osl, rfl, lk, hcd⟩ := F.ex
  exact .all (h kV doc pm an cdv ct)
theorem fun_mk {x qual : Str} {st : Stmt} {f : Addr} {oc : Value} {od an : Option Addr} {osl : Array (Option Value)} {kV doc pm cdv ct : Value} (l : K.lookup f = some ⟨oc, od, .func (PySem.W.fnOf x qual (defArgs st) (defBody st) (defScope st) .none kV doc pm an cdv ct), osl⟩)
    (c : PySem.W.codeIn K cdv qual = true) (k : PySem.W.keepIn K (.ref f) = true) : Fun K x qual st f (PySem.W.fnOf x qual (defArgs st) (defBody st) (defScope st) .none kV doc pm an cdv ct) := ⟨⟨oc, od, kV, doc, pm, an, cdv, ct, osl, rfl, l, c⟩, k⟩
end
section
variable {X : Cx}
end
theorem iteF {A B : Prop} (h : B) : if false = true then A else B := by
  rw [if_neg Bool.false_ne_true]
  exact h
theorem iteT {A B : Prop} (h : A) : if true = true then A else B := by
  rw [if_pos rfl]
  exact h
noncomputable def Same (H H' : Hp) : Prop := ∀ b o, H b = some o → H' b = some o
theorem Same.refl (H : Hp) : Same H H := fun _ _ h => h
theorem Same.trans {H H1 H2 : Hp} (a : Same H H1) (b : Same H1 H2) : Same H H2 := fun c o h => b c o (a c o h)
theorem Same.free {H H' : Hp} (e : Same H H') {l : Addr} (h : H' l = Option.none) : H l = Option.none := by
  cases q : H l with
  | none => rfl
  | some o =>
    rw [e l o q] at h
    cases h
theorem Same.seq {K : PySem.W.Frag} {H H' : Hp} {a : Addr} {xs : List V} (e : Same H H') (h : SqL K H a xs) : SqL K H' a xs := by
  rcases h with (h | ⟨o, h⟩) | h
  · exact .inl (.inl (e _ _ h))
  · exact .inl (.inr ⟨o, e _ _ h⟩)
  · exact .inr h
end L2
namespace L2
open PySem PySem.Spec PyProof.Rows
theorem cellsFrom_app : ∀ (names : List (Str × NameKind)) (n : Nat) (acc : List (Str × Addr)), cellsFrom n names acc = cellsFrom n names [] ++ acc
  | [], _, _ => rfl
  | (x, k) :: r, n, acc => by
    unfold cellsFrom
    split
    · rw [cellsFrom_app r (n + 1) ((x, n) :: acc), cellsFrom_app r (n + 1) [(x, n)], List.append_assoc]
      rfl
    · exact cellsFrom_app r n acc
noncomputable def closOf (cells : List (Str × Addr)) : List (Str × NameKind) → List (Str × Addr) → List (Str × Addr)
  | [], acc => acc
  | (n, k) :: r, acc => if k == .free then closOf cells r ((n, (cells.lookup n).getD 0) :: acc) else closOf cells r acc
theorem closOf_app (cells : List (Str × Addr)) : ∀ (names : List (Str × NameKind)) (acc : List (Str × Addr)), closOf cells names acc = closOf cells names [] ++ acc
  | [], _ => rfl
  | (x, k) :: r, acc => by
    unfold closOf
    split
    · rw [closOf_app cells r (_ :: acc), closOf_app cells r [_], List.append_assoc]
      rfl
    · exact closOf_app cells r acc
theorem closureFor_closOf {scope : Scope} {env : Env} (h : ∀ x ∈ scope.names, x.2 = .free → ∃ c, env.cells.lookup x.1 = some c) : closureFor scope env = pure (closOf env.cells scope.names []) := by
  have go : ∀ (f : Str × NameKind → List (Str × Addr) → Sem (ForInStep (List (Str × Addr)))) (_ : ∀ n k cs, f (n, k) cs = if k == .free then (do let a ← cellOf env n; pure (.yield ((n, a) :: cs))) else pure (.yield cs))
      (names : List (Str × NameKind)) (acc : List (Str × Addr)), (∀ x ∈ names, x.2 = .free → ∃ c, env.cells.lookup x.1 = some c) → (forIn names acc f : Sem (List (Str × Addr))) = pure (closOf env.cells names acc) := by
    intro f hf names
    induction names with
    | nil => intro acc _; rw [List.forIn_nil]; rfl
    | cons x r ih =>
      obtain ⟨n, k⟩ := x
      intro acc hr
      rw [List.forIn_cons, hf]
      have hr' : ∀ y ∈ r, y.2 = .free → ∃ c, env.cells.lookup y.1 = some c := fun y hy => hr y (List.mem_cons_of_mem _ hy)
      unfold closOf
      by_cases hk : (k == NameKind.free) = true
      · obtain ⟨c, hc⟩ := hr (n, k) List.mem_cons_self (by simpa using hk)
        have hc' : env.cells.lookup n = some c := hc
        rw [if_pos hk, if_pos hk, hc']
        have e : cellOf env n = pure c := by unfold cellOf; rw [hc']
        rw [e]
        exact ih _ hr'
      · rw [if_neg hk, if_neg hk]
        exact ih _ hr'
  have e := go (fun x cs => match x with | (name, kind) => if (kind == NameKind.free) = true then (do let a ← cellOf env name; pure (ForInStep.yield ((name, a) :: cs))) else pure (ForInStep.yield cs)) (fun _ _ _ => rfl) scope.names [] h
  show (forIn scope.names [] (fun x cs => match x with | (name, kind) => if (kind == NameKind.free) = true then (do let a ← cellOf env name; pure (ForInStep.yield ((name, a) :: cs))) else pure (ForInStep.yield cs)) >>= fun s => pure s) = _
  rw [e]
  rfl
theorem lookup_closOf {cells : List (Str × Addr)} : ∀ {names : List (Str × NameKind)}, (∀ x ∈ names, x.2 = .free → ∃ c, cells.lookup x.1 = some c) → ∀ {y : Str} {c : Addr}, (closOf cells names []).lookup y = some c → cells.lookup y = some c
  | [], _, _, _, h => by cases h
  | (n, k) :: r, hn, y, c, h => by
    have hr : ∀ x ∈ r, x.2 = .free → ∃ c, cells.lookup x.1 = some c := fun x hx => hn x (List.mem_cons_of_mem _ hx)
    unfold closOf at h
    by_cases hk : (k == NameKind.free) = true
    · rw [if_pos hk, closOf_app, List.lookup_append] at h
      cases e : (closOf cells r []).lookup y with
      | some c' => rw [e] at h; rw [lookup_closOf hr e]; exact h
      | none =>
        rw [e] at h
        obtain ⟨c', hc'⟩ := hn (n, k) List.mem_cons_self (by simpa using hk)
        have hc' : cells.lookup n = some c' := hc'
        rw [hc'] at h
        simp only [List.lookup_cons, List.lookup_nil, Option.getD_some, Option.none_or] at h
        cases hy : y == n with
        | true => rw [hy] at h; rw [beq_iff_eq.mp hy, hc']; exact h
        | false => rw [hy] at h; cases h
    · rw [if_neg hk] at h
      exact lookup_closOf hr h
theorem closOf_has {cells : List (Str × Addr)} : ∀ {names : List (Str × NameKind)} {x : Str × NameKind}, x ∈ names → x.2 = .free → ∃ c, (closOf cells names []).lookup x.1 = some c
  | (n, k) :: r, x, hx, hf => by
    unfold closOf
    by_cases hk : (k == NameKind.free) = true
    · rw [if_pos hk, closOf_app, List.lookup_append]
      rcases List.mem_cons.mp hx with e | hx
      · subst e
        cases e : (closOf cells r []).lookup n with
        | some c' => exact ⟨c', by rfl⟩
        | none => exact ⟨_, by simp only [List.lookup_cons, beq_self_eq_true, Option.none_or]; rfl⟩
      · obtain ⟨c, hc⟩ := closOf_has (cells := cells) hx hf
        rw [hc]
        exact ⟨c, rfl⟩
    · rw [if_neg hk]
      rcases List.mem_cons.mp hx with e | hx
      · subst e; exact absurd (by simpa using hf) hk
      · exact closOf_has hx hf
noncomputable def relabelS (scope osc : Scope) : Scope :=
  { scope with names := scope.names.map fun (n, k) => if (k == .free && osc.kind == .function && osc.names.lookup n == some .cell) then (n, .cell) else (n, k) }
theorem lookup_relabelS {osc : Scope} {scope : Scope} {x : Str} : (relabelS scope osc).names.lookup x = (scope.names.lookup x).map fun k => if (k == .free && osc.kind == .function && osc.names.lookup x == some .cell) then .cell else k := by
  have go : ∀ names : List (Str × NameKind), (names.map fun (n, k) => if (k == NameKind.free && osc.kind == .function && osc.names.lookup n == some .cell) then (n, NameKind.cell) else (n, k)).lookup x =
      (names.lookup x).map fun k => if (k == .free && osc.kind == .function && osc.names.lookup x == some .cell) then .cell else k := by
    intro names
    induction names with
    | nil => rfl
    | cons y r ih =>
      obtain ⟨n, k⟩ := y
      rw [List.map_cons]
      cases hx : x == n with
      | true =>
        have e := beq_iff_eq.mp hx
        subst e
        simp only [List.lookup_cons, beq_self_eq_true, Option.map_some]
        by_cases hc : (k == NameKind.free && osc.kind == .function && osc.names.lookup x == some .cell) = true
        · rw [if_pos hc, if_pos hc]; simp
        · rw [if_neg hc, if_neg hc]; simp
      | false =>
        have e0 : ((n, k) :: r).lookup x = r.lookup x := by simp only [List.lookup_cons, hx]
        rw [e0]
        by_cases hc : (k == NameKind.free && osc.kind == .function && osc.names.lookup n == some .cell) = true
        · simp only [if_pos hc, List.lookup_cons, hx]; exact ih
        · simp only [if_neg hc, List.lookup_cons, hx]; exact ih
  exact go scope.names
noncomputable def cxComp (X : Cx) (N' : List Str) (scope : Scope) (s : Shared) (H : Hp) (fp : List Addr) : Cx where
  prog := X.prog
  w := X.w
  K := X.K
  mg := X.mg
  base := X.base
  A := X.A
  N := N'
  s₀ := s
  H₀ := H
  env := { scope := relabelS scope X.env.scope, locals := s.heap.objs.size, globals := X.env.globals, cells := cellsFrom (s.heap.objs.size + 1) scope.names (closOf X.env.cells scope.names []), qual := X.env.qual, func := none, code := X.env.code, frame := X.env.frame, builtins := X.env.builtins }
  outer := X.stack
  stack := X.stack
  ex := fp
  fn := fun x => ((cellsFrom (s.heap.objs.size + 1) scope.names []).lookup x).isSome
  calm := X.calm
  pn := []
  xe := fun _ _ => False
inductive Slots (N : List Str) (sc scope : Scope) : List Str → List (Option Nat) → Prop
  | nil : Slots N sc scope [] []
  | own {x : Str} {N' : List Str} {ix : List (Option Nat)} (ho : scope.names.lookup x = some .local ∨ scope.names.lookup x = some .cell) : Slots N sc scope N' ix → Slots N sc scope (x :: N') (none :: ix)
  | free {x : Str} {i : Nat} {N' : List Str} {ix : List (Option Nat)} (hN : N[i]? = some x) (hl : scope.names.lookup x = some .free) (hv : sc.names.lookup x = some .cell ∨ sc.names.lookup x = some .free) :
      Slots N sc scope N' ix → Slots N sc scope (x :: N') (some i :: ix)
theorem Slots.len {N : List Str} {sc scope : Scope} {N' : List Str} {ix : List (Option Nat)} (h : Slots N sc scope N' ix) : ix.length = N'.length := by
  induction h with
  | nil => rfl
  | own _ _ ih => simp [ih]
  | free _ _ _ _ ih => simp [ih]
theorem Slots.get {N : List Str} {sc scope : Scope} {N' : List Str} {ix : List (Option Nat)} (h : Slots N sc scope N' ix) : ∀ {j i : Nat}, ix[j]? = some (some i) →
    ∃ x, N'[j]? = some x ∧ N[i]? = some x ∧ scope.names.lookup x = some .free ∧ (sc.names.lookup x = some .cell ∨ sc.names.lookup x = some .free) := by
  induction h with
  | nil => intro j i e; simp at e
  | own _ _ ih =>
    intro j i e
    cases j with
    | zero => simp at e
    | succ j => obtain ⟨x, h1, h2⟩ := ih (j := j) (by simpa using e); exact ⟨x, by simpa using h1, h2⟩
  | free hN hl hv _ ih =>
    intro j i e
    cases j with
    | zero => simp at e; subst e; exact ⟨_, by simp, hN, hl, hv⟩
    | succ j => obtain ⟨x, h1, h2⟩ := ih (j := j) (by simpa using e); exact ⟨x, by simpa using h1, h2⟩
theorem Slots.cov {N : List Str} {sc scope : Scope} {N' : List Str} {ix : List (Option Nat)} (h : Slots N sc scope N' ix) : ∀ {x : Str}, x ∈ N' → scope.names.lookup x = some .free → (sc.names.lookup x = some .cell ∨ sc.names.lookup x = some .free) := by
  induction h with
  | nil => intro x hx; simp at hx
  | own ho _ ih =>
    intro x hx hl
    rcases List.mem_cons.mp hx with e | hx
    · subst e; rw [hl] at ho; rcases ho with z | z <;> cases z
    · exact ih hx hl
  | free _ _ hv _ ih =>
    intro x hx hl
    rcases List.mem_cons.mp hx with e | hx
    · subst e; exact hv
    · exact ih hx hl
structure CompScope (N' : List Str) (scope : Scope) : Prop where
  kind : scope.kind = .function
  nd : N'.Nodup
  names : ∀ x ∈ scope.names, x.2 = .local → scope.names.lookup x.1 = some .local
  cover : ∀ x ∈ scope.names, x.2 = .free → x.1 ∈ N'
  once : ∀ x ∈ scope.names, x.2 = .free → scope.names.lookup x.1 = some .free
  cells : ∀ x ∈ scope.names, x.2 = .cell → scope.names.lookup x.1 = some .cell
noncomputable def inSt (ix : List (Option Nat)) (σ : St) : St := ix.map fun o => match o with
  | none => none
  | some i => (σ[i]?).join
theorem mem_cellsFrom : ∀ {names : List (Str × NameKind)} {n : Nat} {x : Str} {c : Addr}, (x, c) ∈ cellsFrom n names [] → (x, NameKind.cell) ∈ names
  | [], _, _, _, h => by cases h
  | (y, k) :: r, n, x, c, h => by
    unfold cellsFrom at h
    by_cases hk : (k == NameKind.cell) = true
    · rw [if_pos hk, cellsFrom_app] at h
      have ek : k = .cell := by simpa using hk
      rcases List.mem_append.mp h with h | h
      · exact List.mem_cons_of_mem _ (mem_cellsFrom h)
      · have e : (x, c) = (y, n) := by simpa using h
        cases e
        rw [ek]
        exact List.mem_cons_self
    · rw [if_neg hk] at h
      exact List.mem_cons_of_mem _ (mem_cellsFrom h)
theorem cells_kind {N' : List Str} {scope : Scope} (S : CompScope N' scope) {n : Nat} {x : Str} {c : Addr} (h : (cellsFrom n scope.names []).lookup x = some c) : scope.names.lookup x = some .cell :=
  S.cells (x, .cell) (mem_cellsFrom (PySem.mem_of_lookup h)) rfl
section
variable {X : Cx} {pins : List (Addr × Obj)} {σ : St} {H : Hp} {s : Shared} {N' : List Str} {ix : List (Option Nat)} {scope : Scope} {fp : List Addr}
theorem Inv.hasFree (I : Inv X pins σ H s) (S : CompScope N' scope) (T : Slots X.N X.env.scope scope N' ix) : ∀ x ∈ scope.names, x.2 = .free → ∃ c, X.env.cells.lookup x.1 = some c := fun x hx hf =>
  I.ok.has x.1 (T.cov (S.cover x hx hf) (S.once x hx hf))
theorem inv_comp (I : Inv X pins σ H s) (hf : ∀ b ∈ fp, FpOk X pins H b) (hob : ∀ b ∈ fp, ∃ o, s.heap.get? b = some o) (S : CompScope N' scope) (T : Slots X.N X.env.scope scope N' ix) :
    Inv (cxComp X N' scope s H fp) [] (inSt ix σ) H { s with heap := pushCells (s.heap.push { cls := .type "dict", data := .dict #[] }) scope.names } := by
  have hasF := I.hasFree S T
  have keep : ∀ b o, s.heap.get? b = some o → (pushCells (s.heap.push { cls := .type "dict", data := .dict #[] }) scope.names).get? b = some o := fun b o e => pushCells_keeps _ _ b o (Heap.get?_push_of_some _ e)
  have cok := cellsFrom_ok scope.names (s.heap.push { cls := .type "dict", data := .dict #[] }) (s.heap.objs.size + 1) [] ⟨fun _ _ hm => (nomatch hm), List.Pairwise.nil⟩ (by rw [Heap.size_push]; exact Nat.le_refl _)
  rw [Heap.size_push] at cok
  -- a cell of the block: a new one, or one of the function around
  have cases2 : ∀ y c, (cellsFrom (s.heap.objs.size + 1) scope.names (closOf X.env.cells scope.names [])).lookup y = some c →
      ((cellsFrom (s.heap.objs.size + 1) scope.names []).lookup y = some c ∧ s.heap.objs.size + 1 ≤ c) ∨ ((cellsFrom (s.heap.objs.size + 1) scope.names []).lookup y = none ∧ (closOf X.env.cells scope.names []).lookup y = some c ∧ X.env.cells.lookup y = some c) := fun y c e => by
    rw [cellsFrom_app, List.lookup_append] at e
    cases q : (cellsFrom (s.heap.objs.size + 1) scope.names []).lookup y with
    | some c' =>
      rw [q] at e
      have e' : c' = c := by simpa using e
      subst e'
      exact .inl ⟨rfl, (cok.empty y c' (PySem.mem_of_lookup q)).2⟩
    | none =>
      rw [q] at e
      have e' : (closOf X.env.cells scope.names []).lookup y = some c := by simpa using e
      exact .inr ⟨rfl, e', lookup_closOf hasF e'⟩
  have old : ∀ y c, X.env.cells.lookup y = some c → c < s.heap.objs.size := fun y c e => let ⟨_, q⟩ := I.cell y c e; q.lt
  have fpLt : ∀ b ∈ fp, b < s.heap.objs.size := fun b hb => let ⟨_, e⟩ := hob b hb; Heap.lt_size e
  refine ⟨⟨I.ok.mod, S.kind, I.ok.glob, I.ok.blt, Nat.le_refl _, fun y z c h1 h2 => ?_, fun y hy => ?_, fun y c hfn h => ?_, I.ok.hd, I.ok.frames, .inl rfl, fun b hb => ⟨Nat.ne_of_lt (fpLt b hb), fun y c e => ?_⟩, I.bs, Nat.le_trans I.ok.bsz I.sz, fun b o e hb => ?_, fun b hb z => ?_, I.stack, I.stkFree⟩,
    rfl, I.bare, Un.kept keep, ⟨_, (Heap.Ns.new s.heap (.type "dict")).keeps (pushCells_keeps _ _), fun j y v h1 h2 h3 => ?_⟩, fun y c h => ?_, I.hok.fresh (Nat.le_refl _), fun y c h => ?_, fun p hp => absurd (show p ∈ ([] : List (Addr × Obj)) from hp) (by simp), I.hok.kept keep, ?_⟩
  · rcases cases2 y c h1 with ⟨a1, a2⟩ | ⟨_, _, a3⟩ <;> rcases cases2 z c h2 with ⟨b1, b2⟩ | ⟨_, _, b3⟩
    · exact name_of_addr cok.apart (PySem.mem_of_lookup a1) (PySem.mem_of_lookup b1)
    · exact absurd (Nat.lt_of_lt_of_le (old z c b3) (Nat.le_of_succ_le a2)) (Nat.lt_irrefl _)
    · exact absurd (Nat.lt_of_lt_of_le (old y c a3) (Nat.le_of_succ_le b2)) (Nat.lt_irrefl _)
    · exact I.ok.inj y z c a3 b3
  · have hy : (relabelS scope X.env.scope).names.lookup y = some .cell ∨ (relabelS scope X.env.scope).names.lookup y = some .free := hy
    rw [lookup_relabelS] at hy
    show ∃ c, (cellsFrom (s.heap.objs.size + 1) scope.names (closOf X.env.cells scope.names [])).lookup y = some c
    rw [cellsFrom_app, List.lookup_append]
    cases q : (cellsFrom (s.heap.objs.size + 1) scope.names []).lookup y with
    | some c' => exact ⟨c', rfl⟩
    | none =>
      cases k : scope.names.lookup y with
      | none => rw [k] at hy; rcases hy with z | z <;> cases z
      | some kk =>
        cases kk with
        | free =>
          obtain ⟨c, e⟩ := closOf_has (cells := X.env.cells) (PySem.mem_of_lookup k) rfl
          exact ⟨c, by rw [e]; rfl⟩
        | cell =>
          obtain ⟨c, e⟩ := cell_has (n := s.heap.objs.size + 1) k
          rw [e] at q; cases q
        | _ => rw [k] at hy; rcases hy with z | z <;> simp at z
  · rcases cases2 y c h with ⟨_, a2⟩ | ⟨a1, _, _⟩
    · show s.heap.objs.size ≤ c
      omega
    · have hfn : ((cellsFrom (s.heap.objs.size + 1) scope.names []).lookup y).isSome = true := hfn
      rw [a1] at hfn; cases hfn
  · rcases cases2 y c e with ⟨_, a2⟩ | ⟨_, _, a3⟩
    · exact fun z => absurd (Nat.lt_of_lt_of_le (fpLt b hb) (Nat.le_of_succ_le (z ▸ a2))) (Nat.lt_irrefl _)
    · exact (hf b hb).2.2.2.2.1 y c a3
  · rcases (hf b hb).2.2.2.1 with z | z
    · exact I.ok.noex b o e z
    · exact absurd (Nat.lt_of_lt_of_le (Heap.lt_size e) (Nat.le_trans I.ok.bsz z)) (Nat.lt_irrefl _)
  · rcases List.mem_cons.mp (I.stkSub b z) with e | z
    · exact (hf b hb).2.1 e
    · exact (hf b hb).2.2.1 z
  · unfold inSt at h2
    rw [List.getElem?_map] at h2
    cases q : ix[j]? with
    | none => rw [q] at h2; cases h2
    | some o =>
      rw [q] at h2
      cases o with
      | none => simp at h2
      | some i =>
        obtain ⟨x, g1, g2, g3, g4⟩ := T.get q
        have e : x = y := Option.some.inj (g1.symm.trans h1)
        subst e
        have h2' : (σ[i]?).join = some v := Option.some.inj h2
        have hi : σ[i]? = some (some v) := by
          cases z : σ[i]? with
          | none => rw [z] at h2'; cases h2'
          | some o => rw [z] at h2'; rw [show o = some v from h2']
        obtain ⟨m, _, hl⟩ := id I.loc
        obtain ⟨u, r, lk⟩ := hl i x v g2 hi (by rcases g4 with z | z; exact .inr (.inl z); exact .inr (.inr z))
        refine ⟨u, r, ?_⟩
        rcases lk with ⟨k, _⟩ | ⟨k, c, e, z⟩
        · have k : X.env.scope.names.lookup x = some .local := k
          rw [k] at g4; rcases g4 with z | z <;> cases z
        · refine .inr ⟨?_, c, ?_, z.keeps keep⟩
          · show (relabelS scope X.env.scope).names.lookup x = some .cell ∨ (relabelS scope X.env.scope).names.lookup x = some .free
            rw [lookup_relabelS, g3]
            by_cases hc : (NameKind.free == NameKind.free && X.env.scope.kind == .function && X.env.scope.names.lookup x == some .cell) = true
            · left; simp only [Option.map_some, if_pos hc]
            · right; simp only [Option.map_some, if_neg hc]
          · show (cellsFrom (s.heap.objs.size + 1) scope.names (closOf X.env.cells scope.names [])).lookup x = some c
            obtain ⟨c', e'⟩ := closOf_has (cells := X.env.cells) (PySem.mem_of_lookup g3) rfl
            have e2 := lookup_closOf hasF e'
            have e3 : c' = c := Option.some.inj (e2.symm.trans e)
            subst e3
            rw [cellsFrom_app, List.lookup_append]
            cases q : (cellsFrom (s.heap.objs.size + 1) scope.names []).lookup x with
            | none => rw [e']; rfl
            | some c2 =>
              have := cells_kind S q
              rw [g3] at this; cases this
  · rcases cases2 y c h with ⟨a1, _⟩ | ⟨_, _, a3⟩
    · exact ⟨_, (cok.empty y c (PySem.mem_of_lookup a1)).1⟩
    · obtain ⟨v, q⟩ := I.cell y c a3
      exact ⟨v, q.keeps keep⟩
  · rcases cases2 y c h with ⟨_, a2⟩ | ⟨_, _, a3⟩
    · exact I.hok.fresh (by omega)
    · exact I.freeC y c a3
  · show (inSt ix σ).length = N'.length
    unfold inSt
    rw [List.length_map, T.len]
end
end L2
namespace L2
open PySem PySem.Spec PyProof.Rows
section
variable {prog : Program} {w : World} {A : Around} {R : Result → Shared → Prop} {s : Shared}
theorem compLoop_any {elt target iter : Expr} {ifs : List Expr} {scope : Scope} {pos : Pos} {it acc : Value} {env : Env} (I : Nat → Shared → Prop)
    (turn : ∀ n s, I n s → wpAny (model prog w) A (pyNext it) (fun r s₁ => match r with
      | none => R (.ok .next) s₁
      | some v => wpAny (model prog w) A (letOwnedTupleGo target it v) (fun _ s₁' => wpAny (model prog w) A (assign target env v) (fun _ s₂ =>
          wpAny (model prog w) A (forIn ifs true fun c r => if r = true then do let ok ← isTrue c env (eval c env); pure (ForInStep.yield ok) else pure (ForInStep.yield r)) (fun ok s₃ =>
            if ok = true then wpAny (model prog w) A (eval elt env) (fun x s₄ =>
              wpAny (model prog w) A (call (.builtin "list.append") [acc, x]) (fun _ s₅ => ∃ m, m < n ∧ I m s₅) (fun _ _ => False) s₄) (fun _ _ => False) s₃
            else ∃ m, m < n ∧ I m s₃) (fun _ _ => False) s₂) (fun _ _ => False) s₁') (fun _ _ => False) s₁) (fun _ _ => False) s)
    (n : Nat) (h : I n s) : codeAny (model prog w) A (.compLoop (.ListComp elt [⟨target, iter, ifs, 0⟩] scope pos) 0 it acc env) R s := by
  refine codeAny_loop rfl I (fun n s hI => ?_) n h
  show wpAny _ A ((compTurn (.ListComp elt [⟨target, iter, ifs, 0⟩] scope pos) 0 it acc env).onRaise (fun x => do noteFrame x env; theTreesLotGoes x)) _ _ s
  refine wpAny_noted (wpAny_noRaise ?_)
  rw [compTurn_list]
  refine wpAny_bind (wpAny_standAt (wpAny_bind (wpAny_mono (turn n s hI) (fun r s₁ h₁ => ?_) fun _ _ h' => h')))
  cases r with
  | none => exact wpAny_pure h₁
  | some v =>
    refine wpAny_bind (wpAny_mono h₁ (fun _ s₁' h₁' => ?_) fun _ _ h' => h')
    refine wpAny_bind (wpAny_mono h₁' (fun _ s₂ h₂ => wpAny_bind (wpAny_mono h₂ (fun ok s₃ h₃ => ?_) fun _ _ h' => h')) fun _ _ h' => h')
    cases ok with
    | false => exact wpAny_pure ⟨rfl, h₃⟩
    | true =>
      exact wpAny_bind (wpAny_bind (wpAny_mono h₃ (fun x s₄ h₄ => wpAny_bind (wpAny_mono h₄ (fun _ s₅ h₅ => wpAny_pure (wpAny_pure ⟨rfl, h₅⟩)) fun _ _ h' => h')) fun _ _ h' => h'))
theorem newEnv_comp {M : Model} {E : Value → Shared → Prop} {scope : Scope} {globals : Addr} {cl : List (Str × Addr)} {qual : Str} {env : Env} {Q : Env → Shared → Prop}
    (h : Q { scope := scope, locals := s.heap.objs.size, globals := globals, cells := cellsFrom (s.heap.objs.size + 1) scope.names cl, qual := qual, func := none, code := env.code, frame := env.frame, builtins := env.builtins }
      { s with heap := pushCells (s.heap.push { cls := .type "dict", data := .dict #[] }) scope.names }) :
    wpAny M A (newFunctionEnv scope globals cl [] qual none .none (some env)) Q E s := by
  simp only [newFunctionEnv, Option.isSome_some, if_true]
  refine wpAny_bind (wpAny_alloc ?_)
  refine wpAny_bind (wpAny_layCells _ (fun name kind cells => by cases hkc : kind == NameKind.cell <;> simp [hkc]) _ _ _ _ ?_)
  rw [show ({ s with heap := s.heap.push { cls := .type "dict", data := .dict #[] } } : Shared).heap.objs.size = s.heap.objs.size + 1 from Heap.size_push ..]
  refine wpAny_bind ?_
  rw [List.forIn_nil]
  exact wpAny_pure (wpAny_pure h)
end
noncomputable def PIfs (X : Cx) (ifs : List Expr) (t : TT) : Prop :=
  ∀ (pins : List (Addr × Obj)) (s : Shared) (σ : St) (H : Hp) (Q : Bool → Hp → Prop), Inv X pins σ H s → t σ H Q →
    wpAny (model X.prog X.w) X.A (forIn ifs true fun c r => if r = true then do let ok ← isTrue c X.env (eval c X.env); pure (ForInStep.yield ok) else pure (ForInStep.yield r)) (TP X pins σ Q) X.xe s
noncomputable def tYes : TT := fun _ H Q => Q true H
theorem pifs_nil {X : Cx} : PIfs X [] tYes := fun _ _ _ H _ I h => wpAny_pure ⟨H, I, h⟩
theorem pifs_one {X : Cx} {c : Expr} {t : TT} (h : PT X c t) : PIfs X [c] t := fun pins s σ H Q I q => wpAny_tests_one (h pins s σ H Q I q)
noncomputable def tComp (X : Cx) (N' : List Str) (ix : List (Option Nat)) (scope : Scope) (tg elt : Expr) (ifs : List Expr) (wi : TI) : TE := fun σ H Q => wi σ H fun J H1 => ∀ (acc : Addr) (s : Shared) (H0 : Hp) (fp : List Addr), H1 acc = none →
  ∃ (g : TG) (tc : TT) (te : TE), PG (cxComp X N' scope s H0 fp) tg g ∧ PIfs (cxComp X N' scope s H0 fp) ifs tc ∧ PE (cxComp X N' scope s H0 fp) elt te ∧
    ∃ W : Nat → Nat → St → Hp → Prop, (∃ m, W 0 m (inSt ix σ) (upd H1 acc (.lst []))) ∧ ∀ i m σ' H', W i m σ' H' →
      (J.stop i H' ∧ Q (.ref acc) H') ∨ (J.go i H' ∧ ∃ N : St → Hp → Prop, (∀ σ2 H2, N σ2 H2 → ∃ m', m' < m ∧ W (i + 1) m' σ2 H2) ∧ ∀ x H2, J.yld i H' x H2 → g x σ' H2 fun σ3 H3 => tc σ3 H3 fun b H4 =>
        if b = true then te σ3 H4 fun y H5 => ∃ ys, H5 acc = some (.lst ys) ∧ ys.length < sizeLine ∧ N σ3 (upd H5 acc (.lst (ys ++ [y]))) else N σ3 H4)
section
variable {X : Cx} {N' : List Str} {ix : List (Option Nat)} {scope : Scope} {tg elt iter : Expr} {ifs : List Expr} {wi : TI} {pos : Pos}
theorem comp_core {pos' : Pos} {pins : List (Addr × Obj)} {σ : St} {H : Hp} {s : Shared} {Q : VK} {use : Option (Value → Sem Unit)} {Q' : Value → Shared → Prop} (S : CompScope N' scope) (T : Slots X.N X.env.scope scope N' ix) (hc : X.calm = true)
    (hi : PI X tg iter wi) (I : Inv X pins σ H s) (h : tComp X N' ix scope tg elt ifs wi σ H Q)
    (fin : ∀ acc C s' H', Inv X pins σ H' s' → Q (.ref acc) H' → (∃ m, s'.heap.Ns C m) → FpOk X pins H' C → compPost (model X.prog X.w) X.A X.xe use Q' (.ref acc) C (.ok .next) s')
    (hs : ∀ x, foldedSetIterable iter X.env x = pure x := by intro _; rfl) :
    wpAny (model X.prog X.w) X.A (comprehension (.ListComp elt [⟨tg, iter, ifs, 0⟩] scope pos) scope X.env pos' (newList []) false (eval iter X.env) use) Q' X.xe s := by
  refine wpAny_comprehension_free (use := use) (g := ⟨tg, iter, ifs, 0⟩) (gs := []) rfl hs (closureFor_closOf (I.hasFree S T)) S.kind S.names (thn (hi pins s σ H _ I h) fun v s1 h1 => thn h1 fun itv s2 h2 => ?_)
  obtain ⟨it, fp, tn, J, H2, e, I2, Tn, st2, f2, q2⟩ := h2
  subst e
  refine wpAny_newObj_type ?_
  have I3 : Inv X pins σ (upd H2 s2.heap.objs.size (.lst [])) { s2 with heap := s2.heap.push { cls := .type "list", data := .seq ([] : List Value).toArray } } := I2.lnew (t' := s2.toks) (its := []) .nil (Nat.zero_le _)
  have hacc := I2.fresh
  have k3 : ∀ b o, s2.heap.get? b = some o → (s2.heap.push { cls := .type "list", data := .seq ([] : List Value).toArray }).get? b = some o := fun b o e => Heap.get?_push_of_some _ e
  have st3 : tn 0 (s2.heap.push { cls := .type "list", data := .seq ([] : List Value).toArray }) := Tn.keep _ _ _ st2 fun b _ o e => k3 b o e
  have f3 : ∀ b ∈ fp, FpOk X pins (upd H2 s2.heap.objs.size (.lst [])) b := fun b hb => by
    obtain ⟨o, e, _⟩ := Tn.obj _ _ st2 b hb
    exact ⟨by rw [upd_ne (Nat.ne_of_lt (Heap.lt_size e))]; exact (f2 b hb).1, (f2 b hb).2⟩
  generalize hs3 : ({ s2 with heap := s2.heap.push { cls := .type "list", data := .seq ([] : List Value).toArray } } : Shared) = s3 at I3
  have st3' : tn 0 s3.heap := by rw [← hs3]; exact st3
  obtain ⟨g, tc, te, pg, pt, pe, W, ⟨m0, w0⟩, turn⟩ := q2 s2.heap.objs.size s3 (upd H2 s2.heap.objs.size (.lst [])) fp hacc
  refine newEnv_comp ?_
  have hob : ∀ b ∈ fp, ∃ o, s3.heap.get? b = some o := fun b hb => let ⟨o, e, _⟩ := Tn.obj _ _ st3' b hb; ⟨o, e⟩
  have I4 := inv_comp (N' := N') (ix := ix) (scope := scope) I3 f3 hob S T
  have st4 : tn 0 (pushCells (s3.heap.push { cls := .type "dict", data := .dict #[] }) scope.names) := Tn.keep _ _ _ st3' fun b _ o e => pushCells_keeps _ _ b o (Heap.get?_push_of_some _ e)
  -- the iterator's records inside the block
  have stat : ∀ {H' : Hp}, (∀ b ∈ fp, H' b = none) → ∀ b ∈ fp, FpOk (cxComp X N' scope s3 (upd H2 s2.heap.objs.size (.lst [])) fp) [] H' b := fun hn b hb => by
    obtain ⟨e1, e2⟩ := I4.ok.exf b hb
    exact ⟨hn b hb, e1, I4.ok.exfs b hb, .inl hb, e2, fun p hp => absurd (show p ∈ ([] : List (Addr × Obj)) from hp) (by simp)⟩
  have loop : codeAny (model X.prog X.w) X.A (.compLoop (.ListComp elt [⟨tg, iter, ifs, 0⟩] scope pos) 0 (.ref it) (.ref s2.heap.objs.size) (cxComp X N' scope s3 (upd H2 s2.heap.objs.size (.lst [])) fp).env)
      (compPost (model X.prog X.w) X.A X.xe use Q' (.ref s2.heap.objs.size) s3.heap.objs.size) { s3 with heap := pushCells (s3.heap.push { cls := .type "dict", data := .dict #[] }) scope.names } := by
    refine compLoop_any (fun n s' => ∃ i σ' H', Inv (cxComp X N' scope s3 (upd H2 s2.heap.objs.size (.lst [])) fp) [] σ' H' s' ∧ tn i s'.heap ∧ (∀ b ∈ fp, H' b = none) ∧ W i n σ' H') ?_ m0 ⟨0, _, _, I4, st4, fun b hb => (f3 b hb).1, w0⟩
    rintro n s4 ⟨i, σ4, H4, J4, sn4, fr4, w4⟩
    rcases turn i n σ4 H4 w4 with ⟨stop, qn⟩ | ⟨go, N, hN, step⟩
    · refine thn (Tn.done (cxComp X N' scope s3 (upd H2 s2.heap.objs.size (.lst [])) fp) rfl rfl rfl hc i [] s4 σ4 H4 _ J4 (stat fr4) sn4 stop) fun r s5 ⟨hr, J5⟩ => ?_
      subst hr
      have hC : H4 s3.heap.objs.size = none := J5.free
      have I5 : Inv X pins σ H4 s5 := I3.call' (ch := fp) J5.os J5.base J5.hok J5.bare fun b hb => ⟨(f3 b hb).2.2.2.1, (f3 b hb).2.1, (f3 b hb).2.2.2.2.1, (f3 b hb).2.2.2.2.2⟩
      obtain ⟨m, hm, _⟩ := J5.loc
      exact fin _ _ s5 H4 I5 qn ⟨m, hm⟩ (I3.fpOk (Nat.le_refl _) hC)
    · refine thn (Tn.item (cxComp X N' scope s3 (upd H2 s2.heap.objs.size (.lst [])) fp) rfl rfl rfl hc i [] s4 σ4 H4 _ J4 (stat fr4) sn4 go) fun r s5 ⟨u, hr, h5⟩ => ?_
      subst hr
      refine thn h5 fun _ s6 ⟨x, H6, J6, r6, y6, sn6, fr6⟩ => ?_
      have J6' := J6.pinned (stat fr6) (Tn.obj _ _ sn6)
      refine thn (pg _ s6 σ4 H6 x u _ J6' r6 (step x H6 y6)) fun _ s7 ⟨σ7, H7, J7, q7⟩ => ?_
      refine thn (pt _ s7 σ7 H7 _ J7 q7) fun ok s8 ⟨H8, J8, q8⟩ => ?_
      have again : ∀ {s9 : Shared} {σ9 : St} {H9 : Hp}, Inv (cxComp X N' scope s3 (upd H2 s2.heap.objs.size (.lst [])) fp) ([] ++ pinsAt fp s6.heap) σ9 H9 s9 → N σ9 H9 →
          ∃ m, m < n ∧ ∃ i σ' H', Inv (cxComp X N' scope s3 (upd H2 s2.heap.objs.size (.lst [])) fp) [] σ' H' s9 ∧ tn i s9.heap ∧ (∀ b ∈ fp, H' b = none) ∧ W i m σ' H' := fun {s9 σ9 H9} J9 n9 => by
        obtain ⟨m', hm, w9⟩ := hN σ9 H9 n9
        refine ⟨m', hm, i + 1, σ9, H9, J9.unpinned, Tn.keep _ _ _ sn6 fun b hb o e => (J9.pin (b, o) (List.mem_append_right _ (List.mem_append_right _ (mem_pinsAt hb e)))).1, fun b hb => ?_, w9⟩
        obtain ⟨o, e, d⟩ := Tn.obj _ _ sn6 b hb
        exact (J9.pin (b, o) (List.mem_append_right _ (List.mem_append_right _ (mem_pinsAt hb e)))).2.1
      cases ok with
      | false =>
        rw [if_neg Bool.false_ne_true] at q8 ⊢
        exact again J8 q8
      | true =>
        rw [if_pos rfl] at q8 ⊢
        refine thn (pe _ s8 σ7 H8 _ J8 q8) fun v s9 ⟨y, H9, J9, r9, ys, e9, z9, n9⟩ => ?_
        refine thn (mt_append _ s9 σ7 H9 (.ref s2.heap.objs.size) [y] _ [v] (fun _ H' => N σ7 H') J9 rfl (.cons r9 .nil) ⟨_, ys, y, rfl, rfl, e9, z9, n9⟩) fun _ s10 ⟨_, H10, J10, _, n10⟩ => ?_
        exact again J10 n10
  exact codeAny_compStart_list loop (Tn.self _ _ _ _ _ st4 loop)
theorem pe_comp (S : CompScope N' scope) (T : Slots X.N X.env.scope scope N' ix) (hc : X.calm = true) (hi : PI X tg iter wi) (hs : ∀ x, foldedSetIterable iter X.env x = pure x := by intro _; rfl) :
    PE X (.ListComp elt [⟨tg, iter, ifs, 0⟩] scope pos) (tComp X N' ix scope tg elt ifs wi) := by
  intro pins s σ H Q I h
  rw [eval_ListComp]
  refine comp_core (use := none) S T hc hi I h (fun acc C s' H' I' q ⟨m, hm⟩ f => ?_) hs
  exact ⟨m, hm, fun h' hsb => ⟨.ref acc, H', I'.turned (t' := s'.toks) (fun b o hb e => (hsb.2 b hb).trans e) f.1 f.2.1 f.2.2.2.1 f.2.2.2.2.1 f.2.2.2.2.2, rfl, q⟩⟩
theorem ps_setc {i : Nat} {x : Str} {spos pos' : Pos} (hN : X.N.Nodup) (hi' : X.N[i]? = some x) (hx : X.env.scope.names.lookup x = some .local) (S : CompScope N' scope) (T : Slots X.N X.env.scope scope N' ix) (hc : X.calm = true) (hi : PI X tg iter wi)
    (hsw : swapsWith (.ListComp elt [⟨tg, iter, ifs, 0⟩] scope pos) (some (.Name x pos')) spos.line X.env = pure true := by rfl) (hs : ∀ x, foldedSetIterable iter X.env x = pure x := by intro _; rfl) :
    PS X (.Assign [.Name x pos'] (.ListComp elt [⟨tg, iter, ifs, 0⟩] scope pos) spos) (tAsg (tComp X N' ix scope tg elt ifs wi) (gName i)) := by
  intro pins s σ H D I h
  rw [exec_Assign_Name_used _ _ _ _ hsw]
  refine wpAny_bind (wpAny_standAt (wpAny_bind ?_))
  show wpAny _ X.A (do let _ ← comprehension (.ListComp elt [⟨tg, iter, ifs, 0⟩] scope pos) scope X.env _ (newList []) false (eval iter X.env) (some (assign (.Name x pos') X.env))) _ _ s
  refine wpAny_bind (wpAny_mono (comp_core (use := some (assign (.Name x pos') X.env)) (Q' := fun _ s' => SP X pins D .next s') S T hc hi I h (fun acc C s' H' I' q ⟨m, hm⟩ f => ?_) hs) (fun _ s' hq => wpAny_pure (wpAny_pure hq)) fun _ _ e => e)
  show wpAny _ X.A (assign (.Name x pos') X.env (.ref acc)) _ _ _
  refine wpAny_assign_Name (store_ok2 I' hN hi' (.inl hx) (show RelV (.ref acc) (.ref acc) from rfl) (fun s2 I2 ⟨a, hsb, ha⟩ => ?_) (.inr hx))
  have haC : C ≠ a := by
    rcases ha with e | e
    · rw [e]; exact f.2.1
    · exact fun z => f.2.2.2.2.1 x a e z.symm
  refine ⟨m, hm.sameBut hsb haC, fun h' hsb' => ⟨_, H', I2.turned (t' := s2.toks) (fun b o hb e => (hsb'.2 b hb).trans e) f.1 f.2.1 f.2.2.2.1 f.2.2.2.2.1 f.2.2.2.2.2, q⟩⟩
end
section
variable {K : PySem.W.Frag} {a acc : Addr} {xs : List V} {g : TG} {tc : TT} {te : TE} {σ : St} {H : Hp} {Q : VK}
end
end L2
namespace L2
open PySem PySem.Spec PyProof.Rows
open PySem.SeqAt (EqAt RcAt)
section
variable {X : Cx} {pins : List (Addr × Obj)} {σ : St} {H : Hp} {s : Shared} {h' : Heap}
theorem Inv.turnedL {t' : Nat} {ch : List Addr} (I : Inv X pins σ H s) (k : ∀ b o, b ∉ ch → s.heap.get? b = some o → h'.get? b = some o) (hch : ∀ b ∈ ch, FpOk X pins H b) : Inv X pins σ H { s with heap := h', toks := t' } := by
  have nit : ∀ b u, H b = some u → b ∉ ch := fun b u e z => by have := (hch b z).1; rw [this] at e; cases e
  refine I.step (g' := s.gens) (d' := s.drawn) (ch := ch) (fun b hb => ⟨(hch b hb).2.2.2.1, (hch b hb).2.1, (hch b hb).2.2.2.2.1, (hch b hb).2.2.2.2.2⟩) (fun b o _ _ hc e _ => k b o hc e) (fun b o _ _ hc e _ => ⟨o.slots, k b o hc e⟩) (fun _ _ _ _ n => n)
    (fun b o hc e => ⟨o, k b o hc e⟩) (fun _ _ e => e) (fun _ _ _ e => e) (fun b ps e => ⟨#[], by rw [e]; simp⟩) (fun m hm => ?_) (fun b u e => ?_) I.bare
  · obtain ⟨o, es, ep, ho, r⟩ := hm
    exact ⟨o, es, ep, k _ o (fun z => (hch _ z).2.1 rfl) ho, r⟩
  · refine (I.hok b u e).stay (fun c v hc q => k c v ?_ q) (fun _ q => q) fun _ _ q => q
    rcases hc with z | z
    · rw [z]; exact nit b u e
    · exact nit c _ z
theorem Inv.turnedT {t' : Nat} {ch : List Addr} {xs : List V} {its : List Value} (I : Inv X pins σ H s) (k : ∀ b o, b ∉ ch → s.heap.get? b = some o → h'.get? b = some o) (hch : ∀ b ∈ ch, FpOk X pins H b) (hlt : ∀ b ∈ ch, b < s.heap.objs.size)
    (ht : IsTup h' s.heap.objs.size its.toArray) (r : Vals xs its) (hz : xs.length ≤ sizeLine) : Inv X pins σ (upd H s.heap.objs.size (.tup xs)) { s with heap := h', toks := t' } := by
  have fr := I.fresh
  have nit : ∀ b u, H b = some u → b ∉ ch := fun b u e z => by have := (hch b z).1; rw [this] at e; cases e
  have ne : ∀ b o, s.heap.get? b = some o → b ≠ s.heap.objs.size := fun b o e => Nat.ne_of_lt (Heap.lt_size e)
  have neH : ∀ b u, H b = some u → b ≠ s.heap.objs.size := fun b u e z => by rw [z, fr] at e; cases e
  refine I.step (g' := s.gens) (d' := s.drawn) (ch := ch) (fun b hb => ⟨(hch b hb).2.2.2.1, (hch b hb).2.1, (hch b hb).2.2.2.2.1, (hch b hb).2.2.2.2.2⟩) (fun b o _ _ hc e _ => k b o hc e) (fun b o _ _ hc e _ => ⟨o.slots, k b o hc e⟩) (fun b o _ e n => by rw [upd_ne (ne b o e)]; exact n)
    (fun b o hc e => ⟨o, k b o hc e⟩) (fun b xs e => by rw [upd_ne (neH b _ e)]; exact e) (fun b o u e => by rw [upd_ne (neH b _ e)]; exact e) (fun b ps e => ⟨#[], by rw [upd_ne (neH b _ e), e]; simp⟩) (fun m hm => ?_) (fun b u e => ?_) I.bare
  · obtain ⟨o, es, ep, ho, r⟩ := hm
    exact ⟨o, es, ep, k _ o (fun z => (hch _ z).2.1 rfl) ho, r⟩
  · by_cases hb : b = s.heap.objs.size
    · subst hb
      rw [upd_same] at e
      cases e
      exact ⟨hz, its, r, ht⟩
    · rw [upd_ne hb] at e
      refine (I.hok b u e).stay (fun c v hc q => k c v ?_ q) (fun c q => by rw [upd_ne (neH c _ q)]; exact q) fun c xs q => by rw [upd_ne (neH c _ q)]; exact q
      rcases hc with z | z
      · rw [z]; exact nit b u e
      · exact nit c _ z
end
noncomputable def Itz (K : PySem.W.Frag) (l1 l2 : Addr) : It :=
  ⟨fun i H => ∃ xs ys x y, SqL K H l1 xs ∧ SqL K H l2 ys ∧ xs[i]? = some x ∧ ys[i]? = some y,
   fun i H v H' => ∃ p x y, H p = none ∧ v = .ref p ∧ H' = upd H p (.tup [x, y]) ∧ (∀ xs, SqL K H l1 xs → xs[i]? = some x) ∧ ∀ ys, SqL K H l2 ys → ys[i]? = some y,
   fun i H => ∃ xs ys, SqL K H l1 xs ∧ SqL K H l2 ys ∧ (xs.length ≤ i ∨ ys.length ≤ i)⟩
theorem ziplist_ne {h : Heap} {l b : Addr} {its : Array Value} {o : Obj} {n : String} (hl : h.IsList l its) (hb : h.get? b = some o) (hc : o.cls = .type n) (hn : n ≠ "list") : l ≠ b := by
  rintro rfl
  obtain ⟨o', e, c, _⟩ := hl
  rw [hb] at e
  cases e
  rw [hc] at c
  cases c
  exact hn rfl
theorem turn_zip {P : Program} {w : World} {K : PySem.W.Frag} {elts : List Expr} {k : Nat} {pos : Pos} (l1 l2 : Addr) (n : Nat) : Turn P w K (.Tuple elts k pos) (Itz K l1 l2) [n, n + 1, n + 2, n + 3, n + 4] (n + 4)
    (fun i h => IsZip h (n + 4) (n + 2) (n + 3) .none ∧ IsPair h (n + 2) (.ref n) (.ref (n + 1)) ∧ (∃ a b, IsPair h (n + 3) a b) ∧ h.IsListIter n l1 i ∧ h.IsListIter (n + 1) l2 i) where
  mem := by simp
  obj := fun i h st b hb => by
    obtain ⟨hz, hTI, ⟨a, c, hTO⟩, ⟨o1, e1, c1, d1⟩, ⟨o2, e2, c2, d2⟩⟩ := st
    simp only [List.mem_cons, List.not_mem_nil, or_false] at hb
    rcases hb with rfl | rfl | rfl | rfl | rfl
    · exact ⟨_, e1, fun v z => by rw [d1] at z; cases z⟩
    · exact ⟨_, e2, fun v z => by rw [d2] at z; cases z⟩
    · exact ⟨_, hTI, fun v z => by cases z⟩
    · exact ⟨_, hTO, fun v z => by cases z⟩
    · exact ⟨_, hz, fun v z => by cases z⟩
  keep := fun i h h' st k => by
    obtain ⟨hz, hTI, ⟨a, c, hTO⟩, h1, h2⟩ := st
    exact ⟨k _ (by simp) _ hz, k _ (by simp) _ hTI, ⟨a, c, k _ (by simp) _ hTO⟩, h1.at fun o e => k _ (by simp) o e, h2.at fun o e => k _ (by simp) o e⟩
  item := by
    intro X hP hw hK hc i pins s σ H E I hf st hg
    subst hP hw hK
    obtain ⟨xs, ys, x, y, hq1, hq2, hx, hy⟩ := hg
    obtain ⟨its1, rv1, p1, hz1⟩ := I.list hq1
    obtain ⟨its2, rv2, p2, hz2⟩ := I.list hq2
    obtain ⟨u1, hu1, ru1⟩ := rv1.get hx
    obtain ⟨u2, hu2, ru2⟩ := rv2.get hy
    obtain ⟨hz, hTI, ⟨a, c, hTO⟩, h1, h2⟩ := id st
    obtain ⟨o1, e1, c1, d1⟩ := id h1
    obtain ⟨o2, e2, c2, d2⟩ := id h2
    have D : ZipApart (n + 4) (n + 2) (n + 3) n (n + 1) l1 l2 := by
      refine ⟨(by show ¬ @Eq Nat _ _; omega), (by show ¬ @Eq Nat _ _; omega), (by show ¬ @Eq Nat _ _; omega), (by show ¬ @Eq Nat _ _; omega), (by show ¬ @Eq Nat _ _; omega), (by show ¬ @Eq Nat _ _; omega), (by show ¬ @Eq Nat _ _; omega), (by show ¬ @Eq Nat _ _; omega), (by show ¬ @Eq Nat _ _; omega), (by show ¬ @Eq Nat _ _; omega), ?_, ?_, ?_, ?_, ?_, ?_, ?_, ?_⟩
      · exact ziplist_ne p1.isList hz rfl (by decide)
      · exact ziplist_ne p1.isList hTO rfl (by decide)
      · exact ziplist_ne p1.isList e1 c1 (by decide)
      · exact ziplist_ne p1.isList e2 c2 (by decide)
      · exact ziplist_ne p2.isList hz rfl (by decide)
      · exact ziplist_ne p2.isList hTO rfl (by decide)
      · exact ziplist_ne p2.isList e1 c1 (by decide)
      · exact ziplist_ne p2.isList e2 c2 (by decide)
    have hlt : ∀ b ∈ [n, n + 1, n + 2, n + 3, n + 4], b < s.heap.objs.size := fun b hb => by
      have z := Heap.lt_size hz
      simp only [List.mem_cons, List.not_mem_nil, or_false] at hb
      have : b ≤ n + 4 := by rcases hb with rfl | rfl | rfl | rfl | rfl <;> first | exact Nat.le_refl _ | exact Nat.le_add_right _ _ | exact Nat.add_le_add_left (by decide) _
      exact Nat.lt_of_le_of_lt this z
    refine wpAny_pyNext_zip_item D hz hTI hTO h1 h2 p1.isList p2.isList (x := u1) (y := u2) (by simpa using hu1) (by simpa using hu2) fun h' a1 a2 a3 a4 a5 a6 hk => ⟨_, rfl, ?_⟩
    refine wpAny_letOwnedTupleGo_zip a1 fun h'' hz'' hs'' => ?_
    have zne : s.heap.objs.size ≠ n + 4 := Nat.ne_of_gt (Heap.lt_size hz)
    have kk : ∀ b o, b ∉ [n, n + 1, n + 2, n + 3, n + 4] → s.heap.get? b = some o → h''.get? b = some o := fun b o hb e => by
      simp only [List.mem_cons, List.not_mem_nil, or_false, not_or] at hb
      exact hs''.extBut _ _ hb.2.2.2.2 (hk b o hb.2.2.2.2 hb.2.2.2.1 hb.1 hb.2.1 e)
    have It := I.turnedT (t' := s.toks) (xs := [x, y]) (its := [u1, u2]) (h' := h'') kk hf hlt ⟨_, hs''.extBut _ _ zne a5, rfl, _, rfl⟩ (.cons ru1 (.cons ru2 .nil)) (by show 2 ≤ sizeLine; decide)
    refine ⟨.ref s.heap.objs.size, _, It, rfl, ⟨_, x, y, I.fresh, rfl, rfl, fun zs hzs => by rw [I.list_inj hzs hq1]; exact hx, fun zs hzs => by rw [I.list_inj hzs hq2]; exact hy⟩, ⟨hz'', ?_, ⟨_, _, hs''.extBut _ _ (by show ¬ @Eq Nat _ _; omega) a2⟩, ?_, ?_⟩, fun b hb => ?_⟩
    · exact hs''.extBut _ _ (by show ¬ @Eq Nat _ _; omega) (hk _ _ (by show ¬ @Eq Nat _ _; omega) (by show ¬ @Eq Nat _ _; omega) (by show ¬ @Eq Nat _ _; omega) (by show ¬ @Eq Nat _ _; omega) hTI)
    · exact a3.extBut hs''.extBut (by show ¬ @Eq Nat _ _; omega)
    · exact a4.extBut hs''.extBut (by show ¬ @Eq Nat _ _; omega)
    · rw [upd_ne (Nat.ne_of_lt (hlt b hb))]; exact (hf b hb).1
  done := by
    intro X hP hw hK hc i pins s σ H E I hf st hg
    subst hP hw hK
    obtain ⟨xs, ys, hq1, hq2, hend⟩ := hg
    obtain ⟨its1, rv1, p1, hz1⟩ := I.list hq1
    obtain ⟨its2, rv2, p2, hz2⟩ := I.list hq2
    obtain ⟨hz, hTI, ⟨a, c, hTO⟩, h1, h2⟩ := id st
    obtain ⟨o1, e1, c1, d1⟩ := id h1
    obtain ⟨o2, e2, c2, d2⟩ := id h2
    have D : ZipApart (n + 4) (n + 2) (n + 3) n (n + 1) l1 l2 := by
      refine ⟨(by show ¬ @Eq Nat _ _; omega), (by show ¬ @Eq Nat _ _; omega), (by show ¬ @Eq Nat _ _; omega), (by show ¬ @Eq Nat _ _; omega), (by show ¬ @Eq Nat _ _; omega), (by show ¬ @Eq Nat _ _; omega), (by show ¬ @Eq Nat _ _; omega), (by show ¬ @Eq Nat _ _; omega), (by show ¬ @Eq Nat _ _; omega), (by show ¬ @Eq Nat _ _; omega), ?_, ?_, ?_, ?_, ?_, ?_, ?_, ?_⟩
      · exact ziplist_ne p1.isList hz rfl (by decide)
      · exact ziplist_ne p1.isList hTO rfl (by decide)
      · exact ziplist_ne p1.isList e1 c1 (by decide)
      · exact ziplist_ne p1.isList e2 c2 (by decide)
      · exact ziplist_ne p2.isList hz rfl (by decide)
      · exact ziplist_ne p2.isList hTO rfl (by decide)
      · exact ziplist_ne p2.isList e1 c1 (by decide)
      · exact ziplist_ne p2.isList e2 c2 (by decide)
    have l1' := rv1.length
    have l2' := rv2.length
    refine wpAny_pyNext_zip_end (I.ok.hd hc) D hz hTI hTO h1 h2 p1.isList p2.isList ?_ fun h' hk => ⟨rfl, I.turnedL (t' := s.toks) (ch := [n, n + 1, n + 2, n + 3, n + 4]) (fun b o hb e => ?_) hf⟩
    · rcases hend with z | z
      · exact .inl (by simp; omega)
      · exact .inr (by simp; omega)
    · simp only [List.mem_cons, List.not_mem_nil, or_false, not_or] at hb
      exact hk b o hb.2.2.2.2 hb.2.2.2.1 hb.1 hb.2.1 e
  self := fun _ _ _ _ _ st h => wpAny_pyIter_zip st.1 h
section
variable {X : Cx}
noncomputable def iZip (K : PySem.W.Frag) (ta : TA) : TI := fun σ H R => ta σ H fun vs H1 => ∃ l1 l2 xs ys, vs = [.ref l1, .ref l2] ∧ SqL K H1 l1 xs ∧ SqL K H1 l2 ys ∧ R (Itz K l1 l2) H1
theorem pi_zip {a b : Expr} {ta : TA} {elts : List Expr} {k : Nat} {tpos p pos : Pos} (hg : Gl X "zip") (hm : X.mg "zip" = none) (ha : PA X [a, b] ta) (hs : starEach [a, b] X.env = [(false, eval a X.env), (false, eval b X.env)] := by rfl) (hs2 : starEach [b] X.env = [(false, eval b X.env)] := by rfl) :
    PI X (.Tuple elts k tpos) (.Call (.Name "zip" p) [a, b] [] pos) (iZip X.K ta) := by
  intro pins s σ H R I h
  refine Call_ (ld_blt I hg hm boot_zip (PyProof.Rows.callWith_type1 (thn (ha pos pins s σ H _ I h) fun us s1 ⟨vs, H1, I1, r1, q1⟩ => ?_) (by rw [hs, hs2]) (by rw [hs2]; rfl)))
  obtain ⟨l1, l2, xs, ys, e, q1, q2, q⟩ := q1
  subst e
  cases r1 with
  | cons r rr =>
    cases rr with
    | cons r' rr =>
      cases rr
      cases r
      cases r'
      obtain ⟨its1, rv1, p1, hz1⟩ := I1.list q1
      obtain ⟨its2, rv2, p2, hz2⟩ := I1.list q2
      refine call_zip_2 p1.isList p2.isList fun h' a1 a2 a3 a4 a5 a6 kp => ?_
      refine wpAny_pyIter_zip a1 ?_
      have I2 : Inv X pins σ H1 { s1 with heap := h' } := I1.kept (t' := s1.toks) kp
      refine ⟨_, _, _, _, H1, rfl, I2, turn_zip l1 l2 s1.heap.objs.size, ⟨a1, a2, ⟨_, _, a3⟩, a4, a5⟩, fun b hb => ?_, q⟩
      have hb' : s1.heap.objs.size ≤ b := by
        simp only [List.mem_cons, List.not_mem_nil, or_false] at hb
        rcases hb with rfl | rfl | rfl | rfl | rfl <;> first | exact Nat.le_refl _ | exact Nat.le_add_right _ _
      exact I1.fpOk hb' (I1.hok.fresh hb')
theorem comp_zip {K : PySem.W.Frag} {l1 l2 acc : Addr} {xs ys : List V} {g : TG} {tc : TT} {te : TE} {σ : St} {H : Hp} {Q : VK} (Pv : Nat → St → Hp → Prop) (h0 : Pv 0 σ H) (hl1 : ∀ i σ H, Pv i σ H → SqL K H l1 xs) (hl2 : ∀ i σ H, Pv i σ H → SqL K H l2 ys)
    (hs : ∀ i x y p σ H, xs[i]? = some x → ys[i]? = some y → H p = none → Pv i σ H → g (.ref p) σ (upd H p (.tup [x, y])) fun σ3 H3 => tc σ3 H3 fun b H4 => if b = true then te σ3 H4 fun y H5 => ∃ ys, H5 acc = some (.lst ys) ∧ ys.length < sizeLine ∧ Pv (i + 1) σ3 (upd H5 acc (.lst (ys ++ [y]))) else Pv (i + 1) σ3 H4)
    (hd : ∀ σ H, Pv (min xs.length ys.length) σ H → Q (.ref acc) H) :
    ∃ W : Nat → Nat → St → Hp → Prop, (∃ m, W 0 m σ H) ∧ ∀ i m σ' H', W i m σ' H' →
      ((Itz K l1 l2).stop i H' ∧ Q (.ref acc) H') ∨ ((Itz K l1 l2).go i H' ∧ ∃ N : St → Hp → Prop, (∀ σ2 H2, N σ2 H2 → ∃ m', m' < m ∧ W (i + 1) m' σ2 H2) ∧ ∀ x H2, (Itz K l1 l2).yld i H' x H2 → g x σ' H2 fun σ3 H3 => tc σ3 H3 fun b H4 =>
        if b = true then te σ3 H4 fun y H5 => ∃ ys, H5 acc = some (.lst ys) ∧ ys.length < sizeLine ∧ N σ3 (upd H5 acc (.lst (ys ++ [y]))) else N σ3 H4) := by
  refine ⟨fun i m σ H => m = min xs.length ys.length - i ∧ i ≤ min xs.length ys.length ∧ Pv i σ H, ⟨_, rfl, Nat.zero_le _, h0⟩, ?_⟩
  rintro i m σ H ⟨rfl, hi, p⟩
  by_cases hlt : i < min xs.length ys.length
  · have h1 : i < xs.length := by omega
    have h2 : i < ys.length := by omega
    refine .inr ⟨⟨xs, ys, xs[i], ys[i], hl1 i σ H p, hl2 i σ H p, by simp [h1], by simp [h2]⟩, Pv (i + 1), fun σ' H' p' => ⟨min xs.length ys.length - (i + 1), by omega, rfl, hlt, p'⟩, ?_⟩
    rintro v H' ⟨q, x, y, hq, rfl, rfl, ex, ey⟩
    exact hs i x y q σ H (ex xs (hl1 i σ H p)) (ey ys (hl2 i σ H p)) hq p
  · have e : i = min xs.length ys.length := by omega
    subst e
    exact .inl ⟨⟨xs, ys, hl1 _ σ H p, hl2 _ σ H p, by omega⟩, hd σ H p⟩
theorem call_all_bools (hc : X.calm = true) : CallR X (.builtin "all") (fun xs H Q => ∃ (p : Addr) (bs : List Bool), xs = [.ref p] ∧ SqL X.K H p (bs.map V.bl) ∧ Q (.bl (bs.all id)) H) := by
  intro pins s σ H xs us Q I r h
  obtain ⟨p, bs, rfl, hq, q⟩ := h
  obtain ⟨u, rfl, rx⟩ := vals1 r
  cases rx
  obtain ⟨its, rv, pl, hz⟩ := I.list hq
  have hb : ∀ (i : Nat) (v : Value), its.toArray[i]? = some v → ∃ b, bs[i]? = some b ∧ v = .bool b := fun i v e => by
    have e' : its[i]? = some v := by simpa using e
    cases eb : bs[i]? with
    | none =>
      have := rv.none_of (i := i) (by rw [List.getElem?_map, eb]; rfl)
      rw [this] at e'; cases e'
    | some b =>
      obtain ⟨u, hu, ru⟩ := rv.get (i := i) (x := .bl b) (by rw [List.getElem?_map, eb]; rfl)
      rw [e'] at hu; cases hu
      exact ⟨b, rfl, ru⟩
  have hlen := rv.length
  rw [List.length_map] at hlen
  refine call_all_walk (wpAny_pyIter_list pl.isList ?_)
  have hne : p ≠ s.heap.objs.size := Nat.ne_of_lt pl.lt
  refine ⟨_, _, _, _, _, _, fun i => bs.getD i true, rfl, Walks.list (by show X.A.in1.handled = none; exact I.ok.hd hc) s.heap.objs.size p hne its.toArray, ⟨⟨_, Heap.get?_push_size _ rfl, rfl, rfl⟩, pl.isList.push _⟩, ?_, fun h' tk hk => ?_⟩
  · intro i v s' Q' E' hP hQ
    obtain ⟨b, eb, rfl⟩ := hb i v hP
    have : bs.getD i true = b := by rw [List.getD_eq_getElem?_getD, eb]; rfl
    have hQ' : Q' (bs.getD i true) s' := hQ
    rw [this] at hQ'
    exact wpAny_truthy_bool hQ'
  · refine ⟨.bl (bs.all id), H, I.kept (t' := tk) fun b o e => hk b o ?_ (Heap.get?_push_of_some _ e), ?_, q⟩
    · simp only [List.mem_singleton]; exact Nat.ne_of_lt (Heap.lt_size e)
    · show Value.bool _ = Value.bool _
      congr 1
      rw [List.size_toArray, ← hlen]
      rw [Bool.eq_iff_iff, List.all_eq_true, List.all_eq_true]
      constructor
      · intro h b hb'
        obtain ⟨i, hi, rfl⟩ := List.mem_iff_getElem.mp hb'
        have := h i (List.mem_range.mpr hi)
        simpa [List.getD_eq_getElem?_getD, hi] using this
      · intro h i hi
        have hi' := List.mem_range.mp hi
        have := h bs[i] (List.getElem_mem _)
        simpa [List.getD_eq_getElem?_getD, hi'] using this
theorem preSum_eq (ns : List Int) : ∀ k, k ≤ ns.length → preSum (fun i => ns.getD i 0) k = (ns.take k).sum := by
  intro k
  induction k with
  | zero => intro _; rfl
  | succ k ih =>
    intro hk
    show preSum (fun i => ns.getD i 0) k + ns.getD k 0 = _
    rw [ih (by omega), List.take_add_one, List.getElem?_eq_getElem (by omega : k < ns.length), List.sum_append, List.getD_eq_getElem?_getD, List.getElem?_eq_getElem (by omega : k < ns.length)]
    simp
theorem call_sum_ints (hc : X.calm = true) : CallR X (.builtin "sum") (fun xs H Q => ∃ (p : Addr) (ns : List Int), xs = [.ref p] ∧ SqL X.K H p (ns.map V.int) ∧ Q (.int ns.sum) H) := by
  intro pins s σ H xs us Q I r h
  obtain ⟨p, ns, rfl, hq, q⟩ := h
  obtain ⟨u, rfl, rx⟩ := vals1 r
  cases rx
  obtain ⟨its, rv, pl, hz⟩ := I.list hq
  have hb : ∀ (i : Nat) (v : Value), its.toArray[i]? = some v → ∃ t, v = .int (ns.getD i 0) t := fun i v e => by
    have e' : its[i]? = some v := by simpa using e
    cases eb : ns[i]? with
    | none =>
      have := rv.none_of (i := i) (by rw [List.getElem?_map, eb]; rfl)
      rw [this] at e'; cases e'
    | some b =>
      obtain ⟨u, hu, t, ru⟩ := rv.get (i := i) (x := .int b) (by rw [List.getElem?_map, eb]; rfl)
      rw [e'] at hu; cases hu
      exact ⟨t, by rw [List.getD_eq_getElem?_getD, eb]; exact ru⟩
  have hlen := rv.length
  rw [List.length_map] at hlen
  refine call_sum_walkAnyS (wpAny_pyIter_list pl.isList ?_)
  have hne : p ≠ s.heap.objs.size := Nat.ne_of_lt pl.lt
  refine ⟨_, _, _, _, _, _, _, fun i => ns.getD i 0, rfl, (Walks.list (by show X.A.in1.handled = none; exact I.ok.hd hc) s.heap.objs.size p hne its.toArray).toS, ⟨⟨_, Heap.get?_push_size _ rfl, rfl, rfl⟩, pl.isList.push _⟩, ?_, hb, fun s' t' hm => ?_⟩
  · intro b hb'
    have hp := pl.lt
    simp only [List.mem_cons, List.not_mem_nil, or_false] at hb'
    rw [Heap.size_push]
    rcases hb' with rfl | rfl
    · exact Nat.lt_succ_self _
    · exact Nat.lt_succ_of_lt hp
  · obtain ⟨h', g', d', tk', os'⟩ := s'
    obtain ⟨kp, hg, ho, hd, _⟩ := hm
    cases hg
    cases ho
    cases hd
    refine ⟨.int ns.sum, H, I.kept (t' := tk') fun b o e => kp b o ?_ (Heap.get?_push_of_some _ e), ⟨t', ?_⟩, q⟩
    · simp only [List.mem_singleton]; exact Nat.ne_of_lt (Heap.lt_size e)
    · rw [List.size_toArray, ← hlen, preSum_eq ns _ (Nat.le_refl _), List.take_length]
noncomputable def insV (xs : List V) (k : Nat) (y : V) : List V := xs.take k ++ y :: xs.drop k
noncomputable def rInsert : V → List V → Hp → VK → Prop := fun x vs H Q => ∃ l xs k z y, x = .ref l ∧ vs = [.int z, y] ∧ z = ((k : Nat) : Int) ∧ H l = some (.lst xs) ∧ k ≤ xs.length ∧ xs.length < sizeLine ∧ Q .non (upd H l (.lst (insV xs k y)))
theorem ins_at (its : List Value) (z : Int) (k : Nat) (u : Value) (hz : z = ((k : Nat) : Int)) (hk : k ≤ its.length) :
    (its.toArray.extract 0 (if z < 0 then (z + (its.toArray.size : Int)).toNat else min z.toNat its.toArray.size)).push u ++ its.toArray.extract (if z < 0 then (z + (its.toArray.size : Int)).toNat else min z.toNat its.toArray.size) = (its.take k ++ u :: its.drop k).toArray := by
  have e1 : (if z < 0 then (z + (its.toArray.size : Int)).toNat else min z.toNat its.toArray.size) = k := by
    rw [if_neg (by omega), List.size_toArray]; omega
  rw [e1]
  apply Array.toList_inj.mp
  simp
  exact List.take_of_length_le (by simp)
theorem mt_insert : MtM X "list.insert" rInsert := by
  intro pins s σ H x vs v us Q I rx rv h
  obtain ⟨l, xs, k, z, y, rfl, rfl, hzk, hH, hk, hz, q⟩ := h
  cases rx
  obtain ⟨u1, u2, rfl, ⟨t, rfl⟩, ru⟩ := rv.two
  obtain ⟨z', its, n, r, hl, e⟩ := I.lstM hH
  have hfit : Builtin.List.listFitsIndex z = true := by
    have := line63
    unfold Builtin.List.listFitsIndex
    simp only [Bool.and_eq_true, decide_eq_true_eq]
    omega
  refine call_meets F.slot_list_insert ⟨_, e, rfl⟩ F.entry_list_insert (F.args_list_insert_3 _ _ _) (PySem.AutoSeq1.list_insert_list_int_val_1 l its.toArray n z t u2 (by simp [hfit]) (by rw [List.size_toArray]; omega)) ⟨e, ?_⟩
  refine ⟨.non, _, I.lset (its' := its.take k ++ u2 :: its.drop k) (t' := _) hH e (ins_at its z k u2 hzk (by omega)) ((r.take k).append (.cons ru (r.drop k))) ?_, rfl, q⟩
  rw [List.length_append, List.length_cons, List.length_take, List.length_drop]
  omega
noncomputable def EqR (K : PySem.W.Frag) (H : Hp) : Nat → V → V → Bool → Prop
  | 0, x, y, b => flatV x = true ∧ flatV y = true ∧ b = eqV x y
  | n + 1, x, y, b => (flatV x = true ∧ flatV y = true ∧ b = eqV x y) ∨ (∃ p q xs ys, x = .ref p ∧ y = .ref q ∧ SqL K H p xs ∧ SqL K H q ys ∧
      ((xs.length ≠ ys.length ∧ b = false) ∨ (xs.length = ys.length ∧ ∃ e : Nat → Bool, (∀ i x y, xs[i]? = some x → ys[i]? = some y → EqR K H n x y (e i)) ∧ b = (List.range xs.length).all e))) ∨
      (∃ p q xs ys, x = .ref p ∧ y = .ref q ∧ SqT K H p xs ∧ SqT K H q ys ∧ ∃ e : Nat → Bool, (∀ i x y, xs[i]? = some x → ys[i]? = some y → EqR K H n x y (e i)) ∧ b = ((List.range (min xs.length ys.length)).all e && xs.length == ys.length))
theorem eqV_self {x : V} (h : flatV x = true) : eqV x x = true := by cases x <;> simp_all [flatV, eqV]
theorem EqR.self {pins : List (Addr × Obj)} {σ : St} {H : Hp} {s : Shared} (I : Inv X pins σ H s) : ∀ (n : Nat) {x : V} {b : Bool}, EqR X.K H n x x b → b = true := by
  intro n
  induction n with
  | zero => rintro x b ⟨h, _, rfl⟩; exact eqV_self h
  | succ n ih =>
    rintro x b (⟨h, _, rfl⟩ | ⟨p, q, xs, ys, rfl, e, h1, h2, h3⟩ | ⟨p, q, xs, ys, rfl, e, h1, h2, ee, he, rfl⟩)
    · exact eqV_self h
    · cases e
      have := I.list_inj h1 h2
      subst this
      rcases h3 with ⟨h3, _⟩ | ⟨_, ee, he, rfl⟩
      · exact absurd rfl h3
      · rw [List.all_eq_true]
        intro i hi
        have hi' := List.mem_range.mp hi
        exact ih (he i xs[i] xs[i] (by simp) (by simp))
    · cases e
      have := I.tuple_inj h1 h2
      subst this
      rw [Bool.and_eq_true, List.all_eq_true]
      refine ⟨fun i hi => ?_, by simp⟩
      have hi' : i < xs.length := by have := List.mem_range.mp hi; omega
      exact ih (he i xs[i] xs[i] (by simp) (by simp))
theorem EqR.rc {pins : List (Addr × Obj)} {σ : St} {H : Hp} {s : Shared} (I : Inv X pins σ H s) : ∀ (n : Nat) (A : Around) {x y : V} {u v : Value} {b : Bool}, A.units + n < cLine → RelV x u → RelV y v → EqR X.K H n x y b → EqAt A s u v b := by
  intro n
  induction n with
  | zero =>
    intro A x y u v b _ rx ry h
    obtain ⟨fx, fy, rfl⟩ := h
    exact eqAt_V rx ry fx fy
  | succ n ih =>
    intro A x y u v b hu rx ry h
    have hu' : A.in1.units + n < cLine := by
      have : A.in1.units = A.units + 1 := rfl
      omega
    have h0 := h
    rcases h with ⟨fx, fy, rfl⟩ | ⟨p, q, xs, ys, rfl, rfl, h1, h2, h3⟩ | ⟨p, q, xs, ys, rfl, rfl, h1, h2, ee, hee, hb⟩
    · exact eqAt_V rx ry fx fy
    · cases rx
      cases ry
      by_cases e : p = q
      · subst e
        rw [EqR.self I (n + 1) h0]
        exact EqAt.same _
      obtain ⟨its1, r1, p1, z1⟩ := I.list h1
      obtain ⟨its2, r2, p2, z2⟩ := I.list h2
      have l1 := r1.length
      have l2 := r2.length
      refine EqAt.of_refs e ?_
      rcases h3 with ⟨hne, rfl⟩ | ⟨he, ee, hee, rfl⟩
      · exact RcAt.lists_lengths p1.isList p2.isList (by simp; omega) (by omega)
      · have := RcAt.lists (A := A) (e := ee) p1.isList p2.isList (by simp; omega) (by omega) fun j hj1 hj2 => ?_
        · rw [List.size_toArray, ← l1] at this; exact this
        · have hj1' : j < its1.length := by simpa using hj1
          have hj2' : j < its2.length := by simpa using hj2
          obtain ⟨w1, e1, q1⟩ := r1.get (i := j) (x := xs[j]'(by omega)) (by simp)
          obtain ⟨w2, e2, q2⟩ := r2.get (i := j) (x := ys[j]'(by omega)) (by simp)
          rw [List.getElem?_eq_getElem hj1'] at e1
          rw [List.getElem?_eq_getElem hj2'] at e2
          cases e1
          cases e2
          simpa using ih A.in1 hu' q1 q2 (hee j _ _ (by simp) (by simp))
    · cases rx
      cases ry
      by_cases e : p = q
      · subst e
        rw [EqR.self I (n + 1) h0]
        exact EqAt.same _
      obtain ⟨its1, r1, p1, z1⟩ := I.tuple h1
      obtain ⟨its2, r2, p2, z2⟩ := I.tuple h2
      have l1 := r1.length
      have l2 := r2.length
      refine EqAt.of_refs e ?_
      have := RcAt.tuples (A := A) (e := ee) p1 p2 (by omega) fun j hj1 hj2 => ?_
      · rw [List.size_toArray, List.size_toArray, ← l1, ← l2, ← hb] at this; exact this
      · have hj1' : j < its1.length := by simpa using hj1
        have hj2' : j < its2.length := by simpa using hj2
        obtain ⟨w1, e1, q1⟩ := r1.get (i := j) (x := xs[j]'(by omega)) (by simp)
        obtain ⟨w2, e2, q2⟩ := r2.get (i := j) (x := ys[j]'(by omega)) (by simp)
        rw [List.getElem?_eq_getElem hj1'] at e1
        rw [List.getElem?_eq_getElem hj2'] at e2
        cases e1
        cases e2
        simpa using ih A.in1 hu' q1 q2 (hee j _ _ (by simp) (by simp))
noncomputable def EqC (K : PySem.W.Frag) (H : Hp) (n : Nat) (x y : V) (b : Bool) : Prop := (scal x y = true ∧ b = decide (x = y)) ∨ (∃ p q xs ys, x = .ref p ∧ y = .ref q ∧ SqL K H p xs ∧ SqL K H q ys ∧
      ((xs.length ≠ ys.length ∧ b = false) ∨ (xs.length = ys.length ∧ ∃ e : Nat → Bool, (∀ i x y, xs[i]? = some x → ys[i]? = some y → EqR K H n x y (e i)) ∧ b = (List.range xs.length).all e))) ∨
      (∃ p q xs ys, x = .ref p ∧ y = .ref q ∧ SqT K H p xs ∧ SqT K H q ys ∧ ∃ e : Nat → Bool, (∀ i x y, xs[i]? = some x → ys[i]? = some y → EqR K H n x y (e i)) ∧ b = ((List.range (min xs.length ys.length)).all e && xs.length == ys.length))
noncomputable def rEqA (K : PySem.W.Frag) (neg : Bool) : R2 := fun x y H Q => ∃ n b, n ≤ 20 ∧ EqC K H n x y b ∧ Q (.bl (if neg then !b else b)) H
theorem eq_items {pins : List (Addr × Obj)} {σ : St} {H : Hp} {s : Shared} (I : Inv X pins σ H s) {n : Nat} (hu : X.A.in1.units + n < cLine) {xs ys : List V} {its1 its2 : List Value} {ee : Nat → Bool} (r1 : Vals xs its1) (r2 : Vals ys its2)
    (hee : ∀ i x y, xs[i]? = some x → ys[i]? = some y → EqR X.K H n x y (ee i)) (j : Nat) (hj1 : j < its1.toArray.size) (hj2 : j < its2.toArray.size) : EqAt X.A.in1 s its1.toArray[j] its2.toArray[j] (ee j) := by
  have l1 := r1.length
  have l2 := r2.length
  have hj1' : j < its1.length := by simpa using hj1
  have hj2' : j < its2.length := by simpa using hj2
  obtain ⟨w1, e1, q1⟩ := r1.get (i := j) (x := xs[j]'(by omega)) (by simp)
  obtain ⟨w2, e2, q2⟩ := r2.get (i := j) (x := ys[j]'(by omega)) (by simp)
  rw [List.getElem?_eq_getElem hj1'] at e1
  rw [List.getElem?_eq_getElem hj2'] at e2
  cases e1
  cases e2
  simpa using EqR.rc I n X.A.in1 hu q1 q2 (hee j _ _ (by simp) (by simp))
theorem op_eqA (hu : X.A.units + 64 < cLine) : OpR X (compareOp .Eq) (rEqA X.K false) := by
  intro pins s σ H x y u v Q I rx ry h
  obtain ⟨n, b, hn, h, hq⟩ := h
  have hu' : X.A.in1.units + n < cLine := by
    have : X.A.in1.units = X.A.units + 1 := rfl
    omega
  rcases h with ⟨hs, rfl⟩ | ⟨p, q, xs, ys, rfl, rfl, h1, h2, h3⟩ | ⟨p, q, xs, ys, rfl, rfl, h1, h2, ee, hee, rfl⟩
  · exact op_eq pins s σ H x y u v Q I rx ry ⟨hs, hq⟩
  · cases rx
    cases ry
    obtain ⟨its1, r1, p1, z1⟩ := I.list h1
    obtain ⟨its2, r2, p2, z2⟩ := I.list h2
    have l1 := r1.length
    have l2 := r2.length
    rcases h3 with ⟨hne, rfl⟩ | ⟨he, ee, hee, rfl⟩
    · exact PySem.SeqAt.eq_list_lengthsAt p1.isList p2.isList (by simp; omega) (by omega) ⟨_, H, I, (show RelV (.bl _) _ from rfl), hq⟩
    · refine PySem.SeqAt.eq_listAt (e := ee) p1.isList p2.isList (by simp; omega) (by omega) (eq_items I hu' r1 r2 hee) ⟨_, H, I, ?_, hq⟩
      rw [List.size_toArray, ← l1]; rfl
  · cases rx
    cases ry
    obtain ⟨its1, r1, p1, z1⟩ := I.tuple h1
    obtain ⟨its2, r2, p2, z2⟩ := I.tuple h2
    have l1 := r1.length
    have l2 := r2.length
    refine PySem.SeqAt.eq_tupleAt (e := ee) p1 p2 (by omega) (eq_items I hu' r1 r2 hee) ⟨_, H, I, ?_, hq⟩
    rw [List.size_toArray, List.size_toArray, ← l1, ← l2]; rfl
theorem op_neA (hu : X.A.units + 64 < cLine) : OpR X (compareOp .NotEq) (rEqA X.K true) := by
  intro pins s σ H x y u v Q I rx ry h
  obtain ⟨n, b, hn, h, hq⟩ := h
  have hu' : X.A.in1.units + n < cLine := by
    have : X.A.in1.units = X.A.units + 1 := rfl
    omega
  rcases h with ⟨hs, rfl⟩ | ⟨p, q, xs, ys, rfl, rfl, h1, h2, h3⟩ | ⟨p, q, xs, ys, rfl, rfl, h1, h2, ee, hee, rfl⟩
  · exact op_ne pins s σ H x y u v Q I rx ry ⟨hs, hq⟩
  · cases rx
    cases ry
    obtain ⟨its1, r1, p1, z1⟩ := I.list h1
    obtain ⟨its2, r2, p2, z2⟩ := I.list h2
    have l1 := r1.length
    have l2 := r2.length
    rcases h3 with ⟨hne, rfl⟩ | ⟨he, ee, hee, rfl⟩
    · exact PySem.SeqAt.RcNeAt.lists_lengths p1.isList p2.isList (by simp; omega) (by omega) _ _ _ _ ⟨_, H, I, (show RelV (.bl _) _ from rfl), hq⟩
    · refine PySem.SeqAt.RcNeAt.lists (e := ee) p1.isList p2.isList (by simp; omega) (by omega) (eq_items I hu' r1 r2 hee) _ _ _ _ ⟨_, H, I, ?_, hq⟩
      rw [List.size_toArray, ← l1]; rfl
  · cases rx
    cases ry
    obtain ⟨its1, r1, p1, z1⟩ := I.tuple h1
    obtain ⟨its2, r2, p2, z2⟩ := I.tuple h2
    have l1 := r1.length
    have l2 := r2.length
    refine PySem.SeqAt.RcNeAt.tuples (e := ee) p1 p2 (by omega) (eq_items I hu' r1 r2 hee) _ _ _ _ ⟨_, H, I, ?_, hq⟩
    rw [List.size_toArray, List.size_toArray, ← l1, ← l2]; rfl
theorem call_isinst : CallR X (.builtin "isinstance") (fun xs H Q => ∃ x c t b, xs = [x, .ty c] ∧ TyOf X.K H x t ∧ PySem.W.kitOne X.K t (.type c) = some b ∧ Q (.bl b) H) := by
  intro pins s σ H xs us Q I r h
  obtain ⟨x, c, t, b, rfl, ty, hk, q⟩ := h
  obtain ⟨u, w', rfl, rx, rc⟩ := vals2 r
  cases (show w' = Value.type c from rc)
  exact isinst_ok I rx ty hk fun tk => ⟨.bl b, H, I.tok _, rfl, q⟩
end
end L2
namespace L2
open PySem PySem.Spec PyProof.Rows
structure Cov (outer : List Env) (H' : Hp) (h0 h B : Heap) : Prop where
  sub : B.StaysIn h
  all : ∀ b o, h.get? b = some o → (H' b ≠ none ∨ ∃ o0, h0.get? b = some o0) → b ∉ frs outer → B.get? b = some o
section
variable {P : Program} {w : World} {outer : List Env} {H H' : Hp} {h0 h h' B : Heap}
theorem frs_obj (hl : h.FunFrames B outer) {b : Addr} (hb : b ∈ frs outer) : ∃ o, h.get? b = some o ∧ B.get? b = none ∧ ∀ vs, o.data ≠ .fields vs := by
  obtain ⟨h1, o, ho, hn⟩ := hl.mem hb
  exact ⟨o, ho, h1, hn⟩
theorem ObjOk.obj {a : Addr} {o : HO} (x : ObjOk P w H h a o) : ∃ ob, h.get? a = some ob := by
  cases o with
  | lst xs => obtain ⟨_, _, _, _, e⟩ := x; exact ⟨_, e⟩
  | tup xs => obtain ⟨_, _, _, o, e, _⟩ := x; exact ⟨_, e⟩
  | dK kvs => obtain ⟨_, _, _, _, o, _, _, e, _⟩ := x; exact ⟨_, e⟩
  | dT kvs => obtain ⟨_, _, _, _, o, _, _, e, _⟩ := x; exact ⟨_, e⟩
  | set S n => obtain ⟨o, _, _, _, e, _⟩ := x; exact ⟨_, e⟩
  | ins C dx fs => obtain ⟨_, _, _, e, _⟩ := x; exact ⟨_, e⟩
  | own y => obtain ⟨_, e⟩ := x; exact ⟨_, e⟩
  | xd fs => obtain ⟨_, ⟨_, _, _, e, _⟩, _⟩ := x; exact ⟨_, e⟩
  | rng lo hi => obtain ⟨_, _, _, e⟩ := x; exact ⟨_, e⟩
  | frz ob u => obtain ⟨e, _⟩ := x; exact ⟨_, e⟩
  | tbl ps => exact ⟨_, (show h.get? a = some _ from x)⟩
  | met f y => exact ⟨_, (show h.get? a = some _ from x)⟩
  | ext φ => obtain ⟨_, e, _⟩ := x; exact e
theorem Cov.un (c : Cov outer H' h0 h B) (u : Un (frs outer) [] H H' h0 h) (hl : h.FunFrames B outer) (k : B.StaysIn h') (up : h.UpToSlots h') : Un (frs outer) [] H H' h0 h' where
  keep := fun b o e n hb _ => k b o (c.all b o (u.keep b o e n hb (by simp)) (.inr ⟨o, e⟩) hb)
  slot := fun b o e n hb _ => by
    obtain ⟨sl, q⟩ := u.slot b o e n hb (by simp)
    obtain ⟨o', ho', _, hn⟩ := frs_obj hl hb
    rw [q] at ho'
    cases ho'
    obtain ⟨sl', q'⟩ := up b _ q hn
    exact ⟨sl', q'⟩
  free := u.free
  there := fun b o e _ => by
    obtain ⟨o', q⟩ := u.there b o e (by simp)
    by_cases hb : b ∈ frs outer
    · obtain ⟨o2, ho2, _, hn⟩ := frs_obj hl hb
      obtain ⟨sl, q2⟩ := up b _ ho2 hn
      exact ⟨_, q2⟩
    · exact ⟨o', k b o' (c.all b o' q (.inr ⟨o, e⟩) hb)⟩
  tups := u.tups
  frzs := u.frzs
  tbls := u.tbls
theorem Cov.hok (c : Cov outer H' h0 h B) (ok : HOk P w H' h) (hf : ∀ b ∈ frs outer, H' b = none) (k : B.StaysIn h') : HOk P w H' h' := fun a o e =>
  (ok a o e).stay (fun b u hb q => by
    have hn : H' b ≠ none := by rcases hb with rfl | z; rw [e]; simp; rw [z]; simp
    exact k b u (c.all b u q (.inl hn) fun z => hn (hf b z))) (fun _ q => q) fun _ _ q => q
theorem Cov.go (c : Cov outer H' h0 h B) (hf : ∀ b ∈ frs outer, H' b = none) (ok : HOk P w H' h) (u : Un (frs outer) [] H H' h0 h) (k : B.StaysIn h') : Cov outer H' h0 h' B := ⟨k, fun b o e hb hn => by
    have there : ∃ o', h.get? b = some o' := by
      rcases hb with z | ⟨o0, z⟩
      · cases q : H' b with
        | none => exact absurd q z
        | some v => exact (ok b v q).obj
      · exact u.there b o0 z (by simp)
    obtain ⟨o', q⟩ := there
    have q2 := c.all b o' q hb hn
    have := k b o' q2
    rw [e] at this
    cases this
    exact q2⟩
end
noncomputable def CXe (P : Program) (w : World) : CXT := fun outer H s E e s' => ∃ (p C : Addr) (H' : Hp) (B : Heap) (a0 : Value), e = .ref p ∧ s'.os = s.os ∧ AllBare s'.gens ∧ Un (frs outer) [] H H' s.heap s'.heap ∧ HOk P w H' s'.heap ∧ H' p = none ∧ (∀ b ∈ frs outer, H' b = none) ∧
  Heap.FlyingW B outer p (.ref C) a0 s'.heap ∧ Cov outer H' s.heap s'.heap B ∧ E (.ref C) none H'
section
variable {X : Cx} {pins : List (Addr × Obj)} {σ : St} {H H' : Hp} {s s' : Shared}
structure Top (X : Cx) : Prop where
  stk : X.stack = X.env :: X.outer
  fr : X.env.frame = some X.env.locals
  ex : X.ex = []
theorem Top.mem (T : Top X) : X.env.locals ∈ frs X.stack := by
  rw [T.stk]
  unfold frs
  rw [List.filterMap_cons, T.fr]
  exact List.mem_cons_self
theorem Top.sub (T : Top X) {b : Addr} (hb : b ∈ frs X.outer) : b ∈ frs X.stack := by
  rw [T.stk]
  unfold frs
  rw [List.filterMap_cons, T.fr]
  exact List.mem_cons_of_mem _ hb
theorem Top.cases (T : Top X) {b : Addr} (hb : b ∈ frs X.stack) : b = X.env.locals ∨ b ∈ frs X.outer := by
  rw [T.stk] at hb
  unfold frs at hb
  rw [List.filterMap_cons, T.fr] at hb
  exact List.mem_cons.mp hb
inductive XAt (B : Heap) (X : Cx) (p C : Addr) (h : Heap) : Prop
  | fly (a0 : Value) : Heap.FlyingW B X.stack p (.ref C) a0 h → XAt B X p C h
  | held (a0 : Value) : Heap.HeldW B X.stack p (.ref C) a0 X.env.locals h → XAt B X p C h
  | made (oe : Obj) (vs : Array Value) (a0 : Value) : B.StaysIn h → B.get? p = none → h.FunFrames B X.stack → h.get? p = some oe → oe.cls = .ref C → oe.data = .fields vs → vs[1]? = some .none → vs[0]? = some a0 → 1 < vs.size → XAt B X p C h
structure XS (X : Cx) (W : Addr → St → Hp → Prop) (e : Value) (s' : Shared) : Prop where
  ex : ∃ (p C : Addr) (H' : Hp) (B : Heap) (pins : List (Addr × Obj)) (σ : St), e = .ref p ∧ Inv X pins σ H' s' ∧ H' p = none ∧ Cov X.stack H' X.s₀.heap s'.heap B ∧ XAt B X p C s'.heap ∧ W C σ H'
theorem Inv.old (I : Inv X pins σ H s) (T : Top X) {b : Addr} (h : ∃ o0, X.s₀.heap.get? b = some o0) : ∃ o, s.heap.get? b = some o := by
  obtain ⟨o0, e⟩ := h
  exact I.base.there b o0 e (by rw [T.ex]; simp)
end
end L2
namespace L2
open PySem PySem.Spec PyProof.Rows
noncomputable abbrev bmV : List Value := [.type "ValueError", .type "Exception", .type "BaseException", .type "object"]
noncomputable def ErrCls (K : PySem.W.Frag) (C : Addr) : Prop := PySem.W.excIn K C bmV "ValueError.__new__" = true
theorem ErrCls.parts {K : PySem.W.Frag} {h : Heap} {C : Addr} (X : K.In h) (q : ErrCls K C) : ∃ (tl : List Value) (N : Addr) (nm qn : Str) (bs : List Value) (hd : Bool) (sn : List Str) (sub : List Value) (ab : Bool) (col : Option Bool) (dd : Option Addr) (a0 a1 a2 a3 a5 : Option Value) (mN : Str → Option Value),
    h.get? C = some (excClassObj nm qn C N bs tl hd sn sub ab col dd a0 a1 a2 a3 a5 "ValueError.__new__") ∧ h.Ns N mN ∧ mN "__init__" = none ∧ OwnTail h bmV tl := by
  have q' : PySem.W.excIn K C bmV "ValueError.__new__" = true := q
  unfold PySem.W.excIn at q'
  cases e : K.lookup C with
  | none => rw [e] at q'; cases q'
  | some ob =>
    rw [e] at q'
    obtain ⟨cl, di, da, sl⟩ := ob
    split at q'
    · rename_i dd' cd sl' hob
      cases hob
      obtain ⟨nm, bs, mro, ns, qn, hd, sn, sub, ab, col, del⟩ := cd
      dsimp only at q'
      split at q'
      · rename_i _d C' tl y0 y1 y2 y3 nw y5 es
        simp only [Bool.and_eq_true, beq_iff_eq, Bool.not_eq_true'] at q'
        obtain ⟨⟨⟨⟨⟨z1, z2⟩, z3⟩, z4⟩, z5⟩, z6⟩ := q'
        subst z1 z2 z3
        have esl : sl = #[y0, y1, y2, y3, some (.builtin "ValueError.__new__"), y5] := by
          cases sl with
          | mk l => exact congrArg Array.mk es
        subst esl
        exact ⟨tl, ns, nm, qn, bs, hd, sn, sub, ab, col, _, y0, y1, y2, y3, y5, _, X _ _ e, .of_isNs (PySem.W.isNs_of_in X z5), PySem.W.nsMap_none_of_in X z5 z6, PySem.W.tail_of_in X z4⟩
      · cases q'
    · cases q'
section
variable {X : Cx}
end
end L2
namespace L2
open PySem PySem.Spec PySem.Calls PyProof.Rows PySem.W PySem.Builtin PySem.Builtin.ObjectAttr PySem.Builtin.Getset_descriptor
section
variable {prog : Program} {w : World} {A : Around} {E : Value → Shared → Prop} {s : Shared} {K : Frag} {x C : Addr}
structure ErrGet (K : Frag) (C : Addr) : Prop where
  cl : (clsIn K C).isSome = true
  ga : findIn K (.ref C) "__getattribute__" = some (some (.builtin "BaseException.__getattribute__"))
  gh : findIn K (.ref C) "__getattr__" = some none
  ca : findIn K (.ref C) "__class__" = some (some (.builtin "object.__class__"))
  cg : specialIn K (.builtin "object.__class__") "__get__" = some (some (.builtin "getset_descriptor.__get__"))
  ct : takesIn K (.builtin "object.__class__") = some true
  mo : mroIn K C (.type "object") = some true
  mb : mroIn K C (.type "BaseException") = some true
structure ExcIs (h : Heap) (x C : Addr) : Prop where
  ex : ∃ ox, h.get? x = some ox ∧ ox.cls = .ref C
theorem ExcIs.type {M : Model} {h : Heap} (I : ExcIs h x C) : Looks M h (typeOf (.ref x)) (.ref C) := by
  obtain ⟨ox, h1, h2⟩ := I.ex
  exact h2 ▸ (Looks.ld h1).andThen .now
end
end L2
namespace L3
open PySem PySem.Spec PyProof.Rows L2
inductive D where
  | non | bl (b : Bool) | int (i : Int) | str (x : Str) | lst (ds : List D) | tup (ds : List D) | ro (ds : List D) | exc (c : Str)
  deriving Inhabited
mutual
noncomputable def D.nodes : D → Nat
  | .lst ds => nodesL ds + 1
  | .tup ds => nodesL ds
  | .ro ds => nodesL ds
  | .exc _ => 0
  | .non => 0
  | .bl _ => 0
  | .int _ => 0
  | .str _ => 0
noncomputable def nodesL : List D → Nat
  | [] => 0
  | d :: ds => d.nodes + nodesL ds
end
mutual
noncomputable def deq : D → D → Bool
  | .lst xs, .lst ys => deqs xs ys
  | .tup xs, .tup ys => deqs xs ys
  | .non, .non => true
  | .bl a, .bl b => a == b
  | .bl a, .int b => (if a then 1 else 0) == b
  | .int a, .bl b => a == (if b then 1 else 0)
  | .int a, .int b => a == b
  | .str a, .str b => a == b
  | _, _ => false
noncomputable def deqs : List D → List D → Bool
  | [], [] => true
  | x :: xs, y :: ys => deq x y && deqs xs ys
  | _, _ => false
end
noncomputable def RoL (K : PySem.W.Frag) (H : Hp) (a : Addr) (xs : List V) : Prop := (∃ o, H a = some (.frz o (.lst xs))) ∨
  ∃ (o : Obj) (its : Array Value) (n : Nat), K.lookup a = some o ∧ o.cls = .type "list" ∧ o.dict = none ∧ o.data = .seq its n ∧ its.size ≤ sizeLine ∧ Vals xs its.toList
theorem RoL.sq {K : PySem.W.Frag} {H : Hp} {a : Addr} {xs : List V} (h : RoL K H a xs) : SqL K H a xs := h.elim (fun z => .inl (.inr z)) .inr
noncomputable def ExcD (K : PySem.W.Frag) (H : Hp) (a : Addr) (c : Str) : Prop := ∃ C φ, PySem.W.nsIn K mainGlobals c = some (some (.ref C)) ∧ ErrGet K C ∧ H a = some (.ext φ) ∧ ∀ h, φ h → ExcIs h a C
mutual
noncomputable def Rep (K : PySem.W.Frag) (H : Hp) : D → V → List Addr → Prop
  | .non, v, f => v = .non ∧ f = []
  | .bl b, v, f => v = .bl b ∧ f = []
  | .int i, v, f => v = .int i ∧ f = []
  | .str x, v, f => v = .str x ∧ x.length ≤ sizeLine ∧ f = []
  | .lst ds, v, f => ∃ a xs g, v = .ref a ∧ H a = some (.lst xs) ∧ f = a :: g ∧ Reps K H ds xs g
  | .tup ds, v, f => ∃ a xs, v = .ref a ∧ SqT K H a xs ∧ Reps K H ds xs f
  | .ro ds, v, f => ∃ a xs, v = .ref a ∧ RoL K H a xs ∧ Reps K H ds xs f
  | .exc c, v, f => ∃ a, v = .ref a ∧ ExcD K H a c ∧ f = []
noncomputable def Reps (K : PySem.W.Frag) (H : Hp) : List D → List V → List Addr → Prop
  | [], xs, f => xs = [] ∧ f = []
  | d :: ds, xs, f => ∃ x r g g', xs = x :: r ∧ f = g ++ g' ∧ Rep K H d x g ∧ Reps K H ds r g'
end
theorem Same.seqT {K : PySem.W.Frag} {H H' : Hp} {a : Addr} {xs : List V} (e : Same H H') (h : SqT K H a xs) : SqT K H' a xs := by
  rcases h with (h | ⟨o, h⟩) | h
  · exact .inl (.inl (e _ _ h))
  · exact .inl (.inr ⟨o, e _ _ h⟩)
  · exact .inr h
theorem RoL.mono {K : PySem.W.Frag} {H H' : Hp} {a : Addr} {xs : List V} (e : Same H H') (h : RoL K H a xs) : RoL K H' a xs := by
  rcases h with ⟨o, h⟩ | h
  · exact .inl ⟨o, e _ _ h⟩
  · exact .inr h
section
variable {K : PySem.W.Frag}
mutual
theorem Rep.mono {H H' : Hp} (e : Same H H') : ∀ {d : D} {v : V} {f : List Addr}, Rep K H d v f → Rep K H' d v f
  | .non, _, _, h => by simpa only [Rep] using h
  | .bl _, _, _, h => by simpa only [Rep] using h
  | .int _, _, _, h => by simpa only [Rep] using h
  | .str _, _, _, h => by simpa only [Rep] using h
  | .lst ds, v, f, h => by
    simp only [Rep] at h ⊢
    obtain ⟨a, xs, g, h1, h2, h3, h4⟩ := h
    exact ⟨a, xs, g, h1, e _ _ h2, h3, Reps.mono e h4⟩
  | .tup ds, v, f, h => by
    simp only [Rep] at h ⊢
    obtain ⟨a, xs, h1, h2, h3⟩ := h
    exact ⟨a, xs, h1, Same.seqT e h2, Reps.mono e h3⟩
  | .ro ds, v, f, h => by
    simp only [Rep] at h ⊢
    obtain ⟨a, xs, h1, h2, h3⟩ := h
    exact ⟨a, xs, h1, h2.mono e, Reps.mono e h3⟩
  | .exc c, v, f, h => by
    simp only [Rep] at h ⊢
    obtain ⟨a, h1, ⟨C, φ, z1, z2, z3, z4⟩, h2⟩ := h
    exact ⟨a, h1, ⟨C, φ, z1, z2, e _ _ z3, z4⟩, h2⟩
theorem Reps.mono {H H' : Hp} (e : Same H H') : ∀ {ds : List D} {xs : List V} {f : List Addr}, Reps K H ds xs f → Reps K H' ds xs f
  | [], _, _, h => by simpa only [Reps] using h
  | d :: ds, xs, f, h => by
    simp only [Reps] at h ⊢
    obtain ⟨x, r, g, g', h1, h2, h3, h4⟩ := h
    exact ⟨x, r, g, g', h1, h2, Rep.mono e h3, Reps.mono e h4⟩
end
mutual
theorem Rep.dom {H : Hp} : ∀ {d : D} {v : V} {f : List Addr}, Rep K H d v f → ∀ b ∈ f, ∃ xs, H b = some (.lst xs)
  | .non, _, _, h => by simp only [Rep] at h; simp [h.2]
  | .bl _, _, _, h => by simp only [Rep] at h; simp [h.2]
  | .int _, _, _, h => by simp only [Rep] at h; simp [h.2]
  | .str _, _, _, h => by simp only [Rep] at h; simp [h.2.2]
  | .lst ds, v, f, h => by
    simp only [Rep] at h
    obtain ⟨a, xs, g, h1, h2, rfl, h3⟩ := h
    have ih := Reps.dom h3
    intro b hb
    rcases List.mem_cons.mp hb with rfl | hb
    · exact ⟨xs, h2⟩
    · exact ih b hb
  | .tup ds, v, f, h => by
    simp only [Rep] at h
    obtain ⟨a, xs, h1, h2, h3⟩ := h
    exact Reps.dom h3
  | .ro ds, v, f, h => by
    simp only [Rep] at h
    obtain ⟨a, xs, h1, h2, h3⟩ := h
    exact Reps.dom h3
  | .exc _, _, _, h => by simp only [Rep] at h; obtain ⟨_, _, _, rfl⟩ := h; simp
theorem Reps.dom {H : Hp} : ∀ {ds : List D} {xs : List V} {f : List Addr}, Reps K H ds xs f → ∀ b ∈ f, ∃ xs, H b = some (.lst xs)
  | [], _, _, h => by simp only [Reps] at h; simp [h.2]
  | d :: ds, xs, f, h => by
    simp only [Reps] at h
    obtain ⟨x, r, g, g', h1, rfl, h3, h4⟩ := h
    intro b hb
    rcases List.mem_append.mp hb with hb | hb
    · exact Rep.dom h3 b hb
    · exact Reps.dom h4 b hb
end
mutual
theorem Rep.upd {H : Hp} {b : Addr} {o : HO} (hb : ∃ zs, H b = some (.lst zs)) : ∀ {d : D} {v : V} {f : List Addr}, Rep K H d v f → b ∉ f → Rep K (L2.upd H b o) d v f
  | .non, _, _, h, _ => by simpa only [Rep] using h
  | .bl _, _, _, h, _ => by simpa only [Rep] using h
  | .int _, _, _, h, _ => by simpa only [Rep] using h
  | .str _, _, _, h, _ => by simpa only [Rep] using h
  | .lst ds, v, f, h, hn => by
    simp only [Rep] at h ⊢
    obtain ⟨a, xs, g, h1, h2, rfl, h3⟩ := h
    simp only [List.mem_cons, not_or] at hn
    refine ⟨a, xs, g, h1, ?_, rfl, Reps.upd hb h3 hn.2⟩
    rw [upd_ne (Ne.symm hn.1)]; exact h2
  | .ro ds, v, f, h, hn => by
    simp only [Rep] at h ⊢
    obtain ⟨a, xs, h1, h3, h2⟩ := h
    refine ⟨a, xs, h1, ?_, Reps.upd hb h2 hn⟩
    rcases h3 with ⟨u, h3⟩ | h3
    · refine .inl ⟨u, ?_⟩
      rw [upd_ne]
      · exact h3
      · rintro rfl
        obtain ⟨zs, e⟩ := hb
        rw [h3] at e; cases e
    · exact .inr h3
  | .tup ds, v, f, h, hn => by
    simp only [Rep] at h ⊢
    obtain ⟨a, xs, h1, h2, h3⟩ := h
    refine ⟨a, xs, h1, ?_, Reps.upd hb h3 hn⟩
    obtain ⟨zs, e⟩ := hb
    rcases h2 with (h2 | ⟨u, h2⟩) | h2
    · refine .inl (.inl ?_)
      rw [upd_ne]
      · exact h2
      · rintro rfl; rw [h2] at e; cases e
    · refine .inl (.inr ⟨u, ?_⟩)
      rw [upd_ne]
      · exact h2
      · rintro rfl; rw [h2] at e; cases e
    · exact .inr h2
  | .exc c, v, f, h, _ => by
    simp only [Rep] at h ⊢
    obtain ⟨a, h1, ⟨C, φ, z1, z2, z3, z4⟩, h2⟩ := h
    refine ⟨a, h1, ⟨C, φ, z1, z2, ?_, z4⟩, h2⟩
    rw [upd_ne]
    · exact z3
    · rintro rfl
      obtain ⟨zs, e⟩ := hb
      rw [z3] at e; cases e
theorem Reps.upd {H : Hp} {b : Addr} {o : HO} (hb : ∃ zs, H b = some (.lst zs)) : ∀ {ds : List D} {xs : List V} {f : List Addr}, Reps K H ds xs f → b ∉ f → Reps K (L2.upd H b o) ds xs f
  | [], _, _, h, _ => by simpa only [Reps] using h
  | d :: ds, xs, f, h, hn => by
    simp only [Reps] at h ⊢
    obtain ⟨x, r, g, g', h1, rfl, h3, h4⟩ := h
    rw [List.mem_append, not_or] at hn
    exact ⟨x, r, g, g', h1, rfl, Rep.upd hb h3 hn.1, Reps.upd hb h4 hn.2⟩
end
mutual
theorem Rep.len {H : Hp} : ∀ {d : D} {v : V} {f : List Addr}, Rep K H d v f → f.length = d.nodes
  | .non, _, _, h => by simp only [Rep] at h; simp [h.2, D.nodes]
  | .bl _, _, _, h => by simp only [Rep] at h; simp [h.2, D.nodes]
  | .int _, _, _, h => by simp only [Rep] at h; simp [h.2, D.nodes]
  | .str _, _, _, h => by simp only [Rep] at h; simp [h.2.2, D.nodes]
  | .lst ds, v, f, h => by
    simp only [Rep] at h
    obtain ⟨a, xs, g, h1, h2, rfl, h3⟩ := h
    have ih := Reps.len h3
    simp only [D.nodes]
    simpa using ih
  | .tup ds, v, f, h => by
    simp only [Rep] at h
    obtain ⟨a, xs, h1, h2, h3⟩ := h
    simp only [D.nodes]
    exact Reps.len h3
  | .ro ds, v, f, h => by
    simp only [Rep] at h
    obtain ⟨a, xs, h1, h2, h3⟩ := h
    simp only [D.nodes]
    exact Reps.len h3
  | .exc _, _, _, h => by simp only [Rep] at h; obtain ⟨_, _, _, rfl⟩ := h; rfl
theorem Reps.len {H : Hp} : ∀ {ds : List D} {xs : List V} {f : List Addr}, Reps K H ds xs f → f.length = nodesL ds
  | [], _, _, h => by simp only [Reps] at h; simp [h.2, nodesL]
  | d :: ds, xs, f, h => by
    simp only [Reps] at h
    obtain ⟨x, r, g, g', h1, rfl, h3, h4⟩ := h
    have a := Rep.len h3
    have b := Reps.len h4
    rw [List.length_append]
    simp only [nodesL]
    omega
end
theorem Rep.flat {H : Hp} {d : D} {v : V} {f : List Addr} (h : Rep K H d v f) (hd : d.nodes = 0) : f = [] := by
  have := h.len
  rw [hd] at this
  exact List.eq_nil_of_length_eq_zero (by omega)
theorem Reps.length {H : Hp} : ∀ {ds : List D} {xs : List V} {f : List Addr}, Reps K H ds xs f → xs.length = ds.length
  | [], _, _, h => by simp only [Reps] at h; simp [h.1]
  | d :: ds, xs, f, h => by
    simp only [Reps] at h
    obtain ⟨x, r, g, g', rfl, h2, h3, h4⟩ := h
    simp [Reps.length h4]
theorem Reps.app {H : Hp} : ∀ {ds es : List D} {xs ys : List V} {f g : List Addr}, Reps K H ds xs f → Reps K H es ys g → Reps K H (ds ++ es) (xs ++ ys) (f ++ g)
  | [], _, _, _, _, _, h, h' => by
    simp only [Reps] at h
    obtain ⟨rfl, rfl⟩ := h
    exact h'
  | d :: ds, es, xs, ys, f, g, h, h' => by
    simp only [Reps] at h
    obtain ⟨x, r, g1, g2, rfl, rfl, h3, h4⟩ := h
    show Reps K H (d :: (ds ++ es)) _ _
    simp only [Reps]
    exact ⟨x, r ++ ys, g1, g2 ++ g, rfl, by rw [List.append_assoc], h3, Reps.app h4 h'⟩
theorem Reps.split {H : Hp} : ∀ {ds es : List D} {zs : List V} {f : List Addr}, Reps K H (ds ++ es) zs f → ∃ xs ys g g', zs = xs ++ ys ∧ f = g ++ g' ∧ Reps K H ds xs g ∧ Reps K H es ys g'
  | [], es, zs, f, h => ⟨[], zs, [], f, rfl, rfl, by simp only [Reps]; exact ⟨trivial, trivial⟩, h⟩
  | d :: ds, es, zs, f, h => by
    have h : Reps K H (d :: (ds ++ es)) zs f := h
    simp only [Reps] at h
    obtain ⟨x, r, g1, g2, rfl, rfl, h3, h4⟩ := h
    obtain ⟨xs, ys, g, g', rfl, rfl, h5, h6⟩ := Reps.split h4
    refine ⟨x :: xs, ys, g1 ++ g, g', rfl, by rw [List.append_assoc], ?_, h6⟩
    simp only [Reps]
    exact ⟨x, xs, g1, g, rfl, rfl, h3, h5⟩
theorem Reps.nil {H : Hp} : Reps K H [] [] [] := by simp only [Reps]; exact ⟨trivial, trivial⟩
theorem Reps.one {H : Hp} {d : D} {v : V} {f : List Addr} (h : Rep K H d v f) : Reps K H [d] [v] f := by
  simp only [Reps]
  exact ⟨v, [], f, [], rfl, by simp, h, rfl, rfl⟩
theorem Reps.cons {H : Hp} {d : D} {ds : List D} {v : V} {xs : List V} {f g : List Addr} (h : Rep K H d v f) (h' : Reps K H ds xs g) : Reps K H (d :: ds) (v :: xs) (f ++ g) := by
  simp only [Reps]
  exact ⟨v, xs, f, g, rfl, rfl, h, h'⟩
theorem Reps.at {H : Hp} {ds : List D} {xs : List V} {f : List Addr} (h : Reps K H ds xs f) {i : Nat} {d : D} (hd : ds[i]? = some d) :
    ∃ x g1 g g2, xs[i]? = some x ∧ f = g1 ++ g ++ g2 ∧ Rep K H d x g ∧ Reps K H (ds.take i) (xs.take i) g1 ∧ Reps K H (ds.drop (i + 1)) (xs.drop (i + 1)) g2 := by
  obtain ⟨hi, e⟩ := List.getElem?_eq_some_iff.mp hd
  have hs : ds = ds.take i ++ d :: ds.drop (i + 1) := by
    rw [← e, List.getElem_cons_drop, List.take_append_drop]
  rw [hs] at h
  obtain ⟨xs1, ys, g1, g', rfl, rfl, h1, h2⟩ := h.split
  simp only [Reps] at h2
  obtain ⟨x, r, g, g2, rfl, rfl, h3, h4⟩ := h2
  have hl : xs1.length = i := by rw [h1.length, List.length_take]; omega
  refine ⟨x, g1, g, g2, ?_, by rw [List.append_assoc], h3, ?_, ?_⟩
  · rw [← hl]; simp
  · have : (xs1 ++ x :: r).take i = xs1 := by rw [← hl]; simp
    rw [this]; exact h1
  · have : (xs1 ++ x :: r).drop (i + 1) = r := by rw [← hl]; simp
    rw [this]; exact h4
theorem nodesL_app (xs ys : List D) : nodesL (xs ++ ys) = nodesL xs + nodesL ys := by
  induction xs with
  | nil => simp [nodesL]
  | cons x xs ih => simp only [List.cons_append, nodesL, ih]; omega
theorem Rep.lst_ {H : Hp} {ds : List D} {v : V} {f : List Addr} (h : Rep K H (.lst ds) v f) : ∃ a xs g, v = .ref a ∧ H a = some (.lst xs) ∧ f = a :: g ∧ Reps K H ds xs g := by
  simp only [Rep] at h
  exact h
theorem Rep.tup_ {H : Hp} {ds : List D} {v : V} {f : List Addr} (h : Rep K H (.tup ds) v f) : ∃ a xs, v = .ref a ∧ SqT K H a xs ∧ Reps K H ds xs f := by
  simp only [Rep] at h
  exact h
theorem Rep.ro_ {H : Hp} {ds : List D} {v : V} {f : List Addr} (h : Rep K H (.ro ds) v f) : ∃ a xs, v = .ref a ∧ RoL K H a xs ∧ Reps K H ds xs f := by
  simp only [Rep] at h
  exact h
theorem Rep.mk {H : Hp} {ds : List D} {a : Addr} {xs : List V} {g : List Addr} (h : H a = some (.lst xs)) (r : Reps K H ds xs g) : Rep K H (.lst ds) (.ref a) (a :: g) := by
  simp only [Rep]
  exact ⟨a, xs, g, rfl, h, rfl, r⟩
theorem Rep.mkT {H : Hp} {ds : List D} {a : Addr} {xs : List V} {g : List Addr} (h : H a = some (.tup xs)) (r : Reps K H ds xs g) : Rep K H (.tup ds) (.ref a) g := by
  simp only [Rep]
  exact ⟨a, xs, rfl, SqT.of h, r⟩
end
theorem Same.upd_new {H : Hp} {p : Addr} {o : HO} (h : H p = none) : Same H (upd H p o) := fun b u e => by
  rw [upd_ne]
  · exact e
  · rintro rfl; rw [h] at e; cases e
end L3
namespace L3
open PySem PySem.Spec PyProof.Rows L2
noncomputable abbrev St := L2.St
structure Val where
  d : D
  l : Nat
  S : List Nat
noncomputable abbrev PEnv := List (Option (D × Nat))
noncomputable abbrev FE := PEnv → Option (Val × PEnv)
noncomputable def Live (env : PEnv) (j : Nat) : Prop := ∃ p, env[j]? = some (some p)
noncomputable def Sub (env' env : PEnv) : Prop := env'.length = env.length ∧ (∀ (j : Nat) p, env'[j]? = some (some p) → env[j]? = some (some p)) ∧ ∀ (j : Nat) d l, env[j]? = some (some (d, l)) → env'[j]? = some (some (d, l)) ∨ l = 2
theorem Sub.refl (env : PEnv) : Sub env env := ⟨rfl, fun _ _ h => h, fun _ _ _ h => .inl h⟩
theorem Sub.trans {a b c : PEnv} (h : Sub a b) (h' : Sub b c) : Sub a c := ⟨h.1.trans h'.1, fun j p e => h'.2.1 j p (h.2.1 j p e), fun j d l e => (h'.2.2 j d l e).elim (fun z => h.2.2 j d l z) .inr⟩
theorem Sub.live {a b : PEnv} (h : Sub a b) {j : Nat} (l : Live a j) : Live b j := let ⟨p, e⟩ := l; ⟨p, h.2.1 j p e⟩
structure OwnOk (H0 H : Hp) (oth : Addr → Prop) (d : D) (l : Nat) (v : V) (fp : List Addr) : Prop where
  top : 1 ≤ l → (∃ ds, d = .lst ds) → ∃ a g xs, fp = a :: g ∧ v = .ref a ∧ a ∉ g ∧ H0 a = none ∧ H a = some (.lst xs) ∧ ¬ oth a
  deep : 2 ≤ l → fp.Nodup ∧ ∀ b ∈ fp, H0 b = none ∧ ¬ oth b
theorem OwnOk.mono {H0 H H' : Hp} {oth oth' : Addr → Prop} {d : D} {l : Nat} {v : V} {fp : List Addr} (h : OwnOk H0 H oth d l v fp) (s : Same H H') (ho : ∀ b, oth' b → oth b) : OwnOk H0 H' oth' d l v fp where
  top := fun h1 h2 => by
    obtain ⟨a, g, xs, e1, e2, e3, e4, e5, e6⟩ := h.top h1 h2
    exact ⟨a, g, xs, e1, e2, e3, e4, s _ _ e5, fun z => e6 (ho a z)⟩
  deep := fun h1 => by
    obtain ⟨e1, e3⟩ := h.deep h1
    exact ⟨e1, fun b hb => ⟨(e3 b hb).1, fun z => (e3 b hb).2 (ho b z)⟩⟩
theorem OwnOk.flat {H0 H : Hp} {oth : Addr → Prop} {d : D} {l : Nat} {v : V} (h : d.nodes = 0) : OwnOk H0 H oth d l v [] where
  top := fun _ ⟨ds, e⟩ => by subst e; simp only [D.nodes] at h; omega
  deep := fun _ => ⟨List.nodup_nil, fun b hb => by cases hb⟩
theorem OwnOk.zero {H0 H : Hp} {oth : Addr → Prop} {d : D} {v : V} {fp : List Addr} : OwnOk H0 H oth d 0 v fp := ⟨fun h => absurd h (by omega), fun h => absurd h (by omega)⟩
structure Holds (K : PySem.W.Frag) (P : Addr → Prop) (H0 H : Hp) (σ : St) (env : PEnv) (fps : Nat → List Addr) : Prop where
  same : Same H0 H
  len : env.length = σ.length
  slot : ∀ (j : Nat) d l, env[j]? = some (some (d, l)) → ∃ v, σ[j]? = some (some v) ∧ Rep K H d v (fps j) ∧ OwnOk H0 H (fun b => ∃ k, k ≠ j ∧ Live env k ∧ b ∈ fps k) d l v (fps j)
  src : ∀ j, Live env j → ∀ b ∈ fps j, H0 b = none ∨ P b
theorem Holds.mono {K : PySem.W.Frag} {P : Addr → Prop} {H0 H H' : Hp} {σ : St} {env : PEnv} {fps : Nat → List Addr} (h : Holds K P H0 H σ env fps) (s : Same H H') : Holds K P H0 H' σ env fps where
  same := h.same.trans s
  len := h.len
  slot := fun j d l e => by
    obtain ⟨v, e1, e2, e3⟩ := h.slot j d l e
    exact ⟨v, e1, e2.mono s, e3.mono s fun _ z => z⟩
  src := h.src
theorem Holds.sub {K : PySem.W.Frag} {P : Addr → Prop} {H0 H : Hp} {σ : St} {env env' : PEnv} {fps : Nat → List Addr} (h : Holds K P H0 H σ env fps) (s : Sub env' env) : Holds K P H0 H σ env' fps where
  same := h.same
  len := s.1.trans h.len
  slot := fun j d l e => by
    obtain ⟨v, e1, e2, e3⟩ := h.slot j d l (s.2.1 j _ e)
    exact ⟨v, e1, e2, e3.mono (Same.refl _) fun b ⟨k, n, lk, hb⟩ => ⟨k, n, s.live lk, hb⟩⟩
  src := fun j hj => h.src j (s.live hj)
theorem Holds.dom {K : PySem.W.Frag} {P : Addr → Prop} {H0 H : Hp} {σ : St} {env : PEnv} {fps : Nat → List Addr} (h : Holds K P H0 H σ env fps) {j : Nat} (l : Live env j) {b : Addr} (hb : b ∈ fps j) : H b ≠ none := by
  obtain ⟨⟨d, l⟩, e⟩ := l
  obtain ⟨v, _, r, _⟩ := h.slot j d l e
  obtain ⟨xs, q⟩ := r.dom b hb
  rw [q]; simp
structure Got (K : PySem.W.Frag) (P : Addr → Prop) (H0 H H' : Hp) (σ : St) (env env' : PEnv) (fps : Nat → List Addr) (x : Val) (v : V) (fp : List Addr) : Prop where
  same : Same H H'
  holds : Holds K P H0 H' σ env' fps
  sub : Sub env' env
  rep : Rep K H' x.d v fp
  from_ : ∀ b ∈ fp, H b = none ∨ ∃ j, Live env j ∧ b ∈ fps j ∧ (j ∈ x.S ∨ ¬ Live env' j)
  own : OwnOk H0 H' (fun b => ∃ k, Live env' k ∧ b ∈ fps k) x.d x.l v fp
noncomputable def tQ (K : PySem.W.Frag) (f : FE) : TE := fun σ H Q => ∃ P H0 env fps x env', Holds K P H0 H σ env fps ∧ f env = some (x, env') ∧ ∀ v H' fp, Got K P H0 H H' σ env env' fps x v fp → Q v H'
noncomputable def QE (X : Cx) (e : Expr) (f : FE) : Prop := PE X e (tQ X.K f)
theorem PE.imp {X : Cx} {e : Expr} {t t' : TE} (h : PE X e t) (hi : ∀ σ H Q, t' σ H Q → t σ H Q) : PE X e t' := fun pins s σ H Q I q => h pins s σ H Q I (hi σ H Q q)
theorem PT.imp {X : Cx} {e : Expr} {t t' : TT} (h : PT X e t) (hi : ∀ σ H Q, t' σ H Q → t σ H Q) : PT X e t' := fun pins s σ H Q I q => h pins s σ H Q I (hi σ H Q q)
section
variable {K : PySem.W.Frag} {P : Addr → Prop} {H0 H H1 H2 H3 : Hp} {σ : St} {env env1 env2 : PEnv} {fps : Nat → List Addr} {x y : Val} {v u : V} {fp fp1 fp2 : List Addr}
theorem Got.stay (g1 : Got K P H0 H H1 σ env env1 fps x v fp1) (g2 : Got K P H0 H1 H2 σ env1 env2 fps y u fp2) : Rep K H2 x.d v fp1 ∧ OwnOk H0 H2 (fun b => ∃ k, Live env2 k ∧ b ∈ fps k) x.d x.l v fp1 ∧ (2 ≤ x.l → ∀ b ∈ fp1, b ∉ fp2) := by
  refine ⟨g1.rep.mono g2.same, g1.own.mono g2.same fun b ⟨k, lk, hb⟩ => ⟨k, g2.sub.live lk, hb⟩, fun hl b hb hb2 => ?_⟩
  rcases g2.from_ b hb2 with z | ⟨j, lj, hj, _⟩
  · obtain ⟨xs, q⟩ := g1.rep.dom b hb
    rw [z] at q; cases q
  · exact ((g1.own.deep hl).2 b hb).2 ⟨j, lj, hj⟩
theorem Same.none {H H' : Hp} (s : Same H H') {b : Addr} (h : H' b = Option.none) : H b = Option.none := s.free h
theorem Got.from1 (g1 : Got K P H0 H H1 σ env env1 fps x v fp1) (s2 : Sub env2 env1) {S : List Nat} (hS : ∀ j ∈ x.S, j ∈ S) : ∀ b ∈ fp1, H b = none ∨ ∃ j, Live env j ∧ b ∈ fps j ∧ (j ∈ S ∨ ¬ Live env2 j) := fun b hb => by
  rcases g1.from_ b hb with z | ⟨j, lj, hj, z⟩
  · exact .inl z
  · refine .inr ⟨j, lj, hj, ?_⟩
    rcases z with z | z
    · exact .inl (hS j z)
    · exact .inr fun l => z (s2.live l)
theorem Got.from2 (s1 : Same H H1) (b1 : Sub env1 env) (g2 : Got K P H0 H1 H2 σ env1 env2 fps y u fp2) {S : List Nat} (hS : ∀ j ∈ y.S, j ∈ S) : ∀ b ∈ fp2, H b = none ∨ ∃ j, Live env j ∧ b ∈ fps j ∧ (j ∈ S ∨ ¬ Live env2 j) := fun b hb => by
  rcases g2.from_ b hb with z | ⟨j, lj, hj, z⟩
  · exact .inl (s1.free z)
  · refine .inr ⟨j, b1.live lj, hj, ?_⟩
    rcases z with z | z
    · exact .inl (hS j z)
    · exact .inr z
theorem Got.scal {d : D} (hd : d.nodes = 0) (s : Same H H1) (h : Holds K P H0 H1 σ env1 fps) (b : Sub env1 env) (r : Rep K H1 d v []) : Got K P H0 H H1 σ env env1 fps ⟨d, 2, []⟩ v [] where
  same := s
  holds := h
  sub := b
  rep := r
  from_ := fun b hb => by cases hb
  own := .flat hd
theorem tQ.two {fa fb : FE} {R : V → V → Hp → Prop} (h : Holds K P H0 H σ env fps) (ha : fa env = some (x, env1)) (hb : fb env1 = some (y, env2))
    (k : ∀ v u H1 H2 fp1 fp2, Got K P H0 H H1 σ env env1 fps x v fp1 → Got K P H0 H1 H2 σ env1 env2 fps y u fp2 → R v u H2) : tQ K fa σ H fun v H1 => tQ K fb σ H1 fun u H2 => R v u H2 :=
  ⟨P, H0, env, fps, x, env1, h, ha, fun v H1 fp1 g1 => ⟨P, H0, env1, fps, y, env2, g1.holds, hb, fun u H2 fp2 g2 => k v u H1 H2 fp1 fp2 g1 g2⟩⟩
end
noncomputable def fVar (i : Nat) : FE := fun env => match env[i]? with
  | some (some (d, _)) => some (if d.nodes = 0 then ⟨d, 2, []⟩ else ⟨d, 0, [i]⟩, env)
  | _ => none
noncomputable def fMv (i : Nat) : FE := fun env => match env[i]? with
  | some (some (d, l)) => some (if l = 2 then (⟨d, 2, []⟩, env.set i none) else (if d.nodes = 0 then ⟨d, 2, []⟩ else ⟨d, 0, [i]⟩, env))
  | _ => none
noncomputable def fC (d : D) : FE := fun env => some (⟨d, 2, []⟩, env)
theorem sub_set {env : PEnv} {i : Nat} {d : D} (h : env[i]? = some (some (d, 2))) : Sub (env.set i none) env := by
  refine ⟨by simp, fun j p e => ?_, fun j d' l e => ?_⟩
  · rw [List.getElem?_set] at e
    split at e
    · split at e <;> simp at e
    · exact e
  · by_cases hj : i = j
    · subst hj
      rw [h] at e
      cases e
      exact .inr rfl
    · rw [List.getElem?_set_ne hj]
      exact .inl e
theorem live_set {env : PEnv} {i k : Nat} (h : Live (env.set i none) k) : k ≠ i ∧ Live env k := by
  obtain ⟨p, e⟩ := h
  rw [List.getElem?_set] at e
  split at e
  · split at e <;> simp at e
  · rename_i hne
    exact ⟨fun z => hne z.symm, p, e⟩
section
variable {X : Cx}
theorem qv (i : Nat) {x : Str} {pos : Pos} (hN : X.N[i]? = some x := by rfl) (hv : Vis X.env.scope x := by exact L2.vis_of rfl rfl) (hd : (x == ("__debug__" : Str)) = false := by decide)
    (hcd : (x == ("__classdict__" : Str)) = false := by decide) : QE X (.Name x pos) (fVar i) := by
  refine PE.imp (pe_var hN hv hd hcd) ?_
  rintro σ H Q ⟨P, H0, env, fps, y, env', h, hf, k⟩
  unfold fVar at hf
  split at hf
  · rename_i d l e
    simp only [Option.some.injEq, Prod.mk.injEq] at hf
    obtain ⟨rfl, rfl⟩ := hf
    obtain ⟨v, e1, r, o⟩ := h.slot i d l e
    refine ⟨v, e1, k v H (fps i) ?_⟩
    by_cases hn : d.nodes = 0
    · rw [if_pos hn]
      have e0 := r.flat hn
      rw [e0] at r ⊢
      exact .scal hn (Same.refl _) h (Sub.refl _) r
    · rw [if_neg hn]
      exact ⟨Same.refl _, h, Sub.refl _, r, fun b hb => .inr ⟨i, ⟨_, e⟩, hb, .inl (by simp)⟩, .zero⟩
  · cases hf
theorem qmv (i : Nat) {x : Str} {pos : Pos} (hN : X.N[i]? = some x := by rfl) (hv : Vis X.env.scope x := by exact L2.vis_of rfl rfl) (hd : (x == ("__debug__" : Str)) = false := by decide)
    (hcd : (x == ("__classdict__" : Str)) = false := by decide) : QE X (.Name x pos) (fMv i) := by
  refine PE.imp (pe_var hN hv hd hcd) ?_
  rintro σ H Q ⟨P, H0, env, fps, y, env', h, hf, k⟩
  unfold fMv at hf
  split at hf
  · rename_i d l e
    obtain ⟨v, e1, r, o⟩ := h.slot i d l e
    by_cases hl : l = 2
    · subst hl
      rw [if_pos rfl] at hf
      simp only [Option.some.injEq, Prod.mk.injEq] at hf
      obtain ⟨rfl, rfl⟩ := hf
      refine ⟨v, e1, k v H (fps i) ⟨Same.refl _, h.sub (sub_set e), sub_set e, r, fun b hb => .inr ⟨i, ⟨_, e⟩, hb, .inr fun z => (live_set z).1 rfl⟩, o.mono (Same.refl _) fun b ⟨j, lj, hj⟩ => ?_⟩⟩
      obtain ⟨n, lj⟩ := live_set lj
      exact ⟨j, n, lj, hj⟩
    · rw [if_neg hl] at hf
      simp only [Option.some.injEq, Prod.mk.injEq] at hf
      obtain ⟨rfl, rfl⟩ := hf
      refine ⟨v, e1, k v H (fps i) ?_⟩
      by_cases hn : d.nodes = 0
      · rw [if_pos hn]
        have e0 := r.flat hn
        rw [e0] at r ⊢
        exact .scal hn (Same.refl _) h (Sub.refl _) r
      · rw [if_neg hn]
        exact ⟨Same.refl _, h, Sub.refl _, r, fun b hb => .inr ⟨i, ⟨_, e⟩, hb, .inl (by simp)⟩, .zero⟩
  · cases hf
theorem qe_const {e : Expr} {v : V} {d : D} (he : PE X e (tC v)) (hd : d.nodes = 0) (r : ∀ H, Rep X.K H d v []) : QE X e (fC d) := by
  refine PE.imp he ?_
  rintro σ H Q ⟨P, H0, env, fps, y, env', h, hf, k⟩
  cases hf
  exact k v H [] (.scal hd (Same.refl _) h (Sub.refl _) (r H))
theorem qi {i j pos} : QE X (.Constant (.int i) j pos) (fC (.int i)) := qe_const pe_int rfl fun _ => by simp only [Rep]; exact ⟨trivial, trivial⟩
theorem qb {b j pos} : QE X (.Constant (.bool b) j pos) (fC (.bl b)) := qe_const pe_bl rfl fun _ => by simp only [Rep]; exact ⟨trivial, trivial⟩
noncomputable def fB (g : D → D → Option D) (fa fb : FE) : FE := fun env => (fa env).bind fun (x, e1) => (fb e1).bind fun (y, e2) => (g x.d y.d).bind fun z => some (⟨z, 2, []⟩, e2)
noncomputable def fU (g : D → Option D) (fa : FE) : FE := fun env => (fa env).bind fun (x, e1) => (g x.d).bind fun z => some (⟨z, 2, []⟩, e1)
theorem fB_some {g : D → D → Option D} {fa fb : FE} {env : PEnv} {r : Val × PEnv} (h : fB g fa fb env = some r) : ∃ x e1 y e2 z, fa env = some (x, e1) ∧ fb e1 = some (y, e2) ∧ g x.d y.d = some z ∧ r = (⟨z, 2, []⟩, e2) := by
  unfold fB at h
  simp only [Option.bind_eq_some_iff, Prod.exists] at h
  obtain ⟨x, e1, h1, y, e2, h2, z, h3, h4⟩ := h
  exact ⟨x, e1, y, e2, z, h1, h2, h3, (Option.some.inj h4).symm⟩
theorem fU_some {g : D → Option D} {fa : FE} {env : PEnv} {r : Val × PEnv} (h : fU g fa env = some r) : ∃ x e1 z, fa env = some (x, e1) ∧ g x.d = some z ∧ r = (⟨z, 2, []⟩, e1) := by
  unfold fU at h
  simp only [Option.bind_eq_some_iff, Prod.exists] at h
  obtain ⟨x, e1, h1, z, h3, h4⟩ := h
  exact ⟨x, e1, z, h1, h3, (Option.some.inj h4).symm⟩
noncomputable def Rule2 (K : PySem.W.Frag) (r : R2) (g : D → D → Option D) : Prop := ∀ x y z v u f f' H Q, g x y = some z → Rep K H x v f → Rep K H y u f' → (∀ w, Rep K H z w [] → Q w H) → r v u H Q
noncomputable def Flat2 (g : D → D → Option D) : Prop := ∀ x y z, g x y = some z → z.nodes = 0
theorem rule2_read {K : PySem.W.Frag} {r : R2} {g : D → D → Option D} (hr : Rule2 K r g) (hz : Flat2 g) {fa fb : FE} {σ : St} {H : Hp} {Q : VK} (h : tQ K (fB g fa fb) σ H Q) : tQ K fa σ H fun v H1 => tQ K fb σ H1 fun u H2 => r v u H2 Q := by
  obtain ⟨P, H0, env, fps, w, env', h, hf, k⟩ := h
  obtain ⟨x, e1, y, e2, z, h1, h2, h3, h4⟩ := fB_some hf
  cases h4
  refine tQ.two h h1 h2 fun v u H1 H2 fp1 fp2 g1 g2 => hr x.d y.d z v u fp1 fp2 H2 Q h3 (g1.rep.mono g2.same) g2.rep fun w rw => ?_
  exact k w H2 [] (.scal (hz _ _ _ h3) (g1.same.trans g2.same) g2.holds (g2.sub.trans g1.sub) rw)
variable {a b : Expr} {fa fb fc : FE} {pos : Pos}
theorem q2 {op : Operator} {r : R2} {g : D → D → Option D} (ho : OpR X (binaryOp op) r) (hr : Rule2 X.K r g) (hz : Flat2 g) (ha : QE X a fa) (hb : QE X b fb) : QE X (.BinOp a op b pos) (fB g fa fb) :=
  PE.imp (pe_op ho ha hb) fun _ _ _ h => rule2_read hr hz h
theorem qcmp {op : CmpOp} {r : R2} {g : D → D → Option D} (ho : OpR X (compareOp op) r) (hr : Rule2 X.K r g) (hz : Flat2 g) (ha : QE X a fa) (hb : QE X b fb) (hm : behindInMarks op b = false := by rfl) : QE X (.Compare a [op] [b] pos) (fB g fa fb) :=
  PE.imp (pe_cmpR ho ha hb hm) fun _ _ _ h => rule2_read hr hz h
noncomputable def Rule1 (K : PySem.W.Frag) (r : V → Hp → VK → Prop) (g : D → Option D) : Prop := ∀ x z v f H Q, g x = some z → Rep K H x v f → (∀ w, Rep K H z w [] → Q w H) → r v H Q
noncomputable def Flat1 (g : D → Option D) : Prop := ∀ x z, g x = some z → z.nodes = 0
theorem q1 {op : UnaryOp} {r : V → Hp → VK → Prop} {g : D → Option D} (ho : UnR X (unaryOp op) r) (hr : Rule1 X.K r g) (hz : Flat1 g) (ha : QE X a fa) : QE X (.UnaryOp op a pos) (fU g fa) := by
  refine PE.imp (pe_un ho ha) ?_
  rintro σ H Q ⟨P, H0, env, fps, w, env', h, hf, k⟩
  obtain ⟨x, e1, z, h1, h3, h4⟩ := fU_some hf
  cases h4
  exact ⟨P, H0, env, fps, x, _, h, h1, fun v H1 fp g1 => hr x.d z v fp H1 Q h3 g1.rep fun w rw => k w H1 [] (.scal (hz _ _ h3) g1.same g1.holds g1.sub rw)⟩
noncomputable def gI (g : Int → Int → Int) : D → D → Option D
  | .int i, .int j => some (.int (g i j))
  | _, _ => none
noncomputable def gIc (c : Int → Int → Bool) (g : Int → Int → Int) : D → D → Option D
  | .int i, .int j => if c i j then some (.int (g i j)) else none
  | _, _ => none
noncomputable def gB (g : Int → Int → Bool) : D → D → Option D
  | .int i, .int j => some (.bl (g i j))
  | _, _ => none
theorem flat_gI {g : Int → Int → Int} : Flat2 (gI g) := fun x y z h => by
  unfold gI at h; split at h <;> cases h; rfl
theorem flat_gIc {c : Int → Int → Bool} {g : Int → Int → Int} : Flat2 (gIc c g) := fun x y z h => by
  unfold gIc at h; split at h
  · split at h <;> cases h; rfl
  · cases h
theorem flat_gB {g : Int → Int → Bool} : Flat2 (gB g) := fun x y z h => by
  unfold gB at h; split at h <;> cases h; rfl
theorem Rep.int_ {K : PySem.W.Frag} {H : Hp} {i : Int} {v : V} {f : List Addr} (h : Rep K H (.int i) v f) : v = .int i := by simp only [Rep] at h; exact h.1
theorem Rep.bl_ {K : PySem.W.Frag} {H : Hp} {i : Bool} {v : V} {f : List Addr} (h : Rep K H (.bl i) v f) : v = .bl i := by simp only [Rep] at h; exact h.1
theorem rep_int {K : PySem.W.Frag} {H : Hp} {i : Int} : Rep K H (.int i) (.int i) [] := by simp only [Rep]; exact ⟨trivial, trivial⟩
theorem rep_bl {K : PySem.W.Frag} {H : Hp} {i : Bool} : Rep K H (.bl i) (.bl i) [] := by simp only [Rep]; exact ⟨trivial, trivial⟩
theorem rep_non {K : PySem.W.Frag} {H : Hp} : Rep K H .non .non [] := by simp only [Rep]; exact ⟨trivial, trivial⟩
theorem rep_str {K : PySem.W.Frag} {H : Hp} {x : Str} (h : x.length ≤ sizeLine) : Rep K H (.str x) (.str x) [] := by simp only [Rep]; exact ⟨trivial, h, trivial⟩
theorem rule_I {g : Int → Int → Int} {K : PySem.W.Frag} : Rule2 K (rI0 fun i j => .int (g i j)) (gI g) := fun x y z v u f f' H Q h rx ry k => by
  unfold gI at h
  split at h <;> cases h
  exact ⟨_, _, rx.int_, ry.int_, k _ rep_int⟩
theorem rule_B {g : Int → Int → Bool} {K : PySem.W.Frag} : Rule2 K (rI0 fun i j => .bl (g i j)) (gB g) := fun x y z v u f f' H Q h rx ry k => by
  unfold gB at h
  split at h <;> cases h
  exact ⟨_, _, rx.int_, ry.int_, k _ rep_bl⟩
theorem rule_Ic {c : Int → Int → Bool} {C : Int → Int → Prop} {g : Int → Int → Int} {K : PySem.W.Frag} (hC : ∀ i j, c i j = true → C i j) : Rule2 K (rI C fun i j => .int (g i j)) (gIc c g) := fun x y z v u f f' H Q h rx ry k => by
  unfold gIc at h
  split at h
  · split at h
    · rename_i hc
      cases h
      exact ⟨_, _, rx.int_, ry.int_, hC _ _ hc, k _ rep_int⟩
    · cases h
  · cases h
noncomputable def cMul (i j : Int) : Bool := (decide (-(2 ^ 64) < i) && decide (i < 2 ^ 64)) || (decide (-(2 ^ 64) < j) && decide (j < 2 ^ 64))
noncomputable def cDiv (_ j : Int) : Bool := decide (0 < j) && decide (j < 1073741824)
noncomputable def cMod (_ j : Int) : Bool := decide (0 < j)
theorem q_sub (ha : QE X a fa) (hb : QE X b fb) : QE X (.BinOp a .Sub b pos) (fB (gI fun i j => i - j) fa fb) := q2 op_sub rule_I flat_gI ha hb
theorem q_fdiv (ha : QE X a fa) (hb : QE X b fb) : QE X (.BinOp a .FloorDiv b pos) (fB (gIc cDiv fun i j => i / j) fa fb) := q2 op_fdiv (rule_Ic fun i j h => by simpa [cDiv, CDiv] using h) flat_gIc ha hb
theorem q_mod (ha : QE X a fa) (hb : QE X b fb) : QE X (.BinOp a .Mod b pos) (fB (gIc cMod fun i j => i % j) fa fb) := q2 op_mod (rule_Ic fun i j h => by simpa [cMod] using h) flat_gIc ha hb
noncomputable def gNeg : D → Option D
  | .int i => some (.int (-i))
  | _ => none
theorem q_neg (ha : QE X a fa) : QE X (.UnaryOp .USub a pos) (fU gNeg fa) := q1 un_neg (fun x z v f H Q h rx k => by
    unfold gNeg at h
    split at h <;> cases h
    exact ⟨_, rx.int_, k _ rep_int⟩) (fun x z h => by unfold gNeg at h; split at h <;> cases h; rfl) ha
end
end L3
namespace L3
open PySem PySem.Spec PyProof.Rows L2
section
variable {K : PySem.W.Frag} {P : Addr → Prop} {H0 H H1 H2 H3 : Hp} {σ : St} {env env1 env2 : PEnv} {fps : Nat → List Addr} {x y : Val} {v u : V} {fp fp1 fp2 : List Addr}
theorem Got.after (s1 : Same H H1) (b1 : Sub env1 env) (g2 : Got K P H0 H1 H2 σ env1 env2 fps y u fp2) : Got K P H0 H H2 σ env env2 fps y u fp2 where
  same := s1.trans g2.same
  holds := g2.holds
  sub := g2.sub.trans b1
  rep := g2.rep
  from_ := Got.from2 s1 b1 g2 fun _ h => h
  own := g2.own
theorem OwnOk.two {oth : Addr → Prop} {d : D} (r : Rep K H d v fp) (hn : fp.Nodup) (h : ∀ b ∈ fp, H0 b = none ∧ ¬ oth b) : OwnOk H0 H oth d 2 v fp where
  top := fun _ ⟨ds, e⟩ => by
    subst e
    obtain ⟨a, xs, g, e1, e2, e3, _⟩ := r.lst_
    subst e3
    exact ⟨a, g, xs, rfl, e1, (List.nodup_cons.mp hn).1, (h a List.mem_cons_self).1, e2, (h a List.mem_cons_self).2⟩
  deep := fun _ => ⟨hn, h⟩
end
noncomputable abbrev FA := PEnv → Option (List Val × PEnv)
inductive GotL (K : PySem.W.Frag) (P : Addr → Prop) (H0 : Hp) (σ : St) (fps : Nat → List Addr) : Hp → PEnv → List Val → List V → List (List Addr) → Hp → PEnv → Prop
  | nil {H : Hp} {env : PEnv} : Holds K P H0 H σ env fps → GotL K P H0 σ fps H env [] [] [] H env
  | cons {H H1 H2 : Hp} {env env1 env2 : PEnv} {x : Val} {v : V} {fp : List Addr} {xs : List Val} {vs : List V} {fs : List (List Addr)} : Got K P H0 H H1 σ env env1 fps x v fp → GotL K P H0 σ fps H1 env1 xs vs fs H2 env2 →
      GotL K P H0 σ fps H env (x :: xs) (v :: vs) (fp :: fs) H2 env2
section
variable {K : PySem.W.Frag} {P : Addr → Prop} {H0 : Hp} {σ : St} {fps : Nat → List Addr} {H H2 : Hp} {env env2 : PEnv} {xs : List Val} {vs : List V} {fs : List (List Addr)}
theorem GotL.same (g : GotL K P H0 σ fps H env xs vs fs H2 env2) : Same H H2 := by
  induction g with
  | nil _ => exact Same.refl _
  | cons g _ ih => exact g.same.trans ih
theorem GotL.sub (g : GotL K P H0 σ fps H env xs vs fs H2 env2) : Sub env2 env := by
  induction g with
  | nil _ => exact Sub.refl _
  | cons g _ ih => exact ih.trans g.sub
theorem GotL.holds (g : GotL K P H0 σ fps H env xs vs fs H2 env2) : Holds K P H0 H2 σ env2 fps := by
  induction g with
  | nil h => exact h
  | cons g _ ih => exact ih
theorem GotL.reps (g : GotL K P H0 σ fps H env xs vs fs H2 env2) : Reps K H2 (xs.map Val.d) vs fs.flatten := by
  induction g with
  | nil h => exact Reps.nil
  | cons g gl ih => exact Reps.cons (g.rep.mono gl.same) ih
theorem GotL.from_ (g : GotL K P H0 σ fps H env xs vs fs H2 env2) : ∀ b ∈ fs.flatten, H b = none ∨ ∃ j, Live env j ∧ b ∈ fps j ∧ (j ∈ xs.flatMap Val.S ∨ ¬ Live env2 j) := by
  induction g with
  | nil h => intro b hb; cases hb
  | @cons H H1 H2 env env1 env2 x v fp xs vs fs g gl ih =>
    intro b hb
    rw [List.flatten_cons, List.mem_append] at hb
    rcases hb with hb | hb
    · exact Got.from1 g gl.sub (S := (x :: xs).flatMap Val.S) (fun j hj => by rw [List.flatMap_cons]; exact List.mem_append_left _ hj) b hb
    · rcases ih b hb with z | ⟨j, lj, hj, z⟩
      · exact .inl (g.same.free z)
      · refine .inr ⟨j, g.sub.live lj, hj, ?_⟩
        rcases z with z | z
        · exact .inl (by rw [List.flatMap_cons]; exact List.mem_append_right _ z)
        · exact .inr z
theorem GotL.own (g : GotL K P H0 σ fps H env xs vs fs H2 env2) (h2 : ∀ x ∈ xs, 2 ≤ x.l) : fs.flatten.Nodup ∧ ∀ b ∈ fs.flatten, H0 b = none ∧ ¬ ∃ k, Live env2 k ∧ b ∈ fps k := by
  induction g with
  | nil h => exact ⟨List.nodup_nil, fun b hb => by cases hb⟩
  | @cons H H1 H2 env env1 env2 x v fp xs vs fs g gl ih =>
    obtain ⟨i1, i2⟩ := ih fun x hx => h2 x (List.mem_cons_of_mem _ hx)
    obtain ⟨d1, d2⟩ := g.own.deep (h2 x List.mem_cons_self)
    have apart : ∀ b ∈ fp, b ∉ fs.flatten := fun b hb hb2 => by
      rcases gl.from_ b hb2 with z | ⟨j, lj, hj, _⟩
      · obtain ⟨xs, q⟩ := g.rep.dom b hb
        rw [z] at q; cases q
      · exact (d2 b hb).2 ⟨j, lj, hj⟩
    rw [List.flatten_cons]
    refine ⟨List.nodup_append.mpr ⟨d1, i1, fun a ha b hb e => apart a ha (e ▸ hb)⟩, fun b hb => ?_⟩
    rcases List.mem_append.mp hb with hb | hb
    · exact ⟨(d2 b hb).1, fun ⟨k, lk, hk⟩ => (d2 b hb).2 ⟨k, gl.sub.live lk, hk⟩⟩
    · exact i2 b hb
end
noncomputable def tQA (K : PySem.W.Frag) (f : FA) : TA := fun σ H Q => ∃ P H0 env fps xs env', Holds K P H0 H σ env fps ∧ f env = some (xs, env') ∧ ∀ vs H' fs, GotL K P H0 σ fps H env xs vs fs H' env' → Q vs H'
noncomputable def QA (X : Cx) (es : List Expr) (f : FA) : Prop := PA X es (tQA X.K f)
theorem PA.imp {X : Cx} {es : List Expr} {t t' : TA} (h : PA X es t) (hi : ∀ σ H Q, t' σ H Q → t σ H Q) : PA X es t' := fun pos pins s σ H Q I q => h pos pins s σ H Q I (hi σ H Q q)
noncomputable def fNil : FA := fun env => some ([], env)
noncomputable def fCons (f : FE) (fs : FA) : FA := fun env => (f env).bind fun (x, e1) => (fs e1).bind fun (xs, e2) => some (x :: xs, e2)
section
variable {X : Cx}
theorem qa_nil : QA X [] fNil := by
  refine PA.imp pa_nil ?_
  rintro σ H Q ⟨P, H0, env, fps, xs, env', h, hf, k⟩
  cases hf
  exact k [] H [] (.nil h)
theorem qa_cons {e : Expr} {es : List Expr} {f : FE} {fs : FA} (ha : QE X e f) (hr : QA X es fs) (hs : starEach (e :: es) X.env = (false, eval e X.env) :: starEach es X.env := by rfl) : QA X (e :: es) (fCons f fs) := by
  refine PA.imp (pa_cons ha hr hs) ?_
  rintro σ H Q ⟨P, H0, env, fps, xs, env', h, hf, k⟩
  unfold fCons at hf
  simp only [Option.bind_eq_some_iff, Prod.exists] at hf
  obtain ⟨x, e1, h1, ys, e2, h2, h3⟩ := hf
  cases h3
  exact ⟨P, H0, env, fps, x, e1, h, h1, fun v H1 fp g1 => ⟨P, H0, e1, fps, ys, _, g1.holds, h2, fun vs H2 fs g2 => k (v :: vs) H2 (fp :: fs) (.cons g1 g2)⟩⟩
noncomputable def lvL (ds : List D) (two : Bool) (S : List Nat) : Val := if nodesL ds = 0 ∨ two = true then ⟨.lst ds, 2, []⟩ else ⟨.lst ds, 1, S⟩
theorem got_new {K : PySem.W.Frag} {P : Addr → Prop} {H0 H H2 : Hp} {σ : St} {fps : Nat → List Addr} {env env2 : PEnv} {ds : List D} {vs : List V} {g : List Addr} {two : Bool} {S : List Nat} {p : Addr}
    (s : Same H H2) (h : Holds K P H0 H2 σ env2 fps) (b : Sub env2 env) (r : Reps K H2 ds vs g) (hf : ∀ b ∈ g, H b = none ∨ ∃ j, Live env j ∧ b ∈ fps j ∧ (j ∈ (lvL ds two S).S ∨ ¬ Live env2 j))
    (h2 : two = true → g.Nodup ∧ ∀ b ∈ g, H0 b = none ∧ ¬ ∃ k, Live env2 k ∧ b ∈ fps k) (hp : H2 p = none) : Got K P H0 H (upd H2 p (.lst vs)) σ env env2 fps (lvL ds two S) (.ref p) (p :: g) := by
  have s2 : Same H2 (upd H2 p (.lst vs)) := Same.upd_new hp
  have rr : Rep K (upd H2 p (.lst vs)) (.lst ds) (.ref p) (p :: g) := Rep.mk upd_same (r.mono s2)
  have hpg : p ∉ g := fun z => by obtain ⟨xs, q⟩ := r.dom p z; rw [hp] at q; cases q
  have hH0 : H0 p = none := h.same.free hp
  have hoth : ¬ ∃ k, Live env2 k ∧ p ∈ fps k := fun ⟨k, lk, hk⟩ => h.dom lk hk hp
  have ed : (lvL ds two S).d = .lst ds := by unfold lvL; split <;> rfl
  refine ⟨s.trans s2, h.mono s2, b, by rw [ed]; exact rr, fun b hb => ?_, ?_⟩
  · rcases List.mem_cons.mp hb with rfl | hb
    · exact .inl (s.free hp)
    · exact hf b hb
  · rw [ed]
    unfold lvL
    split
    · rename_i hc
      refine OwnOk.two rr ?_ ?_
      · rcases hc with hc | hc
        · have : g = [] := List.eq_nil_of_length_eq_zero (by rw [r.len]; exact hc)
          subst this
          simp
        · exact List.nodup_cons.mpr ⟨hpg, (h2 hc).1⟩
      · intro b hb
        rcases List.mem_cons.mp hb with rfl | hb
        · exact ⟨hH0, hoth⟩
        · rcases hc with hc | hc
          · have : g = [] := List.eq_nil_of_length_eq_zero (by rw [r.len]; exact hc)
            subst this
            cases hb
          · exact (h2 hc).2 b hb
    · exact ⟨fun _ _ => ⟨p, g, vs, rfl, rfl, hpg, hH0, upd_same, hoth⟩, fun z => absurd z (by show ¬ 2 ≤ 1; omega)⟩
noncomputable def fLst (fs : FA) : FE := fun env => (fs env).bind fun (xs, e1) => if xs.length ≤ sizeLine then some (lvL (xs.map Val.d) (xs.all fun x => decide (2 ≤ x.l)) (xs.flatMap Val.S), e1) else none
theorem q_lst {es : List Expr} {fs : FA} {pos : Pos} (h : QA X es fs) : QE X (.List es pos) (fLst fs) := by
  refine PE.imp (pe_lst h) ?_
  rintro σ H Q ⟨P, H0, env, fps, x, env', h, hf, k⟩
  unfold fLst at hf
  simp only [Option.bind_eq_some_iff, Prod.exists] at hf
  obtain ⟨xs, e1, h1, h2⟩ := hf
  split at h2
  · rename_i hl
    cases h2
    refine ⟨P, H0, env, fps, xs, _, h, h1, fun vs H2 fs g => ⟨?_, fun p hp => k _ _ (p :: fs.flatten) (got_new g.same g.holds g.sub g.reps (fun b hb => ?_) (fun ht => g.own fun x hx => ?_) hp)⟩⟩
    · rw [g.reps.length, List.length_map]; exact hl
    · rcases g.from_ b hb with z | ⟨j, lj, hj, z⟩
      · exact .inl z
      · refine .inr ⟨j, lj, hj, ?_⟩
        rcases z with z | z
        · by_cases hc : nodesL (xs.map Val.d) = 0 ∨ (xs.all fun x => decide (2 ≤ x.l)) = true
          · rcases hc with hc | hc
            · have : fs.flatten = [] := List.eq_nil_of_length_eq_zero (by rw [g.reps.len]; exact hc)
              rw [this] at hb; cases hb
            · exact .inr fun l => ((g.own fun x hx => by simpa using List.all_eq_true.mp hc x hx).2 b hb).2 ⟨j, l, hj⟩
          · left; unfold lvL; rw [if_neg hc]; exact z
        · exact .inr z
    · simpa using List.all_eq_true.mp ht x hx
  · cases h2
noncomputable def fTup (fs : FA) : FE := fun env => (fs env).bind fun (xs, e1) => if xs.length ≤ sizeLine then some (if (xs.all fun x => decide (2 ≤ x.l)) = true then ⟨.tup (xs.map Val.d), 2, []⟩ else ⟨.tup (xs.map Val.d), 0, xs.flatMap Val.S⟩, e1) else none
theorem q_tup {es : List Expr} {fs : FA} {k1 : Nat} {pos : Pos} (h : QA X es fs) : QE X (.Tuple es k1 pos) (fTup fs) := by
  refine PE.imp (pe_tup h) ?_
  rintro σ H Q ⟨P, H0, env, fps, x, env', h, hf, k⟩
  unfold fTup at hf
  simp only [Option.bind_eq_some_iff, Prod.exists] at hf
  obtain ⟨xs, e1, h1, h2⟩ := hf
  split at h2
  · rename_i hl
    simp only [Option.some.injEq, Prod.mk.injEq] at h2
    obtain ⟨rfl, rfl⟩ := h2
    refine ⟨P, H0, env, fps, xs, e1, h, h1, fun vs H2 fs g => ⟨?_, fun p hp => k _ _ fs.flatten ?_⟩⟩
    · rw [g.reps.length, List.length_map]; exact hl
    · have s2 : Same H2 (upd H2 p (.tup vs)) := Same.upd_new hp
      have rr : Rep X.K (upd H2 p (.tup vs)) (.tup (xs.map Val.d)) (.ref p) fs.flatten := Rep.mkT upd_same (g.reps.mono s2)
      split
      · rename_i ha
        obtain ⟨o1, o2⟩ := g.own fun x hx => by simpa using List.all_eq_true.mp ha x hx
        refine ⟨g.same.trans s2, g.holds.mono s2, g.sub, rr, fun b hb => ?_, OwnOk.two rr o1 o2⟩
        rcases g.from_ b hb with z | ⟨j, lj, hj, z⟩
        · exact .inl z
        · exact .inr ⟨j, lj, hj, .inr fun l => (o2 b hb).2 ⟨j, l, hj⟩⟩
      · exact ⟨g.same.trans s2, g.holds.mono s2, g.sub, rr, g.from_, .zero⟩
  · cases h2
noncomputable def ixD (i : Int) : D → Option D
  | .lst ds => atI ds i
  | .tup ds => atI ds i
  | .ro ds => atI ds i
  | .str x => if x.length ≤ sizeLine then (atI x.cps.toList i).map fun c => .str ⟨#[c]⟩ else none
  | _ => none
noncomputable def lvI (x : Val) (d : D) : Val := if d.nodes = 0 ∨ 2 ≤ x.l then ⟨d, 2, []⟩ else ⟨d, 0, x.S⟩
noncomputable def fIx (fa fb : FE) : FE := fun env => (fa env).bind fun (x, e1) => (fb e1).bind fun (y, e2) => match y.d with
  | .int i => (ixD i x.d).map fun d => (lvI x d, e2)
  | _ => none
theorem got_part {K : PySem.W.Frag} {P : Addr → Prop} {H0 H H1 H2 : Hp} {σ : St} {fps : Nat → List Addr} {env env1 env2 : PEnv} {x y : Val} {v u w : V} {d : D} {fp1 fp2 g : List Addr} (g1 : Got K P H0 H H1 σ env env1 fps x v fp1) (g2 : Got K P H0 H1 H2 σ env1 env2 fps y u fp2)
    (r : Rep K H2 d w g) (hg : g.Sublist fp1) : Got K P H0 H H2 σ env env2 fps (lvI x d) w g := by
  obtain ⟨_, o, _⟩ := Got.stay g1 g2
  have ed : (lvI x d).d = d := by unfold lvI; split <;> rfl
  refine ⟨g1.same.trans g2.same, g2.holds, g2.sub.trans g1.sub, by rw [ed]; exact r, fun b hb => ?_, ?_⟩
  · unfold lvI
    split
    · rename_i hc
      rcases hc with hc | hc
      · rw [r.flat hc] at hb; cases hb
      · rcases g1.from_ b (hg.subset hb) with z | ⟨j, lj, hj, z⟩
        · exact .inl z
        · exact .inr ⟨j, lj, hj, .inr fun l => ((o.deep hc).2 b (hg.subset hb)).2 ⟨j, l, hj⟩⟩
    · exact Got.from1 g1 g2.sub (fun _ h => h) b (hg.subset hb)
  · rw [ed]
    unfold lvI
    split
    · rename_i hc
      rcases hc with hc | hc
      · have e := r.flat hc
        subst e
        exact .flat hc
      · exact OwnOk.two r (hg.nodup (o.deep hc).1) fun b hb => (o.deep hc).2 b (hg.subset hb)
    · exact .zero
theorem Reps.atI_ {K : PySem.W.Frag} {H : Hp} {ds : List D} {xs : List V} {f : List Addr} (h : Reps K H ds xs f) {i : Int} {d : D} (hd : atI ds i = some d) : ∃ x g, atI xs i = some x ∧ Rep K H d x g ∧ g.Sublist f := by
  unfold atI at hd ⊢
  rw [h.length]
  cases e : ixN ds.length i with
  | none => rw [e] at hd; cases hd
  | some j =>
    rw [e] at hd
    obtain ⟨x, g1, g, g2, e1, e2, r, _⟩ := h.at (i := j) (d := d) hd
    refine ⟨x, g, e1, r, ?_⟩
    rw [e2, List.append_assoc]
    exact (List.sublist_append_left g g2).trans (List.sublist_append_right g1 _)
theorem q_ix {a b : Expr} {fa fb : FE} {pos : Pos} (ha : QE X a fa) (hb : QE X b fb) (hs : PlainIx b := by intro _ _; rfl) : QE X (.Subscript a b pos) (fIx fa fb) := by
  refine PE.imp (pe_ix ix_seq ha hb hs) ?_
  rintro σ H Q ⟨P, H0, env, fps, w, env', h, hf, k⟩
  unfold fIx at hf
  simp only [Option.bind_eq_some_iff, Prod.exists] at hf
  obtain ⟨x, e1, h1, y, e2, h2, h3⟩ := hf
  split at h3
  · rename_i i hi
    rw [Option.map_eq_some_iff] at h3
    obtain ⟨d, h3, h4⟩ := h3
    cases h4
    refine tQ.two h h1 h2 fun v u H1 H2 fp1 fp2 g1 g2 => ?_
    have ru := g2.rep
    rw [hi] at ru
    obtain rfl := ru.int_
    have rv := g1.rep.mono g2.same
    cases hx : x.d with
    | lst ds =>
      rw [hx] at rv h3
      obtain ⟨p, xs, g, rfl, e1, e2, rs⟩ := rv.lst_
      obtain ⟨w, g', e3, r, sl⟩ := rs.atI_ (d := d) h3
      exact .inl ⟨p, xs, i, w, rfl, rfl, SqL.of e1, e3, k w H2 g' (got_part g1 g2 r (sl.trans (by rw [e2]; exact List.sublist_cons_self p g)))⟩
    | ro ds =>
      rw [hx] at rv h3
      obtain ⟨p, xs, rfl, e1, rs⟩ := rv.ro_
      obtain ⟨w, g', e3, r, sl⟩ := rs.atI_ (d := d) h3
      exact .inl ⟨p, xs, i, w, rfl, rfl, e1.sq, e3, k w H2 g' (got_part g1 g2 r sl)⟩
    | tup ds =>
      rw [hx] at rv h3
      obtain ⟨p, xs, rfl, e1, rs⟩ := rv.tup_
      obtain ⟨w, g', e3, r, sl⟩ := rs.atI_ (d := d) h3
      exact .inr (.inl ⟨p, xs, i, w, rfl, rfl, e1, e3, k w H2 g' (got_part g1 g2 r sl)⟩)
    | str z =>
      rw [hx] at rv h3
      simp only [Rep] at rv
      obtain ⟨rfl, hz, _⟩ := rv
      simp only [ixD, if_pos hz, Option.map_eq_some_iff] at h3
      obtain ⟨c, e3, rfl⟩ := h3
      refine .inr (.inr ⟨z, i, c, rfl, rfl, hz, e3, k _ H2 [] (got_part g1 g2 (rep_str ?_) (List.nil_sublist _))⟩)
      show 1 ≤ sizeLine
      decide
    | non => rw [hx] at h3; cases h3
    | bl _ => rw [hx] at h3; cases h3
    | int _ => rw [hx] at h3; cases h3
    | exc _ => rw [hx] at h3; cases h3
  · cases h3
end
end L3
namespace L3
open PySem PySem.Spec PyProof.Rows L2
noncomputable def addD (x y : Val) : Option Val := match x.d, y.d with
  | .int i, .int j => some ⟨.int (i + j), 2, []⟩
  | .str i, .str j => if i.length + j.length ≤ sizeLine then some ⟨.str (i ++ j), 2, []⟩ else none
  | .lst xs, .lst ys => if xs.length + ys.length ≤ sizeLine then some (lvL (xs ++ ys) (decide (2 ≤ x.l) && decide (2 ≤ y.l)) (x.S ++ y.S)) else none
  | _, _ => none
noncomputable def mulD (x y : Val) : Option Val := match x.d, y.d with
  | .int i, .int j => if cMul i j then some ⟨.int (i * j), 2, []⟩ else none
  | .lst xs, .int k => if -(2 ^ 63) ≤ k ∧ k < 2 ^ 63 ∧ xs.length * k.toNat ≤ sizeLine ∧ nodesL xs = 0 then some ⟨.lst (List.replicate k.toNat xs).flatten, 2, []⟩ else none
  | _, _ => none
noncomputable def fV2 (g : Val → Val → Option Val) (fa fb : FE) : FE := fun env => (fa env).bind fun (x, e1) => (fb e1).bind fun (y, e2) => (g x y).bind fun z => some (z, e2)
theorem fV2_some {g : Val → Val → Option Val} {fa fb : FE} {env : PEnv} {r : Val × PEnv} (h : fV2 g fa fb env = some r) : ∃ x e1 y e2 z, fa env = some (x, e1) ∧ fb e1 = some (y, e2) ∧ g x y = some z ∧ r = (z, e2) := by
  unfold fV2 at h
  simp only [Option.bind_eq_some_iff, Prod.exists] at h
  obtain ⟨x, e1, h1, y, e2, h2, z, h3, h4⟩ := h
  exact ⟨x, e1, y, e2, z, h1, h2, h3, (Option.some.inj h4).symm⟩
theorem nodesL_rep (xs : List D) (h : nodesL xs = 0) : ∀ k, nodesL (List.replicate k xs).flatten = 0
  | 0 => rfl
  | k + 1 => by rw [List.replicate_succ, List.flatten_cons, nodesL_app, h, nodesL_rep xs h k]
theorem Reps.rep {K : PySem.W.Frag} {H : Hp} {ds : List D} {xs : List V} (h : Reps K H ds xs []) : ∀ k, Reps K H (List.replicate k ds).flatten (List.replicate k xs).flatten []
  | 0 => Reps.nil
  | k + 1 => by
    rw [List.replicate_succ, List.flatten_cons, List.replicate_succ, List.flatten_cons]
    exact h.app (Reps.rep h k)
section
variable {X : Cx} {a b : Expr} {fa fb fc : FE} {pos : Pos}
theorem q_add (ha : QE X a fa) (hb : QE X b fb) : QE X (.BinOp a .Add b pos) (fV2 addD fa fb) := by
  refine PE.imp (pe_op (op_add.or (op_cat.or op_add_str)) ha hb) ?_
  rintro σ H Q ⟨P, H0, env, fps, w, env', h, hf, k⟩
  obtain ⟨x, e1, y, e2, z, h1, h2, h3, h4⟩ := fV2_some hf
  cases h4
  refine tQ.two h h1 h2 fun v u H1 H2 fp1 fp2 g1 g2 => ?_
  have rv := g1.rep.mono g2.same
  have ru := g2.rep
  obtain ⟨_, o1, ap⟩ := Got.stay g1 g2
  obtain ⟨dx, lx, Sx⟩ := x
  obtain ⟨dy, ly, Sy⟩ := y
  unfold addD at h3
  split at h3
  · rename_i i j ex ey
    cases h3
    have ex : dx = .int i := ex
    have ey : dy = .int j := ey
    subst ex ey
    exact .inl ⟨i, j, rv.int_, ru.int_, k _ H2 [] (.scal rfl (g1.same.trans g2.same) g2.holds (g2.sub.trans g1.sub) rep_int)⟩
  · rename_i i j ex ey
    have ex : dx = .str i := ex
    have ey : dy = .str j := ey
    subst ex ey
    split at h3
    · rename_i hl
      cases h3
      simp only [Rep] at rv ru
      refine .inr (.inr ⟨i, j, rv.1, ru.1, hl, k _ H2 [] (.scal rfl (g1.same.trans g2.same) g2.holds (g2.sub.trans g1.sub) (rep_str ?_))⟩)
      rw [Str.length_append]; exact hl
    · cases h3
  · rename_i xs ys ex ey
    have ex : dx = .lst xs := ex
    have ey : dy = .lst ys := ey
    subst ex ey
    split at h3
    · rename_i hl
      cases h3
      obtain ⟨p, us, g, rfl, e1, rfl, rs⟩ := rv.lst_
      obtain ⟨q, ws, g', rfl, e2, rfl, rs'⟩ := ru.lst_
      refine .inr (.inl ⟨p, q, us, ws, rfl, rfl, e1, e2, by rw [rs.length, rs'.length]; exact hl, fun n hn => k _ _ (n :: (g ++ g')) (got_new (g1.same.trans g2.same) g2.holds (g2.sub.trans g1.sub) (rs.app rs') (fun b hb => ?_) (fun ht => ?_) hn)⟩)
      · have hS : ∀ j ∈ Sx ++ Sy, ∃ S', S' = Sx ++ Sy ∧ j ∈ S' := fun j hj => ⟨_, rfl, hj⟩
        have base : H b = none ∨ ∃ j, Live env j ∧ b ∈ fps j ∧ (j ∈ Sx ++ Sy ∨ ¬ Live env' j) := by
          rcases List.mem_append.mp hb with hb | hb
          · exact Got.from1 g1 g2.sub (S := Sx ++ Sy) (fun j hj => List.mem_append_left _ hj) b (List.mem_cons_of_mem _ hb)
          · exact Got.from2 g1.same g1.sub g2 (S := Sx ++ Sy) (fun j hj => List.mem_append_right _ hj) b (List.mem_cons_of_mem _ hb)
        unfold lvL
        split
        · rename_i hc
          rcases hc with hc | hc
          · have hg := (rs.app rs').len
            rw [hc] at hg
            rw [List.eq_nil_of_length_eq_zero hg] at hb
            cases hb
          · rw [Bool.and_eq_true, decide_eq_true_eq, decide_eq_true_eq] at hc
            rcases base with z | ⟨j, lj, hj, _⟩
            · exact .inl z
            · refine .inr ⟨j, lj, hj, .inr fun l => ?_⟩
              rcases List.mem_append.mp hb with hb | hb
              · exact ((o1.deep hc.1).2 b (List.mem_cons_of_mem _ hb)).2 ⟨j, l, hj⟩
              · exact ((g2.own.deep hc.2).2 b (List.mem_cons_of_mem _ hb)).2 ⟨j, l, hj⟩
        · exact base
      · rw [Bool.and_eq_true, decide_eq_true_eq, decide_eq_true_eq] at ht
        have d1 := o1.deep ht.1
        have d2 := g2.own.deep ht.2
        have n1 := (List.nodup_cons.mp d1.1).2
        have n2 := (List.nodup_cons.mp d2.1).2
        refine ⟨List.nodup_append.mpr ⟨n1, n2, fun c hc e he z => ap ht.1 c (List.mem_cons_of_mem _ hc) (z ▸ List.mem_cons_of_mem _ he)⟩, fun c hc => ?_⟩
        rcases List.mem_append.mp hc with hc | hc
        · exact d1.2 c (List.mem_cons_of_mem _ hc)
        · exact d2.2 c (List.mem_cons_of_mem _ hc)
    · cases h3
  · cases h3
theorem q_mul (ha : QE X a fa) (hb : QE X b fb) : QE X (.BinOp a .Mult b pos) (fV2 mulD fa fb) := by
  refine PE.imp (pe_op (op_mul.or op_rep) ha hb) ?_
  rintro σ H Q ⟨P, H0, env, fps, w, env', h, hf, k⟩
  obtain ⟨x, e1, y, e2, z, h1, h2, h3, h4⟩ := fV2_some hf
  cases h4
  refine tQ.two h h1 h2 fun v u H1 H2 fp1 fp2 g1 g2 => ?_
  have rv := g1.rep.mono g2.same
  have ru := g2.rep
  obtain ⟨dx, lx, Sx⟩ := x
  obtain ⟨dy, ly, Sy⟩ := y
  unfold mulD at h3
  split at h3
  · rename_i i j ex ey
    have ex : dx = .int i := ex
    have ey : dy = .int j := ey
    subst ex ey
    split at h3
    · rename_i hc
      cases h3
      exact .inl ⟨i, j, rv.int_, ru.int_, by simpa [cMul, CMul] using hc, k _ H2 [] (.scal rfl (g1.same.trans g2.same) g2.holds (g2.sub.trans g1.sub) rep_int)⟩
    · cases h3
  · rename_i xs j ex ey
    have ex : dx = .lst xs := ex
    have ey : dy = .int j := ey
    subst ex ey
    split at h3
    · rename_i hc
      obtain ⟨c1, c2, c3, c4⟩ := hc
      cases h3
      obtain ⟨p, us, g, rfl, e1, rfl, rs⟩ := rv.lst_
      have hg := rs.len
      rw [c4] at hg
      have hg' := List.eq_nil_of_length_eq_zero hg
      subst hg'
      refine .inr ⟨p, j, us, rfl, ru.int_, e1, c1, c2, by rw [rs.length]; exact c3, fun n hn => k _ _ [n] ?_⟩
      have := got_new (p := n) (two := true) (S := []) (g1.same.trans g2.same) g2.holds (g2.sub.trans g1.sub) (rs.rep j.toNat) (fun b hb => by cases hb) (fun _ => ⟨List.nodup_nil, fun b hb => by cases hb⟩) hn
      unfold lvL at this
      rw [if_pos (.inr rfl)] at this
      exact this
    · cases h3
  · cases h3
noncomputable def flatD : D → Bool
  | .non => true
  | .bl _ => true
  | .int _ => true
  | .str _ => true
  | _ => false
noncomputable def cmpN : Nat → D → D → Bool
  | n + 1, .lst xs, .lst ys => xs.length != ys.length || (xs.zip ys).all fun p => cmpN n p.1 p.2
  | n + 1, .tup xs, .tup ys => (xs.zip ys).all fun p => cmpN n p.1 p.2
  | _, x, y => flatD x && flatD y
noncomputable def mixed : D → D → Bool
  | .bl _, .int _ => true
  | .int _, .bl _ => true
  | _, _ => false
noncomputable def gEq (neg : Bool) (x y : D) : Option D := if cmpN 6 x y && !mixed x y then some (.bl (if neg then !deq x y else deq x y)) else none
theorem rep_flatV {K : PySem.W.Frag} {H : Hp} {x y : D} {v u : V} {f g : List Addr} (hx : flatD x = true) (hy : flatD y = true) (rx : Rep K H x v f) (ry : Rep K H y u g) : flatV v = true ∧ flatV u = true ∧ deq x y = eqV v u := by
  cases x <;> cases y <;> simp only [flatD, Bool.false_eq_true] at hx hy <;> simp only [Rep] at rx ry <;> obtain ⟨rfl, _⟩ := rx <;> obtain ⟨rfl, _⟩ := ry <;> exact ⟨rfl, rfl, by simp only [deq, eqV]⟩
theorem deqs_range : ∀ (xs ys : List D), deqs xs ys = (decide (xs.length = ys.length) && (List.range (min xs.length ys.length)).all fun i => deq (xs.getD i .non) (ys.getD i .non))
  | [], [] => rfl
  | [], _ :: _ => by simp [deqs]
  | _ :: _, [] => by simp [deqs]
  | x :: xs, y :: ys => by
    simp only [deqs, deqs_range xs ys, List.length_cons, Nat.succ_min_succ, List.range_succ_eq_map, List.all_cons, List.all_map, List.getD_cons_zero]
    have : (List.range (min xs.length ys.length)).all ((fun i => deq ((x :: xs).getD i .non) ((y :: ys).getD i .non)) ∘ Nat.succ) = (List.range (min xs.length ys.length)).all fun i => deq (xs.getD i .non) (ys.getD i .non) := by
      congr 1
    rw [this]
    by_cases e : xs.length = ys.length
    · simp [e]
    · simp [e]
theorem zip_all {n : Nat} {xs ys : List D} (h : ((xs.zip ys).all fun p => cmpN n p.1 p.2) = true) {i : Nat} {x y : D} (hx : xs[i]? = some x) (hy : ys[i]? = some y) : cmpN n x y = true := by
  have : (x, y) ∈ xs.zip ys := List.mem_of_getElem? (i := i) (by rw [List.getElem?_zip_eq_some]; exact ⟨hx, hy⟩)
  exact List.all_eq_true.mp h _ this
theorem eqR_of {K : PySem.W.Frag} {H : Hp} : ∀ (n : Nat) {x y : D} {v u : V} {f g : List Addr}, cmpN n x y = true → Rep K H x v f → Rep K H y u g → EqR K H n v u (deq x y) := by
  intro n
  induction n with
  | zero =>
    intro x y v u f g h rx ry
    have h : (flatD x && flatD y) = true := by
      cases x <;> cases y <;> first | exact h | (simp only [cmpN, flatD] at h; exact h)
    rw [Bool.and_eq_true] at h
    exact rep_flatV h.1 h.2 rx ry
  | succ n ih =>
    intro x y v u f g h rx ry
    by_cases hfl : (flatD x && flatD y) = true
    · rw [Bool.and_eq_true] at hfl
      exact .inl (rep_flatV hfl.1 hfl.2 rx ry)
    · cases x with
      | lst xs =>
        cases y with
        | lst ys =>
          obtain ⟨p, vs, fp, rfl, e1, _, r1⟩ := rx.lst_
          obtain ⟨q, us, fq, rfl, e2, _, r2⟩ := ry.lst_
          refine .inr (.inl ⟨p, q, vs, us, rfl, rfl, SqL.of e1, SqL.of e2, ?_⟩)
          rw [r1.length, r2.length]
          by_cases hl : xs.length = ys.length
          · right
            refine ⟨hl, fun i => deq (xs.getD i .non) (ys.getD i .non), fun i a b ha hb => ?_, ?_⟩
            · have hi : i < xs.length := by rw [← r1.length]; exact (List.getElem?_eq_some_iff.mp ha).1
              have hi2 : i < ys.length := by omega
              obtain ⟨a', _, _, _, ea, _, ra, _⟩ := r1.at (i := i) (d := xs[i]) (by simp)
              obtain ⟨b', _, _, _, eb, _, rb, _⟩ := r2.at (i := i) (d := ys[i]) (by simp)
              rw [ha] at ea; cases ea
              rw [hb] at eb; cases eb
              have hc : cmpN n xs[i] ys[i] = true := by
                simp only [cmpN, hl, bne_self_eq_false, Bool.false_or] at h
                exact zip_all h (i := i) (by simp) (by simp)
              have := ih hc ra rb
              show EqR K H n a b (deq (xs.getD i .non) (ys.getD i .non)); rw [List.getD_eq_getElem?_getD, List.getD_eq_getElem?_getD, List.getElem?_eq_getElem hi, List.getElem?_eq_getElem hi2]
              exact this
            · simp only [deq]
              rw [deqs_range, decide_eq_true hl, Bool.true_and, ← hl, Nat.min_self]
          · left
            refine ⟨hl, ?_⟩
            simp only [deq]
            rw [deqs_range, decide_eq_false hl, Bool.false_and]
        | _ => simp only [cmpN, flatD, Bool.false_and, Bool.false_eq_true] at h
      | tup xs =>
        cases y with
        | tup ys =>
          obtain ⟨p, vs, rfl, e1, r1⟩ := rx.tup_
          obtain ⟨q, us, rfl, e2, r2⟩ := ry.tup_
          refine .inr (.inr ⟨p, q, vs, us, rfl, rfl, e1, e2, fun i => deq (xs.getD i .non) (ys.getD i .non), fun i a b ha hb => ?_, ?_⟩)
          · have hi : i < xs.length := by rw [← r1.length]; exact (List.getElem?_eq_some_iff.mp ha).1
            have hi2 : i < ys.length := by rw [← r2.length]; exact (List.getElem?_eq_some_iff.mp hb).1
            obtain ⟨a', _, _, _, ea, _, ra, _⟩ := r1.at (i := i) (d := xs[i]) (by simp)
            obtain ⟨b', _, _, _, eb, _, rb, _⟩ := r2.at (i := i) (d := ys[i]) (by simp)
            rw [ha] at ea; cases ea
            rw [hb] at eb; cases eb
            have hc : cmpN n xs[i] ys[i] = true := by
              simp only [cmpN] at h
              exact zip_all h (i := i) (by simp) (by simp)
            have := ih hc ra rb
            show EqR K H n a b (deq (xs.getD i .non) (ys.getD i .non)); rw [List.getD_eq_getElem?_getD, List.getD_eq_getElem?_getD, List.getElem?_eq_getElem hi, List.getElem?_eq_getElem hi2]
            exact this
          · simp only [deq]
            rw [deqs_range, r1.length, r2.length, Bool.and_comm]
            congr 1
        | _ => simp only [cmpN, flatD, Bool.false_and, Bool.false_eq_true] at h
      | ro xs => cases y <;> simp only [cmpN, flatD, Bool.false_and, Bool.false_eq_true] at h
      | exc c => cases y <;> simp only [cmpN, flatD, Bool.false_and, Bool.false_eq_true] at h
      | _ =>
        cases y with
        | lst ys => simp only [cmpN, flatD, Bool.and_false, Bool.false_eq_true] at h
        | tup ys => simp only [cmpN, flatD, Bool.and_false, Bool.false_eq_true] at h
        | ro ys => simp only [cmpN, flatD, Bool.and_false, Bool.false_eq_true] at h
        | exc c => simp only [cmpN, flatD, Bool.and_false, Bool.false_eq_true] at h
        | _ => exact absurd rfl hfl
theorem eqC_of {K : PySem.W.Frag} {H : Hp} {x y : D} {v u : V} {f g : List Addr} {n : Nat} (h : cmpN (n + 1) x y = true) (hm : mixed x y = false) (rx : Rep K H x v f) (ry : Rep K H y u g) : EqC K H n v u (deq x y) := by
  have e := eqR_of (n + 1) h rx ry
  rcases e with ⟨f1, f2, hb⟩ | e | e
  · refine .inl ⟨?_, ?_⟩
    · cases x <;> cases y <;> simp only [mixed, Bool.true_eq_false] at hm <;> simp only [Rep] at rx ry <;> first | (obtain ⟨rfl, _⟩ := rx; obtain ⟨rfl, _⟩ := ry; rfl) | (obtain ⟨_, rfl, _⟩ := rx; cases f1) | (obtain ⟨_, rfl, _⟩ := ry; cases f2) | (obtain ⟨_, _, rfl, _⟩ := rx; cases f1) | (obtain ⟨_, _, _, rfl, _⟩ := rx; cases f1) | (obtain ⟨_, _, rfl, _⟩ := ry; cases f2) | (obtain ⟨_, _, _, rfl, _⟩ := ry; cases f2)
    · cases x <;> cases y <;> simp only [mixed, Bool.true_eq_false] at hm <;> simp only [Rep] at rx ry <;> first
        | (obtain ⟨rfl, _⟩ := rx; obtain ⟨rfl, _⟩ := ry; rw [hb]; first | rfl | exact dec_int.symm | exact dec_bl.symm | exact dec_str.symm | simp [eqV])
        | (obtain ⟨_, rfl, _⟩ := rx; cases f1) | (obtain ⟨_, rfl, _⟩ := ry; cases f2) | (obtain ⟨_, _, rfl, _⟩ := rx; cases f1) | (obtain ⟨_, _, _, rfl, _⟩ := rx; cases f1) | (obtain ⟨_, _, rfl, _⟩ := ry; cases f2) | (obtain ⟨_, _, _, rfl, _⟩ := ry; cases f2)
  · exact .inr (.inl e)
  · exact .inr (.inr e)
theorem rule_eq {K : PySem.W.Frag} {neg : Bool} : Rule2 K (rEqA K neg) (gEq neg) := fun x y z v u f f' H Q h rx ry k => by
  unfold gEq at h
  split at h
  · rename_i hc
    rw [Bool.and_eq_true, Bool.not_eq_true'] at hc
    cases h
    exact ⟨5, deq x y, by decide, eqC_of hc.1 hc.2 rx ry, k _ rep_bl⟩
  · cases h
theorem flat_eq {neg : Bool} : Flat2 (gEq neg) := fun x y z h => by
  unfold gEq at h
  split at h <;> cases h
  rfl
theorem q_eq (hu : X.A.units + 64 < cLine) (ha : QE X a fa) (hb : QE X b fb) : QE X (.Compare a [.Eq] [b] pos) (fB (gEq false) fa fb) := qcmp (op_eqA hu) rule_eq flat_eq ha hb (nomark _)
noncomputable def seqD : D → Option (List D)
  | .lst ds => some ds
  | .tup ds => some ds
  | .ro ds => some ds
  | _ => none
noncomputable def gIn (neg : Bool) (x y : D) : Option D := match seqD y with
  | some ds => if flatD x && ds.all flatD then some (.bl (if neg then !ds.any fun z => deq z x else ds.any fun z => deq z x)) else none
  | none => none
theorem seq_read {K : PySem.W.Frag} {H : Hp} {d : D} {ds : List D} {v : V} {f : List Addr} (h : seqD d = some ds) (r : Rep K H d v f) : ∃ p xs g, v = .ref p ∧ (SqL K H p xs ∨ SqT K H p xs) ∧ Reps K H ds xs g ∧ g.Sublist f := by
  cases d with
  | lst es =>
    cases h
    obtain ⟨p, xs, g, rfl, e, rfl, rs⟩ := r.lst_
    exact ⟨p, xs, g, rfl, .inl (SqL.of e), rs, List.sublist_cons_self _ _⟩
  | tup es =>
    cases h
    obtain ⟨p, xs, rfl, e, rs⟩ := r.tup_
    exact ⟨p, xs, f, rfl, .inr e, rs, List.Sublist.refl _⟩
  | ro es =>
    cases h
    obtain ⟨p, xs, rfl, e, rs⟩ := r.ro_
    exact ⟨p, xs, f, rfl, .inl e.sq, rs, List.Sublist.refl _⟩
  | _ => cases h
theorem flats_read {K : PySem.W.Frag} {H : Hp} {x : D} {v : V} {fx : List Addr} (hx : flatD x = true) (rx : Rep K H x v fx) : ∀ {ds : List D} {xs : List V} {g : List Addr}, ds.all flatD = true → Reps K H ds xs g → xs.all flatV = true ∧ (xs.any fun y => eqV y v) = (ds.any fun z => deq z x) ∧ (xs.countP fun y => eqV y v) = ds.countP fun z => deq z x
  | [], xs, g, _, r => by simp only [Reps] at r; obtain ⟨rfl, rfl⟩ := r; exact ⟨rfl, rfl, rfl⟩
  | d :: ds, xs, g, h, r => by
    simp only [Reps] at r
    obtain ⟨y, ys, g1, g2, rfl, rfl, r1, r2⟩ := r
    rw [List.all_cons, Bool.and_eq_true] at h
    obtain ⟨i1, i2, i3⟩ := flats_read hx rx h.2 r2
    obtain ⟨j1, _, j3⟩ := rep_flatV h.1 hx r1 rx
    refine ⟨?_, ?_, ?_⟩
    · rw [List.all_cons, j1, i1]; rfl
    · rw [List.any_cons, List.any_cons, i2, j3]
    · rw [List.countP_cons, List.countP_cons, i3, j3]
theorem rep_flat_v {K : PySem.W.Frag} {H : Hp} {x : D} {v : V} {f : List Addr} (hx : flatD x = true) (rx : Rep K H x v f) : flatV v = true := by
  cases x <;> simp only [flatD, Bool.false_eq_true] at hx <;> simp only [Rep] at rx <;> obtain ⟨rfl, _⟩ := rx <;> rfl
theorem rule_in {K : PySem.W.Frag} {neg : Bool} : Rule2 K (rIn K neg) (gIn neg) := fun x y z v u f f' H Q h rx ry k => by
  unfold gIn at h
  split at h
  · rename_i ds e
    split at h
    · rename_i hc
      rw [Bool.and_eq_true] at hc
      cases h
      obtain ⟨p, xs, g, rfl, sq, rs, _⟩ := seq_read e ry
      obtain ⟨a1, a2, _⟩ := flats_read hc.1 rx hc.2 rs
      refine ⟨p, xs, rfl, sq, rep_flat_v hc.1 rx, a1, ?_⟩
      have : inV v xs = ds.any fun z => deq z x := a2
      rw [this]
      exact k _ rep_bl
    · cases h
  · cases h
theorem flat_in {neg : Bool} : Flat2 (gIn neg) := fun x y z h => by
  unfold gIn at h
  split at h
  · split at h <;> cases h
    rfl
  · cases h
theorem q_in (ha : QE X a fa) (hb : QE X b fb) (hm : behindInMarks .In b = false := by with_unfolding_all rfl) : QE X (.Compare a [.In] [b] pos) (fB (gIn false) fa fb) := qcmp op_in_seq rule_in flat_in ha hb hm
end
end L3
namespace L3
open PySem PySem.Spec PyProof.Rows L2
noncomputable abbrev FT := PEnv → Option (Bool × PEnv)
noncomputable def tQT (K : PySem.W.Frag) (f : FT) : TT := fun σ H Q => ∃ P H0 env fps b env', Holds K P H0 H σ env fps ∧ f env = some (b, env') ∧ ∀ H', Same H H' → Holds K P H0 H' σ env' fps → Sub env' env → Q b H'
noncomputable def QT (X : Cx) (e : Expr) (f : FT) : Prop := PT X e (tQT X.K f)
noncomputable def QW (X : Cx) (e : Expr) (f : FT) : Prop := PW X e (tQT X.K f)
theorem PW.imp {X : Cx} {e : Expr} {t t' : TT} (h : PW X e t) (hi : ∀ σ H Q, t' σ H Q → t σ H Q) : PW X e t' := fun whole pins s σ H Q I q => h whole pins s σ H Q I (hi σ H Q q)
noncomputable def fTst (f : FE) : FT := fun env => (f env).bind fun (x, e) => match x.d with
  | .bl b => some (b, e)
  | _ => none
noncomputable def truD : D → Option Bool
  | .bl b => some b
  | .int i => some (i != 0)
  | .non => some false
  | .lst ds => some (!ds.isEmpty)
  | _ => none
noncomputable def fTru (f : FE) : FT := fun env => (f env).bind fun (x, e) => (truD x.d).map fun b => (b, e)
theorem tst_read {K : PySem.W.Frag} {f : FE} {σ : St} {H : Hp} {Q : Bool → Hp → Prop} (h : tQT K (fTst f) σ H Q) : tQ K f σ H fun x H' => ∃ k, x = .bl k ∧ Q k H' := by
  obtain ⟨P, H0, env, fps, b, env', h, hf, k⟩ := h
  unfold fTst at hf
  simp only [Option.bind_eq_some_iff, Prod.exists] at hf
  obtain ⟨x, e1, h1, h2⟩ := hf
  split at h2
  · rename_i c hc
    cases h2
    refine ⟨P, H0, env, fps, x, _, h, h1, fun v H1 fp g => ?_⟩
    have r := g.rep
    rw [hc] at r
    exact ⟨b, r.bl_, k H1 g.same g.holds g.sub⟩
  · cases h2
section
variable {X : Cx} {a b c : Expr} {fa fb fc : FE} {ft fu : FT} {pos : Pos}
theorem qt_cmp {op : CmpOp} {r : R2} {g : D → D → Option D} (ho : OpR X (compareOp op) r) (hr : Rule2 X.K r g) (hz : Flat2 g) (ha : QE X a fa) (hb : QE X b fb) (hm : behindInMarks op b = false := by rfl) : QT X (.Compare a [op] [b] pos) (fTst (fB g fa fb)) :=
  PT.imp (pt_cmpR ho ha hb hm) fun _ _ _ h => rule2_read hr hz (tst_read h)
theorem qt_lt (ha : QE X a fa) (hb : QE X b fb) : QT X (.Compare a [.Lt] [b] pos) (fTst (fB (gB fun i j => decide (i < j)) fa fb)) := qt_cmp op_lt rule_B flat_gB ha hb (nomark _)
theorem qt_le (ha : QE X a fa) (hb : QE X b fb) : QT X (.Compare a [.LtE] [b] pos) (fTst (fB (gB fun i j => decide (i ≤ j)) fa fb)) := qt_cmp op_le rule_B flat_gB ha hb (nomark _)
theorem qt_gt (ha : QE X a fa) (hb : QE X b fb) : QT X (.Compare a [.Gt] [b] pos) (fTst (fB (gB fun i j => decide (j < i)) fa fb)) := qt_cmp op_gt rule_B flat_gB ha hb (nomark _)
theorem qt_eq (hu : X.A.units + 64 < cLine) (ha : QE X a fa) (hb : QE X b fb) : QT X (.Compare a [.Eq] [b] pos) (fTst (fB (gEq false) fa fb)) := qt_cmp (op_eqA hu) rule_eq flat_eq ha hb (nomark _)
theorem qt_ne (hu : X.A.units + 64 < cLine) (ha : QE X a fa) (hb : QE X b fb) : QT X (.Compare a [.NotEq] [b] pos) (fTst (fB (gEq true) fa fb)) := qt_cmp (op_neA hu) rule_eq flat_eq ha hb (nomark _)
theorem qt_in (ha : QE X a fa) (hb : QE X b fb) (hm : behindInMarks .In b = false := by with_unfolding_all rfl) : QT X (.Compare a [.In] [b] pos) (fTst (fB (gIn false) fa fb)) := qt_cmp op_in_seq rule_in flat_in ha hb hm
theorem qt_val (ha : QE X a fa) (he : ∀ whole, isTrue a X.env whole = (do let v ← whole; standAt a.pos; holding [v] (truthy v)) := by intro _; rfl) : QT X a (fTru fa) := by
  refine PT.imp (pt_truth ha he) ?_
  rintro σ H Q ⟨P, H0, env, fps, b, env', h, hf, k⟩
  unfold fTru at hf
  simp only [Option.bind_eq_some_iff, Prod.exists, Option.map_eq_some_iff] at hf
  obtain ⟨x, e1, h1, c, h2, h3⟩ := hf
  cases h3
  refine ⟨P, H0, env, fps, x, _, h, h1, fun v H1 fp g => ⟨b, ?_, k H1 g.same g.holds g.sub⟩⟩
  have r := g.rep
  cases hx : x.d with
  | bl i => rw [hx] at r h2; cases h2; obtain rfl := r.bl_; rfl
  | int i => rw [hx] at r h2; cases h2; obtain rfl := r.int_; rfl
  | non => rw [hx] at r h2; cases h2; simp only [Rep] at r; obtain ⟨rfl, _⟩ := r; rfl
  | lst ds =>
    rw [hx] at r h2
    cases h2
    obtain ⟨p, xs, g', rfl, e, _, rs⟩ := r.lst_
    refine .inl ⟨xs, SqL.of e, ?_⟩
    have := rs.length
    cases xs <;> cases ds <;> simp_all
  | _ => rw [hx] at h2; cases h2
noncomputable def fAndT (f g : FT) : FT := fun env => (f env).bind fun (b, e) => if b = true then g e else some (false, e)
noncomputable def fOrT (f g : FT) : FT := fun env => (f env).bind fun (b, e) => if b = true then some (true, e) else g e
noncomputable def fNotT (f : FT) : FT := fun env => (f env).map fun (b, e) => (!b, e)
theorem qt_not (ha : QT X a ft) : QT X (.UnaryOp .Not a pos) (fNotT ft) := by
  refine PT.imp (pt_not ha) ?_
  rintro σ H Q ⟨P, H0, env, fps, b, env', h, hf, k⟩
  unfold fNotT at hf
  simp only [Option.map_eq_some_iff, Prod.exists] at hf
  obtain ⟨c, e1, h1, h2⟩ := hf
  cases h2
  exact ⟨P, H0, env, fps, c, _, h, h1, fun H1 s1 g1 b1 => k H1 s1 g1 b1⟩
theorem qw_and1 (ha : QT X a ft) : QW X (.BoolOp .And [a] pos) ft := pw_and1 ha
theorem qw_or1 (ha : QT X a ft) : QW X (.BoolOp .Or [a] pos) ft := pw_or1 ha
theorem qw_and {rest : List Expr} (ha : QT X a ft) (hb : QW X (.BoolOp .And (b :: rest) pos) fu) : QW X (.BoolOp .And (a :: b :: rest) pos) (fAndT ft fu) := by
  refine PW.imp (pw_and ha hb) ?_
  rintro σ H Q ⟨P, H0, env, fps, c, env', h, hf, k⟩
  unfold fAndT at hf
  simp only [Option.bind_eq_some_iff, Prod.exists] at hf
  obtain ⟨d, e1, h1, h2⟩ := hf
  refine ⟨P, H0, env, fps, d, e1, h, h1, fun H1 s1 g1 b1 => ?_⟩
  cases d with
  | true => rw [if_pos rfl] at h2 ⊢; exact ⟨P, H0, e1, fps, c, env', g1, h2, fun H2 s2 g2 b2 => k H2 (s1.trans s2) g2 (b2.trans b1)⟩
  | false => rw [if_neg Bool.false_ne_true] at h2 ⊢; cases h2; exact k H1 s1 g1 b1
theorem qw_or {rest : List Expr} (ha : QT X a ft) (hb : QW X (.BoolOp .Or (b :: rest) pos) fu) : QW X (.BoolOp .Or (a :: b :: rest) pos) (fOrT ft fu) := by
  refine PW.imp (pw_or ha hb) ?_
  rintro σ H Q ⟨P, H0, env, fps, c, env', h, hf, k⟩
  unfold fOrT at hf
  simp only [Option.bind_eq_some_iff, Prod.exists] at hf
  obtain ⟨d, e1, h1, h2⟩ := hf
  refine ⟨P, H0, env, fps, d, e1, h, h1, fun H1 s1 g1 b1 => ?_⟩
  cases d with
  | true => rw [if_pos rfl] at h2 ⊢; cases h2; exact k H1 s1 g1 b1
  | false => rw [if_neg Bool.false_ne_true] at h2 ⊢; exact ⟨P, H0, e1, fps, c, env', g1, h2, fun H2 s2 g2 b2 => k H2 (s1.trans s2) g2 (b2.trans b1)⟩
theorem QW.qt (h : QW X a ft) : QT X a ft := PW.pt h
noncomputable def fAnd (f g : FE) : FE := fun env => (f env).bind fun (x, e) => match x.d with
  | .bl true => g e
  | .bl false => some (⟨.bl false, 2, []⟩, e)
  | _ => none
noncomputable def fOr (f g : FE) : FE := fun env => (f env).bind fun (x, e) => match x.d with
  | .bl false => g e
  | .bl true => some (⟨.bl true, 2, []⟩, e)
  | _ => none
theorem q_one {op : BoolOp} (h : QE X a fa) : QE X (.BoolOp op [a] pos) fa := pe_one h
theorem q_and {rest : List Expr} (ha : QE X a fa) (hb : QE X (.BoolOp .And (b :: rest) pos) fb) : QE X (.BoolOp .And (a :: b :: rest) pos) (fAnd fa fb) := by
  refine PE.imp (pe_and ha hb) ?_
  rintro σ H Q ⟨P, H0, env, fps, w, env', h, hf, k⟩
  unfold fAnd at hf
  simp only [Option.bind_eq_some_iff, Prod.exists] at hf
  obtain ⟨x, e1, h1, h2⟩ := hf
  refine ⟨P, H0, env, fps, x, e1, h, h1, fun v H1 fp g1 => ?_⟩
  have r := g1.rep
  split at h2
  · rename_i hx
    rw [hx] at r
    refine ⟨true, r.bl_, ?_⟩
    rw [if_pos rfl]
    exact ⟨P, H0, e1, fps, w, env', g1.holds, h2, fun u H2 fp2 g2 => k u H2 fp2 (.after g1.same g1.sub g2)⟩
  · rename_i hx
    rw [hx] at r
    cases h2
    refine ⟨false, r.bl_, ?_⟩
    rw [if_neg Bool.false_ne_true]
    exact k _ H1 [] (.scal rfl g1.same g1.holds g1.sub rep_bl)
  · cases h2
noncomputable def fNot (f : FE) : FE := fun env => (f env).bind fun (x, e) => match x.d with
  | .bl b => some (⟨.bl (!b), 2, []⟩, e)
  | _ => none
theorem q_not (ha : QE X a fa) : QE X (.UnaryOp .Not a pos) (fNot fa) := by
  refine PE.imp (pe_not ha) ?_
  rintro σ H Q ⟨P, H0, env, fps, w, env', h, hf, k⟩
  unfold fNot at hf
  simp only [Option.bind_eq_some_iff, Prod.exists] at hf
  obtain ⟨x, e1, h1, h2⟩ := hf
  split at h2
  · rename_i c hx
    cases h2
    refine ⟨P, H0, env, fps, x, _, h, h1, fun v H1 fp g1 => ?_⟩
    have r := g1.rep
    rw [hx] at r
    exact ⟨c, r.bl_, k _ H1 [] (.scal rfl g1.same g1.holds g1.sub rep_bl)⟩
  · cases h2
noncomputable def fIf (t : FT) (f g : FE) : FE := fun env => (t env).bind fun (b, e) => if b = true then f e else g e
theorem q_if (hc : QT X c ft) (ha : QE X a fa) (hb : QE X b fb) : QE X (.IfExp c a b pos) (fIf ft fa fb) := by
  refine PE.imp (pe_ifExp hc ha hb) ?_
  rintro σ H Q ⟨P, H0, env, fps, w, env', h, hf, k⟩
  unfold fIf at hf
  simp only [Option.bind_eq_some_iff, Prod.exists] at hf
  obtain ⟨d, e1, h1, h2⟩ := hf
  refine ⟨P, H0, env, fps, d, e1, h, h1, fun H1 s1 g1 b1 => ?_⟩
  cases d with
  | true => rw [if_pos rfl] at h2 ⊢; exact ⟨P, H0, e1, fps, w, env', g1, h2, fun u H2 fp2 g2 => k u H2 fp2 (.after s1 b1 g2)⟩
  | false => rw [if_neg Bool.false_ne_true] at h2 ⊢; exact ⟨P, H0, e1, fps, w, env', g1, h2, fun u H2 fp2 g2 => k u H2 fp2 (.after s1 b1 g2)⟩
noncomputable def fChain (g g' : D → D → Option D) (fa fb fc : FE) : FE := fun env => (fa env).bind fun (x, e1) => (fb e1).bind fun (y, e2) => match g x.d y.d with
  | some (.bl true) => (fc e2).bind fun (z, e3) => (g' y.d z.d).bind fun w => some (⟨w, 2, []⟩, e3)
  | some (.bl false) => some (⟨.bl false, 2, []⟩, e2)
  | _ => none
theorem chain_read {K : PySem.W.Frag} {r r' : R2} {g g' : D → D → Option D} (hr : Rule2 K r g) (hr' : Rule2 K r' g') (hz' : Flat2 g') {σ : St} {H : Hp} {Q : VK} (h : tQ K (fChain g g' fa fb fc) σ H Q) : tChain r r' (tQ K fa) (tQ K fb) (tQ K fc) σ H Q := by
  obtain ⟨P, H0, env, fps, w, env', h, hf, k⟩ := h
  unfold fChain at hf
  simp only [Option.bind_eq_some_iff, Prod.exists] at hf
  obtain ⟨x, e1, h1, y, e2, h2, h3⟩ := hf
  refine tQ.two h h1 h2 fun v u H1 H2 fp1 fp2 g1 g2 => ?_
  have rv := g1.rep.mono g2.same
  split at h3
  · rename_i hg
    simp only [Option.bind_eq_some_iff, Prod.exists] at h3
    obtain ⟨z, e3, h4, t, h5, h6⟩ := h3
    cases h6
    refine hr x.d y.d _ v u fp1 fp2 H2 _ hg rv g2.rep fun q rq => ⟨true, rq.bl_, ?_⟩
    rw [if_pos rfl]
    refine ⟨P, H0, e2, fps, z, _, g2.holds, h4, fun p H3 fp3 g3 => ?_⟩
    exact hr' y.d z.d t u p fp2 fp3 H3 Q h5 (g2.rep.mono g3.same) g3.rep fun q rq => k q H3 [] (.scal (hz' _ _ _ h5) ((g1.same.trans g2.same).trans g3.same) g3.holds ((g3.sub.trans g2.sub).trans g1.sub) rq)
  · rename_i hg
    cases h3
    refine hr x.d y.d _ v u fp1 fp2 H2 _ hg rv g2.rep fun q rq => ⟨false, rq.bl_, ?_⟩
    rw [if_neg Bool.false_ne_true]
    exact k _ H2 [] (.scal rfl (g1.same.trans g2.same) g2.holds (g2.sub.trans g1.sub) rep_bl)
  · cases h3
theorem q_chain {op op' : CmpOp} {r r' : R2} {g g' : D → D → Option D} (ho : OpR X (compareOp op) r) (hr : Rule2 X.K r g) (ho' : OpR X (compareOp op') r') (hr' : Rule2 X.K r' g') (hz' : Flat2 g') (ha : QE X a fa) (hb : QE X b fb) (hc : QE X c fc)
    (hm : lastMarks [op, op'] [b, c] = false := by with_unfolding_all rfl) : QE X (.Compare a [op, op'] [b, c] pos) (fChain g g' fa fb fc) := PE.imp (pe_chain ho ho' ha hb hc hm) fun _ _ _ h => chain_read hr hr' hz' h
noncomputable def fN (g : List D → Option D) (fs : FA) : FE := fun env => (fs env).bind fun (xs, e) => (g (xs.map Val.d)).bind fun z => some (⟨z, 2, []⟩, e)
noncomputable def RuleN (K : PySem.W.Frag) (r : List V → Hp → VK → Prop) (g : List D → Option D) : Prop := ∀ ds z vs f H Q, g ds = some z → Reps K H ds vs f → (∀ w, Rep K H z w [] → Q w H) → r vs H Q
noncomputable def FlatN (g : List D → Option D) : Prop := ∀ ds z, g ds = some z → z.nodes = 0
theorem ruleN_read {K : PySem.W.Frag} {r : List V → Hp → VK → Prop} {g : List D → Option D} (hr : RuleN K r g) (hz : FlatN g) {fs : FA} {σ : St} {H : Hp} {Q : VK} (h : tQ K (fN g fs) σ H Q) : tCB r (tQA K fs) σ H Q := by
  obtain ⟨P, H0, env, fps, w, env', h, hf, k⟩ := h
  unfold fN at hf
  simp only [Option.bind_eq_some_iff, Prod.exists] at hf
  obtain ⟨xs, e1, h1, z, h2, h3⟩ := hf
  cases h3
  exact ⟨P, H0, env, fps, xs, _, h, h1, fun vs H1 fs g1 => hr _ z vs _ H1 Q h2 g1.reps fun q rq => k q H1 [] (.scal (hz _ _ h2) g1.same g1.holds g1.sub rq)⟩
theorem q_callB {x : Str} {id : String} {r : List V → Hp → VK → Prop} {g : List D → Option D} {e : Expr} {es : List Expr} {fs : FA} {p : Pos} (hc : CallR X (.builtin id) r) (hr : RuleN X.K r g) (hz : FlatN g) (hg : Gl X x) (hm : X.mg x = none) (hv : bootBuiltins x = some (.builtin id)) (ha : QA X (e :: es) fs)
    (hn : x ≠ "__name__" := by decide) (hdb : (x == ("__debug__" : Str)) = false := by decide) (he : starEach (e :: es) X.env = (false, eval e X.env) :: starEach es X.env := by rfl) (hpl : (backTo pos (starEach es X.env)).any (·.1) = false := by rfl) : QE X (.Call (.Name x p) (e :: es) [] pos) (fN g fs) :=
  PE.imp (pe_callB hc hg hm hv ha hn hdb he hpl) fun _ _ _ h => ruleN_read hr hz h
noncomputable def gLen : List D → Option D
  | [.str x] => some (.int x.length)
  | [d] => (seqD d).map fun ds => .int ds.length
  | _ => none
theorem Reps.one_ {K : PySem.W.Frag} {H : Hp} {d : D} {vs : List V} {f : List Addr} (h : Reps K H [d] vs f) : ∃ v, vs = [v] ∧ Rep K H d v f := by
  simp only [Reps] at h
  obtain ⟨x, r, g, g', rfl, rfl, h1, rfl, rfl⟩ := h
  exact ⟨x, rfl, by simpa using h1⟩
theorem rule_len {K : PySem.W.Frag} : RuleN K (fun xs H Q => (∃ p ys, xs = [.ref p] ∧ (SqL K H p ys ∨ SqT K H p ys) ∧ Q (.int ys.length) H) ∨ ∃ z, xs = [.str z] ∧ z.length ≤ sizeLine ∧ Q (.int z.length) H) gLen := fun ds z vs f H Q h r k => by
  unfold gLen at h
  split at h
  · cases h
    obtain ⟨v, rfl, rv⟩ := r.one_
    simp only [Rep] at rv
    obtain ⟨rfl, hl, _⟩ := rv
    exact .inr ⟨_, rfl, hl, k _ rep_int⟩
  · rename_i d hd
    rw [Option.map_eq_some_iff] at h
    obtain ⟨es, h1, rfl⟩ := h
    obtain ⟨v, rfl, rv⟩ := r.one_
    obtain ⟨p, xs, g, rfl, sq, rs, _⟩ := seq_read h1 rv
    refine .inl ⟨p, xs, rfl, sq, ?_⟩
    rw [rs.length]
    exact k _ rep_int
  · cases h
theorem flat_len : FlatN gLen := fun ds z h => by
  unfold gLen at h
  split at h
  · cases h; rfl
  · rw [Option.map_eq_some_iff] at h
    obtain ⟨es, h1, rfl⟩ := h
    rfl
  · cases h
theorem q_len {e : Expr} {fs : FA} {p : Pos} (hg : Gl X "len") (hm : X.mg "len" = none) (ha : QA X [e] fs) (he : starEach [e] X.env = (false, eval e X.env) :: starEach [] X.env := by rfl) (hpl : (backTo pos (starEach [] X.env)).any (·.1) = false := by rfl) : QE X (.Call (.Name "len" p) [e] [] pos) (fN gLen fs) := q_callB (call_len_seq.or call_len_str) rule_len flat_len hg hm PySem.boot_len ha (by decide) (by decide) he hpl
noncomputable def boolsD : List D → Option (List Bool)
  | [] => some []
  | .bl b :: ds => (boolsD ds).map fun bs => b :: bs
  | _ => none
noncomputable def intsD : List D → Option (List Int)
  | [] => some []
  | .int i :: ds => (intsD ds).map fun ns => i :: ns
  | _ => none
theorem boolsD_read {K : PySem.W.Frag} {H : Hp} : ∀ {ds : List D} {bs : List Bool} {xs : List V} {g : List Addr}, boolsD ds = some bs → Reps K H ds xs g → xs = bs.map V.bl
  | [], bs, xs, g, h, r => by cases h; simp only [Reps] at r; rw [r.1]; rfl
  | .bl b :: ds, bs, xs, g, h, r => by
    simp only [boolsD, Option.map_eq_some_iff] at h
    obtain ⟨cs, h, rfl⟩ := h
    simp only [Reps] at r
    obtain ⟨x, ys, g1, g2, rfl, rfl, r1, r2⟩ := r
    rw [r1.bl_, boolsD_read h r2]
    rfl
  | .int _ :: _, _, _, _, h, _ => by cases h
  | .non :: _, _, _, _, h, _ => by cases h
  | .str _ :: _, _, _, _, h, _ => by cases h
  | .lst _ :: _, _, _, _, h, _ => by cases h
  | .tup _ :: _, _, _, _, h, _ => by cases h
  | .ro _ :: _, _, _, _, h, _ => by cases h
  | .exc _ :: _, _, _, _, h, _ => by cases h
theorem intsD_read {K : PySem.W.Frag} {H : Hp} : ∀ {ds : List D} {bs : List Int} {xs : List V} {g : List Addr}, intsD ds = some bs → Reps K H ds xs g → xs = bs.map V.int
  | [], bs, xs, g, h, r => by cases h; simp only [Reps] at r; rw [r.1]; rfl
  | .int b :: ds, bs, xs, g, h, r => by
    simp only [intsD, Option.map_eq_some_iff] at h
    obtain ⟨cs, h, rfl⟩ := h
    simp only [Reps] at r
    obtain ⟨x, ys, g1, g2, rfl, rfl, r1, r2⟩ := r
    rw [r1.int_, intsD_read h r2]
    rfl
  | .bl _ :: _, _, _, _, h, _ => by cases h
  | .non :: _, _, _, _, h, _ => by cases h
  | .str _ :: _, _, _, _, h, _ => by cases h
  | .lst _ :: _, _, _, _, h, _ => by cases h
  | .tup _ :: _, _, _, _, h, _ => by cases h
  | .ro _ :: _, _, _, _, h, _ => by cases h
  | .exc _ :: _, _, _, _, h, _ => by cases h
noncomputable def gAll : List D → Option D
  | [.lst ds] => (boolsD ds).map fun bs => .bl (bs.all id)
  | _ => none
noncomputable def gSum : List D → Option D
  | [.lst ds] => (intsD ds).map fun ns => .int ns.sum
  | _ => none
theorem rule_all {K : PySem.W.Frag} : RuleN K (fun xs H Q => ∃ (p : Addr) (bs : List Bool), xs = [.ref p] ∧ SqL K H p (bs.map V.bl) ∧ Q (.bl (bs.all id)) H) gAll := fun ds z vs f H Q h r k => by
  unfold gAll at h
  split at h
  · rw [Option.map_eq_some_iff] at h
    obtain ⟨bs, h1, rfl⟩ := h
    obtain ⟨v, rfl, rv⟩ := r.one_
    obtain ⟨p, xs, g, rfl, e, rfl, rs⟩ := rv.lst_
    rw [boolsD_read h1 rs] at e
    exact ⟨p, bs, rfl, SqL.of e, k _ rep_bl⟩
  · cases h
theorem rule_sum {K : PySem.W.Frag} : RuleN K (fun xs H Q => ∃ (p : Addr) (ns : List Int), xs = [.ref p] ∧ SqL K H p (ns.map V.int) ∧ Q (.int ns.sum) H) gSum := fun ds z vs f H Q h r k => by
  unfold gSum at h
  split at h
  · rw [Option.map_eq_some_iff] at h
    obtain ⟨bs, h1, rfl⟩ := h
    obtain ⟨v, rfl, rv⟩ := r.one_
    obtain ⟨p, xs, g, rfl, e, rfl, rs⟩ := rv.lst_
    rw [intsD_read h1 rs] at e
    exact ⟨p, bs, rfl, SqL.of e, k _ rep_int⟩
  · cases h
theorem q_all {e : Expr} {fs : FA} {p : Pos} (hc : X.calm = true) (hg : Gl X "all") (hm : X.mg "all" = none) (ha : QA X [e] fs) (he : starEach [e] X.env = (false, eval e X.env) :: starEach [] X.env := by rfl) (hpl : (backTo pos (starEach [] X.env)).any (·.1) = false := by rfl) : QE X (.Call (.Name "all" p) [e] [] pos) (fN gAll fs) :=
  q_callB (call_all_bools hc) rule_all (fun ds z h => by unfold gAll at h; split at h; rw [Option.map_eq_some_iff] at h; obtain ⟨_, _, rfl⟩ := h; rfl; cases h) hg hm PyProof.Rows.boot_all ha (by decide) (by decide) he hpl
theorem q_sum {e : Expr} {fs : FA} {p : Pos} (hc : X.calm = true) (hg : Gl X "sum") (hm : X.mg "sum" = none) (ha : QA X [e] fs) (he : starEach [e] X.env = (false, eval e X.env) :: starEach [] X.env := by rfl) (hpl : (backTo pos (starEach [] X.env)).any (·.1) = false := by rfl) : QE X (.Call (.Name "sum" p) [e] [] pos) (fN gSum fs) :=
  q_callB (call_sum_ints hc) rule_sum (fun ds z h => by unfold gSum at h; split at h; rw [Option.map_eq_some_iff] at h; obtain ⟨_, _, rfl⟩ := h; rfl; cases h) hg hm PyProof.Rows.boot_sum ha (by decide) (by decide) he hpl
noncomputable def gMax : List D → Option D
  | [.int i, .int j] => some (.int (if j > i then j else i))
  | _ => none
noncomputable def gMin : List D → Option D
  | [.int i, .int j] => some (.int (if j < i then j else i))
  | _ => none
noncomputable def fList (fs : FA) : FE := fun env => (fs env).bind fun (xs, e) => match xs with
  | [x] => (seqD x.d).map fun ds => (lvL ds (decide (2 ≤ x.l)) x.S, e)
  | _ => none
theorem q_list {e : Expr} {fa : FE} {p : Pos} (hg : Gl X "list") (hm : X.mg "list" = none) (ha : QE X e fa) (hs : starEach [e] X.env = (false, eval e X.env) :: starEach [] X.env := by rfl) (hpl : (backTo pos (starEach [] X.env)).any (·.1) = false := by rfl) : QE X (.Call (.Name "list" p) [e] [] pos) (fList (fCons fa fNil)) := by
  refine PE.imp (pe_callTy call_list_of hg hm PyProof.Rows.boot_list (pa_cons ha pa_nil hs) (by decide) (by decide) hs hpl) ?_
  rintro σ H Q ⟨P, H0, env, fps, w, env', h, hf, k⟩
  unfold fList fCons fNil at hf
  simp only [Option.bind_eq_some_iff, Prod.exists] at hf
  obtain ⟨xs, e1, ⟨x, e2, h1, ys, e3, h2, h3⟩, h4⟩ := hf
  cases h2
  cases h3
  simp only [Option.map_eq_some_iff] at h4
  obtain ⟨ds, h5, h6⟩ := h4
  cases h6
  refine ⟨P, H0, env, fps, x, _, h, h1, fun v H1 fp g1 => ?_⟩
  obtain ⟨q, us, g, rfl, sq, rs, sl⟩ := seq_read h5 g1.rep
  refine ⟨q, us, rfl, sq, fun n hn => k _ _ (n :: g) (got_new g1.same g1.holds g1.sub rs (fun b hb => ?_) (fun ht => ?_) hn)⟩
  · unfold lvL
    split
    · rename_i hc
      rcases hc with hc | hc
      · have hl := rs.len
        rw [hc] at hl
        rw [List.eq_nil_of_length_eq_zero hl] at hb
        cases hb
      · rcases g1.from_ b (sl.subset hb) with z | ⟨j, lj, hj, _⟩
        · exact .inl z
        · exact .inr ⟨j, lj, hj, .inr fun l => ((g1.own.deep (by simpa using hc)).2 b (sl.subset hb)).2 ⟨j, l, hj⟩⟩
    · exact g1.from_ b (sl.subset hb)
  · have d := g1.own.deep (by simpa using ht)
    exact ⟨sl.nodup d.1, fun b hb => d.2 b (sl.subset hb)⟩
end
end L3
namespace L3
open PySem PySem.Spec PyProof.Rows L2
structure Items where
  ds : List D
  l : Nat
  S : List Nat
noncomputable abbrev FI := PEnv → Option (Items × PEnv)
noncomputable def dropS (S : List Nat) (env : PEnv) : PEnv := env.mapIdx fun i o => if i ∈ S then o.map fun p => (p.1, 0) else o
theorem dropS_get (S : List Nat) (env : PEnv) (j : Nat) : (dropS S env)[j]? = env[j]?.map fun o => if j ∈ S then o.map fun p => (p.1, 0) else o := by
  unfold dropS
  rw [List.getElem?_mapIdx]
theorem dropS_nil (env : PEnv) : dropS [] env = env := by
  apply List.ext_getElem?
  intro j
  rw [dropS_get]
  simp
theorem dropS_len (S : List Nat) (env : PEnv) : (dropS S env).length = env.length := by unfold dropS; simp
theorem dropS_some {S : List Nat} {env : PEnv} {j : Nat} {d : D} {l : Nat} (h : (dropS S env)[j]? = some (some (d, l))) : ∃ l', env[j]? = some (some (d, l')) ∧ ((j ∈ S ∧ l = 0) ∨ (j ∉ S ∧ l = l')) := by
  rw [dropS_get] at h
  cases e : env[j]? with
  | none => rw [e] at h; cases h
  | some o =>
    rw [e] at h
    have h : (if j ∈ S then o.map fun p => (p.1, 0) else o) = some (d, l) := Option.some.inj h
    by_cases hj : j ∈ S
    · rw [if_pos hj] at h
      cases o with
      | none => cases h
      | some p =>
        obtain ⟨d', l'⟩ := p
        cases h
        exact ⟨l', rfl, .inl ⟨hj, rfl⟩⟩
    · rw [if_neg hj] at h
      exact ⟨l, by rw [h], .inr ⟨hj, rfl⟩⟩
theorem dropS_live {S : List Nat} {env : PEnv} {j : Nat} (h : Live (dropS S env) j) : Live env j := by
  obtain ⟨⟨d, l⟩, e⟩ := h
  obtain ⟨l', e', _⟩ := dropS_some e
  exact ⟨_, e'⟩
noncomputable def Owned (env : PEnv) (fps : Nat → List Addr) (b : Addr) : Prop := ∃ (k : Nat) (d : D) (l : Nat), env[k]? = some (some (d, l)) ∧ b ∈ fps k ∧ (2 ≤ l ∨ (1 ≤ l ∧ (∃ ds, d = .lst ds) ∧ ∃ g, fps k = b :: g))
structure Feeds (J : It) (a : Option Addr) (H1 : Hp) (xs : List V) : Prop where
  go : ∀ H', (∀ p, a = some p → H' p = H1 p) → ∀ (i : Nat) x, xs[i]? = some x → J.go i H' ∧ ∀ y H'', J.yld i H' y H'' → H'' = H' ∧ y = x
  stop : ∀ H', (∀ p, a = some p → H' p = H1 p) → ∀ i, xs.length ≤ i → J.stop i H'
structure GotI (K : PySem.W.Frag) (P : Addr → Prop) (H0 H H1 : Hp) (σ : St) (env env' : PEnv) (fps : Nat → List Addr) (it : Items) (xs : List V) (g : List Addr) (a : Option Addr) : Prop where
  same : Same H H1
  holds : Holds K P H0 H1 σ env' fps
  sub : Sub env' env
  reps : Reps K H1 it.ds xs g
  from_ : ∀ b ∈ g, H b = none ∨ ∃ j, Live env j ∧ b ∈ fps j ∧ (j ∈ it.S ∨ ¬ Live env' j)
  own : 2 ≤ it.l → g.Nodup ∧ ∀ b ∈ g, H0 b = none ∧ ¬ ∃ k, Live env' k ∧ b ∈ fps k
  prot : ∀ p, a = some p → H1 p ≠ none ∧ (2 ≤ it.l → p ∉ g) ∧ ¬ Owned (dropS it.S env') fps p
noncomputable def tQI (K : PySem.W.Frag) (fi : FI) : TI := fun σ H R => ∃ P H0 env fps it env', Holds K P H0 H σ env fps ∧ fi env = some (it, env') ∧ ∀ H1 xs g J a, GotI K P H0 H H1 σ env env' fps it xs g a → Feeds J a H1 xs → R J H1
noncomputable def QI (X : Cx) (tg iter : Expr) (fi : FI) : Prop := PI X tg iter (tQI X.K fi)
theorem PI.imp {X : Cx} {tg e : Expr} {t t' : TI} (h : PI X tg e t) (hi : ∀ σ H R, t' σ H R → t σ H R) : PI X tg e t' := fun pins s σ H R I q => h pins s σ H R I (hi σ H R q)
noncomputable def fiL (f : FE) : FI := fun env => (f env).bind fun (x, e) => match x.d with
  | .lst ds => some (⟨ds, x.l, x.S⟩, e)
  | _ => none
theorem feeds_list {K : PySem.W.Frag} {H1 : Hp} {p : Addr} {xs : List V} (e : H1 p = some (.lst xs)) : Feeds (Itl K p) (some p) H1 xs where
  go := fun H' hp i x hx => by
    have e' : H' p = some (.lst xs) := (hp p rfl).trans e
    refine ⟨⟨xs, x, SqL.of e', hx⟩, fun y H'' hy => ⟨hy.1, ?_⟩⟩
    have := hy.2 xs (SqL.of e')
    rw [hx] at this
    exact (Option.some.inj this).symm
  stop := fun H' hp i hi => ⟨xs, SqL.of ((hp p rfl).trans e), hi⟩
section
variable {K : PySem.W.Frag} {P : Addr → Prop} {H0 H H1 : Hp} {σ : St} {env env' : PEnv} {fps : Nat → List Addr} {x : Val} {v : V} {fp : List Addr}
theorem Got.unowned (h : Holds K P H0 H σ env fps) (g : Got K P H0 H H1 σ env env' fps x v fp) {b : Addr} (hb : b ∈ fp) : ¬ Owned (dropS x.S env') fps b := by
  rintro ⟨k, d, l, ek, hk, hl⟩
  obtain ⟨l', e', hS⟩ := dropS_some ek
  rcases hS with ⟨_, rfl⟩ | ⟨hS, rfl⟩
  · rcases hl with hl | ⟨hl, _⟩ <;> omega
  have ek0 := g.sub.2.1 k _ e'
  obtain ⟨u, _, _, o⟩ := h.slot k d l ek0
  rcases g.from_ b hb with z | ⟨j, lj, hj, z⟩
  · exact h.dom ⟨_, ek0⟩ hk z
  · have hjk : j ≠ k := by
      rintro rfl
      rcases z with z | z
      · exact hS z
      · exact z ⟨_, e'⟩
    rcases hl with hl | ⟨hl, hd, gg, hgg⟩
    · exact ((o.deep hl).2 b hk).2 ⟨j, hjk, lj, hj⟩
    · obtain ⟨a, g', xs, e1, _, _, _, _, e6⟩ := o.top hl hd
      rw [hgg] at e1
      cases e1
      exact e6 ⟨j, hjk, lj, hj⟩
end
section
variable {X : Cx} {tg : Expr}
theorem qi_list {l : Expr} {f : FE} (hl : QE X l f) : QI X tg l (fiL f) := by
  refine PI.imp (pi_list hl) ?_
  rintro σ H R ⟨P, H0, env, fps, it, env', h, hf, k⟩
  unfold fiL at hf
  simp only [Option.bind_eq_some_iff, Prod.exists] at hf
  obtain ⟨x, e1, h1, h2⟩ := hf
  split at h2
  · rename_i ds hx
    simp only [Option.some.injEq, Prod.mk.injEq] at h2
    obtain ⟨rfl, rfl⟩ := h2
    refine ⟨P, H0, env, fps, x, e1, h, h1, fun v H1 fp g => ?_⟩
    have r := g.rep
    rw [hx] at r
    obtain ⟨p, xs, gg, rfl, e, rfl, rs⟩ := r.lst_
    refine ⟨p, rfl, ⟨xs, SqL.of e⟩, k H1 xs gg (Itl X.K p) (some p) ⟨g.same, g.holds, g.sub, rs, fun b hb => g.from_ b (List.mem_cons_of_mem _ hb), fun hl => ?_, fun q hq => ?_⟩ (feeds_list e)⟩
    · have d := g.own.deep hl
      exact ⟨(List.nodup_cons.mp d.1).2, fun b hb => d.2 b (List.mem_cons_of_mem _ hb)⟩
    · cases hq
      exact ⟨by rw [e]; simp, fun hl => (List.nodup_cons.mp (g.own.deep hl).1).1, Got.unowned h g List.mem_cons_self⟩
  · cases h2
end
end L3
namespace L3
open PySem PySem.Spec PyProof.Rows L2
noncomputable def rangeD (lo : Int) (n : Nat) : List D := (List.range n).map fun (i : Nat) => D.int (lo + i)
noncomputable def fiR1 (f : FE) : FI := fun env => (f env).bind fun (x, e) => match x.d with
  | .int j => if -1000 ≤ j ∧ j < 1000 then some (⟨rangeD 0 j.toNat, 2, []⟩, e) else none
  | _ => none
noncomputable def fiR2 (f g : FE) : FI := fun env => (f env).bind fun (x, e1) => (g e1).bind fun (y, e) => match x.d, y.d with
  | .int i, .int j => if -1000 ≤ i ∧ i < 1000 ∧ -1000 ≤ j ∧ j < 1000 then some (⟨rangeD i (j - i).toNat, 2, []⟩, e) else none
  | _, _ => none
theorem reps_ints {K : PySem.W.Frag} {H : Hp} : ∀ ns : List Int, Reps K H (ns.map D.int) (ns.map V.int) []
  | [] => Reps.nil
  | n :: ns => Reps.cons rep_int (reps_ints ns)
theorem feeds_range {H1 : Hp} (lo : Int) (n : Nat) : Feeds (Itr lo n) none H1 ((List.range n).map fun (i : Nat) => V.int (lo + i)) where
  go := fun H' _ i x hx => by
    rw [List.getElem?_map] at hx
    by_cases hi : i < n
    · rw [List.getElem?_range hi] at hx
      cases hx
      exact ⟨hi, fun y H'' hy => ⟨hy.1, hy.2⟩⟩
    · rw [List.getElem?_eq_none (by simpa using hi)] at hx
      cases hx
  stop := fun H' _ i hi => (show n ≤ i by simpa using hi)
theorem reps_range {K : PySem.W.Frag} {H : Hp} (lo : Int) (n : Nat) : Reps K H (rangeD lo n) ((List.range n).map fun (i : Nat) => V.int (lo + i)) [] := by
  have := reps_ints (K := K) (H := H) ((List.range n).map fun (i : Nat) => lo + (i : Int))
  rw [List.map_map, List.map_map] at this
  exact this
section
variable {X : Cx} {tg : Expr}
theorem goti_range {K : PySem.W.Frag} {P : Addr → Prop} {H0 H H1 : Hp} {σ : St} {env env' : PEnv} {fps : Nat → List Addr} (lo : Int) (n : Nat) (s : Same H H1) (h : Holds K P H0 H1 σ env' fps) (b : Sub env' env) :
    GotI K P H0 H H1 σ env env' fps ⟨rangeD lo n, 2, []⟩ ((List.range n).map fun (i : Nat) => V.int (lo + i)) [] none :=
  ⟨s, h, b, reps_range lo n, fun b hb => (nomatch hb), fun _ => ⟨List.nodup_nil, fun b hb => (nomatch hb)⟩, fun p hp => (nomatch hp)⟩
theorem qi_range1 {a : Expr} {f : FE} {p pos : Pos} (hg : Gl X "range") (hm : X.mg "range" = none) (ha : QE X a f) (hs : starEach [a] X.env = [(false, eval a X.env)] := by rfl) (hs' : starEach [a] X.env = (false, eval a X.env) :: starEach [] X.env := by rfl) :
    QI X tg (.Call (.Name "range" p) [a] [] pos) (fiR1 f) := by
  refine PI.imp (pi_range1 hg hm (pa_cons ha pa_nil hs') hs) ?_
  rintro σ H R ⟨P, H0, env, fps, it, env', h, hf, k⟩
  unfold fiR1 at hf
  simp only [Option.bind_eq_some_iff, Prod.exists] at hf
  obtain ⟨x, e1, h1, h2⟩ := hf
  refine ⟨P, H0, env, fps, x, e1, h, h1, fun v H1 fp g => ?_⟩
  have r := g.rep
  split at h2
  · rename_i j hx
    rw [hx] at r
    split at h2
    · rename_i hj
      simp only [Option.some.injEq, Prod.mk.injEq] at h2
      obtain ⟨rfl, rfl⟩ := h2
      exact ⟨j, by rw [r.int_], by omega, by omega, k H1 _ [] _ none (goti_range 0 _ g.same g.holds g.sub) (feeds_range 0 _)⟩
    · cases h2
  · cases h2
theorem qi_range2 {a b : Expr} {f f' : FE} {p pos : Pos} (hg : Gl X "range") (hm : X.mg "range" = none) (ha : QE X a f) (hb : QE X b f') (hs : starEach [a, b] X.env = [(false, eval a X.env), (false, eval b X.env)] := by rfl) (hs2 : starEach [b] X.env = [(false, eval b X.env)] := by rfl)
    (hs' : starEach [a, b] X.env = (false, eval a X.env) :: starEach [b] X.env := by rfl) (hs2' : starEach [b] X.env = (false, eval b X.env) :: starEach [] X.env := by rfl) :
    QI X tg (.Call (.Name "range" p) [a, b] [] pos) (fiR2 f f') := by
  refine PI.imp (pi_range2 hg hm (pa_cons ha (pa_cons hb pa_nil hs2') hs') hs hs2) ?_
  rintro σ H R ⟨P, H0, env, fps, it, env', h, hf, k⟩
  unfold fiR2 at hf
  simp only [Option.bind_eq_some_iff, Prod.exists] at hf
  obtain ⟨x, e1, h1, y, e2, h2, h3⟩ := hf
  refine ⟨P, H0, env, fps, x, e1, h, h1, fun v H1 fp g => ⟨P, H0, e1, fps, y, e2, g.holds, h2, fun u H2 fp2 g2 => ?_⟩⟩
  have r := g.rep
  have r2 := g2.rep
  split at h3
  · rename_i i j hx hy
    rw [hx] at r
    rw [hy] at r2
    split at h3
    · rename_i hj
      simp only [Option.some.injEq, Prod.mk.injEq] at h3
      obtain ⟨rfl, rfl⟩ := h3
      exact ⟨i, j, by rw [r.int_, r2.int_], by omega, k H2 _ [] _ none (goti_range i _ (g.same.trans g2.same) g2.holds (g2.sub.trans g.sub)) (feeds_range i _)⟩
    · cases h3
  · cases h3
noncomputable def fiT (f : FE) : FI := fun env => (f env).bind fun (x, e) => match x.d with
  | .tup ds => some (⟨ds, x.l, x.S⟩, e)
  | _ => none
end
noncomputable def lvlI (l : Nat) (d : D) : Nat := if d.nodes = 0 ∨ 2 ≤ l then 2 else 0
noncomputable def inP (ix : List (Option Nat)) (env : PEnv) : PEnv := ix.map fun o => match o with
  | none => none
  | some i => match env[i]? with
    | some (some (d, _)) => some (d, 0)
    | _ => none
noncomputable def compGo (j l : Nat) (inn : PEnv) (ft : FT) (fe : FE) : List D → Option (List Val)
  | [] => some []
  | d :: ds => (ft (inn.set j (some (d, lvlI l d)))).bind fun (b, e) => if b = true then (fe e).bind fun (y, _) => (compGo j l inn ft fe ds).bind fun ys => some (y :: ys) else compGo j l inn ft fe ds
noncomputable def fComp (ix : List (Option Nat)) (j : Nat) (fi : FI) (ft : FT) (fe : FE) : FE := fun env => (fi env).bind fun (it, e1) => (compGo j it.l (inP ix e1) ft fe it.ds).bind fun ys =>
  if ys.length ≤ sizeLine then some (lvL (ys.map Val.d) (ys.all fun y => decide (2 ≤ y.l)) (it.S ++ ix.filterMap id), e1) else none
theorem inP_get {ix : List (Option Nat)} {env : PEnv} {q : Nat} {d : D} {l : Nat} (h : (inP ix env)[q]? = some (some (d, l))) : ∃ i l', ix[q]? = some (some i) ∧ env[i]? = some (some (d, l')) ∧ l = 0 := by
  unfold inP at h
  rw [List.getElem?_map] at h
  cases e : ix[q]? with
  | none => rw [e] at h; cases h
  | some o =>
    rw [e] at h
    cases o with
    | none => cases h
    | some i =>
      have h : (match env[i]? with | some (some (d, _)) => some (d, 0) | _ => none) = some (d, l) := Option.some.inj h
      split at h
      · rename_i d' l' e'
        cases h
        exact ⟨i, l', rfl, e', rfl⟩
      · cases h
theorem got_acc {K : PySem.W.Frag} {P : Addr → Prop} {H0 H H2 : Hp} {σ : St} {fps : Nat → List Addr} {env env2 : PEnv} {ds : List D} {vs : List V} {g : List Addr} {two : Bool} {S : List Nat} {p : Addr}
    (s : Same H H2) (h : Holds K P H0 H2 σ env2 fps) (b : Sub env2 env) (e : H2 p = some (.lst vs)) (r : Reps K H2 ds vs g) (hpg : p ∉ g) (hpn : H p = none) (hoth : ¬ ∃ k, Live env2 k ∧ p ∈ fps k) (hH0 : H0 p = none)
    (hf : ∀ b ∈ g, H b = none ∨ ∃ j, Live env j ∧ b ∈ fps j ∧ (j ∈ (lvL ds two S).S ∨ ¬ Live env2 j))
    (h2 : two = true → g.Nodup ∧ ∀ b ∈ g, H0 b = none ∧ ¬ ∃ k, Live env2 k ∧ b ∈ fps k) : Got K P H0 H H2 σ env env2 fps (lvL ds two S) (.ref p) (p :: g) := by
  have rr : Rep K H2 (.lst ds) (.ref p) (p :: g) := Rep.mk e r
  have ed : (lvL ds two S).d = .lst ds := by unfold lvL; split <;> rfl
  refine ⟨s, h, b, by rw [ed]; exact rr, fun b hb => ?_, ?_⟩
  · rcases List.mem_cons.mp hb with rfl | hb
    · exact .inl hpn
    · exact hf b hb
  · rw [ed]
    unfold lvL
    split
    · rename_i hc
      refine OwnOk.two rr ?_ ?_
      · rcases hc with hc | hc
        · have : g = [] := List.eq_nil_of_length_eq_zero (by rw [r.len]; exact hc)
          subst this
          simp
        · exact List.nodup_cons.mpr ⟨hpg, (h2 hc).1⟩
      · intro b hb
        rcases List.mem_cons.mp hb with rfl | hb
        · exact ⟨hH0, hoth⟩
        · rcases hc with hc | hc
          · have : g = [] := List.eq_nil_of_length_eq_zero (by rw [r.len]; exact hc)
            subst this
            cases hb
          · exact (h2 hc).2 b hb
    · exact ⟨fun _ _ => ⟨p, g, vs, rfl, rfl, hpg, hH0, e, hoth⟩, fun z => absurd z (by show ¬ 2 ≤ 1; omega)⟩
structure CompInv (K : PySem.W.Frag) (H0 H1 H' : Hp) (σ σ' : St) (env1 : PEnv) (fps : Nat → List Addr) (ix : List (Option Nat)) (acc : Addr) (gx : List Addr) (rest : List D) (xr : List V) (done : List Val) : Prop where
  same : Same H1 H'
  slots : σ'.length = ix.length ∧ ∀ (q i : Nat), ix[q]? = some (some i) → σ'[q]? = (inSt ix σ)[q]?
  left : ∃ gr, Reps K H' rest xr gr ∧ gr.Sublist gx ∧ ∃ ysv ga, H' acc = some (.lst ysv) ∧ Reps K H' (done.map Val.d) ysv ga ∧ acc ∉ ga ∧
    (∀ b ∈ ga, H1 b = none ∨ b ∈ gx ∨ ∃ i, i ∈ ix.filterMap id ∧ Live env1 i ∧ b ∈ fps i) ∧
    ((∀ y ∈ done, 2 ≤ y.l) → ga.Nodup ∧ (∀ b ∈ ga, H0 b = none ∧ ¬ ∃ k, Live env1 k ∧ b ∈ fps k) ∧ ∀ b ∈ ga, b ∉ gr)
end L3
namespace L3
open PySem PySem.Spec PyProof.Rows L2
section
variable {K : PySem.W.Frag} {P : Addr → Prop} {H0 H H1 H' : Hp} {σ σ' : St} {env env1 : PEnv} {fps : Nat → List Addr} {ix : List (Option Nat)} {it : Items} {xs : List V} {gx : List Addr} {a : Option Addr}
noncomputable def inF (ix : List (Option Nat)) (fps : Nat → List Addr) (j : Nat) (g : List Addr) : Nat → List Addr := fun q => if q = j then g else match ix[q]? with
  | some (some i) => fps i
  | _ => []
theorem holds_inner {j : Nat} {d : D} {x : V} {g : List Addr} (h : Holds K P H0 H σ env fps) (gi : GotI K P H0 H H1 σ env env1 fps it xs gx a) (s : Same H1 H') (hj : ix[j]? = some none) (hlen : σ'.length = ix.length) (hslot : ∀ (q i : Nat), ix[q]? = some (some i) → σ'[q]? = (inSt ix σ)[q]?)
    (r : Rep K H' d x g) (hg : g.Sublist gx) : Holds K P H0 H' (σ'.set j (some x)) ((inP ix env1).set j (some (d, lvlI it.l d))) (inF ix fps j g) := by
  have hji : j < ix.length := (List.getElem?_eq_some_iff.mp hj).1
  have hother : ∀ (q : Nat) d' l', q ≠ j → ((inP ix env1).set j (some (d, lvlI it.l d)))[q]? = some (some (d', l')) → ∃ i l'', ix[q]? = some (some i) ∧ env1[i]? = some (some (d', l'')) ∧ l' = 0 ∧ inF ix fps j g q = fps i := fun q d' l' hq e => by
    rw [List.getElem?_set_ne (Ne.symm hq)] at e
    obtain ⟨i, l'', e1, e2, e3⟩ := inP_get e
    refine ⟨i, l'', e1, e2, e3, ?_⟩
    unfold inF
    rw [if_neg hq, e1]
  refine ⟨h.same.trans (gi.same.trans s), ?_, fun q d' l' e => ?_, fun q hq b hb => ?_⟩
  · rw [List.length_set, List.length_set, hlen]
    unfold inP
    rw [List.length_map]
  · by_cases hq : q = j
    · subst hq
      have hl : q < (inP ix env1).length := by unfold inP; rw [List.length_map]; exact hji
      rw [List.getElem?_set_self hl] at e
      cases e
      have ef : inF ix fps q g q = g := by unfold inF; rw [if_pos rfl]
      rw [ef]
      refine ⟨x, by rw [List.getElem?_set_self (by omega)], r, ?_⟩
      have key : ∀ L, L = lvlI it.l d → OwnOk H0 H' (fun b => ∃ k, k ≠ q ∧ Live ((inP ix env1).set q (some (d, lvlI it.l d))) k ∧ b ∈ inF ix fps q g k) d L x g := ?_
      · exact key _ rfl
      intro L hL
      by_cases hc : d.nodes = 0 ∨ 2 ≤ it.l
      · have hL2 : L = 2 := by rw [hL]; unfold lvlI; rw [if_pos hc]
        subst hL2
        rcases hc with hc | hc
        · have e0 := r.flat hc
          subst e0
          exact .flat hc
        · obtain ⟨o1, o2⟩ := gi.own hc
          refine OwnOk.two r (hg.nodup o1) fun b hb => ⟨(o2 b (hg.subset hb)).1, ?_⟩
          rintro ⟨k, hk, ⟨⟨d2, l2⟩, ek⟩, hbk⟩
          obtain ⟨i, l'', e1, e2, _, e4⟩ := hother k d2 l2 hk ek
          rw [e4] at hbk
          exact (o2 b (hg.subset hb)).2 ⟨i, ⟨_, e2⟩, hbk⟩
      · have hL0 : L = 0 := by rw [hL]; unfold lvlI; rw [if_neg hc]
        subst hL0
        exact .zero
    · obtain ⟨i, l'', e1, e2, rfl, e4⟩ := hother q d' l' hq e
      obtain ⟨v, f1, f2, _⟩ := gi.holds.slot i d' l'' e2
      rw [e4]
      refine ⟨v, ?_, f2.mono s, .zero⟩
      rw [List.getElem?_set_ne (Ne.symm hq), hslot q i e1]
      unfold inSt
      rw [List.getElem?_map, e1]
      show some ((σ[i]?).join) = some (some v)
      rw [f1]
      rfl
  · by_cases hqj : q = j
    · subst hqj
      have ef : inF ix fps q g q = g := by unfold inF; rw [if_pos rfl]
      rw [ef] at hb
      rcases gi.from_ b (hg.subset hb) with z | ⟨k, lk, hk, _⟩
      · exact .inl (h.same.free z)
      · exact h.src k lk b hk
    · obtain ⟨⟨d', l'⟩, e⟩ := hq
      obtain ⟨i, l'', e1, e2, _, e4⟩ := hother q d' l' hqj e
      rw [e4] at hb
      exact gi.holds.src i ⟨_, e2⟩ b hb
theorem inner_two {j q : Nat} {d d' : D} {l' : Nat} (e : ((inP ix env1).set j (some (d, lvlI it.l d)))[q]? = some (some (d', l'))) (h2 : l' = 2) : q = j := by
  by_cases hq : q = j
  · exact hq
  · rw [List.getElem?_set_ne (Ne.symm hq)] at e
    obtain ⟨_, _, _, _, e3⟩ := inP_get e
    omega
theorem comp_step {acc : Addr} {j : Nat} {d : D} {rest : List D} {x : V} {xr : List V} {done : List Val} {y : Val} {yv : V} {H4 H5 : Hp} {σ3 : St} {e2 e3 : PEnv} {g gr : List Addr} {fpy : List Addr}
    (h : Holds K P H0 H σ env fps) (gi : GotI K P H0 H H1 σ env env1 fps it xs gx a) (hacc : H1 acc = none) (C : CompInv K H0 H1 H' σ σ' env1 fps ix acc gx (d :: rest) (x :: xr) done) (hj : ix[j]? = some none)
    (rd : Reps K H' (d :: rest) (x :: xr) (g ++ gr)) (rg : Rep K H' d x g) (rr : Reps K H' rest xr gr) (hsub : (g ++ gr).Sublist gx)
    (Cl : ∃ ysv ga, H' acc = some (.lst ysv) ∧ Reps K H' (done.map Val.d) ysv ga ∧ acc ∉ ga ∧ (∀ b ∈ ga, H1 b = none ∨ b ∈ gx ∨ ∃ i, i ∈ ix.filterMap id ∧ Live env1 i ∧ b ∈ fps i) ∧
      ((∀ y ∈ done, 2 ≤ y.l) → ga.Nodup ∧ (∀ b ∈ ga, H0 b = none ∧ ¬ ∃ k, Live env1 k ∧ b ∈ fps k) ∧ ∀ b ∈ ga, b ∉ g ++ gr))
    (eσ : σ3 = σ'.set j (some x)) (s4 : Same H' H4) (b2 : Sub e2 ((inP ix env1).set j (some (d, lvlI it.l d)))) (gy : Got K P H0 H4 H5 σ3 e2 e3 (inF ix fps j g) y yv fpy) :
    ∃ ysv, H5 acc = some (.lst ysv) ∧ ysv.length = done.length ∧ CompInv K H0 H1 (upd H5 acc (.lst (ysv ++ [yv]))) σ σ3 env1 fps ix acc gx rest xr (done ++ [y]) := by
  obtain ⟨ysv, ga, ea, ra, na, fa, oa⟩ := Cl
  have s5 : Same H' H5 := s4.trans gy.same
  have sub_g : ∀ b ∈ g, b ∈ gx := fun b hb => hsub.subset (List.mem_append_left _ hb)
  have sub_gr : ∀ b ∈ gr, b ∈ gx := fun b hb => hsub.subset (List.mem_append_right _ hb)
  have domx : ∀ b ∈ gx, H1 b ≠ none := fun b hb z => by obtain ⟨zs, q⟩ := gi.reps.dom b hb; rw [z] at q; cases q
  have domk : ∀ k, Live env1 k → ∀ b ∈ fps k, H1 b ≠ none := fun k lk b hb => gi.holds.dom lk hb
  -- where the new value's parts come from
  have fy : ∀ b ∈ fpy, H4 b = none ∨ (b ∈ g ∧ ∃ d' l', e2[j]? = some (some (d', l'))) ∨ ∃ q i, q ≠ j ∧ ix[q]? = some (some i) ∧ Live env1 i ∧ b ∈ fps i ∧ Live e2 q := fun b hb => by
    rcases gy.from_ b hb with z | ⟨q, ⟨⟨d', l'⟩, lq⟩, hq, _⟩
    · exact .inl z
    · by_cases hqj : q = j
      · subst hqj
        have ef : inF ix fps q g q = g := by unfold inF; rw [if_pos rfl]
        rw [ef] at hq
        exact .inr (.inl ⟨hq, d', l', lq⟩)
      · have lq' := b2.2.1 q _ lq
        rw [List.getElem?_set_ne (Ne.symm hqj)] at lq'
        obtain ⟨i, l'', e1, e2', _⟩ := inP_get lq'
        have ef : inF ix fps j g q = fps i := by unfold inF; rw [if_neg hqj, e1]
        rw [ef] at hq
        exact .inr (.inr ⟨q, i, hqj, e1, ⟨_, e2'⟩, hq, ⟨_, lq⟩⟩)
  have nay : acc ∉ fpy := fun z => by
    rcases fy acc z with z | ⟨z, _⟩ | ⟨q, i, _, _, li, z, _⟩
    · rw [s4 _ _ ea] at z; cases z
    · exact domx acc (sub_g acc z) hacc
    · exact domk i li acc z hacc
  have nag : acc ∉ gr := fun z => domx acc (sub_gr acc z) hacc
  have e5 : H5 acc = some (.lst ysv) := s5 _ _ ea
  have hlen : ysv.length = done.length := by rw [ra.length, List.length_map]
  refine ⟨ysv, e5, hlen, ?_, ?_, gr, (rr.mono s5).upd ⟨_, e5⟩ nag, ?_, ysv ++ [yv], ga ++ fpy, upd_same, ?_, ?_, ?_, ?_⟩
  · intro b o eb
    have hb : b ≠ acc := fun z => by rw [z, hacc] at eb; cases eb
    rw [upd_ne hb]
    exact s5 _ _ (C.same _ _ eb)
  · rw [eσ]
    refine ⟨by rw [List.length_set]; exact C.slots.1, fun q i hq => ?_⟩
    have hqj : q ≠ j := fun z => by rw [z, hj] at hq; cases hq
    rw [List.getElem?_set_ne (Ne.symm hqj)]
    exact C.slots.2 q i hq
  · exact (List.sublist_append_right g gr).trans hsub
  · rw [List.map_append]
    exact ((ra.mono s5).upd ⟨_, e5⟩ na).app (Reps.one (gy.rep.upd ⟨_, e5⟩ nay))
  · rw [List.mem_append, not_or]; exact ⟨na, nay⟩
  · intro b hb
    rcases List.mem_append.mp hb with hb | hb
    · exact fa b hb
    · rcases fy b hb with z | ⟨z, _⟩ | ⟨q, i, _, e1, li, z, _⟩
      · exact .inl (C.same.free (s4.free z))
      · exact .inr (.inl (sub_g b z))
      · exact .inr (.inr ⟨i, List.mem_filterMap.mpr ⟨some i, List.mem_of_getElem? e1, rfl⟩, li, z⟩)
  · intro h2
    obtain ⟨o1, o2, o3⟩ := oa fun z hz => h2 z (List.mem_append_left _ hz)
    have hy2 : 2 ≤ y.l := h2 y (List.mem_append_right _ (List.mem_singleton.mpr rfl))
    obtain ⟨d1, d2⟩ := gy.own.deep hy2
    -- the new value's parts are new, or the item's own
    have fy2 : ∀ b ∈ fpy, H4 b = none ∨ (b ∈ g ∧ 2 ≤ it.l) := fun b hb => by
      rcases gy.from_ b hb with z | ⟨q, ⟨⟨d', l'⟩, lq⟩, hq, _⟩
      · exact .inl z
      · have nl : ¬ Live e3 q := fun l => (d2 b hb).2 ⟨q, l, hq⟩
        have hl2 : l' = 2 := by
          rcases gy.sub.2.2 q d' l' lq with z | z
          · exact absurd ⟨_, z⟩ nl
          · exact z
        have lq' := b2.2.1 q _ lq
        have hqj := inner_two (it := it) lq' hl2
        subst hqj
        have ef : inF ix fps q g q = g := by unfold inF; rw [if_pos rfl]
        rw [ef] at hq
        have hl : q < (inP ix env1).length := by unfold inP; rw [List.length_map]; exact (List.getElem?_eq_some_iff.mp hj).1
        rw [List.getElem?_set_self hl] at lq'
        cases lq'
        unfold lvlI at hl2
        split at hl2
        · rename_i hc
          rcases hc with hc | hc
          · rw [rg.flat hc] at hq; cases hq
          · exact .inr ⟨hq, hc⟩
        · cases hl2
    have ndx : 2 ≤ it.l → (g ++ gr).Nodup := fun hl => hsub.nodup (gi.own hl).1
    refine ⟨List.nodup_append.mpr ⟨o1, d1, fun b hb c hc e => ?_⟩, fun b hb => ?_, fun b hb z => ?_⟩
    · subst e
      rcases fy2 b hc with z | ⟨z, _⟩
      · obtain ⟨zs, q⟩ := ra.dom b hb
        rw [s4 _ _ q] at z; cases z
      · exact o3 b hb (List.mem_append_left _ z)
    · rcases List.mem_append.mp hb with hb | hb
      · exact o2 b hb
      · refine ⟨(d2 b hb).1, ?_⟩
        rintro ⟨k, lk, hk⟩
        rcases fy2 b hb with z | ⟨z, hl⟩
        · exact domk k lk b hk (C.same.free (s4.free z))
        · exact ((gi.own hl).2 b (sub_g b z)).2 ⟨k, lk, hk⟩
    · rcases List.mem_append.mp hb with hb | hb
      · exact o3 b hb (List.mem_append_right _ z)
      · rcases fy2 b hb with w | ⟨w, hl⟩
        · obtain ⟨zs, q⟩ := rr.dom b z
          rw [s4 _ _ q] at w; cases w
        · exact (List.nodup_append.mp (ndx hl)).2.2 b w b z rfl
theorem comp_skip {acc : Addr} {j : Nat} {d : D} {rest : List D} {x : V} {xr : List V} {done : List Val} {H4 : Hp} {g gr : List Addr}
    (C : CompInv K H0 H1 H' σ σ' env1 fps ix acc gx (d :: rest) (x :: xr) done) (hj : ix[j]? = some none) (rr : Reps K H' rest xr gr) (hsub : (g ++ gr).Sublist gx)
    (Cl : ∃ ysv ga, H' acc = some (.lst ysv) ∧ Reps K H' (done.map Val.d) ysv ga ∧ acc ∉ ga ∧ (∀ b ∈ ga, H1 b = none ∨ b ∈ gx ∨ ∃ i, i ∈ ix.filterMap id ∧ Live env1 i ∧ b ∈ fps i) ∧
      ((∀ y ∈ done, 2 ≤ y.l) → ga.Nodup ∧ (∀ b ∈ ga, H0 b = none ∧ ¬ ∃ k, Live env1 k ∧ b ∈ fps k) ∧ ∀ b ∈ ga, b ∉ g ++ gr))
    (s4 : Same H' H4) : CompInv K H0 H1 H4 σ (σ'.set j (some x)) env1 fps ix acc gx rest xr done := by
  obtain ⟨ysv, ga, ea, ra, na, fa, oa⟩ := Cl
  refine ⟨C.same.trans s4, ⟨by rw [List.length_set]; exact C.slots.1, fun q i hq => ?_⟩, gr, rr.mono s4, (List.sublist_append_right g gr).trans hsub, ysv, ga, s4 _ _ ea, ra.mono s4, na, fa, fun h2 => ?_⟩
  · have hqj : q ≠ j := fun z => by rw [z, hj] at hq; cases hq
    rw [List.getElem?_set_ne (Ne.symm hqj)]
    exact C.slots.2 q i hq
  · obtain ⟨o1, o2, o3⟩ := oa h2
    exact ⟨o1, o2, fun b hb z => o3 b hb (List.mem_append_right _ z)⟩
end
end L3
namespace L3
open PySem PySem.Spec PyProof.Rows L2
theorem compGo_cons {j l : Nat} {inn : PEnv} {ft : FT} {fe : FE} {d : D} {ds : List D} {ys : List Val} (h : compGo j l inn ft fe (d :: ds) = some ys) :
    ∃ b e, ft (inn.set j (some (d, lvlI l d))) = some (b, e) ∧ ((b = true ∧ ∃ y e3 ys', fe e = some (y, e3) ∧ compGo j l inn ft fe ds = some ys' ∧ ys = y :: ys') ∨ (b = false ∧ compGo j l inn ft fe ds = some ys)) := by
  simp only [compGo, Option.bind_eq_some_iff, Prod.exists] at h
  obtain ⟨b, e, h1, h2⟩ := h
  refine ⟨b, e, h1, ?_⟩
  cases b with
  | true =>
    rw [if_pos rfl] at h2
    simp only [Option.bind_eq_some_iff, Prod.exists] at h2
    obtain ⟨y, e3, h3, ys', h4, h5⟩ := h2
    exact .inl ⟨rfl, y, e3, ys', h3, h4, (Option.some.inj h5).symm⟩
  | false =>
    rw [if_neg Bool.false_ne_true] at h2
    exact .inr ⟨rfl, h2⟩
section
variable {X : Cx} {N' : List Str} {ix : List (Option Nat)} {scope : Scope} {tg elt iter : Expr} {ifs : List Expr} {fi : FI} {ft : FT} {fe : FE} {j : Nat}
theorem comp_read (hj : ix[j]? = some none) (pg : ∀ s H fp, PG (cxComp X N' scope s H fp) tg (gName j)) (hif : ∀ s H fp, PIfs (cxComp X N' scope s H fp) ifs (tQT X.K ft)) (he : ∀ s H fp, QE (cxComp X N' scope s H fp) elt fe)
    {σ : St} {H : Hp} {Q : VK} (h : tQ X.K (fComp ix j fi ft fe) σ H Q) : tComp X N' ix scope tg elt ifs (tQI X.K fi) σ H Q := by
  obtain ⟨P, H0, env, fps, w, env', h, hf, k⟩ := h
  unfold fComp at hf
  simp only [Option.bind_eq_some_iff, Prod.exists] at hf
  obtain ⟨it, e1, h1, ys, h2, h3⟩ := hf
  split at h3
  · rename_i hl
    simp only [Option.some.injEq, Prod.mk.injEq] at h3
    obtain ⟨rfl, rfl⟩ := h3
    refine ⟨P, H0, env, fps, it, e1, h, h1, fun H1 xs gx J a gi fd acc s Hx fp hacc => ⟨gName j, tQT X.K ft, tQ X.K fe, pg s Hx fp, hif s Hx fp, he s Hx fp, ?_⟩⟩
    have hlen : xs.length = it.ds.length := gi.reps.length
    have stable : ∀ {H' : Hp}, Same H1 H' → ∀ p, a = some p → H' p = H1 p := fun {H'} s p hp => by
      cases e : H1 p with
      | none => exact absurd e (gi.prot p hp).1
      | some o => exact s _ _ e
    refine ⟨fun i m σ' H' => m = xs.length - i ∧ i ≤ xs.length ∧ ∃ done rest', compGo j it.l (inP ix e1) ft fe (it.ds.drop i) = some rest' ∧ ys = done ++ rest' ∧ CompInv X.K H0 H1 H' σ σ' e1 fps ix acc gx (it.ds.drop i) (xs.drop i) done,
      ⟨xs.length, by simp, Nat.zero_le _, [], ys, by simpa using h2, rfl, ?_⟩, ?_⟩
    · refine ⟨Same.upd_new hacc, ⟨by unfold inSt; simp, fun _ _ _ => rfl⟩, gx, by simpa using gi.reps.mono (Same.upd_new hacc), List.Sublist.refl _, [], [], upd_same, Reps.nil, by simp, fun b hb => (nomatch hb), fun _ => ⟨List.nodup_nil, fun b hb => (nomatch hb), fun b hb => (nomatch hb)⟩⟩
    · rintro i m σ' H' ⟨rfl, hi, done, rest', hgo, hys, C⟩
      by_cases hlt : i < xs.length
      · have hlt2 : i < it.ds.length := by omega
        have ed : it.ds.drop i = it.ds[i] :: it.ds.drop (i + 1) := List.drop_eq_getElem_cons hlt2
        have ex : xs.drop i = xs[i] :: xs.drop (i + 1) := List.drop_eq_getElem_cons hlt
        rw [ed] at hgo
        rw [ed, ex] at C
        obtain ⟨gr0, r0, s0, Cl⟩ := C.left
        have r1 := r0
        simp only [Reps] at r1
        obtain ⟨x', r', g, gr, exx, rfl, rg, rr⟩ := r1
        cases exx
        obtain ⟨b, e2, hft, hb⟩ := compGo_cons hgo
        have hx : xs[i]? = some xs[i] := by simp
        refine .inr ⟨(fd.go H' (stable C.same) i _ hx).1, fun σ2 H2 => ∃ done rest', compGo j it.l (inP ix e1) ft fe (it.ds.drop (i + 1)) = some rest' ∧ ys = done ++ rest' ∧ CompInv X.K H0 H1 H2 σ σ2 e1 fps ix acc gx (it.ds.drop (i + 1)) (xs.drop (i + 1)) done,
          fun σ2 H2 q => ⟨xs.length - (i + 1), by omega, rfl, hlt, q⟩, fun x' H2 hy => ?_⟩
        obtain ⟨rfl, rfl⟩ := (fd.go H' (stable C.same) i _ hx).2 x' H2 hy
        show tQT X.K ft (σ'.set j (some xs[i])) H2 _
        refine ⟨P, H0, _, inF ix fps j g, b, e2, holds_inner h gi C.same hj C.slots.1 C.slots.2 rg ((List.sublist_append_left g gr).trans s0), hft, fun H4 s4 hold4 b2 => ?_⟩
        rcases hb with ⟨rfl, y, e3, ys', hfe, hgo', rfl⟩ | ⟨rfl, hgo'⟩
        · rw [if_pos rfl]
          refine ⟨P, H0, e2, inF ix fps j g, y, e3, hold4, hfe, fun yv H5 fpy gy => ?_⟩
          obtain ⟨ysv, e5, hl5, C'⟩ := comp_step h gi hacc C hj r0 rg rr s0 Cl rfl s4 b2 gy
          refine ⟨ysv, e5, ?_, done ++ [y], ys', hgo', by rw [hys]; simp, C'⟩
          rw [hl5]
          rw [hys, List.length_append, List.length_cons] at hl
          omega
        · rw [if_neg Bool.false_ne_true]
          exact ⟨done, rest', hgo', hys, comp_skip C hj rr s0 Cl s4⟩
      · have ei : i = xs.length := by omega
        have ed : it.ds.drop i = [] := List.drop_of_length_le (by omega)
        rw [ed] at hgo
        cases hgo
        rw [List.append_nil] at hys
        subst hys
        refine .inl ⟨fd.stop H' (stable C.same) i (by omega), ?_⟩
        obtain ⟨gr, _, _, ysv, ga, ea, ra, na, fa, oa⟩ := C.left
        have hpn : H acc = none := gi.same.free hacc
        have all2 : (ys.all fun y => decide (2 ≤ y.l)) = true → ∀ y ∈ ys, 2 ≤ y.l := fun ht y hy => by simpa using List.all_eq_true.mp ht y hy
        refine k (.ref acc) H' (acc :: ga) (got_acc (gi.same.trans C.same) (gi.holds.mono C.same) gi.sub ea ra na hpn (fun ⟨q, lq, hq⟩ => gi.holds.dom lq hq hacc) (h.same.free hpn) (fun b hb => ?_) fun ht => ?_)
        · have base : H b = none ∨ ∃ q, Live env q ∧ b ∈ fps q ∧ (q ∈ it.S ++ ix.filterMap id ∨ ¬ Live e1 q) := by
            rcases fa b hb with z | z | ⟨q, hq, lq, hbq⟩
            · exact .inl (gi.same.free z)
            · rcases gi.from_ b z with z | ⟨q, lq, hq, z⟩
              · exact .inl z
              · exact .inr ⟨q, lq, hq, z.elim (fun z => .inl (List.mem_append_left _ z)) .inr⟩
            · exact .inr ⟨q, gi.sub.live lq, hbq, .inl (List.mem_append_right _ hq)⟩
          unfold lvL
          split
          · rename_i hc
            rcases hc with hc | hc
            · have hg := ra.len
              rw [hc] at hg
              rw [List.eq_nil_of_length_eq_zero hg] at hb
              cases hb
            · rcases base with z | ⟨q, lq, hq, _⟩
              · exact .inl z
              · exact .inr ⟨q, lq, hq, .inr fun l => ((oa (all2 hc)).2.1 b hb).2 ⟨q, l, hq⟩⟩
          · exact base
        · exact ⟨(oa (all2 ht)).1, (oa (all2 ht)).2.1⟩
  · cases h3
noncomputable def fYes : FT := fun env => some (true, env)
theorem qifs_nil : PIfs X [] (tQT X.K fYes) := fun pins s σ H Q I h => by
  obtain ⟨P, H0, env, fps, b, env', h, hf, k⟩ := h
  cases hf
  exact pifs_nil pins s σ H Q I (k H (Same.refl _) h (Sub.refl _))
theorem qifs_one {c : Expr} {f : FT} (h : QT X c f) : PIfs X [c] (tQT X.K f) := pifs_one h
variable {tx : Str} {tp pos : Pos}
theorem q_comp (S : CompScope N' scope) (T : Slots X.N X.env.scope scope N' ix) (hc : X.calm = true) (hi : QI X (.Name tx tp) iter fi) (hjN : N'[j]? = some tx) (hj : ix[j]? = some none)
    (hif : ∀ s H fp, PIfs (cxComp X N' scope s H fp) ifs (tQT X.K ft)) (he : ∀ s H fp, QE (cxComp X N' scope s H fp) elt fe)
    (hx : Loc (relabelS scope X.env.scope) tx := by exact L2.loc_of rfl rfl) (hfn : ∀ s H fp, (cxComp X N' scope s H fp).fn tx = true ∨ (relabelS scope X.env.scope).names.lookup tx = some .local := by first | exact fun _ _ _ => .inr rfl | exact fun _ _ _ => .inl rfl)
    (hs : ∀ x, foldedSetIterable iter X.env x = pure x := by intro _; rfl) : QE X (.ListComp elt [⟨.Name tx tp, iter, ifs, 0⟩] scope pos) (fComp ix j fi ft fe) :=
  PE.imp (pe_comp S T hc hi hs) fun _ _ _ h => comp_read hj (fun s H fp => pg_name S.nd hjN hx (hfn s H fp)) hif he h
end
end L3
namespace L3
open PySem PySem.Spec PyProof.Rows L2
inductive Out where
  | next (e : PEnv) | ret (x : Val) | brk (e : PEnv) | cont (e : PEnv) | exc (c : Str)
noncomputable abbrev FS := PEnv → Option Out
noncomputable def LiveB (env : PEnv) (fps : Nat → List Addr) (b : Addr) : Prop := ∃ k, Live env k ∧ b ∈ fps k
structure Kept (H H' : Hp) (env env' : PEnv) (fps fps' : Nat → List Addr) : Prop where
  keep : ∀ b o, H b = some o → ¬ Owned env fps b → H' b = some o
  there : ∀ b, H b ≠ none → H' b ≠ none ∨ Owned env fps b
  grow : ∀ b, Owned env' fps' b → Owned env fps b ∨ H b = none
  seen : ∀ b, LiveB env' fps' b → LiveB env fps b ∨ H b = none
  len : env'.length = env.length
theorem owned_live {env : PEnv} {fps : Nat → List Addr} {b : Addr} (h : Owned env fps b) : LiveB env fps b := let ⟨k, _, _, e, hb, _⟩ := h; ⟨k, ⟨_, e⟩, hb⟩
theorem Kept.trans {H H1 H2 : Hp} {e e1 e2 : PEnv} {f f1 f2 : Nat → List Addr} (a : Kept H H1 e e1 f f1) (b : Kept H1 H2 e1 e2 f1 f2) : Kept H H2 e e2 f f2 where
  keep := fun c o h n => b.keep c o (a.keep c o h n) fun z => by
    rcases a.grow c z with z | z
    · exact n z
    · rw [z] at h; cases h
  there := fun c h => by
    rcases a.there c h with z | z
    · rcases b.there c z with w | w
      · exact .inl w
      · rcases a.grow c w with u | u
        · exact .inr u
        · exact absurd u h
    · exact .inr z
  grow := fun c h => by
    rcases b.grow c h with z | z
    · exact a.grow c z
    · cases e : H c with
      | none => exact .inr rfl
      | some o =>
        rcases a.there c (by rw [e]; simp) with w | w
        · exact absurd z w
        · exact .inl w
  seen := fun c h => by
    rcases b.seen c h with z | z
    · exact a.seen c z
    · cases e : H c with
      | none => exact .inr rfl
      | some o =>
        rcases a.there c (by rw [e]; simp) with w | w
        · exact absurd z w
        · exact .inl (owned_live w)
  len := b.len.trans a.len
theorem Kept.same {H H1 : Hp} {e e1 : PEnv} {f : Nat → List Addr} (s : Same H H1) (b : Sub e1 e) : Kept H H1 e e1 f f where
  keep := fun c o h _ => s c o h
  there := fun c h => .inl fun z => h (s.free z)
  grow := fun c ⟨k, d, l, h1, h2⟩ => .inl ⟨k, d, l, b.2.1 k _ h1, h2⟩
  seen := fun c ⟨k, lk, hk⟩ => .inl ⟨k, b.live lk, hk⟩
  len := b.1
noncomputable def XAtt (X : Cx) (c : Str) (H0 : Hp) (e : Value) (s' : Shared) : Prop := XS X (fun C _ H' => X.mg c = some (.ref C) ∧ Same H0 H') e s'
noncomputable def PostO (X : Cx) (P : Addr → Prop) (H0 H : Hp) (env : PEnv) (fps : Nat → List Addr) (D : Ends) : Out → Prop
  | .next e => ∀ σ' H' fps', Holds X.K P H0 H' σ' e fps' → Kept H H' env e fps fps' → D.nx σ' H'
  | .brk e => ∀ σ' H' fps', Holds X.K P H0 H' σ' e fps' → Kept H H' env e fps fps' → D.bk σ' H'
  | .cont e => ∀ σ' H' fps', Holds X.K P H0 H' σ' e fps' → Kept H H' env e fps fps' → D.ct σ' H'
  | .ret x => ∀ v H' fp, Same H0 H' → Rep X.K H' x.d v fp → (∀ b ∈ fp, H0 b = none ∨ P b) → OwnOk H0 H' (fun _ => False) x.d x.l v fp → D.rt v H'
  | .exc c => ∀ e s', XAtt X c H0 e s' → X.xe e s'
noncomputable def tQS (X : Cx) (f : FS) : TS := fun D σ H => ∃ P H0 env fps o, Holds X.K P H0 H σ env fps ∧ f env = some o ∧ PostO X P H0 H env fps D o
noncomputable def QS (X : Cx) (st : Stmt) (f : FS) : Prop := PS X st (tQS X f)
noncomputable def QSs (X : Cx) (st : List Stmt) (f : FS) : Prop := PSs X st (tQS X f)
theorem PS.imp {X : Cx} {st : Stmt} {t t' : TS} (h : PS X st t) (hi : ∀ D σ H, t' D σ H → t D σ H) : PS X st t' := fun pins s σ H D I q => h pins s σ H D I (hi D σ H q)
theorem PSs.imp {X : Cx} {st : List Stmt} {t t' : TS} (h : PSs X st t) (hi : ∀ D σ H, t' D σ H → t D σ H) : PSs X st t' := fun pins s σ H D I q => h pins s σ H D I (hi D σ H q)
noncomputable def fNext : FS := fun env => some (.next env)
noncomputable def fSeq (f g : FS) : FS := fun env => (f env).bind fun o => match o with
  | .next e => g e
  | o => some o
section
variable {X : Cx}
theorem qss_nil : QSs X [] fNext := by
  refine PSs.imp pss_nil ?_
  rintro D σ H ⟨P, H0, env, fps, o, h, hf, k⟩
  cases hf
  exact k σ H fps h (Kept.same (Same.refl _) (Sub.refl _))
theorem qss_cons {st : Stmt} {rest : List Stmt} {f g : FS} (h1 : QS X st f) (h2 : QSs X rest g) : QSs X (st :: rest) (fSeq f g) := by
  refine PSs.imp (pss_cons h1 h2) ?_
  rintro D σ H ⟨P, H0, env, fps, o, h, hf, k⟩
  unfold fSeq at hf
  rw [Option.bind_eq_some_iff] at hf
  obtain ⟨o1, e1, e2⟩ := hf
  refine ⟨P, H0, env, fps, o1, h, e1, ?_⟩
  cases o1 with
  | next e =>
    intro σ' H' fps' h' k'
    refine ⟨P, H0, e, fps', o, h', e2, ?_⟩
    cases o with
    | next e' => exact fun σ2 H2 fps2 h2 k2 => k σ2 H2 fps2 h2 (k'.trans k2)
    | brk e' => exact fun σ2 H2 fps2 h2 k2 => k σ2 H2 fps2 h2 (k'.trans k2)
    | cont e' => exact fun σ2 H2 fps2 h2 k2 => k σ2 H2 fps2 h2 (k'.trans k2)
    | ret x => exact k
    | exc c => exact k
  | brk e => cases e2; exact k
  | cont e => cases e2; exact k
  | ret x => cases e2; exact k
  | exc c => cases e2; exact k
theorem qss_one {st : Stmt} {f : FS} (h1 : QS X st f) : QSs X [st] f := by
  refine PSs.imp (pss_one h1) ?_
  exact fun _ _ _ h => h
noncomputable def fRet (f : FE) : FS := fun env => (f env).bind fun (x, _) => some (.ret x)
theorem ret_post {K : PySem.W.Frag} {P : Addr → Prop} {H0 H H' : Hp} {σ : St} {env env' : PEnv} {fps : Nat → List Addr} {x : Val} {v : V} {fp : List Addr} (h : Holds K P H0 H σ env fps) (g : Got K P H0 H H' σ env env' fps x v fp) :
    Same H0 H' ∧ Rep K H' x.d v fp ∧ (∀ b ∈ fp, H0 b = none ∨ P b) ∧ OwnOk H0 H' (fun _ => False) x.d x.l v fp := by
  refine ⟨h.same.trans g.same, g.rep, fun b hb => ?_, g.own.mono (Same.refl _) fun _ z => z.elim⟩
  rcases g.from_ b hb with z | ⟨j, lj, hj, _⟩
  · exact .inl (h.same.free z)
  · exact h.src j lj b hj
theorem qs_ret {e : Expr} {f : FE} {pos : Pos} (he : QE X e f) : QS X (.Return (some e) pos) (fRet f) := by
  refine PS.imp (ps_ret he) ?_
  rintro D σ H ⟨P, H0, env, fps, o, h, hf, k⟩
  unfold fRet at hf
  simp only [Option.bind_eq_some_iff, Prod.exists] at hf
  obtain ⟨x, e1, h1, h2⟩ := hf
  cases h2
  exact ⟨P, H0, env, fps, x, e1, h, h1, fun v H1 fp g => let ⟨a, b, c, d⟩ := ret_post h g; k v H1 fp a b c d⟩
noncomputable def fIfS (t : FT) (f g : FS) : FS := fun env => (t env).bind fun (b, e) => if b = true then f e else g e
theorem after_test {f : FS} {P : Addr → Prop} {H0 H H1 : Hp} {σ : St} {env e1 : PEnv} {fps : Nat → List Addr} {o : Out} {D : Ends} (s1 : Same H H1) (g1 : Holds X.K P H0 H1 σ e1 fps) (b1 : Sub e1 env) (hf : f e1 = some o)
    (k : PostO X P H0 H env fps D o) : tQS X f D σ H1 := by
  have kk : Kept H H1 env e1 fps fps := Kept.same s1 b1
  refine ⟨P, H0, e1, fps, o, g1, hf, ?_⟩
  cases o with
  | next e' => exact fun σ2 H2 fps2 h2 k2 => k σ2 H2 fps2 h2 (kk.trans k2)
  | brk e' => exact fun σ2 H2 fps2 h2 k2 => k σ2 H2 fps2 h2 (kk.trans k2)
  | cont e' => exact fun σ2 H2 fps2 h2 k2 => k σ2 H2 fps2 h2 (kk.trans k2)
  | ret x => exact k
  | exc c => exact k
theorem qs_if {c : Expr} {a b : List Stmt} {t : FT} {f g : FS} {pos : Pos} (hc : QT X c t) (ha : QSs X a f) (hb : QSs X b g) : QS X (.If c a b pos) (fIfS t f g) := by
  refine PS.imp (ps_if hc ha hb) ?_
  rintro D σ H ⟨P, H0, env, fps, o, h, hf, k⟩
  unfold fIfS at hf
  simp only [Option.bind_eq_some_iff, Prod.exists] at hf
  obtain ⟨d, e1, h1, h2⟩ := hf
  refine ⟨P, H0, env, fps, d, e1, h, h1, fun H1 s1 g1 b1 => ?_⟩
  cases d with
  | true => rw [if_pos rfl] at h2 ⊢; exact after_test s1 g1 b1 h2 k
  | false => rw [if_neg Bool.false_ne_true] at h2 ⊢; exact after_test s1 g1 b1 h2 k
noncomputable def fNever : FS := fun _ => none
theorem qs_never {st : Stmt} : QS X st fNever := fun _ _ _ _ _ _ ⟨_, _, _, _, _, _, hf, _⟩ => by cases hf
noncomputable def fDrop (f : FE) : FS := fun env => (f env).bind fun (_, e) => some (.next e)
theorem qs_expr {e : Expr} {f : FE} {pos : Pos} (he : QE X e f) (hs : swapsWith e none pos.line X.env = pure false := by rfl) : QS X (.Expr e pos) (fDrop f) := by
  refine PS.imp (ps_expr he hs) ?_
  rintro D σ H ⟨P, H0, env, fps, o, h, hf, k⟩
  unfold fDrop at hf
  simp only [Option.bind_eq_some_iff, Prod.exists] at hf
  obtain ⟨x, e1, h1, h2⟩ := hf
  cases h2
  exact ⟨P, H0, env, fps, x, _, h, h1, fun v H1 fp g => k σ H1 fps g.holds (Kept.same g.same g.sub)⟩
end
section
variable {K : PySem.W.Frag} {P : Addr → Prop} {H0 H H1 : Hp} {σ : St} {env env1 : PEnv} {fps : Nat → List Addr}
noncomputable def putF (fps : Nat → List Addr) (i : Nat) (g : List Addr) : Nat → List Addr := fun q => if q = i then g else fps q
theorem putF_same {i : Nat} {g : List Addr} : putF fps i g i = g := if_pos rfl
theorem putF_ne {i q : Nat} {g : List Addr} (h : q ≠ i) : putF fps i g q = fps q := if_neg h
theorem live_put {i q : Nat} {p : Option (D × Nat)} (h : Live (env.set i p) q) : q = i ∨ (q ≠ i ∧ Live env q) := by
  obtain ⟨r, e⟩ := h
  by_cases hq : q = i
  · exact .inl hq
  · rw [List.getElem?_set_ne (Ne.symm hq)] at e
    exact .inr ⟨hq, r, e⟩
theorem Holds.put {i : Nat} {d : D} {l : Nat} {v : V} {g : List Addr} (h : Holds K P H0 H σ env fps) (hi : i < env.length) (r : Rep K H d v g) (hno : ∀ b ∈ g, ¬ Owned env fps b) (hsrc : ∀ b ∈ g, H0 b = none ∨ P b)
    (own : OwnOk H0 H (fun b => ∃ k, k ≠ i ∧ Live env k ∧ b ∈ fps k) d l v g) : Holds K P H0 H (σ.set i (some v)) (env.set i (some (d, l))) (putF fps i g) where
  same := h.same
  len := by rw [List.length_set, List.length_set]; exact h.len
  slot := fun q d' l' e => by
    by_cases hq : q = i
    · subst hq
      rw [List.getElem?_set_self hi] at e
      cases e
      rw [putF_same]
      refine ⟨v, by rw [List.getElem?_set_self (by rw [← h.len]; exact hi)], r, own.mono (Same.refl _) fun b ⟨k, hk, lk, hb⟩ => ?_⟩
      rw [putF_ne hk] at hb
      rcases live_put lk with z | ⟨_, lk⟩
      · exact absurd z hk
      · exact ⟨k, hk, lk, hb⟩
    · rw [List.getElem?_set_ne (Ne.symm hq)] at e
      obtain ⟨u, e1, e2, e3⟩ := h.slot q d' l' e
      rw [putF_ne hq]
      refine ⟨u, by rw [List.getElem?_set_ne (Ne.symm hq)]; exact e1, e2, ?_⟩
      have oth : ∀ b, (∃ k, k ≠ q ∧ Live (env.set i (some (d, l))) k ∧ b ∈ putF fps i g k) → (∃ k, k ≠ q ∧ Live env k ∧ b ∈ fps k) ∨ b ∈ g := fun b ⟨k, hk, lk, hb⟩ => by
        by_cases hki : k = i
        · subst hki; rw [putF_same] at hb; exact .inr hb
        · rw [putF_ne hki] at hb
          rcases live_put lk with z | ⟨_, lk⟩
          · exact absurd z hki
          · exact .inl ⟨k, hk, lk, hb⟩
      refine ⟨fun hl hd => ?_, fun hl => ?_⟩
      · obtain ⟨a, g', xs, f1, f2, f3, f4, f5, f6⟩ := e3.top hl hd
        refine ⟨a, g', xs, f1, f2, f3, f4, f5, fun z => ?_⟩
        rcases oth a z with z | z
        · exact f6 z
        · exact hno a z ⟨q, d', l', e, by rw [f1]; exact List.mem_cons_self, .inr ⟨hl, hd, g', f1⟩⟩
      · obtain ⟨f1, f2⟩ := e3.deep hl
        refine ⟨f1, fun b hb => ⟨(f2 b hb).1, fun z => ?_⟩⟩
        rcases oth b z with z | z
        · exact (f2 b hb).2 z
        · exact hno b z ⟨q, d', l', e, hb, .inl hl⟩
  src := fun q lq b hb => by
    by_cases hq : q = i
    · subst hq; rw [putF_same] at hb; exact hsrc b hb
    · rw [putF_ne hq] at hb
      rcases live_put lq with z | ⟨_, lq⟩
      · exact absurd z hq
      · exact h.src q lq b hb
theorem Holds.drop {S : List Nat} (h : Holds K P H0 H σ env fps) : Holds K P H0 H σ (dropS S env) fps where
  same := h.same
  len := by rw [dropS_len]; exact h.len
  slot := fun q d l e => by
    obtain ⟨l', e', hl⟩ := dropS_some e
    obtain ⟨v, e1, e2, e3⟩ := h.slot q d l' e'
    refine ⟨v, e1, e2, ?_⟩
    rcases hl with ⟨_, rfl⟩ | ⟨_, rfl⟩
    · exact .zero
    · exact e3.mono (Same.refl _) fun b ⟨k, hk, lk, hb⟩ => ⟨k, hk, dropS_live lk, hb⟩
  src := fun q lq => h.src q (dropS_live lq)
theorem owned_drop {S : List Nat} {b : Addr} (h : Owned (dropS S env) fps b) : Owned env fps b := by
  obtain ⟨k, d, l, e, hb, hl⟩ := h
  obtain ⟨l', e', z⟩ := dropS_some e
  rcases z with ⟨_, rfl⟩ | ⟨_, rfl⟩
  · rcases hl with hl | ⟨hl, _⟩ <;> omega
  · exact ⟨k, d, l, e', hb, hl⟩
theorem owned_put {i : Nat} {d : D} {l : Nat} {g : List Addr} {b : Addr} (h : Owned (env.set i (some (d, l))) (putF fps i g) b) : Owned env fps b ∨ (b ∈ g ∧ (2 ≤ l ∨ (1 ≤ l ∧ (∃ ds, d = .lst ds) ∧ ∃ g', g = b :: g'))) := by
  obtain ⟨k, d', l', e, hb, hl⟩ := h
  by_cases hk : k = i
  · subst hk
    rw [putF_same] at hb hl
    rw [List.getElem?_set] at e
    split at e
    · split at e
      · cases e; exact .inr ⟨hb, hl⟩
      · cases e
    · rename_i hne; exact absurd rfl hne
  · rw [putF_ne hk] at hb hl
    rw [List.getElem?_set_ne (Ne.symm hk)] at e
    exact .inl ⟨k, d', l', e, hb, hl⟩
theorem Got.put {x : Val} {v : V} {fp : List Addr} {i : Nat} (h : Holds K P H0 H σ env fps) (g : Got K P H0 H H1 σ env env1 fps x v fp) (hi : i < env.length) :
    Holds K P H0 H1 (σ.set i (some v)) ((dropS x.S env1).set i (some (x.d, x.l))) (putF fps i fp) ∧ Kept H H1 env ((dropS x.S env1).set i (some (x.d, x.l))) fps (putF fps i fp) := by
  have moved : ∀ b ∈ fp, (¬ ∃ k, Live env1 k ∧ b ∈ fps k) → H b = none ∨ Owned env fps b := fun b hb hn => by
    rcases g.from_ b hb with z | ⟨j, ⟨⟨d, l⟩, lj⟩, hj, _⟩
    · exact .inl z
    · rcases g.sub.2.2 j d l lj with z | z
      · exact absurd ⟨j, ⟨_, z⟩, hj⟩ hn
      · subst z
        exact .inr ⟨j, d, 2, lj, hj, .inl (Nat.le_refl _)⟩
  refine ⟨g.holds.drop.put (by rw [dropS_len, g.sub.1]; exact hi) g.rep (fun b hb => Got.unowned h g hb) (fun b hb => (ret_post h g).2.2.1 b hb) (g.own.mono (Same.refl _) fun b ⟨k, _, lk, hb⟩ => ⟨k, dropS_live lk, hb⟩), ?_⟩
  refine ⟨fun b o hb _ => g.same b o hb, fun b hb => .inl fun z => hb (g.same.free z), fun b hb => ?_, fun b hb => ?_, by rw [List.length_set, dropS_len, g.sub.1]⟩
  · rcases owned_put hb with z | ⟨z, hl⟩
    · obtain ⟨k, d, l, e, hb, hl⟩ := owned_drop z
      exact .inl ⟨k, d, l, g.sub.2.1 k _ e, hb, hl⟩
    · have hn : ¬ ∃ k, Live env1 k ∧ b ∈ fps k := by
        rcases hl with hl | ⟨hl, hd, g', e⟩
        · exact ((g.own.deep hl).2 b z).2
        · obtain ⟨a, g2, xs, f1, _, _, _, _, f6⟩ := g.own.top hl hd
          rw [e] at f1
          cases f1
          exact f6
      exact (moved b z hn).symm
  · obtain ⟨k, lk, hbk⟩ := hb
    by_cases hk : k = i
    · subst hk
      rw [putF_same] at hbk
      rcases g.from_ b hbk with z | ⟨j, lj, hj, _⟩
      · exact .inr z
      · exact .inl ⟨j, lj, hj⟩
    · rw [putF_ne hk] at hbk
      rcases live_put lk with z | ⟨_, lk⟩
      · exact absurd z hk
      · exact .inl ⟨k, g.sub.live (dropS_live lk), hbk⟩
end
noncomputable def fSet (i : Nat) (f : FE) : FS := fun env => (f env).bind fun (x, e) => if i < env.length then some (.next ((dropS x.S e).set i (some (x.d, x.l)))) else none
section
variable {X : Cx}
theorem set_read {i : Nat} {f : FE} {D : Ends} {σ : St} {H : Hp} (h : tQS X (fSet i f) D σ H) : tAsg (tQ X.K f) (gName i) D σ H := by
  obtain ⟨P, H0, env, fps, o, h, hf, k⟩ := h
  unfold fSet at hf
  simp only [Option.bind_eq_some_iff, Prod.exists] at hf
  obtain ⟨x, e1, h1, h2⟩ := hf
  split at h2
  · rename_i hi
    cases h2
    refine ⟨P, H0, env, fps, x, e1, h, h1, fun v H1 fp g => ?_⟩
    obtain ⟨a, b⟩ := Got.put h g hi
    exact k _ H1 _ a b
  · cases h2
theorem qs_set (i : Nat) {x : Str} {e : Expr} {f : FE} {pos pos' : Pos} (hN : X.N.Nodup) (he : QE X e f) (hi : X.N[i]? = some x := by rfl) (hx : Loc X.env.scope x := by exact L2.loc_of rfl rfl) (hs : swapsWith e (some (.Name x pos')) pos.line X.env = pure false := by rfl)
    (hf : X.fn x = true ∨ X.env.scope.names.lookup x = some .local := by first | exact .inl rfl | exact .inr rfl | assumption) : QS X (.Assign [.Name x pos'] e pos) (fSet i f) :=
  PS.imp (ps_set hN hi hx he hs hf) fun _ _ _ h => set_read h
theorem qs_setc (i : Nat) {x tx : Str} {N' : List Str} {ix : List (Option Nat)} {scope : Scope} {elt iter : Expr} {ifs : List Expr} {fi : FI} {ft : FT} {fe : FE} {j : Nat} {pos spos pos' tp : Pos} (hN : X.N.Nodup) (S : CompScope N' scope) (T : Slots X.N X.env.scope scope N' ix) (hc : X.calm = true) (hit : QI X (.Name tx tp) iter fi)
    (hjN : N'[j]? = some tx) (hj : ix[j]? = some none) (hif : ∀ s H fp, PIfs (cxComp X N' scope s H fp) ifs (tQT X.K ft)) (he : ∀ s H fp, QE (cxComp X N' scope s H fp) elt fe)
    (hi : X.N[i]? = some x := by rfl) (hx : X.env.scope.names.lookup x = some .local := by rfl) (hxt : Loc (relabelS scope X.env.scope) tx := by exact L2.loc_of rfl rfl)
    (hfn : ∀ s H fp, (cxComp X N' scope s H fp).fn tx = true ∨ (relabelS scope X.env.scope).names.lookup tx = some .local := by first | exact fun _ _ _ => .inr rfl | exact fun _ _ _ => .inl rfl)
    (hsw : swapsWith (.ListComp elt [⟨.Name tx tp, iter, ifs, 0⟩] scope pos) (some (.Name x pos')) spos.line X.env = pure true := by rfl) (hs : ∀ x, foldedSetIterable iter X.env x = pure x := by intro _; rfl) :
    QS X (.Assign [.Name x pos'] (.ListComp elt [⟨.Name tx tp, iter, ifs, 0⟩] scope pos) spos) (fSet i (fComp ix j fi ft fe)) := by
  refine PS.imp (ps_setc hN hi hx S T hc hit hsw hs) fun D σ H h => ?_
  exact comp_read hj (fun s H fp => pg_name S.nd hjN hxt (hfn s H fp)) hif he (set_read h)
end
end L3
namespace L3
open PySem PySem.Spec PyProof.Rows L2
section
variable {K : PySem.W.Frag} {H H' : Hp} {O : Addr → Prop}
mutual
theorem Rep.kept (k : ∀ b o, H b = some o → ¬ O b → H' b = some o) (hO : ∀ b, O b → ∃ zs, H b = some (.lst zs)) : ∀ {d : D} {v : V} {f : List Addr}, Rep K H d v f → (∀ b ∈ f, ¬ O b) → Rep K H' d v f
  | .non, _, _, h, _ => by simpa only [Rep] using h
  | .bl _, _, _, h, _ => by simpa only [Rep] using h
  | .int _, _, _, h, _ => by simpa only [Rep] using h
  | .str _, _, _, h, _ => by simpa only [Rep] using h
  | .lst ds, v, f, h, hn => by
    simp only [Rep] at h ⊢
    obtain ⟨a, xs, g, h1, h2, rfl, h3⟩ := h
    exact ⟨a, xs, g, h1, k _ _ h2 (hn a List.mem_cons_self), rfl, Reps.kept k hO h3 fun b hb => hn b (List.mem_cons_of_mem _ hb)⟩
  | .tup ds, v, f, h, hn => by
    simp only [Rep] at h ⊢
    obtain ⟨a, xs, h1, h2, h3⟩ := h
    refine ⟨a, xs, h1, ?_, Reps.kept k hO h3 hn⟩
    rcases h2 with (h2 | ⟨u, h2⟩) | h2
    · exact .inl (.inl (k _ _ h2 fun z => by obtain ⟨zs, e⟩ := hO a z; rw [h2] at e; cases e))
    · exact .inl (.inr ⟨u, k _ _ h2 fun z => by obtain ⟨zs, e⟩ := hO a z; rw [h2] at e; cases e⟩)
    · exact .inr h2
  | .ro ds, v, f, h, hn => by
    simp only [Rep] at h ⊢
    obtain ⟨a, xs, h1, h2, h3⟩ := h
    refine ⟨a, xs, h1, ?_, Reps.kept k hO h3 hn⟩
    rcases h2 with ⟨u, h2⟩ | h2
    · exact .inl ⟨u, k _ _ h2 fun z => by obtain ⟨zs, e⟩ := hO a z; rw [h2] at e; cases e⟩
    · exact .inr h2
  | .exc c, v, f, h, _ => by
    simp only [Rep] at h ⊢
    obtain ⟨a, h1, ⟨C, φ, z1, z2, z3, z4⟩, h2⟩ := h
    exact ⟨a, h1, ⟨C, φ, z1, z2, k _ _ z3 (fun z => by obtain ⟨zs, e⟩ := hO a z; rw [z3] at e; cases e), z4⟩, h2⟩
theorem Reps.kept (k : ∀ b o, H b = some o → ¬ O b → H' b = some o) (hO : ∀ b, O b → ∃ zs, H b = some (.lst zs)) : ∀ {ds : List D} {xs : List V} {f : List Addr}, Reps K H ds xs f → (∀ b ∈ f, ¬ O b) → Reps K H' ds xs f
  | [], _, _, h, _ => by simpa only [Reps] using h
  | d :: ds, xs, f, h, hn => by
    simp only [Reps] at h ⊢
    obtain ⟨x, r, g, g', h1, rfl, h3, h4⟩ := h
    exact ⟨x, r, g, g', h1, rfl, Rep.kept k hO h3 fun b hb => hn b (List.mem_append_left _ hb), Reps.kept k hO h4 fun b hb => hn b (List.mem_append_right _ hb)⟩
end
end
theorem Holds.owned_lst {K : PySem.W.Frag} {P : Addr → Prop} {H0 H : Hp} {σ : St} {env : PEnv} {fps : Nat → List Addr} (h : Holds K P H0 H σ env fps) {b : Addr} (hb : Owned env fps b) : ∃ zs, H b = some (.lst zs) := by
  obtain ⟨k, d, l, e, hb, _⟩ := hb
  obtain ⟨_, _, r, _⟩ := h.slot k d l e
  exact r.dom b hb
noncomputable def forGo (i l : Nat) (fb : FS) : List D → PEnv → Option Out
  | [], e => some (.next e)
  | d :: ds, e => (fb (e.set i (some (d, lvlI l d)))).bind fun o => match o with
    | .next e2 => forGo i l fb ds e2
    | .cont e2 => forGo i l fb ds e2
    | .brk e2 => some (.next e2)
    | .ret x => some (.ret x)
    | .exc c => some (.exc c)
noncomputable def fFor (i : Nat) (fi : FI) (fb : FS) : FS := fun env => (fi env).bind fun (it, e1) => if i < env.length then forGo i it.l fb it.ds (dropS it.S e1) else none
structure LoopInv (K : PySem.W.Frag) (P : Addr → Prop) (H0 H H1 H' : Hp) (σ' : St) (env e : PEnv) (fps fps' : Nat → List Addr) (it : Items) (a : Option Addr) (gx : List Addr) (rest : List D) (xr : List V) : Prop where
  holds : Holds K P H0 H' σ' e fps'
  len : e.length = env.length
  kept : Kept H H' env e fps fps'
  left : ∃ gr, Reps K H' rest xr gr ∧ gr.Sublist gx ∧ (2 ≤ it.l → ∀ b ∈ gr, ¬ LiveB e fps' b) ∧ ∀ b ∈ gr, ¬ Owned e fps' b
  cont : ∀ p, a = some p → H' p = H1 p ∧ ¬ Owned e fps' p
section
variable {K : PySem.W.Frag} {P : Addr → Prop} {H0 H H1 H' : Hp} {σ σ' : St} {env env1 e : PEnv} {fps fps' : Nat → List Addr} {it : Items} {xs : List V} {gx : List Addr} {a : Option Addr}
theorem loop_item {i : Nat} {d : D} {rest : List D} {x : V} {xr : List V} (h : Holds K P H0 H σ env fps) (gi : GotI K P H0 H H1 σ env env1 fps it xs gx a) (hi : i < env.length) (L : LoopInv K P H0 H H1 H' σ' env e fps fps' it a gx (d :: rest) (x :: xr)) :
    ∃ g, Holds K P H0 H' (σ'.set i (some x)) (e.set i (some (d, lvlI it.l d))) (putF fps' i g) ∧ Kept H H' env (e.set i (some (d, lvlI it.l d))) fps (putF fps' i g) ∧
      ∀ σ2 H2 e2 fps2, Holds K P H0 H2 σ2 e2 fps2 → Kept H' H2 (e.set i (some (d, lvlI it.l d))) e2 (putF fps' i g) fps2 → LoopInv K P H0 H H1 H2 σ2 env e2 fps fps2 it a gx rest xr := by
  obtain ⟨gr0, r0, s0, lv, no⟩ := L.left
  simp only [Reps] at r0
  obtain ⟨x', r', g, gr, exx, rfl, rg, rr⟩ := r0
  cases exx
  have mg : ∀ b ∈ g, b ∈ g ++ gr := fun b hb => List.mem_append_left _ hb
  have mr : ∀ b ∈ gr, b ∈ g ++ gr := fun b hb => List.mem_append_right _ hb
  have hi' : i < e.length := by rw [L.len]; exact hi
  have gsrc : ∀ b ∈ g, H0 b = none ∨ P b := fun b hb => by
    rcases gi.from_ b (s0.subset (mg b hb)) with z | ⟨k, lk, hk, _⟩
    · exact .inl (h.same.free z)
    · exact h.src k lk b hk
  have own : OwnOk H0 H' (fun b => ∃ k, k ≠ i ∧ Live e k ∧ b ∈ fps' k) d (lvlI it.l d) x g := by
    unfold lvlI
    split
    · rename_i hc
      rcases hc with hc | hc
      · have e0 := rg.flat hc
        subst e0
        exact .flat hc
      · obtain ⟨o1, o2⟩ := gi.own hc
        exact OwnOk.two rg ((s0.nodup o1).sublist (List.sublist_append_left g gr)) fun b hb => ⟨(o2 b (s0.subset (mg b hb))).1, fun ⟨k, _, lk, hk⟩ => lv hc b (mg b hb) ⟨k, lk, hk⟩⟩
    · exact .zero
  have HI := L.holds.put hi' rg (fun b hb => no b (mg b hb)) gsrc own
  -- the item's parts that become owned
  have two : ∀ b ∈ g, (2 ≤ lvlI it.l d ∨ (1 ≤ lvlI it.l d ∧ (∃ ds, d = .lst ds) ∧ ∃ g', g = b :: g')) → 2 ≤ it.l := fun b hb hl => by
    unfold lvlI at hl
    split at hl
    · rename_i hc
      rcases hc with hc | hc
      · rw [rg.flat hc] at hb; cases hb
      · exact hc
    · rcases hl with hl | ⟨hl, _⟩ <;> omega
  have kI : Kept H H' env (e.set i (some (d, lvlI it.l d))) fps (putF fps' i g) := by
    refine ⟨L.kept.keep, L.kept.there, fun b hb => ?_, fun b hb => ?_, by rw [List.length_set]; exact L.len⟩
    · rcases owned_put hb with z | ⟨z, hl⟩
      · exact L.kept.grow b z
      · have h2 := two b z hl
        rcases gi.from_ b (s0.subset (mg b z)) with w | ⟨k, ⟨⟨dk, lk⟩, ek⟩, hk, _⟩
        · exact .inr w
        · rcases gi.sub.2.2 k dk lk ek with w | w
          · exact absurd ⟨k, ⟨_, w⟩, hk⟩ ((gi.own h2).2 b (s0.subset (mg b z))).2
          · subst w
            exact .inl ⟨k, dk, 2, ek, hk, .inl (Nat.le_refl _)⟩
    · obtain ⟨k, lk, hk⟩ := hb
      by_cases hki : k = i
      · subst hki
        rw [putF_same] at hk
        rcases gi.from_ b (s0.subset (mg b hk)) with w | ⟨j, lj, hj, _⟩
        · exact .inr w
        · exact .inl ⟨j, lj, hj⟩
      · rw [putF_ne hki] at hk
        rcases live_put lk with z | ⟨_, lk⟩
        · exact absurd z hki
        · exact L.kept.seen b ⟨k, lk, hk⟩
  refine ⟨g, HI, kI, fun σ2 H2 e2 fps2 h2 k2 => ?_⟩
  have apart : 2 ≤ it.l → ∀ b ∈ g, b ∉ gr := fun hl b hb hb2 => (List.nodup_append.mp (s0.nodup (gi.own hl).1)).2.2 b hb b hb2 rfl
  have noI : ∀ b ∈ gr, ¬ Owned (e.set i (some (d, lvlI it.l d))) (putF fps' i g) b := fun b hb z => by
    rcases owned_put z with z | ⟨z, hl⟩
    · exact no b (mr b hb) z
    · exact apart (two b z hl) b z hb
  have dom : ∀ b ∈ gr, H' b ≠ none := fun b hb z => by obtain ⟨zs, q⟩ := rr.dom b hb; rw [z] at q; cases q
  refine ⟨h2, (kI.trans k2).len, kI.trans k2, ⟨gr, Reps.kept k2.keep (fun b hb => HI.owned_lst hb) rr noI, (List.sublist_append_right g gr).trans s0, fun hl b hb z => ?_, fun b hb z => ?_⟩, fun p hp => ?_⟩
  · rcases k2.seen b z with z | z
    · obtain ⟨k, lk, hk⟩ := z
      by_cases hki : k = i
      · subst hki; rw [putF_same] at hk; exact apart hl b hk hb
      · rw [putF_ne hki] at hk
        rcases live_put lk with z | ⟨_, lk⟩
        · exact absurd z hki
        · exact lv hl b (mr b hb) ⟨k, lk, hk⟩
    · exact dom b hb z
  · rcases k2.grow b z with z | z
    · exact noI b hb z
    · exact dom b hb z
  · obtain ⟨c1, c2⟩ := L.cont p hp
    have hp1 := gi.prot p hp
    have hpn : H' p ≠ none := by rw [c1]; exact hp1.1
    have nI : ¬ Owned (e.set i (some (d, lvlI it.l d))) (putF fps' i g) p := fun z => by
      rcases owned_put z with z | ⟨z, hl⟩
      · exact c2 z
      · exact hp1.2.1 (two p z hl) (s0.subset (mg p z))
    constructor
    · cases q : H' p with
      | none => exact absurd q hpn
      | some o => rw [k2.keep p o q nI, ← c1, q]
    · intro z
      rcases k2.grow p z with z | z
      · exact nI z
      · exact hpn z
end
theorem forGo_cons {i l : Nat} {fb : FS} {d : D} {ds : List D} {e : PEnv} {o : Out} (h : forGo i l fb (d :: ds) e = some o) : ∃ o1, fb (e.set i (some (d, lvlI l d))) = some o1 ∧ (match o1 with
    | .next e2 => forGo i l fb ds e2
    | .cont e2 => forGo i l fb ds e2
    | .brk e2 => some (.next e2)
    | .ret x => some (.ret x)
    | .exc c => some (.exc c)) = some o := by
  simp only [forGo, Option.bind_eq_some_iff] at h
  exact h
theorem for_read {X : Cx} {i : Nat} {fi : FI} {fb : FS} {D : Ends} {σ : St} {H : Hp} (h : tQS X (fFor i fi fb) D σ H) : tFor (tQI X.K fi) (gName i) (tQS X fb) D σ H := by
  obtain ⟨P, H0, env, fps, o, h, hf, k⟩ := h
  unfold fFor at hf
  simp only [Option.bind_eq_some_iff, Prod.exists] at hf
  obtain ⟨it, e1, h1, h2⟩ := hf
  split at h2
  · rename_i hi
    refine ⟨P, H0, env, fps, it, e1, h, h1, fun H1 xs gx J a gi fd => ?_⟩
    have hlen : xs.length = it.ds.length := gi.reps.length
    refine ⟨fun n m σ' H' => m = xs.length - n ∧ n ≤ xs.length ∧ ∃ e fps', forGo i it.l fb (it.ds.drop n) e = some o ∧ LoopInv X.K P H0 H H1 H' σ' env e fps fps' it a gx (it.ds.drop n) (xs.drop n),
      ⟨xs.length, by simp, Nat.zero_le _, dropS it.S e1, fps, by simpa using h2, ?_⟩, ?_⟩
    · have sb : ∀ b ∈ gx, ¬ Owned (dropS it.S e1) fps b := fun b hb => by
        rintro ⟨q, d, l, ek, hk, hl⟩
        obtain ⟨l', e', hS⟩ := dropS_some ek
        rcases hS with ⟨_, rfl⟩ | ⟨hS, rfl⟩
        · rcases hl with hl | ⟨hl, _⟩ <;> omega
        have ek0 := gi.sub.2.1 q _ e'
        obtain ⟨u, _, _, ow⟩ := h.slot q d l ek0
        rcases gi.from_ b hb with z | ⟨j, lj, hj, z⟩
        · exact h.dom ⟨_, ek0⟩ hk z
        · have hjk : j ≠ q := by
            rintro rfl
            rcases z with z | z
            · exact hS z
            · exact z ⟨_, e'⟩
          rcases hl with hl | ⟨hl, hd, gg, hgg⟩
          · exact ((ow.deep hl).2 b hk).2 ⟨j, hjk, lj, hj⟩
          · obtain ⟨a', g', xs', f1, _, _, _, _, f6⟩ := ow.top hl hd
            rw [hgg] at f1
            cases f1
            exact f6 ⟨j, hjk, lj, hj⟩
      refine ⟨gi.holds.drop, by rw [dropS_len, gi.sub.1], ⟨fun b o hb _ => gi.same b o hb, fun b hb => .inl fun z => hb (gi.same.free z), fun b hb => ?_, fun b ⟨q, lq, hq⟩ => .inl ⟨q, gi.sub.live (dropS_live lq), hq⟩, by rw [dropS_len, gi.sub.1]⟩, ⟨gx, by simpa using gi.reps, List.Sublist.refl _, fun hl b hb ⟨q, lq, hq⟩ => ((gi.own hl).2 b hb).2 ⟨q, dropS_live lq, hq⟩, sb⟩, fun p hp => ⟨rfl, (gi.prot p hp).2.2⟩⟩
      obtain ⟨q, d, l, e, hq, hl⟩ := owned_drop hb
      exact .inl ⟨q, d, l, gi.sub.2.1 q _ e, hq, hl⟩
    · rintro n m σ' H' ⟨rfl, hn, e, fps', hgo, L⟩
      have st : ∀ p, a = some p → H' p = H1 p := fun p hp => (L.cont p hp).1
      by_cases hlt : n < xs.length
      · have hlt2 : n < it.ds.length := by omega
        have ed : it.ds.drop n = it.ds[n] :: it.ds.drop (n + 1) := List.drop_eq_getElem_cons hlt2
        have ex : xs.drop n = xs[n] :: xs.drop (n + 1) := List.drop_eq_getElem_cons hlt
        rw [ed] at hgo
        rw [ed, ex] at L
        have hx : xs[n]? = some xs[n] := by simp
        obtain ⟨o1, hfb, ho⟩ := forGo_cons hgo
        obtain ⟨g, HI, kI, nx⟩ := loop_item h gi hi L
        refine .inr ⟨(fd.go H' st n _ hx).1, fun σ2 H2 => ∃ e fps', forGo i it.l fb (it.ds.drop (n + 1)) e = some o ∧ LoopInv X.K P H0 H H1 H2 σ2 env e fps fps' it a gx (it.ds.drop (n + 1)) (xs.drop (n + 1)),
          fun σ2 H2 q => ⟨xs.length - (n + 1), by omega, rfl, hlt, q⟩, fun x' H2 hy => ?_⟩
        obtain ⟨rfl, rfl⟩ := (fd.go H' st n _ hx).2 x' H2 hy
        refine ⟨P, H0, _, _, o1, HI, hfb, ?_⟩
        cases o1 with
        | next e2 => exact fun σ2 H2 fps2 h2 k2 => ⟨e2, fps2, ho, nx σ2 H2 e2 fps2 h2 k2⟩
        | cont e2 => exact fun σ2 H2 fps2 h2 k2 => ⟨e2, fps2, ho, nx σ2 H2 e2 fps2 h2 k2⟩
        | brk e2 => cases ho; exact fun σ2 H2 fps2 h2 k2 => k σ2 H2 fps2 h2 (kI.trans k2)
        | ret x => cases ho; exact k
        | exc c => cases ho; exact k
      · have ei : n = xs.length := by omega
        have ed : it.ds.drop n = [] := List.drop_of_length_le (by omega)
        rw [ed] at hgo
        cases hgo
        exact .inl ⟨fd.stop H' st n (by omega), k σ' H' fps' L.holds L.kept⟩
  · cases h2
section
variable {X : Cx}
theorem qs_for (i : Nat) {x : Str} {iter : Expr} {body : List Stmt} {fi : FI} {fb : FS} {pos tp : Pos} (hp : PassesOwn (model X.prog X.w) X.A X.env X.xe) (hc : X.calm = true) (hN : X.N.Nodup) (hit : QI X (.Name x tp) iter fi) (hb : QSs X body fb)
    (hi : X.N[i]? = some x := by rfl) (hx : Loc X.env.scope x := by exact L2.loc_of rfl rfl) (hf : X.fn x = true ∨ X.env.scope.names.lookup x = some .local := by first | exact .inl rfl | exact .inr rfl | assumption) (hs : ∀ x, foldedSetIterable iter X.env x = pure x := by intro _; rfl) :
    QS X (.For (.Name x tp) iter body [] pos) (fFor i fi fb) := PS.imp (ps_for hp hc hit (pg_name hN hi hx hf) hb hs) fun _ _ _ h => for_read h
noncomputable def whileGo (ft : FT) (fb : FS) : Nat → PEnv → Option Out
  | 0, _ => none
  | n + 1, e => (ft e).bind fun (b, e1) => if b = true then (fb e1).bind fun o => match o with
      | .next e2 => whileGo ft fb n e2
      | .cont e2 => whileGo ft fb n e2
      | .brk e2 => some (.next e2)
      | .ret x => some (.ret x)
      | .exc c => some (.exc c)
    else some (.next e1)
theorem while_read {n : Nat} {ft : FT} {fb : FS} {D : Ends} {σ : St} {H : Hp} (h : tQS X (whileGo ft fb n) D σ H) : tWhile (tQT X.K ft) (tQS X fb) D σ H := by
  obtain ⟨P, H0, env, fps, o, h, hf, k⟩ := h
  refine ⟨fun m σ' H' => ∃ e fps', whileGo ft fb m e = some o ∧ Holds X.K P H0 H' σ' e fps' ∧ Kept H H' env e fps fps', ⟨n, env, fps, hf, h, Kept.same (Same.refl _) (Sub.refl _)⟩, ?_⟩
  rintro m σ' H' ⟨e, fps', hw, hh, kk⟩
  cases m with
  | zero => cases hw
  | succ m =>
    simp only [whileGo, Option.bind_eq_some_iff, Prod.exists] at hw
    obtain ⟨b, e1, h1, h2⟩ := hw
    refine ⟨P, H0, e, fps', b, e1, hh, h1, fun H2 s2 g2 b2 => ?_⟩
    have k2 : Kept H H2 env e1 fps fps' := kk.trans (Kept.same s2 b2)
    cases b with
    | true =>
      rw [if_pos rfl] at h2
      refine iteT ?_
      rw [Option.bind_eq_some_iff] at h2
      obtain ⟨o1, h3, h4⟩ := h2
      refine ⟨fun σ3 H3 => ∃ e fps', whileGo ft fb m e = some o ∧ Holds X.K P H0 H3 σ3 e fps' ∧ Kept H H3 env e fps fps', fun σ3 H3 q => ⟨m, Nat.lt_succ_self _, q⟩, P, H0, e1, fps', o1, g2, h3, ?_⟩
      cases o1 with
      | next e2 => exact fun σ3 H3 fps3 h3 k3 => ⟨e2, fps3, h4, h3, k2.trans k3⟩
      | cont e2 => exact fun σ3 H3 fps3 h3 k3 => ⟨e2, fps3, h4, h3, k2.trans k3⟩
      | brk e2 => cases h4; exact fun σ3 H3 fps3 h3 k3 => k σ3 H3 fps3 h3 (k2.trans k3)
      | ret x => cases h4; exact k
      | exc c => cases h4; exact k
    | false =>
      rw [if_neg Bool.false_ne_true] at h2
      refine iteF ?_
      cases h2
      exact k σ' H2 fps' g2 k2
theorem qs_while (n : Nat) {c : Expr} {body : List Stmt} {ft : FT} {fb : FS} {pos : Pos} (hp : PassesOwn (model X.prog X.w) X.A X.env X.xe) (hc : QT X c ft) (hb : QSs X body fb) : QS X (.While c body [] pos) (whileGo ft fb n) :=
  PS.imp (ps_while hp hc hb) fun _ _ _ h => while_read h
end
end L3
namespace L3
open PySem PySem.Spec PyProof.Rows L2
section
variable {K : PySem.W.Frag} {P : Addr → Prop} {H0 H : Hp} {σ : St} {env : PEnv} {fps : Nat → List Addr}
theorem Holds.mutate {i : Nat} {ds ds' : List D} {l : Nat} {a : Addr} {g g' : List Addr} {xs' : List V} (h : Holds K P H0 H σ env fps) (hi : env[i]? = some (some (.lst ds, l))) (hl : 1 ≤ l) (hg : fps i = a :: g) (r : Reps K H ds' xs' g') (ha : a ∉ g')
    (hg' : ∀ b ∈ g', b ∈ g ∨ (H0 b = none ∧ ¬ ∃ k, Live env k ∧ b ∈ fps k)) (hn : 2 ≤ l → g'.Nodup) : Holds K P H0 (upd H a (.lst xs')) σ (env.set i (some (.lst ds', l))) (putF fps i (a :: g')) := by
  obtain ⟨v, e1, r1, o1⟩ := h.slot i _ l hi
  obtain ⟨a', g2, xs, f1, f2, f3, f4, f5, f6⟩ := o1.top hl ⟨ds, rfl⟩
  rw [hg] at f1
  cases f1
  have hil : i < env.length := (List.getElem?_eq_some_iff.mp hi).1
  have na : ∀ k, k ≠ i → Live env k → a ∉ fps k := fun k hk lk z => f6 ⟨k, hk, lk, z⟩
  refine ⟨fun b o hb => ?_, by rw [List.length_set]; exact h.len, fun q d' l' e => ?_, fun q lq b hb => ?_⟩
  · have : b ≠ a := fun z => by rw [z, f4] at hb; cases hb
    rw [upd_ne this]
    exact h.same b o hb
  · by_cases hq : q = i
    · subst hq
      rw [List.getElem?_set_self hil] at e
      cases e
      rw [putF_same]
      have oth : ∀ b, (∃ k, k ≠ q ∧ Live (env.set q (some (.lst ds', l))) k ∧ b ∈ putF fps q (a :: g') k) → ∃ k, k ≠ q ∧ Live env k ∧ b ∈ fps k := fun b ⟨k, hk, lk, hb⟩ => by
        rw [putF_ne hk] at hb
        rcases live_put lk with z | ⟨_, lk⟩
        · exact absurd z hk
        · exact ⟨k, hk, lk, hb⟩
      refine ⟨v, e1, by rw [f2]; exact Rep.mk upd_same (r.upd ⟨_, f5⟩ ha), fun _ _ => ⟨a, g', xs', rfl, f2, ha, f4, upd_same, fun z => f6 (oth a z)⟩, fun h2 => ⟨List.nodup_cons.mpr ⟨ha, hn h2⟩, fun b hb => ?_⟩⟩
      obtain ⟨d1, d2⟩ := o1.deep h2
      rcases List.mem_cons.mp hb with rfl | hb
      · exact ⟨f4, fun z => f6 (oth b z)⟩
      · rcases hg' b hb with z | z
        · have := d2 b (by rw [hg]; exact List.mem_cons_of_mem _ z)
          exact ⟨this.1, fun w => this.2 (oth b w)⟩
        · exact ⟨z.1, fun w => let ⟨k, _, lk, hk⟩ := oth b w; z.2 ⟨k, lk, hk⟩⟩
    · rw [List.getElem?_set_ne (Ne.symm hq)] at e
      obtain ⟨u, e1', e2, e3⟩ := h.slot q d' l' e
      rw [putF_ne hq]
      have naq := na q hq ⟨_, e⟩
      refine ⟨u, e1', e2.upd ⟨_, f5⟩ naq, ?_⟩
      have oth : ∀ b ∈ fps q, (∃ k, k ≠ q ∧ Live (env.set i (some (.lst ds', l))) k ∧ b ∈ putF fps i (a :: g') k) → ∃ k, k ≠ q ∧ Live env k ∧ b ∈ fps k := fun b hbq ⟨k, hk, lk, hb⟩ => by
        by_cases hki : k = i
        · subst hki
          rw [putF_same] at hb
          rcases List.mem_cons.mp hb with rfl | hb
          · exact absurd hbq naq
          · rcases hg' b hb with z | z
            · exact ⟨k, hk, ⟨_, hi⟩, by rw [hg]; exact List.mem_cons_of_mem _ z⟩
            · exact absurd ⟨q, ⟨_, e⟩, hbq⟩ z.2
        · rw [putF_ne hki] at hb
          rcases live_put lk with z | ⟨_, lk⟩
          · exact absurd z hki
          · exact ⟨k, hk, lk, hb⟩
      refine ⟨fun hl' hd => ?_, fun h2 => ?_⟩
      · obtain ⟨c, g3, ys, k1, k2, k3, k4, k5, k6⟩ := e3.top hl' hd
        have hc : c ∈ fps q := by rw [k1]; exact List.mem_cons_self
        refine ⟨c, g3, ys, k1, k2, k3, k4, ?_, fun z => k6 (oth c hc z)⟩
        rw [upd_ne (show c ≠ a from fun z => naq (z ▸ hc))]
        exact k5
      · obtain ⟨d1, d2⟩ := e3.deep h2
        exact ⟨d1, fun b hb => ⟨(d2 b hb).1, fun z => (d2 b hb).2 (oth b hb z)⟩⟩
  · by_cases hq : q = i
    · subst hq
      rw [putF_same] at hb
      rcases List.mem_cons.mp hb with rfl | hb
      · exact .inl f4
      · rcases hg' b hb with z | z
        · exact h.src q ⟨_, hi⟩ b (by rw [hg]; exact List.mem_cons_of_mem _ z)
        · exact .inl z.1
    · rw [putF_ne hq] at hb
      rcases live_put lq with z | ⟨_, lq⟩
      · exact absurd z hq
      · exact h.src q lq b hb
theorem Kept.mutate {Hs : Hp} {es : PEnv} {i : Nat} {ds ds' : List D} {l : Nat} {a : Addr} {g g' : List Addr} {xs' : List V} (s : Same Hs H) (b : Sub env es) (hi : env[i]? = some (some (.lst ds, l))) (hl : 1 ≤ l) (hg : fps i = a :: g)
    (hg' : ∀ b ∈ g', b ∈ g ∨ Hs b = none ∨ Owned es fps b) : Kept Hs (upd H a (.lst xs')) es (env.set i (some (.lst ds', l))) fps (putF fps i (a :: g')) := by
  have own_a : Owned es fps a := ⟨i, _, l, b.2.1 i _ hi, by rw [hg]; exact List.mem_cons_self, .inr ⟨hl, ⟨ds, rfl⟩, g, hg⟩⟩
  refine ⟨fun c o hc hn => ?_, fun c hc => .inl fun z => ?_, fun c hc => ?_, fun c hc => ?_, by rw [List.length_set]; exact b.1⟩
  · have : c ≠ a := fun z => hn (z ▸ own_a)
    rw [upd_ne this]
    exact s c o hc
  · by_cases hca : c = a
    · rw [hca, upd_same] at z; cases z
    · rw [upd_ne hca] at z
      exact hc (s.free z)
  · rcases owned_put hc with z | ⟨z, hl'⟩
    · obtain ⟨k, d, l', e, hb, hw⟩ := z
      exact .inl ⟨k, d, l', b.2.1 k _ e, hb, hw⟩
    · rcases List.mem_cons.mp z with rfl | z
      · exact .inl own_a
      · rcases hg' c z with w | w | w
        · rcases hl' with hl' | ⟨_, _, g3, e3⟩
          · exact .inl ⟨i, _, l, b.2.1 i _ hi, by rw [hg]; exact List.mem_cons_of_mem _ w, .inl hl'⟩
          · cases e3
            exact .inl own_a
        · exact .inr w
        · exact .inl w
  · obtain ⟨k, lk, hk⟩ := hc
    by_cases hki : k = i
    · subst hki
      rw [putF_same] at hk
      rcases List.mem_cons.mp hk with rfl | hk
      · exact .inl (owned_live own_a)
      · rcases hg' c hk with w | w | w
        · exact .inl ⟨k, ⟨_, b.2.1 k _ hi⟩, by rw [hg]; exact List.mem_cons_of_mem _ w⟩
        · exact .inr w
        · exact .inl (owned_live w)
    · rw [putF_ne hki] at hk
      rcases live_put lk with z | ⟨_, lk⟩
      · exact absurd z hki
      · exact .inl ⟨k, b.live lk, hk⟩
theorem Got.into {Hs : Hp} {es : PEnv} {H1 : Hp} {env1 : PEnv} {x : Val} {v : V} {fp : List Addr} (g : Got K P H0 H H1 σ env env1 fps x v fp) (s : Same Hs H) (b : Sub env es) (h2 : 2 ≤ x.l) :
    fp.Nodup ∧ (∀ b ∈ fp, H0 b = none ∧ ¬ ∃ k, Live env1 k ∧ b ∈ fps k) ∧ ∀ b ∈ fp, Hs b = none ∨ Owned es fps b := by
  obtain ⟨o1, o2⟩ := g.own.deep h2
  refine ⟨o1, o2, fun c hc => ?_⟩
  rcases g.from_ c hc with z | ⟨j, ⟨⟨d, l⟩, lj⟩, hj, _⟩
  · exact .inl (s.free z)
  · rcases g.sub.2.2 j d l lj with z | z
    · exact absurd ⟨j, ⟨_, z⟩, hj⟩ (o2 c hc).2
    · subst z
      exact .inr ⟨j, d, 2, b.2.1 j _ lj, hj, .inl (Nat.le_refl _)⟩
end
noncomputable def ownL (i : Nat) (env : PEnv) : Option (List D × Nat) := match env[i]? with
  | some (some (.lst ds, l)) => if 1 ≤ l then some (ds, l) else none
  | _ => none
theorem ownL_some {i : Nat} {env : PEnv} {ds : List D} {l : Nat} (h : ownL i env = some (ds, l)) : env[i]? = some (some (.lst ds, l)) ∧ 1 ≤ l := by
  unfold ownL at h
  split at h
  · rename_i ds' l' e
    split at h
    · rename_i hl
      cases h
      exact ⟨e, hl⟩
    · cases h
  · cases h
noncomputable def fApp (i : Nat) (f : FE) : FS := fun env => if (ownL i env).isSome then (f env).bind fun (y, e) => (ownL i e).bind fun (ds, l) => if 2 ≤ y.l ∧ ds.length < sizeLine then some (.next (e.set i (some (.lst (ds ++ [y.d]), l)))) else none else none
section
variable {X : Cx}
theorem var_read {K : PySem.W.Frag} {P : Addr → Prop} {H0 H : Hp} {σ : St} {env : PEnv} {fps : Nat → List Addr} {i : Nat} {ds : List D} {l : Nat} (h : Holds K P H0 H σ env fps) (hi : env[i]? = some (some (.lst ds, l))) :
    ∃ a xs g, σ[i]? = some (some (.ref a)) ∧ H a = some (.lst xs) ∧ fps i = a :: g ∧ Reps K H ds xs g ∧ (1 ≤ l → a ∉ g) := by
  obtain ⟨v, e1, r, o⟩ := h.slot i _ l hi
  obtain ⟨a, xs, g, rfl, e2, e3, rs⟩ := r.lst_
  refine ⟨a, xs, g, e1, e2, e3, rs, fun hl => ?_⟩
  obtain ⟨a', g2, _, f1, _, f3, _⟩ := o.top hl ⟨ds, rfl⟩
  rw [e3] at f1
  cases f1
  exact f3
theorem qs_append (i : Nat) {x : Str} {e : Expr} {f : FE} {pos apos cpos xpos : Pos} (hN : X.N[i]? = some x) (he : QE X e f) (hv : Vis X.env.scope x := by exact L2.vis_of rfl rfl)
    (hd : (x == ("__debug__" : Str)) = false := by decide) (hcd : (x == ("__classdict__" : Str)) = false := by decide) (hs : starEach [e] X.env = (false, eval e X.env) :: starEach [] X.env := by rfl)
    (hbase : attributeBase (.Name x xpos) "append" X.env (eval (.Name x xpos) X.env) = eval (.Name x xpos) X.env := by rfl)
    (hfew : ((backTo cpos (starEach [e] X.env)).all (fun x => !x.1) && (backToKw cpos (keywordEach [] X.env)).all (fun x => x.1.isSome) && decide ([e].length + ([] : List Keyword).length + (if ([] : List Keyword).isEmpty then 0 else 1) < 30)) = true := by rfl)
    (hline : (apos.endLine == cpos.line) = true := by rfl) (hplain : (backTo cpos (starEach [] X.env)).any (·.1) = false := by rfl) (hsw : swapsWith (.Call (.Attribute (.Name x xpos) "append" apos) [e] [] cpos) none pos.line X.env = pure false := by rfl) :
    QS X (.Expr (.Call (.Attribute (.Name x xpos) "append" apos) [e] [] cpos) pos) (fApp i f) := by
  refine PS.imp (ps_expr (pe_bm PySem.F.plainAttrs_list PySem.F.slot_list_append PySem.F.type_list_append mt_append (pe_var hN hv hd hcd) (pa_cons he pa_nil hs) hbase hfew hline hs hplain) hsw) ?_
  rintro D σ H ⟨P, H0, env, fps, o, h, hf, k⟩
  unfold fApp at hf
  split at hf
  · rename_i ho
    simp only [Option.bind_eq_some_iff, Prod.exists] at hf
    obtain ⟨y, e1, h1, ds, l, h2, h3⟩ := hf
    split at h3
    · rename_i hc
      cases h3
      obtain ⟨hi1, hl⟩ := ownL_some h2
      rw [Option.isSome_iff_exists] at ho
      obtain ⟨⟨ds0, l0⟩, ho⟩ := ho
      obtain ⟨hi0, _⟩ := ownL_some ho
      obtain ⟨a0, xs0, g0, e0, b0, c0, _, _⟩ := var_read h hi0
      refine ⟨_, e0, .inl ⟨rfl, xs0, SqL.of b0⟩, P, H0, env, fps, y, e1, h, h1, fun v H1 fp g => ?_⟩
      obtain ⟨a, xs, gg, e2, b2, c2, rs, na⟩ := var_read g.holds hi1
      have ea : a0 = a := by rw [e0] at e2; cases e2; rfl
      subst ea
      obtain ⟨n1, n2, n3⟩ := g.into (Same.refl _) (Sub.refl _) hc.1
      have naf : a0 ∉ fp := fun z => (n2 a0 z).2 ⟨i, ⟨_, hi1⟩, by rw [c2]; exact List.mem_cons_self⟩
      have mem : ∀ b ∈ gg ++ fp, b ∈ gg ∨ b ∈ fp := fun b hb => List.mem_append.mp hb
      refine ⟨a0, xs, v, rfl, rfl, b2, by rw [rs.length]; exact hc.2, ?_⟩
      refine k σ _ _ (g.holds.mutate hi1 hl c2 (rs.app (Reps.one g.rep)) (fun z => (mem a0 z).elim (na hl) naf) (fun b hb => (mem b hb).imp id (n2 b)) fun h2 => ?_) (Kept.mutate g.same g.sub hi1 hl c2 fun b hb => (mem b hb).imp id (n3 b))
      obtain ⟨u, _, _, ow⟩ := g.holds.slot i _ l hi1
      have d1 := (ow.deep h2).1
      rw [c2] at d1
      refine List.nodup_append.mpr ⟨(List.nodup_cons.mp d1).2, n1, fun b hb c hcc ebc => ?_⟩
      subst ebc
      exact (n2 b hcc).2 ⟨i, ⟨_, hi1⟩, by rw [c2]; exact List.mem_cons_of_mem _ hb⟩
    · cases h3
  · cases hf
noncomputable def insD (ds : List D) (k : Nat) (d : D) : List D := ds.take k ++ d :: ds.drop k
noncomputable def fIns (i : Nat) (f f' : FE) : FS := fun env => if (ownL i env).isSome then (f env).bind fun (z, e1) => (f' e1).bind fun (y, e) => (ownL i e).bind fun (ds, l) => match z.d with
    | .int k => if 0 ≤ k ∧ k ≤ ds.length ∧ 2 ≤ y.l ∧ ds.length < sizeLine then some (.next (e.set i (some (.lst (insD ds k.toNat y.d), l)))) else none
    | _ => none
  else none
theorem qs_insert (i : Nat) {x : Str} {e e' : Expr} {f f' : FE} {pos apos cpos xpos : Pos} (hN : X.N[i]? = some x) (he : QE X e f) (he' : QE X e' f') (hv : Vis X.env.scope x := by exact L2.vis_of rfl rfl)
    (hd : (x == ("__debug__" : Str)) = false := by decide) (hcd : (x == ("__classdict__" : Str)) = false := by decide) (hs : starEach [e, e'] X.env = (false, eval e X.env) :: starEach [e'] X.env := by rfl) (hs' : starEach [e'] X.env = (false, eval e' X.env) :: starEach [] X.env := by rfl)
    (hbase : attributeBase (.Name x xpos) "insert" X.env (eval (.Name x xpos) X.env) = eval (.Name x xpos) X.env := by rfl)
    (hfew : ((backTo cpos (starEach [e, e'] X.env)).all (fun x => !x.1) && (backToKw cpos (keywordEach [] X.env)).all (fun x => x.1.isSome) && decide ([e, e'].length + ([] : List Keyword).length + (if ([] : List Keyword).isEmpty then 0 else 1) < 30)) = true := by rfl)
    (hline : (apos.endLine == cpos.line) = true := by rfl) (hplain : (backTo cpos (starEach [e'] X.env)).any (·.1) = false := by rfl) (hsw : swapsWith (.Call (.Attribute (.Name x xpos) "insert" apos) [e, e'] [] cpos) none pos.line X.env = pure false := by rfl) :
    QS X (.Expr (.Call (.Attribute (.Name x xpos) "insert" apos) [e, e'] [] cpos) pos) (fIns i f f') := by
  refine PS.imp (ps_expr (pe_bm PySem.F.plainAttrs_list PySem.F.slot_list_insert PySem.F.type_list_insert mt_insert (pe_var hN hv hd hcd) (pa_cons he (pa_cons he' pa_nil hs') hs) hbase hfew hline hs hplain) hsw) ?_
  rintro D σ H ⟨P, H0, env, fps, o, h, hf, k⟩
  unfold fIns at hf
  split at hf
  · rename_i ho
    simp only [Option.bind_eq_some_iff, Prod.exists] at hf
    obtain ⟨z, e1, h1, y, e2, h2, ds, l, h3, h4⟩ := hf
    split at h4
    · rename_i kk hz
      split at h4
      · rename_i hc
        obtain ⟨c0', c1, c2', c3⟩ := hc
        cases h4
        obtain ⟨hi1, hl⟩ := ownL_some h3
        rw [Option.isSome_iff_exists] at ho
        obtain ⟨⟨ds0, l0⟩, ho⟩ := ho
        obtain ⟨hi0, _⟩ := ownL_some ho
        obtain ⟨a0, xs0, g0, e0, b0, c0, _, _⟩ := var_read h hi0
        refine ⟨_, e0, .inl ⟨rfl, xs0, SqL.of b0⟩, P, H0, env, fps, z, e1, h, h1, fun w H1 fp1 g1 => ⟨P, H0, e1, fps, y, e2, g1.holds, h2, fun v H2 fp g => ?_⟩⟩
        obtain ⟨a, xs, gg, e3, b2, c2, rs, na⟩ := var_read g.holds hi1
        have ea : a0 = a := by rw [e0] at e3; cases e3; rfl
        subst ea
        have rz := g1.rep
        rw [hz] at rz
        obtain ⟨n1, n2, n3⟩ := g.into g1.same g1.sub c2'
        have naf : a0 ∉ fp := fun z => (n2 a0 z).2 ⟨i, ⟨_, hi1⟩, by rw [c2]; exact List.mem_cons_self⟩
        -- the list in two parts
        have rs' := rs
        rw [← List.take_append_drop kk.toNat ds] at rs'
        obtain ⟨xs1, xs2, g2, g3, ex, eg, r1, r2⟩ := rs'.split
        have hx1 : xs1.length = kk.toNat := by rw [r1.length, List.length_take]; omega
        have ei : insV xs kk.toNat v = xs1 ++ v :: xs2 := by
          unfold insV
          rw [ex, ← hx1]
          simp
        have mem : ∀ b ∈ g2 ++ (fp ++ g3), b ∈ gg ∨ b ∈ fp := fun b hb => by
          rw [eg]
          rcases List.mem_append.mp hb with hb | hb
          · exact .inl (List.mem_append_left _ hb)
          · rcases List.mem_append.mp hb with hb | hb
            · exact .inr hb
            · exact .inl (List.mem_append_right _ hb)
        refine ⟨a0, xs, kk.toNat, kk, v, rfl, by rw [rz.int_], by omega, b2, by rw [rs.length]; omega, by rw [rs.length]; exact c3, ?_⟩
        rw [ei]
        refine k σ _ _ (g.holds.mutate hi1 hl c2 (r1.app (Reps.cons g.rep r2)) (fun z => (mem a0 z).elim (na hl) naf) (fun b hb => (mem b hb).imp id (n2 b)) fun h2 => ?_) (Kept.mutate (g1.same.trans g.same) (g.sub.trans g1.sub) hi1 hl c2 fun b hb => (mem b hb).imp id (n3 b))
        obtain ⟨u, _, _, ow⟩ := g.holds.slot i _ l hi1
        have d1 := (ow.deep h2).1
        rw [c2, eg] at d1
        have d2 := List.nodup_append.mp (List.nodup_cons.mp d1).2
        have dis : ∀ b ∈ gg, b ∉ fp := fun b hb hcc => (n2 b hcc).2 ⟨i, ⟨_, hi1⟩, by rw [c2]; exact List.mem_cons_of_mem _ hb⟩
        rw [eg] at dis
        refine List.nodup_append.mpr ⟨d2.1, List.nodup_append.mpr ⟨n1, d2.2.1, fun b hb c hcc ebc => ?_⟩, fun b hb c hcc ebc => ?_⟩
        · subst ebc
          exact dis b (List.mem_append_right _ hcc) hb
        · subst ebc
          rcases List.mem_append.mp hcc with hcc | hcc
          · exact dis b (List.mem_append_left _ hb) hcc
          · exact d2.2.2 b hb b hcc rfl
      · cases h4
    · cases h4
  · cases hf
end
end L3
namespace L3
open PySem PySem.Spec PyProof.Rows L2
section
variable {K : PySem.W.Frag} {P : Addr → Prop} {H0 H : Hp} {σ : St} {env : PEnv} {fps : Nat → List Addr}
theorem inner_at {i k : Nat} {ds es : List D} (h : Holds K P H0 H σ env fps) (hi : env[i]? = some (some (.lst ds, 2))) (hk : ds[k]? = some (.lst es)) (he : nodesL es = 0) :
    ∃ a xs g1 c g2 ws, σ[i]? = some (some (.ref a)) ∧ H a = some (.lst xs) ∧ fps i = a :: (g1 ++ [c] ++ g2) ∧ xs[k]? = some (.ref c) ∧ H c = some (.lst ws) ∧ Reps K H es ws [] ∧ Reps K H (ds.take k) (xs.take k) g1 ∧ Reps K H (ds.drop (k + 1)) (xs.drop (k + 1)) g2 ∧ xs.length = ds.length := by
  obtain ⟨a, xs, g, e1, e2, e3, rs, _⟩ := var_read h hi
  obtain ⟨x, g1, gk, g2, ek, eg, rk, r1, r2⟩ := rs.at hk
  obtain ⟨c, ws, g0, rfl, ec, rfl, rw⟩ := rk.lst_
  have hg := rw.len
  rw [he] at hg
  have := List.eq_nil_of_length_eq_zero hg
  subst this
  exact ⟨a, xs, g1, c, g2, ws, e1, e2, by rw [e3, eg], ek, ec, rw, r1, r2, rs.length⟩
theorem Holds.mutate2 {i k : Nat} {ds es es' : List D} {a c : Addr} {xs : List V} {g1 g2 : List Addr} {ws' : List V} (h : Holds K P H0 H σ env fps) (hi : env[i]? = some (some (.lst ds, 2))) (hk : ds[k]? = some (.lst es)) (hc : ∃ ws, H c = some (.lst ws)) (he' : nodesL es' = 0)
    (ha : σ[i]? = some (some (.ref a))) (hxs : H a = some (.lst xs)) (hg : fps i = a :: (g1 ++ [c] ++ g2)) (hx : xs[k]? = some (.ref c)) (r : Reps K H es' ws' []) (r1 : Reps K H (ds.take k) (xs.take k) g1) (r2 : Reps K H (ds.drop (k + 1)) (xs.drop (k + 1)) g2) :
    Holds K P H0 (upd H c (.lst ws')) σ (env.set i (some (.lst (ds.set k (.lst es')), 2))) fps := by
  obtain ⟨v, e1, rv, o1⟩ := h.slot i _ 2 hi
  obtain ⟨d1, d2⟩ := o1.deep (Nat.le_refl _)
  have hil : i < env.length := (List.getElem?_eq_some_iff.mp hi).1
  have hcm : c ∈ fps i := by rw [hg]; simp
  have nd := d1
  rw [hg] at nd
  have na : c ≠ a := fun z => (List.nodup_cons.mp nd).1 (by rw [← z]; simp)
  have nd2 := List.nodup_append.mp (List.nodup_cons.mp nd).2
  have n1 : c ∉ g1 := fun z => (List.nodup_append.mp nd2.1).2.2 c z c (by simp) rfl
  have n2 : c ∉ g2 := fun z => nd2.2.2 c (by simp) c z rfl
  have ev : v = .ref a := by rw [e1] at ha; cases ha; rfl
  subst ev
  have live : ∀ q, Live (env.set i (some (.lst (ds.set k (.lst es')), 2))) q → Live env q := fun q lq => by
    rcases live_put lq with z | ⟨_, z⟩
    · rw [z]; exact ⟨_, hi⟩
    · exact z
  obtain ⟨ws, ec⟩ := hc
  have hkl : k < ds.length := (List.getElem?_eq_some_iff.mp hk).1
  have hkx : k < xs.length := (List.getElem?_eq_some_iff.mp hx).1
  have eds : ds.set k (.lst es') = ds.take k ++ .lst es' :: ds.drop (k + 1) := by rw [List.set_eq_take_append_cons_drop, if_pos hkl]
  have exs : xs = xs.take k ++ .ref c :: xs.drop (k + 1) := by
    have := List.getElem?_eq_some_iff.mp hx
    rw [← this.2, List.getElem_cons_drop, List.take_append_drop]
  have rnew : Rep K (upd H c (.lst ws')) (.lst (ds.set k (.lst es'))) (.ref a) (fps i) := by
    rw [hg, eds]
    refine Rep.mk (xs := xs) (by rw [upd_ne (Ne.symm na)]; exact hxs) ?_
    rw [exs]
    have rr := (r1.upd (o := .lst ws') ⟨_, ec⟩ n1).app (Reps.cons (Rep.mk upd_same (r.upd (o := .lst ws') ⟨_, ec⟩ (by simp))) (r2.upd (o := .lst ws') ⟨_, ec⟩ n2))
    have eg : g1 ++ [c] ++ g2 = g1 ++ ([c] ++ g2) := by rw [List.append_assoc]
    rw [eg]
    simpa using rr
  refine ⟨fun b o hb => ?_, by rw [List.length_set]; exact h.len, fun q d' l' e => ?_, fun q lq b hb => h.src q (live q lq) b hb⟩
  · have : b ≠ c := fun z => by rw [z, (d2 c hcm).1] at hb; cases hb
    rw [upd_ne this]
    exact h.same b o hb
  · by_cases hq : q = i
    · subst hq
      rw [List.getElem?_set_self hil] at e
      cases e
      exact ⟨_, e1, rnew, OwnOk.two rnew d1 fun b hb => ⟨(d2 b hb).1, fun ⟨w, hw, lw, hb'⟩ => (d2 b hb).2 ⟨w, hw, live w lw, hb'⟩⟩⟩
    · rw [List.getElem?_set_ne (Ne.symm hq)] at e
      obtain ⟨u, f1, f2, f3⟩ := h.slot q d' l' e
      have nc : c ∉ fps q := fun z => (d2 c hcm).2 ⟨q, hq, ⟨_, e⟩, z⟩
      refine ⟨u, f1, f2.upd ⟨_, ec⟩ nc, fun hl hd => ?_, fun h2 => ?_⟩
      · obtain ⟨b, g3, ys, k1, k2, k3, k4, k5, k6⟩ := f3.top hl hd
        refine ⟨b, g3, ys, k1, k2, k3, k4, ?_, fun ⟨w, hw, lw, hb'⟩ => k6 ⟨w, hw, live w lw, hb'⟩⟩
        rw [upd_ne (show b ≠ c from fun z => nc (by rw [← z, k1]; exact List.mem_cons_self))]
        exact k5
      · obtain ⟨m1, m2⟩ := f3.deep h2
        exact ⟨m1, fun b hb => ⟨(m2 b hb).1, fun ⟨w, hw, lw, hb'⟩ => (m2 b hb).2 ⟨w, hw, live w lw, hb'⟩⟩⟩
theorem Kept.mutate2 {Hs : Hp} {es : PEnv} {i : Nat} {d d' : D} {c : Addr} {o : HO} (s : Same Hs H) (b : Sub env es) (hi : env[i]? = some (some (d, 2))) (hc : c ∈ fps i) : Kept Hs (upd H c o) es (env.set i (some (d', 2))) fps fps := by
  have own : ∀ w ∈ fps i, Owned es fps w := fun w hw => ⟨i, _, 2, b.2.1 i _ hi, hw, .inl (Nat.le_refl _)⟩
  refine ⟨fun w q hw hn => ?_, fun w hw => .inl fun z => ?_, fun w hw => ?_, fun w ⟨q, lq, hq⟩ => ?_, by rw [List.length_set]; exact b.1⟩
  · rw [upd_ne (show w ≠ c from fun z => hn (z ▸ own c hc))]
    exact s w q hw
  · by_cases hca : w = c
    · rw [hca, upd_same] at z; cases z
    · rw [upd_ne hca] at z
      exact hw (s.free z)
  · obtain ⟨q, dq, lq, eq, hq, hl⟩ := hw
    by_cases hqi : q = i
    · subst hqi; exact .inl (own w hq)
    · rw [List.getElem?_set_ne (Ne.symm hqi)] at eq
      exact .inl ⟨q, dq, lq, b.2.1 q _ eq, hq, hl⟩
  · rcases live_put lq with z | ⟨_, lq⟩
    · subst z; exact .inl (owned_live (own w hq))
    · exact .inl ⟨q, b.live lq, hq⟩
end
theorem atI_ixN {α : Type} {xs : List α} {k : Int} {j : Nat} {x : α} (h : ixN xs.length k = some j) (hx : xs[j]? = some x) : atI xs k = some x := by
  unfold atI
  rw [h]
  exact hx
noncomputable def inn2 (i : Nat) (k : Int) (env : PEnv) : Option (List D × Nat × List D) := match env[i]? with
  | some (some (.lst ds, 2)) => match ixN ds.length k with
    | some j => match ds[j]? with
      | some (.lst es) => if nodesL es = 0 then some (ds, j, es) else none
      | _ => none
    | _ => none
  | _ => none
theorem inn2_some {i : Nat} {k : Int} {env : PEnv} {ds es : List D} {j : Nat} (h : inn2 i k env = some (ds, j, es)) : env[i]? = some (some (.lst ds, 2)) ∧ ixN ds.length k = some j ∧ ds[j]? = some (.lst es) ∧ nodesL es = 0 := by
  unfold inn2 at h
  split at h
  · rename_i ds' e1
    split at h
    · rename_i j' e2
      split at h
      · rename_i es' e3
        split at h
        · rename_i e4
          cases h
          exact ⟨e1, e2, e3, e4⟩
        · cases h
      · cases h
    · cases h
  · cases h
noncomputable def fSto (i : Nat) (fk fe : FE) : FS := fun env => (fe env).bind fun (y, e1) => if (ownL i e1).isSome then (fk e1).bind fun (z, e2) => (ownL i e2).bind fun (ds, l) => match z.d with
    | .int k => match ixN ds.length k with
      | some j => if 2 ≤ y.l then some (.next (e2.set i (some (.lst (ds.set j y.d), l)))) else none
      | none => none
    | _ => none
  else none
noncomputable def fSto2 (i : Nat) (fk fm fe : FE) : FS := fun env => (fe env).bind fun (y, e1) => if (ownL i e1).isSome then (fk e1).bind fun (z, e2) => match z.d with
    | .int k => if (inn2 i k e2).isSome then (fm e2).bind fun (w, e3) => match w.d with
        | .int m => (inn2 i k e3).bind fun (ds, j, es) => match ixN es.length m with
          | some j2 => if y.d.nodes = 0 then some (.next (e3.set i (some (.lst (ds.set j (.lst (es.set j2 y.d))), 2)))) else none
          | none => none
        | _ => none
      else none
    | _ => none
  else none
theorem nodesL_set {es : List D} (he : nodesL es = 0) {d : D} (hd : d.nodes = 0) : ∀ j, nodesL (es.set j d) = 0 := by
  induction es with
  | nil => intro j; rfl
  | cons e es ih =>
    simp only [nodesL] at he
    intro j
    cases j with
    | zero => simp only [List.set_cons_zero, nodesL]; omega
    | succ j => simp only [List.set_cons_succ, nodesL]; have := ih (by omega) j; omega
theorem reps_set {K : PySem.W.Frag} {H : Hp} {es : List D} {ws : List V} (h : Reps K H es ws []) {d : D} {v : V} (r : Rep K H d v []) (j : Nat) : Reps K H (es.set j d) (ws.set j v) [] := by
  by_cases hj : j < es.length
  · obtain ⟨x, g1, g, g2, e1, e2, r0, r1, r2⟩ := h.at (i := j) (d := es[j]) (by simp)
    have hl := h.length
    rw [List.set_eq_take_append_cons_drop, if_pos hj, List.set_eq_take_append_cons_drop, if_pos (by omega)]
    have e3 := congrArg List.length e2
    simp only [List.length_nil, List.length_append] at e3
    have n1 : g1 = [] := List.eq_nil_of_length_eq_zero (by omega)
    have n2 : g2 = [] := List.eq_nil_of_length_eq_zero (by omega)
    subst n1 n2
    exact r1.app (Reps.cons r r2)
  · have hl := h.length
    rw [List.set_eq_of_length_le (by omega), List.set_eq_of_length_le (by omega)]
    exact h
section
variable {X : Cx} {x : Str} {pos apos cpos xpos spos ipos : Pos} {e : Expr} {ek em : Expr} {f fk fm : FE}
theorem qs_store (i : Nat) (hN : X.N[i]? = some x) (he : QE X e f) (hk : QE X ek fk) (hv : Vis X.env.scope x := by exact L2.vis_of rfl rfl)
    (hd : (x == ("__debug__" : Str)) = false := by decide) (hcd : (x == ("__classdict__" : Str)) = false := by decide)
    (ha : ∀ v, assign (.Subscript (.Name x xpos) ek spos) X.env v = (do
      let ov ← holding [v] (eval (.Name x xpos) X.env)
      let iv ← holding [v, ov] (eval ek X.env)
      standAt spos
      holding [v, ov, iv] (setItem ov iv v)
      release [v, ov, iv] []) := by intro _; rfl)
    (hs : swapsWithSole [.Subscript (.Name x xpos) ek spos] e pos.line X.env = pure false := by rfl) (hw : swappedStores [.Subscript (.Name x xpos) ek spos] e X.env = pure none := by rfl)
    (h1 : (assignEach [.Subscript (.Name x xpos) ek spos] X.env).map (·.2) = [assign (.Subscript (.Name x xpos) ek spos) X.env] := by rfl) : QS X (.Assign [.Subscript (.Name x xpos) ek spos] e pos) (fSto i fk f) := by
  refine PS.imp (ps_asg he (pg_sub (pe_var hN hv hd hcd) hk set_list ha) hs hw h1) ?_
  rintro D σ H ⟨P, H0, env, fps, o, h, hf, k⟩
  unfold fSto at hf
  simp only [Option.bind_eq_some_iff, Prod.exists] at hf
  obtain ⟨y, e1, h1, hf⟩ := hf
  split at hf
  · rename_i ho
    rw [Option.isSome_iff_exists] at ho
    obtain ⟨⟨ds0, l0⟩, ho⟩ := ho
    obtain ⟨hi0, _⟩ := ownL_some ho
    simp only [Option.bind_eq_some_iff, Prod.exists] at hf
    obtain ⟨z, e2, h2, ds, l, h3, h4⟩ := hf
    split at h4
    · rename_i kk hz
      split at h4
      · rename_i j hj
        split at h4
        · rename_i hy
          cases h4
          obtain ⟨hi2, hl⟩ := ownL_some h3
          refine ⟨P, H0, env, fps, y, e1, h, h1, fun v H1 fp g => ?_⟩
          obtain ⟨a0, xs0, g0, e0, b0, c0, _, _⟩ := var_read g.holds hi0
          refine ⟨_, e0, P, H0, e1, fps, z, e2, g.holds, h2, fun w H2 fp2 g2 => ?_⟩
          obtain ⟨a, xs, gg, e3, b2, c2, rs, na⟩ := var_read g2.holds hi2
          have ea : a0 = a := by rw [e0] at e3; cases e3; rfl
          subst ea
          have rz := g2.rep
          rw [hz] at rz
          obtain ⟨rv, ov, _⟩ := Got.stay g g2
          obtain ⟨n1, _, n3⟩ := g.into (Same.refl _) (Sub.refl _) hy
          have n2 := (ov.deep hy).2
          have naf : a0 ∉ fp := fun z => (n2 a0 z).2 ⟨i, ⟨_, hi2⟩, by rw [c2]; exact List.mem_cons_self⟩
          have hjl : j < ds.length := by
            unfold ixN at hj
            split at hj
            · split at hj <;> cases hj; omega
            · split at hj <;> cases hj; omega
          obtain ⟨xj, g1', gj, g3, ej, eg, rj, r1, r2⟩ := rs.at (i := j) (d := ds[j]) (by simp)
          have hjx : j < xs.length := by rw [rs.length]; exact hjl
          have e4 : xs.set j v = xs.take j ++ v :: xs.drop (j + 1) := by rw [List.set_eq_take_append_cons_drop, if_pos hjx]
          have e5 : ds.set j y.d = ds.take j ++ y.d :: ds.drop (j + 1) := by rw [List.set_eq_take_append_cons_drop, if_pos hjl]
          have mem : ∀ b ∈ g1' ++ (fp ++ g3), b ∈ gg ∨ b ∈ fp := fun b hb => by
            rw [eg]
            simp only [List.mem_append] at hb ⊢
            rcases hb with hb | hb | hb
            · exact .inl (.inl (.inl hb))
            · exact .inr hb
            · exact .inl (.inr hb)
          refine ⟨a0, xs, kk, j, rfl, rz.int_, b2, by rw [rs.length]; exact hj, ?_⟩
          rw [e4]
          rw [e5] at k
          refine k σ _ _ (g2.holds.mutate hi2 hl c2 (r1.app (Reps.cons rv r2)) (fun z => (mem a0 z).elim (na hl) naf) (fun b hb => (mem b hb).imp id (n2 b)) fun h2 => ?_) (Kept.mutate (g.same.trans g2.same) (g2.sub.trans g.sub) hi2 hl c2 fun b hb => (mem b hb).imp id (n3 b))
          obtain ⟨u, _, _, ow⟩ := g2.holds.slot i _ l hi2
          have d1 := (ow.deep h2).1
          have dis : ∀ b ∈ gg, b ∉ fp := fun b hb hcc => (n2 b hcc).2 ⟨i, ⟨_, hi2⟩, by rw [c2]; exact List.mem_cons_of_mem _ hb⟩
          rw [eg] at dis
          rw [c2, eg, List.append_assoc] at d1
          have d2 := List.nodup_append.mp (List.nodup_cons.mp d1).2
          have d3 := List.nodup_append.mp d2.2.1
          refine List.nodup_append.mpr ⟨d2.1, List.nodup_append.mpr ⟨n1, d3.2.1, fun b hb c hcc ebc => ?_⟩, fun b hb c hcc ebc => ?_⟩
          · subst ebc
            exact dis b (by simp [hcc]) hb
          · subst ebc
            rcases List.mem_append.mp hcc with hcc | hcc
            · exact dis b (by simp [hb]) hcc
            · exact d2.2.2 b hb b (List.mem_append_right _ hcc) rfl
        · cases h4
      · cases h4
    · cases h4
  · cases hf
theorem inner_same {env env1 : PEnv} {i j j' : Nat} {ds es ds' es' : List D} {k : Int} (b : Sub env1 env) (h1 : inn2 i k env1 = some (ds', j', es')) (h0 : inn2 i k env = some (ds, j, es)) : ds' = ds ∧ j' = j ∧ es' = es := by
  obtain ⟨a1, a2, a3, _⟩ := inn2_some h1
  obtain ⟨b1, b2, b3, _⟩ := inn2_some h0
  have := b.2.1 i _ a1
  rw [b1] at this
  cases this
  rw [a2] at b2
  cases b2
  rw [a3] at b3
  cases b3
  exact ⟨rfl, rfl, rfl⟩
theorem qs_store2 (i : Nat) (hN : X.N[i]? = some x) (he : QE X e f) (hk : QE X ek fk) (hm : QE X em fm) (hv : Vis X.env.scope x := by exact L2.vis_of rfl rfl)
    (hd : (x == ("__debug__" : Str)) = false := by decide) (hcd : (x == ("__classdict__" : Str)) = false := by decide) (hp : PlainIx ek := by intro _ _; rfl)
    (ha : ∀ v, assign (.Subscript (.Subscript (.Name x xpos) ek ipos) em spos) X.env v = (do
      let ov ← holding [v] (eval (.Subscript (.Name x xpos) ek ipos) X.env)
      let iv ← holding [v, ov] (eval em X.env)
      standAt spos
      holding [v, ov, iv] (setItem ov iv v)
      release [v, ov, iv] []) := by intro _; rfl)
    (hs : swapsWithSole [.Subscript (.Subscript (.Name x xpos) ek ipos) em spos] e pos.line X.env = pure false := by rfl) (hw : swappedStores [.Subscript (.Subscript (.Name x xpos) ek ipos) em spos] e X.env = pure none := by rfl)
    (h1 : (assignEach [.Subscript (.Subscript (.Name x xpos) ek ipos) em spos] X.env).map (·.2) = [assign (.Subscript (.Subscript (.Name x xpos) ek ipos) em spos) X.env] := by rfl) : QS X (.Assign [.Subscript (.Subscript (.Name x xpos) ek ipos) em spos] e pos) (fSto2 i fk fm f) := by
  refine PS.imp (ps_asg he (pg_sub (pe_ix ix_list (pe_var hN hv hd hcd) hk hp) hm set_list ha) hs hw h1) ?_
  rintro D σ H ⟨P, H0, env, fps, o, h, hf, k⟩
  unfold fSto2 at hf
  simp only [Option.bind_eq_some_iff, Prod.exists] at hf
  obtain ⟨y, e1, h1, hf⟩ := hf
  split at hf
  · rename_i ho
    rw [Option.isSome_iff_exists] at ho
    obtain ⟨⟨ds0, l0⟩, ho⟩ := ho
    obtain ⟨hi0, _⟩ := ownL_some ho
    simp only [Option.bind_eq_some_iff, Prod.exists] at hf
    obtain ⟨z, e2, h2, hf⟩ := hf
    split at hf
    · rename_i kk hz
      split at hf
      · rename_i hin
        rw [Option.isSome_iff_exists] at hin
        obtain ⟨⟨ds, j, es⟩, hin⟩ := hin
        simp only [Option.bind_eq_some_iff, Prod.exists] at hf
        obtain ⟨w, e3, h3, hf⟩ := hf
        split at hf
        · rename_i mm hw'
          simp only [Option.bind_eq_some_iff, Prod.exists] at hf
          obtain ⟨ds', j', es', hin', hf⟩ := hf
          split at hf
          · rename_i j2 hj2
            split at hf
            · rename_i hy
              cases hf
              refine ⟨P, H0, env, fps, y, e1, h, h1, fun v H1 fp g => ?_⟩
              obtain ⟨a0, xs0, g0, e0, b0, c0, _, _⟩ := var_read g.holds hi0
              refine ⟨_, e0, P, H0, e1, fps, z, e2, g.holds, h2, fun kv H2 fp2 g2 => ?_⟩
              have rz := g2.rep
              rw [hz] at rz
              obtain ⟨q1, q2, q3, q4⟩ := inn2_some hin
              obtain ⟨a, xs, g1, c, gg2, ws, s1, s2, s3, s4, s5, s6, s7, s8, s9⟩ := inner_at g2.holds q1 q3 q4
              refine ⟨a, xs, kk, .ref c, ?_, rz.int_, SqL.of s2, atI_ixN (by rw [s9]; exact q2) s4, P, H0, e2, fps, w, e3, g2.holds, h3, fun mv H3 fp3 g3 => ?_⟩
              · rw [e0] at s1; cases s1; rfl
              have rm := g3.rep
              rw [hw'] at rm
              obtain ⟨rfl, rfl, rfl⟩ := inner_same g3.sub hin' hin
              obtain ⟨p1, p2, p3, p4⟩ := inn2_some hin'
              obtain ⟨a', xs', g1', c', gg2', ws', t1, t2, t3, t4, t5, t6, t7, t8, t9⟩ := inner_at g3.holds p1 p3 p4
              have ea : a' = a := by rw [s1] at t1; cases t1; rfl
              subst ea
              have ex : xs' = xs := by have := g3.same _ _ s2; rw [t2] at this; cases this; rfl
              subst ex
              have ec : c' = c := by rw [s4] at t4; cases t4; rfl
              subst ec
              have rv : Rep X.K H3 y.d v fp := (g.rep.mono g2.same).mono g3.same
              have efp := rv.flat hy
              subst efp
              refine ⟨c', ws', mm, j2, rfl, rm.int_, t5, by rw [t6.length]; exact hj2, ?_⟩
              exact k σ _ _ (g3.holds.mutate2 p1 p3 ⟨_, t5⟩ (nodesL_set p4 hy j2) t1 t2 t3 t4 (reps_set t6 rv j2) t7 t8) (Kept.mutate2 ((g.same.trans g2.same).trans g3.same) ((g3.sub.trans g2.sub).trans g.sub) p1 (by rw [t3]; simp))
            · cases hf
          · cases hf
        · cases hf
      · cases hf
    · cases hf
  · cases hf
end
end L3
namespace L3
open PySem PySem.Spec PyProof.Rows L2
noncomputable abbrev FD := List D → Option (D × Nat)
noncomputable def spD (K : PySem.W.Frag) (n : Nat) (g : FD) : Sp := fun vs H Q _ => ∃ ds fp d l, g ds = some (d, l) ∧ ds.length = n ∧ Reps K H ds vs fp ∧
  ∀ v H' fp', Same H H' → Rep K H' d v fp' → (∀ b ∈ fp', H b = none ∨ b ∈ fp) → OwnOk H H' (fun _ => False) d l v fp' → Q v H'
noncomputable def envF (n : Nat) (ds : List D) : PEnv := ds.map (fun d => some (d, 0)) ++ List.replicate (n - ds.length) none
noncomputable def endF : Option Out → Option (D × Nat)
  | some (.ret x) => some (x.d, x.l)
  | some (.next _) => some (.non, 2)
  | _ => none
noncomputable def runF (n : Nat) (f : FS) (ds : List D) : Option (D × Nat) := endF (f (envF n ds))
theorem Reps.parts {K : PySem.W.Frag} {H : Hp} : ∀ {ds : List D} {vs : List V} {fp : List Addr}, Reps K H ds vs fp → ∃ fs : Nat → List Addr, (∀ j, ∀ b ∈ fs j, b ∈ fp) ∧ ∀ (j : Nat) d, ds[j]? = some d → ∃ v, vs[j]? = some v ∧ Rep K H d v (fs j)
  | [], vs, fp, h => ⟨fun _ => [], fun _ _ hb => (nomatch hb), fun j d e => by simp at e⟩
  | d :: ds, vs, fp, h => by
    simp only [Reps] at h
    obtain ⟨x, r, g, g', rfl, rfl, h1, h2⟩ := h
    obtain ⟨fs, a1, a2⟩ := Reps.parts h2
    refine ⟨fun j => match j with | 0 => g | j + 1 => fs j, fun j b hb => ?_, fun j d' e => ?_⟩
    · cases j with
      | zero => exact List.mem_append_left _ hb
      | succ j => exact List.mem_append_right _ (a1 j b hb)
    · cases j with
      | zero => simp at e; subst e; exact ⟨x, rfl, h1⟩
      | succ j => exact a2 j d' (by simpa using e)
theorem envF_get {n : Nat} {ds : List D} {j : Nat} {d : D} {l : Nat} (h : (envF n ds)[j]? = some (some (d, l))) : ds[j]? = some d ∧ l = 0 := by
  unfold envF at h
  by_cases hj : j < ds.length
  · rw [List.getElem?_append_left (by simpa using hj), List.getElem?_map, List.getElem?_eq_getElem hj] at h
    simp at h
    rw [List.getElem?_eq_getElem hj, h.1]
    exact ⟨rfl, h.2.symm⟩
  · rw [List.getElem?_append_right (by simpa using hj), List.getElem?_replicate] at h
    split at h <;> cases h
theorem holds_start {K : PySem.W.Frag} {H : Hp} {N : List Str} {ds : List D} {vs : List V} {fp : List Addr} (r : Reps K H ds vs fp) : ∃ fps, Holds K (fun b => b ∈ fp) H H (L2.start N vs) (envF N.length ds) fps := by
  obtain ⟨fs, a1, a2⟩ := r.parts
  have hl := r.length
  refine ⟨fs, Same.refl _, ?_, fun j d l e => ?_, fun j _ b hb => .inr (a1 j b hb)⟩
  · unfold envF L2.start
    rw [List.length_append, List.length_append, List.length_map, List.length_map, List.length_replicate, List.length_replicate, hl]
  · obtain ⟨e1, rfl⟩ := envF_get e
    obtain ⟨v, e2, rv⟩ := a2 j d e1
    refine ⟨v, ?_, rv, .zero⟩
    unfold L2.start
    have hj : j < vs.length := (List.getElem?_eq_some_iff.mp e2).1
    rw [List.getElem?_append_left (by simpa using hj), List.getElem?_map, e2]
    rfl
section
variable {P : Program} {w : World} {K : PySem.W.Frag} {mg : Str → Option Value} {base : Heap}
theorem fn_d {f : Addr} {fd : FuncData} {x qual : Str} {st : Stmt} {N ps : List Str} {k : Nat} {g : FD} {F : FS} (Fu : Fun K x qual st f fd) (S : FnScope N ps (defScope st))
    (hb : ∀ (cdv : Value) (A : Around) (outer : List Env) (s : Shared) (H : Hp) (E : XK), Room k (A.deeper (envOfC qual (defScope st) s.heap.objs.size f cdv)) → QSs (cxOf CX0 P w K mg base N qual (defScope st) f cdv A outer s H E).nox (defBody st) F)
    (hg : ∀ ds r, ds.length = ps.length → g ds = some r → runF N.length F ds = some r) : FnOk P w K mg base CX0 (k + 1) f fd ps (spD K ps.length g) := by
  refine Fu.ok S (fun vs H Q E h => ?_) (fun cdv A outer s H vs Q E hr h => ?_)
  · obtain ⟨ds, fp, d, l, _, hl, r, _⟩ := h
    rw [r.length, hl]
  · obtain ⟨ds, fp, d, l, h1, hl, r, q⟩ := h
    obtain ⟨fps, hs⟩ := holds_start (N := N) r
    refine ⟨_, hb cdv A outer s H E hr, ?_⟩
    have e := hg ds _ hl h1
    unfold runF endF at e
    split at e
    · rename_i x ex
      cases e
      exact ⟨_, H, _, fps, .ret x, hs, ex, fun v H' fp' s' rv src own => q v H' fp' s' rv src own⟩
    · rename_i e' ex
      cases e
      exact ⟨_, H, _, fps, .next e', hs, ex, fun σ' H' fps' h' _ => q .non H' [] h'.same rep_non (fun b hb => nomatch hb) (.flat rfl)⟩
    · cases e
end
noncomputable def fCall (n : Nat) (g : FD) (fs : FA) : FE := fun env => (fs env).bind fun (xs, e) => if xs.length = n then (g (xs.map Val.d)).bind fun (d, l) => some (⟨d, l, if l = 2 then [] else xs.flatMap Val.S⟩, e) else none
section
variable {X : Cx} {k : Nat} {f : Addr} {fd : FuncData} {ps : List Str} {g : FD} {x : Str} {p pos : Pos} {e : Expr} {es : List Expr} {fs : FA}
theorem got_call {K : PySem.W.Frag} {P : Addr → Prop} {H0 H H1 H' : Hp} {σ : St} {env env' : PEnv} {fps : Nat → List Addr} {xs : List Val} {vs : List V} {fa : List (List Addr)} {d : D} {l : Nat} {v : V} {fp' : List Addr}
    (gl : GotL K P H0 σ fps H env xs vs fa H1 env') (s : Same H1 H') (r : Rep K H' d v fp') (hf : ∀ b ∈ fp', H1 b = none ∨ b ∈ fa.flatten) (o : OwnOk H1 H' (fun _ => False) d l v fp') :
    Got K P H0 H H' σ env env' fps ⟨d, l, if l = 2 then [] else xs.flatMap Val.S⟩ v fp' := by
  have dom : ∀ b, (∃ k, Live env' k ∧ b ∈ fps k) → H1 b ≠ none := fun b ⟨k, lk, hb⟩ => gl.holds.dom lk hb
  refine ⟨gl.same.trans s, gl.holds.mono s, gl.sub, r, fun b hb => ?_, fun h1 h2 => ?_, fun h2 => ?_⟩
  · by_cases hl : l = 2
    · exact .inl (gl.same.free ((o.deep (by omega)).2 b hb).1)
    · rw [if_neg hl]
      rcases hf b hb with z | z
      · exact .inl (gl.same.free z)
      · exact gl.from_ b z
  · obtain ⟨a, g, ys, e1, e2, e3, e4, e5, _⟩ := o.top h1 h2
    exact ⟨a, g, ys, e1, e2, e3, gl.holds.same.free e4, e5, fun z => dom a z e4⟩
  · obtain ⟨o1, o2⟩ := o.deep h2
    exact ⟨o1, fun b hb => ⟨gl.holds.same.free (o2 b hb).1, fun z => dom b z (o2 b hb).1⟩⟩
theorem q_call (F : FnOk X.prog X.w X.K X.mg X.base CX0 k f fd ps (spD X.K ps.length g)) (hr : Room k X.A) (hg : Gl X x) (hm : X.mg x = some (.ref f)) (hk : PySem.W.keepIn X.K (.ref f) = true) (hb : Binds X.K fd ps []) (ha : QA X (e :: es) fs)
    (hdb : (x == ("__debug__" : Str)) = false := by decide) (he : starEach (e :: es) X.env = (false, eval e X.env) :: starEach es X.env := by rfl) (hpl : (backTo pos (starEach es X.env)).any (·.1) = false := by rfl) :
    QE X (.Call (.Name x p) (e :: es) [] pos) (fCall ps.length g fs) := by
  refine PE.imp (pe_call F hr hg hm hk hb .nil pass0 ha hdb he hpl) ?_
  rintro σ H Q ⟨P, H0, env, fps, w, env', h, hf, k⟩
  unfold fCall at hf
  simp only [Option.bind_eq_some_iff, Prod.exists] at hf
  obtain ⟨xs, e1, h1, h2⟩ := hf
  split at h2
  · rename_i hl
    simp only [Option.bind_eq_some_iff, Prod.exists] at h2
    obtain ⟨d, l, h2, h3⟩ := h2
    cases h3
    refine ⟨P, H0, env, fps, xs, _, h, h1, fun vs H1 fa gl => ?_⟩
    refine ⟨xs.map Val.d, fa.flatten, d, l, h2, by rw [List.length_map]; exact hl, by rw [List.append_nil]; exact gl.reps, fun v H' fp' s r hf o => k v H' fp' (got_call gl s r hf o)⟩
  · cases h2
end
section
variable {X : Cx}
theorem q_glob {x : Str} {v : V} {u : Value} {d : D} {pos : Pos} (hg : Gl X x) (hm : X.mg x = some u) (hr : RelV v u) (hd : d.nodes = 0) (r : ∀ H, Rep X.K H d v []) (hdb : (x == ("__debug__" : Str)) = false := by decide) : QE X (.Name x pos) (fC d) := qe_const (pe_glob hg hm hr hdb) hd r
theorem q_globI {x : Str} {i : Int} {t : Nat} {pos : Pos} (hg : Gl X x) (hm : X.mg x = some (.int i t)) (hdb : (x == ("__debug__" : Str)) = false := by decide) : QE X (.Name x pos) (fC (.int i)) := q_glob (v := .int i) hg hm ⟨_, rfl⟩ rfl (fun _ => rep_int) hdb
noncomputable def tyD : D → Option String
  | .non => some "NoneType"
  | .bl _ => some "bool"
  | .int _ => some "int"
  | .str _ => some "str"
  | .lst _ => some "list"
  | _ => none
noncomputable def isiD (T : String) (d : D) : Option D := (tyD d).map fun t => .bl (t == T || (t == "bool" && T == "int"))
theorem isi_kit {K : PySem.W.Frag} {T t : String} (hT : T = "bool" ∨ T = "int" ∨ T = "list" ∨ T = "str") (ht : t = "NoneType" ∨ t = "bool" ∨ t = "int" ∨ t = "str" ∨ t = "list") : PySem.W.kitOne K (.type t) (.type T) = some (t == T || (t == "bool" && T == "int")) := by
  rcases hT with rfl | rfl | rfl | rfl <;> rcases ht with rfl | rfl | rfl | rfl | rfl <;> rfl
theorem tyD_of {K : PySem.W.Frag} {H : Hp} {d : D} {v : V} {f : List Addr} {t : String} (h : tyD d = some t) (r : Rep K H d v f) : TyOf K H v (.type t) ∧ (t = "NoneType" ∨ t = "bool" ∨ t = "int" ∨ t = "str" ∨ t = "list") := by
  cases d with
  | non => cases h; simp only [Rep] at r; obtain ⟨rfl, _⟩ := r; exact ⟨.non, by simp⟩
  | bl b => cases h; obtain rfl := r.bl_; exact ⟨.bl b, by simp⟩
  | int b => cases h; obtain rfl := r.int_; exact ⟨.int b, by simp⟩
  | str b => cases h; simp only [Rep] at r; obtain ⟨rfl, _⟩ := r; exact ⟨.str b, by simp⟩
  | lst ds =>
    cases h
    obtain ⟨a, xs, g, rfl, e, _⟩ := r.lst_
    exact ⟨.lst e, by simp⟩
  | tup ds => cases h
  | ro ds => cases h
  | exc c => cases h
theorem q_isi {e : Expr} {fe : FE} {T : String} {xT : Str} {p q pos : Pos} (hg : Gl X "isinstance") (hm : X.mg "isinstance" = none) (hgT : Gl X xT) (hmT : X.mg xT = none) (hbT : bootBuiltins xT = some (.type T)) (hT : T = "bool" ∨ T = "int" ∨ T = "list" ∨ T = "str") (he : QE X e fe)
    (hnT : xT ≠ "__name__" := by decide) (hdT : (xT == ("__debug__" : Str)) = false := by decide) (hs : starEach [e, .Name xT q] X.env = (false, eval e X.env) :: starEach [.Name xT q] X.env := by rfl) (hs' : starEach [.Name xT q] X.env = (false, eval (.Name xT q) X.env) :: starEach [] X.env := by rfl)
    (hpl : (backTo pos (starEach [.Name xT q] X.env)).any (·.1) = false := by rfl) : QE X (.Call (.Name "isinstance" p) [e, .Name xT q] [] pos) (fU (isiD T) fe) := by
  refine PE.imp (pe_callB call_isinst hg hm PyProof.Rows.boot_isinstance (pa_cons he (pa_cons (pe_bltn (v := .ty T) hgT hmT hbT rfl hnT hdT) pa_nil hs') hs) (by decide) (by decide) hs hpl) ?_
  rintro σ H Q ⟨P, H0, env, fps, w, env', h, hf, k⟩
  obtain ⟨x, e1, z, h1, h3, h4⟩ := fU_some hf
  cases h4
  refine ⟨P, H0, env, fps, x, _, h, h1, fun v H1 fp g => ?_⟩
  unfold isiD at h3
  rw [Option.map_eq_some_iff] at h3
  obtain ⟨t, h5, rfl⟩ := h3
  obtain ⟨ty, ht⟩ := tyD_of h5 g.rep
  exact ⟨v, T, .type t, _, rfl, ty, isi_kit hT ht, k _ H1 [] (.scal rfl g.same g.holds g.sub rep_bl)⟩
end
end L3
namespace L3
open PySem PySem.Spec PyProof.Rows L2
noncomputable def zipGo (j1 j2 : Nat) (inn : PEnv) (ft : FT) (fe : FE) : List (D × D) → Option (List D)
  | [] => some []
  | p :: ps => if p.1.nodes = 0 ∧ p.2.nodes = 0 then (ft ((inn.set j1 (some (p.1, 2))).set j2 (some (p.2, 2)))).bind fun (b, e) =>
      if b = true then (fe e).bind fun (y, _) => if y.d.nodes = 0 then (zipGo j1 j2 inn ft fe ps).bind fun ys => some (y.d :: ys) else none else zipGo j1 j2 inn ft fe ps
    else none
noncomputable def fZip (ix : List (Option Nat)) (j1 j2 : Nat) (fa fb : FE) (ft : FT) (fe : FE) : FE := fun env => (fa env).bind fun (x, e1) => (fb e1).bind fun (y, e2) => match x.d, y.d with
  | .lst xs, .lst ys => (zipGo j1 j2 (inP ix e2) ft fe (xs.zip ys)).bind fun zs => if zs.length ≤ sizeLine then some (⟨.lst zs, 2, []⟩, e2) else none
  | _, _ => none
theorem zipGo_cons {j1 j2 : Nat} {inn : PEnv} {ft : FT} {fe : FE} {p : D × D} {ps : List (D × D)} {zs : List D} (h : zipGo j1 j2 inn ft fe (p :: ps) = some zs) :
    p.1.nodes = 0 ∧ p.2.nodes = 0 ∧ ∃ b e, ft ((inn.set j1 (some (p.1, 2))).set j2 (some (p.2, 2))) = some (b, e) ∧ ((b = true ∧ ∃ y e3 ys, fe e = some (y, e3) ∧ y.d.nodes = 0 ∧ zipGo j1 j2 inn ft fe ps = some ys ∧ zs = y.d :: ys) ∨ (b = false ∧ zipGo j1 j2 inn ft fe ps = some zs)) := by
  unfold zipGo at h
  split at h
  · rename_i hc
    simp only [Option.bind_eq_some_iff, Prod.exists] at h
    obtain ⟨b, e, h1, h2⟩ := h
    refine ⟨hc.1, hc.2, b, e, h1, ?_⟩
    cases b with
    | true =>
      rw [if_pos rfl] at h2
      simp only [Option.bind_eq_some_iff, Prod.exists] at h2
      obtain ⟨y, e3, h3, h4⟩ := h2
      split at h4
      · rename_i hy
        simp only [Option.bind_eq_some_iff] at h4
        obtain ⟨ys, h5, h6⟩ := h4
        exact .inl ⟨rfl, y, e3, ys, h3, hy, h5, (Option.some.inj h6).symm⟩
      · cases h4
    | false =>
      rw [if_neg Bool.false_ne_true] at h2
      exact .inr ⟨rfl, h2⟩
  · cases h
theorem zipGo_flat {j1 j2 : Nat} {inn : PEnv} {ft : FT} {fe : FE} : ∀ {ps : List (D × D)} {zs : List D}, zipGo j1 j2 inn ft fe ps = some zs → nodesL zs = 0
  | [], zs, h => by cases h; rfl
  | p :: ps, zs, h => by
    obtain ⟨_, _, b, e, _, h⟩ := zipGo_cons h
    rcases h with ⟨_, y, e3, ys, _, h1, h2, rfl⟩ | ⟨_, h2⟩
    · simp only [nodesL]
      have := zipGo_flat h2
      omega
    · exact zipGo_flat h2
noncomputable def inF0 (ix : List (Option Nat)) (fps : Nat → List Addr) : Nat → List Addr := fun q => match ix[q]? with
  | some (some i) => fps i
  | _ => []
theorem holds_in {K : PySem.W.Frag} {P : Addr → Prop} {H0 H H' : Hp} {σ σ' : St} {env : PEnv} {fps : Nat → List Addr} {ix : List (Option Nat)} (h : Holds K P H0 H σ env fps) (s : Same H H') (hlen : σ'.length = ix.length)
    (hslot : ∀ (q i : Nat), ix[q]? = some (some i) → σ'[q]? = (inSt ix σ)[q]?) : Holds K P H0 H' σ' (inP ix env) (inF0 ix fps) := by
  have get : ∀ (q : Nat) d l, (inP ix env)[q]? = some (some (d, l)) → ∃ i l'', ix[q]? = some (some i) ∧ env[i]? = some (some (d, l'')) ∧ l = 0 ∧ inF0 ix fps q = fps i := fun q d l e => by
    obtain ⟨i, l'', e1, e2, e3⟩ := inP_get e
    exact ⟨i, l'', e1, e2, e3, by unfold inF0; rw [e1]⟩
  refine ⟨h.same.trans s, ?_, fun q d l e => ?_, fun q ⟨⟨d, l⟩, e⟩ b hb => ?_⟩
  · unfold inP; rw [List.length_map, hlen]
  · obtain ⟨i, l'', e1, e2, rfl, e4⟩ := get q d l e
    obtain ⟨v, f1, f2, _⟩ := h.slot i d l'' e2
    rw [e4]
    refine ⟨v, ?_, f2.mono s, .zero⟩
    rw [hslot q i e1]
    unfold inSt
    rw [List.getElem?_map, e1]
    show some ((σ[i]?).join) = some (some v)
    rw [f1]
    rfl
  · obtain ⟨i, l'', e1, e2, _, e4⟩ := get q d l e
    rw [e4] at hb
    exact h.src i ⟨_, e2⟩ b hb
section
variable {X : Cx} {N' : List Str} {ix : List (Option Nat)} {scope : Scope} {elt a b : Expr} {ifs elts : List Expr} {fa fb : FE} {ft : FT} {fe : FE} {j1 j2 n : Nat} {tp : Pos}
theorem zip_read (hj1 : ix[j1]? = some none) (hj2 : ix[j2]? = some none) (pg : ∀ s H fp, PG (cxComp X N' scope s H fp) (.Tuple elts n tp) (gTup X.K 2 (gCons (gName j1) (gCons (gName j2) gNil)))) (hif : ∀ s H fp, PIfs (cxComp X N' scope s H fp) ifs (tQT X.K ft)) (he : ∀ s H fp, QE (cxComp X N' scope s H fp) elt fe)
    {σ : St} {H : Hp} {Q : VK} (h : tQ X.K (fZip ix j1 j2 fa fb ft fe) σ H Q) : tComp X N' ix scope (.Tuple elts n tp) elt ifs (iZip X.K (tCons (tQ X.K fa) (tCons (tQ X.K fb) tNil))) σ H Q := by
  obtain ⟨P, H0, env, fps, w, env', h, hf, k⟩ := h
  unfold fZip at hf
  simp only [Option.bind_eq_some_iff, Prod.exists] at hf
  obtain ⟨x, e1, h1, y, e2, h2, h3⟩ := hf
  split at h3
  · rename_i dx dy hx hy
    simp only [Option.bind_eq_some_iff] at h3
    obtain ⟨zs, hz, h4⟩ := h3
    split at h4
    · rename_i hl
      cases h4
      refine ⟨P, H0, env, fps, x, e1, h, h1, fun v H1 fp1 g1 => ⟨P, H0, e1, fps, y, _, g1.holds, h2, fun u H2 fp2 g2 => ?_⟩⟩
      have r1 := g1.rep.mono g2.same
      have r2 := g2.rep
      rw [hx] at r1
      rw [hy] at r2
      obtain ⟨p1, xs, gx, rfl, ex, _, rx⟩ := r1.lst_
      obtain ⟨p2, ys, gy, rfl, ey, _, ry⟩ := r2.lst_
      refine ⟨p1, p2, xs, ys, rfl, SqL.of ex, SqL.of ey, fun acc s Hx fp hacc => ⟨_, tQT X.K ft, tQ X.K fe, pg s Hx fp, hif s Hx fp, he s Hx fp, ?_⟩⟩
      have lx := rx.length
      have ly := ry.length
      refine comp_zip (xs := xs) (ys := ys) (fun i σ' H' => ∃ done rest, zipGo j1 j2 (inP ix env') ft fe ((dx.zip dy).drop i) = some rest ∧ zs = done ++ rest ∧ Same H2 H' ∧ σ'.length = ix.length ∧ (∀ (q i : Nat), ix[q]? = some (some i) → σ'[q]? = (inSt ix σ)[q]?) ∧ ∃ ysv, H' acc = some (.lst ysv) ∧ Reps X.K H' done ysv [])
        ⟨[], zs, by simpa using hz, rfl, Same.upd_new hacc, by unfold inSt; simp, fun _ _ _ => rfl, [], upd_same, Reps.nil⟩ (fun i σ' H' ⟨_, _, _, _, s', _⟩ => SqL.of (s' _ _ ex)) (fun i σ' H' ⟨_, _, _, _, s', _⟩ => SqL.of (s' _ _ ey)) ?_ ?_
      · rintro i vx vy p σ' H' hvx hvy hp ⟨done, rest, hgo, hzs, s', hsl, hsi, ysv, ea, ra⟩
        have hix : i < dx.length := by rw [← lx]; exact (List.getElem?_eq_some_iff.mp hvx).1
        have hiy : i < dy.length := by rw [← ly]; exact (List.getElem?_eq_some_iff.mp hvy).1
        have hzi : i < (dx.zip dy).length := by rw [List.length_zip]; omega
        have ed : (dx.zip dy).drop i = (dx[i], dy[i]) :: (dx.zip dy).drop (i + 1) := by
          rw [List.drop_eq_getElem_cons hzi, List.getElem_zip]
        rw [ed] at hgo
        obtain ⟨n1, n2, b, e, hft, hb⟩ := zipGo_cons hgo
        have s3 : Same H' (upd H' p (.tup [vx, vy])) := Same.upd_new hp
        refine ⟨p, [vx, vy], rfl, SqT.of upd_same, rfl, vx, [vy], rfl, vy, [], rfl, rfl, ?_⟩
        obtain ⟨vx', _, g0, _, evx, _, rvx, _⟩ := (rx.mono (s'.trans s3)).at (i := i) (d := dx[i]) (by simp)
        rw [hvx] at evx
        cases evx
        obtain ⟨vy', _, g0', _, evy, _, rvy, _⟩ := (ry.mono (s'.trans s3)).at (i := i) (d := dy[i]) (by simp)
        rw [hvy] at evy
        cases evy
        have z1 := rvx.flat n1
        have z2 := rvy.flat n2
        subst z1 z2
        have hj1l : j1 < ix.length := (List.getElem?_eq_some_iff.mp hj1).1
        have hj2l : j2 < ix.length := (List.getElem?_eq_some_iff.mp hj2).1
        have hin := holds_in (K := X.K) g2.holds (s'.trans s3) hsl hsi
        have lin : (inP ix env').length = ix.length := by unfold inP; rw [List.length_map]
        have hA := hin.put (i := j1) (l := 2) (by rw [lin]; exact hj1l) rvx (fun b hb => nomatch hb) (fun b hb => nomatch hb) (.flat n1)
        have hB := hA.put (i := j2) (l := 2) (by rw [List.length_set, lin]; exact hj2l) rvy (fun b hb => nomatch hb) (fun b hb => nomatch hb) (.flat n2)
        have sl : ((σ'.set j1 (some vx)).set j2 (some vy)).length = ix.length := by rw [List.length_set, List.length_set]; exact hsl
        have si : ∀ (q i : Nat), ix[q]? = some (some i) → ((σ'.set j1 (some vx)).set j2 (some vy))[q]? = (inSt ix σ)[q]? := fun q i hq => by
          have q1 : q ≠ j1 := fun z => by rw [z, hj1] at hq; cases hq
          have q2 : q ≠ j2 := fun z => by rw [z, hj2] at hq; cases hq
          rw [List.getElem?_set_ne (Ne.symm q2), List.getElem?_set_ne (Ne.symm q1)]
          exact hsi q i hq
        refine ⟨P, H0, _, _, b, e, hB, hft, fun H4 s4 hold4 b4 => ?_⟩
        have s24 : Same H' H4 := s3.trans s4
        rcases hb with ⟨rfl, yv, e3, ys', hfe, hfl, hgo', rfl⟩ | ⟨rfl, hgo'⟩
        · refine iteT ?_
          refine ⟨P, H0, e, _, yv, e3, hold4, hfe, fun u5 H5 fp5 g5 => ?_⟩
          have s5 : Same H' H5 := s24.trans g5.same
          have ry5 := g5.rep
          have z5 := ry5.flat hfl
          subst z5
          have ea5 := s5 _ _ ea
          refine ⟨ysv, ea5, ?_, done ++ [yv.d], ys', hgo', by rw [hzs]; simp, ?_, sl, si, ysv ++ [u5], upd_same, ?_⟩
          · rw [ra.length]
            rw [hzs, List.length_append, List.length_cons] at hl
            omega
          · intro b o eb
            have hb : b ≠ acc := fun z => by rw [z, hacc] at eb; cases eb
            rw [upd_ne hb]
            exact s5 _ _ (s' _ _ eb)
          · exact ((ra.mono s5).upd ⟨_, ea5⟩ (by simp)).app (Reps.one (ry5.upd ⟨_, ea5⟩ (by simp)))
        · refine iteF ?_
          exact ⟨done, rest, hgo', hzs, s'.trans s24, sl, si, ysv, s24 _ _ ea, ra.mono s24⟩
      · rintro σ' H' ⟨done, rest, hgo, hzs, s', hsl, hsi, ysv, ea, ra⟩
        have ed : (dx.zip dy).drop (min xs.length ys.length) = [] := List.drop_of_length_le (by rw [List.length_zip, lx, ly]; omega)
        rw [ed] at hgo
        cases hgo
        rw [List.append_nil] at hzs
        subst hzs
        have hpn : H acc = none := (g1.same.trans g2.same).free hacc
        have fl := zipGo_flat hz
        have := got_acc (two := true) (S := []) ((g1.same.trans g2.same).trans s') (g2.holds.mono s') (g2.sub.trans g1.sub) ea ra (by simp) hpn (fun ⟨q, lq, hq⟩ => g2.holds.dom lq hq hacc) (h.same.free hpn) (fun b hb => nomatch hb) (fun _ => ⟨List.nodup_nil, fun b hb => nomatch hb⟩)
        unfold lvL at this
        rw [if_pos (.inl fl)] at this
        exact k _ H' [acc] this
    · cases h4
  · cases h3
theorem pg_two {x1 x2 : Str} {p1 p2 : Pos} {n : Nat} (S : CompScope N' scope) (hc : X.calm = true) (h1 : N'[j1]? = some x1) (h2 : N'[j2]? = some x2) (l1 : Loc (relabelS scope X.env.scope) x1) (l2 : Loc (relabelS scope X.env.scope) x2)
    (f1 : ∀ s H fp, (cxComp X N' scope s H fp).fn x1 = true ∨ (relabelS scope X.env.scope).names.lookup x1 = some .local) (f2 : ∀ s H fp, (cxComp X N' scope s H fp).fn x2 = true ∨ (relabelS scope X.env.scope).names.lookup x2 = some .local) :
    ∀ s H fp, PG (cxComp X N' scope s H fp) (.Tuple [.Name x1 p1, .Name x2 p2] n tp) (gTup X.K 2 (gCons (gName j1) (gCons (gName j2) gNil))) := fun s H fp =>
  pg_tup (X := cxComp X N' scope s H fp) hc (pgs_cons (pg_name S.nd h1 l1 (f1 s H fp)) (pgs_cons (pg_name S.nd h2 l2 (f2 s H fp)) pgs_nil))
variable {x1 x2 : Str} {p1 p2 zp zpos pos : Pos}
theorem q_zip (S : CompScope N' scope) (T : Slots X.N X.env.scope scope N' ix) (hc : X.calm = true) (hg : Gl X "zip") (hm : X.mg "zip" = none) (ha : QE X a fa) (hb : QE X b fb) (h1 : N'[j1]? = some x1) (h2 : N'[j2]? = some x2) (hj1 : ix[j1]? = some none) (hj2 : ix[j2]? = some none)
    (hif : ∀ s H fp, PIfs (cxComp X N' scope s H fp) ifs (tQT X.K ft)) (he : ∀ s H fp, QE (cxComp X N' scope s H fp) elt fe)
    (l1 : Loc (relabelS scope X.env.scope) x1 := by exact L2.loc_of rfl rfl) (l2 : Loc (relabelS scope X.env.scope) x2 := by exact L2.loc_of rfl rfl)
    (f1 : ∀ s H fp, (cxComp X N' scope s H fp).fn x1 = true ∨ (relabelS scope X.env.scope).names.lookup x1 = some .local := by first | exact fun _ _ _ => .inr rfl | exact fun _ _ _ => .inl rfl)
    (f2 : ∀ s H fp, (cxComp X N' scope s H fp).fn x2 = true ∨ (relabelS scope X.env.scope).names.lookup x2 = some .local := by first | exact fun _ _ _ => .inr rfl | exact fun _ _ _ => .inl rfl)
    (hs : starEach [a, b] X.env = [(false, eval a X.env), (false, eval b X.env)] := by rfl) (hs2 : starEach [b] X.env = [(false, eval b X.env)] := by rfl) (hs' : starEach [a, b] X.env = (false, eval a X.env) :: starEach [b] X.env := by rfl) (hs2' : starEach [b] X.env = (false, eval b X.env) :: starEach [] X.env := by rfl)
    (hfs : ∀ x, foldedSetIterable (.Call (.Name "zip" zp) [a, b] [] zpos) X.env x = pure x := by intro _; rfl) :
    QE X (.ListComp elt [⟨.Tuple [.Name x1 p1, .Name x2 p2] n tp, .Call (.Name "zip" zp) [a, b] [] zpos, ifs, 0⟩] scope pos) (fZip ix j1 j2 fa fb ft fe) :=
  PE.imp (pe_comp S T hc (pi_zip hg hm (pa_cons ha (pa_cons hb pa_nil hs2') hs') hs hs2) hfs) fun _ _ _ h => zip_read hj1 hj2 (pg_two S hc h1 h2 l1 l2 f1 f2) hif he h
end
end L3
namespace L3
open PySem PySem.Spec PyProof.Rows L2
structure Has (P : Program) (w : World) (K : PySem.W.Frag) (mg : Str → Option Value) (base : Heap) (k : Nat) (x : Str) (ps : List Str) (g : FD) : Prop where
  ex : ∃ f fd, FnOk P w K mg base CX0 k f fd ps (spD K ps.length g) ∧ mg x = some (.ref f) ∧ PySem.W.keepIn K (.ref f) = true ∧ Binds K fd ps []
theorem Has.mono {P : Program} {w : World} {K : PySem.W.Frag} {mg : Str → Option Value} {base : Heap} {j k : Nat} {x : Str} {ps : List Str} {g : FD} (h : Has P w K mg base j x ps g) (hk : j ≤ k) : Has P w K mg base k x ps g := by
  obtain ⟨f, fd, F, a, b, c⟩ := h.ex
  exact ⟨f, fd, F.mono hk, a, b, c⟩
theorem spD.imp {K : PySem.W.Frag} {n : Nat} {g g' : FD} (h : ∀ ds r, ds.length = n → g' ds = some r → g ds = some r) : ∀ vs H Q E, spD K n g' vs H Q E → spD K n g vs H Q E := fun vs H Q E ⟨ds, fp, d, l, a, b, c, e⟩ => ⟨ds, fp, d, l, h _ _ b a, b, c, e⟩
theorem Has.imp {P : Program} {w : World} {K : PySem.W.Frag} {mg : Str → Option Value} {base : Heap} {k : Nat} {x : Str} {ps : List Str} {g g' : FD} (H : Has P w K mg base k x ps g) (h : ∀ ds r, ds.length = ps.length → g' ds = some r → g ds = some r) : Has P w K mg base k x ps g' := by
  obtain ⟨f, fd, F, a, b, c⟩ := H.ex
  exact ⟨f, fd, F.imp (spD.imp h), a, b, c⟩
section
variable {X : Cx} {k n : Nat} {ps : List Str} {g : FD} {x : Str} {p pos : Pos} {e : Expr} {es : List Expr} {fs : FA}
theorem q_callH (h : Has X.prog X.w X.K X.mg X.base k x ps g) (hr : Room k X.A) (ha : QA X (e :: es) fs) (hn : ps.length = n := by rfl) (hg : Gl X x := by rfl)
    (hdb : (x == ("__debug__" : Str)) = false := by decide) (he : starEach (e :: es) X.env = (false, eval e X.env) :: starEach es X.env := by rfl) (hpl : (backTo pos (starEach es X.env)).any (·.1) = false := by rfl) :
    QE X (.Call (.Name x p) (e :: es) [] pos) (fCall n g fs) := by
  obtain ⟨f, fd, F, a, b, c⟩ := h.ex
  subst hn
  exact q_call F hr hg a b c ha hdb he hpl
end
structure Def (K : PySem.W.Frag) (mg : Str → Option Value) (x qual : Str) (st : Stmt) (ps : List Str) : Prop where
  ex : ∃ f fd, Fun K x qual st f fd ∧ mg x = some (.ref f) ∧ Binds K fd ps []
theorem Def.has {P : Program} {w : World} {K : PySem.W.Frag} {mg : Str → Option Value} {base : Heap} {x qual : Str} {st : Stmt} {N ps : List Str} {k : Nat} {g : FD} {F : FS} (d : Def K mg x qual st ps) (S : FnScope N ps (defScope st))
    (hb : ∀ (f : Addr) (cdv : Value) (A : Around) (outer : List Env) (s : Shared) (H : Hp) (E : XK), Room k (A.deeper (envOfC qual (defScope st) s.heap.objs.size f cdv)) → QSs (cxOf CX0 P w K mg base N qual (defScope st) f cdv A outer s H E).nox (defBody st) F)
    (hg : ∀ ds r, ds.length = ps.length → g ds = some r → runF N.length F ds = some r) : Has P w K mg base (k + 1) x ps g := by
  obtain ⟨f, fd, Fu, a, b⟩ := d.ex
  exact ⟨f, fd, fn_d Fu S (hb f) hg, a, Fu.kp, b⟩
theorem def_mk {K : PySem.W.Frag} {mg : Str → Option Value} {h : Heap} {x qual : Str} {st : Stmt} {ps : List Str} {f : Addr} {oc : Value} {od an : Option Addr} {osl : Array (Option Value)} {kV doc pm cdv ct : Value} (X : K.In h) (G : h.Ns mainGlobals mg) (a : PySem.W.nsIn K mainGlobals x = some (some (.ref f)))
    (l : K.lookup f = some ⟨oc, od, .func (PySem.W.fnOf x qual (defArgs st) (defBody st) (defScope st) .none kV doc pm an cdv ct), osl⟩) (c : PySem.W.codeIn K cdv qual = true) (k : PySem.W.keepIn K (.ref f) = true)
    (h : ∀ (kV doc pm : Value) (an : Option Addr) (cdv ct : Value) (us : List Value), us.length = ps.length → bindArgs (PySem.W.fnOf x qual (defArgs st) (defBody st) (defScope st) .none kV doc pm an cdv ct) ⟨us, []⟩ = pure (ps.zip us)) : Def K mg x qual st ps :=
  ⟨f, _, fun_mk l c k, PySem.W.mg_of X G a, (fun_mk l c k).binds h⟩
end L3
namespace L3
open PySem PySem.Spec PyProof.Rows L2
noncomputable abbrev gSubI : D → D → Option D := gI fun i j => i - j
noncomputable abbrev gDivI : D → D → Option D := gIc cDiv fun i j => i / j
noncomputable abbrev gModI : D → D → Option D := gIc cMod fun i j => i % j
noncomputable abbrev gLtI : D → D → Option D := gB fun i j => decide (i < j)
noncomputable abbrev gLeI : D → D → Option D := gB fun i j => decide (i ≤ j)
noncomputable abbrev gGtI : D → D → Option D := gB fun i j => decide (j < i)
noncomputable def constInt : Expr → Option Int
  | .Constant (.int i) _ _ => some i
  | .UnaryOp .USub (.Constant (.int i) _ _) _ => some (-i)
  | _ => none
noncomputable def constInts : List Expr → Option (List Int)
  | [] => some []
  | e :: es => (constInt e).bind fun i => (constInts es).map fun is => i :: is
noncomputable def fInts (ns : List Int) : FA := fun env => some (ns.map fun i => ⟨.int i, 2, []⟩, env)
section
variable {X : Cx}
theorem q_constInt {e : Expr} {i : Int} (h : constInt e = some i) : QE X e (fC (.int i)) ∧ ∀ es, starEach (e :: es) X.env = (false, eval e X.env) :: starEach es X.env := by
  unfold constInt at h
  split at h
  · cases h
    exact ⟨qi, fun _ => rfl⟩
  · cases h
    exact ⟨PE.imp (q_neg qi) fun σ H Q h => h, fun _ => rfl⟩
  · cases h
theorem qa_ints : ∀ {es : List Expr} {ns : List Int}, constInts es = some ns → QA X es (fInts ns)
  | [], ns, h => by
    cases h
    exact PA.imp qa_nil fun σ H Q h => h
  | e :: es, ns, h => by
    unfold constInts at h
    simp only [Option.bind_eq_some_iff, Option.map_eq_some_iff] at h
    obtain ⟨i, h1, is, h2, rfl⟩ := h
    obtain ⟨a, b⟩ := q_constInt (X := X) h1
    exact PA.imp (qa_cons a (qa_ints h2) (b es)) fun σ H Q h => h
theorem q_ints {es : List Expr} {ns : List Int} {pos : Pos} (h : constInts es = some ns := by rfl) : QE X (.List es pos) (fLst (fInts ns)) := q_lst (qa_ints h)
theorem q_globE {x : Str} {i : Int} {pos : Pos} (hm : ∃ t, X.mg x = some (.int i t)) (hg : Gl X x := by rfl) (hdb : (x == ("__debug__" : Str)) = false := by decide) : QE X (.Name x pos) (fC (.int i)) := let ⟨_, hm⟩ := hm; q_globI hg hm hdb
end
theorem walkD {l : PySem.W.OpenLaw} {q : Program} {loose : List Str} {XP : (Str → Option Value) → Heap → Prop} {YP : World → Heap → Prop} {d : DefRec} {K : Params → PySem.W.Frag} {k : Nat} {g : FD} (hn : l.most = some 63) (hdf : d.params.defaults = []) (hr : Room k callerA)
    (hY : ∀ (w : World) (h : Heap), YP w h → (K w.params).In h) (hg : ∀ ns : List Int, ns.length ≤ 63 → g [.ro (ns.map D.int)] = some (.bl true, 2))
    (F : ∀ (w : World) (mg : Str → Option Value) (fa : Addr) (h : Heap), (K w.params).In h → h.Ns mainGlobals mg → mg d.name = some (.ref fa) →
      ∃ fd : FuncData, (∀ (s : Shared) (u : Value), BindsTo s fd ⟨[u], []⟩ [("script", u)]) ∧ ∀ base : Heap, (K w.params).In base → base.Ns mainGlobals mg → FnOk l.prog w (K w.params) mg base CX0 k fa fd ["script"] (spD (K w.params) 1 g)) :
    PySem.W.WalkO q loose XP YP l.row.toRowW d [] (fun f vs => PySem.call f vs) := by
  refine L2.walk_of (n := 63) (k := k) (x := "script") (CX := fun _ => CX0) (sp := fun w => spD (K w.params) 1 g) hn (by decide) hdf hr hY F (fun w H a ns hl hO hS => ?_) fun _ _ _ _ _ z => z
  have ro : RoL (K w.params) H a (ns.map V.int) := by
    rcases hS with (z | z) | z
    · rcases hO a with y | ⟨o, xs, y⟩
      · rw [z] at y; cases y
      · rw [z] at y; cases y
    · exact .inl z
    · exact .inr z
  refine ⟨[.ro (ns.map D.int)], [], .bl true, 2, hg ns hl, rfl, Reps.one ?_, fun v H' fp' _ r _ _ => r.bl_⟩
  simp only [Rep]
  exact ⟨a, _, rfl, ro, reps_ints ns⟩
end L3
namespace L3
open PySem PySem.Spec PyProof.Rows L2
section
variable {X : Cx}
end
section
variable {X : Cx} {a b : Expr} {fa fb : FE} {pos : Pos}
end
noncomputable abbrev FO := PEnv → Option (Option Int × PEnv)
noncomputable def tQO (K : PySem.W.Frag) (f : FO) : TO := fun σ H Q => ∃ P H0 env fps o env', Holds K P H0 H σ env fps ∧ f env = some (o, env') ∧ ∀ H', Same H H' → Holds K P H0 H' σ env' fps → Sub env' env → Q o H'
noncomputable def QO (X : Cx) (e : Option Expr) (f : FO) : Prop := PO X e (tQO X.K f)
theorem PO.imp {X : Cx} {e : Option Expr} {t t' : TO} (h : PO X e t) (hi : ∀ σ H Q, t' σ H Q → t σ H Q) : PO X e t' := fun pins s σ H Q I q => h pins s σ H Q I (hi σ H Q q)
noncomputable def fNoP : FO := fun env => some (none, env)
noncomputable def fPart (f : FE) : FO := fun env => (f env).bind fun (x, e) => match x.d with
  | .int i => some (some i, e)
  | _ => none
noncomputable def cutD {α : Type} (xs : List α) (lo hi : Option Int) : List α := (xs.drop (HT.sIx xs.length 0 lo)).take (HT.sIx xs.length xs.length hi - HT.sIx xs.length 0 lo)
theorem Reps.take_ {K : PySem.W.Frag} {H : Hp} {ds : List D} {xs : List V} {g : List Addr} (h : Reps K H ds xs g) (n : Nat) : ∃ g', Reps K H (ds.take n) (xs.take n) g' ∧ g'.Sublist g := by
  have hl := h.length
  rw [← List.take_append_drop n ds] at h
  obtain ⟨a, b, g1, g2, rfl, rfl, h1, h2⟩ := h.split
  refine ⟨g1, ?_, List.sublist_append_left _ _⟩
  have la := h1.length
  rw [List.length_take] at la
  have e1 : (a ++ b).take n = a := by
    by_cases hn : n ≤ ds.length
    · exact List.take_left' (by omega)
    · have lb := h2.length
      rw [List.length_drop] at lb
      have : b = [] := List.eq_nil_of_length_eq_zero (by omega)
      subst this
      rw [List.append_nil, List.take_of_length_le (by omega)]
  rw [e1]
  exact h1
theorem Reps.drop_ {K : PySem.W.Frag} {H : Hp} {ds : List D} {xs : List V} {g : List Addr} (h : Reps K H ds xs g) (n : Nat) : ∃ g', Reps K H (ds.drop n) (xs.drop n) g' ∧ g'.Sublist g := by
  have hl := h.length
  rw [← List.take_append_drop n ds] at h
  obtain ⟨a, b, g1, g2, rfl, rfl, h1, h2⟩ := h.split
  refine ⟨g2, ?_, List.sublist_append_right _ _⟩
  have la := h1.length
  rw [List.length_take] at la
  have e1 : (a ++ b).drop n = b := by
    by_cases hn : n ≤ ds.length
    · exact List.drop_left' (by omega)
    · have lb := h2.length
      rw [List.length_drop] at lb
      have : b = [] := List.eq_nil_of_length_eq_zero (by omega)
      subst this
      rw [List.append_nil, List.drop_of_length_le (by omega)]
  rw [e1]
  exact h2
theorem Reps.cut {K : PySem.W.Frag} {H : Hp} {ds : List D} {xs : List V} {g : List Addr} (h : Reps K H ds xs g) (lo hi : Option Int) : ∃ g', Reps K H (cutD ds lo hi) (cutV xs lo hi) g' ∧ g'.Sublist g := by
  unfold cutD cutV
  rw [h.length]
  obtain ⟨g1, h1, s1⟩ := h.drop_ (HT.sIx ds.length 0 lo)
  obtain ⟨g2, h2, s2⟩ := h1.take_ (HT.sIx ds.length ds.length hi - HT.sIx ds.length 0 lo)
  exact ⟨g2, h2, s2.trans s1⟩
noncomputable def fSl (fa : FE) (fl fh : FO) : FE := fun env => (fa env).bind fun (x, e1) => (fl e1).bind fun (lo, e2) => (fh e2).bind fun (hi, e3) => (seqL x.d).map fun ds => (lvL (cutD ds lo hi) (decide (2 ≤ x.l)) x.S, e3)
where
  seqL : D → Option (List D)
  | .lst ds => some ds
  | .ro ds => some ds
  | _ => none
section
variable {X : Cx}
theorem qo_none : QO X none fNoP := by
  refine PO.imp po_none ?_
  rintro σ H Q ⟨P, H0, env, fps, o, env', h, hf, k⟩
  cases hf
  exact k H (Same.refl _) h (Sub.refl _)
theorem qo_some {e : Expr} {f : FE} (he : QE X e f) : QO X (some e) (fPart f) := by
  refine PO.imp (po_some he) ?_
  rintro σ H Q ⟨P, H0, env, fps, o, env', h, hf, k⟩
  unfold fPart at hf
  simp only [Option.bind_eq_some_iff, Prod.exists] at hf
  obtain ⟨x, e1, h1, h2⟩ := hf
  split at h2
  · rename_i i hx
    cases h2
    refine ⟨P, H0, env, fps, x, _, h, h1, fun v H1 fp g => ?_⟩
    have r := g.rep
    rw [hx] at r
    exact ⟨i, r.int_, k H1 g.same g.holds g.sub⟩
  · cases h2
theorem q_slice {e : Expr} {lo hi : Option Expr} {fa : FE} {fl fh : FO} {p2 pos : Pos} (he : QE X e fa) (hl : QO X lo fl) (hh : QO X hi fh) : QE X (.Subscript e (.Slice lo hi none p2) pos) (fSl fa fl fh) := by
  refine PE.imp (pe_slice sl_list he hl hh) ?_
  rintro σ H Q ⟨P, H0, env, fps, w, env', h, hf, k⟩
  unfold fSl at hf
  simp only [Option.bind_eq_some_iff, Option.map_eq_some_iff, Prod.exists] at hf
  obtain ⟨x, e1, h1, l, e2, h2, u, e3, h3, ds, h4, h5⟩ := hf
  cases h5
  refine ⟨P, H0, env, fps, x, e1, h, h1, fun v H1 fp g1 => ⟨P, H0, e1, fps, l, e2, g1.holds, h2, fun H2 s2 hold2 b2 => ⟨P, H0, e2, fps, u, _, hold2, h3, fun H3 s3 hold3 b3 => ?_⟩⟩⟩
  have sq : ∃ q us g, v = .ref q ∧ SqL X.K H3 q us ∧ Reps X.K H3 ds us g ∧ g.Sublist fp := by
    have r := (g1.rep.mono s2).mono s3
    unfold fSl.seqL at h4
    split at h4
    · rename_i ds' hd
      cases h4
      rw [hd] at r
      obtain ⟨a, xs, g, rfl, ea, rfl, rs⟩ := r.lst_
      exact ⟨a, xs, g, rfl, SqL.of ea, rs, List.sublist_cons_self _ _⟩
    · rename_i ds' hd
      cases h4
      rw [hd] at r
      obtain ⟨a, xs, rfl, ea, rs⟩ := r.ro_
      exact ⟨a, xs, fp, rfl, ea.sq, rs, List.Sublist.refl _⟩
    · cases h4
  obtain ⟨q, us, g, rfl, sq, rs, sl⟩ := sq
  obtain ⟨g', rc, sc⟩ := rs.cut l u
  have sl' : g'.Sublist fp := sc.trans sl
  have b31 : Sub env' e1 := b3.trans b2
  refine ⟨q, us, rfl, sq, fun n hn => k _ _ (n :: g') (got_new (g1.same.trans (s2.trans s3)) hold3 (b31.trans g1.sub) rc (fun b hb => ?_) (fun ht => ?_) hn)⟩
  · unfold lvL
    split
    · rename_i hc
      rcases hc with hc | hc
      · have hl := rc.len
        rw [hc] at hl
        rw [List.eq_nil_of_length_eq_zero hl] at hb
        cases hb
      · rcases g1.from_ b (sl'.subset hb) with z | ⟨j, lj, hj, _⟩
        · exact .inl z
        · exact .inr ⟨j, lj, hj, .inr fun l => ((g1.own.deep (by simpa using hc)).2 b (sl'.subset hb)).2 ⟨j, b31.live l, hj⟩⟩
    · exact Got.from1 g1 b31 (fun _ h => h) b (sl'.subset hb)
  · have d := g1.own.deep (by simpa using ht)
    exact ⟨sl'.nodup d.1, fun b hb => ⟨(d.2 b (sl'.subset hb)).1, fun ⟨j, lj, hj⟩ => (d.2 b (sl'.subset hb)).2 ⟨j, b31.live lj, hj⟩⟩⟩
end
end L3
namespace L2
open PySem PySem.Spec PyProof.Rows
section
variable {X : Cx}
theorem XAt.unwish {E : Value → Shared → Prop} {B : Heap} {p C : Addr} {h : Heap} (x : XAt B (X.wish E) p C h) : XAt B X p C h := by
  cases x with
  | fly a0 z => exact .fly a0 z
  | held a0 z => exact .held a0 z
  | made oe vs a0 z1 z2 z3 z4 z5 z6 z7 z8 z9 => exact .made oe vs a0 z1 z2 z3 z4 z5 z6 z7 z8 z9
theorem XAt.wish {E : Value → Shared → Prop} {B : Heap} {p C : Addr} {h : Heap} (x : XAt B X p C h) : XAt B (X.wish E) p C h := by
  cases x with
  | fly a0 z => exact .fly a0 z
  | held a0 z => exact .held a0 z
  | made oe vs a0 z1 z2 z3 z4 z5 z6 z7 z8 z9 => exact .made oe vs a0 z1 z2 z3 z4 z5 z6 z7 z8 z9
theorem XS.unwish {E : Value → Shared → Prop} {W : Addr → St → Hp → Prop} {e : Value} {s' : Shared} (x : XS (X.wish E) W e s') : XS X W e s' := by
  obtain ⟨p, C, H', B, pins, σ, e1, I, hp, cv, at_, hW⟩ := x.ex
  exact ⟨p, C, H', B, pins, σ, e1, I.unwish, hp, cv, at_.unwish, hW⟩
theorem XS.imp {W W' : Addr → St → Hp → Prop} {e : Value} {s' : Shared} (x : XS X W e s') (h : ∀ C σ H', W C σ H' → W' C σ H') : XS X W' e s' := by
  obtain ⟨p, C, H', B, pins, σ, e1, I, hp, cv, at_, hW⟩ := x.ex
  exact ⟨p, C, H', B, pins, σ, e1, I, hp, cv, at_, h _ _ _ hW⟩
end
end L2
namespace L3
open PySem PySem.Spec PyProof.Rows L2
inductive RD where
  | ok (d : D) (l : Nat) | exc (c : Str)
noncomputable abbrev FX := List D → Option RD
noncomputable def spX (K : PySem.W.Frag) (mg : Str → Option Value) (n : Nat) (g : FX) : Sp := fun vs H Q E => ∃ ds fp r, g ds = some r ∧ ds.length = n ∧ Reps K H ds vs fp ∧ match r with
  | .ok d l => ∀ v H' fp', Same H H' → Rep K H' d v fp' → (∀ b ∈ fp', H b = none ∨ b ∈ fp) → OwnOk H H' (fun _ => False) d l v fp' → Q v H'
  | .exc c => ∀ C H', mg c = some (.ref C) → Same H H' → E (.ref C) none H'
section
variable {P : Program} {w : World} {K : PySem.W.Frag} {mg : Str → Option Value} {base : Heap}
end
noncomputable abbrev FEx := PEnv → Option (Sum (Val × PEnv) Str)
noncomputable def fCallX (n : Nat) (g : FX) (fs : FA) : FEx := fun env => (fs env).bind fun (xs, e) => if xs.length = n then (g (xs.map Val.d)).map fun r => match r with
    | .ok d l => .inl (⟨d, l, if l = 2 then [] else xs.flatMap Val.S⟩, e)
    | .exc c => .inr c
  else none
structure HasX (P : Program) (w : World) (K : PySem.W.Frag) (mg : Str → Option Value) (base : Heap) (k : Nat) (x : Str) (ps : List Str) (g : FX) : Prop where
  ex : ∃ f fd, FnOk P w K mg base (CXe P w) k f fd ps (spX K mg ps.length g) ∧ mg x = some (.ref f) ∧ PySem.W.keepIn K (.ref f) = true ∧ Binds K fd ps []
theorem HasX.mono {P : Program} {w : World} {K : PySem.W.Frag} {mg : Str → Option Value} {base : Heap} {j k : Nat} {x : Str} {ps : List Str} {g : FX} (h : HasX P w K mg base j x ps g) (hk : j ≤ k) : HasX P w K mg base k x ps g := by
  obtain ⟨f, fd, F, a, b, c⟩ := h.ex
  exact ⟨f, fd, F.mono hk, a, b, c⟩
theorem spX.imp {K : PySem.W.Frag} {mg : Str → Option Value} {n : Nat} {g g' : FX} (h : ∀ ds r, ds.length = n → g' ds = some r → g ds = some r) : ∀ vs H Q E, spX K mg n g' vs H Q E → spX K mg n g vs H Q E := fun vs H Q E ⟨ds, fp, r, a, b, c, e⟩ => ⟨ds, fp, r, h _ _ b a, b, c, e⟩
theorem HasX.imp {P : Program} {w : World} {K : PySem.W.Frag} {mg : Str → Option Value} {base : Heap} {k : Nat} {x : Str} {ps : List Str} {g g' : FX} (H : HasX P w K mg base k x ps g) (h : ∀ ds r, ds.length = ps.length → g' ds = some r → g ds = some r) : HasX P w K mg base k x ps g' := by
  obtain ⟨f, fd, F, a, b, c⟩ := H.ex
  exact ⟨f, fd, F.imp (spX.imp h), a, b, c⟩
section
variable {X : Cx} {k n : Nat} {ps : List Str} {g : FX} {x : Str} {p pos : Pos} {e : Expr} {es : List Expr} {fs : FA}
noncomputable def fDropX (f : FEx) : FS := fun env => (f env).map fun r => match r with
  | .inl (_, e) => .next e
  | .inr c => .exc c
noncomputable def fRetX (f : FEx) : FS := fun env => (f env).map fun r => match r with
  | .inl (x, _) => .ret x
  | .inr c => .exc c
noncomputable def fExc (c : Str) (fs : FA) : FS := fun env => (fs env).bind fun (xs, _) => if xs.length ≤ 9 then some (.exc c) else none
end
end L3
namespace L3
open PySem PySem.Spec PyProof.Rows L2
section
variable {X : Cx}
noncomputable def fSetX (i : Nat) (f : FEx) : FS := fun env => (f env).bind fun r => match r with
  | .inl (x, e) => if i < env.length then some (.next ((dropS x.S e).set i (some (x.d, x.l)))) else none
  | .inr c => some (.exc c)
structure Err (K : PySem.W.Frag) (mg : Str → Option Value) (c : Str) : Prop where
  ex : ∃ C, mg c = some (.ref C) ∧ ErrCls K C
end
end L3
namespace L2
open PySem PySem.Spec PyProof.Rows
section
variable {M : Model} {A : Around} {E : Value → Shared → Prop} {s : Shared}
end
section
variable {X : Cx} {pins : List (Addr × Obj)} {σ : St} {H H' : Hp} {s s' : Shared} {B h' : Heap}
theorem up_cell {h h' : Heap} {c : Addr} {v : Option Value} (up : h.UpToSlots h') (x : h.IsCell c v) : h'.IsCell c v := by
  obtain ⟨o, ho, hd⟩ := x
  obtain ⟨sl, q⟩ := up c o ho fun vs z => by rw [hd] at z; cases z
  exact ⟨_, q, hd⟩
theorem cov_outer (T : Top X) (I : Inv X pins σ H' s) (cv : Cov X.stack H' X.s₀.heap s.heap B) : Cov X.outer H' X.s₀.heap s.heap B := by
  have neL : ∀ b, (H' b ≠ none ∨ ∃ o0, X.s₀.heap.get? b = some o0) → b ≠ X.env.locals := fun b hb z => by
    subst z
    rcases hb with hb | ⟨o0, e⟩
    · exact hb I.free
    · exact absurd (Nat.lt_of_lt_of_le (Heap.lt_size e) I.ok.above) (Nat.lt_irrefl _)
  exact ⟨cv.sub, fun b o eb hb hn => cv.all b o eb hb fun z => (T.cases z).elim (neL b hb) hn⟩
theorem Inv.fly (I : Inv X pins σ H' s) (T : Top X) (hpn : X.pn = []) (cv : Cov X.stack H' X.s₀.heap s.heap B) (ff : s.heap.FunFrames B X.stack) (k : B.StaysIn h') (up : s.heap.UpToSlots h') :
    Inv X [] σ H' { s with heap := h' } ∧ Cov X.stack H' X.s₀.heap h' B := by
  have un0 : Un (frs X.outer) [] X.H₀ H' X.s₀.heap s.heap := by
    have := I.base
    rw [T.ex] at this
    exact this
  have hfr : ∀ b ∈ frs X.outer, H' b = none := fun b hb => I.stkFree b (T.sub hb)
  have cv' := cov_outer T I cv
  have ff' : s.heap.FunFrames B X.outer := by rw [T.stk] at ff; exact ff.2.2
  have cg := cv'.go hfr I.hok un0 k
  refine ⟨⟨I.ok, I.os, I.bare, ?_, ?_, fun x c h => ?_, I.free, I.freeC, fun p hp => absurd hp (by rw [hpn]; simp), cv'.hok I.hok hfr k, I.len⟩, ⟨k, fun b o e hb hn => cg.all b o e hb fun z => hn (T.sub z)⟩⟩
  · show Un (frs X.outer) X.ex X.H₀ H' X.s₀.heap h'
    rw [T.ex]
    exact cv'.un un0 ff' k up
  · obtain ⟨m, hm, hl⟩ := I.loc
    refine ⟨m, up.ns hm, fun i x v h1 h2 h3 => ?_⟩
    obtain ⟨u, r, lk⟩ := hl i x v h1 h2 h3
    refine ⟨u, r, ?_⟩
    rcases lk with z | ⟨z1, c, z2, z3⟩
    · exact .inl z
    · exact .inr ⟨z1, c, z2, up_cell up z3⟩
  · obtain ⟨v, z⟩ := I.cell x c h
    exact ⟨v, up_cell up z⟩
end
end L2
namespace L2
open PySem PySem.Spec PyProof.Rows
section
variable {X : Cx}
end
end L2
namespace L3
open PySem PySem.Spec PyProof.Rows L2
noncomputable def errs : List Str := ["NoMove", "NoNote", "NoNumbers", "NoSize", "NoSquare", "NoTable", "TooGreat", "Unlike"]
noncomputable def subE (c T : Str) : Bool := c == T || T == "PlusError" || T == "ValueError"
structure ErrsK (K : PySem.W.Frag) : Prop where
  own : ∀ c ∈ errs, ∃ C, PySem.W.nsIn K mainGlobals c = some (some (.ref C)) ∧ ErrCls K C ∧ ErrGet K C ∧ PySem.W.kitOne K (.ref C) (.type "ValueError") = some true ∧
    (∀ T ∈ errs, ∃ D, PySem.W.nsIn K mainGlobals T = some (some (.ref D)) ∧ PySem.W.kitOne K (.ref C) (.ref D) = some (subE c T)) ∧
    ∃ D, PySem.W.nsIn K mainGlobals "PlusError" = some (some (.ref D)) ∧ PySem.W.typeIn K (.ref D) = some (.type "type") ∧ (PySem.W.clsIn K D).isSome = true ∧ PySem.W.mroIn K D (.type "BaseException") = some true ∧ PySem.W.mroIn K C (.ref D) = some true
section
variable {X : Cx}
end
end L3
namespace L2
open PySem PySem.Spec PyProof.Rows
noncomputable abbrev RoomU (k : Nat) (A : Around) : Prop := Room k { A with handled := none }
structure FnOkU (P : Program) (w : World) (K : PySem.W.Frag) (mg : Str → Option Value) (base : Heap) (k : Nat) (f : Addr) (fd : FuncData) (ps : List Str) (sp : Sp) : Prop where
  len : ∀ vs H Q E, sp vs H Q E → vs.length = ps.length
  run : ∀ (A : Around) (outer : List Env) (s : Shared) (H : Hp) (args : Args) (us : List Value) (vs : List V) (Q : VK) (E : XK), RoomU k A → Env0 P w K mg base A outer s H → BindsTo s fd args (ps.zip us) → Vals vs us → sp vs H Q E →
    codeAny (model P w) A (.call (.ref f) args) (CR CX0 outer P w H s Q E) s
theorem FnOkU.mono {P : Program} {w : World} {K : PySem.W.Frag} {mg : Str → Option Value} {base : Heap} {j k : Nat} {f : Addr} {fd : FuncData} {ps : List Str} {sp : Sp} (F : FnOkU P w K mg base j f fd ps sp) (h : j ≤ k) :
    FnOkU P w K mg base k f fd ps sp := ⟨F.len, fun A outer s H args us vs Q E hr => F.run A outer s H args us vs Q E (hr.mono h)⟩
section
variable {X : Cx} {k : Nat} {f : Addr} {fd : FuncData} {ps : List Str} {sp : Sp} {x : Str} {p pos : Pos} {e : Expr} {es : List Expr} {t : TA}
end
end L2
namespace L3
open PySem PySem.Spec PyProof.Rows L2
structure HasU (P : Program) (w : World) (K : PySem.W.Frag) (mg : Str → Option Value) (base : Heap) (k : Nat) (x : Str) (ps : List Str) (g : FD) : Prop where
  ex : ∃ f fd, FnOkU P w K mg base k f fd ps (spD K ps.length g) ∧ mg x = some (.ref f) ∧ PySem.W.keepIn K (.ref f) = true ∧ Binds K fd ps []
theorem HasU.mono {P : Program} {w : World} {K : PySem.W.Frag} {mg : Str → Option Value} {base : Heap} {j k : Nat} {x : Str} {ps : List Str} {g : FD} (h : HasU P w K mg base j x ps g) (hk : j ≤ k) : HasU P w K mg base k x ps g := by
  obtain ⟨f, fd, F, a, b, c⟩ := h.ex
  exact ⟨f, fd, F.mono hk, a, b, c⟩
section
variable {X : Cx} {k n : Nat} {ps : List Str} {g : FD} {x : Str} {p pos : Pos} {e : Expr} {es : List Expr} {fs : FA}
end
end L3
namespace L2
open PySem PySem.Spec PyProof.Rows
section
variable {X : Cx} {σ : St} {H : Hp} {s : Shared}
end
end L2
namespace L3
open PySem PySem.Spec PyProof.Rows L2
noncomputable def PostW (X : Cx) (P : Addr → Prop) (H0 : Hp) (D : Ends) : Out → Prop
  | .next e => ∀ σ' H' fps', Holds X.K P H0 H' σ' e fps' → D.nx σ' H'
  | .brk e => ∀ σ' H' fps', Holds X.K P H0 H' σ' e fps' → D.bk σ' H'
  | .cont e => ∀ σ' H' fps', Holds X.K P H0 H' σ' e fps' → D.ct σ' H'
  | .ret x => ∀ v H' fp, Same H0 H' → Rep X.K H' x.d v fp → (∀ b ∈ fp, H0 b = none ∨ P b) → OwnOk H0 H' (fun _ => False) x.d x.l v fp → D.rt v H'
  | .exc c => ∀ e s', XAtt X c H0 e s' → X.xe e s'
noncomputable def tQW (X : Cx) (f : FS) : TS := fun D σ H => ∃ P H0 env fps o, Holds X.K P H0 H σ env fps ∧ f env = some o ∧ PostW X P H0 D o
theorem tQW.to {X : Cx} {f : FS} {D : Ends} {σ : St} {H : Hp} (h : tQW X f D σ H) : tQS X f D σ H := by
  obtain ⟨P, H0, env, fps, o, h, hf, k⟩ := h
  refine ⟨P, H0, env, fps, o, h, hf, ?_⟩
  cases o with
  | next e => exact fun σ' H' fps' h _ => k σ' H' fps' h
  | brk e => exact fun σ' H' fps' h _ => k σ' H' fps' h
  | cont e => exact fun σ' H' fps' h _ => k σ' H' fps' h
  | ret x => exact k
  | exc c => exact k
section
variable {X : Cx}
end
end L3
namespace L3
open PySem PySem.Spec PyProof.Rows L2
section
variable {P : Program} {w : World} {K : PySem.W.Frag} {mg : Str → Option Value} {base : Heap}
end
end L3
namespace L2
open PySem PySem.Spec PyProof.Rows
section
variable {X : Cx}
end
end L2
namespace L3
open PySem PySem.Spec PyProof.Rows L2
section
variable {X : Cx}
end
end L3
namespace L3
open PySem PySem.Spec PyProof.Rows L2 PySem.W
end L3
namespace L3
open PySem PySem.Spec L2
noncomputable abbrev dL (xs : List Int) : D := .lst (xs.map D.int)
noncomputable abbrev dR (rows : List (List Int)) : D := .lst (rows.map dL)
noncomputable abbrev dS (ns : List Int) : D := .ro (ns.map D.int)
@[simp] theorem nodes_int (i : Int) : (D.int i).nodes = 0 := rfl
@[simp] theorem nodes_bl (i : Bool) : (D.bl i).nodes = 0 := rfl
@[simp] theorem nodes_str (i : Str) : (D.str i).nodes = 0 := rfl
@[simp] theorem nodes_non : D.non.nodes = 0 := rfl
@[simp] theorem nodes_lst (ds : List D) : (D.lst ds).nodes = nodesL ds + 1 := by simp only [D.nodes]
@[simp] theorem nodes_ro (ds : List D) : (D.ro ds).nodes = nodesL ds := by simp only [D.nodes]
@[simp] theorem nodes_tup (ds : List D) : (D.tup ds).nodes = nodesL ds := by simp only [D.nodes]
@[simp] theorem nodesL_nil : nodesL [] = 0 := rfl
@[simp] theorem nodesL_cons (d : D) (ds : List D) : nodesL (d :: ds) = d.nodes + nodesL ds := by simp only [nodesL]
@[simp] theorem nodesL_ints (xs : List Int) : nodesL (xs.map D.int) = 0 := by induction xs with | nil => rfl | cons x xs ih => simp [ih]
theorem nodesL_bls {α : Type} (f : α → Bool) (xs : List α) : nodesL (xs.map fun x => D.bl (f x)) = 0 := by induction xs with | nil => rfl | cons x xs ih => simp [ih]
@[simp] theorem nodesL_append (xs ys : List D) : nodesL (xs ++ ys) = nodesL xs + nodesL ys := nodesL_app xs ys
@[simp] theorem intsD_ints (xs : List Int) : intsD (xs.map D.int) = some xs := by induction xs with | nil => rfl | cons x xs ih => simp [intsD, ih]
@[simp] theorem boolsD_bls (xs : List Bool) : boolsD (xs.map D.bl) = some xs := by induction xs with | nil => rfl | cons x xs ih => simp [boolsD, ih]
@[simp] theorem lvlI_int (l : Nat) (i : Int) : lvlI l (.int i) = 2 := rfl
@[simp] theorem lvlI_two (d : D) : lvlI 2 d = 2 := by unfold lvlI; rw [if_pos (.inr (Nat.le_refl _))]
@[simp] theorem lvlI_zeroL (ds : List D) : lvlI 0 (.lst ds) = 0 := by unfold lvlI; simp
@[simp] theorem dropS_nil' (e : PEnv) : dropS [] e = e := dropS_nil e
@[simp] theorem deq_int (i j : Int) : deq (.int i) (.int j) = decide (i = j) := by
  simp only [deq]
  by_cases h : i = j <;> simp [h]
@[simp] theorem deq_bl (i j : Bool) : deq (.bl i) (.bl j) = decide (i = j) := by
  simp only [deq]
  by_cases h : i = j <;> simp [h]
@[simp] theorem deq_str (i j : Str) : deq (.str i) (.str j) = decide (i = j) := by
  simp only [deq]
  by_cases h : i = j <;> simp [h]
theorem deqs_ints : ∀ xs ys : List Int, deqs (xs.map D.int) (ys.map D.int) = decide (xs = ys)
  | [], [] => by simp [deqs]
  | [], _ :: _ => by simp [deqs]
  | _ :: _, [] => by simp [deqs]
  | x :: xs, y :: ys => by
    simp only [List.map_cons, deqs, deq_int, deqs_ints xs ys]
    by_cases h : x = y <;> simp [h]
@[simp] theorem deq_dL (xs ys : List Int) : deq (dL xs) (dL ys) = decide (xs = ys) := by simp only [deq]; exact deqs_ints xs ys
theorem deqs_rows : ∀ xs ys : List (List Int), deqs (xs.map dL) (ys.map dL) = decide (xs = ys)
  | [], [] => by simp [deqs]
  | [], _ :: _ => by simp [deqs]
  | _ :: _, [] => by simp [deqs]
  | x :: xs, y :: ys => by
    rw [List.map_cons, List.map_cons]
    simp only [deqs]
    rw [deq_dL, deqs_rows xs ys]
    by_cases h : x = y <;> simp [h]
@[simp] theorem deq_dR (xs ys : List (List Int)) : deq (dR xs) (dR ys) = decide (xs = ys) := by simp only [deq]; exact deqs_rows xs ys
@[simp] theorem cmpN_int (n : Nat) (i j : Int) : cmpN n (.int i) (.int j) = true := by cases n <;> simp [cmpN, flatD]
theorem cmpN_dL (n : Nat) (xs ys : List Int) : cmpN (n + 1) (dL xs) (dL ys) = true := by
  simp only [cmpN, Bool.or_eq_true, List.all_eq_true]
  right
  intro p hp
  obtain ⟨h1, h2⟩ := List.of_mem_zip hp
  obtain ⟨a, _, ha⟩ := List.mem_map.mp h1
  obtain ⟨b, _, hb⟩ := List.mem_map.mp h2
  rw [← ha, ← hb]
  simp
theorem cmpN_dR (n : Nat) (xs ys : List (List Int)) : cmpN (n + 2) (dR xs) (dR ys) = true := by
  simp only [cmpN, Bool.or_eq_true, List.all_eq_true]
  right
  intro p hp
  obtain ⟨h1, h2⟩ := List.of_mem_zip hp
  obtain ⟨a, _, ha⟩ := List.mem_map.mp h1
  obtain ⟨b, _, hb⟩ := List.mem_map.mp h2
  rw [← ha, ← hb]
  exact cmpN_dL n a b
@[simp] theorem gEq_int (neg : Bool) (i j : Int) : gEq neg (.int i) (.int j) = some (.bl (if neg then !decide (i = j) else decide (i = j))) := by simp [gEq, mixed]
@[simp] theorem gEq_bl (neg : Bool) (i j : Bool) : gEq neg (.bl i) (.bl j) = some (.bl (if neg then !decide (i = j) else decide (i = j))) := by simp [gEq, mixed, cmpN, flatD]
@[simp] theorem gEq_str (neg : Bool) (i j : Str) : gEq neg (.str i) (.str j) = some (.bl (if neg then !decide (i = j) else decide (i = j))) := by simp [gEq, mixed, cmpN, flatD]
@[simp] theorem gEq_dL (neg : Bool) (i j : List Int) : gEq neg (dL i) (dL j) = some (.bl (if neg then !decide (i = j) else decide (i = j))) := by
  simp only [gEq, cmpN_dL 5, mixed, deq_dL, Bool.not_false, Bool.and_self, if_true]
@[simp] theorem gEq_dR (neg : Bool) (i j : List (List Int)) : gEq neg (dR i) (dR j) = some (.bl (if neg then !decide (i = j) else decide (i = j))) := by
  simp only [gEq, cmpN_dR 4, mixed, deq_dR, Bool.not_false, Bool.and_self, if_true]
theorem compGo_map {j l : Nat} {inn : PEnv} {ft : FT} {fe : FE} {α : Type} (f : α → D) (φ : α → Val) : ∀ (xs : List α), (∀ x ∈ xs, ∃ e, ft (inn.set j (some (f x, lvlI l (f x)))) = some (true, e) ∧ (fe e).map Prod.fst = some (φ x)) → compGo j l inn ft fe (xs.map f) = some (xs.map φ)
  | [], _ => rfl
  | x :: xs, h => by
    obtain ⟨e, h1, h2⟩ := h x List.mem_cons_self
    rw [Option.map_eq_some_iff] at h2
    obtain ⟨⟨y, e'⟩, h2, h3⟩ := h2
    have h3 : y = φ x := h3
    subst h3
    simp only [List.map_cons, compGo, h1, h2, Option.bind_some, if_true, compGo_map f φ xs fun y hy => h y (List.mem_cons_of_mem _ hy)]
theorem compGo_filter {j l : Nat} {inn : PEnv} {ft : FT} {fe : FE} {α : Type} (f : α → D) (p : α → Bool) (φ : α → Val) : ∀ (xs : List α), (∀ x ∈ xs, ∃ e, ft (inn.set j (some (f x, lvlI l (f x)))) = some (p x, e) ∧ (p x = true → (fe e).map Prod.fst = some (φ x))) → compGo j l inn ft fe (xs.map f) = some ((xs.filter p).map φ)
  | [], _ => rfl
  | x :: xs, h => by
    obtain ⟨e, h1, h2⟩ := h x List.mem_cons_self
    have ih := compGo_filter f p φ xs fun y hy => h y (List.mem_cons_of_mem _ hy)
    cases hp : p x with
    | true =>
      have h2 := h2 hp
      rw [Option.map_eq_some_iff] at h2
      obtain ⟨⟨y, e'⟩, h2, h3⟩ := h2
      have h3 : y = φ x := h3
      subst h3
      simp only [List.map_cons, compGo, h1, hp, h2, Option.bind_some, if_true, ih, List.filter_cons_of_pos hp]
    | false => simp only [List.map_cons, compGo, h1, hp, Option.bind_some, ih, List.filter_cons_of_neg (by simp [hp] : ¬ p x = true), Bool.false_eq_true, if_false]
theorem fComp_of {ix : List (Option Nat)} {j : Nat} {fi : FI} {ft : FT} {fe : FE} {env e1 : PEnv} {it : Items} {ys : List Val} (h1 : fi env = some (it, e1)) (h2 : compGo j it.l (inP ix e1) ft fe it.ds = some ys) (h3 : ys.length ≤ sizeLine) :
    fComp ix j fi ft fe env = some (lvL (ys.map Val.d) (ys.all fun y => decide (2 ≤ y.l)) (it.S ++ ix.filterMap id), e1) := by
  simp only [fComp, h1, h2, Option.bind_some, h3, if_true]
theorem fComp_ints {ix : List (Option Nat)} {j l : Nat} {fi : FI} {ft : FT} {fe : FE} {env e1 : PEnv} {S : List Nat} {α : Type} (f : α → D) (g : α → Int) (xs : List α) (h1 : fi env = some (⟨xs.map f, l, S⟩, e1)) (h3 : xs.length ≤ sizeLine)
    (h : ∀ x ∈ xs, ∃ e, ft ((inP ix e1).set j (some (f x, lvlI l (f x)))) = some (true, e) ∧ (fe e).map Prod.fst = some ⟨.int (g x), 2, []⟩) : fComp ix j fi ft fe env = some (⟨dL (xs.map g), 2, []⟩, e1) := by
  rw [fComp_of h1 (compGo_map f (fun x => ⟨.int (g x), 2, []⟩) xs h) (by simpa using h3)]
  have : (xs.map fun x => (⟨.int (g x), 2, []⟩ : Val)).map Val.d = (xs.map g).map D.int := by simp [Function.comp_def]
  rw [this]
  unfold lvL
  rw [if_pos (.inl (nodesL_ints _))]
theorem fComp_intsF {ix : List (Option Nat)} {j l : Nat} {fi : FI} {ft : FT} {fe : FE} {env e1 : PEnv} {S : List Nat} {α : Type} (f : α → D) (p : α → Bool) (g : α → Int) (xs : List α) (h1 : fi env = some (⟨xs.map f, l, S⟩, e1)) (h3 : xs.length ≤ sizeLine)
    (h : ∀ x ∈ xs, ∃ e, ft ((inP ix e1).set j (some (f x, lvlI l (f x)))) = some (p x, e) ∧ (p x = true → (fe e).map Prod.fst = some ⟨.int (g x), 2, []⟩)) : fComp ix j fi ft fe env = some (⟨dL ((xs.filter p).map g), 2, []⟩, e1) := by
  rw [fComp_of h1 (compGo_filter f p (fun x => ⟨.int (g x), 2, []⟩) xs h) (by have := List.length_filter_le p xs; simp; omega)]
  have : ((xs.filter p).map fun x => (⟨.int (g x), 2, []⟩ : Val)).map Val.d = ((xs.filter p).map g).map D.int := by simp [Function.comp_def]
  rw [this]
  unfold lvL
  rw [if_pos (.inl (nodesL_ints _))]
theorem fComp_bls {ix : List (Option Nat)} {j l : Nat} {fi : FI} {ft : FT} {fe : FE} {env e1 : PEnv} {S : List Nat} {α : Type} (f : α → D) (g : α → Bool) (xs : List α) (h1 : fi env = some (⟨xs.map f, l, S⟩, e1)) (h3 : xs.length ≤ sizeLine)
    (h : ∀ x ∈ xs, ∃ e, ft ((inP ix e1).set j (some (f x, lvlI l (f x)))) = some (true, e) ∧ (fe e).map Prod.fst = some ⟨.bl (g x), 2, []⟩) : fComp ix j fi ft fe env = some (⟨.lst ((xs.map g).map D.bl), 2, []⟩, e1) := by
  rw [fComp_of h1 (compGo_map f (fun x => ⟨.bl (g x), 2, []⟩) xs h) (by simpa using h3)]
  have : (xs.map fun x => (⟨.bl (g x), 2, []⟩ : Val)).map Val.d = (xs.map g).map D.bl := by simp [Function.comp_def]
  rw [this]
  unfold lvL
  rw [if_pos (.inl (nodesL_bls id _))]
theorem fComp_rows {ix : List (Option Nat)} {j l : Nat} {fi : FI} {ft : FT} {fe : FE} {env e1 : PEnv} {S : List Nat} {α : Type} (f : α → D) (g : α → List Int) (xs : List α) (h1 : fi env = some (⟨xs.map f, l, S⟩, e1)) (h3 : xs.length ≤ sizeLine)
    (h : ∀ x ∈ xs, ∃ e, ft ((inP ix e1).set j (some (f x, lvlI l (f x)))) = some (true, e) ∧ (fe e).map Prod.fst = some ⟨dL (g x), 2, []⟩) : fComp ix j fi ft fe env = some (⟨dR (xs.map g), 2, []⟩, e1) := by
  rw [fComp_of h1 (compGo_map f (fun x => ⟨dL (g x), 2, []⟩) xs h) (by simpa using h3)]
  have : (xs.map fun x => (⟨dL (g x), 2, []⟩ : Val)).map Val.d = (xs.map g).map dL := by simp [Function.comp_def]
  rw [this]
  unfold lvL
  rw [if_pos (.inr (by simp))]
theorem forGo_inv {i l : Nat} {fb : FS} {α : Type} (f : α → D) (xs : List α) (J : List α → PEnv → Prop)
    (h : ∀ pre x post, xs = pre ++ x :: post → ∀ e, J pre e → ∃ e', (fb (e.set i (some (f x, lvlI l (f x)))) = some (.next e') ∨ fb (e.set i (some (f x, lvlI l (f x)))) = some (.cont e')) ∧ J (pre ++ [x]) e') :
    ∀ e, J [] e → ∃ e', forGo i l fb (xs.map f) e = some (.next e') ∧ J xs e' := by
  have go : ∀ (post pre : List α), xs = pre ++ post → ∀ e, J pre e → ∃ e', forGo i l fb (post.map f) e = some (.next e') ∧ J xs e' := by
    intro post
    induction post with
    | nil => intro pre e1 e hJ; exact ⟨e, rfl, by rw [e1, List.append_nil]; exact hJ⟩
    | cons x post ih =>
      intro pre e1 e hJ
      obtain ⟨e', he, hJ'⟩ := h pre x post e1 e hJ
      obtain ⟨e2, h2, h3⟩ := ih (pre ++ [x]) (by rw [e1]; simp) e' hJ'
      refine ⟨e2, ?_, h3⟩
      rcases he with he | he <;> simp only [List.map_cons, forGo, he, Option.bind_some, h2]
  intro e hJ
  exact go xs [] rfl e hJ
theorem forGo_find {i l : Nat} {fb : FS} {α : Type} (f : α → D) (p : α → Bool) (r : Val) (J : PEnv → Prop) : ∀ (xs : List α), (∀ x ∈ xs, ∀ e, J e → (p x = true → ∃ e', (fb (e.set i (some (f x, lvlI l (f x)))) = some (.next e') ∨ fb (e.set i (some (f x, lvlI l (f x)))) = some (.cont e')) ∧ J e') ∧ (p x = false → fb (e.set i (some (f x, lvlI l (f x)))) = some (.ret r))) →
    ∀ e, J e → (xs.all p = true → ∃ e', forGo i l fb (xs.map f) e = some (.next e') ∧ J e') ∧ (xs.all p = false → forGo i l fb (xs.map f) e = some (.ret r))
  | [], _, e, hJ => ⟨fun _ => ⟨e, rfl, hJ⟩, fun h => by simp at h⟩
  | x :: xs, h, e, hJ => by
    obtain ⟨h1, h2⟩ := h x List.mem_cons_self e hJ
    cases hp : p x with
    | false =>
      refine ⟨fun z => by simp [hp] at z, fun _ => ?_⟩
      simp only [List.map_cons, forGo, h2 hp, Option.bind_some]
    | true =>
      obtain ⟨e', he, hJ'⟩ := h1 hp
      obtain ⟨i1, i2⟩ := forGo_find f p r J xs (fun y hy => h y (List.mem_cons_of_mem _ hy)) e' hJ'
      have ev : forGo i l fb ((x :: xs).map f) e = forGo i l fb (xs.map f) e' := by
        rcases he with he | he <;> simp only [List.map_cons, forGo, he, Option.bind_some]
      rw [ev]
      simp only [List.all_cons, hp, Bool.true_and]
      exact ⟨i1, i2⟩
@[simp] theorem ev_fSeq (f g : FS) (e : PEnv) : fSeq f g e = (f e).bind fun o => match o with | .next e => g e | o => some o := rfl
@[simp] theorem ev_fNext (e : PEnv) : fNext e = some (.next e) := rfl
@[simp] theorem ev_fRet (f : FE) (e : PEnv) : fRet f e = (f e).bind fun (x, _) => some (.ret x) := rfl
@[simp] theorem ev_fIfS (t : FT) (f g : FS) (e : PEnv) : fIfS t f g e = (t e).bind fun (b, e) => if b = true then f e else g e := rfl
@[simp] theorem ev_fSet (i : Nat) (f : FE) (e : PEnv) : fSet i f e = (f e).bind fun (x, e') => if i < e.length then some (.next ((dropS x.S e').set i (some (x.d, x.l)))) else none := rfl
@[simp] theorem ev_fC (d : D) (e : PEnv) : fC d e = some (⟨d, 2, []⟩, e) := rfl
@[simp] theorem ev_fB (g : D → D → Option D) (f h : FE) (e : PEnv) : fB g f h e = (f e).bind fun (x, e1) => (h e1).bind fun (y, e2) => (g x.d y.d).bind fun z => some (⟨z, 2, []⟩, e2) := rfl
@[simp] theorem ev_fU (g : D → Option D) (f : FE) (e : PEnv) : fU g f e = (f e).bind fun (x, e1) => (g x.d).bind fun z => some (⟨z, 2, []⟩, e1) := rfl
@[simp] theorem ev_fV2 (g : Val → Val → Option Val) (f h : FE) (e : PEnv) : fV2 g f h e = (f e).bind fun (x, e1) => (h e1).bind fun (y, e2) => (g x y).bind fun z => some (z, e2) := rfl
@[simp] theorem ev_fN (g : List D → Option D) (f : FA) (e : PEnv) : fN g f e = (f e).bind fun (xs, e) => (g (xs.map Val.d)).bind fun z => some (⟨z, 2, []⟩, e) := rfl
@[simp] theorem ev_fNil (e : PEnv) : fNil e = some ([], e) := rfl
@[simp] theorem ev_fCons (f : FE) (g : FA) (e : PEnv) : fCons f g e = (f e).bind fun (x, e1) => (g e1).bind fun (xs, e2) => some (x :: xs, e2) := rfl
@[simp] theorem ev_fInts (ns : List Int) (e : PEnv) : fInts ns e = some (ns.map fun i => ⟨.int i, 2, []⟩, e) := rfl
@[simp] theorem ev_fCall (n : Nat) (g : FD) (f : FA) (e : PEnv) : fCall n g f e = (f e).bind fun (xs, e) => if xs.length = n then (g (xs.map Val.d)).bind fun (d, l) => some (⟨d, l, if l = 2 then [] else xs.flatMap Val.S⟩, e) else none := rfl
@[simp] theorem ev_fTst (f : FE) (e : PEnv) : fTst f e = (f e).bind fun (x, e) => match x.d with | .bl b => some (b, e) | _ => none := rfl
@[simp] theorem ev_fTru (f : FE) (e : PEnv) : fTru f e = (f e).bind fun (x, e) => (truD x.d).map fun b => (b, e) := rfl
@[simp] theorem ev_fNotT (f : FT) (e : PEnv) : fNotT f e = (f e).map fun (b, e) => (!b, e) := rfl
@[simp] theorem ev_fAndT (f g : FT) (e : PEnv) : fAndT f g e = (f e).bind fun (b, e) => if b = true then g e else some (false, e) := rfl
@[simp] theorem ev_fOrT (f g : FT) (e : PEnv) : fOrT f g e = (f e).bind fun (b, e) => if b = true then some (true, e) else g e := rfl
@[simp] theorem ev_fAnd (f g : FE) (e : PEnv) : fAnd f g e = (f e).bind fun (x, e) => match x.d with | .bl true => g e | .bl false => some (⟨.bl false, 2, []⟩, e) | _ => none := rfl
@[simp] theorem ev_fOr (f g : FE) (e : PEnv) : fOr f g e = (f e).bind fun (x, e) => match x.d with | .bl false => g e | .bl true => some (⟨.bl true, 2, []⟩, e) | _ => none := rfl
@[simp] theorem ev_fNot (f : FE) (e : PEnv) : fNot f e = (f e).bind fun (x, e) => match x.d with | .bl b => some (⟨.bl (!b), 2, []⟩, e) | _ => none := rfl
@[simp] theorem ev_fIf (t : FT) (f g : FE) (e : PEnv) : fIf t f g e = (t e).bind fun (b, e) => if b = true then f e else g e := rfl
@[simp] theorem ev_fYes (e : PEnv) : fYes e = some (true, e) := rfl
@[simp] theorem ev_fIx (f g : FE) (e : PEnv) : fIx f g e = (f e).bind fun (x, e1) => (g e1).bind fun (y, e2) => match y.d with | .int i => (ixD i x.d).map fun d => (lvI x d, e2) | _ => none := rfl
@[simp] theorem ev_fiL (f : FE) (e : PEnv) : fiL f e = (f e).bind fun (x, e) => match x.d with | .lst ds => some (⟨ds, x.l, x.S⟩, e) | _ => none := rfl
@[simp] theorem ev_fiR1 (f : FE) (e : PEnv) : fiR1 f e = (f e).bind fun (x, e) => match x.d with | .int j => if -1000 ≤ j ∧ j < 1000 then some (⟨rangeD 0 j.toNat, 2, []⟩, e) else none | _ => none := rfl
@[simp] theorem ev_fiR2 (f g : FE) (e : PEnv) : fiR2 f g e = (f e).bind fun (x, e1) => (g e1).bind fun (y, e) => match x.d, y.d with | .int i, .int j => if -1000 ≤ i ∧ i < 1000 ∧ -1000 ≤ j ∧ j < 1000 then some (⟨rangeD i (j - i).toNat, 2, []⟩, e) else none | _, _ => none := rfl
@[simp] theorem ev_fFor (i : Nat) (fi : FI) (fb : FS) (e : PEnv) : fFor i fi fb e = (fi e).bind fun (it, e1) => if i < e.length then forGo i it.l fb it.ds (dropS it.S e1) else none := rfl
@[simp] theorem ev_fList (f : FA) (e : PEnv) : fList f e = (f e).bind fun (xs, e) => match xs with | [x] => (seqD x.d).map fun ds => (lvL ds (decide (2 ≤ x.l)) x.S, e) | _ => none := rfl
@[simp] theorem ev_fLst (f : FA) (e : PEnv) : fLst f e = (f e).bind fun (xs, e1) => if xs.length ≤ sizeLine then some (lvL (xs.map Val.d) (xs.all fun x => decide (2 ≤ x.l)) (xs.flatMap Val.S), e1) else none := rfl
@[simp] theorem ev_fTup (f : FA) (e : PEnv) : fTup f e = (f e).bind fun (xs, e1) => if xs.length ≤ sizeLine then some (if (xs.all fun x => decide (2 ≤ x.l)) = true then ⟨.tup (xs.map Val.d), 2, []⟩ else ⟨.tup (xs.map Val.d), 0, xs.flatMap Val.S⟩, e1) else none := rfl
@[simp] theorem ev_fChain (g g' : D → D → Option D) (fa fb fc : FE) (e : PEnv) : fChain g g' fa fb fc e = (fa e).bind fun (x, e1) => (fb e1).bind fun (y, e2) => match g x.d y.d with | some (.bl true) => (fc e2).bind fun (z, e3) => (g' y.d z.d).bind fun w => some (⟨w, 2, []⟩, e3) | some (.bl false) => some (⟨.bl false, 2, []⟩, e2) | _ => none := rfl
@[simp] theorem ev_fVar (i : Nat) (e : PEnv) : fVar i e = match e[i]? with | some (some (d, _)) => some (if d.nodes = 0 then ⟨d, 2, []⟩ else ⟨d, 0, [i]⟩, e) | _ => none := rfl
@[simp] theorem ev_fMv (i : Nat) (e : PEnv) : fMv i e = match e[i]? with | some (some (d, l)) => some (if l = 2 then (⟨d, 2, []⟩, e.set i none) else (if d.nodes = 0 then ⟨d, 2, []⟩ else ⟨d, 0, [i]⟩, e)) | _ => none := rfl
@[simp] theorem gI_int (g : Int → Int → Int) (i j : Int) : gI g (.int i) (.int j) = some (.int (g i j)) := rfl
@[simp] theorem gIc_int (c : Int → Int → Bool) (g : Int → Int → Int) (i j : Int) : gIc c g (.int i) (.int j) = if c i j then some (.int (g i j)) else none := rfl
@[simp] theorem gB_int (g : Int → Int → Bool) (i j : Int) : gB g (.int i) (.int j) = some (.bl (g i j)) := rfl
@[simp] theorem gNeg_int (i : Int) : gNeg (.int i) = some (.int (-i)) := rfl
@[simp] theorem gLen_lst (ds : List D) : gLen [.lst ds] = some (.int ds.length) := rfl
@[simp] theorem gLen_ro (ds : List D) : gLen [.ro ds] = some (.int ds.length) := rfl
@[simp] theorem gMax_ii (i j : Int) : gMax [.int i, .int j] = some (.int (if j > i then j else i)) := rfl
@[simp] theorem gMin_ii (i j : Int) : gMin [.int i, .int j] = some (.int (if j < i then j else i)) := rfl
@[simp] theorem gAll_bls (bs : List Bool) : gAll [.lst (bs.map D.bl)] = some (.bl (bs.all id)) := by simp [gAll]
@[simp] theorem gSum_ints (bs : List Int) : gSum [dL bs] = some (.int bs.sum) := by simp [gSum]
@[simp] theorem addD_int (i j : Int) (l l' : Nat) (S S' : List Nat) : addD ⟨.int i, l, S⟩ ⟨.int j, l', S'⟩ = some ⟨.int (i + j), 2, []⟩ := rfl
@[simp] theorem mulD_int (i j : Int) (l l' : Nat) (S S' : List Nat) : mulD ⟨.int i, l, S⟩ ⟨.int j, l', S'⟩ = if cMul i j then some ⟨.int (i * j), 2, []⟩ else none := rfl
@[simp] theorem truD_bl (b : Bool) : truD (.bl b) = some b := rfl
@[simp] theorem seqD_lst (ds : List D) : seqD (.lst ds) = some ds := rfl
@[simp] theorem ixD_lst (i : Int) (ds : List D) : ixD i (.lst ds) = atI ds i := rfl
@[simp] theorem ixD_ro (i : Int) (ds : List D) : ixD i (.ro ds) = atI ds i := rfl
@[simp] theorem lvI_flat (x : Val) (i : Int) : lvI x (.int i) = ⟨.int i, 2, []⟩ := rfl
theorem lvL_ints (xs : List Int) (b : Bool) (S : List Nat) : lvL (xs.map D.int) b S = ⟨dL xs, 2, []⟩ := by unfold lvL; rw [if_pos (.inl (nodesL_ints xs))]
theorem lvL_two (ds : List D) (S : List Nat) : lvL ds true S = ⟨.lst ds, 2, []⟩ := by unfold lvL; rw [if_pos (.inr rfl)]
@[simp] theorem lvL_nil (b : Bool) (S : List Nat) : lvL [] b S = ⟨.lst [], 2, []⟩ := by unfold lvL; rw [if_pos (.inl rfl)]
theorem atI_of {α : Type} {xs : List α} {i : Int} (h0 : 0 ≤ i) (h : i < xs.length) (x : α) (hx : xs[i.toNat]? = some x) : atI xs i = some x := by
  unfold atI ixN
  rw [if_pos h0, if_pos h]
  exact hx
noncomputable def itm (r : List Int) (j : Int) : Int := r.getD j.toNat 0
noncomputable def row (rows : List (List Int)) (k : Int) : List Int := rows.getD k.toNat []
theorem atI_ints {xs : List Int} {i : Int} (h0 : 0 ≤ i) (h : i < xs.length) : atI (xs.map D.int) i = some (.int (itm xs i)) := by
  unfold itm
  have hi : i.toNat < xs.length := by omega
  refine atI_of h0 (by simpa using h) _ ?_
  rw [List.getElem?_map, List.getElem?_eq_getElem hi, List.getD_eq_getElem?_getD, List.getElem?_eq_getElem hi]
  rfl
theorem atI_rows {xs : List (List Int)} {i : Int} (h0 : 0 ≤ i) (h : i < xs.length) : atI (xs.map dL) i = some (dL (row xs i)) := by
  unfold row
  have hi : i.toNat < xs.length := by omega
  refine atI_of h0 (by simpa using h) _ ?_
  rw [List.getElem?_map, List.getElem?_eq_getElem hi, List.getD_eq_getElem?_getD, List.getElem?_eq_getElem hi]
  rfl
theorem rangeD_map (lo : Int) (n : Nat) : rangeD lo n = ((List.range n).map fun i : Nat => lo + (i : Int)).map D.int := by unfold rangeD; simp
end L3
namespace L3
open PySem PySem.Spec L2
theorem fSeq_next {f g : FS} {e e' : PEnv} (h : f e = some (.next e')) : fSeq f g e = g e' := by unfold fSeq; rw [h]; rfl
theorem fSeq_ret {f g : FS} {e : PEnv} {x : Val} (h : f e = some (.ret x)) : fSeq f g e = some (.ret x) := by unfold fSeq; rw [h]; rfl
theorem fFor_of {i : Nat} {fi : FI} {fb : FS} {e e1 : PEnv} {it : Items} (h : fi e = some (it, e1)) (hi : i < e.length) : fFor i fi fb e = forGo i it.l fb it.ds (dropS it.S e1) := by unfold fFor; rw [h]; simp only [Option.bind_some, if_pos hi]
theorem fiR1_of {f : FE} {e e1 : PEnv} {n l : Nat} {S : List Nat} (h : f e = some (⟨.int (n : Int), l, S⟩, e1)) (hn : n < 1000) : fiR1 f e = some (⟨(List.range n).map fun i : Nat => .int (i : Int), 2, []⟩, e1) := by
  unfold fiR1
  rw [h]
  have hb : (-1000 : Int) ≤ (n : Int) ∧ (n : Int) < 1000 := by omega
  simp only [Option.bind_some, if_pos hb, rangeD, Int.toNat_natCast, Int.zero_add]
noncomputable def insAt (xs : List Int) (k : Nat) (x : Int) : List Int := xs.take k ++ x :: xs.drop k
theorem insD_ints (xs : List Int) (k : Nat) (x : Int) : insD (xs.map D.int) k (.int x) = (insAt xs k x).map D.int := by
  unfold insD insAt
  simp [List.map_take, List.map_drop]
theorem insAt_perm (xs : List Int) (k : Nat) (x : Int) : (insAt xs k x).Perm (xs ++ [x]) := by
  unfold insAt
  have h1 : (xs.take k ++ x :: xs.drop k).Perm (x :: (xs.take k ++ xs.drop k)) := List.perm_middle
  rw [List.take_append_drop] at h1
  exact h1.trans (List.perm_append_singleton x xs).symm
theorem ownL_of {i : Nat} {env : PEnv} {ds : List D} {l : Nat} (h : env[i]? = some (some (.lst ds, l))) (hl : 1 ≤ l) : ownL i env = some (ds, l) := by
  unfold ownL
  rw [h]
  simp [hl]
theorem fIns_ints {i : Nat} {f f' : FE} {env env1 env2 : PEnv} {k x : Int} {xs : List Int} {l lz : Nat} {Sz S : List Nat} (h0 : env[i]? = some (some (dL xs, l))) (hl : 1 ≤ l) (h1 : f env = some (⟨.int k, lz, Sz⟩, env1)) (h2 : f' env1 = some (⟨.int x, 2, S⟩, env2)) (h3 : env2[i]? = some (some (dL xs, l)))
    (hk : 0 ≤ k) (hk' : k ≤ xs.length) (hs : xs.length < sizeLine) : fIns i f f' env = some (.next (env2.set i (some (dL (insAt xs k.toNat x), l)))) := by
  simp only [fIns, ownL_of h0 hl, h1, h2, ownL_of h3 hl, Option.isSome_some, if_true, Option.bind_some, List.length_map]
  rw [if_pos ⟨hk, hk', Nat.le_refl _, hs⟩, insD_ints]
theorem fApp_int {i : Nat} {f : FE} {env env1 : PEnv} {x : Int} {xs : List Int} {l : Nat} {S : List Nat} (h0 : env[i]? = some (some (dL xs, l))) (hl : 1 ≤ l) (h1 : f env = some (⟨.int x, 2, S⟩, env1)) (h3 : env1[i]? = some (some (dL xs, l))) (hs : xs.length < sizeLine) :
    fApp i f env = some (.next (env1.set i (some (dL (xs ++ [x]), l)))) := by
  simp only [fApp, ownL_of h0 hl, h1, ownL_of h3 hl, Option.isSome_some, if_true, Option.bind_some, List.length_map]
  rw [if_pos ⟨Nat.le_refl _, hs⟩]
  simp only [dL, List.map_append, List.map_cons, List.map_nil]
theorem fApp_row {i : Nat} {f : FE} {env env1 : PEnv} {x : List Int} {xs : List (List Int)} {l : Nat} {S : List Nat} (h0 : env[i]? = some (some (dR xs, l))) (hl : 1 ≤ l) (h1 : f env = some (⟨dL x, 2, S⟩, env1)) (h3 : env1[i]? = some (some (dR xs, l))) (hs : xs.length < sizeLine) :
    fApp i f env = some (.next (env1.set i (some (dR (xs ++ [x]), l)))) := by
  simp only [fApp, ownL_of h0 hl, h1, ownL_of h3 hl, Option.isSome_some, if_true, Option.bind_some, List.length_map]
  rw [if_pos ⟨Nat.le_refl _, hs⟩]
  simp only [dR, List.map_append, List.map_cons, List.map_nil]
theorem range_split {n : Nat} {pre post : List Nat} {x : Nat} (h : List.range n = pre ++ x :: post) : x = pre.length ∧ pre.length < n ∧ pre = List.range pre.length := by
  have h1 : (List.range n)[pre.length]? = some x := by rw [h]; simp
  have hl : pre.length < n := by have := congrArg List.length h; simp at this; omega
  rw [List.getElem?_range hl] at h1
  refine ⟨(Option.some.inj h1).symm, hl, ?_⟩
  have h2 := congrArg (List.take pre.length) h
  rw [List.take_left' rfl, List.take_range, Nat.min_eq_left (by omega)] at h2
  exact h2.symm
theorem cMul_r {a b : Int} (h : b = 1 ∨ b = -1) : cMul a b = true := by
  unfold cMul
  simp only [Bool.or_eq_true, Bool.and_eq_true, decide_eq_true_eq]
  omega
theorem cMul_l {a b : Int} (h0 : -100000 ≤ a) (h : a ≤ 100000) : cMul a b = true := by
  unfold cMul
  simp only [Bool.or_eq_true, Bool.and_eq_true, decide_eq_true_eq]
  omega
theorem cMul_r2 {a b : Int} (h0 : -100000 ≤ b) (h : b ≤ 100000) : cMul a b = true := by
  unfold cMul
  simp only [Bool.or_eq_true, Bool.and_eq_true, decide_eq_true_eq]
  omega
@[simp] theorem addD_dL (xs ys : List Int) (l l' : Nat) (S S' : List Nat) : addD ⟨dL xs, l, S⟩ ⟨dL ys, l', S'⟩ = if xs.length + ys.length ≤ sizeLine then some ⟨dL (xs ++ ys), 2, []⟩ else none := by
  have : lvL (xs.map D.int ++ ys.map D.int) (decide (2 ≤ l) && decide (2 ≤ l')) (S ++ S') = ⟨dL (xs ++ ys), 2, []⟩ := by rw [← List.map_append, lvL_ints]
  simp only [addD, List.length_map, this]
@[simp] theorem addD_dR (xs ys : List (List Int)) (S S' : List Nat) : addD ⟨dR xs, 2, S⟩ ⟨dR ys, 2, S'⟩ = if xs.length + ys.length ≤ sizeLine then some ⟨dR (xs ++ ys), 2, []⟩ else none := by
  have : lvL (xs.map dL ++ ys.map dL) (decide (2 ≤ 2) && decide (2 ≤ 2)) (S ++ S') = ⟨dR (xs ++ ys), 2, []⟩ := by
    rw [← List.map_append]
    exact lvL_two _ _
  simp only [addD, List.length_map, this]
@[simp] theorem lvI_row (l : Nat) (S : List Nat) (d : D) (r : List Int) : lvI ⟨d, l, S⟩ (dL r) = if 2 ≤ l then ⟨dL r, 2, []⟩ else ⟨dL r, 0, S⟩ := by
  unfold lvI
  simp
end L3
namespace L3
open PySem PySem.Spec L2
theorem zip_ints : ∀ (xs ys : List Int), (xs.map D.int).zip (ys.map D.int) = (xs.zip ys).map fun q => (D.int q.1, D.int q.2)
  | [], _ => by simp
  | _ :: _, [] => by simp
  | x :: xs, y :: ys => by simp [zip_ints xs ys]
theorem zipGo_ints {j1 j2 : Nat} {inn : PEnv} {ft : FT} {fe : FE} (p : Int × Int → Bool) (g : Int × Int → Int) : ∀ (ps : List (Int × Int)), (∀ q ∈ ps, ∃ e, ft ((inn.set j1 (some (.int q.1, 2))).set j2 (some (.int q.2, 2))) = some (p q, e) ∧ (p q = true → (fe e).map Prod.fst = some ⟨.int (g q), 2, []⟩)) →
    zipGo j1 j2 inn ft fe (ps.map fun q => (D.int q.1, D.int q.2)) = some (((ps.filter p).map g).map D.int)
  | [], _ => rfl
  | q :: ps, h => by
    obtain ⟨e, h1, h2⟩ := h q List.mem_cons_self
    have ih := zipGo_ints p g ps fun r hr => h r (List.mem_cons_of_mem _ hr)
    rw [List.map_cons]
    unfold zipGo
    rw [if_pos ⟨rfl, rfl⟩]
    cases hp : p q with
    | true =>
      have h2 := h2 hp
      rw [Option.map_eq_some_iff] at h2
      obtain ⟨⟨y, e'⟩, h2, h3⟩ := h2
      have h3 : y = ⟨.int (g q), 2, []⟩ := h3
      subst h3
      simp only [h1, hp, h2, Option.bind_some, if_true, ih, List.filter_cons_of_pos hp, nodes_int, List.map_cons]
    | false => simp only [h1, hp, Option.bind_some, ih, List.filter_cons_of_neg (by simp [hp] : ¬ p q = true), Bool.false_eq_true, if_false]
theorem fZip_ints {ix : List (Option Nat)} {j1 j2 : Nat} {fa fb : FE} {ft : FT} {fe : FE} {env e1 e2 : PEnv} {xs ys : List Int} {l l' : Nat} {S S' : List Nat} (p : Int × Int → Bool) (g : Int × Int → Int) (ha : fa env = some (⟨dL xs, l, S⟩, e1)) (hb : fb e1 = some (⟨dL ys, l', S'⟩, e2)) (hl : xs.length ≤ 1000)
    (h : ∀ q ∈ xs.zip ys, ∃ e, ft (((inP ix e2).set j1 (some (.int q.1, 2))).set j2 (some (.int q.2, 2))) = some (p q, e) ∧ (p q = true → (fe e).map Prod.fst = some ⟨.int (g q), 2, []⟩)) :
    fZip ix j1 j2 fa fb ft fe env = some (⟨dL (((xs.zip ys).filter p).map g), 2, []⟩, e2) := by
  have hlen : ((((xs.zip ys).filter p).map g).map D.int).length ≤ sizeLine := by
    have h1 := List.length_filter_le p (xs.zip ys)
    rw [List.length_zip] at h1
    rw [List.length_map, List.length_map, PySem.sizeLine_eq]
    omega
  unfold fZip
  rw [ha]
  simp only [Option.bind_some, hb, zip_ints, zipGo_ints p g (xs.zip ys) h, if_pos hlen]
@[simp] theorem isi_list (ds : List D) : isiD "list" (.lst ds) = some (.bl true) := rfl
@[simp] theorem isi_bool (b : Bool) : isiD "bool" (.bl b) = some (.bl true) := rfl
@[simp] theorem isi_boolI (i : Int) : isiD "bool" (.int i) = some (.bl false) := rfl
@[simp] theorem isi_int (i : Int) : isiD "int" (.int i) = some (.bl true) := rfl
@[simp] theorem isi_listS (x : Str) : isiD "list" (.str x) = some (.bl false) := rfl
@[simp] theorem gAll_comp {α : Type} (p : α → Bool) (r : List α) : gAll [.lst (List.map (D.bl ∘ p) r)] = some (.bl (r.all p)) := by
  have := gAll_bls (r.map p)
  rw [List.map_map, List.all_map] at this
  exact this
theorem gIn_pair (x a b : Int) : gIn false (.int x) (.tup [.int a, .int b]) = some (.bl (decide (a = x) || decide (b = x))) := by
  simp [gIn, seqD, flatD]
end L3
namespace L3
open PySem PySem.Spec L2
theorem ixN_of {n : Nat} {i : Int} (h0 : 0 ≤ i) (h : i < n) : ixN n i = some i.toNat := by
  unfold ixN
  rw [if_pos h0, if_pos h]
theorem get_row {rows : List (List Int)} {k : Int} (h0 : 0 ≤ k) (h : k < rows.length) : rows[k.toNat]? = some (row rows k) := by
  have hk : k.toNat < rows.length := by omega
  unfold row
  rw [List.getD_eq_getElem?_getD, List.getElem?_eq_getElem hk]
  rfl
theorem inn2_of {i : Nat} {env : PEnv} {rows : List (List Int)} {k : Int} (h : env[i]? = some (some (dR rows, 2))) (h0 : 0 ≤ k) (h1 : k < rows.length) : inn2 i k env = some (rows.map dL, k.toNat, (row rows k).map D.int) := by
  unfold inn2
  rw [h]
  simp only [List.length_map, ixN_of h0 h1, List.getElem?_map, get_row h0 h1, Option.map_some, nodesL_ints, if_true]
theorem fSto2_rows {i : Nat} {fk fm fe : FE} {env : PEnv} {rows : List (List Int)} {k m y : Int} {l l' l'' : Nat} {S S' S'' : List Nat} (h : env[i]? = some (some (dR rows, 2))) (he : fe env = some (⟨.int y, l, S⟩, env)) (hk : fk env = some (⟨.int k, l', S'⟩, env)) (hm : fm env = some (⟨.int m, l'', S''⟩, env))
    (h0 : 0 ≤ k) (h1 : k < rows.length) (h2 : 0 ≤ m) (h3 : m < (row rows k).length) : fSto2 i fk fm fe env = some (.next (env.set i (some (dR (rows.set k.toNat ((row rows k).set m.toNat y)), 2)))) := by
  unfold fSto2
  rw [he]
  simp only [Option.bind_some, ownL_of h (by decide : 1 ≤ 2), Option.isSome_some, if_true, hk, inn2_of h h0 h1, hm, List.length_map, ixN_of h2 h3, nodes_int]
  rw [dR, List.map_set, dL, List.map_set]
end L3
namespace FN
open PySem L2 L3
noncomputable def F_is_row  : FS :=
 (fRet (fAnd (fB (gEq false) (fN gLen (fCons (fVar 0) fNil)) (fVar 1)) (fN gAll (fCons (fComp [none] 0 (fiL (fMv 0)) fYes (fB (gIn false) (fVar 0) (fTup (fCons (fC (.int 1)) (fCons (fU gNeg (fC (.int 1))) fNil))))) fNil))))
noncomputable def G_is_row : FD := runF 2 (F_is_row )
noncomputable def F_is_square (g_is_row : FD) : FS :=
 (fSeq (fSet 1 (fN gLen (fCons (fVar 0) fNil)))
 (fRet (fAnd (fChain gLeI gLeI (fC (.int 1)) (fVar 1) (fC (.int 24))) (fN gAll (fCons (fComp [none, some 1] 0 (fiL (fMv 0)) fYes (fCall 2 g_is_row (fCons (fVar 0) (fCons (fVar 1) fNil)))) fNil)))))
noncomputable def G_is_square : FD := runF 2 (F_is_square G_is_row)
noncomputable def F__law_cell_at  : FS :=
 (fSeq (fIfS (fTst (fB gLtI (fVar 1) (fN gLen (fCons (fVar 0) fNil)))) (fRet (fIx (fVar 0) (fVar 1))) fNext)
 (fRet (fC (.int 0))))
noncomputable def G__law_cell_at : FD := runF 2 (F__law_cell_at )
noncomputable def F__law_stir  : FS :=
 (fSeq (fSet 0 (fB gModI (fV2 addD (fVar 0) (fC (.int 7919))) (fC (.int 2147483647))))
 (fRet (fB gModI (fV2 addD (fV2 addD (fV2 mulD (fVar 0) (fVar 0)) (fV2 mulD (fC (.int 48271)) (fVar 0))) (fC (.int 12345))) (fC (.int 2147483629)))))
noncomputable def G__law_stir : FD := runF 1 (F__law_stir )
noncomputable def F__law_doubled  : FS :=
 (fSeq (fSet 1 (fComp [none] 0 (fiL (fVar 0)) fYes (fV2 addD (fVar 0) (fMv 0))))
 (fRet (fV2 addD (fMv 1) (fComp [none] 0 (fiL (fMv 0)) fYes (fV2 addD (fVar 0) (fComp [none] 0 (fiL (fMv 0)) fYes (fU gNeg (fVar 0))))))))
noncomputable def G__law_doubled : FD := runF 2 (F__law_doubled )
noncomputable def B1__law_by_prime  : FS :=
 (fApp 4 (fIf (fTst (fB (gIn false) (fB gModI (fB gSubI (fVar 5) (fVar 3)) (fVar 0)) (fVar 1))) (fC (.int 1)) (fU gNeg (fC (.int 1)))))
noncomputable def B2__law_by_prime  : FS :=
 (fSeq (fSet 4 (fLst (fCons (fC (.int 1)) fNil)))
 (fSeq (fFor 5 (fiR1 (fVar 0))
 (B1__law_by_prime))
 (fApp 2 (fMv 4))))
noncomputable def F__law_by_prime  : FS :=
 (fSeq (fSet 1 (fComp [none, some 0] 0 (fiR2 (fC (.int 1)) (fVar 0)) fYes (fB gModI (fV2 mulD (fVar 0) (fVar 0)) (fVar 1))))
 (fSeq (fSet 2 (fLst (fCons (fComp [none] 0 (fiR1 (fV2 addD (fVar 0) (fC (.int 1)))) fYes (fC (.int 1))) fNil)))
 (fSeq (fFor 3 (fiR1 (fVar 0))
 (B2__law_by_prime))
 (fRet (fMv 2)))))
noncomputable def G__law_by_prime : FD := runF 6 (F__law_by_prime )
noncomputable def B1__law_plain_table (g__law_by_prime : FD) (g__law_doubled : FD) : FS :=
 (fSet 1 (fCall 1 g__law_doubled (fCons (fVar 1) fNil)))
noncomputable def F__law_plain_table (g__law_by_prime : FD) (g__law_doubled : FD) : FS :=
 (fSeq (fIfS (fOrT (fTst (fB (gEq false) (fVar 0) (fC (.int 12)))) (fTst (fB (gEq false) (fVar 0) (fC (.int 20))))) (fRet (fCall 1 g__law_by_prime (fCons (fB gSubI (fVar 0) (fC (.int 1))) fNil))) fNext)
 (fSeq (fIfS (fTst (fB (gEq false) (fVar 0) (fC (.int 24)))) (fRet (fCall 1 g__law_doubled (fCons (fCall 1 g__law_by_prime (fCons (fC (.int 11)) fNil)) fNil))) fNext)
 (fSeq (fSet 1 (fLst (fCons (fLst (fCons (fC (.int 1)) fNil)) fNil)))
 (fSeq (whileGo (fTst (fB gLtI (fN gLen (fCons (fVar 1) fNil)) (fVar 0))) (B1__law_plain_table g__law_by_prime g__law_doubled) 64)
 (fRet (fMv 1))))))
noncomputable def G__law_plain_table : FD := runF 2 (F__law_plain_table G__law_by_prime G__law_doubled)
noncomputable def B1__law_shuffled (g__law_stir : FD) (g__law_cell_at : FD) : FS :=
 (fSeq (fIns 4 (fB gModI (fB gDivI (fCall 1 g__law_stir (fCons (fV2 addD (fCall 2 g__law_cell_at (fCons (fVar 0) (fCons (fVar 1) fNil))) (fVar 6)) fNil)) (fC (.int 7))) (fV2 addD (fVar 6) (fC (.int 1)))) (fVar 6))
 (fIns 5 (fB gModI (fB gDivI (fCall 1 g__law_stir (fCons (fV2 addD (fCall 2 g__law_cell_at (fCons (fVar 0) (fCons (fV2 addD (fVar 1) (fC (.int 1))) fNil))) (fVar 6)) fNil)) (fC (.int 7))) (fV2 addD (fVar 6) (fC (.int 1)))) (fMv 6)))
noncomputable def B2__law_shuffled (g__law_stir : FD) (g__law_cell_at : FD) : FS :=
 (fApp 9 (fV2 mulD (fV2 mulD (fIx (fIx (fVar 2) (fVar 6)) (fVar 10)) (fVar 8)) (fB gSubI (fC (.int 1)) (fV2 mulD (fB gModI (fB gDivI (fCall 1 g__law_stir (fCons (fV2 addD (fCall 2 g__law_cell_at (fCons (fVar 0) (fCons (fV2 addD (fVar 1) (fC (.int 3))) fNil))) (fVar 10)) fNil)) (fC (.int 7))) (fC (.int 2))) (fC (.int 2))))))
noncomputable def B3__law_shuffled (g__law_stir : FD) (g__law_cell_at : FD) : FS :=
 (fSeq (fSet 8 (fB gSubI (fC (.int 1)) (fV2 mulD (fB gModI (fB gDivI (fCall 1 g__law_stir (fCons (fV2 addD (fCall 2 g__law_cell_at (fCons (fVar 0) (fCons (fV2 addD (fVar 1) (fC (.int 2))) fNil))) (fVar 6)) fNil)) (fC (.int 7))) (fC (.int 2))) (fC (.int 2)))))
 (fSeq (fSet 9 (fLst fNil))
 (fSeq (fFor 10 (fiL (fVar 5))
 (B2__law_shuffled g__law_stir g__law_cell_at))
 (fApp 7 (fMv 9)))))
noncomputable def F__law_shuffled (g__law_stir : FD) (g__law_cell_at : FD) : FS :=
 (fSeq (fSet 3 (fN gLen (fCons (fVar 2) fNil)))
 (fSeq (fSet 4 (fLst fNil))
 (fSeq (fSet 5 (fLst fNil))
 (fSeq (fFor 6 (fiR1 (fVar 3))
 (B1__law_shuffled g__law_stir g__law_cell_at))
 (fSeq (fSet 7 (fLst fNil))
 (fSeq (fFor 6 (fiL (fMv 4))
 (B3__law_shuffled g__law_stir g__law_cell_at))
 (fRet (fMv 7))))))))
noncomputable def G__law_shuffled : FD := runF 11 (F__law_shuffled G__law_stir G__law_cell_at)
noncomputable def F__law_table (g__law_cell_at : FD) (g__law_shuffled : FD) (g__law_plain_table : FD) : FS :=
 (fSeq (fSet 3 (fComp [none, some 2] 0 (fiL (fLst (fInts [4, 8, 1, 2, 12, 16, 20, 24]))) (fTst (fB gLeI (fVar 0) (fVar 1))) (fMv 0)))
 (fSeq (fSet 4 (fIx (fVar 3) (fB gModI (fCall 2 g__law_cell_at (fCons (fVar 0) (fCons (fVar 1) fNil))) (fN gLen (fCons (fVar 3) fNil)))))
 (fRet (fCall 3 g__law_shuffled (fCons (fVar 0) (fCons (fV2 addD (fVar 1) (fC (.int 1))) (fCons (fCall 1 g__law_plain_table (fCons (fVar 4) fNil)) fNil)))))))
noncomputable def G__law_table : FD := runF 5 (F__law_table G__law_cell_at G__law_shuffled G__law_plain_table)
noncomputable def B1__law_square (g__law_cell_at : FD) (g__law_stir : FD) : FS :=
 (fSeq (fSet 8 (fCall 1 g__law_stir (fCons (fV2 addD (fV2 addD (fCall 2 g__law_cell_at (fCons (fVar 0) (fCons (fV2 addD (fV2 addD (fVar 1) (fC (.int 1))) (fB gModI (fV2 addD (fVar 5) (fVar 7)) (fC (.int 4)))) fNil))) (fV2 mulD (fC (.int 101)) (fVar 5))) (fVar 7)) fNil)))
 (fApp 6 (fB gSubI (fC (.int 1)) (fV2 mulD (fB gModI (fB gDivI (fVar 8) (fC (.int 7))) (fC (.int 2))) (fC (.int 2))))))
noncomputable def B2__law_square (g__law_cell_at : FD) (g__law_stir : FD) : FS :=
 (fSeq (fSet 6 (fLst fNil))
 (fSeq (fFor 7 (fiR1 (fVar 3))
 (B1__law_square g__law_cell_at g__law_stir))
 (fApp 4 (fMv 6))))
noncomputable def F__law_square (g__law_cell_at : FD) (g__law_stir : FD) : FS :=
 (fSeq (fSet 3 (fV2 addD (fC (.int 1)) (fB gModI (fCall 2 g__law_cell_at (fCons (fVar 0) (fCons (fVar 1) fNil))) (fVar 2))))
 (fSeq (fSet 4 (fLst fNil))
 (fSeq (fFor 5 (fiR1 (fVar 3))
 (B2__law_square g__law_cell_at g__law_stir))
 (fRet (fMv 4)))))
noncomputable def G__law_square : FD := runF 9 (F__law_square G__law_cell_at G__law_stir)
noncomputable def B1__law_balanced  : FS :=
 (fIfS (fTst (fB (gEq true) (fN gSum (fCons (fZip [none, none] 0 1 (fIx (fVar 0) (fVar 1)) (fIx (fVar 0) (fVar 2)) fYes (fV2 mulD (fVar 0) (fVar 1))) fNil)) (fC (.int 0)))) (fRet (fC (.bl false))) fNext)
noncomputable def B2__law_balanced  : FS :=
 (fFor 2 (fiR1 (fVar 1))
 (B1__law_balanced))
noncomputable def F__law_balanced  : FS :=
 (fSeq (fFor 1 (fiR1 (fN gLen (fCons (fVar 0) fNil)))
 (B2__law_balanced))
 (fRet (fC (.bl true))))
noncomputable def G__law_balanced : FD := runF 3 (F__law_balanced )
noncomputable def F_need_square (g_is_square : FD) : FS :=
 (fIfS (fNotT (fTru (fCall 1 g_is_square (fCons (fVar 0) fNil)))) fNever fNext)
noncomputable def G_need_square : FD := runF 1 (F_need_square G_is_square)
end FN
namespace MA
open PySem L2 L3 FN
noncomputable abbrev cell (ns : List Int) (k : Int) : Int := itm ns k
theorem v_cell (ns : List Int) {k : Int} (h : 0 ≤ k) : G__law_cell_at [dS ns, .int k] = some (.int (cell ns k), 2) := by
  by_cases hk : k < ns.length
  · simp [G__law_cell_at, runF, envF, endF, F__law_cell_at, hk, atI_ints h hk]
  · have : ns.length ≤ k.toNat := by omega
    simp [G__law_cell_at, runF, envF, endF, F__law_cell_at, hk, itm, List.getElem?_eq_none this]
noncomputable def stir (seed : Int) : Int := let s := (seed + 7919) % 2147483647; (s * s + 48271 * s + 12345) % 2147483629
theorem v_stir (s : Int) : G__law_stir [.int s] = some (.int (stir s), 2) := by
  have h1 : 0 ≤ (s + 7919) % 2147483647 := Int.emod_nonneg _ (by decide)
  have h2 : (s + 7919) % 2147483647 < 2147483647 := Int.emod_lt_of_pos _ (by decide)
  have c1 : cMul ((s + 7919) % 2147483647) ((s + 7919) % 2147483647) = true := by
    unfold cMul
    simp only [Bool.or_eq_true, Bool.and_eq_true, decide_eq_true_eq]
    omega
  have c2 : cMul 48271 ((s + 7919) % 2147483647) = true := by
    unfold cMul
    simp only [Bool.or_eq_true, Bool.and_eq_true, decide_eq_true_eq]
    omega
  simp [G__law_stir, runF, envF, endF, F__law_stir, cMod, c1, c2, stir]
end MA
namespace MA
open PySem L2 L3 FN
noncomputable def doubled (rows : List (List Int)) : List (List Int) := rows.map (fun r => r ++ r) ++ rows.map fun r => r ++ r.map fun x => -x
noncomputable def byPrime (p : Nat) : List (List Int) := List.replicate (p + 1) 1 :: (List.range p).map fun k => 1 :: (List.range p).map fun j => if ((List.range (p - 1)).map fun i => (i + 1) * (i + 1) % p).contains ((j + p - k) % p) then 1 else -1
noncomputable def ptab (n : Nat) : List (List Int) := match n with
  | 1 => [[1]]
  | 2 => doubled [[1]]
  | 4 => doubled (doubled [[1]])
  | 8 => doubled (doubled (doubled [[1]]))
  | 16 => doubled (doubled (doubled (doubled [[1]])))
  | 12 => byPrime 11
  | 20 => byPrime 19
  | 24 => doubled (byPrime 11)
  | _ => []
noncomputable def isL : List D → List Int → Bool
  | [], [] => true
  | .int i :: ds, x :: xs => i == x && isL ds xs
  | _, _ => false
noncomputable def isR : List D → List (List Int) → Bool
  | [], [] => true
  | .lst ds :: rs, x :: xs => isL ds x && isR rs xs
  | _, _ => false
noncomputable def isRes : Option (D × Nat) → List (List Int) → Bool
  | some (.lst ds, 2), rows => isR ds rows
  | _, _ => false
theorem isL_eq : ∀ {ds : List D} {xs : List Int}, isL ds xs = true → ds = xs.map D.int
  | [], [], _ => rfl
  | [], _ :: _, h => by simp [isL] at h
  | .int i :: ds, x :: xs, h => by
    simp only [isL, Bool.and_eq_true, beq_iff_eq] at h
    rw [h.1, isL_eq h.2]
    rfl
  | .int _ :: _, [], h => by simp [isL] at h
  | .bl _ :: _, xs, h => by cases xs <;> simp [isL] at h
  | .non :: _, xs, h => by cases xs <;> simp [isL] at h
  | .str _ :: _, xs, h => by cases xs <;> simp [isL] at h
  | .lst _ :: _, xs, h => by cases xs <;> simp [isL] at h
  | .tup _ :: _, xs, h => by cases xs <;> simp [isL] at h
  | .ro _ :: _, xs, h => by cases xs <;> simp [isL] at h
  | .exc _ :: _, xs, h => by cases xs <;> simp [isL] at h
theorem isR_eq : ∀ {ds : List D} {xs : List (List Int)}, isR ds xs = true → ds = xs.map dL
  | [], [], _ => rfl
  | [], _ :: _, h => by simp [isR] at h
  | .lst i :: ds, x :: xs, h => by
    simp only [isR, Bool.and_eq_true] at h
    rw [isL_eq h.1, isR_eq h.2]
    rfl
  | .lst _ :: _, [], h => by simp [isR] at h
  | .bl _ :: _, xs, h => by cases xs <;> simp [isR] at h
  | .non :: _, xs, h => by cases xs <;> simp [isR] at h
  | .str _ :: _, xs, h => by cases xs <;> simp [isR] at h
  | .int _ :: _, xs, h => by cases xs <;> simp [isR] at h
  | .tup _ :: _, xs, h => by cases xs <;> simp [isR] at h
  | .ro _ :: _, xs, h => by cases xs <;> simp [isR] at h
  | .exc _ :: _, xs, h => by cases xs <;> simp [isR] at h
theorem isRes_eq {r : Option (D × Nat)} {rows : List (List Int)} (h : isRes r rows = true) : r = some (dR rows, 2) := by
  unfold isRes at h
  split at h
  · rw [isR_eq h]
  · cases h
theorem pt1 : isRes (G__law_plain_table [.int 1]) (ptab 1) = true := by decide +kernel
theorem pt2 : isRes (G__law_plain_table [.int 2]) (ptab 2) = true := by decide +kernel
theorem pt4 : isRes (G__law_plain_table [.int 4]) (ptab 4) = true := by decide +kernel
theorem pt8 : isRes (G__law_plain_table [.int 8]) (ptab 8) = true := by decide +kernel
theorem pt12 : isRes (G__law_plain_table [.int 12]) (ptab 12) = true := by decide +kernel
theorem pt16 : isRes (G__law_plain_table [.int 16]) (ptab 16) = true := by decide +kernel
theorem pt20 : isRes (G__law_plain_table [.int 20]) (ptab 20) = true := by decide +kernel
theorem pt24 : isRes (G__law_plain_table [.int 24]) (ptab 24) = true := by decide +kernel
noncomputable def sizesT : List Nat := [4, 8, 1, 2, 12, 16, 20, 24]
theorem v_plain {n : Nat} (h : n ∈ sizesT) : G__law_plain_table [.int n] = some (dR (ptab n), 2) := by
  simp only [sizesT, List.mem_cons, List.not_mem_nil, or_false] at h
  rcases h with rfl | rfl | rfl | rfl | rfl | rfl | rfl | rfl
  · exact isRes_eq pt4
  · exact isRes_eq pt8
  · exact isRes_eq pt1
  · exact isRes_eq pt2
  · exact isRes_eq pt12
  · exact isRes_eq pt16
  · exact isRes_eq pt20
  · exact isRes_eq pt24
noncomputable def Sq (n : Nat) (rows : List (List Int)) : Prop := rows.length = n ∧ ∀ r ∈ rows, r.length = n ∧ ∀ x ∈ r, x = 1 ∨ x = -1
noncomputable def sqB (n : Nat) (rows : List (List Int)) : Bool := rows.length == n && rows.all fun r => r.length == n && r.all fun x => x == 1 || x == -1
theorem sq_of {n : Nat} {rows : List (List Int)} (h : sqB n rows = true) : Sq n rows := by
  simp only [sqB, Bool.and_eq_true, beq_iff_eq, List.all_eq_true, Bool.or_eq_true] at h
  exact h
theorem sq_ptab {n : Nat} (h : n ∈ sizesT) : Sq n (ptab n) := by
  have key : (sizesT.all fun n => sqB n (ptab n)) = true := by decide +kernel
  exact sq_of (List.all_eq_true.mp key n h)
end MA
namespace MA
open PySem L2 L3 FN
noncomputable def ordStep (c : Int) (xs : List Int) (k : Nat) : List Int := insAt xs (stir (c + k) / 7 % ((k : Int) + 1)).toNat k
noncomputable def ordr (c : Int) (n : Nat) : List Int := (List.range n).foldl (ordStep c) []
noncomputable def sg (c : Int) : Int := 1 - stir c / 7 % 2 * 2
theorem sg_pm (c : Int) : sg c = 1 ∨ sg c = -1 := by
  unfold sg
  have h1 : 0 ≤ stir c / 7 % 2 := Int.emod_nonneg _ (by decide)
  have h2 : stir c / 7 % 2 < 2 := Int.emod_lt_of_pos _ (by decide)
  omega
theorem ordStep_perm (c : Int) (xs : List Int) (k : Nat) : (ordStep c xs k).Perm (xs ++ [(k : Int)]) := insAt_perm _ _ _
theorem fold_perm (c : Int) : ∀ (ks : List Nat) (acc : List Int), (ks.foldl (ordStep c) acc).Perm (acc ++ ks.map fun k : Nat => (k : Int))
  | [], acc => by simp
  | k :: ks, acc => by
    rw [List.foldl_cons]
    refine (fold_perm c ks _).trans ?_
    have := (ordStep_perm c acc k).append_right (ks.map fun k : Nat => (k : Int))
    simpa using this
theorem ordr_perm (c : Int) (n : Nat) : (ordr c n).Perm ((List.range n).map fun k : Nat => (k : Int)) := by unfold ordr; simpa using fold_perm c (List.range n) []
theorem fold_len (c : Int) (ks : List Nat) : (ks.foldl (ordStep c) []).length = ks.length := by have := (fold_perm c ks []).length_eq; simpa using this
theorem ordr_len (c : Int) (n : Nat) : (ordr c n).length = n := by rw [ordr, fold_len]; simp
theorem ordr_mem {c : Int} {n : Nat} {k : Int} (h : k ∈ ordr c n) : 0 ≤ k ∧ k < n := by
  have := (ordr_perm c n).mem_iff.mp h
  simp only [List.mem_map, List.mem_range] at this
  obtain ⟨a, h1, rfl⟩ := this
  omega
theorem pos_ok (c : Int) (k : Nat) : 0 ≤ stir (c + k) / 7 % ((k : Int) + 1) ∧ stir (c + k) / 7 % ((k : Int) + 1) ≤ k := by
  have h1 := Int.emod_nonneg (stir (c + k) / 7) (show (k : Int) + 1 ≠ 0 by omega)
  have h2 := Int.emod_lt_of_pos (stir (c + k) / 7) (show (0 : Int) < (k : Int) + 1 by omega)
  omega
noncomputable def shuf (ns : List Int) (at_ : Int) (rows : List (List Int)) : List (List Int) := (ordr (cell ns at_) rows.length).map fun k => (ordr (cell ns (at_ + 1)) rows.length).map fun j =>
  itm (row rows k) j * sg (cell ns (at_ + 2) + k) * sg (cell ns (at_ + 3) + j)
noncomputable abbrev eS (ns : List Int) (a : Int) (rows : List (List Int)) (n : Nat) (o4 o5 o6 o7 o8 o9 o10 : Option (D × Nat)) : PEnv := [some (dS ns, 0), some (.int a, 0), some (dR rows, 0), some (.int n, 2), o4, o5, o6, o7, o8, o9, o10]
section
variable (ns : List Int) {a : Int} (ha : 0 ≤ a) {rows : List (List Int)} {n : Nat}
include ha
theorem shuf_b1 {xs ys : List Int} {k : Nat} (h1 : xs.length = k) (h2 : ys.length = k) (hk : k < 1000) : B1__law_shuffled G__law_stir G__law_cell_at (eS ns a rows n (some (dL xs, 2)) (some (dL ys, 2)) (some (.int k, 2)) none none none none) =
    some (.next (eS ns a rows n (some (dL (ordStep (cell ns a) xs k), 2)) (some (dL (ordStep (cell ns (a + 1)) ys k), 2)) none none none none none)) := by
  have hsz : sizeLine = 16777216 := PySem.sizeLine_eq
  obtain ⟨p1, p2⟩ := pos_ok (cell ns a) k
  obtain ⟨p3, p4⟩ := pos_ok (cell ns (a + 1)) k
  have hk1 : (0 : Int) < (k : Int) + 1 := by omega
  have s1 := fIns_ints (i := 4) (env := eS ns a rows n (some (dL xs, 2)) (some (dL ys, 2)) (some (.int k, 2)) none none none none) (env1 := eS ns a rows n (some (dL xs, 2)) (some (dL ys, 2)) (some (.int k, 2)) none none none none) (env2 := eS ns a rows n (some (dL xs, 2)) (some (dL ys, 2)) (some (.int k, 2)) none none none none) (l := 2) (lz := 2) (Sz := []) (S := []) (xs := xs)
    (f := (fB gModI (fB gDivI (fCall 1 G__law_stir (fCons (fV2 addD (fCall 2 G__law_cell_at (fCons (fVar 0) (fCons (fVar 1) fNil))) (fVar 6)) fNil)) (fC (.int 7))) (fV2 addD (fVar 6) (fC (.int 1))))) (f' := fVar 6) (k := stir (cell ns a + k) / 7 % ((k : Int) + 1)) (x := k) rfl (by decide)
    (by simp [v_cell ns ha, v_stir, cDiv, cMod, hk1]) (by simp) rfl p1 (by omega) (by omega)
  have s2 := fIns_ints (i := 5) (env := eS ns a rows n (some (dL (ordStep (cell ns a) xs k), 2)) (some (dL ys, 2)) (some (.int k, 2)) none none none none) (env1 := eS ns a rows n (some (dL (ordStep (cell ns a) xs k), 2)) (some (dL ys, 2)) (some (.int k, 2)) none none none none)
    (env2 := eS ns a rows n (some (dL (ordStep (cell ns a) xs k), 2)) (some (dL ys, 2)) none none none none none) (l := 2) (lz := 2) (Sz := []) (S := []) (xs := ys)
    (f := (fB gModI (fB gDivI (fCall 1 G__law_stir (fCons (fV2 addD (fCall 2 G__law_cell_at (fCons (fVar 0) (fCons (fV2 addD (fVar 1) (fC (.int 1))) fNil))) (fVar 6)) fNil)) (fC (.int 7))) (fV2 addD (fVar 6) (fC (.int 1))))) (f' := fMv 6) (k := stir (cell ns (a + 1) + k) / 7 % ((k : Int) + 1)) (x := k) rfl (by decide)
    (by simp [v_cell ns (show 0 ≤ a + 1 by omega), v_stir, cDiv, cMod, hk1]) (by simp) rfl p3 (by omega) (by omega)
  unfold B1__law_shuffled
  rw [ev_fSeq, s1]
  exact s2
noncomputable def ent (ns : List Int) (a : Int) (rows : List (List Int)) (k j : Int) : Int := itm (row rows k) j * sg (cell ns (a + 2) + k) * sg (cell ns (a + 3) + j)
theorem shuf_b2 {k j t : Int} {o4 o5 o7 : Option (D × Nat)} {line : List Int} (h0 : 0 ≤ k) (h1 : k < rows.length) (h2 : 0 ≤ j) (h3 : j < (row rows k).length) (ht : t = 1 ∨ t = -1) (hl : line.length < 1000) :
    B2__law_shuffled G__law_stir G__law_cell_at (eS ns a rows n o4 o5 (some (.int k, 2)) o7 (some (.int t, 2)) (some (dL line, 2)) (some (.int j, 2))) =
    some (.next (eS ns a rows n o4 o5 (some (.int k, 2)) o7 (some (.int t, 2)) (some (dL (line ++ [itm (row rows k) j * t * sg (cell ns (a + 3) + j)]), 2)) (some (.int j, 2)))) := by
  have hsz : sizeLine = 16777216 := PySem.sizeLine_eq
  unfold B2__law_shuffled
  refine fApp_int (i := 9) (l := 2) (xs := line) (S := []) (env1 := eS ns a rows n o4 o5 (some (.int k, 2)) o7 (some (.int t, 2)) (some (dL line, 2)) (some (.int j, 2))) rfl (by decide) ?_ rfl (by omega)
  have c1 : ∀ x, cMul x t = true := fun x => cMul_r ht
  have c2 : ∀ x, cMul x (1 - stir (cell ns (a + 3) + j) / 7 % 2 * 2) = true := fun x => cMul_r (sg_pm _)
  have c3 : ∀ x, cMul x 2 = true := fun x => cMul_r2 (by decide) (by decide)
  simp [v_cell ns (show 0 ≤ a + 3 by omega), v_stir, cDiv, cMod, atI_rows h0 h1, atI_ints h2 h3, c1, c2, c3, sg]
theorem shuf_b3 {k : Int} {other : List Int} {l5 : Nat} {o8 o9 o10 : Option (D × Nat)} {done : List (List Int)} (h0 : 0 ≤ k) (h1 : k < rows.length) (h2 : ∀ j ∈ other, 0 ≤ j ∧ j < (row rows k).length) (hl : other.length < 1000) (hd : done.length < 1000) :
    ∃ o10', B3__law_shuffled G__law_stir G__law_cell_at (eS ns a rows n none (some (dL other, l5)) (some (.int k, 2)) (some (dR done, 2)) o8 o9 o10) =
    some (.next (eS ns a rows n none (some (dL other, 0)) (some (.int k, 2)) (some (dR (done ++ [other.map (ent ns a rows k)]), 2)) (some (.int (sg (cell ns (a + 2) + k)), 2)) none o10')) := by
  have hsz : sizeLine = 16777216 := PySem.sizeLine_eq
  obtain ⟨e', he, o10', rfl⟩ := forGo_inv (i := 10) (l := 0) (fb := B2__law_shuffled G__law_stir G__law_cell_at) D.int other
    (fun pre e => ∃ o10, e = eS ns a rows n none (some (dL other, 0)) (some (.int k, 2)) (some (dR done, 2)) (some (.int (sg (cell ns (a + 2) + k)), 2)) (some (dL (pre.map (ent ns a rows k)), 2)) o10) (by
      rintro pre j post hj e ⟨o10, rfl⟩
      have hjm : j ∈ other := by rw [hj]; simp
      have hp : (pre.map (ent ns a rows k)).length < 1000 := by
        have := congrArg List.length hj
        simp at this ⊢
        omega
      refine ⟨_, .inl (shuf_b2 ns ha (o4 := none) (o5 := some (dL other, 0)) (o7 := some (dR done, 2)) h0 h1 (h2 j hjm).1 (h2 j hjm).2 (sg_pm _) hp), some (.int j, 2), ?_⟩
      simp [ent])
    (eS ns a rows n none (some (dL other, 0)) (some (.int k, 2)) (some (dR done, 2)) (some (.int (sg (cell ns (a + 2) + k)), 2)) (some (dL [], 2)) o10) ⟨o10, rfl⟩
  refine ⟨o10', ?_⟩
  have c3 : ∀ x, cMul x 2 = true := fun x => cMul_r2 (by decide) (by decide)
  have st : fSet 8 (fB gSubI (fC (.int 1)) (fV2 mulD (fB gModI (fB gDivI (fCall 1 G__law_stir (fCons (fV2 addD (fCall 2 G__law_cell_at (fCons (fVar 0) (fCons (fV2 addD (fVar 1) (fC (.int 2))) fNil))) (fVar 6)) fNil)) (fC (.int 7))) (fC (.int 2))) (fC (.int 2)))) (eS ns a rows n none (some (dL other, l5)) (some (.int k, 2)) (some (dR done, 2)) o8 o9 o10) =
      some (.next (eS ns a rows n none (some (dL other, l5)) (some (.int k, 2)) (some (dR done, 2)) (some (.int (sg (cell ns (a + 2) + k)), 2)) o9 o10)) := by
    simp [v_cell ns (show 0 ≤ a + 2 by omega), v_stir, cDiv, cMod, c3, sg]
  have fo : fFor 10 (fiL (fVar 5)) (B2__law_shuffled G__law_stir G__law_cell_at) (eS ns a rows n none (some (dL other, l5)) (some (.int k, 2)) (some (dR done, 2)) (some (.int (sg (cell ns (a + 2) + k)), 2)) (some (.lst [], 2)) o10) =
      some (.next (eS ns a rows n none (some (dL other, 0)) (some (.int k, 2)) (some (dR done, 2)) (some (.int (sg (cell ns (a + 2) + k)), 2)) (some (dL (other.map (ent ns a rows k)), 2)) o10')) := by
    rw [← he]
    simp [dropS]
    rfl
  have ap : fApp 7 (fMv 9) (eS ns a rows n none (some (dL other, 0)) (some (.int k, 2)) (some (dR done, 2)) (some (.int (sg (cell ns (a + 2) + k)), 2)) (some (dL (other.map (ent ns a rows k)), 2)) o10') =
      some (.next (eS ns a rows n none (some (dL other, 0)) (some (.int k, 2)) (some (dR (done ++ [other.map (ent ns a rows k)]), 2)) (some (.int (sg (cell ns (a + 2) + k)), 2)) none o10')) := by
    refine fApp_row (i := 7) (l := 2) (xs := done) (S := []) (x := other.map (ent ns a rows k)) (env1 := eS ns a rows n none (some (dL other, 0)) (some (.int k, 2)) (some (dR done, 2)) (some (.int (sg (cell ns (a + 2) + k)), 2)) none o10') rfl (by decide) (by simp) rfl (by omega)
  unfold B3__law_shuffled
  rw [ev_fSeq, st]
  simp only [Option.bind_some]
  have s9 : fSet 9 (fLst fNil) (eS ns a rows n none (some (dL other, l5)) (some (.int k, 2)) (some (dR done, 2)) (some (.int (sg (cell ns (a + 2) + k)), 2)) o9 o10) = some (.next (eS ns a rows n none (some (dL other, l5)) (some (.int k, 2)) (some (dR done, 2)) (some (.int (sg (cell ns (a + 2) + k)), 2)) (some (.lst [], 2)) o10)) := by simp
  rw [ev_fSeq, s9]
  simp only [Option.bind_some]
  rw [ev_fSeq, fo]
  simp only [Option.bind_some]
  exact ap
end
theorem shuf_eq (ns : List Int) (a : Int) (rows : List (List Int)) : shuf ns a rows = (ordr (cell ns a) rows.length).map fun k => (ordr (cell ns (a + 1)) rows.length).map (ent ns a rows k) := rfl
theorem shuf_l1 (ns : List Int) {a : Int} (ha : 0 ≤ a) {rows : List (List Int)} (hl : rows.length < 1000) : ∃ o6, fFor 6 (fiR1 (fVar 3)) (B1__law_shuffled G__law_stir G__law_cell_at) (eS ns a rows rows.length (some (.lst [], 2)) (some (.lst [], 2)) none none none none none) = some (.next (eS ns a rows rows.length (some (dL (ordr (cell ns a) rows.length), 2)) (some (dL (ordr (cell ns (a + 1)) rows.length), 2)) o6 none none none none)) := by
  obtain ⟨e1, he1, o6, rfl⟩ := forGo_inv (i := 6) (l := 2) (fb := B1__law_shuffled G__law_stir G__law_cell_at) (fun i : Nat => D.int (i : Int)) (List.range rows.length)
    (fun pre e => ∃ o6, e = eS ns a rows rows.length (some (dL (pre.foldl (ordStep (cell ns a)) []), 2)) (some (dL (pre.foldl (ordStep (cell ns (a + 1))) []), 2)) o6 none none none none) (by
      rintro pre k post hk e ⟨o6, rfl⟩
      obtain ⟨hk1, hk2, _⟩ := range_split hk
      have := shuf_b1 ns ha (rows := rows) (n := rows.length) (k := k) (fold_len (cell ns a) pre |>.trans hk1.symm) (fold_len (cell ns (a + 1)) pre |>.trans hk1.symm) (by omega)
      refine ⟨_, .inl this, none, ?_⟩
      rw [List.foldl_append, List.foldl_append]
      rfl)
    (eS ns a rows rows.length (some (.lst [], 2)) (some (.lst [], 2)) none none none none none) ⟨none, rfl⟩
  refine ⟨o6, ?_⟩
  rw [ordr, ordr, ← he1]
  exact fFor_of (fiR1_of (e1 := eS ns a rows rows.length (some (.lst [], 2)) (some (.lst [], 2)) none none none none none) (l := 2) (S := []) rfl (by omega)) (by show 6 < 11; decide)
theorem shuf_l2 (ns : List Int) {a : Int} (ha : 0 ≤ a) {rows : List (List Int)} (hl : rows.length < 1000) (hr : ∀ r ∈ rows, r.length = rows.length) (o6 : Option (D × Nat)) : ∃ l5 o6' o8 o9 o10, fFor 6 (fiL (fMv 4)) (B3__law_shuffled G__law_stir G__law_cell_at) (eS ns a rows rows.length (some (dL (ordr (cell ns a) rows.length), 2)) (some (dL (ordr (cell ns (a + 1)) rows.length), 2)) o6 (some (.lst [], 2)) none none none) =
    some (.next (eS ns a rows rows.length none (some (dL (ordr (cell ns (a + 1)) rows.length), l5)) o6' (some (dR (shuf ns a rows), 2)) o8 o9 o10)) := by
  have hrow : ∀ k : Int, 0 ≤ k → k < rows.length → (row rows k).length = rows.length := fun k h0 h1 => by
    have hk : k.toNat < rows.length := by omega
    unfold row
    rw [List.getD_eq_getElem?_getD, List.getElem?_eq_getElem hk]
    exact hr _ (List.getElem_mem hk)
  obtain ⟨e2, he2, l5, o6', o8, o9, o10, rfl⟩ := forGo_inv (i := 6) (l := 2) (fb := B3__law_shuffled G__law_stir G__law_cell_at) D.int (ordr (cell ns a) rows.length)
    (fun pre e => ∃ l5 o6 o8 o9 o10, e = eS ns a rows rows.length none (some (dL (ordr (cell ns (a + 1)) rows.length), l5)) o6 (some (dR (pre.map fun k => (ordr (cell ns (a + 1)) rows.length).map (ent ns a rows k)), 2)) o8 o9 o10) (by
      rintro pre k post hk e ⟨l5, o6, o8, o9, o10, rfl⟩
      have hkm : k ∈ ordr (cell ns a) rows.length := by rw [hk]; simp
      obtain ⟨k0, k1⟩ := ordr_mem hkm
      have hlen : pre.length < 1000 := by have := congrArg List.length hk; rw [ordr_len] at this; simp at this; omega
      obtain ⟨o10', hb⟩ := shuf_b3 ns ha (rows := rows) (n := rows.length) (k := k) (other := ordr (cell ns (a + 1)) rows.length) (l5 := l5) (o8 := o8) (o9 := o9) (o10 := o10) (done := pre.map fun k => (ordr (cell ns (a + 1)) rows.length).map (ent ns a rows k)) k0 k1 (fun j hj => by rw [hrow k k0 k1]; exact ordr_mem hj) (by rw [ordr_len]; exact hl) (by simpa using hlen)
      refine ⟨_, .inl hb, 0, some (.int k, 2), some (.int (sg (cell ns (a + 2) + k)), 2), none, o10', ?_⟩
      simp)
    (eS ns a rows rows.length none (some (dL (ordr (cell ns (a + 1)) rows.length), 2)) o6 (some (.lst [], 2)) none none none) ⟨2, o6, none, none, none, rfl⟩
  refine ⟨l5, o6', o8, o9, o10, ?_⟩
  rw [shuf_eq, ← he2]
  simp
theorem v_shuf (ns : List Int) {a : Int} (ha : 0 ≤ a) {rows : List (List Int)} (hl : rows.length < 1000) (hr : ∀ r ∈ rows, r.length = rows.length) : G__law_shuffled [dS ns, .int a, dR rows] = some (dR (shuf ns a rows), 2) := by
  obtain ⟨o6, f1⟩ := shuf_l1 ns ha hl
  obtain ⟨l5, o6', o8, o9, o10, f2⟩ := shuf_l2 ns ha hl hr o6
  have s7 : fSet 7 (fLst fNil) (eS ns a rows rows.length (some (dL (ordr (cell ns a) rows.length), 2)) (some (dL (ordr (cell ns (a + 1)) rows.length), 2)) o6 none none none none) = some (.next (eS ns a rows rows.length (some (dL (ordr (cell ns a) rows.length), 2)) (some (dL (ordr (cell ns (a + 1)) rows.length), 2)) o6 (some (.lst [], 2)) none none none)) := by simp
  have st : fSet 3 (fN gLen (fCons (fVar 2) fNil)) (envF 11 [dS ns, .int a, dR rows]) = some (.next (eS ns a rows rows.length none none none none none none none)) := by simp [envF]
  have s4 : fSet 4 (fLst fNil) (eS ns a rows rows.length none none none none none none none) = some (.next (eS ns a rows rows.length (some (.lst [], 2)) none none none none none none)) := by simp
  have s5 : fSet 5 (fLst fNil) (eS ns a rows rows.length (some (.lst [], 2)) none none none none none none) = some (.next (eS ns a rows rows.length (some (.lst [], 2)) (some (.lst [], 2)) none none none none none)) := by simp
  unfold G__law_shuffled runF F__law_shuffled
  rw [fSeq_next st, fSeq_next s4, fSeq_next s5, fSeq_next f1, fSeq_next s7, fSeq_next f2]
  rfl
end MA
namespace MA
open PySem L2 L3 FN
noncomputable def szs (most : Int) : List Int := ([4, 8, 1, 2, 12, 16, 20, 24] : List Int).filter fun x => decide (x ≤ most)
noncomputable def tsz (ns : List Int) (a most : Int) : Int := itm (szs most) (cell ns a % (szs most).length)
noncomputable def tab (ns : List Int) (a most : Int) : List (List Int) := shuf ns (a + 1) (ptab (tsz ns a most).toNat)
theorem szs_pos {most : Int} (h : 4 ≤ most) : 0 < (szs most).length := by
  have : (4 : Int) ∈ szs most := by simp [szs, h]
  exact List.length_pos_of_mem this
theorem itm_mem {xs : List Int} {i : Int} (h0 : 0 ≤ i) (h : i < xs.length) : itm xs i ∈ xs := by
  have hi : i.toNat < xs.length := by omega
  unfold itm
  rw [List.getD_eq_getElem?_getD, List.getElem?_eq_getElem hi]
  exact List.getElem_mem hi
theorem tsz_ok (ns : List Int) (a : Int) {most : Int} (h : 4 ≤ most) : (tsz ns a most).toNat ∈ sizesT ∧ 0 < tsz ns a most ∧ tsz ns a most ≤ most ∧ 0 ≤ cell ns a % (szs most).length ∧ cell ns a % (szs most).length < (szs most).length := by
  have hp := szs_pos h
  have h1 := Int.emod_nonneg (cell ns a) (show ((szs most).length : Int) ≠ 0 by omega)
  have h2 := Int.emod_lt_of_pos (cell ns a) (show (0 : Int) < (szs most).length by omega)
  have hm : tsz ns a most ∈ szs most := itm_mem h1 h2
  refine ⟨?_, ?_, ?_, h1, h2⟩
  all_goals
    simp only [szs, List.mem_filter, List.mem_cons, List.not_mem_nil, or_false, decide_eq_true_eq] at hm
    obtain ⟨hm, hle⟩ := hm
  · rcases hm with e | e | e | e | e | e | e | e <;> rw [e] <;> decide
  · omega
  · exact hle
theorem v_table (ns : List Int) {a most : Int} (ha : 0 ≤ a) (hm : 4 ≤ most) : G__law_table [dS ns, .int a, .int most] = some (dR (tab ns a most), 2) := by
  obtain ⟨t1, t2, t3, t4, t5⟩ := tsz_ok ns a hm
  have hp := szs_pos hm
  have key : fComp [none, some 2] 0 (fiL (fLst (fInts [4, 8, 1, 2, 12, 16, 20, 24]))) (fTst (fB gLeI (fVar 0) (fVar 1))) (fMv 0) [some (dS ns, 0), some (.int a, 0), some (.int most, 0), none, none] = some (⟨dL (szs most), 2, []⟩, [some (dS ns, 0), some (.int a, 0), some (.int most, 0), none, none]) := by
    have := fComp_intsF (ix := [none, some 2]) (j := 0) (l := 2) (S := []) (fi := fiL (fLst (fInts [4, 8, 1, 2, 12, 16, 20, 24]))) (ft := fTst (fB gLeI (fVar 0) (fVar 1))) (fe := fMv 0) (env := [some (dS ns, 0), some (.int a, 0), some (.int most, 0), none, none]) (e1 := [some (dS ns, 0), some (.int a, 0), some (.int most, 0), none, none]) D.int (fun x => decide (x ≤ most)) (fun x => x) [4, 8, 1, 2, 12, 16, 20, 24]
      (by simp [PySem.sizeLine_eq]; rfl) (by rw [PySem.sizeLine_eq]; decide) (fun x _ => ⟨[some (.int x, 2), some (.int most, 0)], by simp [inP], fun _ => by simp⟩)
    rw [List.map_id'] at this
    exact this
  have st : fSet 3 (fComp [none, some 2] 0 (fiL (fLst (fInts [4, 8, 1, 2, 12, 16, 20, 24]))) (fTst (fB gLeI (fVar 0) (fVar 1))) (fMv 0)) (envF 5 [dS ns, .int a, .int most]) = some (.next [some (dS ns, 0), some (.int a, 0), some (.int most, 0), some (dL (szs most), 2), none]) := by
    unfold fSet
    erw [key]
    simp [envF]
  have s4 : fSet 4 (fIx (fVar 3) (fB gModI (fCall 2 G__law_cell_at (fCons (fVar 0) (fCons (fVar 1) fNil))) (fN gLen (fCons (fVar 3) fNil)))) [some (dS ns, 0), some (.int a, 0), some (.int most, 0), some (dL (szs most), 2), none] =
      some (.next [some (dS ns, 0), some (.int a, 0), some (.int most, 0), some (dL (szs most), 2), some (.int (tsz ns a most), 2)]) := by
    have hp' : (0 : Int) < (szs most).length := by omega
    have e1 : atI ((szs most).map D.int) (cell ns a % (szs most).length) = some (.int (tsz ns a most)) := atI_ints t4 t5
    simp [v_cell ns ha, cMod, hp, e1]
  have hpl : G__law_plain_table [.int (tsz ns a most)] = some (dR (ptab (tsz ns a most).toNat), 2) := by
    have := v_plain t1
    rw [Int.toNat_of_nonneg (by omega)] at this
    exact this
  obtain ⟨q1, q2⟩ := sq_ptab t1
  have hsh := v_shuf ns (a := a + 1) (by omega) (rows := ptab (tsz ns a most).toNat) (by rw [q1]; simp only [sizesT, List.mem_cons, List.not_mem_nil, or_false] at t1; omega) (fun r hr => by rw [q1]; exact (q2 r hr).1)
  unfold G__law_table runF F__law_table
  rw [fSeq_next st, fSeq_next s4]
  simp [hpl, hsh, endF, tab]
noncomputable def sqe (ns : List Int) (a : Int) (k j : Nat) : Int := sg (cell ns (a + 1 + ((k : Int) + (j : Int)) % 4) + 101 * (k : Int) + (j : Int))
noncomputable def sqn (ns : List Int) (a most : Int) : Nat := (1 + cell ns a % most).toNat
noncomputable def sqr (ns : List Int) (a most : Int) : List (List Int) := (List.range (sqn ns a most)).map fun k => (List.range (sqn ns a most)).map fun j => sqe ns a k j
noncomputable abbrev eQ (ns : List Int) (a most : Int) (n : Nat) (o4 o5 o6 o7 o8 : Option (D × Nat)) : PEnv := [some (dS ns, 0), some (.int a, 0), some (.int most, 0), some (.int n, 2), o4, o5, o6, o7, o8]
theorem sq_b1 (ns : List Int) {a most : Int} (ha : 0 ≤ a) {n k j : Nat} {o4 o8 : Option (D × Nat)} {line : List Int} (hl : line.length < 1000) : B1__law_square G__law_cell_at G__law_stir (eQ ns a most n o4 (some (.int k, 2)) (some (dL line, 2)) (some (.int j, 2)) o8) =
    some (.next (eQ ns a most n o4 (some (.int k, 2)) (some (dL (line ++ [sqe ns a k j]), 2)) (some (.int j, 2)) (some (.int (stir (cell ns (a + 1 + ((k : Int) + (j : Int)) % 4) + 101 * (k : Int) + (j : Int))), 2)))) := by
  have hsz : sizeLine = 16777216 := PySem.sizeLine_eq
  have h4 : 0 ≤ a + 1 + ((k : Int) + (j : Int)) % 4 := by omega
  have c1 : ∀ x, cMul 101 x = true := fun x => cMul_l (by decide) (by decide)
  have c3 : ∀ x, cMul x 2 = true := fun x => cMul_r2 (by decide) (by decide)
  have st : fSet 8 (fCall 1 G__law_stir (fCons (fV2 addD (fV2 addD (fCall 2 G__law_cell_at (fCons (fVar 0) (fCons (fV2 addD (fV2 addD (fVar 1) (fC (.int 1))) (fB gModI (fV2 addD (fVar 5) (fVar 7)) (fC (.int 4)))) fNil))) (fV2 mulD (fC (.int 101)) (fVar 5))) (fVar 7)) fNil)) (eQ ns a most n o4 (some (.int k, 2)) (some (dL line, 2)) (some (.int j, 2)) o8) =
      some (.next (eQ ns a most n o4 (some (.int k, 2)) (some (dL line, 2)) (some (.int j, 2)) (some (.int (stir (cell ns (a + 1 + ((k : Int) + (j : Int)) % 4) + 101 * (k : Int) + (j : Int))), 2)))) := by
    simp [v_cell ns h4, v_stir, cMod, c1]
  unfold B1__law_square
  rw [fSeq_next st]
  refine fApp_int (i := 6) (l := 2) (xs := line) (S := []) (env1 := eQ ns a most n o4 (some (.int k, 2)) (some (dL line, 2)) (some (.int j, 2)) (some (.int (stir (cell ns (a + 1 + ((k : Int) + (j : Int)) % 4) + 101 * (k : Int) + (j : Int))), 2))) rfl (by decide) ?_ rfl (by omega)
  simp [cDiv, cMod, c3, sqe, sg]
theorem sq_b2 (ns : List Int) {a most : Int} (ha : 0 ≤ a) {n k : Nat} {o6 o7 o8 : Option (D × Nat)} {done : List (List Int)} (hn : n < 1000) (hd : done.length < 1000) : ∃ o7' o8', B2__law_square G__law_cell_at G__law_stir (eQ ns a most n (some (dR done, 2)) (some (.int k, 2)) o6 o7 o8) =
    some (.next (eQ ns a most n (some (dR (done ++ [(List.range n).map fun j => sqe ns a k j]), 2)) (some (.int k, 2)) none o7' o8')) := by
  have hsz : sizeLine = 16777216 := PySem.sizeLine_eq
  obtain ⟨e', he, o7', o8', rfl⟩ := forGo_inv (i := 7) (l := 2) (fb := B1__law_square G__law_cell_at G__law_stir) (fun i : Nat => D.int (i : Int)) (List.range n)
    (fun pre e => ∃ o7 o8, e = eQ ns a most n (some (dR done, 2)) (some (.int k, 2)) (some (dL (pre.map fun j => sqe ns a k j), 2)) o7 o8) (by
      rintro pre j post hj e ⟨o7, o8, rfl⟩
      obtain ⟨h1, h2, _⟩ := range_split hj
      refine ⟨_, .inl (sq_b1 ns ha (o4 := some (dR done, 2)) (by rw [List.length_map]; omega)), some (.int j, 2), some (.int (stir (cell ns (a + 1 + ((k : Int) + (j : Int)) % 4) + 101 * (k : Int) + (j : Int))), 2), ?_⟩
      rw [List.map_append]
      rfl)
    (eQ ns a most n (some (dR done, 2)) (some (.int k, 2)) (some (.lst [], 2)) o7 o8) ⟨o7, o8, rfl⟩
  refine ⟨o7', o8', ?_⟩
  have s6 : fSet 6 (fLst fNil) (eQ ns a most n (some (dR done, 2)) (some (.int k, 2)) o6 o7 o8) = some (.next (eQ ns a most n (some (dR done, 2)) (some (.int k, 2)) (some (.lst [], 2)) o7 o8)) := by simp
  have fo : fFor 7 (fiR1 (fVar 3)) (B1__law_square G__law_cell_at G__law_stir) (eQ ns a most n (some (dR done, 2)) (some (.int k, 2)) (some (.lst [], 2)) o7 o8) = some (.next (eQ ns a most n (some (dR done, 2)) (some (.int k, 2)) (some (dL ((List.range n).map fun j => sqe ns a k j), 2)) o7' o8')) := by
    rw [← he]
    exact fFor_of (fiR1_of (e1 := eQ ns a most n (some (dR done, 2)) (some (.int k, 2)) (some (.lst [], 2)) o7 o8) (l := 2) (S := []) rfl hn) (by show 7 < 9; decide)
  unfold B2__law_square
  rw [fSeq_next s6, fSeq_next fo]
  exact fApp_row (i := 4) (l := 2) (xs := done) (S := []) (x := (List.range n).map fun j => sqe ns a k j) (env1 := eQ ns a most n (some (dR done, 2)) (some (.int k, 2)) none o7' o8') rfl (by decide) (by simp) rfl (by omega)
theorem sqn_ok (ns : List Int) (a : Int) {most : Int} (h0 : 0 < most) : (1 + cell ns a % most) = (sqn ns a most : Int) ∧ 1 ≤ sqn ns a most ∧ (sqn ns a most : Int) ≤ most := by
  have h1 := Int.emod_nonneg (cell ns a) (show most ≠ 0 by omega)
  have h2 := Int.emod_lt_of_pos (cell ns a) h0
  unfold sqn
  omega
theorem v_square (ns : List Int) {a most : Int} (ha : 0 ≤ a) (h0 : 0 < most) (h1 : most < 1000) : G__law_square [dS ns, .int a, .int most] = some (dR (sqr ns a most), 2) := by
  obtain ⟨n1, n2, n3⟩ := sqn_ok ns a h0
  have st : fSet 3 (fV2 addD (fC (.int 1)) (fB gModI (fCall 2 G__law_cell_at (fCons (fVar 0) (fCons (fVar 1) fNil))) (fVar 2))) (envF 9 [dS ns, .int a, .int most]) = some (.next (eQ ns a most (sqn ns a most) none none none none none)) := by
    simp [envF, v_cell ns ha, cMod, h0, n1]
  have s4 : fSet 4 (fLst fNil) (eQ ns a most (sqn ns a most) none none none none none) = some (.next (eQ ns a most (sqn ns a most) (some (.lst [], 2)) none none none none)) := by simp
  obtain ⟨e', he, o5, o6, o7, o8, rfl⟩ := forGo_inv (i := 5) (l := 2) (fb := B2__law_square G__law_cell_at G__law_stir) (fun i : Nat => D.int (i : Int)) (List.range (sqn ns a most))
    (fun pre e => ∃ o5 o6 o7 o8, e = eQ ns a most (sqn ns a most) (some (dR (pre.map fun k => (List.range (sqn ns a most)).map fun j => sqe ns a k j), 2)) o5 o6 o7 o8) (by
      rintro pre k post hk e ⟨o5, o6, o7, o8, rfl⟩
      obtain ⟨h1, h2, _⟩ := range_split hk
      obtain ⟨o7', o8', hb⟩ := sq_b2 ns ha (most := most) (n := sqn ns a most) (k := k) (o6 := o6) (o7 := o7) (o8 := o8) (done := pre.map fun k => (List.range (sqn ns a most)).map fun j => sqe ns a k j) (by omega) (by rw [List.length_map]; omega)
      refine ⟨_, .inl hb, some (.int k, 2), none, o7', o8', ?_⟩
      rw [List.map_append]
      rfl)
    (eQ ns a most (sqn ns a most) (some (.lst [], 2)) none none none none) ⟨none, none, none, none, rfl⟩
  have fo : fFor 5 (fiR1 (fVar 3)) (B2__law_square G__law_cell_at G__law_stir) (eQ ns a most (sqn ns a most) (some (.lst [], 2)) none none none none) = some (.next (eQ ns a most (sqn ns a most) (some (dR (sqr ns a most), 2)) o5 o6 o7 o8)) := by
    rw [sqr, ← he]
    exact fFor_of (fiR1_of (e1 := eQ ns a most (sqn ns a most) (some (.lst [], 2)) none none none none) (l := 2) (S := []) rfl (by omega)) (by show 5 < 9; decide)
  unfold G__law_square runF F__law_square
  rw [fSeq_next st, fSeq_next s4, fSeq_next fo]
  rfl
theorem sq_sqr (ns : List Int) (a most : Int) : Sq (sqn ns a most) (sqr ns a most) := by
  unfold Sq sqr
  refine ⟨by simp, fun r hr => ?_⟩
  obtain ⟨k, _, rfl⟩ := List.mem_map.mp hr
  refine ⟨by simp, fun x hx => ?_⟩
  obtain ⟨j, _, rfl⟩ := List.mem_map.mp hx
  exact sg_pm _
theorem row_get {rows : List (List Int)} {n : Nat} (h : Sq n rows) {k : Int} (h0 : 0 ≤ k) (h1 : k < n) : row rows k ∈ rows := by
  have hk : k.toNat < rows.length := by rw [h.1]; omega
  unfold row
  rw [List.getD_eq_getElem?_getD, List.getElem?_eq_getElem hk]
  exact List.getElem_mem hk
theorem pm_mul {x y : Int} (hx : x = 1 ∨ x = -1) (hy : y = 1 ∨ y = -1) : x * y = 1 ∨ x * y = -1 := by
  rcases hx with rfl | rfl <;> rcases hy with rfl | rfl <;> decide
theorem sq_shuf (ns : List Int) (a : Int) {n : Nat} {rows : List (List Int)} (h : Sq n rows) : Sq n (shuf ns a rows) := by
  refine ⟨by rw [shuf_eq, List.length_map, ordr_len, h.1], fun r hr => ?_⟩
  rw [shuf_eq, h.1] at hr
  obtain ⟨k, hk, rfl⟩ := List.mem_map.mp hr
  obtain ⟨k0, k1⟩ := ordr_mem hk
  refine ⟨by rw [List.length_map, ordr_len], fun x hx => ?_⟩
  obtain ⟨j, hj, rfl⟩ := List.mem_map.mp hx
  obtain ⟨j0, j1⟩ := ordr_mem hj
  obtain ⟨g1, g2⟩ := h.2 _ (row_get h k0 k1)
  unfold ent
  exact pm_mul (pm_mul (g2 _ (itm_mem j0 (by omega))) (sg_pm _)) (sg_pm _)
theorem sq_tab (ns : List Int) (a : Int) {most : Int} (h : 4 ≤ most) : ∃ n, n ∈ sizesT ∧ (n : Int) ≤ most ∧ Sq n (tab ns a most) ∧ tab ns a most = shuf ns (a + 1) (ptab n) := by
  obtain ⟨t1, t2, t3, _⟩ := tsz_ok ns a h
  exact ⟨_, t1, by omega, sq_shuf _ _ (sq_ptab t1), rfl⟩
end MA
namespace MA
open PySem L2 L3 FN
noncomputable def pmB (x : Int) : Bool := decide (1 = x) || decide (-1 = x)
theorem pmB_iff {x : Int} : pmB x = true ↔ x = 1 ∨ x = -1 := by
  unfold pmB
  simp only [Bool.or_eq_true, decide_eq_true_eq]
  omega
noncomputable def rowB (n : Int) (r : List Int) : Bool := decide ((r.length : Int) = n) && r.all pmB
noncomputable def isSqB (rows : List (List Int)) : Bool := (decide ((1 : Int) ≤ rows.length) && decide ((rows.length : Int) ≤ 24)) && rows.all (rowB rows.length)
theorem v_is_row {r : List Int} (h : r.length ≤ 1000) (n : Int) : G_is_row [dL r, .int n] = some (.bl (rowB n r), 2) := by
  have key : fComp [none] 0 (fiL (fMv 0)) fYes (fB (gIn false) (fVar 0) (fTup (fCons (fC (.int 1)) (fCons (fU gNeg (fC (.int 1))) fNil)))) [some (dL r, 0), some (.int n, 0)] = some (⟨.lst ((r.map pmB).map D.bl), 2, []⟩, [some (dL r, 0), some (.int n, 0)]) := by
    refine fComp_bls (l := 0) (S := [0]) D.int pmB r (by simp) (by rw [PySem.sizeLine_eq]; omega) fun x _ => ⟨_, rfl, ?_⟩
    simp [inP, PySem.sizeLine_eq, gIn_pair, pmB]
  by_cases hn : (r.length : Int) = n
  · simp [G_is_row, runF, envF, F_is_row, hn, key, endF, rowB]
  · simp [G_is_row, runF, envF, F_is_row, hn, endF, rowB]
theorem v_is_square {rows : List (List Int)} (h : rows.length ≤ 1000) (hr : ∀ r ∈ rows, r.length ≤ 1000) : G_is_square [dR rows] = some (.bl (isSqB rows), 2) := by
  have key : fComp [none, some 1] 0 (fiL (fMv 0)) fYes (fCall 2 G_is_row (fCons (fVar 0) (fCons (fVar 1) fNil))) [some (dR rows, 0), some (.int rows.length, 2)] = some (⟨.lst ((rows.map (rowB rows.length)).map D.bl), 2, []⟩, [some (dR rows, 0), some (.int rows.length, 2)]) := by
    refine fComp_bls (l := 0) (S := [0]) dL (rowB rows.length) rows (by simp) (by rw [PySem.sizeLine_eq]; omega) fun r hm => ⟨_, rfl, ?_⟩
    simp [inP, v_is_row (hr r hm)]
  by_cases h1 : (1 : Int) ≤ rows.length
  · by_cases h2 : (rows.length : Int) ≤ 24
    · simp [G_is_square, runF, envF, F_is_square, h1, h2, key, endF, isSqB]
    · simp [G_is_square, runF, envF, F_is_square, h1, h2, endF, isSqB]
  · simp [G_is_square, runF, envF, F_is_square, h1, endF, isSqB]
noncomputable def pairsB (n : Nat) (p : Nat → Nat → Bool) : Bool := (List.range n).all fun k => (List.range k).all fun j => p k j
noncomputable abbrev rw_ (rows : List (List Int)) (k : Nat) : List Int := row rows k
theorem row_len {rows : List (List Int)} {m : Nat} (hr : ∀ r ∈ rows, r.length ≤ m) {k : Nat} (hk : k < rows.length) : (rw_ rows k).length ≤ m := by
  unfold rw_ row
  rw [List.getD_eq_getElem?_getD, Int.toNat_natCast, List.getElem?_eq_getElem hk]
  exact hr _ (List.getElem_mem hk)
end MA
namespace MA
open PySem L2 L3 FN
theorem count_pm : ∀ r : List Int, (r.countP (fun z => decide (z = 1)) + r.countP (fun z => decide (z = -1)) ≤ r.length) ∧ ((r.countP (fun z => decide (z = 1)) + r.countP (fun z => decide (z = -1)) = r.length) ↔ r.all pmB = true)
  | [] => by simp
  | x :: r => by
    obtain ⟨h1, h2⟩ := count_pm r
    simp only [List.countP_cons, List.length_cons, List.all_cons, Bool.and_eq_true, pmB_iff]
    by_cases a : x = 1
    · subst a
      simp only [decide_true, if_true, true_or, true_and]
      rw [← h2]
      simp
      omega
    · by_cases b : x = -1
      · subst b
        simp
        rw [← List.all_eq_true, ← h2]
        omega
      · simp only [a, b, decide_false, Bool.false_eq_true, if_false, or_false, false_and, iff_false]
        omega
noncomputable def dot (r s : List Int) : Int := (((r.zip s).filter fun _ => true).map fun q => q.1 * q.2).sum
noncomputable def ortB (rows : List (List Int)) : Bool := pairsB rows.length fun k j => decide (dot (rw_ rows k) (rw_ rows j) = 0)
theorem v_law_balanced {rows : List (List Int)} (h : rows.length < 1000) (hr : ∀ r ∈ rows, r.length ≤ 1000 ∧ ∀ x ∈ r, x = 1 ∨ x = -1) : G__law_balanced [dR rows] = some (.bl (ortB rows), 2) := by
  have hrl : ∀ r ∈ rows, r.length ≤ 1000 := fun r hm => (hr r hm).1
  have hpm : ∀ k : Nat, k < rows.length → ∀ x ∈ rw_ rows k, x = 1 ∨ x = -1 := fun k hk => by
    unfold rw_ row
    rw [List.getD_eq_getElem?_getD, Int.toNat_natCast, List.getElem?_eq_getElem hk]
    exact (hr _ (List.getElem_mem hk)).2
  have b1 : ∀ (k j : Nat), k < rows.length → j < rows.length → B1__law_balanced [some (dR rows, 0), some (.int k, 2), some (.int j, 2)] = if decide (dot (rw_ rows k) (rw_ rows j) = 0) = true then some (.next [some (dR rows, 0), some (.int k, 2), some (.int j, 2)]) else some (.ret ⟨.bl false, 2, []⟩) := fun k j hk hj => by
    have e1 : atI (rows.map dL) (k : Int) = some (dL (rw_ rows k)) := atI_rows (by omega) (by omega)
    have e2 : atI (rows.map dL) (j : Int) = some (dL (rw_ rows j)) := atI_rows (by omega) (by omega)
    have key : fZip [none, none] 0 1 (fIx (fVar 0) (fVar 1)) (fIx (fVar 0) (fVar 2)) fYes (fV2 mulD (fVar 0) (fVar 1)) [some (dR rows, 0), some (.int k, 2), some (.int j, 2)] = some (⟨dL ((((rw_ rows k).zip (rw_ rows j)).filter fun _ => true).map fun q => q.1 * q.2), 2, []⟩, [some (dR rows, 0), some (.int k, 2), some (.int j, 2)]) := by
      refine fZip_ints (l := 0) (S := [0]) (l' := 0) (S' := [0]) (e1 := [some (dR rows, 0), some (.int k, 2), some (.int j, 2)]) (fun _ => true) (fun q => q.1 * q.2) (by simp [e1]) (by simp [e2]) (row_len hrl hk) fun q hq => ⟨[some (.int q.1, 2), some (.int q.2, 2)], ?_, fun _ => ?_⟩
      · simp [inP]
      · have hc : cMul q.1 q.2 = true := cMul_r (hpm j hj q.2 (List.of_mem_zip (a := q.1) (b := q.2) hq).2)
        simp [hc]
    by_cases hd : dot (rw_ rows k) (rw_ rows j) = 0
    · have hd' : ((((rw_ rows k).zip (rw_ rows j)).filter fun _ => true).map fun q => q.1 * q.2).sum = 0 := hd
      simp only [B1__law_balanced, ev_fIfS, ev_fTst, ev_fB, ev_fN, ev_fCons, key, ev_fNil, Option.bind_some, List.map_cons, List.map_nil, gSum_ints, ev_fC, gEq_int, hd', hd]
      simp
    · have hd' : ¬ ((((rw_ rows k).zip (rw_ rows j)).filter fun _ => true).map fun q => q.1 * q.2).sum = 0 := hd
      simp only [B1__law_balanced, ev_fIfS, ev_fTst, ev_fB, ev_fN, ev_fCons, key, ev_fNil, Option.bind_some, List.map_cons, List.map_nil, gSum_ints, ev_fC, gEq_int, hd', hd]
      simp
  have b2 : ∀ (k : Nat) (o2 : Option (D × Nat)), k < rows.length → ((List.range k).all (fun j => decide (dot (rw_ rows k) (rw_ rows j) = 0)) = true → ∃ o2', B2__law_balanced [some (dR rows, 0), some (.int k, 2), o2] = some (.next [some (dR rows, 0), some (.int k, 2), o2'])) ∧
      ((List.range k).all (fun j => decide (dot (rw_ rows k) (rw_ rows j) = 0)) = false → B2__law_balanced [some (dR rows, 0), some (.int k, 2), o2] = some (.ret ⟨.bl false, 2, []⟩)) := fun k o2 hk => by
    have ev : B2__law_balanced [some (dR rows, 0), some (.int k, 2), o2] = forGo 2 2 B1__law_balanced ((List.range k).map fun i : Nat => D.int (i : Int)) [some (dR rows, 0), some (.int k, 2), o2] := by
      unfold B2__law_balanced
      exact fFor_of (fiR1_of (e1 := [some (dR rows, 0), some (.int k, 2), o2]) (l := 2) (S := []) rfl (by omega)) (by show 2 < 3; decide)
    rw [ev]
    obtain ⟨f1, f2⟩ := forGo_find (i := 2) (l := 2) (fb := B1__law_balanced) (fun i : Nat => D.int (i : Int)) (fun j => decide (dot (rw_ rows k) (rw_ rows j) = 0)) ⟨.bl false, 2, []⟩ (fun e => ∃ o2, e = [some (dR rows, 0), some (.int k, 2), o2]) (List.range k) (by
      rintro j hj e ⟨o2, rfl⟩
      have hjk : j < k := List.mem_range.mp hj
      have hb := b1 k j hk (by omega)
      refine ⟨fun hp => ⟨[some (dR rows, 0), some (.int k, 2), some (.int j, 2)], .inl ?_, some (.int j, 2), rfl⟩, fun hp => ?_⟩
      · rw [hp, if_pos rfl] at hb; exact hb
      · rw [hp, if_neg Bool.false_ne_true] at hb; exact hb) _ ⟨o2, rfl⟩
    refine ⟨fun hp => ?_, f2⟩
    obtain ⟨e', he, o2', rfl⟩ := f1 hp
    exact ⟨o2', he⟩
  obtain ⟨f1, f2⟩ := forGo_find (i := 1) (l := 2) (fb := B2__law_balanced) (fun i : Nat => D.int (i : Int)) (fun k => (List.range k).all fun j => decide (dot (rw_ rows k) (rw_ rows j) = 0)) ⟨.bl false, 2, []⟩ (fun e => ∃ o1 o2, e = [some (dR rows, 0), o1, o2]) (List.range rows.length) (by
    rintro k hk e ⟨o1, o2, rfl⟩
    have hb := b2 k o2 (List.mem_range.mp hk)
    refine ⟨fun hp => ?_, fun hp => hb.2 hp⟩
    obtain ⟨o2', he⟩ := hb.1 hp
    exact ⟨_, .inl he, some (.int k, 2), o2', rfl⟩) [some (dR rows, 0), none, none] ⟨none, none, rfl⟩
  have ev : fFor 1 (fiR1 (fN gLen (fCons (fVar 0) fNil))) B2__law_balanced (envF 3 [dR rows]) = forGo 1 2 B2__law_balanced ((List.range rows.length).map fun i : Nat => D.int (i : Int)) [some (dR rows, 0), none, none] := by
    refine fFor_of (fiR1_of (e1 := [some (dR rows, 0), none, none]) (l := 2) (S := []) ?_ h) (by show 1 < 3; decide)
    simp [envF]
  unfold G__law_balanced runF F__law_balanced
  cases hb : ortB rows with
  | true =>
    obtain ⟨e', he, _⟩ := f1 hb
    rw [fSeq_next (ev.trans he)]
    rfl
  | false =>
    rw [fSeq_ret (ev.trans (f2 hb))]
    rfl
theorem filter_true {α : Type} (xs : List α) : (xs.filter fun _ => true) = xs := List.filter_eq_self.mpr fun _ _ => rfl
theorem sqB_sq {rows : List (List Int)} (h : isSqB rows = true) : Sq rows.length rows ∧ rows.length ≤ 24 ∧ 1 ≤ rows.length := by
  unfold isSqB rowB at h
  simp only [Bool.and_eq_true, decide_eq_true_eq, List.all_eq_true, pmB_iff] at h
  obtain ⟨⟨h1, h2⟩, h3⟩ := h
  exact ⟨⟨rfl, fun r hr => ⟨by have := (h3 r hr).1; omega, (h3 r hr).2⟩⟩, by omega, by omega⟩
theorem sq_sqB {n : Nat} {rows : List (List Int)} (h : Sq n rows) (h1 : 1 ≤ n) (h2 : n ≤ 24) : isSqB rows = true := by
  unfold isSqB rowB
  simp only [Bool.and_eq_true, decide_eq_true_eq, List.all_eq_true, pmB_iff]
  obtain ⟨e, h3⟩ := h
  exact ⟨⟨by omega, by omega⟩, fun r hr => ⟨by have := (h3 r hr).1; omega, (h3 r hr).2⟩⟩
end MA
namespace L3
open PySem PySem.Spec PyProof.Rows L2
theorem Reps.ints {K : PySem.W.Frag} {H : Hp} : ∀ ns : List Int, Reps K H (ns.map D.int) (ns.map V.int) []
  | [] => Reps.nil
  | n :: ns => by
    show Reps K H (.int n :: ns.map D.int) (.int n :: ns.map V.int) []
    simp only [Reps]
    exact ⟨_, _, [], [], rfl, rfl, rep_int, Reps.ints ns⟩
section
variable {X : Cx}
end
end L3
namespace L2
open PySem PySem.Spec PyProof.Rows
section
variable {X : Cx}
end
end L2
namespace L3
open PySem PySem.Spec PyProof.Rows L2
section
variable {X : Cx} {N' : List Str} {ix : List (Option Nat)} {scope : Scope} {elt a b : Expr} {ifs elts : List Expr} {fa fb : FE} {ft : FT} {fe : FE} {j1 j2 n : Nat} {tp : Pos}
variable {x1 x2 : Str} {p1 p2 zp zpos pos : Pos}
end
end L3
namespace L3
open PySem PySem.Spec PyProof.Rows L2
noncomputable abbrev FP := Nat → D → Option (D × D)
structure FeedsP (K : PySem.W.Frag) (pr : FP) (J : It) (a : Option Addr) (H1 : Hp) (xs : List V) : Prop where
  go : ∀ H', (∀ p, a = some p → H' p = H1 p) → ∀ (i : Nat) x, xs[i]? = some x → J.go i H' ∧ ∀ y H'', J.yld i H' y H'' → Same H' H'' ∧ ∀ d p g, pr i d = some p → Rep K H' d x g →
    ∃ q v1 v2 g1 g2, y = .ref q ∧ SqT K H'' q [v1, v2] ∧ g = g1 ++ g2 ∧ Rep K H'' p.1 v1 g1 ∧ Rep K H'' p.2 v2 g2
  stop : ∀ H', (∀ p, a = some p → H' p = H1 p) → ∀ i, xs.length ≤ i → J.stop i H'
section
variable {X : Cx} {tg : Expr}
end
section
variable {K : PySem.W.Frag} {P : Addr → Prop} {H0 H H1 H' H'' : Hp} {σ σ' : St} {env env1 e : PEnv} {fps fps' : Nat → List Addr} {it : Items} {xs : List V} {gx : List Addr} {a : Option Addr}
end
section
variable {X : Cx}
end
end L3
namespace L2
open PySem PySem.Spec PyProof.Rows
section
variable {X : Cx}
end
end L2
namespace L3
open PySem PySem.Spec PyProof.Rows L2
section
variable {X : Cx}
end
end L3
namespace L3
open PySem PySem.Spec PyProof.Rows L2
noncomputable def era (H : Hp) (fp : List Addr) : Hp := fun b => if b ∈ fp then none else H b
noncomputable def spO (K : PySem.W.Frag) (n : Nat) (g : FD) : Sp := fun vs H Q _ => ∃ ds fp d, g ds = some (d, 2) ∧ ds.length = n ∧ Reps K H ds vs fp ∧ fp.Nodup ∧
  ∀ v H' fp', Same (era H fp) H' → Rep K H' d v fp' → OwnOk (era H fp) H' (fun _ => False) d 2 v fp' → Q v H'
structure HasO (P : Program) (w : World) (K : PySem.W.Frag) (mg : Str → Option Value) (base : Heap) (k : Nat) (x : Str) (ps : List Str) (g : FD) : Prop where
  ex : ∃ f fd, FnOk P w K mg base CX0 k f fd ps (spO K ps.length g) ∧ mg x = some (.ref f) ∧ PySem.W.keepIn K (.ref f) = true ∧ Binds K fd ps []
theorem HasO.mono {P : Program} {w : World} {K : PySem.W.Frag} {mg : Str → Option Value} {base : Heap} {j k : Nat} {x : Str} {ps : List Str} {g : FD} (h : HasO P w K mg base j x ps g) (hk : j ≤ k) : HasO P w K mg base k x ps g := by
  obtain ⟨f, fd, F, a, b, c⟩ := h.ex
  exact ⟨f, fd, F.mono hk, a, b, c⟩
section
variable {X : Cx}
end
noncomputable def spN (K : PySem.W.Frag) (g : FD) : Sp := fun vs H Q _ => ∃ ds k r sv a, vs = [sv, .ref a] ∧ Rep K H (.ro ds) sv [] ∧ H a = some (.lst [.int k]) ∧ g [.ro ds, .int k] = some (.int r, 2) ∧ ∀ H', Same (upd H a (.lst [.int (k + 1)])) H' → Q (.int r) H'
structure HasN (P : Program) (w : World) (K : PySem.W.Frag) (mg : Str → Option Value) (base : Heap) (k : Nat) (x : Str) (ps : List Str) (g : FD) : Prop where
  ex : ∃ f fd, FnOk P w K mg base CX0 k f fd ps (spN K g) ∧ mg x = some (.ref f) ∧ PySem.W.keepIn K (.ref f) = true ∧ Binds K fd ps []
theorem HasN.mono {P : Program} {w : World} {K : PySem.W.Frag} {mg : Str → Option Value} {base : Heap} {j k : Nat} {x : Str} {ps : List Str} {g : FD} (h : HasN P w K mg base j x ps g) (hk : j ≤ k) : HasN P w K mg base k x ps g := by
  obtain ⟨f, fd, F, a, b, c⟩ := h.ex
  exact ⟨f, fd, F.mono hk, a, b, c⟩
section
variable {X : Cx}
end
end L3
namespace L3
open PySem PySem.Spec PyProof.Rows L2
noncomputable def CDivM (_ j : Int) : Prop := j ≠ 0 ∧ -(2 ^ 64) < j ∧ j < 2 ^ 64
theorem op_fdivM {X : Cx} : OpR X (binaryOp .FloorDiv) (rI CDivM fun i j => .int (i.fdiv j)) := opI fun i j _ _ _ _ _ hc q => PyProof.Rows.floordiv_int hc.1 q (.inl (PyProof.noPylong_of_log2 (by
  have h1 := hc.2.1
  have h2 := hc.2.2
  by_cases h0 : j.natAbs = 0
  · rw [h0]; decide +kernel
  · have : j.natAbs.log2 < 64 := (Nat.log2_lt h0).mpr (by omega)
    omega)))
noncomputable def cDivM (_ j : Int) : Bool := decide (j ≠ 0) && decide (-(2 ^ 64) < j) && decide (j < 2 ^ 64)
noncomputable abbrev gDivM : D → D → Option D := gIc cDivM fun i j => i.fdiv j
theorem q_fdivM {X : Cx} {a b : Expr} {fa fb : FE} {pos : Pos} (ha : QE X a fa) (hb : QE X b fb) : QE X (.BinOp a .FloorDiv b pos) (fB gDivM fa fb) := q2 op_fdivM (rule_Ic fun i j h => by
  unfold cDivM at h
  rw [Bool.and_eq_true, Bool.and_eq_true, decide_eq_true_eq, decide_eq_true_eq, decide_eq_true_eq] at h
  exact ⟨h.1.1, h.1.2, h.2⟩) flat_gIc ha hb
end L3
namespace FN
open PySem L2 L3
noncomputable def F__law_whole  : FS :=
 (fRet (fAnd (fU (isiD "int") (fVar 0)) (fNot (fU (isiD "bool") (fVar 0)))))
noncomputable def G__law_whole : FD := runF 1 (F__law_whole )
end FN
namespace FN
open PySem L2 L3
end FN
namespace MA
open PySem L2 L3 FN
noncomputable def sumN (n : Nat) (f : Nat → Int) : Int := ((List.range n).map f).sum
noncomputable def mkT (n : Nat) (M : Nat → Nat → Int) : List (List Int) := (List.range n).map fun i => (List.range n).map fun j => M i j
theorem sumN_congr {n : Nat} {f g : Nat → Int} (h : ∀ i, i < n → f i = g i) : sumN n f = sumN n g := by
  unfold sumN
  rw [List.map_congr_left fun i hi => h i (List.mem_range.mp hi)]
theorem sum_mul_left (c : Int) : ∀ (l : List Int), (l.map fun x => c * x).sum = c * l.sum
  | [] => by simp
  | x :: l => by simp [sum_mul_left c l, Int.mul_add]
theorem sumN_mul (n : Nat) (c : Int) (f : Nat → Int) : sumN n (fun i => c * f i) = c * sumN n f := by
  unfold sumN
  rw [← sum_mul_left, List.map_map]
  rfl
theorem perm_sum {l l' : List Int} (h : l.Perm l') : l.sum = l'.sum := by
  induction h with
  | nil => rfl
  | cons x _ ih => simp [ih]
  | swap x y l => simp only [List.sum_cons]; omega
  | trans _ _ ih1 ih2 => exact ih1.trans ih2
theorem itm_range {n : Nat} (f : Nat → Int) {j : Nat} (hj : j < n) : itm ((List.range n).map f) j = f j := by
  unfold itm
  rw [Int.toNat_natCast, List.getD_eq_getElem?_getD, List.getElem?_map, List.getElem?_range hj]
  rfl
theorem row_range {n : Nat} (f : Nat → List Int) {i : Nat} (hi : i < n) : row ((List.range n).map f) i = f i := by
  unfold row
  rw [Int.toNat_natCast, List.getD_eq_getElem?_getD, List.getElem?_map, List.getElem?_range hi]
  rfl
theorem list_eta {r : List Int} {n : Nat} (h : r.length = n) : r = (List.range n).map fun j => itm r (j : Nat) := by
  apply List.ext_getElem?
  intro i
  by_cases hi : i < n
  · rw [List.getElem?_map, List.getElem?_range hi, List.getElem?_eq_getElem (by omega)]
    unfold itm
    rw [Option.map_some, Int.toNat_natCast, List.getD_eq_getElem?_getD, List.getElem?_eq_getElem (by omega)]
    rfl
  · rw [List.getElem?_eq_none (by omega), List.getElem?_eq_none (by simp; omega)]
theorem rows_eta {rows : List (List Int)} {n : Nat} (h : rows.length = n) : rows = (List.range n).map fun i => row rows (i : Nat) := by
  apply List.ext_getElem?
  intro i
  by_cases hi : i < n
  · rw [List.getElem?_map, List.getElem?_range hi, List.getElem?_eq_getElem (by omega)]
    unfold row
    rw [Option.map_some, Int.toNat_natCast, List.getD_eq_getElem?_getD, List.getElem?_eq_getElem (by omega)]
    rfl
  · rw [List.getElem?_eq_none (by omega), List.getElem?_eq_none (by simp; omega)]
noncomputable def pl (rows : List (List Int)) (i j : Nat) : Int := itm (row rows i) j
theorem sq_row {rows : List (List Int)} {n : Nat} (h : Sq n rows) {i : Nat} (hi : i < n) : (row rows i).length = n ∧ ∀ x ∈ row rows i, x = 1 ∨ x = -1 := h.2 _ (row_get h (by omega) (by omega))
theorem mk_eta {rows : List (List Int)} {n : Nat} (h : Sq n rows) : rows = mkT n (pl rows) := by
  conv => lhs; rw [rows_eta h.1]
  unfold mkT
  apply List.map_congr_left
  intro i hi
  exact list_eta (sq_row h (List.mem_range.mp hi)).1
theorem pl_mk {n : Nat} {M : Nat → Nat → Int} {i j : Nat} (hi : i < n) (hj : j < n) : pl (mkT n M) i j = M i j := by
  unfold pl mkT
  rw [row_range _ hi, itm_range _ hj]
noncomputable def Pm (n : Nat) (M : Nat → Nat → Int) : Prop := ∀ i j, i < n → j < n → M i j = 1 ∨ M i j = -1
theorem sq_mk {n : Nat} {M : Nat → Nat → Int} (h : Pm n M) : Sq n (mkT n M) := by
  unfold mkT
  refine ⟨by simp, fun r hr => ?_⟩
  obtain ⟨i, hi, rfl⟩ := List.mem_map.mp hr
  refine ⟨by simp, fun x hx => ?_⟩
  obtain ⟨j, hj, rfl⟩ := List.mem_map.mp hx
  exact h i j (List.mem_range.mp hi) (List.mem_range.mp hj)
theorem pm_pl {n : Nat} {rows : List (List Int)} (h : Sq n rows) : Pm n (pl rows) := fun i j hi hj => (sq_row h hi).2 _ (itm_mem (by omega) (by rw [(sq_row h hi).1]; omega))
theorem mk_len {n : Nat} {M : Nat → Nat → Int} : (mkT n M).length = n := by simp [mkT]
theorem row_mk {n : Nat} {M : Nat → Nat → Int} {i : Nat} (hi : i < n) : row (mkT n M) (i : Nat) = (List.range n).map fun j => M i j := row_range _ hi
theorem dot_sum {r s : List Int} {n : Nat} (hr : r.length = n) (hs : s.length = n) : dot r s = sumN n fun j => itm r (j : Nat) * itm s (j : Nat) := by
  unfold dot sumN
  rw [filter_true]
  congr 1
  conv => lhs; rw [list_eta hr, list_eta hs]
  rw [List.zip_map', List.map_map]
  rfl
noncomputable def Ort (n : Nat) (M : Nat → Nat → Int) : Prop := ∀ i k, i < n → k < n → i ≠ k → sumN n (fun j => M i j * M k j) = 0
theorem ort_iff {n : Nat} {rows : List (List Int)} (h : Sq n rows) : ortB rows = true ↔ Ort n (pl rows) := by
  unfold ortB pairsB
  rw [List.all_eq_true, h.1]
  constructor
  · intro hh i k hi hk hne
    have key : ∀ a b, b < a → a < n → sumN n (fun j => pl rows a j * pl rows b j) = 0 := fun a b hab ha => by
      have h1 := hh a (List.mem_range.mpr ha)
      rw [List.all_eq_true] at h1
      have h2 := h1 b (List.mem_range.mpr hab)
      rw [decide_eq_true_eq, dot_sum (sq_row h ha).1 (sq_row h (by omega)).1] at h2
      exact h2
    rcases Nat.lt_or_gt_of_ne hne with z | z
    · rw [← key k i z hk]
      exact sumN_congr fun j _ => Int.mul_comm _ _
    · exact key i k z hi
  · intro hh k hk
    rw [List.all_eq_true]
    intro j hj
    have hk' := List.mem_range.mp hk
    have hj' := List.mem_range.mp hj
    rw [decide_eq_true_eq, dot_sum (sq_row h hk').1 (sq_row h (by omega)).1]
    exact hh k j hk' (by omega) (by omega)
theorem Ort.congr {n : Nat} {M N : Nat → Nat → Int} (h : Ort n M) (e : ∀ i j, i < n → j < n → M i j = N i j) : Ort n N := fun i k hi hk hne => by
  rw [← h i k hi hk hne]
  exact sumN_congr fun j hj => by rw [e i j hi hj, e k j hk hj]
theorem Ort.turn {n : Nat} {M : Nat → Nat → Int} (h : Ort n M) (a b : Nat → Int) (hb : ∀ j, j < n → b j = 1 ∨ b j = -1) : Ort n fun i j => M i j * a i * b j := fun i k hi hk hne => by
  have e : ∀ j, j < n → (M i j * a i * b j) * (M k j * a k * b j) = (a i * a k) * (M i j * M k j) := fun j hj => by
    have hbb : b j * b j = 1 := by rcases hb j hj with z | z <;> rw [z] <;> rfl
    have : (M i j * a i * b j) * (M k j * a k * b j) = (a i * a k) * (M i j * M k j) * (b j * b j) := by
      simp only [Int.mul_assoc, Int.mul_comm, Int.mul_left_comm]
    rw [this, hbb, Int.mul_one]
  rw [sumN_congr e, sumN_mul, h i k hi hk hne, Int.mul_zero]
theorem Ort.order {n : Nat} {M : Nat → Nat → Int} (h : Ort n M) {s t : List Int} (hs : s.Perm ((List.range n).map fun k : Nat => (k : Int))) (ht : t.Perm ((List.range n).map fun k : Nat => (k : Int))) : Ort n fun i j => M (itm s i).toNat (itm t j).toNat := fun i k hi hk hne => by
  have ls : s.length = n := by have := hs.length_eq; simpa using this
  have lt : t.length = n := by have := ht.length_eq; simpa using this
  have mem : ∀ x ∈ s, 0 ≤ x ∧ x.toNat < n := fun x hx => by
    have := hs.mem_iff.mp hx
    simp only [List.mem_map, List.mem_range] at this
    obtain ⟨a, h1, rfl⟩ := this
    omega
  have nd : s.Nodup := hs.nodup_iff.mpr (List.Pairwise.map _ (fun a b (hab : a ≠ b) (h : (a : Int) = (b : Int)) => hab (by omega)) List.nodup_range)
  obtain ⟨a0, a1⟩ := mem _ (itm_mem (xs := s) (i := (i : Int)) (by omega) (by omega))
  obtain ⟨b0, b1⟩ := mem _ (itm_mem (xs := s) (i := (k : Int)) (by omega) (by omega))
  have hne' : (itm s i).toNat ≠ (itm s k).toNat := fun z => by
    have e : itm s i = itm s k := by omega
    unfold itm at e
    rw [Int.toNat_natCast, Int.toNat_natCast, List.getD_eq_getElem?_getD, List.getD_eq_getElem?_getD, List.getElem?_eq_getElem (show i < s.length by omega), List.getElem?_eq_getElem (show k < s.length by omega)] at e
    exact hne ((List.getElem_inj nd).mp e)
  have := h _ _ a1 b1 hne'
  rw [← this]
  have e1 : sumN n (fun j => M (itm s i).toNat (itm t j).toNat * M (itm s k).toNat (itm t j).toNat) = (t.map fun x => M (itm s i).toNat x.toNat * M (itm s k).toNat x.toNat).sum := by
    conv => rhs; rw [list_eta lt]
    rw [List.map_map]
    rfl
  rw [e1, perm_sum (ht.map _), List.map_map]
  rfl
structure Had (n : Nat) (M : Nat → Nat → Int) : Prop where
  pm : Pm n M
  rows : Ort n M
  cols : Ort n fun i j => M j i
theorem Had.congr {n : Nat} {M N : Nat → Nat → Int} (h : Had n M) (e : ∀ i j, i < n → j < n → M i j = N i j) : Had n N := ⟨fun i j hi hj => by rw [← e i j hi hj]; exact h.pm i j hi hj, h.rows.congr e, h.cols.congr fun i j hi hj => e j i hj hi⟩
theorem Had.over {n : Nat} {M : Nat → Nat → Int} (h : Had n M) : Had n fun i j => M j i := ⟨fun i j hi hj => h.pm j i hj hi, h.cols, h.rows⟩
theorem Had.turn {n : Nat} {M : Nat → Nat → Int} (h : Had n M) (a b : Nat → Int) (ha : ∀ j, j < n → a j = 1 ∨ a j = -1) (hb : ∀ j, j < n → b j = 1 ∨ b j = -1) : Had n fun i j => M i j * a i * b j where
  pm := fun i j hi hj => pm_mul (pm_mul (h.pm i j hi hj) (ha i hi)) (hb j hj)
  rows := h.rows.turn a b hb
  cols := (h.cols.turn b a ha).congr fun i j _ _ => by rw [Int.mul_assoc, Int.mul_comm (b i), Int.mul_assoc]
theorem Had.order {n : Nat} {M : Nat → Nat → Int} (h : Had n M) {s t : List Int} (hs : s.Perm ((List.range n).map fun k : Nat => (k : Int))) (ht : t.Perm ((List.range n).map fun k : Nat => (k : Int))) : Had n fun i j => M (itm s i).toNat (itm t j).toNat where
  pm := fun i j hi hj => by
    have lt : ∀ {l : List Int} {k : Nat}, l.Perm ((List.range n).map fun k : Nat => (k : Int)) → k < n → (itm l k).toNat < n := fun {l k} hl hk => by
      have ll : l.length = n := by have := hl.length_eq; simpa using this
      have := hl.mem_iff.mp (itm_mem (xs := l) (i := (k : Int)) (by omega) (by omega))
      simp only [List.mem_map, List.mem_range] at this
      obtain ⟨a, h1, h2⟩ := this
      omega
    exact h.pm _ _ (lt hs hi) (lt ht hj)
  rows := h.rows.order hs ht
  cols := h.cols.order ht hs
theorem Had.table {n : Nat} {M : Nat → Nat → Int} (h : Had n M) : ortB (mkT n M) = true := (ort_iff (sq_mk h.pm)).mpr (h.rows.congr fun i j hi hj => (pl_mk hi hj).symm)
theorem had_of {n : Nat} {rows : List (List Int)} (h : Sq n rows) (h1 : ortB rows = true) (h2 : ortB (mkT n fun i j => pl rows j i) = true) : Had n (pl rows) := by
  have hp := pm_pl h
  refine ⟨hp, (ort_iff h).mp h1, ?_⟩
  have hq : Pm n fun i j => pl rows j i := fun i j hi hj => hp j i hj hi
  exact ((ort_iff (sq_mk hq)).mp h2).congr fun i j hi hj => pl_mk hi hj
theorem had_ptab {n : Nat} (h : n ∈ sizesT) : Had n (pl (ptab n)) := by
  have k1 : (sizesT.all fun n => ortB (ptab n)) = true := by decide +kernel
  have k2 : (sizesT.all fun n => ortB (mkT n fun i j => pl (ptab n) j i)) = true := by decide +kernel
  exact had_of (sq_ptab h) (List.all_eq_true.mp k1 n h) (List.all_eq_true.mp k2 n h)
theorem shuf_mk (ns : List Int) (a : Int) {n : Nat} {rows : List (List Int)} (h : rows.length = n) : shuf ns a rows = mkT n fun i j => pl rows (itm (ordr (cell ns a) n) i).toNat (itm (ordr (cell ns (a + 1)) n) j).toNat * sg (cell ns (a + 2) + itm (ordr (cell ns a) n) i) * sg (cell ns (a + 3) + itm (ordr (cell ns (a + 1)) n) j) := by
  rw [shuf_eq, h]
  unfold mkT
  conv => lhs; rw [list_eta (ordr_len (cell ns a) n)]
  rw [List.map_map]
  apply List.map_congr_left
  intro i hi
  have hi' := List.mem_range.mp hi
  show (ordr (cell ns (a + 1)) n).map (ent ns a rows (itm (ordr (cell ns a) n) i)) = _
  conv => lhs; rw [list_eta (ordr_len (cell ns (a + 1)) n)]
  rw [List.map_map]
  apply List.map_congr_left
  intro j hj
  have hj' := List.mem_range.mp hj
  obtain ⟨p0, p1⟩ := ordr_mem (itm_mem (xs := ordr (cell ns a) n) (i := (i : Int)) (by omega) (by rw [ordr_len]; omega))
  obtain ⟨q0, q1⟩ := ordr_mem (itm_mem (xs := ordr (cell ns (a + 1)) n) (i := (j : Int)) (by omega) (by rw [ordr_len]; omega))
  show ent ns a rows (itm (ordr (cell ns a) n) i) (itm (ordr (cell ns (a + 1)) n) j) = _
  unfold ent pl
  dsimp only
  rw [Int.toNat_of_nonneg p0, Int.toNat_of_nonneg q0]
theorem had_tab (ns : List Int) (a : Int) {most : Int} (h : 4 ≤ most) : ∃ n M, n ∈ sizesT ∧ (n : Int) ≤ most ∧ Had n M ∧ tab ns a most = mkT n M := by
  obtain ⟨n, h1, h2, h3, h4⟩ := sq_tab ns a h
  refine ⟨n, _, h1, h2, ?_, h4.trans (shuf_mk ns (a + 1) (sq_ptab h1).1)⟩
  exact ((had_ptab h1).order (ordr_perm (cell ns (a + 1)) n) (ordr_perm (cell ns (a + 1 + 1)) n)).turn _ _ (fun _ _ => sg_pm _) (fun _ _ => sg_pm _)
theorem sizes_le {n : Nat} (h : n ∈ sizesT) : 1 ≤ n ∧ n ≤ 24 := by
  simp only [sizesT, List.mem_cons, List.not_mem_nil, or_false] at h
  omega
end MA
namespace MA
open PySem L2 L3 FN
@[simp] theorem ev_fDrop (f : FE) (e : PEnv) : fDrop f e = (f e).bind fun (_, e) => some (.next e) := rfl
theorem szl {n : Nat} (h : n ≤ 1000) : n ≤ sizeLine := by rw [PySem.sizeLine_eq]; omega
theorem v_need_square {rows : List (List Int)} (h : rows.length ≤ 1000) (hr : ∀ r ∈ rows, r.length ≤ 1000) (hs : isSqB rows = true) : G_need_square [dR rows] = some (.non, 2) := by
  simp [G_need_square, runF, envF, F_need_square, v_is_square h hr, hs, endF]
theorem at_mk {n : Nat} {M : Nat → Nat → Int} {i : Nat} (hi : i < n) : atI ((mkT n M).map dL) (i : Int) = some (dL ((List.range n).map fun j => M i j)) := by
  have := atI_rows (xs := mkT n M) (i := (i : Int)) (by omega) (by rw [mk_len]; omega)
  rw [this, row_mk hi]
theorem at_range {n : Nat} {f : Nat → Int} {j : Nat} (hj : j < n) : atI (((List.range n).map f).map D.int) (j : Int) = some (.int (f j)) := by
  have := atI_ints (xs := (List.range n).map f) (i := (j : Int)) (by omega) (by rw [List.length_map, List.length_range]; omega)
  rw [this, itm_range f hj]
theorem small_mk {n : Nat} {M : Nat → Nat → Int} (hn : n ≤ 24) : (mkT n M).length < 1000 ∧ ∀ r ∈ mkT n M, r.length ≤ 1000 := by
  refine ⟨by rw [mk_len]; omega, fun r hr => ?_⟩
  unfold mkT at hr
  obtain ⟨i, _, rfl⟩ := List.mem_map.mp hr
  rw [List.length_map, List.length_range]
  omega
end MA
namespace MA
open PySem L2 L3 FN
@[simp] theorem ev_fCallX (n : Nat) (g : FX) (fs : FA) (e : PEnv) : fCallX n g fs e = (fs e).bind fun (xs, e) => if xs.length = n then (g (xs.map Val.d)).map fun r => match r with
    | .ok d l => .inl (⟨d, l, if l = 2 then [] else xs.flatMap Val.S⟩, e)
    | .exc c => .inr c
  else none := rfl
@[simp] theorem ev_fDropX (f : FEx) (e : PEnv) : fDropX f e = (f e).map fun r => match r with
  | .inl (_, e) => .next e
  | .inr c => .exc c := rfl
@[simp] theorem ev_fRetX (f : FEx) (e : PEnv) : fRetX f e = (f e).map fun r => match r with
  | .inl (x, _) => .ret x
  | .inr c => .exc c := rfl
@[simp] theorem ev_fSetX (i : Nat) (f : FEx) (e : PEnv) : fSetX i f e = (f e).bind fun r => match r with
  | .inl (x, e1) => if i < e.length then some (.next ((dropS x.S e1).set i (some (x.d, x.l)))) else none
  | .inr c => some (.exc c) := rfl
@[simp] theorem ev_fExc (c : Str) (fs : FA) (e : PEnv) : fExc c fs e = (fs e).bind fun (xs, _) => if xs.length ≤ 9 then some (.exc c) else none := rfl
noncomputable def which (c : Str) : Str := match (errs.zip (["move", "note", "numbers", "size", "square", "table", "great", "unlike"] : List Str)).find? fun p => p.1 == c with
  | some p => p.2
  | none => "other"
theorem cMul_l {a b : Int} (h1 : -1000 ≤ a) (h2 : a ≤ 1000) : cMul a b = true := by
  unfold cMul
  have : (decide (-(2 ^ 64) < a) && decide (a < 2 ^ 64)) = true := by simp only [Bool.and_eq_true, decide_eq_true_eq]; omega
  rw [this]; rfl
section
variable {n m : Nat} {M N : Nat → Nat → Int} (hM : Had n M) (hN : Had m N) (n1 : 1 ≤ n) (n2 : n ≤ 24) (m1 : 1 ≤ m) (m2 : m ≤ 24)
noncomputable abbrev eB (n m : Nat) (M N : Nat → Nat → Int) (o : Option (D × Nat)) : PEnv := [some (dR (mkT n M), 0), some (dR (mkT m N), 0), o, none]
include hM hN n1 n2 m1 m2
end
@[simp] theorem nodes_exc (c : Str) : (D.exc c).nodes = 0 := by simp only [D.nodes]
end MA
namespace MA
open PySem L2 L3 FN
theorem cut1 {α : Type} (xs : List α) : cutD xs (some 1) none = xs.drop 1 := by
  unfold cutD
  have e1 : HT.sIx xs.length 0 (some 1) = min 1 xs.length := HT.sIx_nat xs.length 0 1
  rw [e1]
  show (xs.drop (min 1 xs.length)).take (xs.length - min 1 xs.length) = xs.drop 1
  cases xs with
  | nil => rfl
  | cons x xs =>
    have : min 1 (x :: xs).length = 1 := by simp
    rw [this, List.take_of_length_le (by simp)]
theorem sl1 {i l : Nat} {e : PEnv} {R : List (List Int)} (h : e[i]? = some (some (dR R, l))) : fSl (fVar i) (fPart (fC (.int 1))) fNoP e = some (lvL ((R.drop 1).map dL) false [i], e) := by
  have hv : fVar i e = some (⟨dR R, 0, [i]⟩, e) := by simp [h]
  unfold fSl
  rw [hv]
  simp only [Option.bind_some, fPart, ev_fC, fNoP, fSl.seqL, Option.map_some, cut1, List.map_drop]
  rfl
theorem lvL_d (ds : List D) (b : Bool) (S : List Nat) : (lvL ds b S).d = .lst ds := by unfold lvL; split <;> rfl
end MA
namespace MA
open PySem L2 L3 FN
end MA
namespace MA
open PySem L2 L3 FN
@[simp] theorem gLen_tup (ds : List D) : gLen [.tup ds] = some (.int ds.length) := rfl
@[simp] theorem ixD_tup (i : Int) (ds : List D) : ixD i (.tup ds) = atI ds i := rfl
@[simp] theorem ev_fiT (f : FE) (e : PEnv) : fiT f e = (f e).bind fun (x, e) => match x.d with | .tup ds => some (⟨ds, x.l, x.S⟩, e) | _ => none := rfl
theorem cutHi {α : Type} (xs : List α) {k : Nat} (h : k ≤ xs.length) : cutD xs none (some (k : Int)) = xs.take k := by
  unfold cutD
  rw [HT.sIx_nat, HT.sIx_none, Nat.min_eq_left h, List.drop_zero, Nat.sub_zero]
theorem cutLo {α : Type} (xs : List α) {k : Nat} (h : k ≤ xs.length) : cutD xs (some (k : Int)) none = xs.drop k := by
  unfold cutD
  rw [HT.sIx_nat, HT.sIx_none, Nat.min_eq_left h, List.take_of_length_le (by rw [List.length_drop]; omega)]
theorem sq_nonneg (x : Int) : 0 ≤ x * x := by
  rcases Int.le_total 0 x with h | h
  · exact Int.mul_nonneg h h
  · exact Int.mul_nonneg_of_nonpos_of_nonpos h h
theorem v_whole (x : Int) : G__law_whole [.int x] = some (.bl true, 2) := by simp [G__law_whole, runF, envF, F__law_whole, endF]
end MA
namespace MA
open PySem L2 L3 FN
end MA
namespace EX
open PySem L2 L3 MA
noncomputable abbrev Fn := Nat → Int
noncomputable abbrev Fm := List Bool → Int
noncomputable def sh (v : Fn) : Fn := fun i => v (i + 1)
noncomputable def inF (w : Fm) (b : Bool) : Fm := fun s => w (b :: s)
noncomputable def wd : Fn → Fm → Fm
  | _, _, [] => 0
  | v, w, false :: s => wd (sh v) (inF w false) s
  | v, w, true :: s => v 0 * w (false :: s) - wd (sh v) (inF w true) s
noncomputable def ct : Fn → Fm → Fm
  | _, _, [] => 0
  | v, w, false :: s => ct (sh v) (inF w false) s + v 0 * w (true :: s)
  | v, w, true :: s => -ct (sh v) (inF w true) s
noncomputable def dt : Nat → Fn → Fn → Int
  | 0, _, _ => 0
  | n + 1, v, w => v 0 * w 0 + dt n (sh v) (sh w)
noncomputable def ip : Nat → Fm → Fm → Int
  | 0, a, b => a [] * b []
  | n + 1, a, b => ip n (inF a false) (inF b false) + ip n (inF a true) (inF b true)
noncomputable def one : Fm
  | [] => 1
  | false :: s => one s
  | true :: _ => 0
theorem wd_congr : ∀ (s : List Bool) (v : Fn) (a b : Fm), (∀ t, t.length = s.length → a t = b t) → wd v a s = wd v b s
  | [], _, _, _, _ => rfl
  | false :: s, v, a, b, h => by
    simp only [wd]
    exact wd_congr s (sh v) _ _ fun t ht => h (false :: t) (by simp [ht])
  | true :: s, v, a, b, h => by
    simp only [wd]
    rw [h (false :: s) rfl, wd_congr s (sh v) (inF a true) (inF b true) fun t ht => h (true :: t) (by simp [ht])]
theorem wd_lin : ∀ (s : List Bool) (v : Fn) (a b : Fm) (x y : Int), wd v (fun t => x * a t + y * b t) s = x * wd v a s + y * wd v b s
  | [], _, _, _, x, y => by simp [wd]
  | false :: s, v, a, b, x, y => by
    simp only [wd]
    exact wd_lin s (sh v) (inF a false) (inF b false) x y
  | true :: s, v, a, b, x, y => by
    simp only [wd]
    have := wd_lin s (sh v) (inF a true) (inF b true) x y
    rw [show inF (fun t => x * a t + y * b t) true = fun t => x * inF a true t + y * inF b true t from rfl, this]
    grind
theorem ct_lin : ∀ (s : List Bool) (v : Fn) (a b : Fm) (x y : Int), ct v (fun t => x * a t + y * b t) s = x * ct v a s + y * ct v b s
  | [], _, _, _, x, y => by simp [ct]
  | false :: s, v, a, b, x, y => by
    simp only [ct]
    have := ct_lin s (sh v) (inF a false) (inF b false) x y
    rw [show inF (fun t => x * a t + y * b t) false = fun t => x * inF a false t + y * inF b false t from rfl, this]
    grind
  | true :: s, v, a, b, x, y => by
    simp only [ct]
    have := ct_lin s (sh v) (inF a true) (inF b true) x y
    rw [show inF (fun t => x * a t + y * b t) true = fun t => x * inF a true t + y * inF b true t from rfl, this]
    grind
theorem wd_smul (v : Fn) (a : Fm) (x : Int) (s : List Bool) : wd v (fun t => x * a t) s = x * wd v a s := by
  have := wd_lin s v a a x 0
  simpa using this
theorem ct_smul (v : Fn) (a : Fm) (x : Int) (s : List Bool) : ct v (fun t => x * a t) s = x * ct v a s := by
  have := ct_lin s v a a x 0
  simpa using this
theorem wd_zero (v : Fn) (s : List Bool) : wd v (fun _ => 0) s = 0 := by
  have := wd_smul v (fun _ => 0) 0 s
  simpa using this
theorem ct_zero (v : Fn) (s : List Bool) : ct v (fun _ => 0) s = 0 := by
  have := ct_smul v (fun _ => 0) 0 s
  simpa using this
theorem wd_row : ∀ (s : List Bool) (u v : Fn) (a : Fm) (x y : Int), wd (fun i => x * u i + y * v i) a s = x * wd u a s + y * wd v a s
  | [], _, _, _, x, y => by simp [wd]
  | false :: s, u, v, a, x, y => by
    simp only [wd]
    exact wd_row s (sh u) (sh v) (inF a false) x y
  | true :: s, u, v, a, x, y => by
    simp only [wd]
    have := wd_row s (sh u) (sh v) (inF a true) x y
    rw [show sh (fun i => x * u i + y * v i) = fun i => x * sh u i + y * sh v i from rfl, this]
    grind
theorem wd_anti : ∀ (s : List Bool) (u v : Fn) (a : Fm), wd u (wd v a) s = -wd v (wd u a) s
  | [], _, _, _ => by simp [wd]
  | false :: s, u, v, a => by
    simp only [wd]
    exact wd_anti s (sh u) (sh v) (inF a false)
  | true :: s, u, v, a => by
    simp only [wd]
    have h := wd_anti s (sh u) (sh v) (inF a true)
    have e1 : inF (wd v a) true = fun t => v 0 * inF a false t + (-1) * wd (sh v) (inF a true) t := by
      funext t
      show wd v a (true :: t) = _
      simp only [wd, inF]
      grind
    have e2 : inF (wd u a) true = fun t => u 0 * inF a false t + (-1) * wd (sh u) (inF a true) t := by
      funext t
      show wd u a (true :: t) = _
      simp only [wd, inF]
      grind
    rw [e1, e2, wd_lin, wd_lin, h]
    grind
theorem wd_self (s : List Bool) (u : Fn) (a : Fm) : wd u (wd u a) s = 0 := by
  have := wd_anti s u u a
  omega
theorem ct_wd : ∀ (s : List Bool) (v w : Fn) (a : Fm), ct v (wd w a) s = dt s.length v w * a s - wd w (ct v a) s
  | [], _, _, _ => by simp [ct, wd, dt]
  | false :: s, v, w, a => by
    simp only [ct, wd, List.length_cons, dt]
    have h := ct_wd s (sh v) (sh w) (inF a false)
    have e0 : inF (wd w a) false = wd (sh w) (inF a false) := rfl
    have e1 : inF (ct v a) false = fun t => 1 * ct (sh v) (inF a false) t + v 0 * inF a true t := by
      funext t
      show ct v a (false :: t) = _
      simp only [ct, inF]
      grind
    rw [e0, e1, h, wd_lin]
    simp only [inF]
    grind
  | true :: s, v, w, a => by
    simp only [ct, wd, List.length_cons, dt]
    have h := ct_wd s (sh v) (sh w) (inF a true)
    have e1 : inF (wd w a) true = fun t => w 0 * inF a false t + (-1) * wd (sh w) (inF a true) t := by
      funext t
      show wd w a (true :: t) = _
      simp only [wd, inF]
      grind
    have e2 : inF (ct v a) true = fun t => (-1) * ct (sh v) (inF a true) t := by
      funext t
      show ct v a (true :: t) = _
      simp only [ct]
      grind
    rw [e1, e2, ct_lin, wd_smul, h]
    simp only [inF]
    grind
theorem ip_lin_l : ∀ (n : Nat) (a b c : Fm) (x y : Int), ip n (fun t => x * a t + y * b t) c = x * ip n a c + y * ip n b c
  | 0, a, b, c, x, y => by simp only [ip]; grind
  | n + 1, a, b, c, x, y => by
    simp only [ip]
    have h1 := ip_lin_l n (inF a false) (inF b false) (inF c false) x y
    have h2 := ip_lin_l n (inF a true) (inF b true) (inF c true) x y
    rw [show inF (fun t => x * a t + y * b t) false = fun t => x * inF a false t + y * inF b false t from rfl, show inF (fun t => x * a t + y * b t) true = fun t => x * inF a true t + y * inF b true t from rfl, h1, h2]
    grind
theorem ip_comm : ∀ (n : Nat) (a b : Fm), ip n a b = ip n b a
  | 0, a, b => by simp only [ip]; grind
  | n + 1, a, b => by simp only [ip]; rw [ip_comm n (inF a false), ip_comm n (inF a true)]
theorem ip_congr : ∀ (n : Nat) (a a' b b' : Fm), (∀ s, s.length = n → a s = a' s) → (∀ s, s.length = n → b s = b' s) → ip n a b = ip n a' b'
  | 0, a, a', b, b', h, h' => by simp only [ip]; rw [h [] rfl, h' [] rfl]
  | n + 1, a, a', b, b', h, h' => by
    simp only [ip]
    rw [ip_congr n (inF a false) (inF a' false) (inF b false) (inF b' false) (fun s hs => h _ (by simp [hs])) (fun s hs => h' _ (by simp [hs])), ip_congr n (inF a true) (inF a' true) (inF b true) (inF b' true) (fun s hs => h _ (by simp [hs])) (fun s hs => h' _ (by simp [hs]))]
theorem ip_nonneg : ∀ (n : Nat) (a : Fm), 0 ≤ ip n a a
  | 0, a => by simp only [ip]; exact sq_nonneg _
  | n + 1, a => by
    simp only [ip]
    have := ip_nonneg n (inF a false)
    have := ip_nonneg n (inF a true)
    omega
theorem ip_coef : ∀ (n : Nat) (a : Fm) (s : List Bool), s.length = n → a s * a s ≤ ip n a a
  | 0, a, [], _ => by simp [ip]
  | n + 1, a, false :: s, h => by
    simp only [ip]
    have h1 := ip_coef n (inF a false) s (by simpa using h)
    have h2 := ip_nonneg n (inF a true)
    simp only [inF] at h1
    show a (false :: s) * a (false :: s) ≤ _
    have : a (false :: s) * a (false :: s) ≤ ip n (inF a false) (inF a false) := h1
    omega
  | n + 1, a, true :: s, h => by
    simp only [ip]
    have h1 : a (true :: s) * a (true :: s) ≤ ip n (inF a true) (inF a true) := ip_coef n (inF a true) s (by simpa using h)
    have h2 := ip_nonneg n (inF a false)
    omega
theorem adj : ∀ (n : Nat) (v : Fn) (a b : Fm), ip n (ct v a) b = ip n a (wd v b)
  | 0, v, a, b => by simp [ip, ct, wd]
  | n + 1, v, a, b => by
    simp only [ip]
    have h1 := adj n (sh v) (inF a false) (inF b false)
    have h2 := adj n (sh v) (inF a true) (inF b true)
    have e1 : inF (ct v a) false = fun t => 1 * ct (sh v) (inF a false) t + v 0 * inF a true t := by
      funext t
      show ct v a (false :: t) = _
      simp only [ct, inF]
      grind
    have e2 : inF (ct v a) true = fun t => (-1) * ct (sh v) (inF a true) t + 0 * inF a true t := by
      funext t
      show ct v a (true :: t) = _
      simp only [ct]
      grind
    have e3 : inF (wd v b) false = wd (sh v) (inF b false) := rfl
    have e4 : inF (wd v b) true = fun t => v 0 * inF b false t + (-1) * wd (sh v) (inF b true) t := by
      funext t
      show wd v b (true :: t) = _
      simp only [wd, inF]
      grind
    rw [e1, e2, e3, e4, ip_lin_l, ip_lin_l, h1, h2, ip_comm n (inF a true) (fun t => v 0 * inF b false t + (-1) * wd (sh v) (inF b true) t), ip_lin_l, ip_comm n (inF b false) (inF a true), ip_comm n (wd (sh v) (inF b true)) (inF a true)]
    grind
theorem norm (n : Nat) (v : Fn) (a : Fm) : ip n (wd v a) (wd v a) + ip n (ct v a) (ct v a) = dt n v v * ip n a a := by
  have h1 := adj n v (wd v a) a
  have h2 := adj n v a (ct v a)
  have h3 : ip n (ct v (wd v a)) a = ip n (fun s => dt n v v * a s + (-1) * wd v (ct v a) s) a := ip_congr n _ _ _ _ (fun s hs => by rw [ct_wd, hs]; grind) fun _ _ => rfl
  rw [ip_lin_l, ip_comm n (wd v (ct v a)) a, ← h2] at h3
  rw [← h1, h3]
  grind
end EX
namespace EX
open PySem L2 L3 MA
noncomputable def W (rs : List Fn) : Fm := rs.foldr wd one
noncomputable def pr (n : Nat) (rs : List Fn) : Int := rs.foldr (fun r p => dt n r r * p) 1
theorem W_cons (r : Fn) (rs : List Fn) : W (r :: rs) = wd r (W rs) := rfl
theorem ip_zero (n : Nat) (a : Fm) : ip n (fun _ => 0) a = 0 := by
  have := ip_lin_l n (fun _ => 0) (fun _ => 0) a 0 0
  simpa using this
theorem ip_one : ∀ n : Nat, ip n one one = 1
  | 0 => rfl
  | n + 1 => by
    simp only [ip]
    have e1 : inF one false = one := rfl
    have e2 : inF one true = fun _ => 0 := rfl
    rw [e1, e2, ip_one n, ip_zero]; rfl
theorem dt_nonneg : ∀ (n : Nat) (v : Fn), 0 ≤ dt n v v
  | 0, _ => Int.le_refl _
  | n + 1, v => by
    have := dt_nonneg n (sh v)
    have := sq_nonneg (v 0)
    simp only [dt]
    omega
theorem pr_nonneg (n : Nat) : ∀ rs : List Fn, 0 ≤ pr n rs
  | [] => by show (0 : Int) ≤ 1; decide
  | r :: rs => Int.mul_nonneg (dt_nonneg n r) (pr_nonneg n rs)
theorem had (n : Nat) : ∀ rs : List Fn, ip n (W rs) (W rs) ≤ pr n rs
  | [] => by rw [show W [] = one from rfl, ip_one]; exact Int.le_refl _
  | r :: rs => by
    have h := norm n r (W rs)
    have h1 := ip_nonneg n (ct r (W rs))
    have h2 := Int.mul_le_mul_of_nonneg_left (had n rs) (dt_nonneg n r)
    show ip n (wd r (W rs)) (wd r (W rs)) ≤ dt n r r * pr n rs
    omega
theorem ct_one : ∀ (s : List Bool) (v : Fn), ct v one s = 0
  | [], _ => rfl
  | false :: s, v => by
    simp only [ct]
    rw [show inF one false = one from rfl, ct_one s]
    simp [one]
  | true :: s, v => by
    simp only [ct]
    rw [show inF one true = fun _ => 0 from rfl, ct_zero]; rfl
theorem ct_orth (n : Nat) (r : Fn) : ∀ rs : List Fn, (∀ x ∈ rs, dt n r x = 0) → ∀ s, s.length = n → ct r (W rs) s = 0
  | [], _, s, _ => ct_one s r
  | x :: rs, h, s, hs => by
    rw [W_cons, ct_wd, hs, h x (List.mem_cons_self ..)]
    have ih := ct_orth n r rs fun y hy => h y (List.mem_cons_of_mem _ hy)
    rw [wd_congr s x _ (fun _ => 0) fun t ht => ih t (ht.trans hs), wd_zero]
    omega
theorem wd_mem (x : Fn) : ∀ rs : List Fn, x ∈ rs → ∀ s, wd x (W rs) s = 0
  | r :: rs, h, s => by
    rcases List.mem_cons.mp h with rfl | h
    · exact wd_self s x (W rs)
    · rw [W_cons, wd_anti, wd_congr s r _ (fun _ => 0) fun t _ => wd_mem x rs h t, wd_zero]; rfl
theorem pr_pos (n : Nat) : ∀ rs : List Fn, (∀ r ∈ rs, 0 < dt n r r) → 0 < pr n rs
  | [], _ => by show (0 : Int) < 1; decide
  | r :: rs, h => Int.mul_pos (h r (List.mem_cons_self ..)) (pr_pos n rs fun x hx => h x (List.mem_cons_of_mem _ hx))
theorem had_eq (n : Nat) : ∀ rs : List Fn, (∀ r ∈ rs, 0 < dt n r r) → (ip n (W rs) (W rs) = pr n rs ↔ rs.Pairwise fun a b => dt n a b = 0)
  | [], _ => by
    rw [show W [] = one from rfl, ip_one]
    simp [pr]
  | r :: rs, h => by
    have ih := had_eq n rs fun x hx => h x (List.mem_cons_of_mem _ hx)
    have hr := h r (List.mem_cons_self ..)
    have hn := norm n r (W rs)
    have hc := ip_nonneg n (ct r (W rs))
    have hle := had n rs
    have hpos := pr_pos n rs fun x hx => h x (List.mem_cons_of_mem _ hx)
    rw [List.pairwise_cons]
    constructor
    · intro e
      have e : ip n (wd r (W rs)) (wd r (W rs)) = dt n r r * pr n rs := e
      have h2 := Int.mul_le_mul_of_nonneg_left hle (Int.le_of_lt hr)
      have c0 : ip n (ct r (W rs)) (ct r (W rs)) = 0 := by omega
      have e2 : dt n r r * ip n (W rs) (W rs) = dt n r r * pr n rs := by omega
      have e3 : ip n (W rs) (W rs) = pr n rs := Int.eq_of_mul_eq_mul_left (by omega) e2
      refine ⟨fun x hx => ?_, ih.mp e3⟩
      have k1 : ∀ s, s.length = n → wd x (ct r (W rs)) s = dt n r x * W rs s := fun s hs => by
        have z := ct_wd s r x (W rs)
        have z0 : ct r (wd x (W rs)) s = 0 := by
          have e4 : wd x (W rs) = fun _ => 0 := funext fun t => wd_mem x rs hx t
          rw [e4, ct_zero]
        rw [z0, hs] at z
        omega
      have k2 := norm n x (ct r (W rs))
      rw [c0, Int.mul_zero] at k2
      have k3 := ip_nonneg n (wd x (ct r (W rs)))
      have k4 := ip_nonneg n (ct x (ct r (W rs)))
      have k5 : ip n (wd x (ct r (W rs))) (wd x (ct r (W rs))) = 0 := by omega
      have k6 : ip n (wd x (ct r (W rs))) (wd x (ct r (W rs))) = dt n r x * (dt n r x * ip n (W rs) (W rs)) := by
        have f1 := ip_congr n (wd x (ct r (W rs))) (fun s => dt n r x * W rs s + 0 * W rs s) (wd x (ct r (W rs))) (fun s => dt n r x * W rs s + 0 * W rs s) (fun s hs => by rw [k1 s hs]; grind) (fun s hs => by rw [k1 s hs]; grind)
        rw [f1, ip_lin_l, ip_comm n (W rs), ip_lin_l]
        grind
      rw [k5, e3] at k6
      rcases Int.mul_eq_zero.mp k6.symm with z | z
      · exact z
      · rcases Int.mul_eq_zero.mp z with z | z
        · exact z
        · omega
    · rintro ⟨h1, h2⟩
      have e3 := ih.mpr h2
      have c0 : ip n (ct r (W rs)) (ct r (W rs)) = 0 := by
        rw [ip_congr n (ct r (W rs)) (fun _ => 0) (ct r (W rs)) (fun _ => 0) (ct_orth n r rs h1) (ct_orth n r rs h1), ip_zero]
      show ip n (wd r (W rs)) (wd r (W rs)) = dt n r r * pr n rs
      rw [← e3]
      omega
theorem W_perm {l l' : List Fn} (h : l.Perm l') : (∀ s, W l s = W l' s) ∨ (∀ s, W l s = -W l' s) := by
  induction h with
  | nil => exact .inl fun _ => rfl
  | @cons x l1 l2 _ ih =>
    rcases ih with h | h
    · exact .inl fun s => wd_congr s x _ _ fun t _ => h t
    · right
      intro s
      have e : wd x (W l1) s = wd x (fun t => (-1) * W l2 t) s := wd_congr s x _ _ fun t _ => by rw [h t]; omega
      rw [W_cons, W_cons, e, wd_smul]
      omega
  | swap x y l => exact .inr fun s => wd_anti s y x (W l)
  | trans _ _ h1 h2 =>
    rcases h1 with h1 | h1 <;> rcases h2 with h2 | h2
    · exact .inl fun s => (h1 s).trans (h2 s)
    · exact .inr fun s => (h1 s).trans (h2 s)
    · exact .inr fun s => by rw [h1 s, h2 s]
    · exact .inl fun s => by rw [h1 s, h2 s]; omega
theorem norm_perm (n : Nat) {l l' : List Fn} (h : l.Perm l') : ip n (W l) (W l) = ip n (W l') (W l') := by
  rcases W_perm h with h | h
  · exact ip_congr n _ _ _ _ (fun s _ => h s) fun s _ => h s
  · have e := ip_congr n (W l) (fun s => (-1) * W l' s + 0 * W l' s) (W l) (fun s => (-1) * W l' s + 0 * W l' s) (fun s _ => by rw [h s]; grind) (fun s _ => by rw [h s]; grind)
    rw [e, ip_lin_l, ip_comm n (W l'), ip_lin_l]
    grind
theorem wd_deg : ∀ (s : List Bool) (v : Fn) (a : Fm), (∀ t, t.length = s.length → t.count true + 1 = s.count true → a t = 0) → wd v a s = 0
  | [], _, _, _ => rfl
  | false :: s, v, a, h => by
    simp only [wd]
    exact wd_deg s (sh v) _ fun t h1 h2 => h (false :: t) (by simp [h1]) (by simpa using h2)
  | true :: s, v, a, h => by
    simp only [wd]
    rw [h (false :: s) rfl (by simp), wd_deg s (sh v) (inF a true) fun t h1 h2 => h (true :: t) (by simp [h1]) (by simp; omega)]
    omega
theorem one_deg : ∀ s : List Bool, s.count true ≠ 0 → one s = 0
  | [], h => by simp at h
  | false :: s, h => one_deg s (by simpa using h)
  | true :: _, _ => rfl
theorem W_deg : ∀ (rs : List Fn) (s : List Bool), s.count true ≠ rs.length → W rs s = 0
  | [], s, h => one_deg s h
  | r :: rs, s, h => wd_deg s r _ fun t _ h2 => W_deg rs t (by simp at h; omega)
theorem ip_top : ∀ (n : Nat) (a : Fm), (∀ s, s.length = n → s.count true ≠ n → a s = 0) → ip n a a = a (List.replicate n true) * a (List.replicate n true)
  | 0, a, _ => rfl
  | n + 1, a, h => by
    simp only [ip]
    have e1 : ip n (inF a false) (inF a false) = 0 := by
      rw [ip_congr n (inF a false) (fun _ => 0) (inF a false) (fun _ => 0) (fun s hs => h (false :: s) (by simp [hs]) (by have := List.count_le_length (a := true) (l := s); simp; omega)) (fun s hs => h (false :: s) (by simp [hs]) (by have := List.count_le_length (a := true) (l := s); simp; omega)), ip_zero]
    rw [e1, ip_top n (inF a true) fun s hs hc => h (true :: s) (by simp [hs]) (by simp; omega)]
    show 0 + a (true :: List.replicate n true) * a (true :: List.replicate n true) = _
    rw [← List.replicate_succ]
    omega
theorem norm_top {n : Nat} {rs : List Fn} (h : rs.length = n) : ip n (W rs) (W rs) = W rs (List.replicate n true) * W rs (List.replicate n true) := ip_top n _ fun s _ hc => W_deg rs s (by omega)
theorem wd_rowcongr : ∀ (s : List Bool) (u v : Fn) (a : Fm), (∀ i, i < s.length → u i = v i) → wd u a s = wd v a s
  | [], _, _, _, _ => rfl
  | false :: s, u, v, a, h => by
    simp only [wd]
    exact wd_rowcongr s (sh u) (sh v) _ fun i hi => h (i + 1) (by simp; omega)
  | true :: s, u, v, a, h => by
    simp only [wd]
    rw [h 0 (by simp), wd_rowcongr s (sh u) (sh v) (inF a true) fun i hi => h (i + 1) (by simp; omega)]
noncomputable def pf (t : Nat) (a : Fm) : Fm := fun q => a (List.replicate t true ++ q)
noncomputable def sg (t : Nat) : Int := if t % 2 = 0 then 1 else -1
theorem sg_succ (t : Nat) : sg (t + 1) = -sg t := by
  unfold sg
  by_cases h : t % 2 = 0
  · rw [if_pos h, if_neg (by omega)]
  · rw [if_neg h, if_pos (by omega)]; rfl
theorem sg_sq (t : Nat) : sg t * sg t = 1 := by unfold sg; split <;> rfl
theorem sg_pm (t : Nat) : sg t = 1 ∨ sg t = -1 := by unfold sg; split; exact .inl rfl; exact .inr rfl
theorem wd_pre : ∀ (t : Nat) (v : Fn) (a : Fm) (q : List Bool), (∀ i, i < t → v i = 0) → wd v a (List.replicate t true ++ q) = sg t * wd (fun i => v (i + t)) (pf t a) q
  | 0, v, a, q, _ => by
    show wd v a q = 1 * wd v a q
    omega
  | t + 1, v, a, q, h => by
    rw [List.replicate_succ, List.cons_append]
    simp only [wd]
    rw [h 0 (by omega), wd_pre t (sh v) (inF a true) q fun i hi => h (i + 1) (by omega), sg_succ]
    have e : (fun i => sh v (i + t)) = fun i => v (i + (t + 1)) := by
      funext i
      show v (i + t + 1) = _
      rw [Nat.add_assoc]
    rw [e, show pf t (inF a true) = pf (t + 1) a from rfl]
    grind
theorem one_false : ∀ k : Nat, one (List.replicate k false) = 1
  | 0 => rfl
  | k + 1 => one_false k
noncomputable def un (j k : Nat) : List Bool := List.replicate j false ++ true :: List.replicate k false
theorem wd_un : ∀ (j k : Nat) (v : Fn), wd v one (un j k) = v j
  | 0, k, v => by
    show v 0 * one (List.replicate k false) - wd (sh v) (inF one true) (List.replicate k false) = v 0
    rw [one_false, show inF one true = fun _ => 0 from rfl, wd_zero]
    omega
  | j + 1, k, v => wd_un j k (sh v)
theorem wd_two (j k : Nat) (u v : Fn) : wd u (wd v one) (true :: un j k) = u 0 * v (j + 1) - v 0 * u (j + 1) := by
  simp only [wd]
  rw [show inF one false = one from rfl, wd_un]
  have e : inF (wd v one) true = fun t => v 0 * one t := by
    funext t
    show v 0 * one t - wd (sh v) (fun _ => 0) t = _
    rw [wd_zero]
    omega
  rw [e, wd_smul, wd_un]
  rfl
end EX
namespace EX
open PySem L2 L3 MA
noncomputable def pad (t : Nat) (f : Fn) : Fn := fun i => if i < t then 0 else f (i - t)
noncomputable def dst (n : Nat) (us : List Fn) : Int := W us (List.replicate us.length true ++ List.replicate (n - us.length) false)
theorem count_none : ∀ q : List Bool, q.count true = 0 → q = List.replicate q.length false
  | [], _ => rfl
  | false :: q, h => by
    have := count_none q (by simpa using h)
    rw [List.length_cons, List.replicate_succ, ← this]
  | true :: q, h => by simp at h
theorem count_pre (t : Nat) (q : List Bool) : (List.replicate t true ++ q).count true = t + q.count true := by
  rw [List.count_append, List.count_replicate_self]
theorem pf_W {n : Nat} {us : List Fn} {q : List Bool} (hq : q.length = n - us.length) : pf us.length (W us) q = dst n us * one q := by
  by_cases h : q.count true = 0
  · have e := count_none q h
    rw [hq] at e
    rw [e, one_false]
    show W us _ = W us _ * 1
    omega
  · rw [one_deg q h]
    show W us (List.replicate us.length true ++ q) = _
    rw [W_deg us _ (by rw [count_pre]; omega)]
    omega
theorem pad_sh (t : Nat) (f : Fn) : (fun i => pad t f (i + t)) = f := by
  funext i
  unfold pad
  rw [if_neg (by omega), Nat.add_sub_cancel]
theorem coef1 {n : Nat} {us : List Fn} (f : Fn) {q : List Bool} (hq : q.length = n - us.length) : wd (pad us.length f) (W us) (List.replicate us.length true ++ q) = sg us.length * (dst n us * wd f one q) := by
  rw [wd_pre us.length (pad us.length f) (W us) q fun i hi => by unfold pad; rw [if_pos hi]]
  rw [pad_sh, wd_congr q f _ (fun t => dst n us * one t) fun t ht => pf_W (ht.trans hq), wd_smul]
structure BI (n : Nat) (us : List Fn) (d : Int) (ps : List (Fn × Fn)) : Prop where
  len : us.length + ps.length = n
  eps : ∃ e : Int, (e = 1 ∨ e = -1) ∧ d = e * dst n us
  dne : d ≠ 0
  inv : ∀ p ∈ ps, ∀ s, s.length = n → wd (pad us.length p.2) (W us) s = d * wd p.1 (W us) s
theorem pre_len {t n : Nat} {q : List Bool} (h : t ≤ n) (hq : q.length = n - t) : (List.replicate t true ++ q).length = n := by
  rw [List.length_append, List.length_replicate, hq]; omega
theorem BI.at {n : Nat} {us : List Fn} {d : Int} {ps : List (Fn × Fn)} (h : BI n us d ps) {p : Fn × Fn} (hp : p ∈ ps) {q : List Bool} (hq : q.length = n - us.length) : ∃ e : Int, (e = 1 ∨ e = -1) ∧ wd p.1 (W us) (List.replicate us.length true ++ q) = e * wd p.2 one q := by
  have hl := h.len
  have hi := h.inv p hp _ (pre_len (by omega) hq)
  rw [coef1 p.2 hq] at hi
  obtain ⟨e, he, hd⟩ := h.eps
  have hne := h.dne
  have h0 : dst n us ≠ 0 := fun z => hne (by rw [hd, z, Int.mul_zero])
  generalize wd p.1 (W us) (List.replicate us.length true ++ q) = X at *
  generalize wd p.2 one q = y at *
  generalize dst n us = z at *
  have hs := sg_pm us.length
  generalize sg us.length = σ at *
  subst hd
  have k : z * (σ * y) = z * (e * X) := by grind
  have k2 := Int.eq_of_mul_eq_mul_left h0 k
  refine ⟨e * σ, pm_mul he hs, ?_⟩
  rcases he with rfl | rfl <;> rcases hs with rfl | rfl <;> omega
theorem un_len (j k : Nat) : (un j k).length = j + 1 + k := by
  unfold un
  rw [List.length_append, List.length_replicate, List.length_cons, List.length_replicate]; omega
theorem BI.bound {n : Nat} {us : List Fn} {d : Int} {ps : List (Fn × Fn)} (h : BI n us d ps) {p : Fn × Fn} (hp : p ∈ ps) {j : Nat} (hj : j < ps.length) : p.2 j * p.2 j ≤ pr n (p.1 :: us) := by
  have hl := h.len
  have hq : (un j (ps.length - 1 - j)).length = n - us.length := by rw [un_len]; omega
  obtain ⟨e, he, hx⟩ := h.at hp hq
  rw [wd_un] at hx
  have h1 := ip_coef n (W (p.1 :: us)) _ (pre_len (by omega) hq)
  rw [W_cons, hx] at h1
  have h2 := had n (p.1 :: us)
  rw [W_cons] at h2
  have h3 : e * p.2 j * (e * p.2 j) = p.2 j * p.2 j := by rcases he with rfl | rfl <;> grind
  omega
theorem both {n : Nat} {us : List Fn} {d : Int} {ps : List (Fn × Fn)} (h : BI n us d ps) {l v : Fn × Fn} (hl : l ∈ ps) (hv : v ∈ ps) {s : List Bool} (hs : s.length = n) : wd (pad us.length l.2) (wd (pad us.length v.2) (W us)) s = d * d * wd l.1 (wd v.1 (W us)) s := by
  rw [wd_congr s _ _ (fun t => d * wd v.1 (W us) t) fun t ht => h.inv v hv t (ht.trans hs), wd_smul, wd_anti, wd_congr s _ _ (fun t => d * wd l.1 (W us) t) fun t ht => h.inv l hl t (ht.trans hs), wd_smul, wd_anti]
  grind
theorem exact_ {n : Nat} {us : List Fn} {d : Int} {ps : List (Fn × Fn)} (h : BI n us d ps) {l v : Fn × Fn} (hl : l ∈ ps) (hv : v ∈ ps) {e : Int} (he : e = 1 ∨ e = -1) (hd : d = e * dst n us) {j k : Nat} (hk : 1 + (j + 1 + k) = ps.length) :
    l.2 0 * v.2 (j + 1) - v.2 0 * l.2 (j + 1) = d * (e * wd l.1 (wd v.1 (W us)) (List.replicate us.length true ++ (true :: un j k))) := by
  have hn := h.len
  have hq : (true :: un j k).length = n - us.length := by rw [List.length_cons, un_len]; omega
  have b := both h hl hv (pre_len (by omega) hq)
  rw [wd_pre us.length (pad us.length l.2) _ _ fun i hi => by unfold pad; rw [if_pos hi]] at b
  rw [pad_sh, wd_congr _ l.2 _ (fun t => (sg us.length * dst n us) * wd v.2 one t) fun t ht => by
    show wd (pad us.length v.2) (W us) (List.replicate us.length true ++ t) = _
    rw [coef1 v.2 (ht.trans hq)]; grind, wd_smul, wd_two] at b
  have hne := h.dne
  have h0 : dst n us ≠ 0 := fun z => hne (by rw [hd, z, Int.mul_zero])
  have s2 := sg_sq us.length
  generalize wd l.1 (wd v.1 (W us)) (List.replicate us.length true ++ (true :: un j k)) = γ at *
  generalize l.2 0 * v.2 (j + 1) - v.2 0 * l.2 (j + 1) = X at *
  generalize dst n us = z at *
  generalize sg us.length = σ at *
  have e2 : e * e = 1 := by rcases he with rfl | rfl <;> rfl
  subst hd
  have k1 : σ * (σ * z * X) = z * X := by grind
  rw [k1] at b
  have k2 : z * X = z * (z * γ) := by grind
  have k3 := Int.eq_of_mul_eq_mul_left h0 k2
  grind
theorem BI.step {n : Nat} {us : List Fn} {d : Int} {ps : List (Fn × Fn)} (h : BI n us d ps) {l : Fn × Fn} (hl : l ∈ ps) (h0 : l.2 0 ≠ 0) {rest : List (Fn × Fn)} (hr : ∀ v ∈ rest, v ∈ ps) (hlen : rest.length + 1 = ps.length) :
    ∃ T : Fn × Fn → Fn, (∀ v ∈ rest, ∀ j, j < rest.length → l.2 0 * v.2 (j + 1) - v.2 0 * l.2 (j + 1) = d * T v j) ∧ BI n (l.1 :: us) (l.2 0) (rest.map fun v => (v.1, T v)) := by
  obtain ⟨e, he, hd⟩ := h.eps
  have hn := h.len
  have hx : ∀ v ∈ rest, ∀ j, j < rest.length → l.2 0 * v.2 (j + 1) - v.2 0 * l.2 (j + 1) = d * (e * wd l.1 (wd v.1 (W us)) (List.replicate us.length true ++ (true :: un j (rest.length - 1 - j)))) := fun v hv j hj => exact_ h hl (hr v hv) he hd (by omega)
  refine ⟨fun v j => e * wd l.1 (wd v.1 (W us)) (List.replicate us.length true ++ (true :: un j (rest.length - 1 - j))), hx, ?_⟩
  generalize hT : (fun (v : Fn × Fn) (j : Nat) => e * wd l.1 (wd v.1 (W us)) (List.replicate us.length true ++ (true :: un j (rest.length - 1 - j)))) = T
  have hx' : ∀ v ∈ rest, ∀ j, j < rest.length → l.2 0 * v.2 (j + 1) - v.2 0 * l.2 (j + 1) = d * T v j := by rw [← hT]; exact hx
  refine ⟨by rw [List.length_cons, List.length_map]; omega, ?_, h0, ?_⟩
  · have hq : (un 0 (n - us.length - 1)).length = n - us.length := by rw [un_len]; omega
    obtain ⟨e', he', hc⟩ := h.at hl hq
    rw [wd_un] at hc
    refine ⟨e', he', ?_⟩
    have hdst : dst n (l.1 :: us) = e' * l.2 0 := by
      rw [← hc]
      show wd l.1 (W us) (List.replicate (us.length + 1) true ++ List.replicate (n - (us.length + 1)) false) = _
      rw [List.replicate_succ', List.append_assoc, show n - (us.length + 1) = n - us.length - 1 by omega]
      rfl
    rw [hdst]
    rcases he' with rfl | rfl <;> omega
  · intro p hp s hs
    obtain ⟨v, hv, rfl⟩ := List.mem_map.mp hp
    have hvp := hr v hv
    show wd (pad (us.length + 1) (T v)) (wd l.1 (W us)) s = l.2 0 * wd v.1 (wd l.1 (W us)) s
    have a1 : wd (pad us.length v.2) (wd l.1 (W us)) s = d * wd v.1 (wd l.1 (W us)) s := by
      rw [wd_anti, wd_congr s l.1 _ (fun t => d * wd v.1 (W us) t) fun t ht => h.inv v hvp t (ht.trans hs), wd_smul, wd_anti]
      grind
    have a2 : wd (pad us.length l.2) (wd l.1 (W us)) s = 0 := by
      rw [wd_anti, wd_congr s l.1 _ (fun t => d * wd l.1 (W us) t) fun t ht => h.inv l hl t (ht.trans hs), wd_smul, wd_self]
      omega
    have a3 : wd (fun i => d * pad (us.length + 1) (T v) i + 0 * l.1 i) (wd l.1 (W us)) s = wd (fun i => l.2 0 * pad us.length v.2 i + (-v.2 0) * pad us.length l.2 i) (wd l.1 (W us)) s := by
      refine wd_rowcongr s _ _ _ fun i hi => ?_
      unfold pad
      by_cases c1 : i < us.length
      · rw [if_pos (by omega), if_pos c1, if_pos c1]; omega
      · by_cases c2 : i < us.length + 1
        · have c3 : i - us.length = 0 := by omega
          rw [if_pos c2, if_neg c1, if_neg c1, c3]; grind
        · have c3 : i - us.length = i - (us.length + 1) + 1 := by omega
          rw [if_neg c2, if_neg c1, if_neg c1, c3]
          have := hx' v hv (i - (us.length + 1)) (by omega)
          grind
    rw [wd_row, wd_row, a1, a2] at a3
    have a4 : d * wd (pad (us.length + 1) (T v)) (wd l.1 (W us)) s = d * (l.2 0 * wd v.1 (wd l.1 (W us)) s) := by grind
    exact Int.eq_of_mul_eq_mul_left h.dne a4
theorem BI.init {n : Nat} {rs : List Fn} (hl : rs.length = n) : BI n [] 1 (rs.map fun r => (r, r)) where
  len := by simp [hl]
  eps := ⟨1, .inl rfl, by
    show (1 : Int) = 1 * one (List.replicate (n - 0) false)
    rw [one_false]; rfl⟩
  dne := by decide
  inv := fun p hp s _ => by
    obtain ⟨r, _, rfl⟩ := List.mem_map.mp hp
    have : pad 0 r = r := by
      funext i
      unfold pad
      rw [if_neg (by omega)]; rfl
    show wd (pad 0 r) one s = 1 * wd r one s
    rw [this]
    omega
theorem BI.last {n : Nat} {us : List Fn} {d : Int} {p : Fn × Fn} (h : BI n us d [p]) : p.2 0 * p.2 0 = ip n (W (p.1 :: us)) (W (p.1 :: us)) := by
  have hn := h.len
  have hq : (un 0 0).length = n - us.length := by rw [un_len]; simp at hn; omega
  obtain ⟨e, he, hx⟩ := h.at (List.mem_singleton.mpr rfl) hq
  rw [wd_un] at hx
  have ht : List.replicate us.length true ++ un 0 0 = List.replicate n true := by
    show List.replicate us.length true ++ [true] = _
    rw [← List.replicate_succ', show us.length + 1 = n by simpa using hn]
  rw [ht] at hx
  rw [norm_top (by simpa using hn), W_cons, hx]
  rcases he with rfl | rfl <;> grind
noncomputable def fw (vs : List Fn) (a : Fm) : Fm := vs.foldr wd a
theorem fw_congr : ∀ (vs : List Fn) (a b : Fm) (s : List Bool), (∀ t, t.length = s.length → a t = b t) → fw vs a s = fw vs b s
  | [], a, b, s, h => h s rfl
  | v :: vs, a, b, s, h => wd_congr s v _ _ fun t ht => fw_congr vs a b t fun u hu => h u (hu.trans ht)
theorem fw_smul : ∀ (vs : List Fn) (a : Fm) (x : Int) (s : List Bool), fw vs (fun t => x * a t) s = x * fw vs a s
  | [], _, _, _ => rfl
  | v :: vs, a, x, s => by
    show wd v (fw vs fun t => x * a t) s = x * wd v (fw vs a) s
    rw [wd_congr s v _ (fun t => x * fw vs a t) fun t _ => fw_smul vs a x t, wd_smul]
theorem fw_mv : ∀ (vs : List Fn) (x : Fn) (a : Fm) (s : List Bool), wd x (fw vs a) s = sg vs.length * fw vs (wd x a) s
  | [], x, a, s => by
    show wd x a s = 1 * wd x a s
    omega
  | v :: vs, x, a, s => by
    show wd x (wd v (fw vs a)) s = sg (vs.length + 1) * wd v (fw vs (wd x a)) s
    rw [wd_anti, wd_congr s v _ (fun t => sg vs.length * fw vs (wd x a) t) fun t _ => fw_mv vs x a t, wd_smul, sg_succ]
    grind
theorem fw_pad {n : Nat} {us : List Fn} {d : Int} : ∀ (ps : List (Fn × Fn)), (∀ p ∈ ps, ∀ s, s.length = n → wd (pad us.length p.2) (W us) s = d * wd p.1 (W us) s) → ∃ c : Int, (d ≠ 0 → c ≠ 0) ∧ ∀ s, s.length = n → fw (ps.map fun p => pad us.length p.2) (W us) s = c * fw (ps.map fun p => p.1) (W us) s
  | [], _ => ⟨1, fun _ => by decide, fun s _ => by
    show W us s = 1 * W us s
    omega⟩
  | p :: ps, h => by
    obtain ⟨c, hc, ih⟩ := fw_pad ps fun q hq => h q (List.mem_cons_of_mem _ hq)
    refine ⟨c * d, fun hd => Int.mul_ne_zero (hc hd) hd, fun s hs => ?_⟩
    show wd (pad us.length p.2) (fw (ps.map fun p => pad us.length p.2) (W us)) s = c * d * wd p.1 (fw (ps.map fun p => p.1) (W us)) s
    rw [wd_congr s _ _ (fun t => c * fw (ps.map fun p => p.1) (W us) t) fun t ht => ih t (ht.trans hs), wd_smul, fw_mv, fw_mv, fw_congr _ _ (fun t => d * wd p.1 (W us) t) s fun t ht => h p (List.mem_cons_self ..) t (ht.trans hs), fw_smul]
    grind
theorem fw_pre {n : Nat} {us : List Fn} : ∀ (fs : List Fn) (q : List Bool), q.length = n - us.length → ∃ c : Int, fw (fs.map (pad us.length)) (W us) (List.replicate us.length true ++ q) = c * fw fs one q ∧ ∀ q', q'.length = n - us.length → fw (fs.map (pad us.length)) (W us) (List.replicate us.length true ++ q') = c * fw fs one q'
  | [], q, hq => ⟨dst n us, pf_W hq, fun q' hq' => pf_W hq'⟩
  | f :: fs, q, hq => by
    obtain ⟨c, _, ih⟩ := fw_pre fs q hq
    have key : ∀ q', q'.length = n - us.length → fw ((f :: fs).map (pad us.length)) (W us) (List.replicate us.length true ++ q') = sg us.length * c * fw (f :: fs) one q' := fun q' hq' => by
      show wd (pad us.length f) (fw (fs.map (pad us.length)) (W us)) (List.replicate us.length true ++ q') = sg us.length * c * wd f (fw fs one) q'
      rw [wd_pre us.length (pad us.length f) _ q' fun i hi => by unfold pad; rw [if_pos hi]]
      rw [pad_sh, wd_congr q' f (pf us.length (fw (fs.map (pad us.length)) (W us))) (fun t => c * fw fs one t) fun t ht => ih t (ht.trans hq'), wd_smul]
      grind
    exact ⟨sg us.length * c, key q hq, key⟩
theorem fw_none : ∀ (fs : List Fn), (∀ f ∈ fs, f 0 = 0) → ∀ q, fw fs one (true :: q) = 0
  | [], _, _ => rfl
  | f :: fs, h, q => by
    show wd f (fw fs one) (true :: q) = 0
    simp only [wd]
    have ih := fw_none fs fun g hg => h g (List.mem_cons_of_mem _ hg)
    rw [h f (List.mem_cons_self ..), wd_congr q (sh f) (inF (fw fs one) true) (fun _ => 0) fun t _ => ih t, wd_zero]
    omega
theorem BI.none {n : Nat} {us : List Fn} {d : Int} {ps : List (Fn × Fn)} (h : BI n us d ps) (hp : ps ≠ []) (h0 : ∀ p ∈ ps, p.2 0 = 0) : ip n (W ((ps.map fun p => p.1) ++ us)) (W ((ps.map fun p => p.1) ++ us)) = 0 := by
  have hn := h.len
  have hW : W ((ps.map fun p => p.1) ++ us) = fw (ps.map fun p => p.1) (W us) := by
    unfold W fw
    rw [List.foldr_append]
  obtain ⟨c, hc, hf⟩ := fw_pad ps h.inv
  have hq : (List.replicate ps.length true).length = n - us.length := by rw [List.length_replicate]; omega
  obtain ⟨c2, h2, _⟩ := fw_pre (n := n) (us := us) (ps.map fun p => p.2) (List.replicate ps.length true) hq
  have hz : fw (ps.map fun p => p.2) one (List.replicate ps.length true) = 0 := by
    cases ps with
    | nil => exact absurd rfl hp
    | cons p ps => exact fw_none _ (fun f hf => by
        obtain ⟨q, hq, rfl⟩ := List.mem_map.mp hf
        exact h0 q hq) _
  have ht : List.replicate us.length true ++ List.replicate ps.length true = List.replicate n true := by
    rw [List.replicate_append_replicate, hn]
  rw [hz, Int.mul_zero, ht, List.map_map] at h2
  have h3 := hf (List.replicate n true) (by simp)
  have h4 : fw (ps.map fun p => pad us.length p.2) (W us) (List.replicate n true) = 0 := h2
  rw [h4] at h3
  have h5 : fw (ps.map fun p => p.1) (W us) (List.replicate n true) = 0 := by
    rcases Int.mul_eq_zero.mp h3.symm with z | z
    · exact absurd z (hc h.dne)
    · exact z
  rw [norm_top (by rw [List.length_append, List.length_map]; omega), hW, h5]
  rfl
end EX
namespace FN
open PySem L2 L3
noncomputable def B1_first_place_with_lead  : FS :=
 (fSet 1 (fV2 addD (fMv 1) (fC (.int 1))))
noncomputable def F_first_place_with_lead  : FS :=
 (fSeq (fSet 1 (fC (.int 0)))
 (fSeq (whileGo (fAndT (fTst (fB gLtI (fVar 1) (fN gLen (fCons (fVar 0) fNil)))) (fTst (fB (gEq false) (fIx (fIx (fVar 0) (fVar 1)) (fC (.int 0))) (fC (.int 0))))) (B1_first_place_with_lead) 64)
 (fRet (fMv 1))))
noncomputable def G_first_place_with_lead : FD := runF 2 (F_first_place_with_lead )
noncomputable def F_without_lead  : FS :=
 (fRet (fComp [none, some 1, some 0, some 2] 0 (fiR2 (fC (.int 1)) (fN gLen (fCons (fVar 0) fNil))) fYes (fB gDivM (fB gSubI (fV2 mulD (fIx (fVar 1) (fC (.int 0))) (fIx (fVar 2) (fVar 0))) (fV2 mulD (fIx (fVar 2) (fC (.int 0))) (fIx (fVar 1) (fVar 0)))) (fVar 3))))
noncomputable def G_without_lead : FD := runF 3 (F_without_lead )
noncomputable def B1_determinant (g_need_square : FD) (g_first_place_with_lead : FD) (g_without_lead : FD) : FS :=
 (fSeq (fSet 4 (fCall 1 g_first_place_with_lead (fCons (fVar 1) fNil)))
 (fSeq (fIfS (fTst (fB (gEq false) (fVar 4) (fN gLen (fCons (fVar 1) fNil)))) (fRet (fC (.int 0))) fNext)
 (fSeq (fIfS (fTst (fB (gEq false) (fB gModI (fVar 4) (fC (.int 2))) (fC (.int 1)))) (fSet 2 (fU gNeg (fVar 2))) fNext)
 (fSeq (fSet 5 (fIx (fVar 1) (fVar 4)))
 (fSeq (fSet 6 (fV2 addD (fSl (fVar 1) fNoP (fPart (fVar 4))) (fSl (fVar 1) (fPart (fV2 addD (fVar 4) (fC (.int 1)))) fNoP)))
 (fSeq (fSet 1 (fComp [none, some 5, some 3] 0 (fiL (fMv 6)) fYes (fCall 3 g_without_lead (fCons (fVar 0) (fCons (fVar 1) (fCons (fVar 2) fNil))))))
 (fSet 3 (fIx (fVar 5) (fC (.int 0))))))))))
noncomputable def F_determinant (g_need_square : FD) (g_first_place_with_lead : FD) (g_without_lead : FD) : FS :=
 (fSeq (fDrop (fCall 1 g_need_square (fCons (fVar 0) fNil)))
 (fSeq (fSet 1 (fComp [none] 0 (fiL (fMv 0)) fYes (fList (fCons (fVar 0) fNil))))
 (fSeq (fSet 2 (fC (.int 1)))
 (fSeq (fSet 3 (fC (.int 1)))
 (fSeq (whileGo (fTst (fB gGtI (fN gLen (fCons (fVar 1) fNil)) (fC (.int 1)))) (B1_determinant g_need_square g_first_place_with_lead g_without_lead) 64)
 (fRet (fV2 mulD (fVar 2) (fIx (fIx (fVar 1) (fC (.int 0))) (fC (.int 0))))))))))
noncomputable def G_determinant : FD := runF 7 (F_determinant G_need_square G_first_place_with_lead G_without_lead)
noncomputable def B1_lawK13 (g__law_cell_at : FD) (g__law_table : FD) (g__law_square : FD) (g_determinant : FD) (g__law_whole : FD) (g__law_balanced : FD) : FS :=
 (fSet 6 (fV2 mulD (fVar 6) (fN gLen (fCons (fVar 2) fNil))))
noncomputable def F_lawK13 (g__law_cell_at : FD) (g__law_table : FD) (g__law_square : FD) (g_determinant : FD) (g__law_whole : FD) (g__law_balanced : FD) : FS :=
 (fSeq (fSet 1 (fCall 2 g__law_cell_at (fCons (fVar 0) (fCons (fC (.int 0)) fNil))))
 (fSeq (fSet 2 (fCall 3 g__law_table (fCons (fVar 0) (fCons (fC (.int 1)) (fCons (fC (.int 20)) fNil)))))
 (fSeq (fIfS (fTst (fB (gEq false) (fB gModI (fVar 1) (fC (.int 2))) (fC (.int 1)))) (fSet 2 (fCall 3 g__law_square (fCons (fVar 0) (fCons (fC (.int 1)) (fCons (fC (.int 8)) fNil))))) fNext)
 (fSeq (fIfS (fTst (fB (gEq false) (fB gModI (fB gDivI (fVar 1) (fC (.int 2))) (fC (.int 2))) (fC (.int 1)))) (fSeq (fSet 3 (fB gModI (fB gDivI (fVar 1) (fC (.int 4))) (fN gLen (fCons (fVar 2) fNil))))
 (fSeq (fSet 4 (fB gModI (fB gDivI (fVar 1) (fC (.int 128))) (fN gLen (fCons (fVar 2) fNil))))
 (fSto2 2 (fVar 3) (fVar 4) (fU gNeg (fIx (fIx (fVar 2) (fVar 3)) (fVar 4)))))) fNext)
 (fSeq (fSet 5 (fCall 1 g_determinant (fCons (fVar 2) fNil)))
 (fSeq (fSet 6 (fC (.int 1)))
 (fSeq (fFor 7 (fiR1 (fN gLen (fCons (fVar 2) fNil)))
 (B1_lawK13 g__law_cell_at g__law_table g__law_square g_determinant g__law_whole g__law_balanced))
 (fSeq (fIfS (fOrT (fNotT (fTru (fCall 1 g__law_whole (fCons (fVar 5) fNil)))) (fTst (fB gGtI (fV2 mulD (fVar 5) (fVar 5)) (fVar 6)))) (fRet (fC (.bl false))) fNext)
 (fRet (fB (gEq false) (fB (gEq false) (fV2 mulD (fVar 5) (fVar 5)) (fVar 6)) (fCall 1 g__law_balanced (fCons (fVar 2) fNil))))))))))))
noncomputable def G_lawK13 : FD := runF 8 (F_lawK13 G__law_cell_at G__law_table G__law_square G_determinant G__law_whole G__law_balanced)
end FN
namespace K13
open PySem PySem.Spec PyProof.Rows L2 L3 FN
noncomputable def top (i : Nat) : Stmt := PySem.Challenge.pw_plustables_k13_whole_none_greater.main.body.getD i (.Pass ⟨0, 0, 0, 0⟩)
structure Txt (K : PySem.W.Frag) (mg : Str → Option Value) : Prop where
  b_len : mg "len" = none
  b_range : mg "range" = none
  b_all : mg "all" = none
  b_list : mg "list" = none
  b_isinstance : mg "isinstance" = none
  b_int : mg "int" = none
  b_bool : mg "bool" = none
  b_sum : mg "sum" = none
  b_zip : mg "zip" = none
  c_MOST_ROWS : ∃ t, mg "MOST_ROWS" = some (.int 24 t)
  d__law_cell_at : Def K mg "_law_cell_at" "_law_cell_at" (top 13) ["script", "k"]
  d__law_stir : Def K mg "_law_stir" "_law_stir" (top 15) ["seed"]
  d__law_shuffled : Def K mg "_law_shuffled" "_law_shuffled" (top 19) ["script", "at", "rows"]
  d__law_by_prime : Def K mg "_law_by_prime" "_law_by_prime" (top 17) ["prime"]
  d__law_doubled : Def K mg "_law_doubled" "_law_doubled" (top 16) ["rows"]
  d__law_plain_table : Def K mg "_law_plain_table" "_law_plain_table" (top 18) ["size"]
  d__law_table : Def K mg "_law_table" "_law_table" (top 20) ["script", "at", "most"]
  d__law_square : Def K mg "_law_square" "_law_square" (top 21) ["script", "at", "most"]
  d_is_row : Def K mg "is_row" "is_row" (top 6) ["row", "size"]
  d_is_square : Def K mg "is_square" "is_square" (top 5) ["rows"]
  d_need_square : Def K mg "need_square" "need_square" (top 7) ["rows"]
  d_first_place_with_lead : Def K mg "first_place_with_lead" "first_place_with_lead" (top 10) ["rows"]
  d_without_lead : Def K mg "without_lead" "without_lead" (top 11) ["row", "leader", "divisor"]
  d_determinant : Def K mg "determinant" "determinant" (top 9) ["rows"]
  d__law_whole : Def K mg "_law_whole" "_law_whole" (top 14) ["found"]
  d__law_balanced : Def K mg "_law_balanced" "_law_balanced" (top 23) ["rows"]
  d_law : Def K mg "law" "law" (top 24) ["script"]
theorem sc__law_cell_at : FnScope ["script", "k"] ["script", "k"] (defScope (top 13)) := ⟨rfl, rfl, rfl, by decide +kernel, rfl, by decide +kernel, by decide +kernel⟩
theorem dv__law_cell_at {P : Program} {w : World} {K : PySem.W.Frag} {mg : Str → Option Value} {base : Heap} {k : Nat} (T : Txt K mg)  (f : Addr) (cdv : Value) (A : Around) (outer : List Env) (s : Shared) (H : Hp) (E : XK)
    (hr : Room k (A.deeper (envOfC "_law_cell_at" (defScope (top 13)) s.heap.objs.size f cdv))) : QSs (cxOf CX0 P w K mg base ["script", "k"] "_law_cell_at" (defScope (top 13)) f cdv A outer s H E).nox (defBody (top 13)) (F__law_cell_at ) :=
 have S := sc__law_cell_at
 (qss_cons (qs_if (qt_lt (qv 1) (q_len rfl T.b_len (qa_cons (qv 0) qa_nil))) (qss_one (qs_ret (q_ix (qv 0) (qv 1)))) qss_nil)
 (qss_one (qs_ret qi)))
theorem sc__law_stir : FnScope ["seed"] ["seed"] (defScope (top 15)) := ⟨rfl, rfl, rfl, by decide +kernel, rfl, by decide +kernel, by decide +kernel⟩
theorem dv__law_stir {P : Program} {w : World} {K : PySem.W.Frag} {mg : Str → Option Value} {base : Heap} {k : Nat} (T : Txt K mg)  (f : Addr) (cdv : Value) (A : Around) (outer : List Env) (s : Shared) (H : Hp) (E : XK)
    (hr : Room k (A.deeper (envOfC "_law_stir" (defScope (top 15)) s.heap.objs.size f cdv))) : QSs (cxOf CX0 P w K mg base ["seed"] "_law_stir" (defScope (top 15)) f cdv A outer s H E).nox (defBody (top 15)) (F__law_stir ) :=
 have S := sc__law_stir
 (qss_cons (qs_set 0 S.nd (q_mod (q_add (qv 0) qi) qi))
 (qss_one (qs_ret (q_mod (q_add (q_add (q_mul (qv 0) (qv 0)) (q_mul qi (qv 0))) qi) qi))))
theorem sc__law_shuffled : FnScope ["script", "at", "rows", "size", "order", "other", "k", "found", "turn", "line", "j"] ["script", "at", "rows"] (defScope (top 19)) := ⟨rfl, rfl, rfl, by decide +kernel, rfl, by decide +kernel, by decide +kernel⟩
theorem dv__law_shuffled {P : Program} {w : World} {K : PySem.W.Frag} {mg : Str → Option Value} {base : Heap} {k : Nat} (T : Txt K mg) {g__law_stir : FD} (h__law_stir : Has P w K mg base k "_law_stir" ["seed"] g__law_stir) {g__law_cell_at : FD} (h__law_cell_at : Has P w K mg base k "_law_cell_at" ["script", "k"] g__law_cell_at) (f : Addr) (cdv : Value) (A : Around) (outer : List Env) (s : Shared) (H : Hp) (E : XK)
    (hr : Room k (A.deeper (envOfC "_law_shuffled" (defScope (top 19)) s.heap.objs.size f cdv))) : QSs (cxOf CX0 P w K mg base ["script", "at", "rows", "size", "order", "other", "k", "found", "turn", "line", "j"] "_law_shuffled" (defScope (top 19)) f cdv A outer s H E).nox (defBody (top 19)) (F__law_shuffled g__law_stir g__law_cell_at) :=
 have S := sc__law_shuffled
 (qss_cons (qs_set 3 S.nd (q_len rfl T.b_len (qa_cons (qv 2) qa_nil)))
 (qss_cons (qs_set 4 S.nd (q_lst qa_nil))
 (qss_cons (qs_set 5 S.nd (q_lst qa_nil))
 (qss_cons (qs_for 6 PassesOwn.never rfl S.nd (qi_range1 rfl T.b_range (qv 3))
 (qss_cons (qs_insert 4 rfl (q_mod (q_fdiv (q_callH h__law_stir hr (qa_cons (q_add (q_callH h__law_cell_at hr (qa_cons (qv 0) (qa_cons (qv 1) qa_nil))) (qv 6)) qa_nil)) qi) (q_add (qv 6) qi)) (qv 6))
 (qss_one (qs_insert 5 rfl (q_mod (q_fdiv (q_callH h__law_stir hr (qa_cons (q_add (q_callH h__law_cell_at hr (qa_cons (qv 0) (qa_cons (q_add (qv 1) qi) qa_nil))) (qv 6)) qa_nil)) qi) (q_add (qv 6) qi)) (qmv 6)))))
 (qss_cons (qs_set 7 S.nd (q_lst qa_nil))
 (qss_cons (qs_for 6 PassesOwn.never rfl S.nd (qi_list (qmv 4))
 (qss_cons (qs_set 8 S.nd (q_sub qi (q_mul (q_mod (q_fdiv (q_callH h__law_stir hr (qa_cons (q_add (q_callH h__law_cell_at hr (qa_cons (qv 0) (qa_cons (q_add (qv 1) qi) qa_nil))) (qv 6)) qa_nil)) qi) qi) qi)))
 (qss_cons (qs_set 9 S.nd (q_lst qa_nil))
 (qss_cons (qs_for 10 PassesOwn.never rfl S.nd (qi_list (qv 5))
 (qss_one (qs_append 9 rfl (q_mul (q_mul (q_ix (q_ix (qv 2) (qv 6)) (qv 10)) (qv 8)) (q_sub qi (q_mul (q_mod (q_fdiv (q_callH h__law_stir hr (qa_cons (q_add (q_callH h__law_cell_at hr (qa_cons (qv 0) (qa_cons (q_add (qv 1) qi) qa_nil))) (qv 10)) qa_nil)) qi) qi) qi))))))
 (qss_one (qs_append 7 rfl (qmv 9)))))))
 (qss_one (qs_ret (qmv 7)))))))))
theorem sc__law_by_prime : FnScope ["prime", "squares", "found", "k", "row", "j"] ["prime"] (defScope (top 17)) := ⟨rfl, rfl, rfl, by decide +kernel, rfl, by decide +kernel, by decide +kernel⟩
theorem dv__law_by_prime {P : Program} {w : World} {K : PySem.W.Frag} {mg : Str → Option Value} {base : Heap} {k : Nat} (T : Txt K mg)  (f : Addr) (cdv : Value) (A : Around) (outer : List Env) (s : Shared) (H : Hp) (E : XK)
    (hr : Room k (A.deeper (envOfC "_law_by_prime" (defScope (top 17)) s.heap.objs.size f cdv))) : QSs (cxOf CX0 P w K mg base ["prime", "squares", "found", "k", "row", "j"] "_law_by_prime" (defScope (top 17)) f cdv A outer s H E).nox (defBody (top 17)) (F__law_by_prime ) :=
 have S := sc__law_by_prime
 (qss_cons (qs_setc 1 (N' := ["k", "prime"]) (ix := [none, some 0]) (j := 0) S.nd ⟨rfl, by decide +kernel, by decide +kernel, by decide +kernel, by decide +kernel, by decide +kernel⟩ (Slots.own (by first | exact .inl rfl | exact .inr rfl) (Slots.free rfl rfl (by first | exact .inl rfl | exact .inr rfl) Slots.nil)) rfl (qi_range2 rfl T.b_range qi (qv 0)) rfl rfl (fun _ _ _ => qifs_nil) (fun _ _ _ => (q_mod (q_mul (qv 0) (qv 0)) (qv 1))))
 (qss_cons (qs_set 2 S.nd (q_lst (qa_cons (q_comp (N' := ["k"]) (ix := [none]) (j := 0) ⟨rfl, by decide +kernel, by decide +kernel, by decide +kernel, by decide +kernel, by decide +kernel⟩ (Slots.own (by first | exact .inl rfl | exact .inr rfl) Slots.nil) rfl (qi_range1 rfl T.b_range (q_add (qv 0) qi)) rfl rfl (fun _ _ _ => qifs_nil) (fun _ _ _ => qi)) qa_nil)))
 (qss_cons (qs_for 3 PassesOwn.never rfl S.nd (qi_range1 rfl T.b_range (qv 0))
 (qss_cons (qs_set 4 S.nd (q_lst (qa_cons qi qa_nil)))
 (qss_cons (qs_for 5 PassesOwn.never rfl S.nd (qi_range1 rfl T.b_range (qv 0))
 (qss_one (qs_append 4 rfl (q_if (qt_in (q_mod (q_sub (qv 5) (qv 3)) (qv 0)) (qv 1)) qi (q_neg qi)))))
 (qss_one (qs_append 2 rfl (qmv 4))))))
 (qss_one (qs_ret (qmv 2))))))
theorem sc__law_doubled : FnScope ["rows", "found"] ["rows"] (defScope (top 16)) := ⟨rfl, rfl, rfl, by decide +kernel, rfl, by decide +kernel, by decide +kernel⟩
theorem dv__law_doubled {P : Program} {w : World} {K : PySem.W.Frag} {mg : Str → Option Value} {base : Heap} {k : Nat} (T : Txt K mg)  (f : Addr) (cdv : Value) (A : Around) (outer : List Env) (s : Shared) (H : Hp) (E : XK)
    (hr : Room k (A.deeper (envOfC "_law_doubled" (defScope (top 16)) s.heap.objs.size f cdv))) : QSs (cxOf CX0 P w K mg base ["rows", "found"] "_law_doubled" (defScope (top 16)) f cdv A outer s H E).nox (defBody (top 16)) (F__law_doubled ) :=
 have S := sc__law_doubled
 (qss_cons (qs_setc 1 (N' := ["row"]) (ix := [none]) (j := 0) S.nd ⟨rfl, by decide +kernel, by decide +kernel, by decide +kernel, by decide +kernel, by decide +kernel⟩ (Slots.own (by first | exact .inl rfl | exact .inr rfl) Slots.nil) rfl (qi_list (qv 0)) rfl rfl (fun _ _ _ => qifs_nil) (fun _ _ _ => (q_add (qv 0) (qmv 0))))
 (qss_one (qs_ret (q_add (qmv 1) (q_comp (N' := ["row"]) (ix := [none]) (j := 0) ⟨rfl, by decide +kernel, by decide +kernel, by decide +kernel, by decide +kernel, by decide +kernel⟩ (Slots.own (by first | exact .inl rfl | exact .inr rfl) Slots.nil) rfl (qi_list (qmv 0)) rfl rfl (fun _ _ _ => qifs_nil) (fun _ _ _ => (q_add (qv 0) (q_comp (N' := ["number"]) (ix := [none]) (j := 0) ⟨rfl, by decide +kernel, by decide +kernel, by decide +kernel, by decide +kernel, by decide +kernel⟩ (Slots.own (by first | exact .inl rfl | exact .inr rfl) Slots.nil) rfl (qi_list (qmv 0)) rfl rfl (fun _ _ _ => qifs_nil) (fun _ _ _ => (q_neg (qv 0)))))))))))
theorem sc__law_plain_table : FnScope ["size", "found"] ["size"] (defScope (top 18)) := ⟨rfl, rfl, rfl, by decide +kernel, rfl, by decide +kernel, by decide +kernel⟩
theorem dv__law_plain_table {P : Program} {w : World} {K : PySem.W.Frag} {mg : Str → Option Value} {base : Heap} {k : Nat} (T : Txt K mg) {g__law_by_prime : FD} (h__law_by_prime : Has P w K mg base k "_law_by_prime" ["prime"] g__law_by_prime) {g__law_doubled : FD} (h__law_doubled : Has P w K mg base k "_law_doubled" ["rows"] g__law_doubled) (f : Addr) (cdv : Value) (A : Around) (outer : List Env) (s : Shared) (H : Hp) (E : XK)
    (hr : Room k (A.deeper (envOfC "_law_plain_table" (defScope (top 18)) s.heap.objs.size f cdv))) : QSs (cxOf CX0 P w K mg base ["size", "found"] "_law_plain_table" (defScope (top 18)) f cdv A outer s H E).nox (defBody (top 18)) (F__law_plain_table g__law_by_prime g__law_doubled) :=
 have S := sc__law_plain_table
 (qss_cons (qs_if (QW.qt (qw_or (qt_eq hr.units (qv 0) qi) (qw_or1 (qt_eq hr.units (qv 0) qi)))) (qss_one (qs_ret (q_callH h__law_by_prime hr (qa_cons (q_sub (qv 0) qi) qa_nil)))) qss_nil)
 (qss_cons (qs_if (qt_eq hr.units (qv 0) qi) (qss_one (qs_ret (q_callH h__law_doubled hr (qa_cons (q_callH h__law_by_prime hr (qa_cons qi qa_nil)) qa_nil)))) qss_nil)
 (qss_cons (qs_set 1 S.nd (q_lst (qa_cons (q_lst (qa_cons qi qa_nil)) qa_nil)))
 (qss_cons (qs_while 64 PassesOwn.never (qt_lt (q_len rfl T.b_len (qa_cons (qv 1) qa_nil)) (qv 0)) (qss_one (qs_set 1 S.nd (q_callH h__law_doubled hr (qa_cons (qv 1) qa_nil)))))
 (qss_one (qs_ret (qmv 1)))))))
theorem sc__law_table : FnScope ["script", "at", "most", "sizes", "size"] ["script", "at", "most"] (defScope (top 20)) := ⟨rfl, rfl, rfl, by decide +kernel, rfl, by decide +kernel, by decide +kernel⟩
theorem dv__law_table {P : Program} {w : World} {K : PySem.W.Frag} {mg : Str → Option Value} {base : Heap} {k : Nat} (T : Txt K mg) {g__law_cell_at : FD} (h__law_cell_at : Has P w K mg base k "_law_cell_at" ["script", "k"] g__law_cell_at) {g__law_shuffled : FD} (h__law_shuffled : Has P w K mg base k "_law_shuffled" ["script", "at", "rows"] g__law_shuffled) {g__law_plain_table : FD} (h__law_plain_table : Has P w K mg base k "_law_plain_table" ["size"] g__law_plain_table) (f : Addr) (cdv : Value) (A : Around) (outer : List Env) (s : Shared) (H : Hp) (E : XK)
    (hr : Room k (A.deeper (envOfC "_law_table" (defScope (top 20)) s.heap.objs.size f cdv))) : QSs (cxOf CX0 P w K mg base ["script", "at", "most", "sizes", "size"] "_law_table" (defScope (top 20)) f cdv A outer s H E).nox (defBody (top 20)) (F__law_table g__law_cell_at g__law_shuffled g__law_plain_table) :=
 have S := sc__law_table
 (qss_cons (qs_setc 3 (N' := ["size", "most"]) (ix := [none, some 2]) (j := 0) S.nd ⟨rfl, by decide +kernel, by decide +kernel, by decide +kernel, by decide +kernel, by decide +kernel⟩ (Slots.own (by first | exact .inl rfl | exact .inr rfl) (Slots.free rfl rfl (by first | exact .inl rfl | exact .inr rfl) Slots.nil)) rfl (qi_list q_ints) rfl rfl (fun _ _ _ => qifs_one (qt_le (qv 0) (qv 1))) (fun _ _ _ => (qmv 0)))
 (qss_cons (qs_set 4 S.nd (q_ix (qv 3) (q_mod (q_callH h__law_cell_at hr (qa_cons (qv 0) (qa_cons (qv 1) qa_nil))) (q_len rfl T.b_len (qa_cons (qv 3) qa_nil)))))
 (qss_one (qs_ret (q_callH h__law_shuffled hr (qa_cons (qv 0) (qa_cons (q_add (qv 1) qi) (qa_cons (q_callH h__law_plain_table hr (qa_cons (qv 4) qa_nil)) qa_nil))))))))
theorem sc__law_square : FnScope ["script", "at", "most", "size", "found", "k", "line", "j", "seed"] ["script", "at", "most"] (defScope (top 21)) := ⟨rfl, rfl, rfl, by decide +kernel, rfl, by decide +kernel, by decide +kernel⟩
theorem dv__law_square {P : Program} {w : World} {K : PySem.W.Frag} {mg : Str → Option Value} {base : Heap} {k : Nat} (T : Txt K mg) {g__law_cell_at : FD} (h__law_cell_at : Has P w K mg base k "_law_cell_at" ["script", "k"] g__law_cell_at) {g__law_stir : FD} (h__law_stir : Has P w K mg base k "_law_stir" ["seed"] g__law_stir) (f : Addr) (cdv : Value) (A : Around) (outer : List Env) (s : Shared) (H : Hp) (E : XK)
    (hr : Room k (A.deeper (envOfC "_law_square" (defScope (top 21)) s.heap.objs.size f cdv))) : QSs (cxOf CX0 P w K mg base ["script", "at", "most", "size", "found", "k", "line", "j", "seed"] "_law_square" (defScope (top 21)) f cdv A outer s H E).nox (defBody (top 21)) (F__law_square g__law_cell_at g__law_stir) :=
 have S := sc__law_square
 (qss_cons (qs_set 3 S.nd (q_add qi (q_mod (q_callH h__law_cell_at hr (qa_cons (qv 0) (qa_cons (qv 1) qa_nil))) (qv 2))))
 (qss_cons (qs_set 4 S.nd (q_lst qa_nil))
 (qss_cons (qs_for 5 PassesOwn.never rfl S.nd (qi_range1 rfl T.b_range (qv 3))
 (qss_cons (qs_set 6 S.nd (q_lst qa_nil))
 (qss_cons (qs_for 7 PassesOwn.never rfl S.nd (qi_range1 rfl T.b_range (qv 3))
 (qss_cons (qs_set 8 S.nd (q_callH h__law_stir hr (qa_cons (q_add (q_add (q_callH h__law_cell_at hr (qa_cons (qv 0) (qa_cons (q_add (q_add (qv 1) qi) (q_mod (q_add (qv 5) (qv 7)) qi)) qa_nil))) (q_mul qi (qv 5))) (qv 7)) qa_nil)))
 (qss_one (qs_append 6 rfl (q_sub qi (q_mul (q_mod (q_fdiv (qv 8) qi) qi) qi))))))
 (qss_one (qs_append 4 rfl (qmv 6))))))
 (qss_one (qs_ret (qmv 4))))))
theorem sc_is_row : FnScope ["row", "size"] ["row", "size"] (defScope (top 6)) := ⟨rfl, rfl, rfl, by decide +kernel, rfl, by decide +kernel, by decide +kernel⟩
theorem dv_is_row {P : Program} {w : World} {K : PySem.W.Frag} {mg : Str → Option Value} {base : Heap} {k : Nat} (T : Txt K mg)  (f : Addr) (cdv : Value) (A : Around) (outer : List Env) (s : Shared) (H : Hp) (E : XK)
    (hr : Room k (A.deeper (envOfC "is_row" (defScope (top 6)) s.heap.objs.size f cdv))) : QSs (cxOf CX0 P w K mg base ["row", "size"] "is_row" (defScope (top 6)) f cdv A outer s H E).nox (defBody (top 6)) (F_is_row ) :=
 have S := sc_is_row
 (qss_one (qs_ret (q_and (q_eq hr.units (q_len rfl T.b_len (qa_cons (qv 0) qa_nil)) (qv 1)) (q_one (q_all rfl rfl T.b_all (qa_cons (q_comp (N' := ["number"]) (ix := [none]) (j := 0) ⟨rfl, by decide +kernel, by decide +kernel, by decide +kernel, by decide +kernel, by decide +kernel⟩ (Slots.own (by first | exact .inl rfl | exact .inr rfl) Slots.nil) rfl (qi_list (qmv 0)) rfl rfl (fun _ _ _ => qifs_nil) (fun _ _ _ => (q_in (qv 0) (q_tup (qa_cons qi (qa_cons (q_neg qi) qa_nil)))))) qa_nil))))))
theorem sc_is_square : FnScope ["rows", "size"] ["rows"] (defScope (top 5)) := ⟨rfl, rfl, rfl, by decide +kernel, rfl, by decide +kernel, by decide +kernel⟩
theorem dv_is_square {P : Program} {w : World} {K : PySem.W.Frag} {mg : Str → Option Value} {base : Heap} {k : Nat} (T : Txt K mg) {g_is_row : FD} (h_is_row : Has P w K mg base k "is_row" ["row", "size"] g_is_row) (f : Addr) (cdv : Value) (A : Around) (outer : List Env) (s : Shared) (H : Hp) (E : XK)
    (hr : Room k (A.deeper (envOfC "is_square" (defScope (top 5)) s.heap.objs.size f cdv))) : QSs (cxOf CX0 P w K mg base ["rows", "size"] "is_square" (defScope (top 5)) f cdv A outer s H E).nox (defBody (top 5)) (F_is_square g_is_row) :=
 have S := sc_is_square
 (qss_cons (qs_set 1 S.nd (q_len rfl T.b_len (qa_cons (qv 0) qa_nil)))
 (qss_one (qs_ret (q_and (q_chain op_le rule_B op_le rule_B flat_gB qi (qv 1) (q_globE T.c_MOST_ROWS)) (q_one (q_all rfl rfl T.b_all (qa_cons (q_comp (N' := ["row", "size"]) (ix := [none, some 1]) (j := 0) ⟨rfl, by decide +kernel, by decide +kernel, by decide +kernel, by decide +kernel, by decide +kernel⟩ (Slots.own (by first | exact .inl rfl | exact .inr rfl) (Slots.free rfl rfl (by first | exact .inl rfl | exact .inr rfl) Slots.nil)) rfl (qi_list (qmv 0)) rfl rfl (fun _ _ _ => qifs_nil) (fun _ _ _ => (q_callH h_is_row hr (qa_cons (qv 0) (qa_cons (qv 1) qa_nil))))) qa_nil)))))))
theorem sc_need_square : FnScope ["rows"] ["rows"] (defScope (top 7)) := ⟨rfl, rfl, rfl, by decide +kernel, rfl, by decide +kernel, by decide +kernel⟩
theorem dv_need_square {P : Program} {w : World} {K : PySem.W.Frag} {mg : Str → Option Value} {base : Heap} {k : Nat} (T : Txt K mg) {g_is_square : FD} (h_is_square : Has P w K mg base k "is_square" ["rows"] g_is_square) (f : Addr) (cdv : Value) (A : Around) (outer : List Env) (s : Shared) (H : Hp) (E : XK)
    (hr : Room k (A.deeper (envOfC "need_square" (defScope (top 7)) s.heap.objs.size f cdv))) : QSs (cxOf CX0 P w K mg base ["rows"] "need_square" (defScope (top 7)) f cdv A outer s H E).nox (defBody (top 7)) (F_need_square g_is_square) :=
 have S := sc_need_square
 (qss_one (qs_if (qt_not (qt_val (q_callH h_is_square hr (qa_cons (qv 0) qa_nil)))) (qss_one qs_never) qss_nil))
theorem sc_first_place_with_lead : FnScope ["rows", "place"] ["rows"] (defScope (top 10)) := ⟨rfl, rfl, rfl, by decide +kernel, rfl, by decide +kernel, by decide +kernel⟩
theorem dv_first_place_with_lead {P : Program} {w : World} {K : PySem.W.Frag} {mg : Str → Option Value} {base : Heap} {k : Nat} (T : Txt K mg)  (f : Addr) (cdv : Value) (A : Around) (outer : List Env) (s : Shared) (H : Hp) (E : XK)
    (hr : Room k (A.deeper (envOfC "first_place_with_lead" (defScope (top 10)) s.heap.objs.size f cdv))) : QSs (cxOf CX0 P w K mg base ["rows", "place"] "first_place_with_lead" (defScope (top 10)) f cdv A outer s H E).nox (defBody (top 10)) (F_first_place_with_lead ) :=
 have S := sc_first_place_with_lead
 (qss_cons (qs_set 1 S.nd qi)
 (qss_cons (qs_while 64 PassesOwn.never (QW.qt (qw_and (qt_lt (qv 1) (q_len rfl T.b_len (qa_cons (qv 0) qa_nil))) (qw_and1 (qt_eq hr.units (q_ix (q_ix (qv 0) (qv 1)) qi) qi)))) (qss_one (qs_set 1 S.nd (q_add (qmv 1) qi))))
 (qss_one (qs_ret (qmv 1)))))
theorem sc_without_lead : FnScope ["row", "leader", "divisor"] ["row", "leader", "divisor"] (defScope (top 11)) := ⟨rfl, rfl, rfl, by decide +kernel, rfl, by decide +kernel, by decide +kernel⟩
theorem dv_without_lead {P : Program} {w : World} {K : PySem.W.Frag} {mg : Str → Option Value} {base : Heap} {k : Nat} (T : Txt K mg)  (f : Addr) (cdv : Value) (A : Around) (outer : List Env) (s : Shared) (H : Hp) (E : XK)
    (hr : Room k (A.deeper (envOfC "without_lead" (defScope (top 11)) s.heap.objs.size f cdv))) : QSs (cxOf CX0 P w K mg base ["row", "leader", "divisor"] "without_lead" (defScope (top 11)) f cdv A outer s H E).nox (defBody (top 11)) (F_without_lead ) :=
 have S := sc_without_lead
 (qss_one (qs_ret (q_comp (N' := ["k", "leader", "row", "divisor"]) (ix := [none, some 1, some 0, some 2]) (j := 0) ⟨rfl, by decide +kernel, by decide +kernel, by decide +kernel, by decide +kernel, by decide +kernel⟩ (Slots.own (by first | exact .inl rfl | exact .inr rfl) (Slots.free rfl rfl (by first | exact .inl rfl | exact .inr rfl) (Slots.free rfl rfl (by first | exact .inl rfl | exact .inr rfl) (Slots.free rfl rfl (by first | exact .inl rfl | exact .inr rfl) Slots.nil)))) rfl (qi_range2 rfl T.b_range qi (q_len rfl T.b_len (qa_cons (qv 0) qa_nil))) rfl rfl (fun _ _ _ => qifs_nil) (fun _ _ _ => (q_fdivM (q_sub (q_mul (q_ix (qv 1) qi) (q_ix (qv 2) (qv 0))) (q_mul (q_ix (qv 2) qi) (q_ix (qv 1) (qv 0)))) (qv 3))))))
theorem sc_determinant : FnScope ["rows", "square", "sign", "divisor", "place", "leader", "others"] ["rows"] (defScope (top 9)) := ⟨rfl, rfl, rfl, by decide +kernel, rfl, by decide +kernel, by decide +kernel⟩
theorem dv_determinant {P : Program} {w : World} {K : PySem.W.Frag} {mg : Str → Option Value} {base : Heap} {k : Nat} (T : Txt K mg) {g_need_square : FD} (h_need_square : Has P w K mg base k "need_square" ["rows"] g_need_square) {g_first_place_with_lead : FD} (h_first_place_with_lead : Has P w K mg base k "first_place_with_lead" ["rows"] g_first_place_with_lead) {g_without_lead : FD} (h_without_lead : Has P w K mg base k "without_lead" ["row", "leader", "divisor"] g_without_lead) (f : Addr) (cdv : Value) (A : Around) (outer : List Env) (s : Shared) (H : Hp) (E : XK)
    (hr : Room k (A.deeper (envOfC "determinant" (defScope (top 9)) s.heap.objs.size f cdv))) : QSs (cxOf CX0 P w K mg base ["rows", "square", "sign", "divisor", "place", "leader", "others"] "determinant" (defScope (top 9)) f cdv A outer s H E).nox (defBody (top 9)) (F_determinant g_need_square g_first_place_with_lead g_without_lead) :=
 have S := sc_determinant
 (qss_cons (qs_expr (q_callH h_need_square hr (qa_cons (qv 0) qa_nil)))
 (qss_cons (qs_setc 1 (N' := ["row"]) (ix := [none]) (j := 0) S.nd ⟨rfl, by decide +kernel, by decide +kernel, by decide +kernel, by decide +kernel, by decide +kernel⟩ (Slots.own (by first | exact .inl rfl | exact .inr rfl) Slots.nil) rfl (qi_list (qmv 0)) rfl rfl (fun _ _ _ => qifs_nil) (fun _ _ _ => (q_list rfl T.b_list (qv 0))))
 (qss_cons (qs_set 2 S.nd qi)
 (qss_cons (qs_set 3 S.nd qi)
 (qss_cons (qs_while 64 PassesOwn.never (qt_gt (q_len rfl T.b_len (qa_cons (qv 1) qa_nil)) qi) (qss_cons (qs_set 4 S.nd (q_callH h_first_place_with_lead hr (qa_cons (qv 1) qa_nil)))
 (qss_cons (qs_if (qt_eq hr.units (qv 4) (q_len rfl T.b_len (qa_cons (qv 1) qa_nil))) (qss_one (qs_ret qi)) qss_nil)
 (qss_cons (qs_if (qt_eq hr.units (q_mod (qv 4) qi) qi) (qss_one (qs_set 2 S.nd (q_neg (qv 2)))) qss_nil)
 (qss_cons (qs_set 5 S.nd (q_ix (qv 1) (qv 4)))
 (qss_cons (qs_set 6 S.nd (q_add (q_slice (qv 1) qo_none (qo_some (qv 4))) (q_slice (qv 1) (qo_some (q_add (qv 4) qi)) qo_none)))
 (qss_cons (qs_setc 1 (N' := ["row", "leader", "divisor"]) (ix := [none, some 5, some 3]) (j := 0) S.nd ⟨rfl, by decide +kernel, by decide +kernel, by decide +kernel, by decide +kernel, by decide +kernel⟩ (Slots.own (by first | exact .inl rfl | exact .inr rfl) (Slots.free rfl rfl (by first | exact .inl rfl | exact .inr rfl) (Slots.free rfl rfl (by first | exact .inl rfl | exact .inr rfl) Slots.nil))) rfl (qi_list (qmv 6)) rfl rfl (fun _ _ _ => qifs_nil) (fun _ _ _ => (q_callH h_without_lead hr (qa_cons (qv 0) (qa_cons (qv 1) (qa_cons (qv 2) qa_nil))))))
 (qss_one (qs_set 3 S.nd (q_ix (qv 5) qi))))))))))
 (qss_one (qs_ret (q_mul (qv 2) (q_ix (q_ix (qv 1) qi) qi)))))))))
theorem sc__law_whole : FnScope ["found"] ["found"] (defScope (top 14)) := ⟨rfl, rfl, rfl, by decide +kernel, rfl, by decide +kernel, by decide +kernel⟩
theorem dv__law_whole {P : Program} {w : World} {K : PySem.W.Frag} {mg : Str → Option Value} {base : Heap} {k : Nat} (T : Txt K mg)  (f : Addr) (cdv : Value) (A : Around) (outer : List Env) (s : Shared) (H : Hp) (E : XK)
    (hr : Room k (A.deeper (envOfC "_law_whole" (defScope (top 14)) s.heap.objs.size f cdv))) : QSs (cxOf CX0 P w K mg base ["found"] "_law_whole" (defScope (top 14)) f cdv A outer s H E).nox (defBody (top 14)) (F__law_whole ) :=
 have S := sc__law_whole
 (qss_one (qs_ret (q_and (q_isi rfl T.b_isinstance rfl T.b_int PyProof.Rows.boot_int (by simp) (qv 0)) (q_one (q_not (q_isi rfl T.b_isinstance rfl T.b_bool PyProof.Rows.boot_bool (by simp) (qv 0)))))))
theorem sc__law_balanced : FnScope ["rows", "k", "j"] ["rows"] (defScope (top 23)) := ⟨rfl, rfl, rfl, by decide +kernel, rfl, by decide +kernel, by decide +kernel⟩
theorem dv__law_balanced {P : Program} {w : World} {K : PySem.W.Frag} {mg : Str → Option Value} {base : Heap} {k : Nat} (T : Txt K mg)  (f : Addr) (cdv : Value) (A : Around) (outer : List Env) (s : Shared) (H : Hp) (E : XK)
    (hr : Room k (A.deeper (envOfC "_law_balanced" (defScope (top 23)) s.heap.objs.size f cdv))) : QSs (cxOf CX0 P w K mg base ["rows", "k", "j"] "_law_balanced" (defScope (top 23)) f cdv A outer s H E).nox (defBody (top 23)) (F__law_balanced ) :=
 have S := sc__law_balanced
 (qss_cons (qs_for 1 PassesOwn.never rfl S.nd (qi_range1 rfl T.b_range (q_len rfl T.b_len (qa_cons (qv 0) qa_nil)))
 (qss_one (qs_for 2 PassesOwn.never rfl S.nd (qi_range1 rfl T.b_range (qv 1))
 (qss_one (qs_if (qt_ne hr.units (q_sum rfl rfl T.b_sum (qa_cons (q_zip (N' := ["left", "right"]) (ix := [none, none]) (j1 := 0) (j2 := 1) ⟨rfl, by decide +kernel, by decide +kernel, by decide +kernel, by decide +kernel, by decide +kernel⟩ (Slots.own (by first | exact .inl rfl | exact .inr rfl) (Slots.own (by first | exact .inl rfl | exact .inr rfl) Slots.nil)) rfl rfl T.b_zip (q_ix (qv 0) (qv 1)) (q_ix (qv 0) (qv 2)) rfl rfl rfl rfl (fun _ _ _ => qifs_nil) (fun _ _ _ => (q_mul (qv 0) (qv 1)))) qa_nil)) qi) (qss_one (qs_ret qb)) qss_nil)))))
 (qss_one (qs_ret qb)))
theorem sc_law : FnScope ["script", "cell", "rows", "at", "place", "found", "most", "k"] ["script"] (defScope (top 24)) := ⟨rfl, rfl, rfl, by decide +kernel, rfl, by decide +kernel, by decide +kernel⟩
theorem dv_law {P : Program} {w : World} {K : PySem.W.Frag} {mg : Str → Option Value} {base : Heap} {k : Nat} (T : Txt K mg) {g__law_cell_at : FD} (h__law_cell_at : Has P w K mg base k "_law_cell_at" ["script", "k"] g__law_cell_at) {g__law_table : FD} (h__law_table : Has P w K mg base k "_law_table" ["script", "at", "most"] g__law_table) {g__law_square : FD} (h__law_square : Has P w K mg base k "_law_square" ["script", "at", "most"] g__law_square) {g_determinant : FD} (h_determinant : Has P w K mg base k "determinant" ["rows"] g_determinant) {g__law_whole : FD} (h__law_whole : Has P w K mg base k "_law_whole" ["found"] g__law_whole) {g__law_balanced : FD} (h__law_balanced : Has P w K mg base k "_law_balanced" ["rows"] g__law_balanced) (f : Addr) (cdv : Value) (A : Around) (outer : List Env) (s : Shared) (H : Hp) (E : XK)
    (hr : Room k (A.deeper (envOfC "law" (defScope (top 24)) s.heap.objs.size f cdv))) : QSs (cxOf CX0 P w K mg base ["script", "cell", "rows", "at", "place", "found", "most", "k"] "law" (defScope (top 24)) f cdv A outer s H E).nox (defBody (top 24)) (F_lawK13 g__law_cell_at g__law_table g__law_square g_determinant g__law_whole g__law_balanced) :=
 have S := sc_law
 (qss_cons (qs_set 1 S.nd (q_callH h__law_cell_at hr (qa_cons (qv 0) (qa_cons qi qa_nil))))
 (qss_cons (qs_set 2 S.nd (q_callH h__law_table hr (qa_cons (qv 0) (qa_cons qi (qa_cons qi qa_nil)))))
 (qss_cons (qs_if (qt_eq hr.units (q_mod (qv 1) qi) qi) (qss_one (qs_set 2 S.nd (q_callH h__law_square hr (qa_cons (qv 0) (qa_cons qi (qa_cons qi qa_nil)))))) qss_nil)
 (qss_cons (qs_if (qt_eq hr.units (q_mod (q_fdiv (qv 1) qi) qi) qi) (qss_cons (qs_set 3 S.nd (q_mod (q_fdiv (qv 1) qi) (q_len rfl T.b_len (qa_cons (qv 2) qa_nil))))
 (qss_cons (qs_set 4 S.nd (q_mod (q_fdiv (qv 1) qi) (q_len rfl T.b_len (qa_cons (qv 2) qa_nil))))
 (qss_one (qs_store2 2 rfl (q_neg (q_ix (q_ix (qv 2) (qv 3)) (qv 4))) (qv 3) (qv 4))))) qss_nil)
 (qss_cons (qs_set 5 S.nd (q_callH h_determinant hr (qa_cons (qv 2) qa_nil)))
 (qss_cons (qs_set 6 S.nd qi)
 (qss_cons (qs_for 7 PassesOwn.never rfl S.nd (qi_range1 rfl T.b_range (q_len rfl T.b_len (qa_cons (qv 2) qa_nil)))
 (qss_one (qs_set 6 S.nd (q_mul (qv 6) (q_len rfl T.b_len (qa_cons (qv 2) qa_nil))))))
 (qss_cons (qs_if (QW.qt (qw_or (qt_not (qt_val (q_callH h__law_whole hr (qa_cons (qv 5) qa_nil)))) (qw_or1 (qt_gt (q_mul (qv 5) (qv 5)) (qv 6))))) (qss_one (qs_ret qb)) qss_nil)
 (qss_one (qs_ret (q_eq hr.units (q_eq hr.units (q_mul (qv 5) (qv 5)) (qv 6)) (q_callH h__law_balanced hr (qa_cons (qv 2) qa_nil)))))))))))))
end K13
namespace K13
open PySem L2 L3 FN MA EX
theorem fiR2_of {f : FE} {e e1 : PEnv} {n l : Nat} {S : List Nat} (h : f e = some (⟨.int (n : Int), l, S⟩, e1)) (hn : n < 1000) : fiR2 (fC (.int 1)) f e = some (⟨(List.range (n - 1)).map fun i : Nat => .int (1 + (i : Int)), 2, []⟩, e1) := by
  have hr : rangeD 1 (n - 1) = (List.range (n - 1)).map fun i : Nat => .int (1 + (i : Int)) := by
    rw [rangeD_map]; simp
  have hb : (-1000 : Int) ≤ (n : Int) ∧ (n : Int) < 1000 := by omega
  simp [h, hr, hb]
noncomputable def Bd (x : Int) : Prop := -(2 ^ 64) < x ∧ x < 2 ^ 64
theorem cMul_b {a b : Int} (h : Bd a) : cMul a b = true := by
  unfold cMul
  rw [decide_eq_true h.1, decide_eq_true h.2]; rfl
theorem v_without {m : Nat} {r l : Nat → Int} {d : Int} {T : Nat → Int} (hm : m < 900) (hr : Bd (r 0)) (hl : Bd (l 0)) (hd : d ≠ 0) (hd2 : Bd d) (hx : ∀ j, j < m → l 0 * r (j + 1) - r 0 * l (j + 1) = d * T j) :
    G_without_lead [dL ((List.range (m + 1)).map r), dL ((List.range (m + 1)).map l), .int d] = some (dL ((List.range m).map T), 2) := by
  have hlr : ((List.range (m + 1)).map r).length = m + 1 := by simp
  have hll : ((List.range (m + 1)).map l).length = m + 1 := by simp
  have r0 : atI (((List.range (m + 1)).map r).map D.int) 0 = some (.int (r 0)) := at_range (f := r) (j := 0) (by omega)
  have l0 : atI (((List.range (m + 1)).map l).map D.int) 0 = some (.int (l 0)) := at_range (f := l) (j := 0) (by omega)
  have rj : ∀ j, j < m → atI (((List.range (m + 1)).map r).map D.int) (1 + (j : Int)) = some (.int (r (j + 1))) := fun j hj => by
    rw [show (1 + (j : Int)) = ((j + 1 : Nat) : Int) by omega]
    exact at_range (by omega)
  have lj : ∀ j, j < m → atI (((List.range (m + 1)).map l).map D.int) (1 + (j : Int)) = some (.int (l (j + 1))) := fun j hj => by
    rw [show (1 + (j : Int)) = ((j + 1 : Nat) : Int) by omega]
    exact at_range (by omega)
  have hdn : cDivM 0 d = true := by
    unfold cDivM
    rw [Bool.and_eq_true, Bool.and_eq_true, decide_eq_true_eq, decide_eq_true_eq, decide_eq_true_eq]
    exact ⟨⟨hd, hd2.1⟩, hd2.2⟩
  have hdn' : ∀ x, cDivM x d = true := fun x => hdn
  have c1 : ∀ x, cMul (l 0) x = true := fun x => cMul_b hl
  have c2 : ∀ x, cMul (r 0) x = true := fun x => cMul_b hr
  generalize (List.range (m + 1)).map r = R at *
  generalize (List.range (m + 1)).map l = L at *
  have key : fComp [none, some 1, some 0, some 2] 0 (fiR2 (fC (.int 1)) (fN gLen (fCons (fVar 0) fNil))) fYes (fB gDivM (fB gSubI (fV2 mulD (fIx (fVar 1) (fC (.int 0))) (fIx (fVar 2) (fVar 0))) (fV2 mulD (fIx (fVar 2) (fC (.int 0))) (fIx (fVar 1) (fVar 0)))) (fVar 3)) [some (dL R, 0), some (dL L, 0), some (.int d, 0)] = some (⟨dL ((List.range m).map T), 2, []⟩, [some (dL R, 0), some (dL L, 0), some (.int d, 0)]) := by
    have hit := fiR2_of (f := fN gLen (fCons (fVar 0) fNil)) (e := [some (dL R, 0), some (dL L, 0), some (.int d, 0)]) (e1 := [some (dL R, 0), some (dL L, 0), some (.int d, 0)]) (n := m + 1) (l := 2) (S := []) (by simp [hlr]) (by omega)
    refine fComp_ints (l := 2) (S := []) (fun i : Nat => D.int (1 + (i : Int))) T (List.range m) hit (szl (by simp; omega)) fun j hj => ⟨_, rfl, ?_⟩
    have hj' : j < m := List.mem_range.mp hj
    have ex := hx j hj'
    have rj' := rj j hj'
    have lj' := lj j hj'
    have q : (l 0 * r (j + 1) - r 0 * l (j + 1)).fdiv d = T j := by rw [ex, Int.mul_fdiv_cancel_left _ hd]
    simp [inP, r0, l0, rj', lj', lvI, c1, c2, hdn', q]
  simp [G_without_lead, runF, envF, F_without_lead, key, endF]
noncomputable def fpl (S : List (List Int)) : Nat := S.findIdx fun r => !decide (itm r 0 = 0)
theorem fp_loop {S : List (List Int)} (hr : ∀ r ∈ S, 1 ≤ r.length) : ∀ (q k f : Nat), k + q = S.length → q < f → ∃ l, whileGo (fAndT (fTst (fB gLtI (fVar 1) (fN gLen (fCons (fVar 0) fNil)))) (fTst (fB (gEq false) (fIx (fIx (fVar 0) (fVar 1)) (fC (.int 0))) (fC (.int 0))))) B1_first_place_with_lead f [some (dR S, 0), some (.int k, 2)] = some (.next [some (dR S, 0), some (.int ((k + fpl (S.drop k) : Nat) : Int), l)]) ∧ l = 2
  | 0, k, f + 1, hk, _ => by
    have hd : S.drop k = [] := List.drop_of_length_le (by omega)
    refine ⟨2, ?_, rfl⟩
    rw [whileGo, hd]
    have : ¬ ((k : Int) < (S.length : Int)) := by omega
    have h0 : fpl [] = 0 := rfl
    have hkS : ¬ k < S.length := by omega
    simp [this, hkS, h0]
  | q + 1, k, f + 1, hk, hf => by
    have hlt : k < S.length := by omega
    have hat : atI (S.map dL) (k : Int) = some (dL (row S k)) := atI_rows (by omega) (by omega)
    have hrow : 1 ≤ (row S k).length := by
      apply hr
      unfold row
      rw [Int.toNat_natCast, List.getD_eq_getElem?_getD, List.getElem?_eq_getElem hlt]
      exact List.getElem_mem hlt
    have hat2 : atI ((row S k).map D.int) 0 = some (.int (itm (row S k) 0)) := atI_ints (by omega) (by omega)
    have hdr : S.drop k = row S k :: S.drop (k + 1) := by
      rw [List.drop_eq_getElem_cons hlt]
      congr 1
      unfold row
      rw [Int.toNat_natCast, List.getD_eq_getElem?_getD, List.getElem?_eq_getElem hlt]; rfl
    have hI : (k : Int) < (S.length : Int) := by omega
    rw [whileGo]
    by_cases h0 : itm (row S k) 0 = 0
    · obtain ⟨l, ih, hl⟩ := fp_loop hr q (k + 1) f (by omega) (by omega)
      refine ⟨l, ?_, hl⟩
      have e : k + fpl (S.drop k) = k + 1 + fpl (S.drop (k + 1)) := by
        rw [hdr]
        unfold fpl
        rw [List.findIdx_cons]
        simp [h0]
        omega
      rw [e, ← ih]
      have hk1 : ((k + 1 : Nat) : Int) = (k : Int) + 1 := by omega
      rw [hk1]
      generalize row S k = R at hat hat2 h0
      simp [hlt, hat, hat2, lvI, h0, B1_first_place_with_lead, dropS]
    · refine ⟨2, ?_, rfl⟩
      have e : k + fpl (S.drop k) = k := by
        rw [hdr]
        unfold fpl
        rw [List.findIdx_cons]
        simp [h0]
      rw [e]
      generalize row S k = R at hat hat2 h0
      simp [hlt, hat, hat2, lvI, h0]
theorem v_first {S : List (List Int)} (hr : ∀ r ∈ S, 1 ≤ r.length) (hl : S.length ≤ 24) : G_first_place_with_lead [dR S] = some (.int (fpl S), 2) := by
  obtain ⟨l, h, rfl⟩ := fp_loop hr S.length 0 64 (by omega) (by omega)
  have s1 : fSet 1 (fC (.int 0)) (envF 2 [dR S]) = some (.next [some (dR S, 0), some (.int ((0 : Nat) : Int), 2)]) := by simp [envF, dropS]
  rw [List.drop_zero, Nat.zero_add] at h
  unfold G_first_place_with_lead runF F_first_place_with_lead
  rw [fSeq_next s1, fSeq_next h]
  simp [endF]
noncomputable abbrev eB (o0 : Option (D × Nat)) (S : List (List Int)) (l1 : Nat) (sg d : Int) (o4 o5 o6 : Option (D × Nat)) : PEnv := [o0, some (dR S, l1), some (.int sg, 2), some (.int d, 2), o4, o5, o6]
theorem dropS_one {S : List Nat} (hS : ∀ s ∈ S, s = 1) (o0 : Option (D × Nat)) (T : List (List Int)) (sg d : Int) (o4 o5 o6 : Option (D × Nat)) : dropS S (eB o0 T 0 sg d o4 o5 o6) = eB o0 T 0 sg d o4 o5 o6 := by
  have n0 : 0 ∉ S := fun h => absurd (hS 0 h) (by decide)
  have n2 : 2 ∉ S := fun h => absurd (hS 2 h) (by decide)
  have n3 : 3 ∉ S := fun h => absurd (hS 3 h) (by decide)
  have n4 : 4 ∉ S := fun h => absurd (hS 4 h) (by decide)
  have n5 : 5 ∉ S := fun h => absurd (hS 5 h) (by decide)
  have n6 : 6 ∉ S := fun h => absurd (hS 6 h) (by decide)
  simp [dropS, n0, n2, n3, n4, n5, n6]
theorem lvL_S {ds : List D} {b : Bool} {S : List Nat} : ∀ s ∈ (lvL ds b S).S, s ∈ S := by
  unfold lvL
  split
  · intro s hs; cases hs
  · intro s hs; exact hs
theorem others_val {T : List (List Int)} {p : Nat} (hp : p < T.length) (hl : T.length ≤ 24) (o0 : Option (D × Nat)) (sg d : Int) (o5 o6 : Option (D × Nat)) : ∃ l6 S6, (∀ s ∈ S6, s = 1) ∧ fV2 addD (fSl (fVar 1) fNoP (fPart (fVar 4))) (fSl (fVar 1) (fPart (fV2 addD (fVar 4) (fC (.int 1)))) fNoP) (eB o0 T 0 sg d (some (.int p, 2)) o5 o6) = some (⟨dR (T.eraseIdx p), l6, S6⟩, eB o0 T 0 sg d (some (.int p, 2)) o5 o6) := by
  have e1 : fVar 1 (eB o0 T 0 sg d (some (.int p, 2)) o5 o6) = some (⟨dR T, 0, [1]⟩, eB o0 T 0 sg d (some (.int p, 2)) o5 o6) := by simp
  have e4 : fVar 4 (eB o0 T 0 sg d (some (.int p, 2)) o5 o6) = some (⟨.int p, 2, []⟩, eB o0 T 0 sg d (some (.int p, 2)) o5 o6) := by simp
  have a1 : fSl (fVar 1) fNoP (fPart (fVar 4)) (eB o0 T 0 sg d (some (.int p, 2)) o5 o6) = some (lvL ((T.take p).map dL) false [1], eB o0 T 0 sg d (some (.int p, 2)) o5 o6) := by
    unfold fSl
    rw [e1]
    simp only [Option.bind_some, fNoP, fPart, e4, fSl.seqL, Option.map_some, List.map_take]
    rw [cutHi _ (by rw [List.length_map]; omega)]
    rfl
  have a2 : fSl (fVar 1) (fPart (fV2 addD (fVar 4) (fC (.int 1)))) fNoP (eB o0 T 0 sg d (some (.int p, 2)) o5 o6) = some (lvL ((T.drop (p + 1)).map dL) false [1], eB o0 T 0 sg d (some (.int p, 2)) o5 o6) := by
    unfold fSl
    rw [e1]
    simp only [Option.bind_some, fNoP, fPart, ev_fV2, e4, ev_fC, addD_int, fSl.seqL, Option.map_some, List.map_drop]
    rw [show (p : Int) + 1 = ((p + 1 : Nat) : Int) from rfl, cutLo _ (by rw [List.length_map]; omega)]
    rfl
  have he : (T.take p).map dL ++ (T.drop (p + 1)).map dL = (T.eraseIdx p).map dL := by rw [List.eraseIdx_eq_take_drop_succ, List.map_append]
  have hs : ((T.take p).map dL).length + ((T.drop (p + 1)).map dL).length ≤ sizeLine := by
    rw [List.length_map, List.length_map, List.length_take, List.length_drop]
    exact szl (by omega)
  have ha : addD (lvL ((T.take p).map dL) false [1]) (lvL ((T.drop (p + 1)).map dL) false [1]) = some (lvL ((T.eraseIdx p).map dL) (decide (2 ≤ (lvL ((T.take p).map dL) false [1]).l) && decide (2 ≤ (lvL ((T.drop (p + 1)).map dL) false [1]).l)) ((lvL ((T.take p).map dL) false [1]).S ++ (lvL ((T.drop (p + 1)).map dL) false [1]).S)) := by
    rw [← he]
    unfold addD
    rw [lvL_d, lvL_d]
    simp only []
    rw [if_pos hs]
  have hS : ∀ s ∈ (lvL ((T.take p).map dL) false [1]).S ++ (lvL ((T.drop (p + 1)).map dL) false [1]).S, s = 1 := fun s hs => by
    rcases List.mem_append.mp hs with z | z
    · simpa using lvL_S s z
    · simpa using lvL_S s z
  obtain ⟨V, hV, hVd, hVS⟩ : ∃ V : Val, addD (lvL ((T.take p).map dL) false [1]) (lvL ((T.drop (p + 1)).map dL) false [1]) = some V ∧ V.d = .lst ((T.eraseIdx p).map dL) ∧ ∀ s ∈ V.S, s = 1 := ⟨_, ha, lvL_d _ _ _, fun s hs => hS s (lvL_S s hs)⟩
  refine ⟨V.l, V.S, hVS, ?_⟩
  rw [ev_fV2, a1]
  simp only [Option.bind_some, a2]
  rw [hV]
  obtain ⟨d', l', S'⟩ := V
  have hVd : d' = .lst ((T.eraseIdx p).map dL) := hVd
  subst hVd
  rfl
noncomputable abbrev tstD : FT := fTst (fB gGtI (fN gLen (fCons (fVar 1) fNil)) (fC (.int 1)))
theorem tst_val (o0 : Option (D × Nat)) (T : List (List Int)) (sg d : Int) (o4 o5 o6 : Option (D × Nat)) : tstD (eB o0 T 2 sg d o4 o5 o6) = some (decide ((1 : Int) < T.length), eB o0 T 2 sg d o4 o5 o6) := by simp [tstD]
noncomputable def sgn (p : Nat) : Int := if p % 2 = 1 then -1 else 1
theorem sgn_pm (p : Nat) : sgn p = 1 ∨ sgn p = -1 := by
  unfold sgn
  by_cases h : p % 2 = 1
  · rw [if_pos h]; exact .inr rfl
  · rw [if_neg h]; exact .inl rfl
theorem atI_of' {α : Type} {xs : List α} {i : Int} {a : α} (h0 : 0 ≤ i) (h1 : i < xs.length) (e : xs[i.toNat]? = some a) : atI xs i = some a := by
  unfold atI ixN
  rw [if_pos h0, if_pos h1]; exact e
noncomputable def rowF (m : Nat) (f : Fn) : List Int := (List.range m).map f
noncomputable def mat (m : Nat) (ps : List (Fn × Fn)) : List (List Int) := ps.map fun p => rowF m p.2
noncomputable def lead (ps : List (Fn × Fn)) : Nat := ps.findIdx fun p => !decide (p.2 0 = 0)
theorem mat_len (m : Nat) (ps : List (Fn × Fn)) : (mat m ps).length = ps.length := by simp [mat]
theorem rowF_len (m : Nat) (f : Fn) : (rowF m f).length = m := by simp [rowF]
theorem rowF_zero (m : Nat) (f : Fn) : itm (rowF (m + 1) f) 0 = f 0 := itm_range f (j := 0) (by omega)
theorem fpl_mat (m : Nat) (ps : List (Fn × Fn)) : fpl (mat (m + 1) ps) = lead ps := by
  unfold fpl mat lead
  rw [List.findIdx_map]
  congr 1
  funext p
  simp only [Function.comp_apply, rowF_zero]
theorem lead_lt {ps : List (Fn × Fn)} (h : lead ps < ps.length) : ∃ l, ps[lead ps]? = some l ∧ l.2 0 ≠ 0 := by
  refine ⟨ps[lead ps], List.getElem?_eq_getElem h, ?_⟩
  have h' : (!decide ((ps[lead ps]).2 0 = 0)) = true := List.findIdx_getElem (p := fun p : Fn × Fn => !decide (p.2 0 = 0)) (xs := ps) (w := h)
  rw [Bool.not_eq_true', decide_eq_false_iff_not] at h'
  exact h'
theorem step_ok {ps : List (Fn × Fn)} {m : Nat} (hv : ps.length = m + 1) (hm : m ≤ 23) {d : Int} (hd : d ≠ 0) (hdb : Bd d) (hb : ∀ p ∈ ps, Bd (p.2 0)) {l : Fn × Fn} (hl : ps[lead ps]? = some l) {T : Fn × Fn → Fn} (hT : ∀ v ∈ ps.eraseIdx (lead ps), ∀ j, j < m → l.2 0 * v.2 (j + 1) - v.2 0 * l.2 (j + 1) = d * T v j) (o0 o4 o5 o6 : Option (D × Nat)) (sg : Int) :
    ∃ o4' o5' o6', B1_determinant G_need_square G_first_place_with_lead G_without_lead (eB o0 (mat (m + 1) ps) 2 sg d o4 o5 o6) = some (.next (eB o0 (mat m ((ps.eraseIdx (lead ps)).map fun v => (v.1, T v))) 2 (sg * sgn (lead ps)) (l.2 0) o4' o5' o6')) := by
  have hp : lead ps < ps.length := (List.getElem?_eq_some_iff.mp hl).1
  have hlm : (mat (m + 1) ps).length = m + 1 := by rw [mat_len, hv]
  have hf := v_first (S := mat (m + 1) ps) (fun r hr => by
    obtain ⟨v, _, rfl⟩ := List.mem_map.mp hr
    rw [rowF_len]; omega) (by rw [hlm]; omega)
  rw [fpl_mat] at hf
  have hlp : l ∈ ps := List.mem_of_getElem? hl
  have hrow : atI ((mat (m + 1) ps).map dL) (lead ps : Int) = some (dL (rowF (m + 1) l.2)) := by
    apply atI_of' (by omega) (by rw [List.length_map, hlm]; omega)
    rw [Int.toNat_natCast, List.getElem?_map, mat, List.getElem?_map, hl]; rfl
  have hlead0 : atI ((rowF (m + 1) l.2).map D.int) 0 = some (.int (l.2 0)) := at_range (f := l.2) (j := 0) (by omega)
  have hero : (mat (m + 1) ps).eraseIdx (lead ps) = mat (m + 1) (ps.eraseIdx (lead ps)) := by
    unfold mat
    rw [List.eraseIdx_eq_take_drop_succ, List.eraseIdx_eq_take_drop_succ, List.map_append, List.map_take, List.map_drop]
  have hne : ¬ ((lead ps : Int) = ((m + 1 : Nat) : Int)) := by omega
  generalize hTm : mat (m + 1) ps = Q at *
  generalize hpp : lead ps = p at *
  have hpT : p < Q.length := by omega
  have s1 : fSet 4 (fCall 1 G_first_place_with_lead (fCons (fVar 1) fNil)) (eB o0 Q 2 sg d o4 o5 o6) = some (.next (eB o0 Q 2 sg d (some (.int p, 2)) o5 o6)) := by simp [hf, dropS]
  have s2 : fIfS (fTst (fB (gEq false) (fVar 4) (fN gLen (fCons (fVar 1) fNil)))) (fRet (fC (.int 0))) fNext (eB o0 Q 2 sg d (some (.int p, 2)) o5 o6) = some (.next (eB o0 Q 2 sg d (some (.int p, 2)) o5 o6)) := by
    simp [hlm, hne]
    omega
  have s3 : fIfS (fTst (fB (gEq false) (fB gModI (fVar 4) (fC (.int 2))) (fC (.int 1)))) (fSet 2 (fU gNeg (fVar 2))) fNext (eB o0 Q 2 sg d (some (.int p, 2)) o5 o6) = some (.next (eB o0 Q 2 (sg * sgn p) d (some (.int p, 2)) o5 o6)) := by
    unfold sgn
    by_cases h : p % 2 = 1
    · have h' : (p : Int) % 2 = 1 := by omega
      rw [if_pos h, show sg * (-1 : Int) = -sg by omega]
      simp [cMod, h', dropS]
    · have h' : ¬ (p : Int) % 2 = 1 := by omega
      rw [if_neg h, Int.mul_one]
      simp [cMod, h']
  generalize sg * sgn p = sg' at *
  have s4 : fSet 5 (fIx (fVar 1) (fVar 4)) (eB o0 Q 2 sg' d (some (.int p, 2)) o5 o6) = some (.next (eB o0 Q 0 sg' d (some (.int p, 2)) (some (dL (rowF (m + 1) l.2), 0)) o6)) := by
    generalize rowF (m + 1) l.2 = R at hrow
    simp [hrow, lvI, dropS]
  obtain ⟨l6, S6, hS6, ov⟩ := others_val hpT (by omega) o0 sg' d (some (dL (rowF (m + 1) l.2), 0)) o6
  rw [hero] at ov
  have s5 : ∀ q : FE, q (eB o0 Q 0 sg' d (some (.int p, 2)) (some (dL (rowF (m + 1) l.2), 0)) o6) = some (⟨dR (mat (m + 1) (ps.eraseIdx p)), l6, S6⟩, eB o0 Q 0 sg' d (some (.int p, 2)) (some (dL (rowF (m + 1) l.2), 0)) o6) → fSet 6 q (eB o0 Q 0 sg' d (some (.int p, 2)) (some (dL (rowF (m + 1) l.2), 0)) o6) = some (.next (eB o0 Q 0 sg' d (some (.int p, 2)) (some (dL (rowF (m + 1) l.2), 0)) (some (dR (mat (m + 1) (ps.eraseIdx p)), l6)))) := fun q hq => by
    unfold fSet
    rw [hq]
    simp only [Option.bind_some]
    rw [if_pos (by show 6 < 7; decide), dropS_one hS6]
    rfl
  have s5 := s5 _ ov
  have hen : (ps.eraseIdx p).length = m := by rw [List.length_eraseIdx_of_lt hp]; omega
  have hw : ∀ v ∈ ps.eraseIdx p, G_without_lead [dL (rowF (m + 1) v.2), dL (rowF (m + 1) l.2), .int d] = some (dL (rowF m (T v)), 2) := fun v hv' =>
    v_without (by omega) (hb v (List.mem_of_mem_eraseIdx hv')) (hb l hlp) hd hdb fun j hj => hT v hv' j hj
  have s6 : ∃ o6', fSet 1 (fComp [none, some 5, some 3] 0 (fiL (fMv 6)) fYes (fCall 3 G_without_lead (fCons (fVar 0) (fCons (fVar 1) (fCons (fVar 2) fNil))))) (eB o0 Q 0 sg' d (some (.int p, 2)) (some (dL (rowF (m + 1) l.2), 0)) (some (dR (mat (m + 1) (ps.eraseIdx p)), l6))) = some (.next (eB o0 (mat m ((ps.eraseIdx p).map fun v => (v.1, T v))) 2 sg' d (some (.int p, 2)) (some (dL (rowF (m + 1) l.2), 0)) o6')) := by
    have key : ∀ (o6' : Option (D × Nat)) (l' : Nat) (S' : List Nat), fiL (fMv 6) (eB o0 Q 0 sg' d (some (.int p, 2)) (some (dL (rowF (m + 1) l.2), 0)) (some (dR (mat (m + 1) (ps.eraseIdx p)), l6))) = some (⟨(ps.eraseIdx p).map fun v => dL (rowF (m + 1) v.2), l', S'⟩, eB o0 Q 0 sg' d (some (.int p, 2)) (some (dL (rowF (m + 1) l.2), 0)) o6') → fSet 1 (fComp [none, some 5, some 3] 0 (fiL (fMv 6)) fYes (fCall 3 G_without_lead (fCons (fVar 0) (fCons (fVar 1) (fCons (fVar 2) fNil))))) (eB o0 Q 0 sg' d (some (.int p, 2)) (some (dL (rowF (m + 1) l.2), 0)) (some (dR (mat (m + 1) (ps.eraseIdx p)), l6))) = some (.next (eB o0 (mat m ((ps.eraseIdx p).map fun v => (v.1, T v))) 2 sg' d (some (.int p, 2)) (some (dL (rowF (m + 1) l.2), 0)) o6')) := fun o6' l' S' hit => by
      have hc := fComp_rows (ix := [none, some 5, some 3]) (j := 0) (ft := fYes) (fe := fCall 3 G_without_lead (fCons (fVar 0) (fCons (fVar 1) (fCons (fVar 2) fNil)))) (fun v => dL (rowF (m + 1) v.2)) (fun v => rowF m (T v)) (ps.eraseIdx p) hit (szl (by omega)) (fun v hv' => ⟨_, rfl, by
        have h := hw v hv'
        generalize rowF (m + 1) v.2 = R at h
        generalize rowF (m + 1) l.2 = L at h
        simp [inP, h]⟩)
      have hmm : (ps.eraseIdx p).map (fun v => rowF m (T v)) = mat m ((ps.eraseIdx p).map fun v => (v.1, T v)) := by simp [mat, Function.comp_def]
      unfold fSet
      rw [hc, hmm]
      rfl
    have hm2 : (mat (m + 1) (ps.eraseIdx p)).map dL = (ps.eraseIdx p).map fun v => dL (rowF (m + 1) v.2) := by simp [mat, Function.comp_def]
    by_cases h6 : l6 = 2
    · refine ⟨none, key none 2 [] ?_⟩
      subst h6
      rw [← hm2]
      simp
    · refine ⟨some (dR (mat (m + 1) (ps.eraseIdx p)), l6), key _ 0 [6] ?_⟩
      rw [← hm2]
      simp [h6]
  obtain ⟨o6', s6⟩ := s6
  have s7 : fSet 3 (fIx (fVar 5) (fC (.int 0))) (eB o0 (mat m ((ps.eraseIdx p).map fun v => (v.1, T v))) 2 sg' d (some (.int p, 2)) (some (dL (rowF (m + 1) l.2), 0)) o6') = some (.next (eB o0 (mat m ((ps.eraseIdx p).map fun v => (v.1, T v))) 2 sg' (l.2 0) (some (.int p, 2)) (some (dL (rowF (m + 1) l.2), 0)) o6')) := by
    generalize rowF (m + 1) l.2 = L at hlead0
    simp [hlead0, lvI, dropS]
  refine ⟨some (.int p, 2), some (dL (rowF (m + 1) l.2), 0), o6', ?_⟩
  unfold B1_determinant
  rw [fSeq_next s1, fSeq_next s2, fSeq_next s3, fSeq_next s4, fSeq_next s5, fSeq_next s6, s7]
theorem step_none {ps : List (Fn × Fn)} {m : Nat} (hv : ps.length = m + 1) (hm : m ≤ 23) (hl : lead ps = m + 1) (o0 o4 o5 o6 : Option (D × Nat)) (sg d : Int) :
    B1_determinant G_need_square G_first_place_with_lead G_without_lead (eB o0 (mat (m + 1) ps) 2 sg d o4 o5 o6) = some (.ret ⟨.int 0, 2, []⟩) := by
  have hlm : (mat (m + 1) ps).length = m + 1 := by rw [mat_len, hv]
  have hf := v_first (S := mat (m + 1) ps) (fun r hr => by
    obtain ⟨v, _, rfl⟩ := List.mem_map.mp hr
    rw [rowF_len]; omega) (by rw [hlm]; omega)
  rw [fpl_mat, hl] at hf
  generalize mat (m + 1) ps = T at *
  have s1 : fSet 4 (fCall 1 G_first_place_with_lead (fCons (fVar 1) fNil)) (eB o0 T 2 sg d o4 o5 o6) = some (.next (eB o0 T 2 sg d (some (.int ((m + 1 : Nat) : Int), 2)) o5 o6)) := by simp [hf, dropS]
  have s2 : fIfS (fTst (fB (gEq false) (fVar 4) (fN gLen (fCons (fVar 1) fNil)))) (fRet (fC (.int 0))) fNext (eB o0 T 2 sg d (some (.int ((m + 1 : Nat) : Int), 2)) o5 o6) = some (.ret ⟨.int 0, 2, []⟩) := by
    simp [hlm]
  unfold B1_determinant
  rw [fSeq_next s1]
  unfold fSeq
  rw [s2]
  rfl
noncomputable def PmF (v : Fn) : Prop := ∀ j, v j = 1 ∨ v j = -1
theorem dt_pm : ∀ (n : Nat) (v : Fn), PmF v → dt n v v = n
  | 0, _, _ => rfl
  | n + 1, v, h => by
    have ih := dt_pm n (sh v) fun j => h (j + 1)
    have h0 := h 0
    simp only [dt]
    rw [ih]
    have : v 0 * v 0 = 1 := by rcases h0 with e | e <;> rw [e] <;> rfl
    rw [this]
    omega
theorem pr_pm (n : Nat) : ∀ rs : List Fn, (∀ r ∈ rs, PmF r) → pr n rs = (n : Int) ^ rs.length
  | [], _ => rfl
  | r :: rs, h => by
    have ih := pr_pm n rs fun x hx => h x (List.mem_cons_of_mem _ hx)
    show dt n r r * pr n rs = _
    rw [dt_pm n r (h r (List.mem_cons_self ..)), ih, List.length_cons, Int.pow_succ, Int.mul_comm]
theorem pow_20 {n k : Nat} (h1 : 1 ≤ n) (hn : n ≤ 20) (hk : k ≤ n) : (n : Int) ^ k ≤ 20 ^ 20 := by
  have a : n ^ k ≤ n ^ n := Nat.pow_le_pow_right h1 hk
  have b : n ^ n ≤ 20 ^ n := Nat.pow_le_pow_left hn n
  have c : 20 ^ n ≤ 20 ^ 20 := Nat.pow_le_pow_right (by decide) hn
  have d : n ^ k ≤ 20 ^ 20 := Nat.le_trans a (Nat.le_trans b c)
  have e : ((n ^ k : Nat) : Int) ≤ ((20 ^ 20 : Nat) : Int) := Int.ofNat_le.mpr d
  rw [Int.natCast_pow] at e
  exact e
theorem bd_sq {x : Int} (h : x * x ≤ 20 ^ 20) : Bd x := by
  refine ⟨?_, ?_⟩
  · by_cases c : -(2 ^ 64) < x
    · exact c
    · exfalso
      have c1 : (2 ^ 64 : Int) ≤ -x := by omega
      have := Int.mul_le_mul c1 c1 (by decide) (by omega)
      have e : -x * -x = x * x := by grind
      rw [e] at this
      have : (2 ^ 64 * 2 ^ 64 : Int) ≤ 20 ^ 20 := Int.le_trans this h
      exact absurd this (by decide)
  · by_cases c : x < 2 ^ 64
    · exact c
    · exfalso
      have c1 : (2 ^ 64 : Int) ≤ x := by omega
      have := Int.mul_le_mul c1 c1 (by decide) (by omega)
      have : (2 ^ 64 * 2 ^ 64 : Int) ≤ 20 ^ 20 := Int.le_trans this h
      exact absurd this (by decide)
theorem BI_bd {n : Nat} (h1 : 1 ≤ n) (hn : n ≤ 20) {us : List Fn} {d : Int} {ps : List (Fn × Fn)} (h : BI n us d ps) (hu : ∀ u ∈ us, PmF u) (hp : ∀ p ∈ ps, PmF p.1) {p : Fn × Fn} (hm : p ∈ ps) {j : Nat} (hj : j < ps.length) : Bd (p.2 j) := by
  have b := h.bound hm hj
  have hl := h.len
  rw [pr_pm n (p.1 :: us) fun r hr => by
    rcases List.mem_cons.mp hr with rfl | hr
    · exact hp p hm
    · exact hu r hr] at b
  exact bd_sq (Int.le_trans b (pow_20 h1 hn (by rw [List.length_cons]; omega)))
theorem cons_erase {α : Type} : ∀ (xs : List α) (i : Nat) (a : α), xs[i]? = some a → (a :: xs.eraseIdx i).Perm xs
  | [], _, _, h => by simp at h
  | x :: xs, 0, a, h => by
    simp at h
    subst h
    exact List.Perm.refl _
  | x :: xs, i + 1, a, h => by
    have ih := cons_erase xs i a (by simpa using h)
    rw [List.eraseIdx_cons_succ]
    exact (List.Perm.swap x a _).trans (ih.cons x)
theorem det_loop {n : Nat} (h1 : 1 ≤ n) (hn : n ≤ 20) (o0 : Option (D × Nat)) : ∀ (m : Nat) (us : List Fn) (ps : List (Fn × Fn)) (d : Int) (f : Nat) (g0 : Int) (o4 o5 o6 : Option (D × Nat)), ps.length = m + 1 → BI n us d ps → (∀ u ∈ us, PmF u) → (∀ p ∈ ps, PmF p.1) → Bd d → m < f → (g0 = 1 ∨ g0 = -1) →
    (∃ o4' o5' o6' g0' d' x, whileGo tstD (B1_determinant G_need_square G_first_place_with_lead G_without_lead) f (eB o0 (mat (m + 1) ps) 2 g0 d o4 o5 o6) = some (.next (eB o0 [[x]] 2 g0' d' o4' o5' o6')) ∧ (g0' = 1 ∨ g0' = -1) ∧ x * x = ip n (W ((ps.map fun p => p.1) ++ us)) (W ((ps.map fun p => p.1) ++ us))) ∨
    (whileGo tstD (B1_determinant G_need_square G_first_place_with_lead G_without_lead) f (eB o0 (mat (m + 1) ps) 2 g0 d o4 o5 o6) = some (.ret ⟨.int 0, 2, []⟩) ∧ ip n (W ((ps.map fun p => p.1) ++ us)) (W ((ps.map fun p => p.1) ++ us)) = 0)
  | 0, us, ps, d, f + 1, g0, o4, o5, o6, hv, hB, hu, hp, hd, hf, hsg => by
    obtain ⟨p, rfl⟩ := List.length_eq_one_iff.mp hv
    left
    refine ⟨o4, o5, o6, g0, d, p.2 0, ?_, hsg, hB.last⟩
    have e : mat (0 + 1) [p] = [[p.2 0]] := rfl
    rw [e, whileGo, tst_val]
    simp
  | m + 1, us, ps, d, f + 1, g0, o4, o5, o6, hv, hB, hu, hp, hd, hf, hsg => by
    have hlen := hB.len
    have hlm : (mat (m + 1 + 1) ps).length = m + 1 + 1 := by rw [mat_len, hv]
    rw [whileGo, tst_val, hlm]
    have ht : decide ((1 : Int) < ((m + 1 + 1 : Nat) : Int)) = true := decide_eq_true (by omega)
    rw [ht]
    simp only [Option.bind_some, if_true]
    have hle : lead ps ≤ ps.length := List.findIdx_le_length
    have hbd : ∀ p ∈ ps, Bd (p.2 0) := fun p hm => BI_bd h1 hn hB hu hp hm (by omega)
    by_cases hlead : lead ps < ps.length
    · obtain ⟨l, hl, hl0⟩ := lead_lt hlead
      have hlm' : l ∈ ps := List.mem_of_getElem? hl
      have hen : (ps.eraseIdx (lead ps)).length = m + 1 := by rw [List.length_eraseIdx_of_lt hlead]; omega
      obtain ⟨T, hT, hB'⟩ := hB.step hlm' hl0 (rest := ps.eraseIdx (lead ps)) (fun v hv' => List.mem_of_mem_eraseIdx hv') (by omega)
      obtain ⟨o4', o5', o6', st⟩ := step_ok (m := m + 1) hv (by omega) hB.dne hd hbd hl (T := T) (fun v hv' j hj => hT v hv' j (by omega)) o0 o4 o5 o6 g0
      rw [st]
      simp only [Option.bind_some]
      have ih := det_loop h1 hn o0 m (l.1 :: us) ((ps.eraseIdx (lead ps)).map fun v => (v.1, T v)) (l.2 0) f (g0 * sgn (lead ps)) o4' o5' o6' (by rw [List.length_map, hen]) hB'
        (fun u hu' => by
          rcases List.mem_cons.mp hu' with rfl | z
          · exact hp l hlm'
          · exact hu u z) (fun q hq => by
          obtain ⟨v, hv', rfl⟩ := List.mem_map.mp hq
          exact hp v (List.mem_of_mem_eraseIdx hv')) (hbd l hlm') (by omega) (pm_mul hsg (sgn_pm _))
      have hperm : ((((ps.eraseIdx (lead ps)).map fun v => (v.1, T v)).map fun p => p.1) ++ (l.1 :: us)).Perm ((ps.map fun p => p.1) ++ us) := by
        rw [List.map_map]
        have e1 : ((fun p : Fn × Fn => p.1) ∘ fun v : Fn × Fn => (v.1, T v)) = fun v : Fn × Fn => v.1 := rfl
        rw [e1]
        have p1 : (l :: ps.eraseIdx (lead ps)).Perm ps := cons_erase ps _ l hl
        have p2 := (p1.map fun v : Fn × Fn => v.1).append_right us
        refine List.Perm.trans ?_ p2
        rw [List.map_cons, List.cons_append]
        exact List.perm_middle
      have hnp := norm_perm n hperm
      rw [hnp] at ih
      exact ih
    · have he : lead ps = m + 1 + 1 := by omega
      right
      have hz : ∀ p ∈ ps, p.2 0 = 0 := fun p hm => by
        have h : ps.findIdx (fun p : Fn × Fn => !decide (p.2 0 = 0)) = ps.length := by rw [hv]; exact he
        have := List.findIdx_eq_length.mp h p hm
        simpa using this
      rw [step_none (m := m + 1) hv (by omega) he]
      exact ⟨rfl, hB.none (fun z => by rw [z] at hv; simp at hv) hz⟩
noncomputable def rsOf (n : Nat) (M : Nat → Nat → Int) : List Fn := (List.range n).map fun i => fun j => if j < n then M i j else 1
theorem rsOf_len (n : Nat) (M : Nat → Nat → Int) : (rsOf n M).length = n := by simp [rsOf]
theorem mat_init {n : Nat} (M : Nat → Nat → Int) : mkT n M = mat n ((rsOf n M).map fun r => (r, r)) := by
  unfold mkT mat rsOf
  rw [List.map_map, List.map_map]
  apply List.map_congr_left
  intro i _
  show _ = rowF n _
  unfold rowF
  apply List.map_congr_left
  intro j hj
  show M i j = if j < n then M i j else 1
  rw [if_pos (List.mem_range.mp hj)]
theorem rsOf_pm {n : Nat} {M : Nat → Nat → Int} (hp : Pm n M) : ∀ v ∈ rsOf n M, PmF v := fun v hv j => by
  obtain ⟨i, hi, rfl⟩ := List.mem_map.mp hv
  show (if j < n then M i j else 1) = 1 ∨ (if j < n then M i j else 1) = -1
  by_cases h : j < n
  · rw [if_pos h]; exact hp i j (List.mem_range.mp hi) h
  · rw [if_neg h]; exact .inl rfl
theorem v_det {n : Nat} {M : Nat → Nat → Int} (hp : Pm n M) (h1 : 1 ≤ n) (h5 : n ≤ 20) : ∃ x : Int, x * x = ip n (W (rsOf n M)) (W (rsOf n M)) ∧ G_determinant [dR (mkT n M)] = some (.int x, 2) := by
  obtain ⟨sm1, sm2⟩ := small_mk (M := M) (show n ≤ 24 by omega)
  have hn := v_need_square (by omega) sm2 (sq_sqB (sq_mk hp) h1 (by omega))
  have s0 : fDrop (fCall 1 G_need_square (fCons (fVar 0) fNil)) (envF 7 [dR (mkT n M)]) = some (.next [some (dR (mkT n M), 0), none, none, none, none, none, none]) := by simp [envF, hn]
  have key : fComp [none] 0 (fiL (fMv 0)) fYes (fList (fCons (fVar 0) fNil)) [some (dR (mkT n M), 0), none, none, none, none, none, none] = some (⟨dR ((mkT n M).map fun r => r), 2, []⟩, [some (dR (mkT n M), 0), none, none, none, none, none, none]) := by
    refine fComp_rows (l := 0) (S := [0]) dL (fun r => r) (mkT n M) (by simp) (szl (by omega)) fun r _ => ?_
    refine ⟨_, rfl, ?_⟩
    simp [inP, lvL_ints]
  simp only [List.map_id'] at key
  have s1 : fSet 1 (fComp [none] 0 (fiL (fMv 0)) fYes (fList (fCons (fVar 0) fNil))) [some (dR (mkT n M), 0), none, none, none, none, none, none] = some (.next [some (dR (mkT n M), 0), some (dR (mkT n M), 2), none, none, none, none, none]) := by
    unfold fSet
    rw [key]
    rfl
  have s2 : fSet 2 (fC (.int 1)) [some (dR (mkT n M), 0), some (dR (mkT n M), 2), none, none, none, none, none] = some (.next [some (dR (mkT n M), 0), some (dR (mkT n M), 2), some (.int 1, 2), none, none, none, none]) := by simp [dropS]
  have s3 : fSet 3 (fC (.int 1)) [some (dR (mkT n M), 0), some (dR (mkT n M), 2), some (.int 1, 2), none, none, none, none] = some (.next (eB (some (dR (mkT n M), 0)) (mkT n M) 2 1 1 none none none)) := by simp [dropS]
  obtain ⟨m, rfl⟩ : ∃ m, n = m + 1 := ⟨n - 1, by omega⟩
  have lp := det_loop h1 h5 (some (dR (mkT (m + 1) M), 0)) m [] ((rsOf (m + 1) M).map fun r => (r, r)) 1 64 1 none none none (by rw [List.length_map, rsOf_len]) (BI.init (rsOf_len _ _)) (fun u hu => (nomatch hu)) (fun p hp' => by
    obtain ⟨r, hr, rfl⟩ := List.mem_map.mp hp'
    exact rsOf_pm hp r hr) ⟨by decide, by decide⟩ (by omega) (.inl rfl)
  have e1 : (((rsOf (m + 1) M).map fun r => (r, r)).map fun p : Fn × Fn => p.1) ++ [] = rsOf (m + 1) M := by
    rw [List.append_nil, List.map_map]
    exact List.map_id' _
  rw [← mat_init, e1] at lp
  rcases lp with ⟨o4, o5, o6, sg, d, x, h, hsg, hx⟩ | ⟨h, hz⟩
  · refine ⟨sg * x, ?_, ?_⟩
    · rw [← hx]
      rcases hsg with rfl | rfl <;> grind
    · unfold G_determinant runF F_determinant
      rw [fSeq_next s0, fSeq_next s1, fSeq_next s2, fSeq_next s3, fSeq_next h]
      have hc : cMul sg x = true := cMul_b (by rcases hsg with rfl | rfl <;> exact ⟨by decide, by decide⟩)
      have a0 : atI [dL [x]] 0 = some (dL [x]) := rfl
      have a1 : atI [D.int x] 0 = some (.int x) := rfl
      simp [a0, a1, lvI, hc, endF]
  · refine ⟨0, by rw [hz]; rfl, ?_⟩
    unfold G_determinant runF F_determinant
    rw [fSeq_next s0, fSeq_next s1, fSeq_next s2, fSeq_next s3]
    unfold fSeq
    rw [h]
    simp [endF]
theorem dt_sum : ∀ (n : Nat) (u v : Fn), dt n u v = sumN n fun j => u j * v j
  | 0, _, _ => rfl
  | n + 1, u, v => by
    have ih := dt_sum n (sh u) (sh v)
    simp only [dt]
    rw [ih]
    unfold sumN
    rw [List.range_succ_eq_map, List.map_cons, List.sum_cons, List.map_map]
    rfl
theorem dt_comm (n : Nat) (u v : Fn) : dt n u v = dt n v u := by
  rw [dt_sum, dt_sum]
  exact sumN_congr fun i _ => Int.mul_comm _ _
theorem ort_pair {n : Nat} {M : Nat → Nat → Int} (hp : Pm n M) : ortB (mkT n M) = true ↔ (rsOf n M).Pairwise fun a b => dt n a b = 0 := by
  rw [ort_iff (sq_mk hp), List.pairwise_iff_getElem]
  have key : ∀ i k, i < n → k < n → dt n (fun j => if j < n then M i j else 1) (fun j => if j < n then M k j else 1) = sumN n fun j => pl (mkT n M) i j * pl (mkT n M) k j := fun i k hi hk => by
    rw [dt_sum]
    refine sumN_congr fun j hj => ?_
    rw [pl_mk hi hj, pl_mk hk hj, if_pos hj, if_pos hj]
  have get : ∀ i (h : i < (rsOf n M).length), (rsOf n M)[i] = fun j => if j < n then M i j else 1 := fun i h => by simp [rsOf]
  constructor
  · intro h i k hi hk hik
    rw [get i hi, get k hk]
    rw [rsOf_len] at hi hk
    rw [key i k hi hk]
    exact h i k hi hk (by omega)
  · intro h i k hi hk hne
    rw [← key i k hi hk]
    by_cases hik : i < k
    · have := h i k (by rw [rsOf_len]; exact hi) (by rw [rsOf_len]; exact hk) hik
      rw [get, get] at this
      exact this
    · have := h k i (by rw [rsOf_len]; exact hk) (by rw [rsOf_len]; exact hi) (by omega)
      rw [get, get] at this
      rw [dt_comm]
      exact this
theorem great {n : Nat} {M : Nat → Nat → Int} (hp : Pm n M) (h1 : 1 ≤ n) {x : Int} (hx : x * x = ip n (W (rsOf n M)) (W (rsOf n M))) : x * x ≤ (n : Int) ^ n ∧ (x * x = (n : Int) ^ n ↔ ortB (mkT n M) = true) := by
  have hpr := pr_pm n (rsOf n M) (rsOf_pm hp)
  rw [rsOf_len] at hpr
  rw [hx, ← hpr]
  refine ⟨had n _, ?_⟩
  rw [ort_pair hp]
  exact had_eq n _ fun r hr => by rw [dt_pm n r (rsOf_pm hp r hr)]; omega
theorem set_ent {n k c : Nat} (hk : k < n) (F : Nat → Nat → Int) (y : Int) : (mkT n F).set k ((row (mkT n F) k).set c y) = mkT n fun i j => if i = k ∧ j = c then y else F i j := by
  rw [row_mk hk]
  have e : ((List.range n).map fun j => F k j).set c y = (List.range n).map fun j => if j = c then y else F k j := by
    apply List.ext_getElem?
    intro j
    rw [List.getElem?_set]
    by_cases e : c = j
    · subst e
      by_cases hc : c < n <;> simp [hc]
    · by_cases hj : j < n
      · simp [e, hj, Ne.symm e]
      · simp [e, hj]
  rw [e]
  unfold mkT
  apply List.ext_getElem?
  intro i
  rw [List.getElem?_set]
  by_cases e : k = i
  · subst e
    by_cases hk : k < n <;> simp [hk]
  · by_cases hi : i < n
    · simp [e, hi, Ne.symm e]
    · simp [e, hi]
noncomputable abbrev eL (ns : List Int) (o1 o2 o3 o4 o5 o6 o7 : Option (D × Nat)) : PEnv := [some (dS ns, 0), o1, o2, o3, o4, o5, o6, o7]
theorem mod_nat {x : Int} {n : Nat} (h : 1 ≤ n) : ∃ k : Nat, k < n ∧ x % (n : Int) = (k : Int) := by
  have h0 := Int.emod_nonneg x (show (n : Int) ≠ 0 by omega)
  have h1 := Int.emod_lt_of_pos x (show (0 : Int) < n by omega)
  exact ⟨(x % (n : Int)).toNat, by omega, by omega⟩
theorem cMul_n {y : Int} {n : Nat} (h : n ≤ 20) : cMul y (n : Int) = true := by
  have hb : Bd (n : Int) := by
    unfold Bd
    omega
  unfold cMul
  rw [decide_eq_true hb.1, decide_eq_true hb.2]
  exact Bool.or_true _
theorem most_b (ns : List Int) (c : Int) {n : Nat} (h20 : n ≤ 20) (M : Nat → Nat → Int) (o3 o4 : Option (D × Nat)) (x y : Int) (k : Nat) : B1_lawK13 G__law_cell_at G__law_table G__law_square G_determinant G__law_whole G__law_balanced (eL ns (some (.int c, 2)) (some (dR (mkT n M), 2)) o3 o4 (some (.int x, 2)) (some (.int y, 2)) (some (.int (k : Int), 2))) = some (.next (eL ns (some (.int c, 2)) (some (dR (mkT n M), 2)) o3 o4 (some (.int x, 2)) (some (.int (y * (n : Int)), 2)) (some (.int (k : Int), 2)))) := by
  have hl : (mkT n M).length = n := mk_len
  have hc : cMul y (n : Int) = true := cMul_n h20
  simp [B1_lawK13, hl, hc, dropS]
theorem law_true : ∀ ns : List Int, ns.length ≤ 63 → G_lawK13 [.ro (ns.map D.int)] = some (.bl true, 2) := by
  intro ns _
  have hc0 := v_cell ns (k := 0) (by decide)
  generalize cell ns 0 = c at hc0
  have s1 : fSet 1 (fCall 2 G__law_cell_at (fCons (fVar 0) (fCons (fC (.int 0)) fNil))) (envF 8 [dS ns]) = some (.next (eL ns (some (.int c, 2)) none none none none none none)) := by simp [envF, hc0]
  have hta := v_table ns (a := 1) (most := 20) (by decide) (by decide)
  obtain ⟨n0, M0, hn0, hn20, hH0, ht0⟩ := had_tab ns 1 (most := 20) (by decide)
  rw [ht0] at hta
  have hsz := sizes_le hn0
  have hsq := v_square ns (a := 1) (most := 8) (by decide) (by decide) (by decide)
  have hSq := sq_sqr ns 1 8
  obtain ⟨_, q2, q3⟩ := sqn_ok ns 1 (most := 8) (by decide)
  have s2 : fSet 2 (fCall 3 G__law_table (fCons (fVar 0) (fCons (fC (.int 1)) (fCons (fC (.int 20)) fNil)))) (eL ns (some (.int c, 2)) none none none none none none) = some (.next (eL ns (some (.int c, 2)) (some (dR (mkT n0 M0), 2)) none none none none none)) := by simp [hta]
  obtain ⟨n, M1, hp1, h1, h20, s3⟩ : ∃ n M, Pm n M ∧ 1 ≤ n ∧ n ≤ 20 ∧ fIfS (fTst (fB (gEq false) (fB gModI (fVar 1) (fC (.int 2))) (fC (.int 1)))) (fSet 2 (fCall 3 G__law_square (fCons (fVar 0) (fCons (fC (.int 1)) (fCons (fC (.int 8)) fNil))))) fNext (eL ns (some (.int c, 2)) (some (dR (mkT n0 M0), 2)) none none none none none) = some (.next (eL ns (some (.int c, 2)) (some (dR (mkT n M), 2)) none none none none none)) := by
    by_cases h : c % 2 = 1
    · refine ⟨sqn ns 1 8, pl (sqr ns 1 8), pm_pl hSq, q2, by omega, ?_⟩
      rw [mk_eta hSq] at hsq
      generalize mkT (sqn ns 1 8) (pl (sqr ns 1 8)) = R at hsq
      simp [cMod, h, hsq]
    · exact ⟨n0, M0, hH0.pm, hsz.1, by omega, by simp [cMod, h]⟩
  have hl1 : (mkT n M1).length = n := mk_len
  have hn' : 0 < n := h1
  obtain ⟨M, o3, o4, hp, s4⟩ : ∃ M o3 o4, Pm n M ∧ fIfS (fTst (fB (gEq false) (fB gModI (fB gDivI (fVar 1) (fC (.int 2))) (fC (.int 2))) (fC (.int 1)))) (fSeq (fSet 3 (fB gModI (fB gDivI (fVar 1) (fC (.int 4))) (fN gLen (fCons (fVar 2) fNil))))
 (fSeq (fSet 4 (fB gModI (fB gDivI (fVar 1) (fC (.int 128))) (fN gLen (fCons (fVar 2) fNil))))
 (fSto2 2 (fVar 3) (fVar 4) (fU gNeg (fIx (fIx (fVar 2) (fVar 3)) (fVar 4)))))) fNext (eL ns (some (.int c, 2)) (some (dR (mkT n M1), 2)) none none none none none) = some (.next (eL ns (some (.int c, 2)) (some (dR (mkT n M), 2)) o3 o4 none none none)) := by
    by_cases h : c / 2 % 2 = 1
    · obtain ⟨a, ha, ea⟩ := mod_nat (x := c / 4) h1
      obtain ⟨b, hb, eb⟩ := mod_nat (x := c / 128) h1
      refine ⟨fun i j => if i = a ∧ j = b then -(M1 a b) else M1 i j, some (.int a, 2), some (.int b, 2), fun i j hi hj => ?_, ?_⟩
      · show (if i = a ∧ j = b then -(M1 a b) else M1 i j) = 1 ∨ (if i = a ∧ j = b then -(M1 a b) else M1 i j) = -1
        have := hp1 a b ha hb
        have := hp1 i j hi hj
        split <;> omega
      · have t1 : fSet 3 (fB gModI (fB gDivI (fVar 1) (fC (.int 4))) (fN gLen (fCons (fVar 2) fNil))) (eL ns (some (.int c, 2)) (some (dR (mkT n M1), 2)) none none none none none) = some (.next (eL ns (some (.int c, 2)) (some (dR (mkT n M1), 2)) (some (.int a, 2)) none none none none)) := by simp [cDiv, cMod, hl1, hn', ea, dropS]
        have t2 : fSet 4 (fB gModI (fB gDivI (fVar 1) (fC (.int 128))) (fN gLen (fCons (fVar 2) fNil))) (eL ns (some (.int c, 2)) (some (dR (mkT n M1), 2)) (some (.int a, 2)) none none none none) = some (.next (eL ns (some (.int c, 2)) (some (dR (mkT n M1), 2)) (some (.int a, 2)) (some (.int b, 2)) none none none)) := by simp [cDiv, cMod, hl1, hn', eb, dropS]
        have hat : atI ((mkT n M1).map dL) (a : Int) = some (dL (row (mkT n M1) a)) := atI_rows (by omega) (by rw [hl1]; omega)
        have hrl : (row (mkT n M1) a).length = n := by rw [row_mk ha]; simp
        have hat2 : atI ((row (mkT n M1) a).map D.int) (b : Int) = some (.int (M1 a b)) := by rw [row_mk ha]; exact at_range hb
        have t3 : fSto2 2 (fVar 3) (fVar 4) (fU gNeg (fIx (fIx (fVar 2) (fVar 3)) (fVar 4))) (eL ns (some (.int c, 2)) (some (dR (mkT n M1), 2)) (some (.int a, 2)) (some (.int b, 2)) none none none) = some (.next (eL ns (some (.int c, 2)) (some (dR (mkT n fun i j => if i = a ∧ j = b then -(M1 a b) else M1 i j), 2)) (some (.int a, 2)) (some (.int b, 2)) none none none)) := by
          rw [fSto2_rows (rows := mkT n M1) (k := (a : Int)) (m := (b : Int)) (y := -(M1 a b)) (l := 2) (S := []) (l' := 2) (S' := []) (l'' := 2) (S'' := []) rfl (by
            generalize row (mkT n M1) a = q at hat hat2
            simp [lvI, hat, hat2]) (by simp) (by simp) (by omega) (by rw [hl1]; omega) (by omega) (by rw [hrl]; omega)]
          rw [Int.toNat_natCast, Int.toNat_natCast, set_ent ha]; rfl
        have e : ∀ g : FS, fIfS (fTst (fB (gEq false) (fB gModI (fB gDivI (fVar 1) (fC (.int 2))) (fC (.int 2))) (fC (.int 1)))) g fNext (eL ns (some (.int c, 2)) (some (dR (mkT n M1), 2)) none none none none none) = g (eL ns (some (.int c, 2)) (some (dR (mkT n M1), 2)) none none none none none) := fun g => by simp [cDiv, cMod, h]
        rw [e, fSeq_next t1, fSeq_next t2, t3]
    · exact ⟨M1, none, none, hp1, by simp [cDiv, cMod, h]⟩
  have hl : (mkT n M).length = n := mk_len
  obtain ⟨x, hx, hdet⟩ := v_det hp h1 h20
  obtain ⟨gle, geq⟩ := great hp h1 hx
  have hxb : Bd x := bd_sq (Int.le_trans gle (pow_20 h1 h20 (Nat.le_refl _)))
  have hcm : cMul x x = true := cMul_b hxb
  obtain ⟨sm1, sm2⟩ := small_mk (M := M) (show n ≤ 24 by omega)
  have hbal := v_law_balanced (rows := mkT n M) sm1 fun r hr => ⟨sm2 r hr, ((sq_mk hp).2 r hr).2⟩
  have hwh := v_whole x
  have s5 : fSet 5 (fCall 1 G_determinant (fCons (fVar 2) fNil)) (eL ns (some (.int c, 2)) (some (dR (mkT n M), 2)) o3 o4 none none none) = some (.next (eL ns (some (.int c, 2)) (some (dR (mkT n M), 2)) o3 o4 (some (.int x, 2)) none none)) := by simp [hdet, dropS]
  have s6 : fSet 6 (fC (.int 1)) (eL ns (some (.int c, 2)) (some (dR (mkT n M), 2)) o3 o4 (some (.int x, 2)) none none) = some (.next (eL ns (some (.int c, 2)) (some (dR (mkT n M), 2)) o3 o4 (some (.int x, 2)) (some (.int 1, 2)) none)) := by simp [dropS]
  have loop := forGo_inv (i := 7) (l := 2) (fb := B1_lawK13 G__law_cell_at G__law_table G__law_square G_determinant G__law_whole G__law_balanced) (fun k : Nat => D.int (k : Int)) (List.range n) (fun pre e => ∃ o7, e = eL ns (some (.int c, 2)) (some (dR (mkT n M), 2)) o3 o4 (some (.int x, 2)) (some (.int ((n : Int) ^ pre.length), 2)) o7) (by
    rintro pre k post e _ ⟨o7, rfl⟩
    refine ⟨_, .inl (most_b ns c h20 M o3 o4 x ((n : Int) ^ pre.length) k), some (.int k, 2), ?_⟩
    rw [List.length_append, List.length_singleton, Int.pow_succ])
  obtain ⟨e', hgo, o7, rfl⟩ := loop (eL ns (some (.int c, 2)) (some (dR (mkT n M), 2)) o3 o4 (some (.int x, 2)) (some (.int 1, 2)) none) ⟨none, rfl⟩
  rw [List.length_range] at hgo
  have ev : ∀ fb : FS, fFor 7 (fiR1 (fN gLen (fCons (fVar 2) fNil))) fb (eL ns (some (.int c, 2)) (some (dR (mkT n M), 2)) o3 o4 (some (.int x, 2)) (some (.int 1, 2)) none) = forGo 7 2 fb ((List.range n).map fun k : Nat => D.int k) (eL ns (some (.int c, 2)) (some (dR (mkT n M), 2)) o3 o4 (some (.int x, 2)) (some (.int 1, 2)) none) := fun fb => by
    have hr : rangeD 0 n = (List.range n).map fun k : Nat => D.int k := by rw [rangeD_map]; simp
    have hnn : (n : Int) < 1000 := by omega
    simp [hl, hnn, hr, dropS]
  unfold G_lawK13 runF F_lawK13
  rw [fSeq_next s1, fSeq_next s2, fSeq_next s3, fSeq_next s4, fSeq_next s5, fSeq_next s6, fSeq_next ((ev _).trans hgo)]
  have hlt : ¬ ((n : Int) ^ n < x * x) := Int.not_lt.mpr gle
  have hbe : decide (x * x = (n : Int) ^ n) = ortB (mkT n M) := by
    rw [Bool.eq_iff_iff, decide_eq_true_eq]
    exact geq
  generalize ortB (mkT n M) = ob at *
  generalize (n : Int) ^ n = y at *
  generalize mkT n M = T at *
  have gb : gEq false (.bl ob) (.bl ob) = some (.bl true) := by cases ob <;> simp [gEq, cmpN, flatD, mixed, deq]
  simp [hwh, hcm, hlt, hbe, hbal, gb, endF]
end K13
namespace K13
open PySem PySem.Spec PyProof.Rows L2 L3 FN
section
variable {P : Program} {w : World} {K : PySem.W.Frag} {mg : Str → Option Value} {base : Heap}
theorem has__law_cell_at (T : Txt K mg) : Has P w K mg base 1 "_law_cell_at" ["script", "k"] G__law_cell_at := T.d__law_cell_at.has (k := 0) sc__law_cell_at (fun f cdv A outer s H E hr => dv__law_cell_at T  f cdv A outer s H E hr) (fun _ _ _ h => h)
theorem has__law_stir (T : Txt K mg) : Has P w K mg base 1 "_law_stir" ["seed"] G__law_stir := T.d__law_stir.has (k := 0) sc__law_stir (fun f cdv A outer s H E hr => dv__law_stir T  f cdv A outer s H E hr) (fun _ _ _ h => h)
theorem has__law_shuffled (T : Txt K mg) : Has P w K mg base 2 "_law_shuffled" ["script", "at", "rows"] G__law_shuffled := T.d__law_shuffled.has (k := 1) sc__law_shuffled (fun f cdv A outer s H E hr => dv__law_shuffled T ((has__law_stir T).mono (by decide)) ((has__law_cell_at T).mono (by decide)) f cdv A outer s H E hr) (fun _ _ _ h => h)
theorem has__law_by_prime (T : Txt K mg) : Has P w K mg base 1 "_law_by_prime" ["prime"] G__law_by_prime := T.d__law_by_prime.has (k := 0) sc__law_by_prime (fun f cdv A outer s H E hr => dv__law_by_prime T  f cdv A outer s H E hr) (fun _ _ _ h => h)
theorem has__law_doubled (T : Txt K mg) : Has P w K mg base 1 "_law_doubled" ["rows"] G__law_doubled := T.d__law_doubled.has (k := 0) sc__law_doubled (fun f cdv A outer s H E hr => dv__law_doubled T  f cdv A outer s H E hr) (fun _ _ _ h => h)
theorem has__law_plain_table (T : Txt K mg) : Has P w K mg base 2 "_law_plain_table" ["size"] G__law_plain_table := T.d__law_plain_table.has (k := 1) sc__law_plain_table (fun f cdv A outer s H E hr => dv__law_plain_table T ((has__law_by_prime T).mono (by decide)) ((has__law_doubled T).mono (by decide)) f cdv A outer s H E hr) (fun _ _ _ h => h)
theorem has__law_table (T : Txt K mg) : Has P w K mg base 3 "_law_table" ["script", "at", "most"] G__law_table := T.d__law_table.has (k := 2) sc__law_table (fun f cdv A outer s H E hr => dv__law_table T ((has__law_cell_at T).mono (by decide)) ((has__law_shuffled T).mono (by decide)) ((has__law_plain_table T).mono (by decide)) f cdv A outer s H E hr) (fun _ _ _ h => h)
theorem has__law_square (T : Txt K mg) : Has P w K mg base 2 "_law_square" ["script", "at", "most"] G__law_square := T.d__law_square.has (k := 1) sc__law_square (fun f cdv A outer s H E hr => dv__law_square T ((has__law_cell_at T).mono (by decide)) ((has__law_stir T).mono (by decide)) f cdv A outer s H E hr) (fun _ _ _ h => h)
theorem has_is_row (T : Txt K mg) : Has P w K mg base 1 "is_row" ["row", "size"] G_is_row := T.d_is_row.has (k := 0) sc_is_row (fun f cdv A outer s H E hr => dv_is_row T  f cdv A outer s H E hr) (fun _ _ _ h => h)
theorem has_is_square (T : Txt K mg) : Has P w K mg base 2 "is_square" ["rows"] G_is_square := T.d_is_square.has (k := 1) sc_is_square (fun f cdv A outer s H E hr => dv_is_square T ((has_is_row T).mono (by decide)) f cdv A outer s H E hr) (fun _ _ _ h => h)
theorem has_need_square (T : Txt K mg) : Has P w K mg base 3 "need_square" ["rows"] G_need_square := T.d_need_square.has (k := 2) sc_need_square (fun f cdv A outer s H E hr => dv_need_square T ((has_is_square T).mono (by decide)) f cdv A outer s H E hr) (fun _ _ _ h => h)
theorem has_first_place_with_lead (T : Txt K mg) : Has P w K mg base 1 "first_place_with_lead" ["rows"] G_first_place_with_lead := T.d_first_place_with_lead.has (k := 0) sc_first_place_with_lead (fun f cdv A outer s H E hr => dv_first_place_with_lead T  f cdv A outer s H E hr) (fun _ _ _ h => h)
theorem has_without_lead (T : Txt K mg) : Has P w K mg base 1 "without_lead" ["row", "leader", "divisor"] G_without_lead := T.d_without_lead.has (k := 0) sc_without_lead (fun f cdv A outer s H E hr => dv_without_lead T  f cdv A outer s H E hr) (fun _ _ _ h => h)
theorem has_determinant (T : Txt K mg) : Has P w K mg base 4 "determinant" ["rows"] G_determinant := T.d_determinant.has (k := 3) sc_determinant (fun f cdv A outer s H E hr => dv_determinant T ((has_need_square T).mono (by decide)) ((has_first_place_with_lead T).mono (by decide)) ((has_without_lead T).mono (by decide)) f cdv A outer s H E hr) (fun _ _ _ h => h)
theorem has__law_whole (T : Txt K mg) : Has P w K mg base 1 "_law_whole" ["found"] G__law_whole := T.d__law_whole.has (k := 0) sc__law_whole (fun f cdv A outer s H E hr => dv__law_whole T  f cdv A outer s H E hr) (fun _ _ _ h => h)
theorem has__law_balanced (T : Txt K mg) : Has P w K mg base 1 "_law_balanced" ["rows"] G__law_balanced := T.d__law_balanced.has (k := 0) sc__law_balanced (fun f cdv A outer s H E hr => dv__law_balanced T  f cdv A outer s H E hr) (fun _ _ _ h => h)
end
theorem ln1 {α : Type} : ∀ {us : List α}, us.length = 1 → ∃ a : α, us = [a]
  | [x0], _ => ⟨x0, rfl⟩
theorem ln2 {α : Type} : ∀ {us : List α}, us.length = 2 → ∃ a : α × α, us = [a.1, a.2]
  | [x0, x1], _ => ⟨(x0, x1), rfl⟩
theorem ln3 {α : Type} : ∀ {us : List α}, us.length = 3 → ∃ a : α × α × α, us = [a.1, a.2.1, a.2.2]
  | [x0, x1, x2], _ => ⟨(x0, x1, x2), rfl⟩
theorem all_mk {l : PySem.W.OpenLaw} {w : World} {K : PySem.W.Frag} {h : Heap} {mg : Str → Option Value} {fa : Addr} (X : K.In h) (G : h.Ns mainGlobals mg) (hfa : mg "law" = some (.ref fa))
    {f0 : Addr} {od0 an0 : Option Addr} {sl0 : Array (Option Value)} {oc0 kV0 dc0 pm0 cd0 ct0 : Value}
    {f1 : Addr} {od1 an1 : Option Addr} {sl1 : Array (Option Value)} {oc1 kV1 dc1 pm1 cd1 ct1 : Value}
    {f2 : Addr} {od2 an2 : Option Addr} {sl2 : Array (Option Value)} {oc2 kV2 dc2 pm2 cd2 ct2 : Value}
    {f3 : Addr} {od3 an3 : Option Addr} {sl3 : Array (Option Value)} {oc3 kV3 dc3 pm3 cd3 ct3 : Value}
    {f4 : Addr} {od4 an4 : Option Addr} {sl4 : Array (Option Value)} {oc4 kV4 dc4 pm4 cd4 ct4 : Value}
    {f5 : Addr} {od5 an5 : Option Addr} {sl5 : Array (Option Value)} {oc5 kV5 dc5 pm5 cd5 ct5 : Value}
    {f6 : Addr} {od6 an6 : Option Addr} {sl6 : Array (Option Value)} {oc6 kV6 dc6 pm6 cd6 ct6 : Value}
    {f7 : Addr} {od7 an7 : Option Addr} {sl7 : Array (Option Value)} {oc7 kV7 dc7 pm7 cd7 ct7 : Value}
    {f8 : Addr} {od8 an8 : Option Addr} {sl8 : Array (Option Value)} {oc8 kV8 dc8 pm8 cd8 ct8 : Value}
    {f9 : Addr} {od9 an9 : Option Addr} {sl9 : Array (Option Value)} {oc9 kV9 dc9 pm9 cd9 ct9 : Value}
    {f10 : Addr} {od10 an10 : Option Addr} {sl10 : Array (Option Value)} {oc10 kV10 dc10 pm10 cd10 ct10 : Value}
    {f11 : Addr} {od11 an11 : Option Addr} {sl11 : Array (Option Value)} {oc11 kV11 dc11 pm11 cd11 ct11 : Value}
    {f12 : Addr} {od12 an12 : Option Addr} {sl12 : Array (Option Value)} {oc12 kV12 dc12 pm12 cd12 ct12 : Value}
    {f13 : Addr} {od13 an13 : Option Addr} {sl13 : Array (Option Value)} {oc13 kV13 dc13 pm13 cd13 ct13 : Value}
    {f14 : Addr} {od14 an14 : Option Addr} {sl14 : Array (Option Value)} {oc14 kV14 dc14 pm14 cd14 ct14 : Value}
    {f15 : Addr} {od15 an15 : Option Addr} {sl15 : Array (Option Value)} {oc15 kV15 dc15 pm15 cd15 ct15 : Value}
    {f16 : Addr} {od16 an16 : Option Addr} {sl16 : Array (Option Value)} {oc16 kV16 dc16 pm16 cd16 ct16 : Value}
    {t0 : Nat}
    (a0 : PySem.W.nsIn K mainGlobals "_law_cell_at" = some (some (.ref f0))) (l0 : K.lookup f0 = some ⟨oc0, od0, .func (PySem.W.fnOf "_law_cell_at" "_law_cell_at" (defArgs (top 13)) (defBody (top 13)) (defScope (top 13)) .none kV0 dc0 pm0 an0 cd0 ct0), sl0⟩) (c0 : PySem.W.codeIn K cd0 "_law_cell_at" = true) (k0 : PySem.W.keepIn K (.ref f0) = true)
    (a1 : PySem.W.nsIn K mainGlobals "_law_stir" = some (some (.ref f1))) (l1 : K.lookup f1 = some ⟨oc1, od1, .func (PySem.W.fnOf "_law_stir" "_law_stir" (defArgs (top 15)) (defBody (top 15)) (defScope (top 15)) .none kV1 dc1 pm1 an1 cd1 ct1), sl1⟩) (c1 : PySem.W.codeIn K cd1 "_law_stir" = true) (k1 : PySem.W.keepIn K (.ref f1) = true)
    (a2 : PySem.W.nsIn K mainGlobals "_law_shuffled" = some (some (.ref f2))) (l2 : K.lookup f2 = some ⟨oc2, od2, .func (PySem.W.fnOf "_law_shuffled" "_law_shuffled" (defArgs (top 19)) (defBody (top 19)) (defScope (top 19)) .none kV2 dc2 pm2 an2 cd2 ct2), sl2⟩) (c2 : PySem.W.codeIn K cd2 "_law_shuffled" = true) (k2 : PySem.W.keepIn K (.ref f2) = true)
    (a3 : PySem.W.nsIn K mainGlobals "_law_by_prime" = some (some (.ref f3))) (l3 : K.lookup f3 = some ⟨oc3, od3, .func (PySem.W.fnOf "_law_by_prime" "_law_by_prime" (defArgs (top 17)) (defBody (top 17)) (defScope (top 17)) .none kV3 dc3 pm3 an3 cd3 ct3), sl3⟩) (c3 : PySem.W.codeIn K cd3 "_law_by_prime" = true) (k3 : PySem.W.keepIn K (.ref f3) = true)
    (a4 : PySem.W.nsIn K mainGlobals "_law_doubled" = some (some (.ref f4))) (l4 : K.lookup f4 = some ⟨oc4, od4, .func (PySem.W.fnOf "_law_doubled" "_law_doubled" (defArgs (top 16)) (defBody (top 16)) (defScope (top 16)) .none kV4 dc4 pm4 an4 cd4 ct4), sl4⟩) (c4 : PySem.W.codeIn K cd4 "_law_doubled" = true) (k4 : PySem.W.keepIn K (.ref f4) = true)
    (a5 : PySem.W.nsIn K mainGlobals "_law_plain_table" = some (some (.ref f5))) (l5 : K.lookup f5 = some ⟨oc5, od5, .func (PySem.W.fnOf "_law_plain_table" "_law_plain_table" (defArgs (top 18)) (defBody (top 18)) (defScope (top 18)) .none kV5 dc5 pm5 an5 cd5 ct5), sl5⟩) (c5 : PySem.W.codeIn K cd5 "_law_plain_table" = true) (k5 : PySem.W.keepIn K (.ref f5) = true)
    (a6 : PySem.W.nsIn K mainGlobals "_law_table" = some (some (.ref f6))) (l6 : K.lookup f6 = some ⟨oc6, od6, .func (PySem.W.fnOf "_law_table" "_law_table" (defArgs (top 20)) (defBody (top 20)) (defScope (top 20)) .none kV6 dc6 pm6 an6 cd6 ct6), sl6⟩) (c6 : PySem.W.codeIn K cd6 "_law_table" = true) (k6 : PySem.W.keepIn K (.ref f6) = true)
    (a7 : PySem.W.nsIn K mainGlobals "_law_square" = some (some (.ref f7))) (l7 : K.lookup f7 = some ⟨oc7, od7, .func (PySem.W.fnOf "_law_square" "_law_square" (defArgs (top 21)) (defBody (top 21)) (defScope (top 21)) .none kV7 dc7 pm7 an7 cd7 ct7), sl7⟩) (c7 : PySem.W.codeIn K cd7 "_law_square" = true) (k7 : PySem.W.keepIn K (.ref f7) = true)
    (a8 : PySem.W.nsIn K mainGlobals "is_row" = some (some (.ref f8))) (l8 : K.lookup f8 = some ⟨oc8, od8, .func (PySem.W.fnOf "is_row" "is_row" (defArgs (top 6)) (defBody (top 6)) (defScope (top 6)) .none kV8 dc8 pm8 an8 cd8 ct8), sl8⟩) (c8 : PySem.W.codeIn K cd8 "is_row" = true) (k8 : PySem.W.keepIn K (.ref f8) = true)
    (a9 : PySem.W.nsIn K mainGlobals "is_square" = some (some (.ref f9))) (l9 : K.lookup f9 = some ⟨oc9, od9, .func (PySem.W.fnOf "is_square" "is_square" (defArgs (top 5)) (defBody (top 5)) (defScope (top 5)) .none kV9 dc9 pm9 an9 cd9 ct9), sl9⟩) (c9 : PySem.W.codeIn K cd9 "is_square" = true) (k9 : PySem.W.keepIn K (.ref f9) = true)
    (a10 : PySem.W.nsIn K mainGlobals "need_square" = some (some (.ref f10))) (l10 : K.lookup f10 = some ⟨oc10, od10, .func (PySem.W.fnOf "need_square" "need_square" (defArgs (top 7)) (defBody (top 7)) (defScope (top 7)) .none kV10 dc10 pm10 an10 cd10 ct10), sl10⟩) (c10 : PySem.W.codeIn K cd10 "need_square" = true) (k10 : PySem.W.keepIn K (.ref f10) = true)
    (a11 : PySem.W.nsIn K mainGlobals "first_place_with_lead" = some (some (.ref f11))) (l11 : K.lookup f11 = some ⟨oc11, od11, .func (PySem.W.fnOf "first_place_with_lead" "first_place_with_lead" (defArgs (top 10)) (defBody (top 10)) (defScope (top 10)) .none kV11 dc11 pm11 an11 cd11 ct11), sl11⟩) (c11 : PySem.W.codeIn K cd11 "first_place_with_lead" = true) (k11 : PySem.W.keepIn K (.ref f11) = true)
    (a12 : PySem.W.nsIn K mainGlobals "without_lead" = some (some (.ref f12))) (l12 : K.lookup f12 = some ⟨oc12, od12, .func (PySem.W.fnOf "without_lead" "without_lead" (defArgs (top 11)) (defBody (top 11)) (defScope (top 11)) .none kV12 dc12 pm12 an12 cd12 ct12), sl12⟩) (c12 : PySem.W.codeIn K cd12 "without_lead" = true) (k12 : PySem.W.keepIn K (.ref f12) = true)
    (a13 : PySem.W.nsIn K mainGlobals "determinant" = some (some (.ref f13))) (l13 : K.lookup f13 = some ⟨oc13, od13, .func (PySem.W.fnOf "determinant" "determinant" (defArgs (top 9)) (defBody (top 9)) (defScope (top 9)) .none kV13 dc13 pm13 an13 cd13 ct13), sl13⟩) (c13 : PySem.W.codeIn K cd13 "determinant" = true) (k13 : PySem.W.keepIn K (.ref f13) = true)
    (a14 : PySem.W.nsIn K mainGlobals "_law_whole" = some (some (.ref f14))) (l14 : K.lookup f14 = some ⟨oc14, od14, .func (PySem.W.fnOf "_law_whole" "_law_whole" (defArgs (top 14)) (defBody (top 14)) (defScope (top 14)) .none kV14 dc14 pm14 an14 cd14 ct14), sl14⟩) (c14 : PySem.W.codeIn K cd14 "_law_whole" = true) (k14 : PySem.W.keepIn K (.ref f14) = true)
    (a15 : PySem.W.nsIn K mainGlobals "_law_balanced" = some (some (.ref f15))) (l15 : K.lookup f15 = some ⟨oc15, od15, .func (PySem.W.fnOf "_law_balanced" "_law_balanced" (defArgs (top 23)) (defBody (top 23)) (defScope (top 23)) .none kV15 dc15 pm15 an15 cd15 ct15), sl15⟩) (c15 : PySem.W.codeIn K cd15 "_law_balanced" = true) (k15 : PySem.W.keepIn K (.ref f15) = true)
    (a16 : PySem.W.nsIn K mainGlobals "law" = some (some (.ref f16))) (l16 : K.lookup f16 = some ⟨oc16, od16, .func (PySem.W.fnOf "law" "law" (defArgs (top 24)) (defBody (top 24)) (defScope (top 24)) .none kV16 dc16 pm16 an16 cd16 ct16), sl16⟩) (c16 : PySem.W.codeIn K cd16 "law" = true) (k16 : PySem.W.keepIn K (.ref f16) = true)
    (z0 : PySem.W.nsIn K mainGlobals "len" = some none)
    (z1 : PySem.W.nsIn K mainGlobals "range" = some none)
    (z2 : PySem.W.nsIn K mainGlobals "all" = some none)
    (z3 : PySem.W.nsIn K mainGlobals "list" = some none)
    (z4 : PySem.W.nsIn K mainGlobals "isinstance" = some none)
    (z5 : PySem.W.nsIn K mainGlobals "int" = some none)
    (z6 : PySem.W.nsIn K mainGlobals "bool" = some none)
    (z7 : PySem.W.nsIn K mainGlobals "sum" = some none)
    (z8 : PySem.W.nsIn K mainGlobals "zip" = some none)
    (y0 : PySem.W.nsIn K mainGlobals "MOST_ROWS" = some (some (.int 24 t0))) :
    ∃ fd : FuncData, (∀ (s : Shared) (v : Value), BindsTo s fd ⟨[v], []⟩ [("script", v)]) ∧ ∀ base : Heap, K.In base → base.Ns mainGlobals mg → FnOk l.prog w K mg base CX0 5 fa fd ["script"] (spD K 1 G_lawK13) := by
  have e := hfa.symm.trans (PySem.W.mg_of X G a16)
  cases e
  have T : Txt K mg := ⟨PySem.W.mg_none_of X G z0,
    PySem.W.mg_none_of X G z1,
    PySem.W.mg_none_of X G z2,
    PySem.W.mg_none_of X G z3,
    PySem.W.mg_none_of X G z4,
    PySem.W.mg_none_of X G z5,
    PySem.W.mg_none_of X G z6,
    PySem.W.mg_none_of X G z7,
    PySem.W.mg_none_of X G z8,
    ⟨t0, PySem.W.mg_of X G y0⟩,
    def_mk X G a0 l0 c0 k0 fun _ _ _ _ _ _ us hl => (ln2 hl).elim fun _ e => by subst e; rfl,
    def_mk X G a1 l1 c1 k1 fun _ _ _ _ _ _ us hl => (ln1 hl).elim fun _ e => by subst e; rfl,
    def_mk X G a2 l2 c2 k2 fun _ _ _ _ _ _ us hl => (ln3 hl).elim fun _ e => by subst e; rfl,
    def_mk X G a3 l3 c3 k3 fun _ _ _ _ _ _ us hl => (ln1 hl).elim fun _ e => by subst e; rfl,
    def_mk X G a4 l4 c4 k4 fun _ _ _ _ _ _ us hl => (ln1 hl).elim fun _ e => by subst e; rfl,
    def_mk X G a5 l5 c5 k5 fun _ _ _ _ _ _ us hl => (ln1 hl).elim fun _ e => by subst e; rfl,
    def_mk X G a6 l6 c6 k6 fun _ _ _ _ _ _ us hl => (ln3 hl).elim fun _ e => by subst e; rfl,
    def_mk X G a7 l7 c7 k7 fun _ _ _ _ _ _ us hl => (ln3 hl).elim fun _ e => by subst e; rfl,
    def_mk X G a8 l8 c8 k8 fun _ _ _ _ _ _ us hl => (ln2 hl).elim fun _ e => by subst e; rfl,
    def_mk X G a9 l9 c9 k9 fun _ _ _ _ _ _ us hl => (ln1 hl).elim fun _ e => by subst e; rfl,
    def_mk X G a10 l10 c10 k10 fun _ _ _ _ _ _ us hl => (ln1 hl).elim fun _ e => by subst e; rfl,
    def_mk X G a11 l11 c11 k11 fun _ _ _ _ _ _ us hl => (ln1 hl).elim fun _ e => by subst e; rfl,
    def_mk X G a12 l12 c12 k12 fun _ _ _ _ _ _ us hl => (ln3 hl).elim fun _ e => by subst e; rfl,
    def_mk X G a13 l13 c13 k13 fun _ _ _ _ _ _ us hl => (ln1 hl).elim fun _ e => by subst e; rfl,
    def_mk X G a14 l14 c14 k14 fun _ _ _ _ _ _ us hl => (ln1 hl).elim fun _ e => by subst e; rfl,
    def_mk X G a15 l15 c15 k15 fun _ _ _ _ _ _ us hl => (ln1 hl).elim fun _ e => by subst e; rfl,
    def_mk X G a16 l16 c16 k16 fun _ _ _ _ _ _ us hl => (ln1 hl).elim fun _ e => by subst e; rfl⟩
  exact ⟨PySem.W.fnOf "law" "law" (defArgs (top 24)) (defBody (top 24)) (defScope (top 24)) .none kV16 dc16 pm16 an16 cd16 ct16, fun s v => .of_eq rfl, fun base _ _ => fn_d (k := 4) (fun_mk (st := top 24) l16 c16 k16) sc_law (fun cdv A outer s H E hr => dv_law T ((has__law_cell_at T).mono (by decide)) ((has__law_table T).mono (by decide)) ((has__law_square T).mono (by decide)) ((has_determinant T).mono (by decide)) ((has__law_whole T).mono (by decide)) ((has__law_balanced T).mono (by decide)) _ cdv A outer s H E hr) (fun _ _ _ h => h)⟩
end K13
end Internal
open Internal
open PySem PySem.W PyProof.Rows
set_option maxRecDepth 100000 in
set_option maxHeartbeats 0 in
theorem PySem.Challenge.cw_plustables_k13_whole_none_greater_holds : PySem.Challenge.rw_plustables_k13_whole_none_greater.Holds := by
  w_on; o_law; k_head; (case hw => w_witness2)
  k_fill
  refine L3.walkD (l := PySem.Challenge.rw_plustables_k13_whole_none_greater) (k := 5) (g := FN.G_lawK13) rfl rfl ⟨rfl, by decide, by decide⟩ (fun w h Y => PySem.W.kIn_of Y) K13.law_true ?F
  case F =>
    intro w mg fa h KX G hmg
    refine' K13.all_mk KX G hmg ?a0 ?l0 ?c0 ?k0 ?a1 ?l1 ?c1 ?k1 ?a2 ?l2 ?c2 ?k2 ?a3 ?l3 ?c3 ?k3 ?a4 ?l4 ?c4 ?k4 ?a5 ?l5 ?c5 ?k5 ?a6 ?l6 ?c6 ?k6 ?a7 ?l7 ?c7 ?k7 ?a8 ?l8 ?c8 ?k8 ?a9 ?l9 ?c9 ?k9 ?a10 ?l10 ?c10 ?k10 ?a11 ?l11 ?c11 ?k11 ?a12 ?l12 ?c12 ?k12 ?a13 ?l13 ?c13 ?k13 ?a14 ?l14 ?c14 ?k14 ?a15 ?l15 ?c15 ?k15 ?a16 ?l16 ?c16 ?k16 ?z0 ?z1 ?z2 ?z3 ?z4 ?z5 ?z6 ?z7 ?z8 ?y0
    (case a0 => k_is)
    (case l0 => k_is)
    (case c0 => k_is)
    (case k0 => k_is)
    (case a1 => k_is)
    (case l1 => k_is)
    (case c1 => k_is)
    (case k1 => k_is)
    (case a2 => k_is)
    (case l2 => k_is)
    (case c2 => k_is)
    (case k2 => k_is)
    (case a3 => k_is)
    (case l3 => k_is)
    (case c3 => k_is)
    (case k3 => k_is)
    (case a4 => k_is)
    (case l4 => k_is)
    (case c4 => k_is)
    (case k4 => k_is)
    (case a5 => k_is)
    (case l5 => k_is)
    (case c5 => k_is)
    (case k5 => k_is)
    (case a6 => k_is)
    (case l6 => k_is)
    (case c6 => k_is)
    (case k6 => k_is)
    (case a7 => k_is)
    (case l7 => k_is)
    (case c7 => k_is)
    (case k7 => k_is)
    (case a8 => k_is)
    (case l8 => k_is)
    (case c8 => k_is)
    (case k8 => k_is)
    (case a9 => k_is)
    (case l9 => k_is)
    (case c9 => k_is)
    (case k9 => k_is)
    (case a10 => k_is)
    (case l10 => k_is)
    (case c10 => k_is)
    (case k10 => k_is)
    (case a11 => k_is)
    (case l11 => k_is)
    (case c11 => k_is)
    (case k11 => k_is)
    (case a12 => k_is)
    (case l12 => k_is)
    (case c12 => k_is)
    (case k12 => k_is)
    (case a13 => k_is)
    (case l13 => k_is)
    (case c13 => k_is)
    (case k13 => k_is)
    (case a14 => k_is)
    (case l14 => k_is)
    (case c14 => k_is)
    (case k14 => k_is)
    (case a15 => k_is)
    (case l15 => k_is)
    (case c15 => k_is)
    (case k15 => k_is)
    (case a16 => k_is)
    (case l16 => k_is)
    (case c16 => k_is)
    (case k16 => k_is)
    (case z0 => k_is)
    (case z1 => k_is)
    (case z2 => k_is)
    (case z3 => k_is)
    (case z4 => k_is)
    (case z5 => k_is)
    (case z6 => k_is)
    (case z7 => k_is)
    (case z8 => k_is)
    (case y0 => k_is)
