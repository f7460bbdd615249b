import PyProof.Rows.All
import Wide.All
import OpenK.AllK
import Wide.FinOn
import Lean
import PyProof.EqAt
import PyProof.EqKinds
import PyProof.NeKinds
import PyProof.TupleCall
import PyProof.ExcAttrAll.ValueError
import PySem.Challenge.RW_cornerdoors_k14_joint_nets
set_option Elab.async false
set_option linter.all false
set_option maxRecDepth 100000
namespace L2
open PySem PySem.Spec PyProof.Rows
abbrev Key := Sum Int Str
def keyIs : Key → Value → Bool
  | .inl k, v => Value.isInt k v
  | .inr x, v => Value.isStrOf x v
def keyH (w : World) : Key → Int
  | .inl k => hashInt k
  | .inr x => hashStr w x
theorem keyIs_shape : ∀ {k : Key} {v : Value}, keyIs k v = true → (∃ i t, k = Sum.inl i ∧ v = Value.int i t) ∨ (∃ x t, k = Sum.inr x ∧ v = Value.str x t)
  | .inl i, v, h => by
    obtain ⟨t, e⟩ := Value.isInt_shape (k := i) (v := v) h
    exact .inl ⟨i, t, rfl, e⟩
  | .inr x, v, h => by
    obtain ⟨t, e⟩ := Value.isStrOf_shape (x := x) (v := v) h
    exact .inr ⟨x, t, rfl, e⟩
theorem key_ll (a b : Int) : decide ((Sum.inl a : Key) = Sum.inl b) = (a == b) := by
  by_cases e : a = b
  · subst e; simp
  · have h : ¬ (Sum.inl a : Key) = Sum.inl b := fun q => e (Sum.inl.inj q)
    rw [decide_eq_false h]
    exact (beq_eq_false_iff_ne.mpr e).symm
theorem key_rr (a b : Str) : decide ((Sum.inr a : Key) = Sum.inr b) = decide (a = b) := by
  by_cases e : a = b
  · subst e; simp
  · have h : ¬ (Sum.inr a : Key) = Sum.inr b := fun q => e (Sum.inr.inj q)
    rw [decide_eq_false h, decide_eq_false e]
theorem key_lr (a : Int) (b : Str) : decide ((Sum.inl a : Key) = Sum.inr b) = false := decide_eq_false (fun q => nomatch q)
theorem key_rl (a : Str) (b : Int) : decide ((Sum.inr a : Key) = Sum.inl b) = false := decide_eq_false (fun q => nomatch q)
def mixKind (prog : Program) (w : World) : PySem.KeyKind prog w Key where
  is := keyIs
  hash := keyH w
  inj := fun v a b ha hb => by
    rcases keyIs_shape ha with ⟨i, t, rfl, rfl⟩ | ⟨x, t, rfl, rfl⟩
    · rcases keyIs_shape hb with ⟨j, u, rfl, e⟩ | ⟨y, u, rfl, e⟩
      · injection e with e1 _; rw [e1]
      · exact nomatch e
    · rcases keyIs_shape hb with ⟨j, u, rfl, e⟩ | ⟨y, u, rfl, e⟩
      · exact nomatch e
      · injection e with e1 _; rw [e1]
  byValue := fun k v h => by
    rcases keyIs_shape h with ⟨i, t, rfl, rfl⟩ | ⟨x, t, rfl, rfl⟩ <;> rfl
  pyHash := fun hv h => by
    rcases keyIs_shape hv with ⟨i, t, rfl, rfl⟩ | ⟨x, t, rfl, rfl⟩
    · exact wpAny_pyHash_int h
    · exact wpAny_pyHash_str h
  eqBool := fun hu hv h => by
    rcases keyIs_shape hu with ⟨i, t, rfl, rfl⟩ | ⟨x, t, rfl, rfl⟩
    · rcases keyIs_shape hv with ⟨j, u, rfl, rfl⟩ | ⟨y, u, rfl, rfl⟩
      · rw [key_ll] at h; exact wpAny_eqBool_int h
      · rw [key_lr] at h; exact SeqAt.EqAt.int_str i t y u _ _ _ _ h
    · rcases keyIs_shape hv with ⟨j, u, rfl, rfl⟩ | ⟨y, u, rfl, rfl⟩
      · rw [key_rl] at h; exact SeqAt.EqAt.str_int x t j u _ _ _ _ h
      · rw [key_rr] at h; exact wpAny_eqBool_str h
  «strs» := fun k x t v h => by
    rcases keyIs_shape h with ⟨i, u, rfl, e⟩ | ⟨y, u, rfl, e⟩
    · exact nomatch e
    · injection e with e1 _
      subst e1
      cases v <;> rfl
end L2
namespace L2
open PySem PySem.Spec PyProof.Rows
inductive V where
  | non | bl (b : Bool) | int (i : Int) | str (x : Str) | byt (b : Array UInt8) | flt (b : UInt64) | ref (a : Addr) | ty (n : String)
  deriving DecidableEq
def RelV : V → Value → Prop
  | .non, u => u = Value.none
  | .bl b, u => u = Value.bool b
  | .int i, u => ∃ t, u = Value.int i t
  | .str x, u => ∃ t, u = Value.str x t
  | .byt b, u => ∃ t, u = Value.bytes b t
  | .flt b, u => ∃ t, u = Value.float b t
  | .ref a, u => u = Value.ref a
  | .ty n, u => u = Value.type n
abbrev Vals : List V → List Value → Prop := Paired RelV
theorem Vals.length {xs : List V} {us : List Value} (r : Vals xs us) : xs.length = us.length := Paired.length r
theorem Vals.get : ∀ {xs : List V} {us : List Value} {i : Nat} {x : V}, Vals xs us → xs[i]? = some x → ∃ u, us[i]? = some u ∧ RelV x u
  | _, _, _, _, .nil, e => by simp at e
  | _, _, 0, _, .cons r _, e => by simp at e; subst e; exact ⟨_, rfl, r⟩
  | _, _, i + 1, x, .cons _ t, e => by
    obtain ⟨u, h1, h2⟩ := Vals.get (i := i) (x := x) t (by simpa using e)
    exact ⟨u, by simpa using h1, h2⟩
theorem Vals.set {x : V} {u : Value} (r : RelV x u) : ∀ {xs : List V} {us : List Value} (i : Nat), Vals xs us → Vals (xs.set i x) (us.set i u)
  | _, _, _, .nil => .nil
  | _, _, 0, .cons _ t => .cons r t
  | _, _, i + 1, .cons q t => .cons q (Vals.set r i t)
theorem Vals.append : ∀ {xs ys : List V} {us ws : List Value}, Vals xs us → Vals ys ws → Vals (xs ++ ys) (us ++ ws)
  | _, _, _, _, .nil, s => s
  | _, _, _, _, .cons r t, s => .cons r (Vals.append t s)
theorem Vals.take : ∀ {xs : List V} {us : List Value} (n : Nat), Vals xs us → Vals (xs.take n) (us.take n)
  | _, _, 0, _ => .nil
  | _, _, _ + 1, .nil => .nil
  | _, _, n + 1, .cons r t => .cons r (Vals.take n t)
def RelO : Option V → Option Value → Prop
  | some v, some u => RelV v u
  | none, none => True
  | _, _ => False
def KV {κ : Type} : List (κ × V) → List (κ × Value) → Prop := Paired fun (p : κ × V) (q : κ × Value) => p.1 = q.1 ∧ RelV p.2 q.2
def kV : Key → V
  | .inl i => .int i
  | .inr x => .str x
inductive HO where
  | lst (xs : List V)
  | tup (xs : List V)
  | dK (kvs : List (Key × V)) | dT (kvs : List (List Key × V))
  | set (S : Int → Bool) (n : Nat)
  | ins (C dx : Addr) (fs : List (Str × V))
  | own (x : Addr)
  | xd (fs : List (Str × V))
  | met (f x : Addr)
  | rng (lo hi : Int)
  | frz (o : Obj) (u : HO)
  | tbl (ps : Array Value)
  | ext (φ : Heap → Prop)
abbrev Hp := Addr → Option HO
def upd (H : Hp) (a : Addr) (o : HO) : Hp := fun b => if b = a then some o else H b
theorem upd_same {H : Hp} {a : Addr} {o : HO} : upd H a o a = some o := by unfold upd; rw [if_pos rfl]
theorem upd_ne {H : Hp} {a b : Addr} {o : HO} (h : b ≠ a) : upd H a o b = H b := by unfold upd; rw [if_neg h]
theorem ne_of {H : Hp} {a b : Addr} {o u : HO} (h : H a = some o) (h' : H b = some u) (d : o ≠ u) : a ≠ b := by
  intro e; subst e; rw [h] at h'; exact d (Option.some.inj h')
theorem ne_of_none {H : Hp} {a b : Addr} {o : HO} (h : H a = some o) (h' : H b = none) : a ≠ b := by
  intro e; subst e; rw [h] at h'; cases h'
section
variable (P : Program) (w : World)
def ObjOk (H : Hp) (h : Heap) (a : Addr) : HO → Prop
  | .lst xs => xs.length ≤ sizeLine ∧ ∃ (its : List Value) (n : Nat), Vals xs its ∧ h.get? a = some { cls := .type "list", data := .seq its.toArray n }
  | .tup xs => xs.length ≤ sizeLine ∧ ∃ its : List Value, Vals xs its ∧ IsTup h a its.toArray
  | .dK kvs => kvs.length ≤ sizeLine ∧ (a == sysModules) = false ∧ ∃ vs, KV kvs vs ∧ h.DictOf (mixKind P w) a vs
  | .dT kvs => kvs.length ≤ sizeLine ∧ (a == sysModules) = false ∧ ∃ xs : List (List Key × Addr × Value),
      Paired (fun (p : List Key × V) (q : List Key × Addr × Value) => p.1 = q.1 ∧ H q.2.1 = some (.tup (p.1.map kV)) ∧ RelV p.2 q.2.2) kvs xs ∧
      ∃ o es ep, h.get? a = some o ∧ o.ExactDict ∧ o.data = .dict es ep ∧ es.toList = xs.map (entryOfKey (tupleKind (mixKind P w))) ∧ (xs.map (·.1)).Nodup
  | .set S n => h.SetOf (intKind P w) a S n
  | .ins C dx fs => H dx = some (.own a) ∧ fs.length ≤ 1000 ∧ dx ≠ a ∧ h.get? a = some (PySem.W.instObj C dx) ∧
      ∃ mA, h.Ns1 dx mA ∧ (∀ f, RelO (fs.lookup f) (mA f)) ∧ PySem.Within mA (fs.map (·.1))
  | .own _ => ∃ o, h.get? a = some o
  | .xd fs => ∃ mA, h.Ns1 a mA ∧ ∀ f, RelO (fs.lookup f) (mA f)
  | .rng lo hi => ∃ t u v, h.get? a = some { cls := .type "range", data := .fields #[.int lo t, .int hi u, .int 1 v] }
  | .frz o u => h.get? a = some o ∧ ObjOk H h a u
  | .tbl ps => h.get? a = some { cls := .none, data := .fields ps }
  | .met f x => h.get? a = some (PySem.W.methodObj (.ref f) (.ref x))
  | .ext φ => φ h ∧ (∃ o, h.get? a = some o) ∧ ∀ h1 h2 : Heap, φ h1 → (∀ o, h1.get? a = some o → h2.get? a = some o) → φ h2
def HOk (H : Hp) (h : Heap) : Prop := ∀ a o, H a = some o → ObjOk P w H h a o
end
section
variable {P : Program} {w : World} {H H' : Hp} {h h' : Heap} {a : Addr} {o : HO}
theorem ObjOk.lt (x : ObjOk P w H h a o) : a < h.objs.size := by
  cases o with
  | lst xs => obtain ⟨_, _, _, _, e⟩ := x; exact Heap.lt_size e
  | tup xs => obtain ⟨_, _, _, p⟩ := x; exact p.lt
  | dK kvs => obtain ⟨_, _, _, _, o, _, _, e, _⟩ := x; exact Heap.lt_size e
  | dT kvs => obtain ⟨_, _, _, _, o, _, _, e, _⟩ := x; exact Heap.lt_size e
  | set S n => obtain ⟨o, _, _, _, e, _⟩ := x; exact Heap.lt_size e
  | ins C dx fs => obtain ⟨_, _, _, e, _⟩ := x; exact Heap.lt_size e
  | own y => obtain ⟨_, e⟩ := x; exact Heap.lt_size e
  | xd fs => obtain ⟨_, ⟨_, _, _, e, _⟩, _⟩ := x; exact Heap.lt_size e
  | rng lo hi => obtain ⟨_, _, _, e⟩ := x; exact Heap.lt_size e
  | frz ob u => obtain ⟨e, _⟩ := x; exact Heap.lt_size e
  | tbl ps => exact Heap.lt_size (show h.get? a = some _ from x)
  | met f y => exact Heap.lt_size (show h.get? a = some _ from x)
  | ext φ => obtain ⟨_, ⟨_, e⟩, _⟩ := x; exact Heap.lt_size e
theorem Paired.mapP {α β : Type} {F G : α → β → Prop} : ∀ {l₁ : List α} {l₂ : List β}, Paired F l₁ l₂ → (∀ a b, F a b → G a b) → Paired G l₁ l₂
  | _, _, .nil, _ => .nil
  | _, _, .cons r t, f => .cons (f _ _ r) (Paired.mapP t f)
theorem ObjOk.stay (x : ObjOk P w H h a o) (k : ∀ b u, (b = a ∨ H b = some (.own a)) → h.get? b = some u → h'.get? b = some u)
    (ho : ∀ b, H b = some (.own a) → H' b = some (.own a)) (ht : ∀ b xs, H b = some (.tup xs) → H' b = some (.tup xs)) : ObjOk P w H' h' a o := by
  induction o with
  | lst xs => obtain ⟨z, its, n, r, e⟩ := x; exact ⟨z, its, n, r, k _ _ (.inl rfl) e⟩
  | tup xs => obtain ⟨z, its, r, ob, e, c⟩ := x; exact ⟨z, its, r, ob, k _ _ (.inl rfl) e, c⟩
  | dK kvs => obtain ⟨z, y, vs, r, ob, es, ep, e, c⟩ := x; exact ⟨z, y, vs, r, ob, es, ep, k _ _ (.inl rfl) e, c⟩
  | dT kvs =>
    obtain ⟨z, y, xs, r, ob, es, ep, e, c⟩ := x
    exact ⟨z, y, xs, Paired.mapP r fun p q z => ⟨z.1, ht _ _ z.2.1, z.2.2⟩, ob, es, ep, k _ _ (.inl rfl) e, c⟩
  | set S n => obtain ⟨ob, es, ep, t, e, c⟩ := x; exact ⟨ob, es, ep, t, k _ _ (.inl rfl) e, c⟩
  | ins C dx fs =>
    obtain ⟨d, z, ne, e, mA, ⟨od, es, ep, e2, c⟩, r⟩ := x
    exact ⟨ho _ d, z, ne, k _ _ (.inl rfl) e, mA, ⟨od, es, ep, k _ _ (.inr d) e2, c⟩, r⟩
  | own y => obtain ⟨ob, e⟩ := x; exact ⟨ob, k _ _ (.inl rfl) e⟩
  | xd fs => obtain ⟨mA, ⟨od, es, ep, e, c⟩, r⟩ := x; exact ⟨mA, ⟨od, es, ep, k _ _ (.inl rfl) e, c⟩, r⟩
  | rng lo hi => obtain ⟨t, u, v, e⟩ := x; exact ⟨t, u, v, k _ _ (.inl rfl) e⟩
  | frz ob u ih => obtain ⟨e, q⟩ := x; exact ⟨k _ _ (.inl rfl) e, ih q⟩
  | tbl ps =>
    have e : h.get? a = some { cls := .none, data := .fields ps } := x
    show h'.get? a = some { cls := .none, data := .fields ps }
    exact k a _ (.inl rfl) e
  | met f y =>
    have e : h.get? a = some (PySem.W.methodObj (.ref f) (.ref y)) := x
    show h'.get? a = some (PySem.W.methodObj (.ref f) (.ref y))
    exact k a _ (.inl rfl) e
  | ext φ => obtain ⟨p, ⟨o, e⟩, st⟩ := x; exact ⟨st _ _ p fun o q => k _ _ (.inl rfl) q, ⟨o, k _ _ (.inl rfl) e⟩, st⟩
theorem HOk.lt (x : HOk P w H h) (e : H a = some o) : a < h.objs.size := (x a o e).lt
theorem HOk.fresh (x : HOk P w H h) (e : h.objs.size ≤ a) : H a = none := by
  cases q : H a with
  | none => rfl
  | some u => exact absurd (Nat.lt_of_lt_of_le (x.lt q) e) (Nat.lt_irrefl _)
theorem HOk.kept (x : HOk P w H h) (k : ∀ b u, h.get? b = some u → h'.get? b = some u) : HOk P w H h' := fun a o e =>
  (x a o e).stay (fun b u _ q => k b u q) (fun _ q => q) fun _ _ q => q
theorem HOk.laid (x : HOk P w H h) (k : ∀ b u, h.get? b = some u → h'.get? b = some u) (hp : h.objs.size ≤ a) (new : ObjOk P w (upd H a o) h' a o) : HOk P w (upd H a o) h' := fun b u e => by
  have hn := x.fresh hp
  by_cases hb : b = a
  · subst hb; rw [upd_same] at e; cases e; exact new
  · rw [upd_ne hb] at e
    exact (x b u e).stay (fun c v _ q => k c v q) (fun c q => by rw [upd_ne (ne_of_none q hn)]; exact q) fun c xs q => by rw [upd_ne (ne_of_none q hn)]; exact q
end
def Rd (H : Hp) (a : Addr) (u : HO) : Prop := H a = some u ∨ ∃ o, H a = some (.frz o u)
theorem Rd.of {H : Hp} {a : Addr} {u : HO} (h : H a = some u) : Rd H a u := .inl h
theorem Rd.ok {P : Program} {w : World} {H : Hp} {h : Heap} {a : Addr} {u : HO} (r : Rd H a u) (x : HOk P w H h) : ObjOk P w H h a u := by
  rcases r with r | ⟨o, r⟩
  · exact x a u r
  · obtain ⟨_, q⟩ := x a _ r
    exact q
def Mut : Option HO → Prop
  | some (.lst _) => True
  | some (.dK _) => True
  | some (.dT _) => True
  | some (.set _ _) => True
  | some (.ins _ _ _) => True
  | some (.ext _) => True
  | _ => False
section
variable {P : Program} {w : World} {H : Hp} {h h' : Heap} {x e : Addr} {o' : HO}
theorem HOk.write (ok : HOk P w H h) (mu : Mut (H x)) (he : e = x ∨ H e = some (.own x)) (k : ∀ b u, b ≠ e → h.get? b = some u → h'.get? b = some u) (heo : ∃ u, h'.get? e = some u)
    (new : ObjOk P w (upd H x o') h' x o') : HOk P w (upd H x o') h' := fun b u q => by
  have nown : ∀ c y, H c = some (.own y) → c ≠ x := fun c y r z => by subst z; rw [r] at mu; exact mu
  have ntup : ∀ c xs, H c = some (.tup xs) → c ≠ x := fun c xs r z => by subst z; rw [r] at mu; exact mu
  by_cases hb : b = x
  · subst hb; rw [upd_same] at q; cases q; exact new
  · rw [upd_ne hb] at q
    by_cases hbe : b = e
    · have q' : H b = some (.own x) := by
        rcases he with z | z
        · exact absurd (hbe.trans z) hb
        · rw [hbe]; exact z
      rw [q] at q'; cases q'
      obtain ⟨v, hv⟩ := heo
      exact ⟨v, by rw [hbe]; exact hv⟩
    · refine (ok b u q).stay (fun c v hc r => k c v ?_ r) (fun c r => by rw [upd_ne (nown c b r)]; exact r) fun c xs r => by rw [upd_ne (ntup c xs r)]; exact r
      rcases hc with rfl | hc
      · exact hbe
      · rintro rfl
        rcases he with z | z
        · exact nown c b hc z
        · rw [hc] at z; cases z; exact hb rfl
end
structure Un (fs ex : List Addr) (H H' : Hp) (h h' : Heap) : Prop where
  keep : ∀ b o, h.get? b = some o → H b = none → b ∉ fs → b ∉ ex → h'.get? b = some o
  slot : ∀ b o, h.get? b = some o → H b = none → b ∈ fs → b ∉ ex → ∃ sl, h'.get? b = some { o with slots := sl }
  free : ∀ b o, h.get? b = some o → H b = none → b ∉ ex → H' b = none
  there : ∀ b o, h.get? b = some o → b ∉ ex → ∃ o', h'.get? b = some o'
  tups : ∀ b xs, H b = some (.tup xs) → H' b = some (.tup xs)
  frzs : ∀ b o u, H b = some (.frz o u) → H' b = some (.frz o u)
  tbls : ∀ b ps, H b = some (.tbl ps) → ∃ more, H' b = some (.tbl (ps ++ more))
section
variable {fs fs' ex ex' : List Addr} {H H1 H2 : Hp} {h h1 h2 h' : Heap} {a x e : Addr} {o : HO}
theorem Un.any (u : Un fs ex H H1 h h1) {b : Addr} {ob : Obj} (q : h.get? b = some ob) (n : H b = none) (hx : b ∉ ex) : ∃ sl, h1.get? b = some { ob with slots := sl } := by
  by_cases hb : b ∈ fs
  · exact u.slot b ob q n hb hx
  · exact ⟨ob.slots, u.keep b ob q n hb hx⟩
theorem Un.trans (a : Un fs ex H H1 h h1) (b : Un fs ex H1 H2 h1 h2) : Un fs ex H H2 h h2 where
  keep := fun c ob q n hc hx => b.keep c ob (a.keep c ob q n hc hx) (a.free c ob q n hx) hc hx
  slot := fun c ob q n hc hx => by
    obtain ⟨sl, e1⟩ := a.slot c ob q n hc hx
    obtain ⟨sl', e2⟩ := b.slot c _ e1 (a.free c ob q n hx) hc hx
    exact ⟨sl', e2⟩
  free := fun c ob q n hx => by
    obtain ⟨o', e1⟩ := a.there c ob q hx
    exact b.free c o' e1 (a.free c ob q n hx) hx
  there := fun c ob q hx => by
    obtain ⟨o', e1⟩ := a.there c ob q hx
    exact b.there c o' e1 hx
  tups := fun c xs q => b.tups c xs (a.tups c xs q)
  frzs := fun c ob xs q => b.frzs c ob xs (a.frzs c ob xs q)
  tbls := fun c ps q => by
    obtain ⟨m1, e1⟩ := a.tbls c ps q
    obtain ⟨m2, e2⟩ := b.tbls c _ e1
    exact ⟨m1 ++ m2, by rw [e2, Array.append_assoc]⟩
theorem Un.kept (k : ∀ b u, h.get? b = some u → h'.get? b = some u) : Un fs ex H H h h' :=
  ⟨fun b ob q _ _ _ => k b ob q, fun b ob q _ _ _ => ⟨ob.slots, k b ob q⟩, fun _ _ _ n _ => n, fun b ob q _ => ⟨ob, k b ob q⟩, fun _ _ q => q, fun _ _ _ q => q, fun _ ps q => ⟨#[], by rw [q]; simp⟩⟩
theorem Un.refl : Un fs ex H H h h := Un.kept fun _ _ q => q
theorem Un.laid (k : ∀ b u, h.get? b = some u → h'.get? b = some u) (hp : h.objs.size ≤ a) (hn : H a = none) : Un fs ex H (upd H a o) h h' where
  keep := fun b u q _ _ _ => k b u q
  slot := fun b u q _ _ _ => ⟨u.slots, k b u q⟩
  free := fun b u q n _ => by rw [upd_ne (Nat.ne_of_lt (Nat.lt_of_lt_of_le (Heap.lt_size q) hp))]; exact n
  there := fun b u q _ => ⟨u, k b u q⟩
  tups := fun b xs q => by rw [upd_ne (ne_of_none q hn)]; exact q
  frzs := fun b u xs q => by rw [upd_ne (ne_of_none q hn)]; exact q
  tbls := fun b ps q => ⟨#[], by rw [upd_ne (ne_of_none q hn), q]; simp⟩
theorem Un.write (mu : Mut (H x)) (he : e = x ∨ H e = some (.own x)) (k : ∀ b u, b ≠ e → h.get? b = some u → h'.get? b = some u) (heo : ∃ u, h'.get? e = some u) : Un fs ex H (upd H x o) h h' := by
  have hx : ∀ b, H b = none → b ≠ x := fun b n z => by subst z; rw [n] at mu; exact mu
  have hb : ∀ b, H b = none → b ≠ e := fun b n z => by
    subst z
    rcases he with r | r
    · exact hx b n r
    · rw [n] at r; cases r
  have hm : ∀ b u, H b = some u → ¬ Mut (some u) → b ≠ x := fun b u q nm z => by subst z; rw [q] at mu; exact nm mu
  refine ⟨fun b u q n _ _ => k b u (hb b n) q, fun b u q n _ _ => ⟨u.slots, k b u (hb b n) q⟩, fun b u q n _ => by rw [upd_ne (hx b n)]; exact n, fun b u q _ => ?_,
    fun b xs q => by rw [upd_ne (hm b _ q fun z => z)]; exact q, fun b u xs q => by rw [upd_ne (hm b _ q fun z => z)]; exact q, fun b ps q => ⟨#[], by rw [upd_ne (hm b _ q fun z => z), q]; simp⟩⟩
  by_cases hbe : b = e
  · subst hbe; exact heo
  · exact ⟨u, k b u hbe q⟩
theorem Un.mono (u : Un fs ex H H1 h h1) (hs : ∀ b ∈ fs, b ∈ fs') (hx : ∀ b ∈ ex, b ∈ ex') : Un fs' ex' H H1 h h1 :=
  ⟨fun b ob q n hb he => u.keep b ob q n (fun z => hb (hs b z)) fun z => he (hx b z), fun _ _ q n _ he => u.any q n fun z => he (hx _ z), fun b ob q n he => u.free b ob q n fun z => he (hx b z), fun b ob q he => u.there b ob q fun z => he (hx b z), u.tups, u.frzs, u.tbls⟩
end
def trk (h : Heap) (H : Hp) : List Addr := (List.range h.objs.size).filter fun a => (H a).isSome
def hidT (h : Heap) (H : Hp) : Heap := PySem.W.hideAll h (trk h H)
theorem hidT_size (h : Heap) (H : Hp) : (hidT h H).objs.size = h.objs.size := PySem.W.hideAll_size _ _
theorem hidT_get {h : Heap} {H : Hp} {b : Addr} {o : Obj} (e : h.get? b = some o) (n : H b = none) : (hidT h H).get? b = some o :=
  PySem.W.hideAll_get _ e fun hm => by
    have q : (H b).isSome = true := (List.mem_filter.mp hm).2
    rw [n] at q; simp at q
theorem of_hidT {h : Heap} {H : Hp} {b : Addr} {o : Obj} (e : (hidT h H).get? b = some o) : h.get? b = some o ∧ H b = none := by
  have e' : h.get? b = some o := PySem.W.of_hideAll (trk h H) e
  refine ⟨e', ?_⟩
  cases q : H b with
  | none => rfl
  | some x =>
    have hm : b ∈ trk h H := List.mem_filter.mpr ⟨List.mem_range.mpr (Heap.lt_size e'), by simp [q]⟩
    have z : (hidT h H).get? b = none := PySem.W.hideAll_none (trk h H) hm
    rw [z] at e; cases e
def allNews (g h : Heap) (L : Addr) : List (Addr × Obj) := (List.range h.objs.size).filterMap fun a => if a = L ∨ (g.get? a).isSome = true then none else (h.get? a).map fun o => (a, o)
def rest (g h : Heap) (L d : Addr) : List (Addr × Obj) := (allNews g h L).filter fun p => decide (p.1 ≠ d)
end L2
namespace L2
open PySem PySem.Spec PyProof.Rows
structure Mod (K : PySem.W.Frag) (mg : Str → Option Value) (base : Heap) : Prop where
  kin : K.In base
  glob : base.Ns mainGlobals mg
  blt : ∃ mb, base.Ns builtinsNs mb ∧ ∀ x : Str, x ≠ "__name__" → mb x = bootBuiltins x
  nolimit : base.NoLimit
structure Cx where
  prog : Program
  w : World
  K : PySem.W.Frag
  mg : Str → Option Value
  base : Heap
  A : Around
  N : List Str
  s₀ : Shared
  H₀ : Hp
  env : Env
  outer : List Env
  stack : List Env
  ex : List Addr
  fn : Str → Bool
  calm : Bool
  pn : List (Addr × Obj)
  xe : Value → Shared → Prop
def frs (l : List Env) : List Addr := l.filterMap (·.frame)
abbrev Cx.fs (X : Cx) : List Addr := frs X.outer
def Vis (sc : Scope) (x : Str) : Prop := sc.names.lookup x = some .local ∨ sc.names.lookup x = some .cell ∨ sc.names.lookup x = some .free
def Loc (sc : Scope) (x : Str) : Prop := sc.names.lookup x = some .local ∨ sc.names.lookup x = some .cell
def Look (env : Env) (h : Heap) (m : Str → Option Value) (x : Str) (u : Value) : Prop :=
  (env.kindOf x = some .local ∧ m x = some u) ∨ ((env.kindOf x = some .cell ∨ env.kindOf x = some .free) ∧ ∃ c, env.cells.lookup x = some c ∧ h.IsCell c (some u))
structure Cx.Ok (X : Cx) : Prop where
  mod : Mod X.K X.mg X.base
  kind : X.env.scope.kind = .function
  glob : X.env.globals = mainGlobals
  blt : X.env.builtins = builtinsNs
  above : X.s₀.heap.objs.size ≤ X.env.locals
  inj : ∀ x y c, X.env.cells.lookup x = some c → X.env.cells.lookup y = some c → x = y
  has : ∀ x, (X.env.kindOf x = some .cell ∨ X.env.kindOf x = some .free) → ∃ c, X.env.cells.lookup x = some c
  cab : ∀ x c, X.fn x = true → X.env.cells.lookup x = some c → X.s₀.heap.objs.size ≤ c
  hd : X.calm = true → X.A.handled = none
  frames : X.A.frames = some X.stack
  stk : X.stack = X.outer ∨ (X.stack = X.env :: X.outer ∧ X.env.frame = some X.env.locals)
  exf : ∀ b ∈ X.ex, b ≠ X.env.locals ∧ ∀ x c, X.env.cells.lookup x = some c → c ≠ b
  bs : ∀ b o, X.base.get? b = some o → X.s₀.heap.get? b = some o ∧ X.H₀ b = none
  bsz : X.base.objs.size ≤ X.s₀.heap.objs.size
  noex : ∀ b o, X.base.get? b = some o → b ∉ X.ex
  exfs : ∀ b ∈ X.ex, b ∉ X.fs
  funs : X.s₀.heap.FunFrames X.base X.outer
  frf : ∀ b ∈ X.fs, X.H₀ b = none
structure Inv (X : Cx) (pins : List (Addr × Obj)) (σ : List (Option V)) (H : Hp) (s : Shared) : Prop where
  ok : X.Ok
  os : s.os = X.s₀.os
  bare : AllBare s.gens
  base : Un X.fs X.ex X.H₀ H X.s₀.heap s.heap
  loc : ∃ m, s.heap.Ns X.env.locals m ∧ ∀ (i : Nat) (x : Str) (v : V), X.N[i]? = some x → σ[i]? = some (some v) → Vis X.env.scope x → ∃ u, RelV v u ∧ Look X.env s.heap m x u
  cell : ∀ x c, X.env.cells.lookup x = some c → ∃ v, s.heap.IsCell c v
  free : H X.env.locals = none
  freeC : ∀ x c, X.env.cells.lookup x = some c → H c = none
  pin : ∀ p ∈ X.pn ++ pins, s.heap.get? p.1 = some p.2 ∧ H p.1 = none ∧ p.1 ≠ X.env.locals ∧ p.1 ∉ X.fs ∧ ∀ v, p.2.data ≠ .cell v
  hok : HOk X.prog X.w H s.heap
  len : σ.length = X.N.length
section
variable {X : Cx} {pins : List (Addr × Obj)} {σ : List (Option V)} {H H' : Hp} {s : Shared} {h' : Heap}
theorem Cx.Ok.nofr (ok : X.Ok) {b : Addr} {o : Obj} (e : X.base.get? b = some o) : b ∉ X.fs := fun hb => by
  have := (ok.funs.mem hb).1
  rw [e] at this; cases this
theorem Inv.bs (I : Inv X pins σ H s) : ∀ b o, X.base.get? b = some o → s.heap.get? b = some o ∧ H b = none := fun b o e =>
  ⟨I.base.keep b o (I.ok.bs b o e).1 (I.ok.bs b o e).2 (I.ok.nofr e) (I.ok.noex b o e), I.base.free b o (I.ok.bs b o e).1 (I.ok.bs b o e).2 (I.ok.noex b o e)⟩
theorem Inv.bk (I : Inv X pins σ H s) : ∀ b o, X.base.get? b = some o → s.heap.get? b = some o := fun b o e => (I.bs b o e).1
theorem Inv.mod (I : Inv X pins σ H s) : Mod X.K X.mg X.base := I.ok.mod
theorem Inv.kIn (I : Inv X pins σ H s) : X.K.In s.heap := I.ok.mod.kin.keeps I.bk
theorem Inv.nolimit (I : Inv X pins σ H s) : s.heap.NoLimit := I.ok.mod.nolimit.keeps I.bk
theorem Inv.fr (I : Inv X pins σ H s) : ∃ m, Fr X.base X.env.locals s.heap m :=
  let ⟨m, hn, _⟩ := I.loc
  ⟨m, hn, I.bk, Nat.le_trans I.ok.bsz I.ok.above⟩
theorem Inv.lt (I : Inv X pins σ H s) : X.env.locals < s.heap.objs.size := let ⟨_, hn, _⟩ := I.loc; hn.lt
theorem Inv.sz (I : Inv X pins σ H s) : X.s₀.heap.objs.size ≤ s.heap.objs.size := Nat.le_trans I.ok.above (Nat.le_of_lt I.lt)
theorem Inv.nofs (I : Inv X pins σ H s) {a : Addr} (h : s.heap.objs.size ≤ a) : a ∉ X.fs := fun hb => by
  obtain ⟨_, o, ho, _⟩ := I.ok.funs.mem hb
  exact absurd (Nat.lt_of_lt_of_le (Heap.lt_size ho) (Nat.le_trans I.sz h)) (Nat.lt_irrefl _)
theorem Inv.cne (I : Inv X pins σ H s) : ∀ x c, X.env.cells.lookup x = some c → c ≠ X.env.locals := fun x c e z => by
  obtain ⟨v, o, ho, hd⟩ := I.cell x c e
  obtain ⟨m, ⟨o', es, ep, ho', hd', _⟩, _⟩ := I.loc
  rw [z, ho'] at ho; cases ho; rw [hd'] at hd; cases hd
theorem Inv.funs (I : Inv X pins σ H s) : s.heap.FunFrames X.base X.outer := by
  have all : ∀ (l : List Env), (∀ b ∈ frs l, b ∈ X.fs) → X.s₀.heap.FunFrames X.base l → s.heap.FunFrames X.base l := by
    intro l
    induction l with
    | nil => intro _ _; trivial
    | cons env r ih =>
      intro hs hl
      obtain ⟨hk, ⟨L, o, hf, hn, ho, hd⟩, hr⟩ := hl
      have hL : L ∈ X.fs := hs L (by unfold frs; rw [List.filterMap_cons, hf]; exact List.mem_cons_self)
      obtain ⟨sl, e⟩ := I.base.slot L o ho (I.ok.frf L hL) hL fun z => I.ok.exfs L z hL
      exact ⟨hk, ⟨L, _, hf, hn, e, hd⟩, ih (fun b hb => hs b (by unfold frs; rw [List.filterMap_cons, hf]; exact List.mem_cons_of_mem _ hb)) hr⟩
  exact all X.outer (fun _ hb => hb) I.ok.funs
theorem Inv.stack (I : Inv X pins σ H s) : s.heap.FunFrames X.base X.stack := by
  rcases I.ok.stk with e | ⟨e, hf⟩
  · rw [e]; exact I.funs
  · rw [e]
    obtain ⟨m, hn, _⟩ := I.loc
    refine .cons (by rw [I.ok.kind]; decide) hf hn ?_ I.funs
    exact Heap.get?_none_of_le (Nat.le_trans I.ok.bsz I.ok.above)
theorem Inv.stkSub (I : Inv X pins σ H s) : ∀ b ∈ frs X.stack, b ∈ X.env.locals :: X.fs := fun b hb => by
  rcases I.ok.stk with e | ⟨e, hf⟩
  · rw [e] at hb; exact List.mem_cons_of_mem _ hb
  · rw [e] at hb
    unfold frs at hb
    rw [List.filterMap_cons, hf] at hb
    exact hb
theorem Inv.stkFree (I : Inv X pins σ H s) : ∀ b ∈ frs X.stack, H b = none := fun b hb => by
  rcases List.mem_cons.mp (I.stkSub b hb) with e | hb
  · rw [e]; exact I.free
  · obtain ⟨_, o, ho, _⟩ := I.ok.funs.mem hb
    exact I.base.free b o ho (I.ok.frf b hb) fun z => I.ok.exfs b z hb
theorem Inv.step {g' : Array GenState} {t' : Nat} {d' : Drawn} {ch : List Addr} (I : Inv X pins σ H s)
    (hch : ∀ b ∈ ch, (b ∈ X.ex ∨ X.s₀.heap.objs.size ≤ b) ∧ b ≠ X.env.locals ∧ (∀ x c, X.env.cells.lookup x = some c → c ≠ b) ∧ ∀ p ∈ X.pn ++ pins, p.1 ≠ b)
    (keep : ∀ b o, b ≠ X.env.locals → b ∉ X.fs → b ∉ ch → s.heap.get? b = some o → H b = none → h'.get? b = some o)
    (slot : ∀ b o, b ≠ X.env.locals → b ∈ X.fs → b ∉ ch → s.heap.get? b = some o → H b = none → ∃ sl, h'.get? b = some { o with slots := sl }) (free : ∀ b o, b ∉ ch → s.heap.get? b = some o → H b = none → H' b = none)
    (there : ∀ b o, b ∉ ch → s.heap.get? b = some o → ∃ o', h'.get? b = some o')
    (tups : ∀ b xs, H b = some (.tup xs) → H' b = some (.tup xs)) (frzs : ∀ b o u, H b = some (.frz o u) → H' b = some (.frz o u)) (tbls : ∀ b ps, H b = some (.tbl ps) → ∃ more, H' b = some (.tbl (ps ++ more)))
    (ns : ∀ m, s.heap.Ns X.env.locals m → h'.Ns X.env.locals m) (hok : HOk X.prog X.w H' h') (hg : AllBare g') :
    Inv X pins σ H' { s with heap := h', gens := g', drawn := d', toks := t' } := by
  have neL : ∀ b o, X.s₀.heap.get? b = some o → b ≠ X.env.locals := fun b o e => Nat.ne_of_lt (Nat.lt_of_lt_of_le (Heap.lt_size e) I.ok.above)
  have neC : ∀ b o, X.s₀.heap.get? b = some o → b ∉ X.ex → b ∉ ch := fun b o e hx hb => by
    rcases (hch b hb).1 with z | z
    · exact hx z
    · exact absurd (Nat.lt_of_lt_of_le (Heap.lt_size e) z) (Nat.lt_irrefl _)
  have cellK : ∀ x c, X.env.cells.lookup x = some c → ∀ v, s.heap.IsCell c v → h'.IsCell c v := fun x c e v ⟨o, ho, hd⟩ => by
    have nch : c ∉ ch := fun z => (hch c z).2.2.1 x c e rfl
    by_cases hc : c ∈ X.fs
    · obtain ⟨sl, q⟩ := slot c o (I.cne x c e) hc nch ho (I.freeC x c e)
      exact ⟨_, q, hd⟩
    · exact ⟨o, keep c o (I.cne x c e) hc nch ho (I.freeC x c e), hd⟩
  refine ⟨I.ok, I.os, hg, ⟨fun b o e n hb hx => ?_, fun b o e n hb hx => ?_, fun b o e n hx => ?_, fun b o e hx => ?_, fun b xs e => tups b xs (I.base.tups b xs e), fun b o xs e => frzs b o xs (I.base.frzs b o xs e), fun b ps e => ?_⟩, ?_, fun x c e => ?_, ?_, fun x c e => ?_, fun p hp => ?_, hok, I.len⟩
  · exact keep b o (neL b o e) hb (neC b o e hx) (I.base.keep b o e n hb hx) (I.base.free b o e n hx)
  · obtain ⟨sl, e1⟩ := I.base.slot b o e n hb hx
    obtain ⟨sl', e2⟩ := slot b _ (neL b o e) hb (neC b o e hx) e1 (I.base.free b o e n hx)
    exact ⟨sl', e2⟩
  · obtain ⟨o', e1⟩ := I.base.there b o e hx
    exact free b o' (neC b o e hx) e1 (I.base.free b o e n hx)
  · obtain ⟨o', e1⟩ := I.base.there b o e hx
    exact there b o' (neC b o e hx) e1
  · obtain ⟨m1, e1⟩ := I.base.tbls b ps e
    obtain ⟨m2, e2⟩ := tbls b _ e1
    exact ⟨m1 ++ m2, by rw [e2, Array.append_assoc]⟩
  · obtain ⟨m, hn, hl⟩ := I.loc
    refine ⟨m, ns m hn, fun i x v e1 e2 e3 => ?_⟩
    obtain ⟨u, r, l⟩ := hl i x v e1 e2 e3
    refine ⟨u, r, ?_⟩
    rcases l with l | ⟨k, c, e, z⟩
    · exact .inl l
    · exact .inr ⟨k, c, e, cellK x c e _ z⟩
  · obtain ⟨v, z⟩ := I.cell x c e
    exact ⟨v, cellK x c e v z⟩
  · obtain ⟨m, ⟨o, _, _, ho, _⟩, _⟩ := I.loc
    exact free _ o (fun z => (hch _ z).2.1 rfl) ho I.free
  · obtain ⟨v, o, ho, hd⟩ := I.cell x c e
    exact free c o (fun z => (hch c z).2.2.1 x c e rfl) ho (I.freeC x c e)
  · obtain ⟨e, n, ne, nf, d⟩ := I.pin p hp
    have nch : p.1 ∉ ch := fun z => (hch p.1 z).2.2.2 p hp rfl
    exact ⟨keep p.1 p.2 ne nf nch e n, free p.1 p.2 nch e n, ne, nf, d⟩
theorem Inv.un {t' : Nat} (I : Inv X pins σ H s) (u : Un X.fs [] H H' s.heap h') (hok : HOk X.prog X.w H' h') : Inv X pins σ H' { s with heap := h', toks := t' } := by
  obtain ⟨m, ⟨o, es, ep, ho, r⟩, _⟩ := id I.loc
  obtain ⟨sl, hL⟩ := u.any ho I.free (by simp)
  exact I.step (g' := s.gens) (d' := s.drawn) (ch := []) (fun _ z => nomatch z) (fun b o _ hb _ e n => u.keep b o e n hb (by simp)) (fun b o _ hb _ e n => u.slot b o e n hb (by simp)) (fun b o _ e n => u.free b o e n (by simp)) (fun b o _ e => u.there b o e (by simp)) u.tups u.frzs u.tbls (fun m' hm => by
    obtain ⟨o', es', ep', ho', r'⟩ := hm
    rw [ho] at ho'; cases ho'
    exact ⟨_, es', ep', hL, r'⟩) hok I.bare
theorem Inv.call {g' : Array GenState} {t' : Nat} {d' : Drawn} {ch : List Addr} (I : Inv X pins σ H s) (u : Un (frs X.stack) ch H H' s.heap h') (hok : HOk X.prog X.w H' h') (hg : AllBare g')
    (hch : ∀ b ∈ ch, (b ∈ X.ex ∨ X.s₀.heap.objs.size ≤ b) ∧ b ≠ X.env.locals ∧ (∀ x c, X.env.cells.lookup x = some c → c ≠ b) ∧ ∀ p ∈ X.pn ++ pins, p.1 ≠ b) :
    Inv X pins σ H' { s with heap := h', gens := g', drawn := d', toks := t' } := by
  obtain ⟨m, ⟨o, es, ep, ho, r⟩, _⟩ := id I.loc
  obtain ⟨sl, hL⟩ := u.any ho I.free fun z => (hch _ z).2.1 rfl
  exact I.step (ch := ch) hch (fun b o hL hb hc e n => u.keep b o e n (fun z => (List.mem_cons.mp (I.stkSub b z)).elim hL hb) hc) (fun b o _ _ hc e n => u.any e n hc) (fun b o hc e n => u.free b o e n hc) (fun b o hc e => u.there b o e hc) u.tups u.frzs u.tbls (fun m' hm => by
    obtain ⟨o', es', ep', ho', r'⟩ := hm
    rw [ho] at ho'; cases ho'
    exact ⟨_, es', ep', hL, r'⟩) hok hg
theorem Inv.turned {t' : Nat} {it : Addr} (I : Inv X pins σ H s) (k : ∀ b o, b ≠ it → s.heap.get? b = some o → h'.get? b = some o) (hn : H it = none) (hL : it ≠ X.env.locals)
    (h1 : it ∈ X.ex ∨ X.s₀.heap.objs.size ≤ it) (h2 : ∀ x c, X.env.cells.lookup x = some c → c ≠ it) (h3 : ∀ p ∈ X.pn ++ pins, p.1 ≠ it) : Inv X pins σ H { s with heap := h', toks := t' } := by
  have nit : ∀ b u, H b = some u → b ≠ it := fun b u e z => by rw [z, hn] at e; cases e
  refine I.step (g' := s.gens) (d' := s.drawn) (ch := [it]) (fun b hb => ?_) (fun b o _ _ hc e _ => k b o (fun z => hc (by simp [z])) e) (fun b o _ _ hc e _ => ⟨o.slots, k b o (fun z => hc (by simp [z])) e⟩) (fun _ _ _ _ n => n)
    (fun b o hc e => ⟨o, k b o (fun z => hc (by simp [z])) e⟩) (fun _ _ e => e) (fun _ _ _ e => e) (fun b ps e => ⟨#[], by rw [e]; simp⟩) (fun m hm => ?_) (fun b u e => ?_) I.bare
  · have e : b = it := by simpa using hb
    subst e
    exact ⟨h1, hL, h2, h3⟩
  · obtain ⟨o, es, ep, ho, r⟩ := hm
    exact ⟨o, es, ep, k _ o (Ne.symm hL) ho, r⟩
  · refine (I.hok b u e).stay (fun c v hc q => k c v ?_ q) (fun _ q => q) fun _ _ q => q
    rcases hc with z | z
    · rw [z]; exact nit b u e
    · exact nit c _ z
theorem Inv.tok (I : Inv X pins σ H s) (t : Nat) : Inv X pins σ H { s with toks := t } := I.un (h' := s.heap) (t' := t) Un.refl I.hok
theorem Inv.kept {t' : Nat} (I : Inv X pins σ H s) (k : ∀ b u, s.heap.get? b = some u → h'.get? b = some u) : Inv X pins σ H { s with heap := h', toks := t' } := I.un (Un.kept k) (I.hok.kept k)
theorem Inv.laid {a : Addr} {o : HO} {t' : Nat} (I : Inv X pins σ H s) (k : ∀ b u, s.heap.get? b = some u → h'.get? b = some u) (hp : s.heap.objs.size ≤ a) (new : ObjOk X.prog X.w (upd H a o) h' a o) :
    Inv X pins σ (upd H a o) { s with heap := h', toks := t' } := I.un (Un.laid k hp (I.hok.fresh hp)) (I.hok.laid k hp new)
theorem Inv.write {x e : Addr} {o : HO} {t' : Nat} (I : Inv X pins σ H s) (mu : Mut (H x)) (he : e = x ∨ H e = some (.own x)) (k : ∀ b u, b ≠ e → s.heap.get? b = some u → h'.get? b = some u) (heo : ∃ u, h'.get? e = some u)
    (new : ObjOk X.prog X.w (upd H x o) h' x o) : Inv X pins σ (upd H x o) { s with heap := h', toks := t' } := I.un (Un.write mu he k heo) (I.hok.write mu he k heo new)
theorem Inv.pins_of {pins' : List (Addr × Obj)} (I : Inv X pins σ H s) (h : ∀ p ∈ pins', s.heap.get? p.1 = some p.2 ∧ H p.1 = none ∧ p.1 ≠ X.env.locals ∧ p.1 ∉ X.fs ∧ ∀ v, p.2.data ≠ .cell v) : Inv X pins' σ H s :=
  ⟨I.ok, I.os, I.bare, I.base, I.loc, I.cell, I.free, I.freeC, fun p hp => (List.mem_append.mp hp).elim (fun z => I.pin p (List.mem_append_left _ z)) (h p), I.hok, I.len⟩
theorem nodup_ix {N : List Str} (hN : N.Nodup) {i j : Nat} {x : Str} (a : N[i]? = some x) (b : N[j]? = some x) : i = j := by
  obtain ⟨h1, e1⟩ := List.getElem?_eq_some_iff.mp a
  obtain ⟨h2, e2⟩ := List.getElem?_eq_some_iff.mp b
  exact (List.getElem_inj hN).mp (e1.trans e2.symm)
theorem store_ok2 {M : Model} {A : Around} {E : Value → Shared → Prop} {i : Nat} {x : Str} {v : V} {u : Value} {Q : Unit → Shared → Prop} (I : Inv X pins σ H s) (hN : X.N.Nodup) (hi : X.N[i]? = some x) (hx : Loc X.env.scope x) (r : RelV v u)
    (h : ∀ s', Inv X pins (σ.set i (some v)) H s' → (∃ a, Heap.SameBut a s.heap s'.heap ∧ (a = X.env.locals ∨ X.env.cells.lookup x = some a)) → Q () s') (hf : X.fn x = true ∨ X.env.scope.names.lookup x = some .local := by first | exact .inl rfl | exact .inr rfl | assumption) : wpAny M A (storeName X.env x u) Q E s := by
  obtain ⟨m, hn, hl⟩ := id I.loc
  have hcls : (X.env.scope.kind == .class || (X.env.scope.kind == .module && X.env.locals != X.env.globals)) = false := by rw [I.ok.kind]; rfl
  have hiσ : i < σ.length := by rw [I.len]; exact (List.getElem?_eq_some_iff.mp hi).1
  have cne := I.cne
  have tracked : ∀ {a : Addr} {h' : Heap}, (∃ o, s.heap.get? a = some o ∧ H a = none) → Heap.SameBut a s.heap h' → HOk X.prog X.w H h' := fun {a h'} ha hs b ob e => by
    obtain ⟨_, _, hfree⟩ := ha
    refine (I.hok b ob e).stay (fun c w' hc q => (hs.2 c ?_).trans q) (fun _ q => q) fun _ _ q => q
    rintro rfl
    rcases hc with rfl | hc
    · rw [hfree] at e; cases e
    · rw [hfree] at hc; cases hc
  rcases hx with hk | hk
  · refine wpAny_storeName_local hk hn (fun h' hn' hs => ?_) hcls
    obtain ⟨oL, _, _, hoL, _⟩ := id hn
    refine h _ ⟨I.ok, I.os, I.bare, ⟨fun b o e n hb hx => ?_, fun b o e n hb hx => ?_, I.base.free, fun b o e hx => ?_, I.base.tups, I.base.frzs, I.base.tbls⟩, ⟨_, hn', fun j y v' e1 e2 e3 => ?_⟩, fun y c e => ?_, I.free, I.freeC, fun p hp => ?_, tracked ⟨oL, hoL, I.free⟩ hs, by simpa using I.len⟩ ⟨_, hs, .inl rfl⟩
    · exact (hs.2 b (Nat.ne_of_lt (Nat.lt_of_lt_of_le (Heap.lt_size e) I.ok.above))).trans (I.base.keep b o e n hb hx)
    · obtain ⟨sl, e1⟩ := I.base.slot b o e n hb hx
      exact ⟨sl, (hs.2 b (Nat.ne_of_lt (Nat.lt_of_lt_of_le (Heap.lt_size e) I.ok.above))).trans e1⟩
    · obtain ⟨o', e1⟩ := I.base.there b o e hx
      exact ⟨o', (hs.2 b (Nat.ne_of_lt (Nat.lt_of_lt_of_le (Heap.lt_size e) I.ok.above))).trans e1⟩
    · by_cases hj : j = i
      · subst hj
        rw [hi] at e1; cases e1
        rw [List.getElem?_set_self hiσ] at e2
        cases e2
        exact ⟨u, r, .inl ⟨hk, by simp⟩⟩
      · rw [List.getElem?_set_ne (Ne.symm hj)] at e2
        obtain ⟨u', r', q⟩ := hl j y v' e1 e2 e3
        refine ⟨u', r', ?_⟩
        rcases q with ⟨k, e⟩ | ⟨k, c, e, z⟩
        · refine .inl ⟨k, ?_⟩
          have : y ≠ x := fun e => hj (nodup_ix hN e1 (e ▸ hi))
          simp [this, e]
        · exact .inr ⟨k, c, e, z.sameBut hs (cne y c e)⟩
    · obtain ⟨w', z⟩ := I.cell y c e
      exact ⟨w', z.sameBut hs (cne y c e)⟩
    · obtain ⟨e, n, ne, nf, d⟩ := I.pin p hp
      exact ⟨(hs.2 p.1 ne).trans e, n, ne, nf, d⟩
  · have hfn : X.fn x = true := by
      rcases hf with z | z
      · exact z
      · rw [z] at hk; cases hk
    obtain ⟨c, hc⟩ := I.ok.has x (.inl hk)
    obtain ⟨w', z⟩ := I.cell x c hc
    refine wpAny_storeName_cell I.ok.kind hk hc z (fun h' hc' hs => ?_)
    obtain ⟨oc, hoc, hocd⟩ := id z
    refine h { s with heap := h' } ⟨I.ok, I.os, I.bare, ⟨fun b o e n hb hx => ?_, fun b o e n hb hx => ?_, I.base.free, fun b o e hx => ?_, I.base.tups, I.base.frzs, I.base.tbls⟩, ⟨m, hn.sameBut hs (Ne.symm (cne x c hc)), fun j y v' e1 e2 e3 => ?_⟩, fun y c' e => ?_, I.free, I.freeC, fun p hp => ?_, tracked ⟨oc, hoc, I.freeC x c hc⟩ hs, by simpa using I.len⟩ ⟨c, hs, .inr hc⟩
    · exact (hs.2 b (Nat.ne_of_lt (Nat.lt_of_lt_of_le (Heap.lt_size e) (I.ok.cab x c hfn hc)))).trans (I.base.keep b o e n hb hx)
    · obtain ⟨sl, e1⟩ := I.base.slot b o e n hb hx
      exact ⟨sl, (hs.2 b (Nat.ne_of_lt (Nat.lt_of_lt_of_le (Heap.lt_size e) (I.ok.cab x c hfn hc)))).trans e1⟩
    · obtain ⟨o', e1⟩ := I.base.there b o e hx
      exact ⟨o', (hs.2 b (Nat.ne_of_lt (Nat.lt_of_lt_of_le (Heap.lt_size e) (I.ok.cab x c hfn hc)))).trans e1⟩
    · by_cases hj : j = i
      · subst hj
        rw [hi] at e1; cases e1
        rw [List.getElem?_set_self hiσ] at e2
        cases e2
        exact ⟨u, r, .inr ⟨.inl hk, c, hc, hc'⟩⟩
      · rw [List.getElem?_set_ne (Ne.symm hj)] at e2
        obtain ⟨u', r', q⟩ := hl j y v' e1 e2 e3
        refine ⟨u', r', ?_⟩
        rcases q with q | ⟨k, c', e, z'⟩
        · exact .inl q
        · refine .inr ⟨k, c', e, z'.sameBut hs ?_⟩
          rintro rfl
          exact hj (nodup_ix hN e1 (I.ok.inj _ _ _ e hc ▸ hi))
    · by_cases hcc : c' = c
      · subst hcc; exact ⟨_, hc'⟩
      · obtain ⟨w2, z2⟩ := I.cell y c' e
        exact ⟨w2, z2.sameBut hs hcc⟩
    · obtain ⟨e, n, ne, nf, d⟩ := I.pin p hp
      refine ⟨(hs.2 p.1 ?_).trans e, n, ne, nf, d⟩
      intro q
      rw [q, hoc] at e
      have q' : oc = p.2 := Option.some.inj e
      exact d w' (by rw [← q']; exact hocd)
theorem store_ok {M : Model} {A : Around} {E : Value → Shared → Prop} {i : Nat} {x : Str} {v : V} {u : Value} {Q : Unit → Shared → Prop} (I : Inv X pins σ H s) (hN : X.N.Nodup) (hi : X.N[i]? = some x) (hx : Loc X.env.scope x) (r : RelV v u)
    (h : ∀ s', Inv X pins (σ.set i (some v)) H s' → Q () s') (hf : X.fn x = true ∨ X.env.scope.names.lookup x = some .local := by first | exact .inl rfl | exact .inr rfl | assumption) : wpAny M A (storeName X.env x u) Q E s :=
  store_ok2 I hN hi hx r (fun s' I' _ => h s' I') hf
theorem Inv.call' {s' : Shared} {ch : List Addr} (I : Inv X pins σ H s) (ho : s'.os = s.os) (u : Un (frs X.stack) ch H H' s.heap s'.heap) (hok : HOk X.prog X.w H' s'.heap) (hg : AllBare s'.gens)
    (hch : ∀ b ∈ ch, (b ∈ X.ex ∨ X.s₀.heap.objs.size ≤ b) ∧ b ≠ X.env.locals ∧ (∀ x c, X.env.cells.lookup x = some c → c ≠ b) ∧ ∀ p ∈ X.pn ++ pins, p.1 ≠ b) : Inv X pins σ H' s' := by
  obtain ⟨h', g', d', t', o'⟩ := s'
  have e : o' = s.os := ho
  subst e
  exact I.call (g' := g') (t' := t') (d' := d') u hok hg hch
end
abbrev XK := Value → Option Addr → Hp → Prop
abbrev St := List (Option V)
abbrev VK := V → Hp → Prop
abbrev TE := St → Hp → VK → Prop
abbrev TT := St → Hp → (Bool → Hp → Prop) → Prop
abbrev TA := St → Hp → (List V → Hp → Prop) → Prop
structure Ends where
  nx : St → Hp → Prop
  rt : VK
  bk : St → Hp → Prop := fun _ _ => False
  ct : St → Hp → Prop := fun _ _ => False
abbrev TS := Ends → St → Hp → Prop
def EP (X : Cx) (pins : List (Addr × Obj)) (σ : St) (Q : VK) (u : Value) (s' : Shared) : Prop := ∃ v H', Inv X pins σ H' s' ∧ RelV v u ∧ Q v H'
def TP (X : Cx) (pins : List (Addr × Obj)) (σ : St) (Q : Bool → Hp → Prop) (b : Bool) (s' : Shared) : Prop := ∃ H', Inv X pins σ H' s' ∧ Q b H'
def AP (X : Cx) (pins : List (Addr × Obj)) (σ : St) (Q : List V → Hp → Prop) (us : List Value) (s' : Shared) : Prop := ∃ vs H', Inv X pins σ H' s' ∧ Vals vs us ∧ Q vs H'
def SP (X : Cx) (pins : List (Addr × Obj)) (D : Ends) (f : Flow) (s' : Shared) : Prop :=
  match f with
  | .next => ∃ σ' H', Inv X pins σ' H' s' ∧ D.nx σ' H'
  | .brk => ∃ σ' H', Inv X pins σ' H' s' ∧ D.bk σ' H'
  | .cont => ∃ σ' H', Inv X pins σ' H' s' ∧ D.ct σ' H'
  | .ret u => ∃ v σ' H', Inv X pins σ' H' s' ∧ RelV v u ∧ D.rt v H'
def PE (X : Cx) (e : Expr) (t : TE) : Prop :=
  ∀ (pins : List (Addr × Obj)) (s : Shared) (σ : St) (H : Hp) (Q : VK), Inv X pins σ H s → t σ H Q → wpAny (model X.prog X.w) X.A (eval e X.env) (EP X pins σ Q) X.xe s
def PT (X : Cx) (e : Expr) (t : TT) : Prop :=
  ∀ (pins : List (Addr × Obj)) (s : Shared) (σ : St) (H : Hp) (Q : Bool → Hp → Prop), Inv X pins σ H s → t σ H Q → wpAny (model X.prog X.w) X.A (isTrue e X.env (eval e X.env)) (TP X pins σ Q) X.xe s
def PW (X : Cx) (e : Expr) (t : TT) : Prop :=
  ∀ (whole : Sem Value) (pins : List (Addr × Obj)) (s : Shared) (σ : St) (H : Hp) (Q : Bool → Hp → Prop), Inv X pins σ H s → t σ H Q → wpAny (model X.prog X.w) X.A (isTrue e X.env whole) (TP X pins σ Q) X.xe s
theorem PW.pt {X : Cx} {e : Expr} {t : TT} (h : PW X e t) : PT X e t := h _
def PA (X : Cx) (es : List Expr) (t : TA) : Prop :=
  ∀ (pos : Pos) (pins : List (Addr × Obj)) (s : Shared) (σ : St) (H : Hp) (Q : List V → Hp → Prop), Inv X pins σ H s → t σ H Q → wpAny (model X.prog X.w) X.A (spliced (backTo pos (starEach es X.env))) (AP X pins σ Q) X.xe s
def PS (X : Cx) (st : Stmt) (t : TS) : Prop :=
  ∀ (pins : List (Addr × Obj)) (s : Shared) (σ : St) (H : Hp) (D : Ends), Inv X pins σ H s → t D σ H → wpAny (model X.prog X.w) X.A (exec st X.env) (SP X pins D) X.xe s
def PSs (X : Cx) (st : List Stmt) (t : TS) : Prop :=
  ∀ (pins : List (Addr × Obj)) (s : Shared) (σ : St) (H : Hp) (D : Ends), Inv X pins σ H s → t D σ H → wpAny (model X.prog X.w) X.A (execs st X.env) (SP X pins D) X.xe s
theorem thn {α : Type} {t : Sem α} {Q Q' : α → Shared → Prop} {M : Model} {A : Around} {E : Value → Shared → Prop} {s : Shared} (h : wpAny M A t Q E s) (hQ : ∀ a s, Q a s → Q' a s) : wpAny M A t Q' E s := wpAny_mono h hQ fun _ _ x => x
end L2
namespace L2
open PySem PySem.Spec PyProof.Rows
section
variable {X : Cx}
def tVar (i : Nat) : TE := fun σ H Q => ∃ v, σ[i]? = some (some v) ∧ Q v H
def tC (v : V) : TE := fun _ H Q => Q v H
theorem pe_var {i : Nat} {x : Str} {pos : Pos} (hN : X.N[i]? = some x) (hv : Vis X.env.scope x) (hd : (x == ("__debug__" : Str)) = false := by decide) (hcd : (x == ("__classdict__" : Str)) = false := by decide) : PE X (.Name x pos) (tVar i) := by
  intro pins s σ H Q I h
  obtain ⟨v, e, h⟩ := h
  obtain ⟨m, hn, hl⟩ := I.loc
  obtain ⟨u, r, l⟩ := hl i x v hN e hv
  have fin : EP X pins σ Q u s := ⟨v, H, I, r, h⟩
  rcases l with ⟨hk, hm⟩ | ⟨hk, c, hc, hcell⟩
  · exact wpAny_Name (wpAny_loadName_local I.ok.kind hk hn hm fin) hd
  · rcases hk with hk | hk
    · exact wpAny_Name (wpAny_loadName_cell I.ok.kind hk hc hcell fin) hd
    · exact wpAny_Name (wpAny_loadName_free I.ok.kind hk hc hcell fin hcd) hd
theorem pe_int {i j pos} : PE X (.Constant (.int i) j pos) (tC (.int i)) := fun _ _ _ H _ I h => wpAny_Constant_int ⟨.int i, H, I.tok _, ⟨_, rfl⟩, h⟩
theorem pe_bl {b j pos} : PE X (.Constant (.bool b) j pos) (tC (.bl b)) := fun _ _ _ H _ I h => Constant_bool ⟨.bl b, H, I, rfl, h⟩
theorem pe_non {j pos} : PE X (.Constant .none j pos) (tC .non) := fun _ _ _ H _ I h => Constant_none ⟨.non, H, I, rfl, h⟩
theorem pe_str {x j pos} : PE X (.Constant (.str x) j pos) (tC (.str x)) := fun _ _ _ H _ I h => Calls.Constant_str ⟨.str x, H, I.tok _, ⟨_, rfl⟩, h⟩
def Gl (X : Cx) (x : Str) : Prop := X.env.kindOf x = some .globalImplicit
theorem ld_glob {E : Value → Shared → Prop} {pins : List (Addr × Obj)} {s : Shared} {σ : St} {H : Hp} {x : Str} {u : Value} {pos : Pos} {Q : Value → Shared → Prop} (I : Inv X pins σ H s) (hg : Gl X x) (hm : X.mg x = some u) (h : Q u s)
    (hd : (x == ("__debug__" : Str)) = false := by decide) : wpAny (model X.prog X.w) X.A (eval (.Name x pos) X.env) Q E s :=
  Calls.Name_function_global I.ok.kind hg (Calls.loadGlobal_global (by rw [I.ok.glob]; exact I.mod.glob.keeps I.bk) hm h) hd
theorem ld_blt {E : Value → Shared → Prop} {pins : List (Addr × Obj)} {s : Shared} {σ : St} {H : Hp} {x : Str} {u : Value} {pos : Pos} {Q : Value → Shared → Prop} (I : Inv X pins σ H s) (hg : Gl X x) (hm : X.mg x = none) (hv : bootBuiltins x = some u) (h : Q u s)
    (hn : x ≠ "__name__" := by decide) (hd : (x == ("__debug__" : Str)) = false := by decide) : wpAny (model X.prog X.w) X.A (eval (.Name x pos) X.env) Q E s := by
  obtain ⟨mb, h1, h2⟩ := I.mod.blt
  exact Calls.Name_function_global I.ok.kind hg (Calls.loadGlobal_builtin (by rw [I.ok.glob]; exact I.mod.glob.keeps I.bk) hm (by rw [I.ok.blt]; exact h1.keeps I.bk) ((h2 x hn).trans hv) h) hd
theorem pe_glob {x : Str} {v : V} {u : Value} {pos : Pos} (hg : Gl X x) (hm : X.mg x = some u) (r : RelV v u) (hd : (x == ("__debug__" : Str)) = false := by decide) : PE X (.Name x pos) (tC v) :=
  fun _ _ _ H _ I h => ld_glob I hg hm ⟨v, H, I, r, h⟩ hd
variable {a b : Expr} {ta tb : TE} {pos : Pos}
def tB (t : TE) : TT := fun σ H Q => t σ H fun x H1 => ∃ c, x = .bl c ∧ Q c H1
theorem pt_val {e : Expr} {t : TE} (h : PE X e t) (he : ∀ whole, isTrue e X.env whole = (do let v ← whole; standAt e.pos; holding [v] (truthy v)) := by intro _; rfl) : PT X e (tB t) := by
  intro pins s σ H Q I hw
  refine isTrue_plain (thn (h pins s σ H _ I hw) fun v s1 ⟨x, H1, I1, r1, q1⟩ => ?_) (he _)
  obtain ⟨d, rfl, q⟩ := q1
  cases r1
  exact wpAny_truthy_bool ⟨H1, I1, q⟩
variable {tA tB' : TT} {rest : List Expr}
def tOr (t u : TT) : TT := fun σ H Q => t σ H fun c H1 => if c = true then Q true H1 else u σ H1 Q
def tNot (t : TT) : TT := fun σ H Q => t σ H fun c H1 => Q (!c) H1
theorem pw_or1 (ha : PT X a tA) : PW X (.BoolOp .Or [a] pos) tA := by
  intro wh pins s σ H Q I h
  refine isTrue_or (thn (ha pins s σ H Q I h) fun c s1 e => ?_)
  cases c with
  | false => exact isTrue_or_nil e
  | true => exact e
theorem pw_or (ha : PT X a tA) (hb : PW X (.BoolOp .Or (b :: rest) pos) tB') : PW X (.BoolOp .Or (a :: b :: rest) pos) (tOr tA tB') := by
  intro wh pins s σ H Q I h
  refine isTrue_or (thn (ha pins s σ H _ I h) fun c s1 ⟨H1, I1, q1⟩ => ?_)
  cases c with
  | true => exact ⟨H1, I1, q1⟩
  | false => exact hb wh pins s1 σ H1 Q I1 q1
theorem pt_not (ha : PT X a tA) : PT X (.UnaryOp .Not a pos) (tNot tA) := by
  intro pins s σ H Q I h
  exact isTrue_not (ha pins s σ H (fun c H1 => Q (!c) H1) I h)
def tAndV (ta tb : TE) : TE := fun σ H Q => ta σ H fun x H1 => ∃ c, x = .bl c ∧ if c = true then tb σ H1 Q else Q (.bl false) H1
theorem pe_one {op} {t : TE} (h : PE X a t) : PE X (.BoolOp op [a] pos) t := fun pins s σ H Q I hw => BoolOp_one (h pins s σ H Q I hw)
theorem pe_and (ha : PE X a ta) (hb : PE X (.BoolOp .And (b :: rest) pos) tb) : PE X (.BoolOp .And (a :: b :: rest) pos) (tAndV ta tb) := by
  intro pins s σ H Q I h
  refine BoolOp_and (thn (ha pins s σ H _ I h) fun v s1 ⟨x, H1, I1, r1, q1⟩ => ?_)
  obtain ⟨c, rfl, q1⟩ := q1
  cases r1
  refine wpAny_truthy_bool ?_
  cases c with
  | true => exact hb pins s1 σ H1 Q I1 q1
  | false => exact ⟨.bl false, H1, I1, rfl, q1⟩
end
end L2
namespace L2
open PySem PySem.Spec PyProof.Rows
def SqL (K : PySem.W.Frag) (H : Hp) (a : Addr) (xs : List V) : Prop :=
  Rd H a (.lst xs) ∨
    ∃ (o : Obj) (its : Array Value) (n : Nat), K.lookup a = some o ∧ o.cls = .type "list" ∧ o.dict = none ∧ o.data = .seq its n ∧ its.size ≤ sizeLine ∧ Vals xs its.toList
def SqT (K : PySem.W.Frag) (H : Hp) (a : Addr) (xs : List V) : Prop :=
  Rd H a (.tup xs) ∨
    ∃ (o : Obj) (its : Array Value) (n : Nat), K.lookup a = some o ∧ o.cls = .type "tuple" ∧ o.data = .seq its n ∧ its.size ≤ sizeLine ∧ Vals xs its.toList
def absV : Value → Option V
  | .none => some .non
  | .bool b => some (.bl b)
  | .int i _ => some (.int i)
  | .str x _ => some (.str x)
  | .bytes b _ => some (.byt b)
  | .float b _ => some (.flt b)
  | .ref a => some (.ref a)
  | .type n => some (.ty n)
  | _ => none
theorem RelV.abs {x : V} {u : Value} (r : RelV x u) : absV u = some x := by
  cases x with
  | non => cases r; rfl
  | bl _ => cases r; rfl
  | int _ => obtain ⟨t, rfl⟩ := r; rfl
  | str _ => obtain ⟨t, rfl⟩ := r; rfl
  | byt _ => obtain ⟨t, rfl⟩ := r; rfl
  | flt _ => obtain ⟨t, rfl⟩ := r; rfl
  | ref _ => cases r; rfl
  | ty _ => cases r; rfl
theorem RelV.inj {x y : V} {u : Value} (r : RelV x u) (q : RelV y u) : x = y := Option.some.inj (r.abs.symm.trans q.abs)
theorem Vals.inj : ∀ {xs ys : List V} {us : List Value}, Vals xs us → Vals ys us → xs = ys
  | _, _, _, .nil, .nil => rfl
  | _, _, _, .cons r t, .cons r' t' => by rw [r.inj r', Vals.inj t t']
section
variable {X : Cx} {pins : List (Addr × Obj)} {σ : St} {H : Hp} {s : Shared} {a : Addr} {xs ys : List V}
theorem SqL.of {K : PySem.W.Frag} (h : H a = some (.lst xs)) : SqL K H a xs := .inl (.inl h)
theorem SqT.of {K : PySem.W.Frag} (h : H a = some (.tup xs)) : SqT K H a xs := .inl (.inl h)
theorem Inv.list (I : Inv X pins σ H s) (h : SqL X.K H a xs) : ∃ its : List Value, Vals xs its ∧ PlainL s.heap a its.toArray ∧ xs.length ≤ sizeLine := by
  rcases h with h | ⟨o, its, n, hk, hc, hd, hs, hz, r⟩
  · obtain ⟨z, its, n, r, e⟩ := h.ok I.hok
    exact ⟨its, r, ⟨_, n, e, rfl, rfl, rfl⟩, z⟩
  · refine ⟨its.toList, r, ⟨o, n, I.kIn a o hk, hc, hd, by simpa using hs⟩, ?_⟩
    have e := r.length
    simp only [Array.length_toList] at e
    omega
theorem Inv.tuple (I : Inv X pins σ H s) (h : SqT X.K H a xs) : ∃ its : List Value, Vals xs its ∧ IsTup s.heap a its.toArray ∧ xs.length ≤ sizeLine := by
  rcases h with h | ⟨o, its, n, hk, hc, hs, hz, r⟩
  · obtain ⟨z, its, r, p⟩ := h.ok I.hok
    exact ⟨its, r, p, z⟩
  · refine ⟨its.toList, r, ⟨o, I.kIn a o hk, hc, n, by simpa using hs⟩, ?_⟩
    have e := r.length
    simp only [Array.length_toList] at e
    omega
theorem Inv.list_inj (I : Inv X pins σ H s) (h : SqL X.K H a xs) (h' : SqL X.K H a ys) : xs = ys := by
  obtain ⟨its, r, ⟨o, n, e, _, _, d⟩, _⟩ := I.list h
  obtain ⟨its', r', ⟨o', n', e', _, _, d'⟩, _⟩ := I.list h'
  rw [e] at e'; cases e'
  rw [d] at d'
  injection d' with d1 _
  have : its = its' := by simpa using congrArg Array.toList d1
  subst this
  exact r.inj r'
theorem Inv.tuple_inj (I : Inv X pins σ H s) (h : SqT X.K H a xs) (h' : SqT X.K H a ys) : xs = ys := by
  obtain ⟨its, r, ⟨o, e, _, n, d⟩, _⟩ := I.tuple h
  obtain ⟨its', r', ⟨o', e', _, n', d'⟩, _⟩ := I.tuple h'
  rw [e] at e'; cases e'
  rw [d] at d'
  injection d' with d1 _
  have : its = its' := by simpa using congrArg Array.toList d1
  subst this
  exact r.inj r'
end
abbrev Cx.wish (X : Cx) (E : Value → Shared → Prop) : Cx := { X with xe := E }
abbrev Cx.nox (X : Cx) : Cx := X.wish fun _ _ => False
theorem Cx.Ok.wish {X : Cx} (ok : X.Ok) (E : Value → Shared → Prop) : (X.wish E).Ok :=
  ⟨ok.mod, ok.kind, ok.glob, ok.blt, ok.above, ok.inj, ok.has, ok.cab, ok.hd, ok.frames, ok.stk, ok.exf, ok.bs, ok.bsz, ok.noex, ok.exfs, ok.funs, ok.frf⟩
theorem Cx.Ok.unwish {X : Cx} {E : Value → Shared → Prop} (ok : (X.wish E).Ok) : X.Ok :=
  ⟨ok.mod, ok.kind, ok.glob, ok.blt, ok.above, ok.inj, ok.has, ok.cab, ok.hd, ok.frames, ok.stk, ok.exf, ok.bs, ok.bsz, ok.noex, ok.exfs, ok.funs, ok.frf⟩
section
variable {X : Cx} {pins : List (Addr × Obj)} {σ : St} {H : Hp} {s : Shared} {E : Value → Shared → Prop}
theorem Inv.wish (I : Inv X pins σ H s) (E : Value → Shared → Prop) : Inv (X.wish E) pins σ H s := ⟨I.ok.wish E, I.os, I.bare, I.base, I.loc, I.cell, I.free, I.freeC, I.pin, I.hok, I.len⟩
theorem Inv.unwish (I : Inv (X.wish E) pins σ H s) : Inv X pins σ H s := ⟨I.ok.unwish, I.os, I.bare, I.base, I.loc, I.cell, I.free, I.freeC, I.pin, I.hok, I.len⟩
theorem SP.unwish {D : Ends} {f : Flow} {s' : Shared} (h : SP (X.wish E) pins D f s') : SP X pins D f s' := by
  cases f with
  | next => obtain ⟨σ', H', I, q⟩ := h; exact ⟨σ', H', I.unwish, q⟩
  | brk => obtain ⟨σ', H', I, q⟩ := h; exact ⟨σ', H', I.unwish, q⟩
  | cont => obtain ⟨σ', H', I, q⟩ := h; exact ⟨σ', H', I.unwish, q⟩
  | ret u => obtain ⟨v, σ', H', I, r, q⟩ := h; exact ⟨v, σ', H', I.unwish, r, q⟩
theorem PE.nox {e : Expr} {t : TE} (h : PE X.nox e t) : PE X e t := fun pins s σ H Q I hw =>
  wpAny_mono (h pins s σ H Q (I.wish _) hw) (fun _ _ ⟨v, H', I', r, q⟩ => ⟨v, H', I'.unwish, r, q⟩) fun _ _ z => False.elim z
theorem PT.nox {e : Expr} {t : TT} (h : PT X.nox e t) : PT X e t := fun pins s σ H Q I hw =>
  wpAny_mono (h pins s σ H Q (I.wish _) hw) (fun _ _ ⟨H', I', q⟩ => ⟨H', I'.unwish, q⟩) fun _ _ z => False.elim z
theorem PSs.nox {st : List Stmt} {t : TS} (h : PSs X.nox st t) : PSs X st t := fun pins s σ H D I hw =>
  wpAny_mono (h pins s σ H D (I.wish _) hw) (fun _ _ q => q.unwish) fun _ _ z => False.elim z
end
section
variable {X : Cx} {st : Stmt} {rest : List Stmt} {t u : TS} {e : Expr} {te : TE} {pos : Pos}
def tNext : TS := fun D σ H => D.nx σ H
def tSeq (t u : TS) : TS := fun D σ H => t { D with nx := u D } σ H
theorem pss_nil : PSs X [] tNext := fun _ _ σ H _ I h => wpAny_execs_nil ⟨σ, H, I, h⟩
theorem pss_cons (h1 : PS X st t) (h2 : PSs X rest u) : PSs X (st :: rest) (tSeq t u) := by
  intro pins s σ H D I h
  refine wpAny_execs_cons (thn (h1 pins s σ H { D with nx := u D } I h) fun f s1 q => ?_)
  cases f with
  | next =>
    obtain ⟨σ', H', I', q⟩ := q
    exact h2 pins s1 σ' H' D I' q
  | ret v => exact q
  | brk => exact q
  | cont => exact q
theorem pss_one (h1 : PS X st t) : PSs X [st] t := by
  intro pins s σ H D I h
  refine wpAny_execs_cons (thn (h1 pins s σ H D I h) fun f s1 q => ?_)
  cases f with
  | next => exact wpAny_execs_nil q
  | ret v => exact q
  | brk => exact q
  | cont => exact q
theorem Inv.quiet {pins : List (Addr × Obj)} {σ : St} {H : Hp} {s : Shared} (I : Inv X pins σ H s) : interactive X.env = false := by simp [interactive, I.ok.kind]
def tDrop (te : TE) : TS := fun D σ H => te σ H fun _ H1 => D.nx σ H1
theorem ps_expr (he : PE X e te) (hs : swapsWith e none pos.line X.env = pure false := by rfl) : PS X (.Expr e pos) (tDrop te) := by
  intro pins s σ H D I h
  exact wpAny_Expr_any (thn (he pins s σ H _ I h) fun v s1 ⟨x, H1, I1, r1, q1⟩ => ⟨σ, H1, I1, q1⟩) I.quiet hs
def tRet (te : TE) : TS := fun D σ H => te σ H D.rt
theorem ps_ret (he : PE X e te) : PS X (.Return (some e) pos) (tRet te) := by
  intro pins s σ H D I h
  exact wpAny_Return_some (thn (he pins s σ H _ I h) fun v s1 ⟨x, H1, I1, r1, q1⟩ => ⟨x, σ, H1, I1, r1, q1⟩)
def tIfS (c : TT) (t u : TS) : TS := fun D σ H => c σ H fun b H1 => if b = true then t D σ H1 else u D σ H1
theorem ps_if {c : Expr} {a b : List Stmt} {tc : TT} (hc : PT X c tc) (ha : PSs X a t) (hb : PSs X b u) : PS X (.If c a b pos) (tIfS tc t u) := by
  intro pins s σ H D I h
  refine wpAny_If (thn (hc pins s σ H _ I h) fun d s1 ⟨H1, I1, q1⟩ => ?_)
  cases d with
  | true => exact ha pins s1 σ H1 D I1 q1
  | false => exact hb pins s1 σ H1 D I1 q1
def tNever : TS := fun _ _ _ => False
theorem pss_never {sts : List Stmt} : PSs X sts tNever := fun _ _ _ _ _ _ h => h.elim
end
abbrev TG := V → St → Hp → (St → Hp → Prop) → Prop
abbrev TGs := List V → St → Hp → (St → Hp → Prop) → Prop
def PG (X : Cx) (target : Expr) (t : TG) : Prop :=
  ∀ (pins : List (Addr × Obj)) (s : Shared) (σ : St) (H : Hp) (v : V) (u : Value) (Q : St → Hp → Prop), Inv X pins σ H s → RelV v u → t v σ H Q →
    wpAny (model X.prog X.w) X.A (assign target X.env u) (fun _ s' => ∃ σ' H', Inv X pins σ' H' s' ∧ Q σ' H') X.xe s
def PGs (X : Cx) (ts : List Expr) (t : TGs) : Prop :=
  ∀ (pins : List (Addr × Obj)) (s : Shared) (σ : St) (H : Hp) (vs : List V) (us : List Value) (Q : St → Hp → Prop), Inv X pins σ H s → Vals vs us → t vs σ H Q →
    wpAny (model X.prog X.w) X.A (assignInOrder ((assignEach ts X.env).map (·.2)) us) (fun _ s' => ∃ σ' H', Inv X pins σ' H' s' ∧ Q σ' H') X.xe s
abbrev TSet := V → V → V → Hp → (Hp → Prop) → Prop
def PSet (X : Cx) (t : TSet) : Prop :=
  ∀ (pins : List (Addr × Obj)) (s : Shared) (σ : St) (H : Hp) (o i v : V) (ov iv u : Value) (Q : Hp → Prop), Inv X pins σ H s → RelV o ov → RelV i iv → RelV v u → t o i v H Q →
    wpAny (model X.prog X.w) X.A (setItem ov iv u) (fun _ s' => ∃ H', Inv X pins σ H' s' ∧ Q H') X.xe s
section
variable {X : Cx} {pos : Pos}
def gName (i : Nat) : TG := fun v σ H Q => Q (σ.set i (some v)) H
theorem pg_name {i : Nat} {x : Str} (hN : X.N.Nodup) (hi : X.N[i]? = some x) (hx : Loc X.env.scope x) (hf : X.fn x = true ∨ X.env.scope.names.lookup x = some .local := by first | exact .inl rfl | exact .inr rfl | assumption) : PG X (.Name x pos) (gName i) := by
  intro pins s σ H v u Q I r h
  exact wpAny_assign_Name (store_ok I hN hi hx r (fun s' I' => ⟨_, H, I', h⟩) hf)
def gNil : TGs := fun vs σ H Q => vs = [] ∧ Q σ H
def gCons (t : TG) (u : TGs) : TGs := fun vs σ H Q => ∃ v r, vs = v :: r ∧ t v σ H fun σ' H' => u r σ' H' Q
theorem pgs_nil : PGs X [] gNil := by
  intro pins s σ H vs us Q I r h
  obtain ⟨e, h⟩ := h
  subst e
  cases r
  exact assignInOrder_nil ⟨σ, H, I, h⟩
theorem pgs_cons {e : Expr} {es : List Expr} {t : TG} {u : TGs} (h1 : PG X e t) (h2 : PGs X es u)
    (hs : (assignEach (e :: es) X.env).map (·.2) = assign e X.env :: (assignEach es X.env).map (·.2) := by rfl) : PGs X (e :: es) (gCons t u) := by
  intro pins s σ H vs us Q I r h
  obtain ⟨v, vr, e1, h⟩ := h
  subst e1
  cases r with
  | cons r rr =>
    rw [hs]
    refine assignInOrder_cons (thn (h1 pins s σ H _ _ _ I r h) fun _ s1 ⟨σ1, H1, I1, q1⟩ => ?_)
    exact h2 pins s1 σ1 H1 _ _ Q I1 rr q1
def gTup (K : PySem.W.Frag) (n : Nat) (t : TGs) : TG := fun v σ H Q => ∃ a xs, v = .ref a ∧ SqT K H a xs ∧ xs.length = n ∧ t xs σ H Q
theorem pg_tup {es : List Expr} {k : Nat} {t : TGs} {n : Nat} (hc : X.calm = true) (h : PGs X es t)
    (hn : (assignEach es X.env).length = n := by rfl) (hst : (assignEach es X.env).findIdx? (·.1) = none := by rfl) : PG X (.Tuple es k pos) (gTup X.K n t) := by
  intro pins s σ H v u Q I r hw
  obtain ⟨a, xs, e1, hq, hl, hw⟩ := hw
  subst e1
  cases r
  obtain ⟨its, rv, ht, hz⟩ := I.tuple hq
  refine assign_Tuple_tuple (I.ok.hd hc) ht (by simp [hn, ← hl, rv.length]) hst fun h' hx => ?_
  have I1 : Inv X pins σ H { s with heap := h' } := I.kept (t' := s.toks) fun b o e => hx b o (Nat.ne_of_lt (Heap.lt_size e)) e
  exact h pins _ σ H xs _ Q I1 (by simpa using rv) hw
def gSub (to ti : TE) (t : TSet) : TG := fun v σ H Q => to σ H fun o H1 => ti σ H1 fun i H2 => t o i v H2 fun H3 => Q σ H3
theorem pg_sub {o i : Expr} {to ti : TE} {t : TSet} (ho : PE X o to) (hi : PE X i ti) (hs : PSet X t)
    (ha : ∀ v, assign (.Subscript o i pos) X.env v = (do
      let ov ← holding [v] (eval o X.env)
      let iv ← holding [v, ov] (eval i X.env)
      standAt pos
      holding [v, ov, iv] (setItem ov iv v)
      release [v, ov, iv] []) := by intro _; rfl) : PG X (.Subscript o i pos) (gSub to ti t) := by
  intro pins s σ H v u Q I r h
  rw [ha]
  refine wpAny_bind (wpAny_holding (thn (ho pins s σ H _ I h) fun ov s1 ⟨x, H1, I1, r1, q1⟩ => ?_))
  refine wpAny_bind (wpAny_holding (thn (hi pins s1 σ H1 _ I1 q1) fun iv s2 ⟨y, H2, I2, r2, q2⟩ => ?_))
  refine wpAny_bind (wpAny_standAt (wpAny_bind (wpAny_holding (thn (hs pins s2 σ H2 x y v ov iv u _ I2 r1 r2 r q2) fun _ s3 ⟨H3, I3, q3⟩ => ?_))))
  exact wpAny_release ⟨σ, H3, I3, q3⟩
def tAsg (te : TE) (g : TG) : TS := fun D σ H => te σ H fun x H1 => g x σ H1 D.nx
theorem ps_asg {tg e : Expr} {te : TE} {g : TG} (he : PE X e te) (hg : PG X tg g) (hs : swapsWithSole [tg] e pos.line X.env = pure false := by rfl) (hw : swappedStores [tg] e X.env = pure none := by rfl)
    (h1 : (assignEach [tg] X.env).map (·.2) = [assign tg X.env] := by rfl) : PS X (.Assign [tg] e pos) (tAsg te g) := by
  intro pins s σ H D I h
  refine wpAny_Assign_stores (thn (he pins s σ H _ I h) fun v s1 ⟨x, H1, I1, r1, q1⟩ => ?_) hs hw
  rw [h1]
  exact thn (hg pins s1 σ H1 x v _ I1 r1 q1) fun _ s2 q => q
theorem ps_set {i : Nat} {x : Str} {e : Expr} {te : TE} {pos' : Pos} (hN : X.N.Nodup) (hi : X.N[i]? = some x) (hx : Loc X.env.scope x) (he : PE X e te) (hs : swapsWith e (some (.Name x pos')) pos.line X.env = pure false := by rfl) (hf : X.fn x = true ∨ X.env.scope.names.lookup x = some .local := by first | exact .inl rfl | exact .inr rfl | assumption) :
    PS X (.Assign [.Name x pos'] e pos) (tAsg te (gName i)) := by
  intro pins s σ H D I h
  refine wpAny_Assign_Name (thn (he pins s σ H _ I h) fun v s1 ⟨y, H1, I1, r1, q1⟩ => ?_) hs
  exact store_ok I1 hN hi hx r1 (fun s2 I2 => ⟨_, H1, I2, q1⟩) hf
end
section
variable {X : Cx} {pos : Pos}
end
structure It where
  go : Nat → Hp → Prop
  yld : Nat → Hp → V → Hp → Prop
  stop : Nat → Hp → Prop
def FpOk (X : Cx) (pins : List (Addr × Obj)) (H : Hp) (b : Addr) : Prop :=
  H b = none ∧ b ≠ X.env.locals ∧ b ∉ X.fs ∧ (b ∈ X.ex ∨ X.s₀.heap.objs.size ≤ b) ∧ (∀ x c, X.env.cells.lookup x = some c → c ≠ b) ∧ ∀ p ∈ X.pn ++ pins, p.1 ≠ b
theorem Inv.fpOk {X : Cx} {pins : List (Addr × Obj)} {σ : St} {H H' : Hp} {s : Shared} {b : Addr} (I : Inv X pins σ H s) (hb : s.heap.objs.size ≤ b) (hn : H' b = none) : FpOk X pins H' b := by
  refine ⟨hn, Nat.ne_of_gt (Nat.lt_of_lt_of_le I.lt hb), I.nofs hb, .inr (Nat.le_trans I.sz hb), fun x c e z => ?_, fun p hp z => ?_⟩
  · obtain ⟨v, q⟩ := I.cell x c e
    exact absurd (Nat.lt_of_lt_of_le q.lt (by rw [z]; exact hb)) (Nat.lt_irrefl _)
  · exact absurd (Nat.lt_of_lt_of_le (Heap.lt_size (I.pin p hp).1) (by rw [z]; exact hb)) (Nat.lt_irrefl _)
structure Turn (P : Program) (w : World) (K : PySem.W.Frag) (tg : Expr) (J : It) (fp : List Addr) (it : Addr) (tn : Nat → Heap → Prop) : Prop where
  mem : it ∈ fp
  obj : ∀ i h, tn i h → ∀ b ∈ fp, ∃ o, h.get? b = some o ∧ ∀ v, o.data ≠ .cell v
  keep : ∀ i h h', tn i h → (∀ b ∈ fp, ∀ o, h.get? b = some o → h'.get? b = some o) → tn i h'
  item : ∀ (X : Cx), X.prog = P → X.w = w → X.K = K → X.calm = true → ∀ (i : Nat) (pins : List (Addr × Obj)) (s : Shared) (σ : St) (H : Hp) (E : Value → Shared → Prop), Inv X pins σ H s → (∀ b ∈ fp, FpOk X pins H b) → tn i s.heap → J.go i H →
    wpAny (model P w) X.A (pyNext (.ref it)) (fun r s1 => ∃ u, r = some u ∧
      wpAny (model P w) X.A (letOwnedTupleGo tg (.ref it) u) (fun _ s2 => ∃ x H', Inv X pins σ H' s2 ∧ RelV x u ∧ J.yld i H x H' ∧ tn (i + 1) s2.heap ∧ ∀ b ∈ fp, H' b = none) E s1) E s
  done : ∀ (X : Cx), X.prog = P → X.w = w → X.K = K → X.calm = true → ∀ (i : Nat) (pins : List (Addr × Obj)) (s : Shared) (σ : St) (H : Hp) (E : Value → Shared → Prop), Inv X pins σ H s → (∀ b ∈ fp, FpOk X pins H b) → tn i s.heap → J.stop i H →
    wpAny (model P w) X.A (pyNext (.ref it)) (fun r s1 => r = none ∧ Inv X pins σ H s1) E s
  self : ∀ (A : Around) (i : Nat) (s : Shared) (Q : Value → Shared → Prop) (E : Value → Shared → Prop), tn i s.heap → Q (.ref it) s → wpAny (model P w) A (pyIter (.ref it)) Q E s
abbrev TI := St → Hp → (It → Hp → Prop) → Prop
def PIE (X : Cx) (pins : List (Addr × Obj)) (σ : St) (tg : Expr) (R : It → Hp → Prop) (itv : Value) (s2 : Shared) : Prop :=
  ∃ (it : Addr) (fp : List Addr) (tn : Nat → Heap → Prop) (J : It) (H' : Hp), itv = .ref it ∧ Inv X pins σ H' s2 ∧ Turn X.prog X.w X.K tg J fp it tn ∧ tn 0 s2.heap ∧ (∀ b ∈ fp, FpOk X pins H' b) ∧ R J H'
def PI (X : Cx) (tg iter : Expr) (wi : TI) : Prop :=
  ∀ (pins : List (Addr × Obj)) (s : Shared) (σ : St) (H : Hp) (R : It → Hp → Prop), Inv X pins σ H s → wi σ H R →
    wpAny (model X.prog X.w) X.A (eval iter X.env) (fun v s1 => wpAny (model X.prog X.w) X.A (pyIter v) (PIE X pins σ tg R) X.xe s1) X.xe s
theorem go_of {M : Model} {A : Around} {E : Value → Shared → Prop} {s : Shared} {tg : Expr} {it : Addr} {u : Value} {o : Obj} {n : String} {vs : Array Value} {Q : Unit → Shared → Prop} (ho : s.heap.get? it = some o) (hc : o.cls = .type n) (hd : o.data = .fields vs)
    (hn : ["enumerate", "zip", "dict_itemiterator", "dict_reverseitemiterator", "odict_iterator", "itertools.zip_longest", "itertools.pairwise"].contains n = false) (hQ : Q () s) : wpAny M A (letOwnedTupleGo tg (.ref it) u) Q E s := by
  unfold letOwnedTupleGo
  cases tg <;> first
    | exact wpAny_pure hQ
    | (cases u <;> first
        | exact wpAny_pure hQ
        | (refine wpAny_bind (wpAny_load ho ?_)
           rw [hc, hd]
           show wpAny M A (if (["enumerate", "zip", "dict_itemiterator", "dict_reverseitemiterator", "odict_iterator", "itertools.zip_longest", "itertools.pairwise"].contains n && vs[0]? == some (rawInt _)) = true then _ else _) Q E s
           rw [if_neg (by intro h; rw [hn, Bool.false_and] at h; cases h)]
           exact wpAny_pure hQ))
def Itl (K : PySem.W.Frag) (a : Addr) : It :=
  ⟨fun i H => ∃ xs x, SqL K H a xs ∧ xs[i]? = some x, fun i H x H' => H' = H ∧ ∀ xs, SqL K H a xs → xs[i]? = some x, fun i H => ∃ xs, SqL K H a xs ∧ xs.length ≤ i⟩
def Itr (lo : Int) (n : Nat) : It := ⟨fun i _ => i < n, fun i H x H' => H' = H ∧ x = .int (lo + i), fun i _ => n ≤ i⟩
theorem turn_list {P : Program} {w : World} {K : PySem.W.Frag} {tg : Expr} (a it : Addr) : Turn P w K tg (Itl K a) [it] it (fun i h => h.IsListIter it a i) where
  mem := by simp
  obj := fun i h st b hb => by
    have e : b = it := by simpa using hb
    subst e
    obtain ⟨o, e, c, d⟩ := st
    exact ⟨o, e, fun v z => by rw [d] at z; cases z⟩
  keep := fun i h h' st k => st.at fun o e => k it (by simp) o e
  item := by
    intro X hP hw hK hc i pins s σ H E I hf st hg
    subst hP hw hK
    obtain ⟨xs, x, hq, hx⟩ := hg
    obtain ⟨its, rv, p, hz⟩ := I.list hq
    obtain ⟨u, hu, ru⟩ := rv.get hx
    obtain ⟨f0, f1, f2, f3, f4, f5⟩ := hf it (by simp)
    refine wpAny_pyNext_list_item st p.isList (x := u) (by simpa using hu) fun h' st' sb => ?_
    have I1 : Inv X pins σ H { s with heap := h' } := I.turned (t' := s.toks) (fun b o hb e => (sb.2 b hb).trans e) f0 f1 f3 f4 f5
    obtain ⟨o, e, c, d⟩ := id st'
    exact ⟨u, rfl, go_of (s := { s with heap := h' }) e c d (by decide) ⟨x, H, I1, ru, ⟨rfl, fun ys hy => by rw [I.list_inj hy hq]; exact hx⟩, st', fun b hb => (hf b hb).1⟩⟩
  done := by
    intro X hP hw hK hc i pins s σ H E I hf st hg
    subst hP hw hK
    obtain ⟨xs, hq, hx⟩ := hg
    obtain ⟨its, rv, p, hz⟩ := I.list hq
    obtain ⟨f0, f1, f2, f3, f4, f5⟩ := hf it (by simp)
    have hl := rv.length
    exact wpAny_pyNext_list_end (I.ok.hd hc) st p.isList (by simp; omega) fun h' eb => ⟨rfl, I.turned (t' := s.toks) (fun b o hb e => eb b o hb e) f0 f1 f3 f4 f5⟩
  self := fun _ _ _ _ _ st h => wpAny_pyIter_listiter st h
theorem turn_range {P : Program} {w : World} {K : PySem.W.Frag} {tg : Expr} (it : Addr) (lo : Int) (n : Nat) : Turn P w K tg (Itr lo n) [it] it (fun i h => IsRangeIter h it (lo + (i : Nat) * 1) ((n : Int) - (i : Nat)) 1) where
  mem := by simp
  obj := fun i h st b hb => by
    have e : b = it := by simpa using hb
    subst e
    exact ⟨_, st, fun v z => by
      have z' : Data.fields _ = Data.cell v := z
      cases z'⟩
  keep := fun i h h' st k => k it (by simp) _ st
  item := by
    intro X hP hw hK hc i pins s σ H E I hf st hg
    subst hP hw hK
    obtain ⟨f0, f1, f2, f3, f4, f5⟩ := hf it (by simp)
    have W := Walks.range (prog := X.prog) (w := X.w) (I.ok.hd hc) it lo 1 n
    refine W.item i s _ _ hg st fun v h' tk hv st' kk => ?_
    obtain ⟨t, rfl⟩ := hv
    have I1 : Inv X pins σ H { s with heap := h', toks := tk } := I.turned (fun b o hb e => kk b o (by simpa using hb) e) f0 f1 f3 f4 f5
    refine ⟨_, rfl, go_of (s := { s with heap := h', toks := tk }) (n := "range_iterator") st' rfl rfl (by decide) ⟨.int (lo + i), H, I1, ⟨t, ?_⟩, ⟨rfl, rfl⟩, st', fun b hb => (hf b hb).1⟩⟩
    rw [Int.mul_one]
  done := by
    intro X hP hw hK hc i pins s σ H E I hf st hg
    subst hP hw hK
    obtain ⟨f0, f1, f2, f3, f4, f5⟩ := hf it (by simp)
    exact wpAny_pyNext_range_end (I.ok.hd hc) st (by have : n ≤ i := hg; omega) fun h' eb => ⟨rfl, I.turned (t' := s.toks) (fun b o hb e => eb b o hb e) f0 f1 f3 f4 f5⟩
  self := fun _ _ _ _ _ st h => wpAny_pyIter_rangeiter st h
end L2
namespace L2
open PySem PySem.Spec PyProof.Rows
section
variable {X : Cx} {tg : Expr}
def iList (K : PySem.W.Frag) (tl : TE) : TI := fun σ H R => tl σ H fun x H1 => ∃ a, x = .ref a ∧ (∃ xs, SqL K H1 a xs) ∧ R (Itl K a) H1
theorem pi_list {l : Expr} {tl : TE} (hl : PE X l tl) : PI X tg l (iList X.K tl) := by
  intro pins s σ H R I h
  refine thn (hl pins s σ H _ I h) fun v s1 ⟨x, H1, I1, r1, q1⟩ => ?_
  obtain ⟨a, e, ⟨xs, hq⟩, q⟩ := q1
  subst e
  cases r1
  obtain ⟨its, rv, p, hz⟩ := I1.list hq
  refine wpAny_pyIter_list p.isList ?_
  refine ⟨s1.heap.objs.size, [s1.heap.objs.size], _, _, H1, rfl, I1.kept (t' := s1.toks) fun b o e => Heap.get?_push_of_some _ e, turn_list a _, ⟨_, Heap.get?_push_size _ rfl, rfl, rfl⟩, fun b hb => ?_, q⟩
  have e : b = s1.heap.objs.size := by simpa using hb
  subst e
  exact I1.fpOk (Nat.le_refl _) (I1.hok.fresh (Nat.le_refl _))
theorem range_it {pins : List (Addr × Obj)} {σ : St} {H : Hp} {s : Shared} {R : It → Hp → Prop} {E : Value → Shared → Prop} {lo hi : Int} {t u v : Tok} {tk : Nat} (I : Inv X pins σ H s) (h1 : -(2 ^ 62) ≤ lo) (h2 : lo < 2 ^ 62) (h3 : -(2 ^ 62) ≤ hi) (h4 : hi < 2 ^ 62)
    (q : R (Itr lo (hi - lo).toNat) H) : wpAny (model X.prog X.w) X.A (pyIter (.ref s.heap.objs.size)) (PIE X pins σ tg R) E { s with heap := s.heap.push { cls := .type "range", data := .fields #[.int lo t, .int hi u, .int 1 v] }, toks := tk } := by
  refine wpAny_pyIter_range (IsRange.new ..) (small_one h1 h2 h3 h4) ?_
  have I1 : Inv X pins σ H { s with heap := s.heap.push { cls := .type "range", data := .fields #[.int lo t, .int hi u, .int 1 v] }, toks := tk } := I.kept fun b o e => Heap.get?_push_of_some _ e
  refine ⟨(s.heap.push { cls := .type "range", data := .fields #[.int lo t, .int hi u, .int 1 v] }).objs.size, [(s.heap.push { cls := .type "range", data := .fields #[.int lo t, .int hi u, .int 1 v] }).objs.size], _, _, H, rfl,
    I1.kept (t' := tk) fun b o e => Heap.get?_push_of_some _ e, turn_range _ lo (hi - lo).toNat, ?_, fun b hb => ?_, q⟩
  · have e1 : lo + ((0 : Nat) : Int) * 1 = lo := by simp
    have e2 : (((hi - lo).toNat : Nat) : Int) - ((0 : Nat) : Int) = Builtin.Range.rangeSize lo hi 1 := by rw [rangeSize_one]; split <;> omega
    show IsRangeIter _ _ (lo + ((0 : Nat) : Int) * 1) ((((hi - lo).toNat : Nat) : Int) - ((0 : Nat) : Int)) 1
    rw [e1, e2]
    exact Heap.get?_push_size _ rfl
  · have e : b = (s.heap.push { cls := .type "range", data := .fields #[.int lo t, .int hi u, .int 1 v] }).objs.size := by simpa using hb
    subst e
    exact I1.fpOk (Nat.le_refl _) (I1.hok.fresh (Nat.le_refl _))
def iRng1 (ta : TA) : TI := fun σ H R => ta σ H fun vs H1 => ∃ j : Int, vs = [.int j] ∧ -(2 ^ 62) ≤ j ∧ j < 2 ^ 62 ∧ R (Itr 0 j.toNat) H1
def iRng2 (ta : TA) : TI := fun σ H R => ta σ H fun vs H1 => ∃ i j : Int, vs = [.int i, .int j] ∧ (-(2 ^ 62) ≤ i ∧ i < 2 ^ 62 ∧ -(2 ^ 62) ≤ j ∧ j < 2 ^ 62) ∧ R (Itr i (j - i).toNat) H1
theorem pi_range1 {a : Expr} {ta : TA} {p pos : Pos} (hg : Gl X "range") (hm : X.mg "range" = none) (ha : PA X [a] ta) (hs : starEach [a] X.env = [(false, eval a X.env)] := by rfl) : PI X tg (.Call (.Name "range" p) [a] [] pos) (iRng1 ta) := by
  intro pins s σ H R I h
  refine Call_ (ld_blt I hg hm boot_range (PyProof.Rows.callWith_type1 (thn (ha pos pins s σ H _ I h) fun us s1 ⟨vs, H1, I1, r1, q1⟩ => ?_) hs rfl))
  obtain ⟨j, e, q1, q2, q⟩ := q1
  subst e
  cases r1 with
  | cons r rr =>
    cases rr
    obtain ⟨t, rfl⟩ := r
    exact call_range_1 (range_it I1 (by omega) (by omega) q1 q2 (by simpa using q))
theorem pi_range2 {a b : Expr} {ta : TA} {p pos : Pos} (hg : Gl X "range") (hm : X.mg "range" = none) (ha : PA X [a, b] ta) (hs : starEach [a, b] X.env = [(false, eval a X.env), (false, eval b X.env)] := by rfl) (hs2 : starEach [b] X.env = [(false, eval b X.env)] := by rfl) :
    PI X tg (.Call (.Name "range" p) [a, b] [] pos) (iRng2 ta) := by
  intro pins s σ H R I h
  refine Call_ (ld_blt I hg hm boot_range (PyProof.Rows.callWith_type1 (thn (ha pos pins s σ H _ I h) fun us s1 ⟨vs, H1, I1, r1, q1⟩ => ?_) (by rw [hs, hs2]) (by rw [hs2]; rfl)))
  obtain ⟨i, j, e, ⟨q1, q2, q3, q4⟩, q⟩ := q1
  subst e
  cases r1 with
  | cons r rr =>
    cases rr with
    | cons r' rr =>
      cases rr
      obtain ⟨t, rfl⟩ := r
      obtain ⟨t', rfl⟩ := r'
      exact call_range_2 (range_it I1 q1 q2 q3 q4 q)
def tFor (wi : TI) (g : TG) (tb : TS) : TS := fun D σ H => wi σ H fun J H1 => ∃ W : Nat → Nat → St → Hp → Prop, (∃ m, W 0 m σ H1) ∧ ∀ i m σ H, W i m σ H →
  (J.stop i H ∧ D.nx σ H) ∨ (J.go i H ∧ ∃ N : St → Hp → Prop, (∀ σ' H', N σ' H' → ∃ m', m' < m ∧ W (i + 1) m' σ' H') ∧ ∀ x H', J.yld i H x H' → g x σ H' fun σ2 H2 => tb { D with nx := N, ct := N, bk := D.nx } σ2 H2)
def pinsAt (fp : List Addr) (h : Heap) : List (Addr × Obj) := fp.filterMap fun b => (h.get? b).map fun o => (b, o)
theorem mem_pinsAt {fp : List Addr} {h : Heap} {b : Addr} {o : Obj} (hb : b ∈ fp) (e : h.get? b = some o) : (b, o) ∈ pinsAt fp h := List.mem_filterMap.mpr ⟨b, hb, by rw [e]; rfl⟩
theorem of_pinsAt {fp : List Addr} {h : Heap} {p : Addr × Obj} (hp : p ∈ pinsAt fp h) : p.1 ∈ fp ∧ h.get? p.1 = some p.2 := by
  obtain ⟨b, hb, e⟩ := List.mem_filterMap.mp hp
  cases q : h.get? b with
  | none => rw [q] at e; cases e
  | some o =>
    rw [q] at e
    have e' : (b, o) = p := Option.some.inj e
    subst e'
    exact ⟨hb, q⟩
theorem Inv.pinned {pins : List (Addr × Obj)} {σ : St} {H : Hp} {s : Shared} {fp : List Addr} (I : Inv X pins σ H s) (hf : ∀ b ∈ fp, FpOk X pins H b) (ho : ∀ b ∈ fp, ∃ o, s.heap.get? b = some o ∧ ∀ v, o.data ≠ .cell v) : Inv X (pins ++ pinsAt fp s.heap) σ H s :=
  I.pins_of fun p hp => (List.mem_append.mp hp).elim (fun z => I.pin p (List.mem_append_right _ z)) fun z => by
    obtain ⟨hb, e⟩ := of_pinsAt z
    obtain ⟨f0, f1, f2, _⟩ := hf p.1 hb
    obtain ⟨o, e', d⟩ := ho p.1 hb
    rw [e] at e'; cases e'
    exact ⟨e, f0, f1, f2, d⟩
theorem Inv.unpinned {pins pl : List (Addr × Obj)} {σ : St} {H : Hp} {s : Shared} (I : Inv X (pins ++ pl) σ H s) : Inv X pins σ H s := I.pins_of fun p hp => I.pin p (List.mem_append_right _ (List.mem_append_left _ hp))
theorem ps_for {iter : Expr} {body : List Stmt} {wi : TI} {g : TG} {tb : TS} {pos : Pos} (hp : PassesOwn (model X.prog X.w) X.A X.env X.xe) (hc : X.calm = true) (hi : PI X tg iter wi) (hg : PG X tg g) (hb : PSs X body tb)
    (hs : ∀ x, foldedSetIterable iter X.env x = pure x := by intro _; rfl) : PS X (.For tg iter body [] pos) (tFor wi g tb) := by
  intro pins s σ H D I h
  refine wpAny_For (thn (hi pins s σ H _ I h) fun v s1 h1 => thn h1 fun itv s2 h2 => ?_) hs
  obtain ⟨it, fp, tn, J, H2, e, I2, T, st2, f2, W, ⟨m0, w0⟩, turn⟩ := h2
  subst e
  have stat : ∀ {H' : Hp}, (∀ b ∈ fp, H' b = none) → ∀ b ∈ fp, FpOk X pins H' b := fun hn b hb => ⟨hn b hb, (f2 b hb).2⟩
  refine codeAny_forLoop_any (fun n s' => ∃ i σ' H', Inv X pins σ' H' s' ∧ tn i s'.heap ∧ (∀ b ∈ fp, H' b = none) ∧ W i n σ' H') ?_ m0 ⟨0, σ, H2, I2, st2, fun b hb => (f2 b hb).1, w0⟩
  rintro n s3 ⟨i, σ3, H3, I3, st3, fr3, w3⟩
  rcases turn i n σ3 H3 w3 with ⟨stop, qn⟩ | ⟨go, N, hN, step⟩
  · refine wpAny_passesOwn hp (thn (T.done X rfl rfl rfl hc i pins s3 σ3 H3 X.xe I3 (stat fr3) st3 stop) fun r s4 ⟨hr, I4⟩ => ?_)
    subst hr
    exact wpAny_execs_nil ⟨σ3, H3, I4, qn⟩
  · refine wpAny_passesOwn hp (thn (T.item X rfl rfl rfl hc i pins s3 σ3 H3 X.xe I3 (stat fr3) st3 go) fun r s4 ⟨u, hr, h4⟩ => ?_)
    subst hr
    refine wpAny_passesOwn hp (thn h4 fun _ s5 ⟨x, H5, I5, r5, y5, st5, fr5⟩ => ?_)
    have I5' := I5.pinned (stat fr5) (T.obj _ _ st5)
    refine wpAny_passesOwn hp (thn (hg _ s5 σ3 H5 x u _ I5' r5 (step x H5 y5)) fun _ s6 ⟨σ6, H6, I6, q6⟩ => ?_)
    refine wpAny_passesOwn hp (thn (hb _ s6 σ6 H6 _ I6 q6) fun f s7 q7 => ?_)
    have again : ∀ {σ7 : St} {H7 : Hp}, Inv X (pins ++ pinsAt fp s5.heap) σ7 H7 s7 → N σ7 H7 → ∃ m, m < n ∧ ∃ i σ' H', Inv X pins σ' H' s7 ∧ tn i s7.heap ∧ (∀ b ∈ fp, H' b = none) ∧ W i m σ' H' := fun {σ7 H7} I7 n7 => by
      obtain ⟨m', hm, w7⟩ := hN σ7 H7 n7
      refine ⟨m', hm, i + 1, σ7, H7, I7.unpinned, T.keep _ _ _ st5 fun b hb o e => (I7.pin (b, o) (List.mem_append_right _ (List.mem_append_right _ (mem_pinsAt hb e)))).1, fun b hb => ?_, w7⟩
      obtain ⟨o, e, d⟩ := T.obj _ _ st5 b hb
      exact (I7.pin (b, o) (List.mem_append_right _ (List.mem_append_right _ (mem_pinsAt hb e)))).2.1
    cases f with
    | next => obtain ⟨σ7, H7, I7, n7⟩ := q7; exact again I7 n7
    | cont => obtain ⟨σ7, H7, I7, n7⟩ := q7; exact again I7 n7
    | brk => obtain ⟨σ7, H7, I7, q7⟩ := q7; exact ⟨σ7, H7, I7.unpinned, q7⟩
    | ret v => obtain ⟨x7, σ7, H7, I7, r7, q7⟩ := q7; exact ⟨x7, σ7, H7, I7.unpinned, r7, q7⟩
end
theorem for_list {K : PySem.W.Frag} {a : Addr} {xs : List V} {g : TG} {tb : TS} {D : Ends} {σ : St} {H : Hp} (Pv : Nat → St → Hp → Prop) (h0 : Pv 0 σ H) (hl : ∀ i σ H, i ≤ xs.length → Pv i σ H → SqL K H a xs)
    (hs : ∀ i x σ H, xs[i]? = some x → Pv i σ H → g x σ H fun σ2 H2 => tb { D with nx := Pv (i + 1), ct := Pv (i + 1), bk := D.nx } σ2 H2) (hd : ∀ σ H, Pv xs.length σ H → D.nx σ H) :
    ∃ W : Nat → Nat → St → Hp → Prop, (∃ m, W 0 m σ H) ∧ ∀ i m σ H, W i m σ H →
      ((Itl K a).stop i H ∧ D.nx σ H) ∨ ((Itl K a).go i H ∧ ∃ N : St → Hp → Prop, (∀ σ' H', N σ' H' → ∃ m', m' < m ∧ W (i + 1) m' σ' H') ∧ ∀ x H', (Itl K a).yld i H x H' → g x σ H' fun σ2 H2 => tb { D with nx := N, ct := N, bk := D.nx } σ2 H2) := by
  refine ⟨fun i m σ H => m = xs.length - i ∧ i ≤ xs.length ∧ Pv i σ H, ⟨xs.length, by simp, Nat.zero_le _, h0⟩, ?_⟩
  rintro i m σ H ⟨rfl, hi, p⟩
  have q := hl i σ H hi p
  by_cases hlt : i < xs.length
  · refine .inr ⟨⟨xs, xs[i], q, by simp [hlt]⟩, Pv (i + 1), fun σ' H' p' => ⟨xs.length - (i + 1), by omega, rfl, hlt, p'⟩, fun x H' y => ?_⟩
    obtain ⟨e, y⟩ := y
    subst e
    exact hs i x σ _ (y xs q) p
  · have e : i = xs.length := by omega
    subst e
    exact .inl ⟨⟨xs, q, Nat.le_refl _⟩, hd σ H p⟩
theorem for_range {lo : Int} {n : Nat} {g : TG} {tb : TS} {D : Ends} {σ : St} {H : Hp} (Pv : Nat → St → Hp → Prop) (h0 : Pv 0 σ H)
    (hs : ∀ i σ H, i < n → Pv i σ H → g (.int (lo + i)) σ H fun σ2 H2 => tb { D with nx := Pv (i + 1), ct := Pv (i + 1), bk := D.nx } σ2 H2) (hd : ∀ σ H, Pv n σ H → D.nx σ H) :
    ∃ W : Nat → Nat → St → Hp → Prop, (∃ m, W 0 m σ H) ∧ ∀ i m σ H, W i m σ H →
      ((Itr lo n).stop i H ∧ D.nx σ H) ∨ ((Itr lo n).go i H ∧ ∃ N : St → Hp → Prop, (∀ σ' H', N σ' H' → ∃ m', m' < m ∧ W (i + 1) m' σ' H') ∧ ∀ x H', (Itr lo n).yld i H x H' → g x σ H' fun σ2 H2 => tb { D with nx := N, ct := N, bk := D.nx } σ2 H2) := by
  refine ⟨fun i m σ H => m = n - i ∧ i ≤ n ∧ Pv i σ H, ⟨n, by simp, Nat.zero_le _, h0⟩, ?_⟩
  rintro i m σ H ⟨rfl, hi, p⟩
  by_cases hlt : i < n
  · refine .inr ⟨hlt, Pv (i + 1), fun σ' H' p' => ⟨n - (i + 1), by omega, rfl, hlt, p'⟩, fun x H' y => ?_⟩
    obtain ⟨e, y⟩ := y
    subst e y
    exact hs i σ _ hlt p
  · have e : i = n := by omega
    subst e
    exact .inl ⟨Nat.le_refl _, hd σ H p⟩
end L2
namespace L2
open PySem PySem.Spec PyProof.Rows
abbrev R2 := V → V → Hp → VK → Prop
def OpR (X : Cx) (f : Value → Value → Sem Value) (r : R2) : Prop :=
  ∀ (pins : List (Addr × Obj)) (s : Shared) (σ : St) (H : Hp) (x y : V) (v u : Value) (Q : VK), Inv X pins σ H s → RelV x v → RelV y u → r x y H Q →
    wpAny (model X.prog X.w) X.A (f v u) (EP X pins σ Q) X.xe s
def CallR (X : Cx) (f : Value) (r : List V → Hp → VK → Prop) : Prop :=
  ∀ (pins : List (Addr × Obj)) (s : Shared) (σ : St) (H : Hp) (xs : List V) (us : List Value) (Q : VK), Inv X pins σ H s → Vals xs us → r xs H Q →
    wpAny (model X.prog X.w) X.A (call f us) (EP X pins σ Q) X.xe s
def tOp (r : R2) (ta tb : TE) : TE := fun σ H Q => ta σ H fun x H1 => tb σ H1 fun y H2 => r x y H2 Q
def rI (C : Int → Int → Prop) (g : Int → Int → V) : R2 := fun x y H Q => ∃ i j, x = .int i ∧ y = .int j ∧ C i j ∧ Q (g i j) H
def rI0 (g : Int → Int → V) : R2 := fun x y H Q => ∃ i j, x = .int i ∧ y = .int j ∧ Q (g i j) H
section
variable {X : Cx} {a b c : Expr} {ta tb tc : TE} {pos : Pos}
theorem binT (ha : PE X a ta) (hb : PE X b tb) {pins : List (Addr × Obj)} {s : Shared} {σ : St} {H : Hp} {R : V → V → Hp → Prop} (I : Inv X pins σ H s)
    (h : ta σ H fun x H1 => tb σ H1 fun y H2 => R x y H2) {Q : Value → Shared → Prop} {f : Value → Value → Sem Value}
    (hf : ∀ v u s2 x y H2, Inv X pins σ H2 s2 → RelV x v → RelV y u → R x y H2 → wpAny (model X.prog X.w) X.A (f v u) Q X.xe s2) :
    wpAny (model X.prog X.w) X.A (eval a X.env) (fun v s₁ => wpAny (model X.prog X.w) X.A (eval b X.env) (fun u s₂ => wpAny (model X.prog X.w) X.A (f v u) Q X.xe s₂) X.xe s₁) X.xe s := by
  refine thn (ha pins s σ H _ I h) fun v s1 ⟨x, H1, I1, r1, q1⟩ => ?_
  refine thn (hb pins s1 σ H1 _ I1 q1) fun u s2 ⟨y, H2, I2, r2, q2⟩ => ?_
  exact hf v u s2 x y H2 I2 r1 r2 q2
theorem pe_op {op : Operator} {r : R2} (ho : OpR X (binaryOp op) r) (ha : PE X a ta) (hb : PE X b tb) : PE X (.BinOp a op b pos) (tOp r ta tb) := by
  intro pins s σ H Q I h
  exact wpAny_BinOp (binT ha hb I h fun v u s2 x y H2 I2 rx ry q => ho pins s2 σ H2 x y v u Q I2 rx ry q)
theorem opI {f : Value → Value → Sem Value} {C : Int → Int → Prop} {g : Int → Int → Int}
    (rule : ∀ (i j : Int) (t u : Tok) (s : Shared) (Q : Value → Shared → Prop) (E : Value → Shared → Prop), C i j → Q (.int (g i j) s.toks) { s with toks := s.toks + 1 } → wpAny (model X.prog X.w) X.A (f (.int i t) (.int j u)) Q E s) :
    OpR X f (rI C fun i j => .int (g i j)) := by
  intro pins s σ H x y v u Q I rx ry h
  obtain ⟨i, j, rfl, rfl, hc, q⟩ := h
  obtain ⟨t, rfl⟩ := rx
  obtain ⟨t', rfl⟩ := ry
  exact rule i j t t' s _ _ hc ⟨.int (g i j), H, I.tok _, ⟨_, rfl⟩, q⟩
theorem opI0 {f : Value → Value → Sem Value} {g : Int → Int → Int}
    (rule : ∀ (i j : Int) (t u : Tok) (s : Shared) (Q : Value → Shared → Prop) (E : Value → Shared → Prop), Q (.int (g i j) s.toks) { s with toks := s.toks + 1 } → wpAny (model X.prog X.w) X.A (f (.int i t) (.int j u)) Q E s) :
    OpR X f (rI0 fun i j => .int (g i j)) := by
  intro pins s σ H x y v u Q I rx ry h
  obtain ⟨i, j, rfl, rfl, q⟩ := h
  obtain ⟨t, rfl⟩ := rx
  obtain ⟨t', rfl⟩ := ry
  exact rule i j t t' s _ _ ⟨.int (g i j), H, I.tok _, ⟨_, rfl⟩, q⟩
theorem opB0 {f : Value → Value → Sem Value} {g : Int → Int → Bool}
    (rule : ∀ (i j : Int) (t u : Tok) (s : Shared) (Q : Value → Shared → Prop) (E : Value → Shared → Prop), Q (.bool (g i j)) s → wpAny (model X.prog X.w) X.A (f (.int i t) (.int j u)) Q E s) :
    OpR X f (rI0 fun i j => .bl (g i j)) := by
  intro pins s σ H x y v u Q I rx ry h
  obtain ⟨i, j, rfl, rfl, q⟩ := h
  obtain ⟨t, rfl⟩ := rx
  obtain ⟨t', rfl⟩ := ry
  exact rule i j t t' s _ _ ⟨.bl (g i j), H, I, rfl, q⟩
def CDiv (i j : Int) : Prop := 0 < j ∧ j < 1073741824
def CPow (i j : Int) : Prop := 0 ≤ j ∧ j ≤ 1000000 ∧ i.natAbs < 2 ^ 64
def CMul (i j : Int) : Prop := (-(2 ^ 64) < i ∧ i < 2 ^ 64) ∨ (-(2 ^ 64) < j ∧ j < 2 ^ 64)
theorem CMul.ok {i j : Int} (h : CMul i j) : IntMulOk i j := by
  rcases h with ⟨h1, h2⟩ | ⟨h1, h2⟩
  · exact .of_left (intBits_le_64 h1 h2)
  · exact .of_right (intBits_le_64 h1 h2)
theorem op_add : OpR X (binaryOp .Add) (rI0 fun i j => .int (i + j)) := opI0 fun _ _ _ _ _ _ _ q => add_int q
theorem op_sub : OpR X (binaryOp .Sub) (rI0 fun i j => .int (i - j)) := opI0 fun _ _ _ _ _ _ _ q => sub_int q
theorem op_mul : OpR X (binaryOp .Mult) (rI CMul fun i j => .int (i * j)) := opI fun _ _ _ _ _ _ _ hc q => mul_int q hc.ok
theorem op_fdiv : OpR X (binaryOp .FloorDiv) (rI CDiv fun i j => .int (i / j)) := opI fun i j _ _ _ _ _ hc q => by
  have h1 : (0 : Int) < j := hc.1
  have h2 : j < 1073741824 := hc.2
  exact floordiv_int (by omega) (by rw [Int.fdiv_eq_ediv_of_nonneg i (by omega)]; exact q) (.inl (PyProof.noPylong_small (by omega)))
theorem op_mod : OpR X (binaryOp .Mod) (rI (fun _ j => 0 < j) fun i j => .int (i % j)) := opI fun i j _ _ _ _ _ hc q => by
  have h1 : (0 : Int) < j := hc
  exact mod_int' (by omega) (by rw [Int.fmod_eq_emod_of_nonneg i (by omega)]; exact q)
theorem op_pow : OpR X (binaryOp .Pow) (rI CPow fun i j => .int (i ^ j.toNat)) := opI fun _ _ _ _ _ _ _ hc q => pow_int_small hc.1 hc.2.1 hc.2.2 q
end
def scal : V → V → Bool
  | .non, .non => true | .non, .int _ => true | .int _, .non => true | .non, .bl _ => true | .bl _, .non => true | .non, .str _ => true | .str _, .non => true
  | .int _, .int _ => true | .bl _, .bl _ => true | .str _, .str _ => true | .byt _, .byt _ => true
  | .int _, .str _ => true | .str _, .int _ => true | .bl _, .str _ => true | .str _, .bl _ => true
  | _, _ => false
def rEq : R2 := fun x y H Q => scal x y = true ∧ Q (.bl (decide (x = y))) H
def rNe : R2 := fun x y H Q => scal x y = true ∧ Q (.bl (!decide (x = y))) H
theorem dec_int {i j : Int} : decide (V.int i = V.int j) = (i == j) := by
  rw [Bool.eq_iff_iff]
  simp
theorem dec_bl {i j : Bool} : decide (V.bl i = V.bl j) = (i == j) := by
  rw [Bool.eq_iff_iff]
  simp
theorem dec_str {i j : Str} : decide (V.str i = V.str j) = (i == j) := by
  rw [Bool.eq_iff_iff]
  simp
theorem dec_byt {i j : Array UInt8} : decide (V.byt i = V.byt j) = (i.toList == j.toList) := by
  rw [Bool.eq_iff_iff]
  cases i
  cases j
  simp
section
variable {X : Cx} {a b c : Expr} {ta tb tc : TE} {pos : Pos}
theorem fin_bl {pins : List (Addr × Obj)} {σ : St} {H : Hp} {s : Shared} {Q : VK} {k k' : Bool} (I : Inv X pins σ H s) (q : Q (.bl k) H) (e : k = k') : EP X pins σ Q (.bool k') s := by
  subst e
  exact ⟨.bl k, H, I, rfl, q⟩
theorem op_eq : OpR X (compareOp .Eq) rEq := by
  intro pins s σ H x y v u Q I rx ry h
  obtain ⟨hs, q⟩ := h
  cases x with
  | non =>
    cases rx
    cases y with
    | non => cases ry; exact PySem.EqNone.eq_none_none (fin_bl I q (by simp))
    | bl j => cases ry; exact PySem.EqNone.eq_none_bool (fin_bl I q (by simp))
    | int j => obtain ⟨t', rfl⟩ := ry; exact PySem.EqNone.eq_none_int (fin_bl I q (by simp))
    | str j => obtain ⟨t', rfl⟩ := ry; exact PySem.EqNone.eq_none_str (fin_bl I q (by simp))
    | _ => exact absurd (show false = true from hs) Bool.false_ne_true
  | bl i =>
    cases rx
    cases y with
    | non => cases ry; exact PySem.EqNone.eq_bool_none (fin_bl I q (by simp))
    | bl j => cases ry; exact eq_bool (fin_bl I q dec_bl)
    | str j => obtain ⟨t', rfl⟩ := ry; exact PySem.EqMixed.eq_bool_str (fin_bl I q (by simp))
    | _ => exact absurd (show false = true from hs) Bool.false_ne_true
  | int i =>
    obtain ⟨t, rfl⟩ := rx
    cases y with
    | non => cases ry; exact PySem.EqNone.eq_int_none (fin_bl I q (by simp))
    | int j => obtain ⟨t', rfl⟩ := ry; exact eq_int (fin_bl I q dec_int)
    | str j => obtain ⟨t', rfl⟩ := ry; exact PySem.EqMixed.eq_int_str (fin_bl I q (by simp))
    | _ => exact absurd (show false = true from hs) Bool.false_ne_true
  | str i =>
    obtain ⟨t, rfl⟩ := rx
    cases y with
    | non => cases ry; exact PySem.EqNone.eq_str_none (fin_bl I q (by simp))
    | bl j => cases ry; exact PySem.EqMixed.eq_str_bool (fin_bl I q (by simp))
    | int j => obtain ⟨t', rfl⟩ := ry; exact PySem.EqMixed.eq_str_int (fin_bl I q (by simp))
    | str j => obtain ⟨t', rfl⟩ := ry; exact eq_str (fin_bl I q dec_str)
    | _ => exact absurd (show false = true from hs) Bool.false_ne_true
  | byt i =>
    obtain ⟨t, rfl⟩ := rx
    cases y with
    | byt j => obtain ⟨t', rfl⟩ := ry; exact PySem.W.eq_bytes (fin_bl I q dec_byt)
    | _ => exact absurd (show false = true from hs) Bool.false_ne_true
  | _ => cases y <;> exact absurd (show false = true from hs) Bool.false_ne_true
theorem op_ne : OpR X (compareOp .NotEq) rNe := by
  intro pins s σ H x y v u Q I rx ry h
  obtain ⟨hs, q⟩ := h
  cases x with
  | non =>
    cases rx
    cases y with
    | non => cases ry; exact PySem.EqNone.ne_none_none (fin_bl I q (by simp))
    | bl j => cases ry; exact PySem.EqNone.ne_none_bool (fin_bl I q (by simp))
    | int j => obtain ⟨t', rfl⟩ := ry; exact PySem.EqNone.ne_none_int (fin_bl I q (by simp))
    | str j => obtain ⟨t', rfl⟩ := ry; exact PySem.EqNone.ne_none_str (fin_bl I q (by simp))
    | _ => exact absurd (show false = true from hs) Bool.false_ne_true
  | bl i =>
    cases rx
    cases y with
    | non => cases ry; exact PySem.EqNone.ne_bool_none (fin_bl I q (by simp))
    | bl j => cases ry; exact ne_bool (fin_bl I q (congrArg not dec_bl))
    | str j => obtain ⟨t', rfl⟩ := ry; exact PySem.EqMixed.ne_bool_str (fin_bl I q (by simp))
    | _ => exact absurd (show false = true from hs) Bool.false_ne_true
  | int i =>
    obtain ⟨t, rfl⟩ := rx
    cases y with
    | non => cases ry; exact PySem.EqNone.ne_int_none (fin_bl I q (by simp))
    | int j => obtain ⟨t', rfl⟩ := ry; exact ne_int (fin_bl I q (congrArg not dec_int))
    | str j => obtain ⟨t', rfl⟩ := ry; exact PySem.EqMixed.ne_int_str (fin_bl I q (by simp))
    | _ => exact absurd (show false = true from hs) Bool.false_ne_true
  | str i =>
    obtain ⟨t, rfl⟩ := rx
    cases y with
    | non => cases ry; exact PySem.EqNone.ne_str_none (fin_bl I q (by simp))
    | bl j => cases ry; exact PySem.EqMixed.ne_str_bool (fin_bl I q (by simp))
    | int j => obtain ⟨t', rfl⟩ := ry; exact PySem.EqMixed.ne_str_int (fin_bl I q (by simp))
    | str j => obtain ⟨t', rfl⟩ := ry; exact ne_str (fin_bl I q (congrArg not dec_str))
    | _ => exact absurd (show false = true from hs) Bool.false_ne_true
  | byt i =>
    obtain ⟨t, rfl⟩ := rx
    cases y with
    | byt j => obtain ⟨t', rfl⟩ := ry; exact PySem.W.ne_bytes (fin_bl I q (congrArg not dec_byt))
    | _ => exact absurd (show false = true from hs) Bool.false_ne_true
  | _ => cases y <;> exact absurd (show false = true from hs) Bool.false_ne_true
theorem op_lt : OpR X (compareOp .Lt) (rI0 fun i j => .bl (decide (i < j))) := opB0 fun _ _ _ _ _ _ _ q => lt_int q
theorem op_le : OpR X (compareOp .LtE) (rI0 fun i j => .bl (decide (i ≤ j))) := opB0 fun _ _ _ _ _ _ _ q => le_int q
theorem op_gt : OpR X (compareOp .Gt) (rI0 fun i j => .bl (decide (j < i))) := opB0 fun _ _ _ _ _ _ _ q => gt_int q
theorem op_ge : OpR X (compareOp .GtE) (rI0 fun i j => .bl (decide (j ≤ i))) := opB0 fun _ _ _ _ _ _ _ q => ge_int q
theorem op_notN : OpR X (compareOp .IsNot) (fun x y H Q => y = .non ∧ Q (.bl (!decide (x = .non))) H) := by
  intro pins s σ H x y v u Q I rx ry h
  obtain ⟨rfl, q⟩ := h
  cases ry
  refine isnot_none_gen (fin_bl I q ?_)
  cases x <;> first
    | (cases rx; rfl)
    | (obtain ⟨t, rfl⟩ := rx; rfl)
theorem nomark (b : Expr) {op : CmpOp} (h : op ≠ .In := by decide) (h2 : op ≠ .NotIn := by decide) : behindInMarks op b = false := by
  have e1 : (op == CmpOp.In) = false := by cases op <;> first | rfl | exact absurd rfl h
  have e2 : (op == CmpOp.NotIn) = false := by cases op <;> first | rfl | exact absurd rfl h2
  cases b <;> simp [behindInMarks, e1, e2]
theorem pe_cmpR {op : CmpOp} {r : R2} (ho : OpR X (compareOp op) r) (ha : PE X a ta) (hb : PE X b tb) (hm : behindInMarks op b = false) : PE X (.Compare a [op] [b] pos) (tOp r ta tb) := by
  intro pins s σ H Q I h
  exact wpAny_Compare1 (binT ha hb I h fun v u s2 x y H2 I2 rx ry q => ho pins s2 σ H2 x y v u Q I2 rx ry q) hm
def tTest (t : TE) : TT := fun σ H Q => t σ H fun x H' => ∃ k, x = .bl k ∧ Q k H'
theorem pt_cmpR {op : CmpOp} {r : R2} (ho : OpR X (compareOp op) r) (ha : PE X a ta) (hb : PE X b tb) (hm : behindInMarks op b = false) : PT X (.Compare a [op] [b] pos) (tTest (tOp r ta tb)) := by
  intro pins s σ H Q I h
  refine wpAny_isTrue_Compare1 (thn (ha pins s σ H _ I h) fun v s1 ⟨x, H1, I1, r1, q1⟩ => thn (hb pins s1 σ H1 _ I1 q1) fun u s2 ⟨y, H2, I2, r2, q2⟩ =>
    thn (ho pins s2 σ H2 x y v u _ I2 r1 r2 q2) fun c s3 ⟨z, H3, I3, r3, k, e, q3⟩ => ?_) hm
  subst e
  cases r3
  exact wpAny_truthy_bool ⟨H3, I3, q3⟩
theorem line63 : (sizeLine : Nat) < 2 ^ 63 := by rw [sizeLine_eq]; decide
theorem vals1 {x : V} {us : List Value} (r : Vals [x] us) : ∃ u, us = [u] ∧ RelV x u := by
  cases r with
  | cons r1 r2 => cases r2; exact ⟨_, rfl, r1⟩
end
end L2
namespace L2
open PySem PySem.Spec PyProof.Rows
structure ObjM (h : Heap) (x dx C : Addr) (mA : Str → Option Value) : Prop where
  obj : h.get? x = some (PySem.W.instObj C dx)
  ns : h.Ns1 dx mA
  ne : dx ≠ x
theorem lookIn_ns {h : Heap} {dx : Addr} {mA : Str → Option Value} (n : h.Ns1 dx mA) : ∃ od, h.get? dx = some od ∧ ∀ name, PySem.W.lookIn name od = some (mA name) := by
  obtain ⟨o, es, ep, ho, hd, hk, _, hm⟩ := n
  refine ⟨o, ho, fun name => ?_⟩
  have e := hm name
  unfold nsFind findBy at e
  rw [← Array.find?_toList] at e
  unfold PySem.W.lookIn
  rw [hd]
  dsimp only
  split
  · rename_i y q
    rw [q] at e
    exact congrArg some e
  · rename_i q
    rw [q] at e
    have a : es.toList.any (·.refKey) = false := by
      rw [List.any_eq_false]
      intro y hy
      obtain ⟨z, t, hkey⟩ := hk y (Array.mem_toList_iff.mp hy)
      simp [DictEntry.refKey, hkey]
    have a' : ¬ es.toList.any (·.refKey) = true := by rw [a]; exact Bool.false_ne_true
    rw [if_neg a']
    exact congrArg some e
theorem ObjM.look {h : Heap} {x dx C : Addr} {mA : Str → Option Value} (I : ObjM h x dx C mA) : ∃ od, PySem.W.InstAt h x (PySem.W.instObj C dx) C (some od) ∧ ∀ name, PySem.W.lookIn name od = some (mA name) :=
  let ⟨od, ho, hl⟩ := lookIn_ns I.ns
  ⟨od, ⟨I.obj, rfl, rfl, ho⟩, hl⟩
section
variable {prog : Program} {w : World} {A : Around} {E : Value → Shared → Prop} {s : Shared} {K : PySem.W.Frag} {x dx C f : Addr} {mA : Str → Option Value} {name : Str} {v : Value}
theorem get_map {expr : Bool} {Q : Value → Shared → Prop} (X : K.In s.heap) (I : ObjM s.heap x dx C mA) (hg : PySem.W.plainGet K C name = true) (hh : PySem.W.hasDictIn K C = true)
    (ha : PySem.W.findIn K (.ref C) name = some none) (hv : mA name = some v) (hv' : PySem.W.handedIn v = true) (h : Q v { s with toks := s.toks + 1 }) :
    wpAny (model prog w) A (getAttr (.ref x) name expr) Q E s := by
  obtain ⟨od, J, hl⟩ := I.look
  exact PySem.W.get_value X J (PySem.W.plainGet_of hg).1 (PySem.W.findObj_own hh ha rfl (by rw [hl, hv])) hv' h
theorem set_map {ns : List Str} {Q : Unit → Shared → Prop} (X : K.In s.heap) (I : ObjM s.heap x dx C mA)
    (hs : PySem.W.findIn K (.ref C) "__setattr__" = some (some (.builtin "object.__setattr__"))) (hp : PySem.W.plainOver K C = true) (ht : PySem.W.takerIn K C name = some none) (hh : PySem.W.hasDictIn K C = true)
    (hw : PySem.Within mA ns) (hsz : ns.length ≤ sizeLine)
    (h : ∀ h', ObjM h' x dx C (fun y => if y = name then some v else mA y) → Heap.SameBut dx s.heap h' → Q () { s with heap := h', toks := s.toks + 2 }) :
    wpAny (model prog w) A (setAttr (.ref x) name v) Q E s := by
  obtain ⟨od, J, hl⟩ := I.look
  refine PySem.W.set_plain X J hs (PySem.W.osa_open (s := { s with toks := s.toks + 1 }) (r := none) X J hp ht fun b => ?_)
  obtain ⟨cd, hc, hd'⟩ := PySem.W.any_some hh
  have hx : s.heap.get? x = some ⟨.ref C, some dx, .plain, #[]⟩ := I.obj
  refine wpAny_bind (wpAny_pure (wpAny_bind (wpAny_bind (wpAny_loadPart hx (wpAny_bind (PySem.W.Looks.here (s := { s with toks := s.toks + 1 }) (PySem.W.looks_clsIn X hc) ?_))))))
  rw [hd']
  refine wpAny_pure (a := some dx) (wpAny_bind (wpAny_pure (wpAny_bind ?_)))
  refine wpAny_nsSet1 (s := { s with toks := s.toks + 1 }) I.ns fun h' hn2 hs2 => ?_
  obtain ⟨oD, esD, epD, hoD, hdD, hcD⟩ := hn2.count (PySem.Within.cons name v hw)
  refine wpAny_bind (wpAny_lookBehind hoD (by rw [hdD]; exact pastItsLine_dict (Nat.le_trans hcD (by rw [List.length_cons]; omega))) ?_)
  exact wpAny_pure (h _ ⟨(hs2.2 _ (Ne.symm I.ne)).trans I.obj, hn2, I.ne⟩ hs2)
theorem make_map {R : Result → Shared → Prop} {vs : List Value} {kw : List (Str × Value)} (X : K.In s.heap) (hm : PySem.W.makesIn K C = true)
    (hi : PySem.W.findIn K (.ref C) "__init__" = some (some (.ref f))) (hf : PySem.W.typeIn K (.ref f) = some (.type "function"))
    (h : codeAny (model prog w) (A.under (.builtin "type.__call__" ⟨.ref C :: vs, kw⟩)) (.call (.ref f) ⟨.ref (s.heap.objs.size + 1) :: vs, kw⟩) (PySem.W.InitBack (s.heap.objs.size + 1) R)
      { s with heap := (s.heap.push PySem.W.emptyDict).push (PySem.W.instObj C s.heap.objs.size) }) :
    codeAny (model prog w) A (.call (.ref C) ⟨vs, kw⟩) R s := by
  obtain ⟨hh, g, d, t, os⟩ := s
  exact PySem.W.make_core (PySem.W.makes_of X hm) (PySem.W.looks_findIn X hi) (fun self => PySem.W.bind_fn X self hf) (.inl rfl) h
end
def putF (f : Str) (v : V) : List (Str × V) → List (Str × V)
  | [] => [(f, v)]
  | (g, x) :: r => if g = f then (g, v) :: r else (g, x) :: putF f v r
theorem lookup_putF (f g : Str) (v : V) : ∀ fs : List (Str × V), (putF f v fs).lookup g = if g = f then some v else fs.lookup g
  | [] => by
    show List.lookup g [(f, v)] = _
    by_cases h : g = f
    · have hb : (g == f) = true := beq_iff_eq.mpr h
      simp only [List.lookup, hb, if_pos h]
    · have hb : (g == f) = false := beq_eq_false_iff_ne.mpr h
      simp only [List.lookup, hb, if_neg h]
  | (k, x) :: r => by
    have ih := lookup_putF f g v r
    rw [show putF f v ((k, x) :: r) = (if k = f then (k, v) :: r else (k, x) :: putF f v r) from rfl]
    by_cases hk : k = f
    · rw [if_pos hk]
      by_cases h : g = k
      · have hb : (g == k) = true := beq_iff_eq.mpr h
        simp only [List.lookup, hb, if_pos (h.trans hk)]
      · have hb : (g == k) = false := beq_eq_false_iff_ne.mpr h
        simp only [List.lookup, hb, if_neg (fun e : g = f => h (e.trans hk.symm))]
    · rw [if_neg hk]
      by_cases h : g = k
      · have hb : (g == k) = true := beq_iff_eq.mpr h
        simp only [List.lookup, hb, if_neg (fun e : g = f => hk (h.symm.trans e))]
      · have hb : (g == k) = false := beq_eq_false_iff_ne.mpr h
        simp only [List.lookup, hb]
        exact ih
theorem keys_putF (f : Str) (v : V) : ∀ fs : List (Str × V), f ∈ (putF f v fs).map (·.1) ∧ ∀ g, g ∈ fs.map (·.1) → g ∈ (putF f v fs).map (·.1)
  | [] => ⟨by simp [putF], fun g h => by simp at h⟩
  | (k, x) :: r => by
    obtain ⟨i1, i2⟩ := keys_putF f v r
    rw [show putF f v ((k, x) :: r) = (if k = f then (k, v) :: r else (k, x) :: putF f v r) from rfl]
    by_cases hk : k = f
    · rw [if_pos hk]
      subst hk
      exact ⟨by simp, fun g h => by simpa using h⟩
    · rw [if_neg hk]
      refine ⟨?_, fun g h => ?_⟩
      · rw [List.map_cons]
        exact List.mem_cons_of_mem _ i1
      · rw [List.map_cons] at h ⊢
        rcases List.mem_cons.mp h with e | e
        · exact List.mem_cons.mpr (.inl e)
        · exact List.mem_cons_of_mem _ (i2 g e)
theorem length_putF (f : Str) (v : V) : ∀ fs : List (Str × V), (putF f v fs).length ≤ fs.length + 1
  | [] => by simp [putF]
  | (k, x) :: r => by
    have ih := length_putF f v r
    rw [show putF f v ((k, x) :: r) = (if k = f then (k, v) :: r else (k, x) :: putF f v r) from rfl]
    by_cases hk : k = f
    · rw [if_pos hk, List.length_cons, List.length_cons]; omega
    · rw [if_neg hk, List.length_cons, List.length_cons]; omega
theorem RelO.some_of {v : V} {o : Option Value} (r : RelO (some v) o) : ∃ u, o = some u ∧ RelV v u := by
  cases o with
  | none => exact (show False from r).elim
  | some u => exact ⟨u, rfl, r⟩
theorem handed_of {v : V} {u : Value} (r : RelV v u) : PySem.W.handedIn u = true := by
  cases v with
  | non => cases (show u = Value.none from r); rfl
  | bl b => cases (show u = Value.bool b from r); rfl
  | int i => obtain ⟨t, e⟩ := (show ∃ t, u = Value.int i t from r); cases e; rfl
  | str x => obtain ⟨t, e⟩ := (show ∃ t, u = Value.str x t from r); cases e; rfl
  | byt b => obtain ⟨t, e⟩ := (show ∃ t, u = Value.bytes b t from r); cases e; rfl
  | flt b => obtain ⟨t, e⟩ := (show ∃ t, u = Value.float b t from r); cases e; rfl
  | ref a => cases (show u = Value.ref a from r); rfl
  | ty n => cases (show u = Value.type n from r); rfl
section
variable {P : Program} {w : World} {H H' : Hp} {h h' : Heap} {a C dx : Addr} {fs fs' : List (Str × V)}
theorem ins_get (hok : HOk P w H h) (e : H a = some (.ins C dx fs)) : ∃ mA, ObjM h a dx C mA ∧ (∀ f, RelO (fs.lookup f) (mA f)) ∧ PySem.Within mA (fs.map (·.1)) ∧ fs.length ≤ 1000 ∧ H dx = some (.own a) := by
  obtain ⟨d, z, ne, ob, mA, n, r, q⟩ := (show ObjOk P w H h a (.ins C dx fs) from hok a _ e)
  exact ⟨mA, ⟨ob, n, ne⟩, r, q, z, d⟩
end
structure Cls (K : PySem.W.Frag) (C : Addr) : Prop where
  pg : PySem.W.plainGet K C Str.empty = true
  hd : PySem.W.hasDictIn K C = true
  po : PySem.W.plainOver K C = true
  sa : PySem.W.findIn K (.ref C) "__setattr__" = some (some (.builtin "object.__setattr__"))
theorem Cls.get {K : PySem.W.Frag} {C : Addr} (c : Cls K C) (f : Str) : PySem.W.plainGet K C f = true := c.pg
def NoAttr (K : PySem.W.Frag) (C : Addr) (f : Str) : Prop := PySem.W.findIn K (.ref C) f = some none
theorem NoAttr.taker {K : PySem.W.Frag} {C : Addr} {f : Str} (n : NoAttr K C f) : PySem.W.takerIn K C f = some none := by
  unfold PySem.W.takerIn
  rw [show PySem.W.findIn K (.ref C) f = some none from n]
  rfl
section
variable {X : Cx} {pins : List (Addr × Obj)} {σ : St} {H : Hp} {s : Shared} {a C dx : Addr} {fs : List (Str × V)} {f : Str} {v : V} {A : Around} {E : Value → Shared → Prop}
theorem getattr_ok {b : Bool} {Q : Value → Shared → Prop} (I : Inv X pins σ H s) (e : H a = some (.ins C dx fs)) (c : Cls X.K C) (n : NoAttr X.K C f) (l : fs.lookup f = some v)
    (h : ∀ u s', Inv X pins σ H s' → RelV v u → Q u s') : wpAny (model X.prog X.w) A (getAttr (.ref a) f b) Q E s := by
  obtain ⟨mA, O, r, _, _, _⟩ := ins_get I.hok e
  obtain ⟨u, hu, ru⟩ := RelO.some_of (v := v) (o := mA f) (by rw [← l]; exact r f)
  exact get_map I.kIn O (c.get f) c.hd n hu (handed_of ru) (h u _ (I.tok _) ru)
theorem setattr_ok {y : V} {u : Value} {Q : Unit → Shared → Prop} (I : Inv X pins σ H s) (e : H a = some (.ins C dx fs)) (c : Cls X.K C) (n : NoAttr X.K C f) (hl : fs.length < 1000) (ry : RelV y u)
    (h : ∀ s', Inv X pins σ (upd H a (.ins C dx (putF f y fs))) s' → Q () s') : wpAny (model X.prog X.w) A (setAttr (.ref a) f u) Q E s := by
  obtain ⟨mA, O, r, wi, _, ho⟩ := ins_get I.hok e
  have hz : (fs.map (·.1)).length ≤ sizeLine := by rw [List.length_map, sizeLine_eq]; omega
  refine set_map I.kIn O c.sa c.po n.taker c.hd wi hz fun h' O' sb => h _ ?_
  have hd : ∃ o, h'.get? dx = some o := let ⟨o, _, _, e', _⟩ := O'.ns; ⟨o, e'⟩
  refine I.write (x := a) (e := dx) (by rw [e]; exact True.intro) (.inr ho) (fun b q hb z => (sb.2 b hb).trans z) hd ?_
  refine ⟨by rw [upd_ne O.ne]; exact ho, ?_, O.ne, O'.obj, _, O'.ns, fun g => ?_, fun g hg => ?_⟩
  · have := length_putF f y fs; omega
  · show RelO ((putF f y fs).lookup g) (if g = f then some u else mA g)
    rw [lookup_putF]
    by_cases q : g = f
    · rw [if_pos q, if_pos q]; exact ry
    · rw [if_neg q, if_neg q]; exact r g
  · by_cases q : g = f
    · rw [q]; exact (keys_putF f y fs).1
    · refine (keys_putF f y fs).2 g (wi g fun z => hg ?_)
      show (if g = f then some u else mA g) = none
      rw [if_neg q]; exact z
theorem Inv.made (I : Inv X pins σ H s) : Inv X pins σ (upd (upd H s.heap.objs.size (.own (s.heap.objs.size + 1))) (s.heap.objs.size + 1) (.ins C s.heap.objs.size []))
    { s with heap := (s.heap.push PySem.W.emptyDict).push (PySem.W.instObj C s.heap.objs.size) } := by
  have e1 : (s.heap.push PySem.W.emptyDict).get? s.heap.objs.size = some PySem.W.emptyDict := Heap.get?_push_size s.heap rfl
  have e2 : ((s.heap.push PySem.W.emptyDict).push (PySem.W.instObj C s.heap.objs.size)).get? (s.heap.objs.size + 1) = some (PySem.W.instObj C s.heap.objs.size) := by
    have := Heap.get?_push_size (s.heap.push PySem.W.emptyDict) (o := PySem.W.instObj C s.heap.objs.size) rfl
    rwa [Heap.size_push] at this
  have e3 : (s.heap.push PySem.W.emptyDict).Ns s.heap.objs.size (fun _ => none) := ⟨PySem.W.emptyDict, #[], _, e1, rfl, (fun e he => absurd he (by simp)), fun _ => rfl⟩
  have I1 := I.laid (a := s.heap.objs.size) (o := .own (s.heap.objs.size + 1)) (h' := s.heap.push PySem.W.emptyDict) (t' := s.toks) (fun b u q => Heap.get?_push_of_some _ q) (Nat.le_refl _) ⟨_, e1⟩
  refine I1.laid (a := s.heap.objs.size + 1) (o := .ins C s.heap.objs.size []) (t' := s.toks) (fun b u q => Heap.get?_push_of_some _ q) (Nat.le_of_eq (Heap.size_push _ _)) ?_
  have ne : s.heap.objs.size ≠ s.heap.objs.size + 1 := Nat.ne_of_lt (Nat.lt_succ_self _)
  refine ⟨by rw [upd_ne ne, upd_same], Nat.zero_le _, ne, e2, fun _ => none, (Heap.Ns1.of_empty e3).at fun o q => Heap.get?_push_of_some _ q, fun _ => True.intro, fun y hy => absurd rfl hy⟩
theorem attr_of {prog : Program} {w : World} {env : Env} {e : Expr} {f : Str} {pos : Pos} {s : Shared} {Q : Value → Shared → Prop} (hb : attributeBase e f env (eval e env) = eval e env)
    (h : wpAny (model prog w) A (eval e env) (fun o s₁ => wpAny (model prog w) A (getAttr o f true) Q E s₁) E s) : wpAny (model prog w) A (eval (.Attribute e f pos) env) Q E s :=
  Attribute_any_ h (by rw [arm_eval_Attribute, hb])
end
def tFld (K : PySem.W.Frag) (ta : TE) (f : Str) : TE := fun σ H Q => ta σ H fun x H1 => ∃ a C dx fs v, x = .ref a ∧ H1 a = some (.ins C dx fs) ∧ Cls K C ∧ NoAttr K C f ∧ fs.lookup f = some v ∧ Q v H1
def sFld (K : PySem.W.Frag) (ta tv : TE) (f : Str) : TS := fun D σ H => tv σ H fun y H1 => ta σ H1 fun x H2 => ∃ a C dx fs, x = .ref a ∧ H2 a = some (.ins C dx fs) ∧ Cls K C ∧ NoAttr K C f ∧ fs.length < 1000 ∧
  D.nx σ (upd H2 a (.ins C dx (putF f y fs)))
section
variable {X : Cx} {o e value : Expr} {f : Str} {pos pos' tpos : Pos} {ta tv : TE}
theorem pe_fld (he : PE X e ta) (hb : attributeBase e f X.env (eval e X.env) = eval e X.env) : PE X (.Attribute e f pos) (tFld X.K ta f) := by
  intro pins s σ H Q I h
  refine attr_of hb (thn (he pins s σ H _ I h) fun u s1 ⟨x, H1, I1, rx, a, C, dx, fs, v, ex, ea, c, n, l, q⟩ => ?_)
  subst ex
  obtain rfl : u = Value.ref a := rx
  exact getattr_ok I1 ea c n l fun u' s2 I2 ru => ⟨v, H1, I2, ru, q⟩
theorem ps_fld (ha : PE X o ta) (hv : PE X value tv) (hs : swapsWith value (some (.Attribute o f pos')) pos.line X.env = pure false) : PS X (.Assign [.Attribute o f pos'] value pos) (sFld X.K ta tv f) := by
  intro pins s σ H D I h
  refine plainObj_wpAny_Assign_Attribute (thn (hv pins s σ H _ I h) fun u s1 ⟨y, H1, I1, ry, q⟩ => thn (ha pins s1 σ H1 _ I1 q) fun ov s2 ⟨x, H2, I2, rx, a, C, dx, fs, ex, ea, c, n, l, q2⟩ => ?_) hs
  subst ex
  obtain rfl : ov = Value.ref a := rx
  exact setattr_ok I2 ea c n l ry fun s3 I3 => ⟨σ, _, I3, q2⟩
end
section
variable {X : Cx} {pins : List (Addr × Obj)} {σ : St} {H : Hp} {s : Shared} {A : Around} {E : Value → Shared → Prop} {Q : Value → Shared → Prop} {c : Value} {b : Bool}
inductive TyOf (K : PySem.W.Frag) (H : Hp) : V → Value → Prop where
  | non : TyOf K H .non (.type "NoneType")
  | bl (x : Bool) : TyOf K H (.bl x) (.type "bool")
  | int (i : Int) : TyOf K H (.int i) (.type "int")
  | str (x : Str) : TyOf K H (.str x) (.type "str")
  | flt (x : UInt64) : TyOf K H (.flt x) (.type "float")
  | lst {a : Addr} {xs : List V} (e : H a = some (.lst xs)) : TyOf K H (.ref a) (.type "list")
  | frz {a : Addr} {o : Obj} {xs : List V} (e : H a = some (.frz o (.lst xs))) : TyOf K H (.ref a) (.type "list")
  | tup {a : Addr} {xs : List V} (e : H a = some (.tup xs)) : TyOf K H (.ref a) (.type "tuple")
  | dK {a : Addr} {kvs : List (Key × V)} (e : H a = some (.dK kvs)) : TyOf K H (.ref a) (.type "dict")
  | dT {a : Addr} {kvs : List (List Key × V)} (e : H a = some (.dT kvs)) : TyOf K H (.ref a) (.type "dict")
  | ins {a C dx : Addr} {fs : List (Str × V)} (e : H a = some (.ins C dx fs)) (cl : Cls K C) (ha : PySem.W.findIn K (.ref C) "__class__" = some (some (.builtin "object.__class__")))
      (hn : PySem.W.specialIn K (.builtin "object.__class__") "__get__" = some (some (.builtin "getset_descriptor.__get__"))) (htk : PySem.W.takesIn K (.builtin "object.__class__") = some true)
      (hm : PySem.W.mroIn K C (.type "object") = some true) : TyOf K H (.ref a) (.ref C)
theorem isinst_ok {x : V} {u t : Value} (I : Inv X pins σ H s) (rx : RelV x u) (ty : TyOf X.K H x t) (e : PySem.W.kitOne X.K t c = some b) (h : ∀ tk, Q (.bool b) { s with toks := tk }) :
    wpAny (model X.prog X.w) A (call (.builtin "isinstance") [u, c]) Q E s := by
  cases ty with
  | non => cases (show u = Value.none from rx); exact PySem.W.kia_one PySem.W.kitx_none I.kIn True.intro e (fun z => nomatch z) h
  | bl y => cases (show u = Value.bool y from rx); exact PySem.W.kia_one PySem.W.kitx_bool I.kIn True.intro e (fun z => nomatch z) h
  | int i => obtain ⟨t, q⟩ := (show ∃ t, u = Value.int i t from rx); cases q; exact PySem.W.kia_one PySem.W.kitx_int I.kIn True.intro e (fun z => nomatch z) h
  | str y => obtain ⟨t, q⟩ := (show ∃ t, u = Value.str y t from rx); cases q; exact PySem.W.kia_one PySem.W.kitx_str I.kIn True.intro e (fun z => nomatch z) h
  | flt y => obtain ⟨t, q⟩ := (show ∃ t, u = Value.float y t from rx); cases q; exact PySem.W.kia_one PySem.W.kitx_float I.kIn True.intro e (fun z => nomatch z) h
  | @lst a xs ea =>
    cases (show u = Value.ref a from rx)
    obtain ⟨_, _, n, _, h1⟩ := (show ObjOk X.prog X.w H s.heap a (.lst xs) from I.hok a _ ea)
    exact PySem.W.kia_one PySem.W.kitx_list I.kIn ⟨_, h1, rfl⟩ e (fun z => nomatch z) h
  | @frz a ob xs ea =>
    cases (show u = Value.ref a from rx)
    obtain ⟨_, _, _, n, _, h1⟩ := (show ObjOk X.prog X.w H s.heap a (.frz ob (.lst xs)) from I.hok a _ ea)
    exact PySem.W.kia_one PySem.W.kitx_list I.kIn ⟨_, h1, rfl⟩ e (fun z => nomatch z) h
  | @tup a xs ea =>
    cases (show u = Value.ref a from rx)
    obtain ⟨_, _, _, p⟩ := (show ObjOk X.prog X.w H s.heap a (.tup xs) from I.hok a _ ea)
    obtain ⟨o, h1, h2, _⟩ := p
    exact PySem.W.kia_one PySem.W.kitx_tuple I.kIn ⟨o, h1, h2⟩ e (fun z => nomatch z) h
  | @dK a kvs ea =>
    cases (show u = Value.ref a from rx)
    obtain ⟨_, _, vs, _, p⟩ := (show ObjOk X.prog X.w H s.heap a (.dK kvs) from I.hok a _ ea)
    obtain ⟨o, es, ep, h1, h2, _⟩ := p
    exact PySem.W.kia_one PySem.W.kitx_dict I.kIn ⟨o, h1, h2.1⟩ e (fun z => nomatch z) h
  | @dT a kvs ea =>
    cases (show u = Value.ref a from rx)
    obtain ⟨_, _, xs, _, o, es, ep, h1, h2, _⟩ := (show ObjOk X.prog X.w H s.heap a (.dT kvs) from I.hok a _ ea)
    exact PySem.W.kia_one PySem.W.kitx_dict I.kIn ⟨o, h1, h2.1⟩ e (fun z => nomatch z) h
  | @ins a C dx fs ea cl ha hn htk hm =>
    cases (show u = Value.ref a from rx)
    obtain ⟨mA, O, _⟩ := ins_get I.hok ea
    obtain ⟨od, J, _⟩ := O.look
    exact PySem.W.kia_one (PySem.W.kitx_own (cl.get _) cl.hd ha hn htk hm) I.kIn J e (fun z => nomatch z) h
end
end L2
namespace L2
open PySem PySem.Spec PyProof.Rows
structure Room (k : Nat) (A : Around) : Prop where
  hd : A.handled = none
  dp : A.depth + 3 * k + 5 < recursionLimit
  un : A.units + 16 * k + 200 < cLine
theorem Room.mono {j k : Nat} {A : Around} (r : Room k A) (h : j ≤ k) : Room j A := ⟨r.hd, by have := r.dp; omega, by have := r.un; omega⟩
theorem Room.deeper {k : Nat} {A : Around} (r : Room (k + 1) A) (env : Env) : Room k (A.deeper env) :=
  ⟨r.hd, by have := r.dp; show A.depth + 1 + 3 * k + 5 < _; omega, by have := r.un; show A.units + 3 + 16 * k + 200 < _; omega⟩
theorem Room.in1 {k : Nat} {A : Around} (r : Room (k + 1) A) : Room k A.in1 :=
  ⟨r.hd, by have := r.dp; show A.depth + 3 * k + 5 < _; omega, by have := r.un; show A.units + 1 + 16 * k + 200 < _; omega⟩
theorem make_depth {A : Around} {C : Addr} {us : List Value} {kw : List (Str × Value)} : (A.under (.builtin "type.__call__" ⟨.ref C :: us, kw⟩)).depth = A.depth + 1 := by
  first | rfl | simp [Around.under, Code.weight, Code.isCreation, Code.isGuard, Code.isCaller, Code.frames, Code.isFrame, guardIds]
theorem make_units {A : Around} {C : Addr} {us : List Value} {kw : List (Str × Value)} : (A.under (.builtin "type.__call__" ⟨.ref C :: us, kw⟩)).units = A.units + 1 := by
  first | rfl | simp [Around.under, Code.cUnits, Code.frames, Code.isFrame]
theorem Room.make {k : Nat} {A : Around} (r : Room (k + 1) A) (C : Addr) (us : List Value) (kw : List (Str × Value)) : Room k (A.under (.builtin "type.__call__" ⟨.ref C :: us, kw⟩)) :=
  ⟨r.hd, by have := r.dp; rw [make_depth]; omega, by have := r.un; rw [make_units]; omega⟩
theorem Room.depth {k : Nat} {A : Around} (r : Room k A) : A.depth < recursionLimit := by have := r.dp; omega
theorem Room.units {k : Nat} {A : Around} (r : Room k A) : A.units + 64 < cLine := by have := r.un; omega
def tNil : TA := fun _ H Q => Q [] H
def tCons (ta : TE) (tr : TA) : TA := fun σ H Q => ta σ H fun x H1 => tr σ H1 fun xs H2 => Q (x :: xs) H2
section
variable {X : Cx} {e : Expr} {es : List Expr} {te : TE} {t : TA} {pos : Pos}
theorem pa_nil : PA X [] tNil := fun _ _ _ _ H Q I h => Calls.spliced_nil ⟨[], H, I, .nil, h⟩
theorem pa_cons (ha : PE X e te) (hr : PA X es t) (hs : starEach (e :: es) X.env = (false, eval e X.env) :: starEach es X.env := by rfl) : PA X (e :: es) (tCons te t) := by
  intro pos pins s σ H Q I h
  rw [hs]
  show wpAny _ _ (spliced ((false, eval e X.env) :: backTo pos (starEach es X.env))) _ _ s
  refine Calls.spliced_cons (thn (ha pins s σ H _ I h) fun u s1 ⟨x, H1, I1, r1, q1⟩ => ?_)
  exact thn (hr pos pins s1 σ H1 _ I1 q1) fun us s2 ⟨xs, H2, I2, r2, q2⟩ => ⟨x :: xs, H2, I2, .cons r1 r2, q2⟩
def tLst (t : TA) : TE := fun σ H Q => t σ H fun xs H1 => xs.length ≤ sizeLine ∧ ∀ p, H1 p = none → Q (.ref p) (upd H1 p (.lst xs))
theorem pe_lst (h : PA X es t) : PE X (.List es pos) (tLst t) := by
  intro pins s σ H Q I hq
  refine wpAny_List_spliced (thn (h pos pins s σ H _ I hq) fun us s1 ⟨xs, H1, I1, r, z, q⟩ => ⟨by rw [← r.length]; exact z, ?_⟩)
  have hf : H1 s1.heap.objs.size = none := I1.hok.fresh (Nat.le_refl _)
  refine ⟨.ref s1.heap.objs.size, upd H1 s1.heap.objs.size (.lst xs), I1.laid (t' := s1.toks) (fun b u e => Heap.get?_push_of_some _ e) (Nat.le_refl _) ?_, rfl, q _ hf⟩
  exact ⟨z, us, 0, r, Heap.get?_push_size _ rfl⟩
end
abbrev Sp := List V → Hp → VK → XK → Prop
abbrev CXT := List Env → Hp → Shared → XK → Value → Shared → Prop
structure Env0 (P : Program) (w : World) (K : PySem.W.Frag) (mg : Str → Option Value) (base : Heap) (A : Around) (outer : List Env) (s : Shared) (H : Hp) : Prop where
  frames : A.frames = some outer
  mod : Mod K mg base
  bs : ∀ b o, base.get? b = some o → s.heap.get? b = some o ∧ H b = none
  bsz : base.objs.size ≤ s.heap.objs.size
  funs : s.heap.FunFrames base outer
  frf : ∀ b ∈ frs outer, H b = none
  hok : HOk P w H s.heap
  bare : AllBare s.gens
def CE (outer : List Env) (P : Program) (w : World) (H : Hp) (s : Shared) (Q : VK) (u : Value) (s' : Shared) : Prop :=
  ∃ v H', s'.os = s.os ∧ AllBare s'.gens ∧ Un (frs outer) [] H H' s.heap s'.heap ∧ HOk P w H' s'.heap ∧ RelV v u ∧ Q v H'
def CR (CX : CXT) (outer : List Env) (P : Program) (w : World) (H : Hp) (s : Shared) (Q : VK) (E : XK) (r : Result) (s' : Shared) : Prop :=
  match r with
  | .ok (.ret u) => CE outer P w H s Q u s'
  | .ok _ => False
  | .error e => CX outer H s E e s'
structure FnOk (P : Program) (w : World) (K : PySem.W.Frag) (mg : Str → Option Value) (base : Heap) (CX : CXT) (k : Nat) (f : Addr) (fd : FuncData) (ps : List Str) (sp : Sp) : Prop where
  len : ∀ vs H Q E, sp vs H Q E → vs.length = ps.length
  run : ∀ (A : Around) (outer : List Env) (s : Shared) (H : Hp) (args : Args) (us : List Value) (vs : List V) (Q : VK) (E : XK), Room k A → Env0 P w K mg base A outer s H → BindsTo s fd args (ps.zip us) → Vals vs us → sp vs H Q E →
    codeAny (model P w) A (.call (.ref f) args) (CR CX outer P w H s Q E) s
theorem FnOk.mono {P : Program} {w : World} {K : PySem.W.Frag} {mg : Str → Option Value} {base : Heap} {CX : CXT} {j k : Nat} {f : Addr} {fd : FuncData} {ps : List Str} {sp : Sp} (F : FnOk P w K mg base CX j f fd ps sp) (h : j ≤ k) :
    FnOk P w K mg base CX k f fd ps sp := ⟨F.len, fun A outer s H args us vs Q E hr => F.run A outer s H args us vs Q E (hr.mono h)⟩
theorem Env0.make {P : Program} {w : World} {K : PySem.W.Frag} {mg : Str → Option Value} {base : Heap} {A : Around} {outer : List Env} {s : Shared} {H : Hp} (e : Env0 P w K mg base A outer s H) (C : Addr) (us : List Value) (kw : List (Str × Value)) :
    Env0 P w K mg base (A.under (.builtin "type.__call__" ⟨.ref C :: us, kw⟩)) outer s H := ⟨by first | exact e.frames | (simpa [Around.under, Code.envs, Code.isFrame, pushEnvs] using e.frames), e.mod, e.bs, e.bsz, e.funs, e.frf, e.hok, e.bare⟩
theorem Env0.in1 {P : Program} {w : World} {K : PySem.W.Frag} {mg : Str → Option Value} {base : Heap} {A : Around} {outer : List Env} {s : Shared} {H : Hp} (e : Env0 P w K mg base A outer s H) :
    Env0 P w K mg base A.in1 outer s H := ⟨e.frames, e.mod, e.bs, e.bsz, e.funs, e.frf, e.hok, e.bare⟩
section
variable {X : Cx} {pins : List (Addr × Obj)} {σ : St} {H : Hp} {s s' : Shared}
theorem Inv.env0 (I : Inv X pins σ H s) : Env0 X.prog X.w X.K X.mg X.base X.A X.stack s H :=
  ⟨I.ok.frames, I.ok.mod, I.bs, Nat.le_trans I.ok.bsz I.sz, I.stack, I.stkFree, I.hok, I.bare⟩
theorem Inv.after {Q : VK} {u : Value} (I : Inv X pins σ H s) (h : CE X.stack X.prog X.w H s Q u s') : EP X pins σ Q u s' := by
  obtain ⟨v, H', os, bare, un, hok, r, q⟩ := h
  obtain ⟨hh, g, d, t, os'⟩ := s'
  obtain rfl : os' = s.os := os
  exact ⟨v, H', I.call (h' := hh) (g' := g) (d' := d) (t' := t) (ch := []) un hok bare (fun b z => absurd z (by simp)), r, q⟩
end
def Binds (K : PySem.W.Frag) (fd : FuncData) (ps : List Str) (ds : List Value) : Prop :=
  ∀ (s : Shared) (us : List Value), K.In s.heap → (us ++ ds).length = ps.length → BindsTo s fd ⟨us, []⟩ (ps.zip (us ++ ds))
theorem Binds.all {K : PySem.W.Frag} {fd : FuncData} {ps : List Str} (h : ∀ us : List Value, us.length = ps.length → bindArgs fd ⟨us, []⟩ = pure (ps.zip us)) : Binds K fd ps [] := fun s us _ hl => by
  rw [List.append_nil] at hl ⊢
  exact .of_eq (h us hl)
section
variable {X : Cx} {CX : CXT} {k : Nat} {f C : Addr} {fd : FuncData} {ps : List Str} {sp : Sp} {dvs : List V} {ds : List Value} {E : XK} {x m : Str} {p pos apos : Pos} {e o : Expr} {es : List Expr} {ta : TE} {t : TA}
structure Mk (K : PySem.W.Frag) (C f : Addr) : Prop where
  makes : PySem.W.makesIn K C = true
  init : PySem.W.findIn K (.ref C) "__init__" = some (some (.ref f))
  fn : PySem.W.isFn K (.ref f) = true
  kp : PySem.W.keepIn K (.ref C) = true
end
section
variable {X : Cx} {CX : CXT} {k : Nat} {f C : Addr} {fd : FuncData} {ps ks : List Str} {sp : Sp} {E : XK} {x m : Str} {p pos apos kpos : Pos} {e o : Expr} {es : List Expr} {kws : List Keyword} {te ta : TE} {t tk : TA} {nm : Option Str}
variable {g : List Value → List Value → List Value} {gV : List V → List V → List V}
end
structure FnScope (N P : List Str) (sc : Scope) : Prop where
  kind : sc.kind = .function
  co : sc.isCoroutine = false
  gen : sc.isGenerator = false
  nd : N.Nodup
  pre : N.take P.length = P
  par : ∀ x ∈ P, sc.names.lookup x = some .local ∨ sc.names.lookup x = some .cell
  nofree : ∀ y ∈ sc.names, y.2 ≠ .free
theorem bindL_out {kindOf : Str → Option NameKind} {x : Str} : ∀ {binds : List (Str × Value)} {m : Str → Option Value}, (∀ v, (x, v) ∉ binds) → bindL kindOf binds m x = m x
  | [], _, _ => rfl
  | (n, v) :: r, m, h => by
    unfold bindL
    rw [bindL_out fun w hw => h w (List.mem_cons_of_mem _ hw)]
    split
    · have : x ≠ n := by rintro rfl; exact h v List.mem_cons_self
      simp [this]
    · rfl
theorem bindC_out {kindOf : Str → Option NameKind} {x : Str} : ∀ {binds : List (Str × Value)} {m : Str → Option Value}, (∀ v, (x, v) ∉ binds) → bindC kindOf binds m x = m x
  | [], _, _ => rfl
  | (n, v) :: r, m, h => by
    unfold bindC
    rw [bindC_out fun w hw => h w (List.mem_cons_of_mem _ hw)]
    split
    · rfl
    · have : x ≠ n := by rintro rfl; exact h v List.mem_cons_self
      simp [this]
theorem bindL_get {kindOf : Str → Option NameKind} {x : Str} {v : Value} : ∀ {P : List Str} {vs : List Value} {i : Nat} {m : Str → Option Value}, P.Nodup → P[i]? = some x → vs[i]? = some v → kindOf x = some .local →
    bindL kindOf (P.zip vs) m x = some v
  | [], _, _, _, _, h, _, _ => by simp at h
  | _ :: _, [], _, _, _, _, h, _ => by simp at h
  | p :: P, w :: vs, 0, m, nd, h1, h2, hk => by
    simp at h1 h2; subst h1; subst h2
    show bindL kindOf ((p, w) :: P.zip vs) m p = _
    unfold bindL
    rw [bindL_out fun v hv => (List.nodup_cons.mp nd).1 (List.of_mem_zip hv).1, if_pos hk]
    simp
  | p :: P, w :: vs, i + 1, m, nd, h1, h2, hk => by
    show bindL kindOf ((p, w) :: P.zip vs) m x = _
    unfold bindL
    exact bindL_get (i := i) (List.nodup_cons.mp nd).2 (by simpa using h1) (by simpa using h2) hk
theorem bindC_get {kindOf : Str → Option NameKind} {x : Str} {v : Value} : ∀ {P : List Str} {vs : List Value} {i : Nat} {m : Str → Option Value}, P.Nodup → P[i]? = some x → vs[i]? = some v → kindOf x ≠ some .local →
    bindC kindOf (P.zip vs) m x = some v
  | [], _, _, _, _, h, _, _ => by simp at h
  | _ :: _, [], _, _, _, _, h, _ => by simp at h
  | p :: P, w :: vs, 0, m, nd, h1, h2, hk => by
    simp at h1 h2; subst h1; subst h2
    show bindC kindOf ((p, w) :: P.zip vs) m p = _
    unfold bindC
    rw [bindC_out fun v hv => (List.nodup_cons.mp nd).1 (List.of_mem_zip hv).1, if_neg hk]
    simp
  | p :: P, w :: vs, i + 1, m, nd, h1, h2, hk => by
    show bindC kindOf ((p, w) :: P.zip vs) m x = _
    unfold bindC
    exact bindC_get (i := i) (List.nodup_cons.mp nd).2 (by simpa using h1) (by simpa using h2) hk
def start (N : List Str) (vs : List V) : St := vs.map some ++ List.replicate (N.length - vs.length) none
def cxOf (CX : CXT) (P : Program) (w : World) (K : PySem.W.Frag) (mg : Str → Option Value) (base : Heap) (N : List Str) (qual : Str) (scope : Scope) (f : Addr) (cd : Value) (A : Around) (outer : List Env) (s : Shared) (H : Hp) (E : XK) : Cx where
  prog := P
  w := w
  K := K
  mg := mg
  base := base
  A := A.deeper (envOfC qual scope s.heap.objs.size f cd)
  N := N
  s₀ := s
  H₀ := H
  env := envOfC qual scope s.heap.objs.size f cd
  outer := outer
  stack := envOfC qual scope s.heap.objs.size f cd :: outer
  ex := []
  calm := true
  fn := fun _ => true
  pn := []
  xe := fun e s' => wpAny (model P w) (A.deeper (envOfC qual scope s.heap.objs.size f cd)) (leaving (envOfC qual scope s.heap.objs.size f cd) e) (fun _ s'' => CX outer H s E e s'') (fun e' s'' => CX outer H s E e' s'') s'
theorem cell_has {sc : Scope} {n : Nat} {x : Str} (h : sc.names.lookup x = some .cell) : ∃ c, (cellsFrom n sc.names []).lookup x = some c := by
  have q := PySem.W.cellsFrom_some sc.names n [] (.inl h)
  exact Option.isSome_iff_exists.mp q
theorem inv_start {CX : CXT} {P : Program} {w : World} {K : PySem.W.Frag} {mg : Str → Option Value} {base : Heap} {N ps : List Str} {qual : Str} {scope : Scope} {f : Addr} {cd : Value} {A : Around} {outer : List Env} {s s1 : Shared} {H : Hp} {E : XK} {us : List Value} {vs : List V}
    (S : FnScope N ps scope) (hd : A.handled = none) (e0 : Env0 P w K mg base A outer s H) (hl : vs.length = ps.length) (r : Vals vs us)
    (x : InCallC s s.heap.objs.size (bindL (envOfC qual scope s.heap.objs.size f cd).kindOf (ps.zip us) fun _ => none) (cellsFrom (s.heap.objs.size + 1) scope.names []) (bindC (envOfC qual scope s.heap.objs.size f cd).kindOf (ps.zip us) fun _ => none) s1) :
    Inv (cxOf CX P w K mg base N qual scope f cd A outer s H E) [] (start N vs) H s1 := by
  have hpl : ps.length ≤ N.length := by have := congrArg List.length S.pre; rw [List.length_take] at this; omega
  obtain ⟨h1, tk, rfl, hk⟩ := x.done
  have noA : ∀ b : Addr, b ∉ (cxOf CX P w K mg base N qual scope f cd A outer s H E).ex := fun b z => absurd (show b ∈ ([] : List Addr) from z) (by simp)
  refine ⟨⟨e0.mod, S.kind, rfl, rfl, Nat.le_refl _, fun y z c h1 h2 => ?_, fun y hy => ?_, fun y c _ h => ?_, fun _ => hd, Around.frames_deeper e0.frames, .inr ⟨rfl, rfl⟩, fun b z => absurd z (noA b), e0.bs, e0.bsz, fun b _ _ => noA b, fun b z => absurd z (noA b), e0.funs, e0.frf⟩,
    rfl, e0.bare, Un.kept hk, ⟨_, x.toInCall.ns, fun i y v h1 h2 h3 => ?_⟩, fun y c h => ⟨_, x.cell y c h⟩, e0.hok.fresh (Nat.le_refl _), fun y c h => ?_, fun p hp => absurd (show p ∈ ([] : List (Addr × Obj)) from hp) (by simp), e0.hok.kept hk, ?_⟩
  · exact name_of_addr x.apart (PySem.mem_of_lookup h1) (PySem.mem_of_lookup h2)
  · have hy : scope.names.lookup y = some .cell ∨ scope.names.lookup y = some .free := hy
    rcases hy with hy | hy
    · exact cell_has hy
    · exact absurd rfl (S.nofree _ (PySem.mem_of_lookup hy))
  · exact Nat.le_of_lt (x.above y c (PySem.mem_of_lookup h))
  · have hi : i < vs.length := by
      unfold start at h2
      by_cases hi : i < vs.length
      · exact hi
      · rw [List.getElem?_append_right (by simpa using hi)] at h2
        rw [List.getElem?_replicate] at h2
        split at h2 <;> cases h2
    have ha : vs[i]? = some v := by
      unfold start at h2
      rw [List.getElem?_append_left (by simpa using hi), List.getElem?_map] at h2
      cases e : vs[i]? with
      | none => rw [e] at h2; cases h2
      | some a => rw [e] at h2; cases h2; rfl
    obtain ⟨u, hu, rv⟩ := r.get ha
    have hp : ps[i]? = some y := by
      rw [← S.pre, List.getElem?_take_of_lt (by omega)]; exact h1
    have ndP : ps.Nodup := by rw [← S.pre]; exact S.nd.sublist (List.take_sublist _ _)
    refine ⟨u, rv, ?_⟩
    rcases S.par y (List.mem_of_getElem? hp) with k | k
    · exact .inl ⟨k, bindL_get ndP hp hu k⟩
    · obtain ⟨c, e⟩ := cell_has (n := s.heap.objs.size + 1) k
      refine .inr ⟨.inl k, c, e, ?_⟩
      have q := x.cell y c e
      rw [bindC_get ndP hp hu (by show scope.names.lookup y ≠ _; rw [k]; decide)] at q
      exact q
  · exact e0.hok.fresh (Nat.le_of_lt (x.above y c (PySem.mem_of_lookup h)))
  · unfold start
    show _ = N.length
    rw [List.length_append, List.length_map, List.length_replicate]
    omega
theorem fn_of {CX : CXT} {P : Program} {w : World} {K : PySem.W.Frag} {mg : Str → Option Value} {base : Heap} {k : Nat} {f : Addr} {name qual : Str} {params : Arguments} {body : List Stmt} {scope : Scope} {dV kV doc pm cdv ct oc : Value} {an od : Option Addr}
    {osl : Array (Option Value)} {N ps : List Str} {sp : Sp} (lk : K.lookup f = some ⟨oc, od, .func (PySem.W.fnOf name qual params body scope dV kV doc pm an cdv ct), osl⟩) (hcd : PySem.W.codeIn K cdv qual = true) (S : FnScope N ps scope)
    (len : ∀ vs H Q E, sp vs H Q E → vs.length = ps.length)
    (hbody : ∀ (A : Around) (outer : List Env) (s : Shared) (H : Hp) (vs : List V) (Q : VK) (E : XK), Room k (A.deeper (envOfC qual scope s.heap.objs.size f cdv)) → sp vs H Q E →
      ∃ t, PSs (cxOf CX P w K mg base N qual scope f cdv A outer s H E) body t ∧ t { nx := fun _ H' => Q .non H', rt := Q } (start N vs) H) :
    FnOk P w K mg base CX (k + 1) f (PySem.W.fnOf name qual params body scope dV kV doc pm an cdv ct) ps sp := by
  refine ⟨len, fun A outer s H args us vs Q E hr e0 hb r hsp => ?_⟩
  have hl := len _ _ _ _ hsp
  have KX : K.In s.heap := e0.mod.kin.keeps fun b o e => (e0.bs b o e).1
  have lim : s.heap.NoLimit := e0.mod.nolimit.keeps fun b o e => (e0.bs b o e).1
  have hkind : ∀ y ∈ ps.zip us, scope.names.lookup y.1 = some .local ∨ (scope.names.lookup y.1 = some .cell ∧ ((cellsFrom (s.heap.objs.size + 1) scope.names []).lookup y.1).isSome = true) := fun ⟨n, v⟩ hy => by
    rcases S.par n (List.of_mem_zip hy).1 with q | q
    · exact .inl q
    · exact .inr ⟨q, PySem.W.cellsFrom_some _ _ _ (.inl q)⟩
  refine codeAny_call_function hr.depth (KX _ _ lk) rfl S.co S.gen rfl (PySem.W.codeRec_of KX hcd) (hb _ _ _ _ ?_)
  refine wpAny_newFunctionEnv_cells S.kind hkind fun env he s1 x => ?_
  subst he
  refine ⟨lim.keeps x.toInCall.keep, codeAny_func ?_⟩
  obtain ⟨t, ht, hq⟩ := hbody A outer s H vs Q E (hr.deeper _) hsp
  have I : Inv (cxOf CX P w K mg base N qual scope f cdv A outer s H E) [] (start N vs) H s1 := inv_start S hr.hd e0 hl r x
  refine wpAny_mono (ht [] s1 (start N vs) H _ I hq) (fun fl s' hs => ?_) fun e s' hs => hs
  have fin : ∀ {σ' : St} {H' : Hp} {v : V} {u : Value}, Inv (cxOf CX P w K mg base N qual scope f cdv A outer s H E) [] σ' H' s' → RelV v u → Q v H' → CE outer P w H s Q u s' :=
    fun {σ' H' v u} J rv q => ⟨v, H', J.os, J.bare, J.base, J.hok, rv, q⟩
  cases fl with
  | ret u =>
    obtain ⟨v, σ', H', J, rv, q⟩ := hs
    exact fin J rv q
  | next =>
    obtain ⟨σ', H', J, q⟩ := hs
    exact fin (v := V.non) (u := Value.none) J rfl q
  | brk =>
    obtain ⟨_, _, _, q⟩ := hs
    exact False.elim q
  | cont =>
    obtain ⟨_, _, _, q⟩ := hs
    exact False.elim q
end L2
namespace L2
open PySem PySem.Spec PyProof.Rows
section
variable {X : Cx} {x : Str} {p pos : Pos} {e : Expr} {es : List Expr} {t : TA} {id T : String} {r : List V → Hp → VK → Prop}
def tCB (r : List V → Hp → VK → Prop) (t : TA) : TE := fun σ H Q => t σ H fun vs H1 => r vs H1 Q
theorem pe_callB (hc : CallR X (.builtin id) r) (hg : Gl X x) (hm : X.mg x = none) (hv : bootBuiltins x = some (.builtin id)) (ha : PA X (e :: es) t) (hn : x ≠ "__name__" := by decide) (hdb : (x == ("__debug__" : Str)) = false := by decide)
    (he : starEach (e :: es) X.env = (false, eval e X.env) :: starEach es X.env := by rfl) (hpl : (backTo pos (starEach es X.env)).any (·.1) = false := by rfl) : PE X (.Call (.Name x p) (e :: es) [] pos) (tCB r t) := by
  intro pins s σ H Q I h
  refine wpAny_Call_Name_kw (ld_blt I hg hm hv ?_ hn hdb)
  exact PyProof.Rows.callWith_builtin1 (thn (ha pos pins s σ H _ I h) fun us s1 ⟨vs, H1, I1, r1, q1⟩ => hc pins s1 σ H1 vs us Q I1 r1 q1) he hpl
theorem pe_callTy (hc : CallR X (.type T) r) (hg : Gl X x) (hm : X.mg x = none) (hv : bootBuiltins x = some (.type T)) (ha : PA X (e :: es) t) (hn : x ≠ "__name__" := by decide) (hdb : (x == ("__debug__" : Str)) = false := by decide)
    (he : starEach (e :: es) X.env = (false, eval e X.env) :: starEach es X.env := by rfl) (hpl : (backTo pos (starEach es X.env)).any (·.1) = false := by rfl) : PE X (.Call (.Name x p) (e :: es) [] pos) (tCB r t) := by
  intro pins s σ H Q I h
  refine wpAny_Call_Name_kw (ld_blt I hg hm hv ?_ hn hdb)
  exact PyProof.Rows.callWith_type1 (thn (ha pos pins s σ H _ I h) fun us s1 ⟨vs, H1, I1, r1, q1⟩ => hc pins s1 σ H1 vs us Q I1 r1 q1) he hpl
end
end L2
namespace HT
open PySem PyProof.Rows
section
open PySem.SeqAt
open PySem.AutoSeq1 (wpAny_loadPart')
open PySem.MeetsSeq PySem.MeetsSeq2 PySem.MeetsSeq3
end
section
variable {prog : Program} {w : World} {A : Around} {E : Value → Shared → Prop} {s : Shared}
end
end HT
namespace L2
open PySem PySem.Spec PyProof.Rows
abbrev TO := St → Hp → (Option Int → Hp → Prop) → Prop
def PO (X : Cx) (e : Option Expr) (t : TO) : Prop :=
  ∀ (pins : List (Addr × Obj)) (s : Shared) (σ : St) (H : Hp) (Q : Option Int → Hp → Prop), Inv X pins σ H s → t σ H Q →
    wpAny (model X.prog X.w) X.A (evalPart e X.env) (fun u s' => ∃ o H', Inv X pins σ H' s' ∧ IsPart u o ∧ Q o H') X.xe s
section
variable {X : Cx} {e : Expr} {te : TE} {lo hi : Option Expr} {tl th : TO} {pos p2 : Pos}
end
end L2
namespace L2
open PySem PySem.Spec PyProof.Rows
def ixN (n : Nat) (i : Int) : Option Nat := if 0 ≤ i then (if i < n then some i.toNat else none) else if -(n : Int) ≤ i then some (i + n).toNat else none
def atI {α : Type} (xs : List α) (i : Int) : Option α := (ixN xs.length i).bind fun j => xs[j]?
theorem ixN_seq {n : Nat} {i : Int} {j : Nat} (h : ixN n i = some j) : seqIndex? i n = some j ∧ j < n ∧ -(n : Int) ≤ i ∧ i < n := by
  unfold ixN at h
  by_cases h0 : 0 ≤ i
  · rw [if_pos h0] at h
    by_cases h1 : i < n
    · rw [if_pos h1] at h
      have e : i.toNat = j := Option.some.inj h
      exact ⟨by rw [seqIndex_of h0 h1, e], by omega, by omega, h1⟩
    · rw [if_neg h1] at h; cases h
  · rw [if_neg h0] at h
    by_cases h1 : -(n : Int) ≤ i
    · rw [if_pos h1] at h
      have e : (i + n).toNat = j := Option.some.inj h
      exact ⟨by rw [seqIndex_neg (by omega) h1, e], by omega, h1, by omega⟩
    · rw [if_neg h1] at h; cases h
theorem atI_get {α : Type} {xs : List α} {i : Int} {v : α} (h : atI xs i = some v) : ∃ j, seqIndex? i xs.length = some j ∧ xs[j]? = some v ∧ j < xs.length ∧ -(xs.length : Int) ≤ i ∧ i < xs.length := by
  unfold atI at h
  cases e : ixN xs.length i with
  | none => rw [e] at h; cases h
  | some j =>
    rw [e] at h
    obtain ⟨h1, h2, h3, h4⟩ := ixN_seq e
    exact ⟨j, h1, h, h2, h3, h4⟩
theorem atI_nat {α : Type} {xs : List α} {j : Nat} {v : α} (h : xs[j]? = some v) : atI xs (j : Int) = some v := by
  have hj : j < xs.length := (List.getElem?_eq_some_iff.mp h).1
  have e : ixN xs.length (j : Int) = some j := by
    unfold ixN
    rw [if_pos (by omega), if_pos (by omega)]; simp
  unfold atI; rw [e]; exact h
def PlainIx (b : Expr) : Prop := ∀ o i, subscripted b false o i = operate [o, i] (getItem o i)
def IxR (X : Cx) (r : R2) : Prop :=
  ∀ (value slice : Expr) (pins : List (Addr × Obj)) (s : Shared) (σ : St) (H : Hp) (x y : V) (v u : Value) (Q : VK), Inv X pins σ H s → RelV x v → RelV y u → r x y H Q →
    subscripted slice false v u = operate [v, u] (getItem v u) → wpAny (model X.prog X.w) X.A (subscriptTail value slice v u) (EP X pins σ Q) X.xe s
def MtR (X : Cx) (id : String) (r : V → List V → Hp → VK → Prop) : Prop :=
  ∀ (pins : List (Addr × Obj)) (s : Shared) (σ : St) (H : Hp) (x : V) (xs : List V) (v : Value) (us : List Value) (Q : VK), Inv X pins σ H s → RelV x v → Vals xs us → r x xs H Q →
    wpAny (model X.prog X.w) X.A (call (.builtin id) (v :: us)) (EP X pins σ Q) X.xe s
section
variable {X : Cx} {a b : Expr} {ta tb : TE} {pos : Pos}
theorem pe_ix {r : R2} (hr : IxR X r) (ha : PE X a ta) (hb : PE X b tb) (hs : PlainIx b) : PE X (.Subscript a b pos) (tOp r ta tb) := by
  intro pins s σ H Q I h
  exact Subscript_ (binT ha hb I h fun v u s2 x y H2 I2 rx ry q => hr a b pins s2 σ H2 x y v u Q I2 rx ry q (hs _ _))
def rIxL (K : PySem.W.Frag) : R2 := fun x y H Q => ∃ p xs i v, x = .ref p ∧ y = .int i ∧ SqL K H p xs ∧ atI xs i = some v ∧ Q v H
theorem ix_list : IxR X (rIxL X.K) := by
  intro value slice pins s σ H x y v u Q I rx ry h hs
  obtain ⟨p, xs, i, z, rfl, rfl, hq, he, q⟩ := h
  cases rx
  obtain ⟨t, rfl⟩ := ry
  obtain ⟨its, r, pl, hz⟩ := I.list hq
  obtain ⟨j, h1, h2, h3, h4, h5⟩ := atI_get he
  obtain ⟨w, ew, rw'⟩ := r.get h2
  have hl := r.length
  have hn := line63
  have fin : EP X pins σ Q w s := ⟨z, H, I, rw', q⟩
  by_cases h0 : 0 ≤ i
  · have hj : i.toNat = j := by
      rw [seqIndex_of h0 h5] at h1
      exact Option.some.inj h1
    exact item_listR pl.isList h0 (by omega) (by rw [hj]; simpa using ew) fin hs
  · have hj : (i + (its.toArray.size : Int)).toNat = j := by
      rw [seqIndex_neg (by omega) h4] at h1
      rw [List.size_toArray, ← hl]
      exact Option.some.inj h1
    exact subscriptTail_builtinR (x := w) pl.isList.typeIs slot_list_getitem.lookup
      (wpAny_getItem_list_neg (Q := fun r s' => r = w ∧ EP X pins σ Q r s') pl.isList (by omega) (by rw [List.size_toArray] <;> omega) (by omega) (by rw [hj]; simpa using ew) ⟨rfl, fin⟩) hs
theorem mapSeq_set (its : List Value) (n j : Nat) (u : Value) : Obj.mapSeq (·.setIfInBounds j u) { cls := .type "list", data := .seq its.toArray n } = { cls := .type "list", data := .seq (its.set j u).toArray n } := by
  simp [Obj.mapSeq]
theorem Inv.lst {pins : List (Addr × Obj)} {σ : St} {H : Hp} {s : Shared} {p : Addr} {xs : List V} (I : Inv X pins σ H s) (h : H p = some (.lst xs)) :
    ∃ (its : List Value) (n : Nat), Vals xs its ∧ s.heap.get? p = some { cls := .type "list", data := .seq its.toArray n } ∧ xs.length ≤ sizeLine := by
  obtain ⟨z, its, n, r, e⟩ := I.hok p _ h
  exact ⟨its, n, r, e, z⟩
theorem Inv.lstUpd {pins : List (Addr × Obj)} {σ : St} {H : Hp} {s : Shared} {p : Addr} {xs ys : List V} {its its' : List Value} {n n' : Nat} {f : Obj → Obj} (I : Inv X pins σ H s) (h : H p = some (.lst xs))
    (ho : s.heap.get? p = some { cls := .type "list", data := .seq its.toArray n }) (hf : f { cls := .type "list", data := .seq its.toArray n } = { cls := .type "list", data := .seq its'.toArray n' }) (r : Vals ys its') (hz : ys.length ≤ sizeLine) (t : Nat) :
    Inv X pins σ (upd H p (.lst ys)) { s with heap := s.heap.update p f, toks := t } := by
  have e : (s.heap.update p f).get? p = some { cls := .type "list", data := .seq its'.toArray n' } := by
    rw [Heap.get?_update_self f ho (by rw [hf] <;> rfl), hf]
  refine I.write (x := p) (e := p) (by rw [h]; trivial) (.inl rfl) (fun b u hb q => (Heap.get?_update_other _ _ (Ne.symm hb)).trans q) ⟨_, e⟩ ?_
  exact ⟨hz, its', n', r, e⟩
def rSetL : V → V → V → Hp → (Hp → Prop) → Prop := fun o i v H Q => ∃ p xs k j, o = .ref p ∧ i = .int k ∧ H p = some (.lst xs) ∧ ixN xs.length k = some j ∧ Q (upd H p (.lst (xs.set j v)))
theorem set_list : PSet X rSetL := by
  intro pins s σ H o i v ov iv u Q I ro ri rv h
  obtain ⟨p, xs, k, j, rfl, rfl, hp, hj, q⟩ := h
  cases ro
  obtain ⟨t, rfl⟩ := ri
  obtain ⟨its, n, r, ho, hz⟩ := I.lst hp
  obtain ⟨h1, h2, h3, h4⟩ := ixN_seq hj
  have hl := r.length
  have hn := line63
  have I' : Inv X pins σ (upd H p (.lst (xs.set j v))) { s with heap := s.heap.update p (Obj.mapSeq (·.setIfInBounds j u)) } :=
    I.lstUpd hp ho (mapSeq_set its n j u) (r.set rv j) (by rw [List.length_set]; exact hz) s.toks
  by_cases h0 : 0 ≤ k
  · have hk : k.toNat = j := by
      rw [seqIndex_of h0 h4] at h1
      exact Option.some.inj h1
    exact PySem.W.ki_setAt ho h0 (by omega) (by rw [List.size_toArray, ← hl]; exact h4) (by rw [hk]; exact ⟨_, I', q⟩)
  · have hk : (k + (its.toArray.size : Int)).toNat = j := by
      rw [seqIndex_neg (by omega) h3] at h1
      rw [List.size_toArray, ← hl]
      exact Option.some.inj h1
    exact PySem.W.ki_setBack ho (by omega) (by rw [List.size_toArray, ← hl]; exact h3) (by omega) (by rw [hk]; exact ⟨_, I', q⟩)
def flatV : V → Bool
  | .non => true
  | .bl _ => true
  | .int _ => true
  | .str _ => true
  | _ => false
def eqV : V → V → Bool
  | .non, .non => true
  | .bl a, .bl b => a == b
  | .bl a, .int b => (if a then 1 else 0) == b
  | .int a, .bl b => a == (if b then 1 else 0)
  | .int a, .int b => a == b
  | .str a, .str b => a == b
  | _, _ => false
theorem eqAt_V {A : Around} {s : Shared} {y x : V} {u v : Value} (ry : RelV y u) (rx : RelV x v) (fy : flatV y = true) (fx : flatV x = true) : SeqAt.EqAt A s u v (eqV y x) := by
  cases y with
  | non =>
    cases ry
    cases x with
    | non => cases rx; exact SeqAt.EqAt.same _
    | bl b => cases rx; exact SeqAt.EqAt.none_bool b
    | int b => obtain ⟨t, rfl⟩ := rx; exact SeqAt.EqAt.none_int b t
    | str b => obtain ⟨t, rfl⟩ := rx; exact SeqAt.EqAt.none_str b t
    | _ => exact absurd (show false = true from fx) Bool.false_ne_true
  | bl a =>
    cases ry
    cases x with
    | non => cases rx; exact SeqAt.EqAt.bool_none a
    | bl b => cases rx; exact SeqAt.EqAt.bool_bool a b
    | int b => obtain ⟨t, rfl⟩ := rx; exact SeqAt.EqAt.bool_int a b t
    | str b => obtain ⟨t, rfl⟩ := rx; exact SeqAt.EqAt.bool_str a b t
    | _ => exact absurd (show false = true from fx) Bool.false_ne_true
  | int a =>
    obtain ⟨t', rfl⟩ := ry
    cases x with
    | non => cases rx; exact SeqAt.EqAt.int_none a t'
    | bl b => cases rx; exact SeqAt.EqAt.int_bool a t' b
    | int b => obtain ⟨t, rfl⟩ := rx; exact SeqAt.EqAt.int_int a t' b t
    | str b => obtain ⟨t, rfl⟩ := rx; exact SeqAt.EqAt.int_str a t' b t
    | _ => exact absurd (show false = true from fx) Bool.false_ne_true
  | str a =>
    obtain ⟨t', rfl⟩ := ry
    cases x with
    | non => cases rx; exact SeqAt.EqAt.str_none a t'
    | bl b => cases rx; exact SeqAt.EqAt.str_bool a t' b
    | int b => obtain ⟨t, rfl⟩ := rx; exact SeqAt.EqAt.str_int a t' b t
    | str b => obtain ⟨t, rfl⟩ := rx; exact SeqAt.EqAt.str_str a t' b t
    | _ => exact absurd (show false = true from fx) Bool.false_ne_true
  | _ => exact absurd (show false = true from fy) Bool.false_ne_true
def eqU (x : V) (u : Value) : Bool := match u with
  | .none => eqV .non x
  | .bool b => eqV (.bl b) x
  | .int i _ => eqV (.int i) x
  | .str z _ => eqV (.str z) x
  | _ => false
theorem eqU_of {x y : V} {u : Value} (r : RelV y u) (f : flatV y = true) : eqU x u = eqV y x := by
  cases y with
  | non => cases r; rfl
  | bl b => cases r; rfl
  | int i => obtain ⟨t, rfl⟩ := r; rfl
  | str z => obtain ⟨t, rfl⟩ := r; rfl
  | _ => exact absurd (show false = true from f) Bool.false_ne_true
theorem any_eqU {x : V} : ∀ {xs : List V} {us : List Value}, Vals xs us → xs.all flatV = true → us.any (eqU x) = xs.any fun y => eqV y x
  | _, _, .nil, _ => rfl
  | y :: xs, u :: us, .cons r t, f => by
    rw [List.all_cons, Bool.and_eq_true] at f
    rw [List.any_cons, List.any_cons, eqU_of r f.1, any_eqU t f.2]
theorem mem_eqAt {A : Around} {s : Shared} {x : V} {v : Value} (rx : RelV x v) (fx : flatV x = true) : ∀ {xs : List V} {us : List Value}, Vals xs us → xs.all flatV = true → ∀ u ∈ us, SeqAt.EqAt A s u v (eqU x u)
  | _, _, .nil, _ => fun u hu => by cases hu
  | y :: xs, u :: us, .cons r t, f => fun u' hu => by
    rw [List.all_cons, Bool.and_eq_true] at f
    rcases List.mem_cons.mp hu with rfl | hu
    · rw [eqU_of r f.1]; exact eqAt_V r rx f.1 fx
    · exact mem_eqAt rx fx t f.2 u' hu
def inV (x : V) (xs : List V) : Bool := xs.any fun y => eqV y x
def rIn (K : PySem.W.Frag) (neg : Bool) : R2 := fun x y H Q => ∃ p xs, y = .ref p ∧ (SqL K H p xs ∨ SqT K H p xs) ∧ flatV x = true ∧ xs.all flatV = true ∧ Q (.bl (if neg then !inV x xs else inV x xs)) H
theorem op_notIn_seq : OpR X (compareOp .NotIn) (rIn X.K true) := by
  intro pins s σ H x y v u Q I rx ry h
  obtain ⟨p, xs, rfl, hq, fx, fs, q⟩ := h
  cases ry
  rcases hq with hq | hq
  · obtain ⟨its, r, pl, hz⟩ := I.list hq
    refine SeqAt.notIn_listAt (eqU x) pl.isList (fun w hw => mem_eqAt rx fx r fs w (by simpa using hw)) ⟨.bl _, H, I, rfl, ?_⟩
    rw [show its.toArray.any (eqU x) = its.any (eqU x) by simp, any_eqU r fs]
    exact q
  · obtain ⟨its, r, pl, hz⟩ := I.tuple hq
    refine SeqAt.notIn_tupleAt (eqU x) pl (fun w hw => mem_eqAt rx fx r fs w (by simpa using hw)) ⟨.bl _, H, I, rfl, ?_⟩
    rw [show its.toArray.any (eqU x) = its.any (eqU x) by simp, any_eqU r fs]
    exact q
theorem call_len_seq : CallR X (.builtin "len") (fun xs H Q => ∃ p ys, xs = [.ref p] ∧ (SqL X.K H p ys ∨ SqT X.K H p ys) ∧ Q (.int ys.length) H) := by
  intro pins s σ H xs us Q I r h
  obtain ⟨p, ys, rfl, hq, q⟩ := h
  obtain ⟨u, rfl, rx⟩ := vals1 r
  cases rx
  have hn := line63
  rcases hq with hq | hq
  · obtain ⟨its, r', pl, hz⟩ := I.list hq
    have hlen := r'.length
    exact Calls.call_len_list pl.isList (by simp only [List.size_toArray] <;> omega) ⟨.int ys.length, H, I.tok _, ⟨s.toks + 1, by rw [List.size_toArray, hlen]⟩, q⟩
  · obtain ⟨its, r', pl, hz⟩ := I.tuple hq
    have hlen := r'.length
    exact len_tuple pl (by simp only [List.size_toArray] <;> omega) ⟨.int ys.length, H, I.tok _, ⟨s.toks + 1, by rw [List.size_toArray, hlen]⟩, q⟩
theorem call_list_of : CallR X (.type "list") (fun xs H Q => ∃ p ys, xs = [.ref p] ∧ (SqL X.K H p ys ∨ SqT X.K H p ys) ∧ ∀ l, H l = none → Q (.ref l) (upd H l (.lst ys))) := by
  intro pins s σ H xs us Q I r h
  obtain ⟨p, ys, rfl, hq, q⟩ := h
  obtain ⟨u, rfl, rx⟩ := vals1 r
  cases rx
  have fin : ∀ (its : List Value), Vals ys its → ys.length ≤ sizeLine → ∀ (h' : Heap) (c' : Nat), (∀ b o', s.heap.get? b = some o' → h'.get? b = some o') →
      h'.get? s.heap.objs.size = some { cls := .type "list", dict := none, data := .seq its.toArray c', slots := #[] } → EP X pins σ Q (.ref s.heap.objs.size) { s with heap := h' } := fun its r' hz h' c' kp e =>
    ⟨.ref s.heap.objs.size, _, I.laid (t' := s.toks) kp (Nat.le_refl _) (show ObjOk X.prog X.w _ h' _ (.lst ys) from ⟨hz, its, c', r', e⟩), rfl, q _ (I.hok.fresh (Nat.le_refl _))⟩
  rcases hq with hq | hq
  · obtain ⟨its, r', pl, hz⟩ := I.list hq
    have hlen := r'.length
    obtain ⟨o, ho, hc, n, hd⟩ := pl.isList
    exact call_list_seq p (.inl rfl) ho hc hd (fun h' c' kp e => fin its r' hz h' c' kp e) (by simp only [List.size_toArray] <;> omega)
  · obtain ⟨its, r', pl, hz⟩ := I.tuple hq
    have hlen := r'.length
    obtain ⟨o, ho, hc, n, hd⟩ := pl
    exact call_list_seq p (.inr rfl) ho hc hd (fun h' c' kp e => fin its r' hz h' c' kp e) (by simp only [List.size_toArray] <;> omega)
def tyV (K : PySem.W.Frag) (T : String) (x : V) (H : Hp) : Prop := match x with
  | .str _ => T = "str"
  | .int _ => T = "int"
  | .ref p => (T = "list" ∧ ∃ xs, SqL K H p xs) ∨ (T = "tuple" ∧ ∃ o, K.lookup p = some o ∧ o.cls = .type "tuple" ∧ o.dict = none) ∨
      (T = "dict" ∧ ((∃ kvs, H p = some (.dK kvs)) ∨ ∃ kvs, H p = some (.dT kvs))) ∨ (T = "set" ∧ ∃ S n, H p = some (.set S n))
  | _ => False
theorem tyV_is {pins : List (Addr × Obj)} {σ : St} {H : Hp} {s : Shared} {T : String} {x : V} {v : Value} (I : Inv X pins σ H s) (r : RelV x v) (ty : tyV X.K T x H) :
    s.TypeIs v T ∧ ∀ a, v = .ref a → ∃ ob, s.heap.get? a = some ob ∧ ob.dict = none := by
  cases x with
  | str z =>
    obtain ⟨t, rfl⟩ := r
    cases (show T = "str" from ty)
    exact ⟨typeIs_str s z t, fun _ e => nomatch e⟩
  | int i =>
    obtain ⟨t, rfl⟩ := r
    cases (show T = "int" from ty)
    exact ⟨typeIs_int s i t, fun _ e => nomatch e⟩
  | ref p =>
    cases r
    rcases ty with ⟨rfl, xs, hq⟩ | ⟨rfl, o, hk, hc, hd⟩ | ⟨rfl, hk⟩ | ⟨rfl, S, n, hk⟩
    · obtain ⟨its, _, pl, _⟩ := I.list hq
      refine ⟨pl.isList.typeIs, fun a e => ?_⟩
      cases e
      obtain ⟨o, n, e, c, hd, _⟩ := pl
      exact ⟨o, e, hd⟩
    · refine ⟨⟨o, I.kIn p o hk, hc⟩, fun a e => ?_⟩
      cases e
      exact ⟨o, I.kIn _ o hk, hd⟩
    · have z : ∃ o, s.heap.get? p = some o ∧ o.ExactDict := by
        rcases hk with ⟨kvs, hk⟩ | ⟨kvs, hk⟩
        · obtain ⟨_, _, _, _, o, _, _, e, ex, _⟩ := I.hok p _ hk
          exact ⟨o, e, ex⟩
        · obtain ⟨_, _, _, _, o, _, _, e, ex, _⟩ := I.hok p _ hk
          exact ⟨o, e, ex⟩
      obtain ⟨o, e, ex⟩ := z
      refine ⟨⟨o, e, ex.1⟩, fun a e2 => ?_⟩
      cases e2
      exact ⟨o, e, ex.2.1⟩
    · obtain ⟨o, _, _, _, e, ex, _⟩ := I.hok p _ hk
      refine ⟨⟨o, e, ex.1⟩, fun a e2 => ?_⟩
      cases e2
      exact ⟨o, e, ex.2.1⟩
  | _ => exact False.elim ty
def tBM (K : PySem.W.Frag) (T : String) (r : V → List V → Hp → VK → Prop) (to : TE) (t : TA) : TE := fun σ H Q => to σ H fun x H1 => tyV K T x H1 ∧ t σ H1 fun xs H2 => r x xs H2 Q
variable {o e : Expr} {es : List Expr} {to : TE} {t : TA} {name : Str} {apos cpos : Pos} {T id : String} {r : V → List V → Hp → VK → Prop}
theorem pe_bm (pa : PlainAttrs T) (slot : Slot T name id) (hty : typeOf (.builtin id) = pure (.type "method_descriptor")) (hm : MtR X id r) (ho : PE X o to) (ha : PA X (e :: es) t)
    (hbase : attributeBase o name X.env (eval o X.env) = eval o X.env := by rfl)
    (hfew : ((backTo cpos (starEach (e :: es) X.env)).all (fun x => !x.1) && (backToKw cpos (keywordEach [] X.env)).all (fun x => x.1.isSome)
      && decide ((e :: es).length + ([] : List Keyword).length + (if ([] : List Keyword).isEmpty then 0 else 1) < 30)) = true := by rfl)
    (hline : (apos.endLine == cpos.line) = true := by rfl) (hs : starEach (e :: es) X.env = (false, eval e X.env) :: starEach es X.env := by rfl) (hplain : (backTo cpos (starEach es X.env)).any (·.1) = false := by rfl) :
    PE X (.Call (.Attribute o name apos) (e :: es) [] cpos) (tBM X.K T r to t) := by
  intro pins s σ H Q I h
  refine wpAny_Call_method_late hbase hfew hline rfl (thn (ho pins s σ H _ I h) fun v s1 ⟨x, H1, I1, r1, ty, q1⟩ => ?_)
  obtain ⟨h1, h2⟩ := tyV_is I1 r1 ty
  refine ⟨T, id, pa, slot, hty, h1, h2, ?_⟩
  have hA := ha cpos pins s1 σ H1 _ I1 q1
  rw [hs] at hA ⊢
  refine Calls.callWith_builtin (by show (false || (backTo cpos (starEach es X.env)).any (·.1)) = false; rw [hplain] <;> rfl) (Calls.evalArgs_plain ?_)
  exact thn hA fun us s2 ⟨vs, H2, I2, r2, q2⟩ => hm pins s2 σ H2 x vs v us Q I2 r1 r2 q2
end
end L2
namespace L2
open PySem PySem.Spec PyProof.Rows
def MtM (X : Cx) (id : String) (r : V → List V → Hp → VK → Prop) : Prop :=
  ∀ (pins : List (Addr × Obj)) (s : Shared) (σ : St) (H : Hp) (x : V) (xs : List V) (v : Value) (us : List Value) (Q : VK), Inv X pins σ H s → RelV x v → Vals xs us → r x xs H Q →
    wpAny (model X.prog X.w) X.A (call (.builtin id) (v :: us)) (EP X pins σ Q) X.xe s
theorem Vals.one : ∀ {x : V} {us : List Value}, Vals [x] us → ∃ u, us = [u] ∧ RelV x u
  | _, _, .cons r .nil => ⟨_, rfl, r⟩
theorem Vals.two : ∀ {x y : V} {us : List Value}, Vals [x, y] us → ∃ u v, us = [u, v] ∧ RelV x u ∧ RelV y v
  | _, _, _, .cons r (.cons q .nil) => ⟨_, _, rfl, r, q⟩
theorem Vals.zero : ∀ {us : List Value}, Vals [] us → us = []
  | _, .nil => rfl
theorem Vals.rep {xs : List V} {us : List Value} (h : Vals xs us) : ∀ k : Nat, Vals (List.replicate k xs).flatten (List.replicate k us).flatten
  | 0 => .nil
  | k + 1 => by
    rw [List.replicate_succ, List.replicate_succ, List.flatten_cons, List.flatten_cons]
    exact Vals.append h (Vals.rep h k)
theorem foldl_rep (its : List Value) : ∀ (k : Nat) (acc : List Value),
    List.foldl (fun x1 x2 => x1 ++ x2) acc.toArray (List.replicate k its.toArray) = (acc ++ (List.replicate k its).flatten).toArray
  | 0, acc => by simp
  | k + 1, acc => by
    have e : acc.toArray ++ its.toArray = (acc ++ its).toArray := by simp
    have e2 : (acc ++ its) ++ (List.replicate k its).flatten = acc ++ (List.replicate (k + 1) its).flatten := by
      rw [List.replicate_succ, List.flatten_cons, List.append_assoc]
    rw [← e2, ← foldl_rep its k (acc ++ its), ← e, List.replicate_succ, List.foldl_cons]
section
variable {X : Cx} {pins : List (Addr × Obj)} {σ : St} {H : Hp} {s : Shared} {l b : Addr} {xs ys zs : List V}
theorem Inv.lset {its its' : List Value} {n : Nat} {f : Array Value → Array Value} {t' : Nat} (I : Inv X pins σ H s) (hH : H l = some (.lst xs))
    (e : s.heap.get? l = some { cls := .type "list", data := .seq its.toArray n }) (hf : f its.toArray = its'.toArray) (hv : Vals ys its') (hz : ys.length ≤ sizeLine) :
    Inv X pins σ (upd H l (.lst ys)) { s with heap := s.heap.update l (Obj.mapSeq f), toks := t' } := by
  have q := PySem.IsL.update e f
  rw [hf] at q
  refine I.write (x := l) (e := l) (by rw [hH]; exact trivial) (.inl rfl) (fun b' u hb hu => (Heap.get?_update_other s.heap (Obj.mapSeq f) (Ne.symm hb)).trans hu) ⟨_, q⟩ ?_
  exact ⟨hz, its', _, hv, q⟩
theorem Inv.lnew {its : List Value} {t' : Nat} (I : Inv X pins σ H s) (hv : Vals ys its) (hz : ys.length ≤ sizeLine) :
    Inv X pins σ (upd H s.heap.objs.size (.lst ys)) { s with heap := s.heap.push { cls := .type "list", data := .seq its.toArray }, toks := t' } :=
  I.laid (fun _ _ q => Heap.get?_push_of_some _ q) (Nat.le_refl _) ⟨hz, its, 0, hv, Heap.get?_push_size _ rfl⟩
theorem Inv.fresh (I : Inv X pins σ H s) : H s.heap.objs.size = none := I.hok.fresh (Nat.le_refl _)
theorem Inv.lstM (I : Inv X pins σ H s) (hH : H l = some (.lst xs)) : xs.length ≤ sizeLine ∧ ∃ (its : List Value) (n : Nat), Vals xs its ∧ xs.length = its.length ∧ s.heap.get? l = some { cls := .type "list", data := .seq its.toArray n } := by
  obtain ⟨z, its, n, r, e⟩ := I.hok l _ hH
  exact ⟨z, its, n, r, r.length, e⟩
theorem notLongL {n : Nat} (h : n ≤ sizeLine) : Builtin.List.listTooLong n = false := by
  unfold Builtin.List.listTooLong
  exact decide_eq_false (by omega)
end
section
variable {X : Cx}
def rAppend : V → List V → Hp → VK → Prop := fun x vs H Q => ∃ l xs y, x = .ref l ∧ vs = [y] ∧ H l = some (.lst xs) ∧ xs.length < sizeLine ∧ Q .non (upd H l (.lst (xs ++ [y])))
theorem mt_append : MtM X "list.append" rAppend := by
  intro pins s σ H x vs v us Q I rx rv h
  obtain ⟨l, xs, y, rfl, rfl, hH, hz, q⟩ := h
  cases rx
  obtain ⟨u, rfl, ru⟩ := rv.one
  obtain ⟨z, its, n, r, hl, e⟩ := I.lstM hH
  refine call_meets F.slot_list_append ⟨_, e, rfl⟩ F.entry_list_append (F.args_list_append_2 _ _) (PySem.list_append l its.toArray n u (by rw [List.size_toArray]; omega)) ⟨e, ?_⟩
  refine ⟨.non, _, I.lset (its' := its ++ [u]) hH e (by simp) (r.append (.cons ru .nil)) ?_, rfl, q⟩
  rw [List.length_append, List.length_singleton]
  omega
def rCat : R2 := fun x y H Q => ∃ l b xs zs, x = .ref l ∧ y = .ref b ∧ H l = some (.lst xs) ∧ H b = some (.lst zs) ∧ xs.length + zs.length ≤ sizeLine ∧ ∀ p, H p = none → Q (.ref p) (upd H p (.lst (xs ++ zs)))
theorem op_cat : OpR X (binaryOp .Add) rCat := by
  intro pins s σ H x y v u Q I rx ry h
  obtain ⟨l, b, xs, zs, rfl, rfl, hH, hB, hz, q⟩ := h
  cases rx
  cases ry
  obtain ⟨z, its, n, r, hl, e⟩ := I.lstM hH
  obtain ⟨z2, its2, n2, r2, hl2, e2⟩ := I.lstM hB
  refine PySem.P.add_list e e2 ?_ (by rw [List.size_toArray, List.size_toArray]; omega)
  have ea : its.toArray ++ its2.toArray = (its ++ its2).toArray := by simp
  rw [ea]
  exact ⟨.ref _, _, I.lnew (t' := s.toks) (r.append r2) (by rw [List.length_append]; omega), rfl, q _ I.fresh⟩
def rRep : R2 := fun x y H Q => ∃ l k xs, x = .ref l ∧ y = .int k ∧ H l = some (.lst xs) ∧ -(2 ^ 63) ≤ k ∧ k < 2 ^ 63 ∧ xs.length * k.toNat ≤ sizeLine ∧
  ∀ p, H p = none → Q (.ref p) (upd H p (.lst (List.replicate k.toNat xs).flatten))
theorem len_rep {α : Type} (xs : List α) (k : Nat) : (List.replicate k xs).flatten.length = k * xs.length := by
  induction k with
  | zero => simp
  | succ k ih => rw [List.replicate_succ, List.flatten_cons, List.length_append, ih, Nat.succ_mul, Nat.add_comm]
theorem op_rep : OpR X (binaryOp .Mult) rRep := by
  intro pins s σ H x y v u Q I rx ry h
  obtain ⟨l, k, xs, rfl, rfl, hH, h1, h2, hz, q⟩ := h
  cases rx
  obtain ⟨t, rfl⟩ := ry
  obtain ⟨z, its, n, r, hl, e⟩ := I.lstM hH
  have hlen : its.toArray.size * k.toNat ≤ sizeLine := by rw [List.size_toArray, ← hl]; exact hz
  have hcap : ¬ its.toArray.size * k.toNat > (2 ^ 63 - 1) / 8 := by
    have : (sizeLine : Nat) ≤ (2 ^ 63 - 1) / 8 := by decide
    omega
  have hfit : ¬ (!Builtin.List.listFitsIndex k) = true := by
    rw [fitsIndex_both h1 h2]
    exact Bool.false_ne_true
  have hlong : ¬ Builtin.List.listTooLong (its.toArray.size * k.toNat) = true := by
    rw [notLongL hlen]
    exact Bool.false_ne_true
  have hnew : List.foldl (fun x1 x2 => x1 ++ x2) #[] (List.replicate (if its.toArray.isEmpty = true then 0 else k.toNat) its.toArray) = (List.replicate k.toNat its).flatten.toArray := by
    have f0 : ∀ m : Nat, List.foldl (fun x1 x2 => x1 ++ x2) #[] (List.replicate m its.toArray) = (List.replicate m its).flatten.toArray := fun m => by
      have := foldl_rep its m []
      rw [List.nil_append] at this
      exact this
    rw [f0]
    cases its with
    | nil => simp
    | cons a r' => rw [if_neg (by simp)]
  refine wpAny_binaryOp_repeat_ref (T := "list") (U := "int") (by decide) ⟨_, e, rfl⟩ (fun s' => typeIs_int s' k t) noFill_list_mul F.fills_int_mul F.slot_int_rmul repeat_list F.slot_int_index.lookup
    (call_meets F.slot_int_rmul (typeIs_int s k t) F.entry_int_rmul (F.args_int_rmul_2 _ _) (int___rmul___int_list k t l its.toArray n)
      ⟨e, rfl, ⟨_, e, rfl⟩, call_meets F.slot_list_mul ⟨_, e, rfl⟩ F.entry_list_mul (F.args_list_mul_2 _ _) (AutoListH.list___mul___list_int_3 l its.toArray n k t hfit hcap hlong) ⟨e, ?_⟩⟩)
  rw [hnew]
  exact ⟨.ref _, _, I.lnew (t' := s.toks) (r.rep k.toNat) (by rw [len_rep, Nat.mul_comm]; exact hz), rfl, q _ I.fresh⟩
end
section
variable {prog : Program} {w : World} {A : Around} {E : Value → Shared → Prop} {s : Shared}
end
section
variable {X : Cx}
end
end L2
namespace Att
open PySem PySem.W PySem.Calls PyProof.Rows
theorem ints_of_wellAll {P : Params} {h : Heap} : ∀ (ns : List Int) (vs : List Value), WellAll P h vs (ns.map WData.int) → IntsAre vs ns := by
  intro ns
  induction ns with
  | nil =>
    intro vs w
    rw [List.map_nil] at w
    cases w
    exact .nil
  | cons n ns ih =>
    intro vs w
    rw [List.map_cons] at w
    cases w with
    | cons a b =>
      cases a
      exact .cons _ _ (ih _ b)
theorem script_of {l : OpenLaw} {n : Nat} (hn : l.most = some n) {P : Params} {h : Heap} {args : List WData} {vals : List Value}
    (hpre : l.row.toRowW.claim.pre args = true) (hwl : WellAll P h vals args) :
    ∃ a vs ns, vals = [Value.ref a] ∧ args = [WData.list (ns.map WData.int)] ∧ h.get? a = some { cls := .type "list", data := .seq vs.toArray } ∧ IntsAre vs ns ∧ ns.length ≤ n := by
  have hsh : WShape.hasAll [] args [.list .int] = true := (pre_splitW hpre).1
  have hc : l.pre.holds [] { args := args } = true := (pre_splitW hpre).2
  obtain ⟨d, r, rfl, h1, h2⟩ := hasAllW_cons hsh
  obtain rfl := hasAllW_nil h2
  obtain ⟨xs, rfl, h3⟩ := hasW_list h1
  obtain ⟨ns, rfl⟩ := items_int h3
  have hlen : ns.length ≤ n := by
    unfold OpenLaw.pre at hc
    have h4 : (WTm.not (.lt (.lit (.int (n : Int))) (.len (.arg 0)))).holds [] { args := [.list (ns.map .int)] } = true := by
      have h4 := (holds_andW hc).1
      rw [hn] at h4
      exact h4
    have h5 := condW_of h4 (w_not (w_lt w_lit (w_len_list (w_arg rfl))))
    rw [List.length_map] at h5
    refine Nat.le_of_not_lt fun q => ?_
    have q' : (n : Int) < ((ns.length : Nat) : Int) := by omega
    first
      | (rw [decide_eq_true q'] at h5; exact absurd h5 (by decide))
      | (simp at h5; omega)
  cases hwl with
  | cons w1 w2 =>
    cases w2
    cases w1 with
    | list ho hall => exact ⟨_, _, ns, rfl, rfl, ho, ints_of_wellAll ns _ hall, hlen⟩
theorem post_true (l : OpenLaw) (args : List WData) : l.row.toRowW.claim.post args (.bool true) args = true :=
  postW_of (r := l.row.toRowW) (X := (true == true))
    (show WShape.has [] (.bool true) .bool = true by first | rfl | decide | simp [WShape.has, WShape.arms, WShape.armsAll])
    (show (WTm.eq .res (.lit (.bool true))).value [] { args := args, res := some (.bool true), after := args } = some (.bool (true == true)) from w_eq_bool (w_res rfl) w_lit) rfl
theorem attach_call {l : OpenLaw} {n : Nat} {q : Program} {loose : List Str} {XP : (Str → Option Value) → Heap → Prop} {YP : World → Heap → Prop} {d : DefRec}
    (hn : l.most = some n) (hdf : d.params.defaults = [])
    (call : ∀ (w : World) (s₀ s₁ : Shared) (mg mb : Str → Option Value) (fa : Addr) (o : Obj) (pm cd doc : Value) (a : Addr) (vs : List Value) (ns : List Int),
      Ground q loose [] XP w s₀ mg mb s₁.heap → YP w s₁.heap →
      s₁.heap.get? fa = some o → o.data = .func (docDef d.name d.params d.body d.scope pm cd doc) → s₁.heap.CodeRec cd d.name → mg d.name = some (.ref fa) →
      s₁.heap.get? a = some { cls := .type "list", data := .seq vs.toArray } → IntsAre vs ns → ns.length ≤ n → s₁.gens = #[] →
      codeAny (model l.prog w) callerA (.call (.ref fa) ⟨[.ref a], []⟩) (fun r s' => r = .ok (.ret (.bool true)) ∧ OldK s₁.heap s'.heap ∧ s'.os = s₁.os ∧ AllBare s'.gens) s₁) :
    WalkO q loose XP YP l.row.toRowW d [] (fun f vs => PySem.call f vs) := by
  intro w s₀ s₁ mg mb G Y fa o pm cd doc dV kV ho hd hcd hD hmg hg args vals as hpre hlay hrd hwl hlo
  obtain rfl : dV = .none := Dflts.none hD hdf
  obtain rfl : kV = .none := Dflts.noKw hD
  obtain ⟨a, vs, ns, rfl, rfl, hobj, hints, hlen⟩ := script_of hn hpre hwl
  refine enter_call (codeAny_mono (call w s₀ s₁ mg mb fa o pm cd doc a vs ns G Y ho (fd_plain hd) hcd hmg hobj hints hlen hg) fun r s' hq => ?_)
  obtain ⟨rfl, h2, h3, h4⟩ := hq
  exact ⟨.inl ⟨.bool true, .bool true, [], rfl, fun _ => rfl, .bool true, post_true l _, fun _ => ⟨List.Pairwise.nil, fun _ hm => (nomatch hm)⟩⟩, h2, h3, h4⟩
section
variable {prog : Program} {w : World} {A : Around} {E : Value → Shared → Prop} {s : Shared} {K : Frag}
end
end Att
namespace L2
open PySem PySem.Spec PyProof.Rows
theorem vals_ints : ∀ {vs : List Value} {ns : List Int}, IntsAre vs ns → Vals (ns.map V.int) vs
  | _, _, .nil => .nil
  | _, _, .cons n t h => .cons ⟨t, rfl⟩ (vals_ints h)
def Only (H : Hp) : Prop := ∀ b, H b = none ∨ ∃ o xs, H b = some (.frz o (.lst xs))
theorem law_call {P : Program} {w : World} {K : PySem.W.Frag} {mg mb : Str → Option Value} {CX : CXT} {k : Nat} {fa a : Addr} {fd : FuncData} {x : Str} {sp : Sp} {s₁ : Shared} {vs : List Value} {ns : List Int}
    (KX : K.In s₁.heap) (hns : s₁.heap.Ns mainGlobals mg) (hb : s₁.heap.Ns builtinsNs mb) (hbb : ∀ x : Str, x ≠ "__name__" → mb x = bootBuiltins x) (hlim : s₁.heap.NoLimit) (hg : s₁.gens = #[])
    (ha : s₁.heap.get? a = some { cls := .type "list", data := .seq vs.toArray }) (hi : IntsAre vs ns) (hl : ns.length ≤ sizeLine) (hr : Room k callerA)
    (F : ∀ base : Heap, K.In base → base.Ns mainGlobals mg → FnOk P w K mg base CX k fa fd [x] sp) (hbind : ∀ (s : Shared) (u : Value), BindsTo s fd ⟨[u], []⟩ [(x, u)])
    (hsp : ∀ H : Hp, Only H → SqL K H a (ns.map V.int) → sp [.ref a] H (fun v _ => v = .bl true) fun _ _ _ => False)
    (hCX : ∀ H e s', CX [] H s₁ (fun _ _ _ => False) e s' → False) :
    codeAny (model P w) callerA (.call (.ref fa) ⟨[.ref a], []⟩) (fun r s' => r = .ok (.ret (.bool true)) ∧ OldK s₁.heap s'.heap ∧ s'.os = s₁.os ∧ AllBare s'.gens) s₁ := by
  have rv := vals_ints hi
  have lenV := hi.length
  have core : ∀ H : Hp, Only H → SqL K H a (ns.map V.int) → HOk P w H s₁.heap → (∀ b, H b ≠ none → b = a) → (H a ≠ none → K.lookup a = none) →
      codeAny (model P w) callerA (.call (.ref fa) ⟨[.ref a], []⟩) (fun r s' => r = .ok (.ret (.bool true)) ∧ OldK s₁.heap s'.heap ∧ s'.os = s₁.os ∧ AllBare s'.gens) s₁ := by
    intro H hO hS hok hA hK
    have base_of : ∀ {b : Addr} {o : Obj}, s₁.heap.get? b = some o → H b = none → (hidT s₁.heap H).get? b = some o := fun e n => hidT_get e n
    have noA : ∀ {b : Addr} {o : Obj} {es : Array DictEntry} {ep : Nat}, s₁.heap.get? b = some o → o.data = .dict es ep → H b = none := fun {b o es ep} e d => by
      cases q : H b with
      | none => rfl
      | some u =>
        have e' : b = a := hA b (by rw [q]; simp)
        subst e'
        rw [ha] at e; cases e
        have d' : Data.seq vs.toArray _ = Data.dict es ep := d
        cases d'
    have nsK : ∀ {b : Addr} {m : Str → Option Value}, s₁.heap.Ns b m → (hidT s₁.heap H).Ns b m := fun {b m} ⟨o, es, ep, e, d, r⟩ => ⟨o, es, ep, base_of e (noA e d), d, r⟩
    have hKb : K.In (hidT s₁.heap H) := fun b o e => base_of (KX b o e) (by
      cases q : H b with
      | none => rfl
      | some u =>
        have e' : b = a := hA b (by rw [q]; simp)
        subst e'
        rw [hK (by rw [q]; simp)] at e; cases e)
    have hM : Mod K mg (hidT s₁.heap H) := ⟨hKb, nsK hns, ⟨mb, nsK hb, hbb⟩, let ⟨mc, h1, h2⟩ := hlim; ⟨mc, nsK h1, h2⟩⟩
    have e0 : Env0 P w K mg (hidT s₁.heap H) callerA [] s₁ H := ⟨rfl, hM, fun b o e => of_hidT e, Nat.le_of_eq (hidT_size _ _), trivial, fun b hb => absurd (show b ∈ ([] : List Addr) from hb) (by simp), hok, .of_eq hg⟩
    refine codeAny_mono ((F _ hKb (nsK hns)).run callerA [] s₁ H ⟨[.ref a], []⟩ [.ref a] [.ref a] _ _ hr e0 (hbind s₁ (.ref a)) (.cons rfl .nil) (hsp H hO hS)) fun r s' h => ?_
    cases r with
    | error e => exact (hCX H e s' h).elim
    | ok fl =>
      cases fl with
      | next => exact False.elim h
      | brk => exact False.elim h
      | cont => exact False.elim h
      | ret u =>
        obtain ⟨v, H', os, bare, un, hok', r', q⟩ := h
        have q' : v = .bl true := q
        subst q'
        obtain rfl : u = Value.bool true := r'
        refine ⟨rfl, OldK.of_keep fun b o e => ?_, os, bare⟩
        cases q : H b with
        | none => exact un.keep b o e q (by intro z; exact absurd (show b ∈ ([] : List Addr) from z) (by simp)) (by simp)
        | some u =>
          rcases hO b with z | ⟨ob, xs, z⟩
          · rw [q] at z; cases z
          · have z2 := un.frzs b ob _ z
            obtain ⟨e1, _⟩ := hok b _ z
            obtain ⟨e2, _⟩ := hok' b _ z2
            rw [e] at e1; cases e1
            exact e2
  cases hk : K.lookup a with
  | some o =>
    have e := KX a o hk
    rw [ha] at e
    cases e
    refine core (fun _ => none) (fun _ => .inl rfl) (.inr ⟨_, vs.toArray, _, hk, rfl, rfl, rfl, by rw [List.size_toArray, lenV]; exact hl, by simpa using rv⟩) (fun b u z => by have z' : (none : Option HO) = some u := z; cases z') (fun b z => absurd rfl z) fun z => absurd rfl z
  | none =>
    refine core (fun b => if b = a then some (.frz { cls := .type "list", data := .seq vs.toArray } (.lst (ns.map V.int))) else none) (fun b => ?_) (.inl (.inr ⟨{ cls := .type "list", data := .seq vs.toArray }, if_pos rfl⟩)) (fun b u z => ?_) (fun b z => ?_) fun _ => hk
    · by_cases hb : b = a
      · exact .inr ⟨_, _, if_pos hb⟩
      · exact .inl (if_neg hb)
    · by_cases hb : b = a
      · have z' := (if_pos hb).symm.trans z
        cases z'
        subst hb
        exact ⟨ha, by rw [List.length_map]; exact hl, vs, _, rv, ha⟩
      · have z' := (if_neg hb).symm.trans z
        cases z'
    · by_cases hb : b = a
      · exact hb
      · exact absurd (if_neg hb) z
end L2
namespace L2
open PySem PySem.Spec PyProof.Rows
theorem walk_of {l : PySem.W.OpenLaw} {n k : Nat} {q : Program} {loose : List Str} {XP : (Str → Option Value) → Heap → Prop} {YP : World → Heap → Prop} {d : DefRec} {K : Params → PySem.W.Frag} {CX : World → CXT} {sp : World → Sp} {x : Str}
    (hn : l.most = some n) (hn2 : n ≤ sizeLine) (hdf : d.params.defaults = []) (hr : Room k callerA)
    (hY : ∀ (w : World) (h : Heap), YP w h → (K w.params).In h)
    (F : ∀ (w : World) (mg : Str → Option Value) (fa : Addr) (h : Heap), (K w.params).In h → h.Ns mainGlobals mg → mg d.name = some (.ref fa) →
      ∃ fd : FuncData, (∀ (s : Shared) (u : Value), BindsTo s fd ⟨[u], []⟩ [(x, u)]) ∧
        ∀ base : Heap, (K w.params).In base → base.Ns mainGlobals mg → FnOk l.prog w (K w.params) mg base (CX w) k fa fd [x] (sp w))
    (hsp : ∀ (w : World) (H : Hp) (a : Addr) (ns : List Int), ns.length ≤ n → Only H → SqL (K w.params) H a (ns.map V.int) → sp w [.ref a] H (fun v _ => v = .bl true) fun _ _ _ => False)
    (hCX : ∀ (w : World) (H : Hp) (s : Shared) (e : Value) (s' : Shared), CX w [] H s (fun _ _ _ => False) e s' → False) :
    PySem.W.WalkO q loose XP YP l.row.toRowW d [] (fun f vs => PySem.call f vs) := by
  refine Att.attach_call hn hdf fun w s₀ s₁ mg mb fa o pm cd doc a vs ns G Y ho hd hcd hmg hobj hints hlen hg => ?_
  have KX := hY w _ Y
  obtain ⟨fd, hb, hF⟩ := F w mg fa _ KX G.T.g hmg
  exact law_call KX G.T.g G.T.b G.T.builtins G.T.nolimit hg hobj hints (Nat.le_trans hlen hn2) hr hF hb (fun H hO hS => hsp w H a ns hlen hO hS) fun H e s' => hCX w H s₁ e s'
end L2
namespace L2
open PySem PySem.Spec PyProof.Rows
def inClass (s : Stmt) (j : Nat) : Stmt := match s with
  | .ClassDef _ _ _ body _ _ _ _ _ _ _ => body.getD j (.Pass ⟨0, 0, 0, 0⟩)
  | _ => .Pass ⟨0, 0, 0, 0⟩
def defArgs (s : Stmt) : Arguments := match s with
  | .FunctionDef _ a _ _ _ _ _ _ _ _ => a
  | _ => { posonlyargs := [], args := [], vararg := none, kwonlyargs := [], kw_defaults := [], kwarg := none, defaults := [] }
def defBody (s : Stmt) : List Stmt := match s with
  | .FunctionDef _ _ b _ _ _ _ _ _ _ => b
  | _ => []
def defScope (s : Stmt) : Scope := match s with
  | .FunctionDef _ _ _ _ _ _ sc _ _ _ => sc
  | _ => { kind := .function, names := [], isGenerator := false, isCoroutine := false }
abbrev CX0 : CXT := fun _ _ _ _ _ _ => False
structure Fun (K : PySem.W.Frag) (x qual : Str) (st : Stmt) (f : Addr) (fd : FuncData) : Prop where
  ex : ∃ (oc : Value) (od : Option Addr) (kV doc pm : Value) (an : Option Addr) (cdv ct : Value) (osl : Array (Option Value)),
    fd = PySem.W.fnOf x qual (defArgs st) (defBody st) (defScope st) .none kV doc pm an cdv ct ∧ K.lookup f = some ⟨oc, od, .func fd, osl⟩ ∧ PySem.W.codeIn K cdv qual = true
  kp : PySem.W.keepIn K (.ref f) = true
section
variable {P : Program} {w : World} {K : PySem.W.Frag} {mg : Str → Option Value} {base : Heap}
theorem Fun.ok {x qual : Str} {st : Stmt} {f : Addr} {fd : FuncData} {N ps : List Str} {k : Nat} {sp : Sp} (F : Fun K x qual st f fd) (S : FnScope N ps (defScope st)) (len : ∀ vs H Q E, sp vs H Q E → vs.length = ps.length)
    (hbody : ∀ (cdv : Value) (A : Around) (outer : List Env) (s : Shared) (H : Hp) (vs : List V) (Q : VK) (E : XK), Room k (A.deeper (envOfC qual (defScope st) s.heap.objs.size f cdv)) → sp vs H Q E →
      ∃ t, PSs (cxOf CX0 P w K mg base N qual (defScope st) f cdv A outer s H E).nox (defBody st) t ∧ t { nx := fun _ H' => Q .non H', rt := Q } (start N vs) H) : FnOk P w K mg base CX0 (k + 1) f fd ps sp := by
  obtain ⟨oc, od, kV, doc, pm, an, cdv, ct, osl, rfl, lk, hcd⟩ := F.ex
  refine fn_of lk hcd S len fun A outer s H vs Q E hr hsp => ?_
  obtain ⟨t, h, q⟩ := hbody cdv A outer s H vs Q E hr hsp
  exact ⟨t, h.nox, q⟩
theorem Fun.binds {x qual : Str} {st : Stmt} {f : Addr} {fd : FuncData} {ps : List Str} (F : Fun K x qual st f fd)
    (h : ∀ (kV doc pm : Value) (an : Option Addr) (cdv ct : Value) (us : List Value), us.length = ps.length → bindArgs (PySem.W.fnOf x qual (defArgs st) (defBody st) (defScope st) .none kV doc pm an cdv ct) ⟨us, []⟩ = pure (ps.zip us)) : Binds K fd ps [] := by
  obtain ⟨oc, od, kV, doc, pm, an, cdv, ct, osl, rfl, lk, hcd⟩ := F.ex
  exact .all (h kV doc pm an cdv ct)
theorem fun_mk {x qual : Str} {st : Stmt} {f : Addr} {oc : Value} {od an : Option Addr} {osl : Array (Option Value)} {kV doc pm cdv ct : Value} (l : K.lookup f = some ⟨oc, od, .func (PySem.W.fnOf x qual (defArgs st) (defBody st) (defScope st) .none kV doc pm an cdv ct), osl⟩)
    (c : PySem.W.codeIn K cdv qual = true) (k : PySem.W.keepIn K (.ref f) = true) : Fun K x qual st f (PySem.W.fnOf x qual (defArgs st) (defBody st) (defScope st) .none kV doc pm an cdv ct) := ⟨⟨oc, od, kV, doc, pm, an, cdv, ct, osl, rfl, l, c⟩, k⟩
end
section
variable {X : Cx}
theorem pv (i : Nat) {x : Str} {pos : Pos} (hN : X.N[i]? = some x := by rfl) (hv : Vis X.env.scope x := by first | exact Or.inl rfl | exact Or.inr (Or.inl rfl) | exact Or.inr (Or.inr rfl)) (hd : (x == ("__debug__" : Str)) = false := by decide)
    (hcd : (x == ("__classdict__" : Str)) = false := by decide) : PE X (.Name x pos) (tVar i) := pe_var hN hv hd hcd
end
theorem ite2 {c A B : Prop} [Decidable c] (h1 : c → A) (h2 : ¬ c → B) : if c then A else B := by
  by_cases h : c
  · rw [if_pos h]
    exact h1 h
  · rw [if_neg h]
    exact h2 h
def Same (H H' : Hp) : Prop := ∀ b o, H b = some o → H' b = some o
theorem Same.refl (H : Hp) : Same H H := fun _ _ h => h
theorem Same.trans {H H1 H2 : Hp} (a : Same H H1) (b : Same H1 H2) : Same H H2 := fun c o h => b c o (a c o h)
theorem Same.free {H H' : Hp} (e : Same H H') {l : Addr} (h : H' l = Option.none) : H l = Option.none := by
  cases q : H l with
  | none => rfl
  | some o =>
    rw [e l o q] at h
    cases h
theorem Same.seq {K : PySem.W.Frag} {H H' : Hp} {a : Addr} {xs : List V} (e : Same H H') (h : SqL K H a xs) : SqL K H' a xs := by
  rcases h with (h | ⟨o, h⟩) | h
  · exact .inl (.inl (e _ _ h))
  · exact .inl (.inr ⟨o, e _ _ h⟩)
  · exact .inr h
end L2
set_option Elab.async false
set_option linter.all false
set_option maxRecDepth 100000
set_option maxHeartbeats 4000000
namespace L2
open PySem PySem.Spec PyProof.Rows
structure Fly (P : Program) (w : World) (outer : List Env) (H : Hp) (s : Shared) (H' : Hp) (a C : Addr) (s' : Shared) : Prop where
  os : s'.os = s.os
  bare : AllBare s'.gens
  fl : ∃ (t : Addr) (B : Heap), Heap.FlyingW B outer a (.ref C) (.ref t) s'.heap ∧ HOk P w H' B ∧
    (∀ b o, s.heap.get? b = some o → H b = none → b ∉ frs outer → B.get? b = some o) ∧ (∀ b o, s.heap.get? b = some o → b ∉ frs outer → ∃ o', B.get? b = some o')
  slot : ∀ b o, b ∈ frs outer → s.heap.get? b = some o → ∃ sl, s'.heap.get? b = some { o with slots := sl }
  free : ∀ b o, s.heap.get? b = some o → H b = none → H' b = none
  tups : ∀ b xs, H b = some (.tup xs) → H' b = some (.tup xs)
  frzs : ∀ b o u, H b = some (.frz o u) → H' b = some (.frz o u)
  tbls : ∀ b ps, H b = some (.tbl ps) → ∃ more, H' b = some (.tbl (ps ++ more))
section
variable {P : Program} {w : World} {outer : List Env} {H H' : Hp} {s s' : Shared} {a C : Addr}
theorem Fly.un (f : Fly P w outer H s H' a C s') : Un (frs outer) [] H H' s.heap s'.heap := by
  obtain ⟨t, B, hf, _, k1, k2⟩ := f.fl
  refine ⟨fun b o e n hb _ => hf.1 b o (k1 b o e n hb), fun b o e _ hb _ => f.slot b o hb e, fun b o e n _ => f.free b o e n, fun b o e _ => ?_, f.tups, f.frzs, f.tbls⟩
  by_cases hb : b ∈ frs outer
  · obtain ⟨sl, q⟩ := f.slot b o hb e
    exact ⟨_, q⟩
  · obtain ⟨o', q⟩ := k2 b o e hb
    exact ⟨o', hf.1 b o' q⟩
theorem Fly.hok (f : Fly P w outer H s H' a C s') : HOk P w H' s'.heap := by
  obtain ⟨t, B, hf, h, _⟩ := f.fl
  exact h.kept hf.1
theorem Fly.notH (f : Fly P w outer H s H' a C s') : H' a = none := by
  obtain ⟨t, B, hf, h, _⟩ := f.fl
  cases q : H' a with
  | none => rfl
  | some o =>
    obtain ⟨ob, z⟩ : ∃ ob, B.get? a = some ob := by
      have l := (h a o q).lt
      have := hf.2.1
      revert l this
      intro l this
      exact absurd this (by
        have hx := h a o q
        cases o with
        | lst xs => obtain ⟨_, _, _, _, e⟩ := hx; rw [e]; simp
        | tup xs => obtain ⟨_, _, _, ⟨ob, e, _⟩⟩ := hx; rw [e]; simp
        | dK kvs => obtain ⟨_, _, _, _, ob, _, _, e, _⟩ := hx; rw [e]; simp
        | dT kvs => obtain ⟨_, _, _, _, ob, _, _, e, _⟩ := hx; rw [e]; simp
        | set S n => obtain ⟨ob, _, _, _, e, _⟩ := hx; rw [e]; simp
        | ins C dx fs => obtain ⟨_, _, _, e, _⟩ := hx; rw [e]; simp
        | own y => obtain ⟨ob, e⟩ := hx; rw [e]; simp
        | xd fs => obtain ⟨_, ⟨ob, _, _, e, _⟩, _⟩ := hx; rw [e]; simp
        | rng lo hi => obtain ⟨_, _, _, e⟩ := hx; rw [e]; simp
        | frz ob u => obtain ⟨e, _⟩ := hx; rw [e]; simp
        | tbl ps => have e : B.get? a = some _ := hx; rw [e]; simp
        | met f y => have e : B.get? a = some _ := hx; rw [e]; simp
        | ext φ => obtain ⟨_, ⟨ob, e⟩, _⟩ := hx; rw [e]; simp)
    rw [hf.2.1] at z; cases z
theorem Fly.moved {h' B : Heap} {t : Addr} (f : Fly P w outer H s H' a C s') (hf : Heap.FlyingW B outer a (.ref C) (.ref t) s'.heap) (hB : HOk P w H' B)
    (k1 : ∀ b o, s.heap.get? b = some o → H b = none → b ∉ frs outer → B.get? b = some o) (k2 : ∀ b o, s.heap.get? b = some o → b ∉ frs outer → ∃ o', B.get? b = some o')
    (hf' : Heap.FlyingW B outer a (.ref C) (.ref t) h') (sm : s'.heap.UpToSlots h') : Fly P w outer H s H' a C { s' with heap := h' } := by
  refine ⟨f.os, f.bare, ⟨t, B, hf', hB, k1, k2⟩, fun b o hb e => ?_, f.free, f.tups, f.frzs, f.tbls⟩
  obtain ⟨sl, q⟩ := f.slot b o hb e
  obtain ⟨_, ob, hob, hnf⟩ := hf.2.2.1.mem hb
  rw [q] at hob; cases hob
  obtain ⟨sl', q'⟩ := sm b _ q hnf
  exact ⟨sl', q'⟩
end
section
variable {X : Cx} {pins : List (Addr × Obj)} {σ : St} {H H' : Hp} {s s' : Shared} {a C : Addr}
theorem Fly.inv (f : Fly X.prog X.w X.stack H s H' a C s') (I : Inv X pins σ H s) : Inv X pins σ H' s' :=
  I.call' (ch := []) f.os f.un f.hok f.bare (fun b z => absurd z (by simp))
theorem frs_cons {env : Env} {outer : List Env} {L : Addr} (hf : env.frame = some L) : frs (env :: outer) = L :: frs outer := by
  unfold frs
  rw [List.filterMap_cons, hf]
theorem Fly.leave {E : Value → Shared → Prop} {Q : Unit → Shared → Prop} (hstk : X.stack = X.env :: X.outer) (hfr : X.env.frame = some X.env.locals) (hex : X.ex = []) (f : Fly X.prog X.w X.stack H s H' a C s') (I : Inv X pins σ H s)
    (k : ∀ s'', Fly X.prog X.w X.outer X.H₀ X.s₀ H' a C s'' → Q () s'') : wpAny (model X.prog X.w) X.A (leaving X.env (.ref a)) Q E s' := by
  obtain ⟨t, B, hf, hB, k1, k2⟩ := f.fl
  rw [hstk] at hf
  have nx : ∀ b : Addr, b ∉ X.ex := fun b z => by rw [hex] at z; cases z
  have nf : ∀ b o, X.s₀.heap.get? b = some o → b ∉ X.fs → b ∉ frs X.stack := fun b o e hb z => by
    rw [hstk, frs_cons hfr] at z
    rcases List.mem_cons.mp z with z | z
    · exact absurd (Nat.lt_of_lt_of_le (Heap.lt_size e) (by rw [z]; exact I.ok.above)) (Nat.lt_irrefl _)
    · exact hb z
  refine wpAny_leaves_onW (by rw [I.ok.frames, hstk]) hfr hf fun h' hf' hsm => k _ ⟨f.os.trans I.os, f.bare, ⟨t, B, hf', hB, fun b o e n hb => ?_, fun b o e hb => ?_⟩, fun b o hb e => ?_, fun b o e n => ?_, fun b xs e => f.tups b xs (I.base.tups b xs e), fun b o u e => f.frzs b o u (I.base.frzs b o u e), fun b ps e => ?_⟩
  · exact k1 b o (I.base.keep b o e n hb (nx b)) (I.base.free b o e n (nx b)) (nf b o e hb)
  · obtain ⟨o', e'⟩ := I.base.there b o e (nx b)
    exact k2 b o' e' (nf b o e hb)
  · obtain ⟨sl, e1⟩ := I.base.slot b o e (I.ok.frf b hb) hb (nx b)
    have hb' : b ∈ frs X.stack := by rw [hstk, frs_cons hfr]; exact List.mem_cons_of_mem _ hb
    obtain ⟨sl2, e2⟩ := f.slot b _ hb' e1
    have hb2 : b ∈ frs (X.env :: X.outer) := hstk ▸ hb'
    obtain ⟨_, ob, hob, hnf⟩ := hf.2.2.1.mem hb2
    rw [e2] at hob; cases hob
    obtain ⟨sl3, e3⟩ := hsm b _ e2 hnf
    exact ⟨sl3, e3⟩
  · obtain ⟨o', e'⟩ := I.base.there b o e (nx b)
    exact f.free b o' e' (I.base.free b o e n (nx b))
  · obtain ⟨m1, e1⟩ := I.base.tbls b ps e
    obtain ⟨m2, e2⟩ := f.tbls b _ e1
    exact ⟨m1 ++ m2, by rw [e2, Array.append_assoc]⟩
theorem made_leave {E : Value → Shared → Prop} {Q : Unit → Shared → Prop} {h1 : Heap} {args : List Value} (hstk : X.stack = X.env :: X.outer) (hfr : X.env.frame = some X.env.locals) (hex : X.ex = []) (I : Inv X pins σ H s) (hx : Heap.MadeExcOf s.heap h1 a (.ref C) args)
    (k : ∀ s'', Fly X.prog X.w X.outer X.H₀ X.s₀ H a C s'' → Q () s'') : wpAny (model X.prog X.w) X.A (leaving X.env (.ref a)) Q E { s with heap := h1 } := by
  have nx : ∀ b : Addr, b ∉ X.ex := fun b z => by rw [hex] at z; cases z
  have stk := I.stack
  have nf : ∀ b o, X.s₀.heap.get? b = some o → b ∉ X.fs → b ∉ frs X.stack := fun b o e hb z => by
    rw [hstk, frs_cons hfr] at z
    rcases List.mem_cons.mp z with z | z
    · exact absurd (Nat.lt_of_lt_of_le (Heap.lt_size e) (by rw [z]; exact I.ok.above)) (Nat.lt_irrefl _)
    · exact hb z
  have hB : HOk X.prog X.w H (PySem.W.hideAll s.heap (frs X.stack)) := fun b o e => (I.hok b o e).stay (fun c u hc q => PySem.W.hideAll_get _ q fun hm => by
    have z := I.stkFree c hm
    rcases hc with hc | hc
    · rw [hc, e] at z; cases z
    · rw [hc] at z; cases z) (fun _ q => q) fun _ _ q => q
  have stk' : s.heap.FunFrames X.base (X.env :: X.outer) := hstk ▸ stk
  have hl : s.heap.FunFrames (PySem.W.hideAll s.heap (frs X.stack)) (X.env :: X.outer) := by
    rw [hstk]
    exact PySem.W.funFrames_hide stk' fun env he b hb => List.mem_filterMap.mpr ⟨env, he, hb⟩
  refine wpAny_leaves_madeW (base := PySem.W.hideAll s.heap (frs X.stack)) (h := s.heap) (by rw [I.ok.frames, hstk]) hfr (fun b o q => PySem.W.of_hideAll _ q) hl hx fun h' t x1 x2 x3 x4 =>
    k _ ⟨I.os, I.bare, ⟨t, _, x1, hB, fun b o e n hb => ?_, fun b o e hb => ?_⟩, fun b o hb e => ?_, fun b o e n => I.base.free b o e n (nx b), fun b xs e => I.base.tups b xs e, fun b o u e => I.base.frzs b o u e, fun b ps e => I.base.tbls b ps e⟩
  · exact PySem.W.hideAll_get _ (I.base.keep b o e n hb (nx b)) (nf b o e hb)
  · obtain ⟨o', e'⟩ := I.base.there b o e (nx b)
    exact ⟨o', PySem.W.hideAll_get _ e' (nf b o e hb)⟩
  · obtain ⟨sl, e1⟩ := I.base.slot b o e (I.ok.frf b hb) hb (nx b)
    have hb2 : b ∈ frs (X.env :: X.outer) := by rw [frs_cons hfr]; exact List.mem_cons_of_mem _ hb
    obtain ⟨_, ob, hob, hnf⟩ := stk'.mem hb2
    rw [e1] at hob; cases hob
    obtain ⟨sl3, e3⟩ := x4 b _ (hx.keeps b _ e1) hnf
    exact ⟨sl3, e3⟩
end
def CXR (P : Program) (w : World) : CXT := fun outer H s E e s' => ∃ a C H', e = .ref a ∧ Fly P w outer H s H' a C s' ∧ E (.ref C) none H'
structure LetsP (X : Cx) (ES : St → XK) : Prop where
  pass : ∀ (pins : List (Addr × Obj)) (σ : St) (H : Hp) (s : Shared) (e : Value) (s' : Shared), Inv X pins σ H s → CXR X.prog X.w X.stack H s (ES σ) e s' → X.xe e s'
  own : PassesOwn (model X.prog X.w) X.A X.env X.xe
structure Lets (X : Cx) (ES : St → XK) : Prop extends LetsP X ES where
  made : ∀ (pins : List (Addr × Obj)) (σ : St) (H : Hp) (s : Shared) (a C : Addr) (args : List Value) (h1 : Heap), Inv X pins σ H s → Heap.MadeExcOf s.heap h1 a (.ref C) args → ES σ (.ref C) none H → X.xe (.ref a) { s with heap := h1 }
abbrev EN : St → XK := fun _ _ _ _ => False
theorem lets_body {P : Program} {w : World} {K : PySem.W.Frag} {mg : Str → Option Value} {base : Heap} {N : List Str} {qual : Str} {scope : Scope} {f : Addr} {cd : Value} {A : Around} {outer : List Env} {s : Shared} {H : Hp} {E : XK} :
    Lets (cxOf (CXR P w) P w K mg base N qual scope f cd A outer s H E) (fun _ => E) where
  made := fun pins σ H1 s1 a C args h1 I hx q => made_leave (X := cxOf (CXR P w) P w K mg base N qual scope f cd A outer s H E) rfl rfl rfl I hx fun s'' fl => ⟨a, C, H1, rfl, fl, q⟩
  pass := fun pins σ H1 s1 e s' I h => by
    obtain ⟨a, C, H', rfl, fl, q⟩ := h
    exact Fly.leave (X := cxOf (CXR P w) P w K mg base N qual scope f cd A outer s H E) rfl rfl rfl fl I fun s'' fl => ⟨a, C, H', rfl, fl, q⟩
  own := PassesOwn.leaving
def tCallS (sp : Sp) (dvs : List V) (ES : St → XK) (t : TA) : TE := fun σ H Q => t σ H fun vs H1 => sp (vs ++ dvs) H1 Q (ES σ)
def tMakeS (C : Addr) (sp : Sp) (dvs : List V) (ES : St → XK) (t : TA) : TE := fun σ H Q => t σ H fun vs H1 => ∀ x dx, H1 x = none → H1 dx = none → dx ≠ x →
  sp (.ref x :: (vs ++ dvs)) (upd (upd H1 dx (.own x)) x (.ins C dx [])) (fun v H2 => v = .non ∧ Q (.ref x) H2) (ES σ)
section
variable {X : Cx} {k : Nat} {f C : Addr} {fd : FuncData} {ps : List Str} {sp : Sp} {dvs : List V} {ds : List Value} {ES : St → XK} {x m : Str} {p pos apos : Pos} {e o : Expr} {es : List Expr} {ta : TE} {t : TA}
theorem run_fnS {pins : List (Addr × Obj)} {σ : St} {H : Hp} {s : Shared} {Q : VK} {us : List Value} {vs : List V} (F : FnOk X.prog X.w X.K X.mg X.base (CXR X.prog X.w) k f fd ps sp) (hr : Room k X.A) (hb : Binds X.K fd ps ds) (hd : Vals dvs ds) (hx : LetsP X ES)
    (I : Inv X pins σ H s) (r : Vals vs us) (h : sp (vs ++ dvs) H Q (ES σ)) : wpAny (model X.prog X.w) X.A (call (.ref f) us) (EP X pins σ Q) X.xe s := by
  have r2 : Vals (vs ++ dvs) (us ++ ds) := r.append hd
  have hl : (us ++ ds).length = ps.length := by rw [← r2.length]; exact F.len _ _ _ _ h
  refine wpAny_call (codeAny_mono (F.run X.A X.stack s H ⟨us, []⟩ (us ++ ds) (vs ++ dvs) Q (ES σ) hr I.env0 (hb s us I.kIn hl) r2 h) fun r s' hq => ?_)
  cases r with
  | error e => exact hx.pass pins σ H s e s' I hq
  | ok fl =>
    cases fl with
    | ret u => exact I.after hq
    | next => exact False.elim hq
    | brk => exact False.elim hq
    | cont => exact False.elim hq
theorem pe_callS (F : FnOk X.prog X.w X.K X.mg X.base (CXR X.prog X.w) k f fd ps sp) (hr : Room k X.A) (hg : Gl X x) (hm : X.mg x = some (.ref f)) (hk : PySem.W.keepIn X.K (.ref f) = true) (hb : Binds X.K fd ps ds) (hd : Vals dvs ds) (hx : LetsP X ES)
    (ha : PA X (e :: es) t) (hdb : (x == ("__debug__" : Str)) = false := by decide) (he : starEach (e :: es) X.env = (false, eval e X.env) :: starEach es X.env := by rfl) (hpl : (backTo pos (starEach es X.env)).any (·.1) = false := by rfl) :
    PE X (.Call (.Name x p) (e :: es) [] pos) (tCallS sp dvs ES t) := by
  intro pins s σ H Q I h
  refine wpAny_Call_Name_kw (ld_glob I hg hm ?_ hdb)
  refine PySem.W.callWith_K (h₀ := X.base) I.ok.mod.kin hk (thn (ha pos pins s σ H _ I h) fun us s1 ⟨vs, H1, I1, r, q⟩ => ⟨I1.kIn, ?_⟩) he hpl
  exact run_fnS F hr hb hd hx I1 r q
theorem run_makeS {pins : List (Addr × Obj)} {σ : St} {H : Hp} {s : Shared} {Q : VK} {us : List Value} {vs : List V} (M : Mk X.K C f) (F : FnOk X.prog X.w X.K X.mg X.base (CXR X.prog X.w) k f fd ps sp) (hr : Room (k + 1) X.A) (hb : Binds X.K fd ps ds) (hd : Vals dvs ds)
    (hx : LetsP X ES) (I : Inv X pins σ H s) (r : Vals vs us)
    (h : ∀ x dx, H x = none → H dx = none → dx ≠ x → sp (.ref x :: (vs ++ dvs)) (upd (upd H dx (.own x)) x (.ins C dx [])) (fun v H2 => v = .non ∧ Q (.ref x) H2) (ES σ)) :
    wpAny (model X.prog X.w) X.A (call (.ref C) us) (EP X pins σ Q) X.xe s := by
  have hq := h (s.heap.objs.size + 1) s.heap.objs.size (I.hok.fresh (Nat.le_succ _)) (I.hok.fresh (Nat.le_refl _)) (Nat.ne_of_lt (Nat.lt_succ_self _))
  have I2 := Inv.made (C := C) I
  have r2 : Vals (V.ref (s.heap.objs.size + 1) :: (vs ++ dvs)) (Value.ref (s.heap.objs.size + 1) :: (us ++ ds)) := .cons rfl (r.append hd)
  have hl : (Value.ref (s.heap.objs.size + 1) :: us ++ ds).length = ps.length := by
    have e := r2.length
    rw [F.len _ _ _ _ hq] at e
    exact e.symm
  refine wpAny_call (make_map (f := f) I.kIn M.makes M.init (beq_iff_eq.mp M.fn) (codeAny_mono (F.run _ X.stack _ _ ⟨Value.ref (s.heap.objs.size + 1) :: us, []⟩ (Value.ref (s.heap.objs.size + 1) :: (us ++ ds)) _ _ (ES σ) (hr.make C us [])
    (I2.env0.make C us []) (hb _ (Value.ref (s.heap.objs.size + 1) :: us) I2.kIn hl) r2 hq) fun r s' hq' => ?_))
  cases r with
  | error e => exact hx.pass pins σ _ _ e s' I2 hq'
  | ok fl =>
    cases fl with
    | ret u =>
      obtain ⟨v, H', I3, rv, ev, q3⟩ := I2.after hq'
      subst ev
      exact ⟨rv, ⟨V.ref (s.heap.objs.size + 1), H', I3, rfl, q3⟩⟩
    | next => exact False.elim hq'
    | brk => exact False.elim hq'
    | cont => exact False.elim hq'
theorem pe_makeS (M : Mk X.K C f) (F : FnOk X.prog X.w X.K X.mg X.base (CXR X.prog X.w) k f fd ps sp) (hr : Room (k + 1) X.A) (hg : Gl X x) (hm : X.mg x = some (.ref C)) (hb : Binds X.K fd ps ds) (hd : Vals dvs ds) (hx : LetsP X ES)
    (ha : PA X (e :: es) t) (hdb : (x == ("__debug__" : Str)) = false := by decide) (he : starEach (e :: es) X.env = (false, eval e X.env) :: starEach es X.env := by rfl) (hpl : (backTo pos (starEach es X.env)).any (·.1) = false := by rfl) :
    PE X (.Call (.Name x p) (e :: es) [] pos) (tMakeS C sp dvs ES t) := by
  intro pins s σ H Q I h
  refine wpAny_Call_Name_kw (ld_glob I hg hm ?_ hdb)
  refine PySem.W.callWith_K (h₀ := X.base) I.ok.mod.kin M.kp (thn (ha pos pins s σ H _ I h) fun us s1 ⟨vs, H1, I1, r, q⟩ => ⟨I1.kIn, ?_⟩) he hpl
  exact run_makeS M F hr hb hd hx I1 r q
end
structure Exc (K : PySem.W.Frag) (mg : Str → Option Value) (x : Str) (C : Addr) : Prop where
  nm : PySem.W.nsIn K mainGlobals x = some (some (.ref C))
  ex : PySem.W.excIn K C [.type "ValueError", .type "Exception", .type "BaseException", .type "object"] "ValueError.__new__" = true
  mg : mg x = some (.ref C)
theorem exc_obj {K : PySem.W.Frag} {h : Heap} {C : Addr} {bmB : List Value} {newId : String} (X : K.In h) (q : PySem.W.excIn K C bmB newId = true) :
    ∃ (bm : List Value) (N : Addr) (nm q : Str) (bs : List Value) (hdct : Bool) (sn : List Str) (sub : List Value) (ab : Bool) (col : Option Bool) (dd : Option Addr) (k0 k1 k2 k3 k5 : Option Value) (mN : Str → Option Value),
      h.get? C = some (excClassObj nm q C N bs bm hdct sn sub ab col dd k0 k1 k2 k3 k5 newId) ∧ h.Ns N mN ∧ mN "__init__" = none ∧ OwnTail h bmB bm := by
  unfold PySem.W.excIn at q
  split at q
  · rename_i dd cd sl ho
    split at q
    · rename_i C' bm k0 k1 k2 k3 n k5 hm hs
      simp only [Bool.and_eq_true, beq_iff_eq, Bool.not_eq_true'] at q
      obtain ⟨⟨⟨⟨⟨rfl, rfl⟩, hdel⟩, ht⟩, hok⟩, hni⟩ := q
      obtain ⟨nm, bs, mro, ns, qn, hd, sn, sub, ab, col, del⟩ := cd
      dsimp only at hm hdel hok hni
      subst hm hdel
      have hsl : sl = #[k0, k1, k2, k3, some (.builtin n), k5] := by
        obtain ⟨l⟩ := sl
        simp only at hs
        rw [hs]
      subst hsl
      exact ⟨bm, ns, nm, qn, bs, hd, sn, sub, ab, col, dd, k0, k1, k2, k3, k5, _, X _ _ ho, .of_isNs (PySem.W.isNs_of_in X hok), PySem.W.nsMap_none_of_in X hok hni, PySem.W.tail_of_in X ht⟩
    · cases q
  · cases q
def tRaise (C : Addr) (ES : St → XK) (ta : TA) : TS := fun _ σ H => ta σ H fun vs H1 => vs.length ≤ sizeLine ∧ ES σ (.ref C) none H1
theorem ps_raise {X : Cx} {ES : St → XK} {x : Str} {C : Addr} {np cpos pos : Pos} {e : Expr} {es : List Expr} {ta : TA} (hx : Lets X ES) (hc : X.calm = true) (O : Exc X.K X.mg x C) (hg : Gl X x) (ha : PA X (e :: es) ta) (hdb : (x == ("__debug__" : Str)) = false := by decide)
    (he : starEach (e :: es) X.env = (false, eval e X.env) :: starEach es X.env := by rfl) (hpl : (backTo cpos (starEach es X.env)).any (·.1) = false := by rfl) :
    PS X (.Raise (some (.Call (.Name x np) (e :: es) [] cpos)) none pos) (tRaise C ES ta) := by
  intro pins s σ H D I h
  obtain ⟨bm, N, nm, q, bs, hdct, sn, sub, ab, col, dd, k0, k1, k2, k3, k5, mN, hC, hN, hni, T⟩ := exc_obj (h := X.base) I.ok.mod.kin O.ex
  refine wpAny_Raise_call_subU (C := C) (nm := nm) (q := q) (N := N) (bs := bs) (bm := bm) (hdct := hdct) (sn := sn) (sub := sub) (ab := ab) (col := col) (dd := dd) (k0 := k0) (k1 := k1) (k2 := k2) (k3 := k3) (k5 := k5)
    PySem.F.excBase_ValueError rfl PySem.F.excBase_ValueError (mN := mN) (T.hasType PySem.F.excBase_ValueError.hasBase) (I.ok.hd hc) (by rw [he]; show (false || (backTo cpos (starEach es X.env)).any (·.1)) = false; rw [hpl]; rfl) hni (ld_glob I hg O.mg ⟨rfl, ?_⟩ hdb)
  have h0 := ha cpos pins s σ H _ I h
  rw [he] at h0 ⊢
  refine Calls.evalArgs_plain (wpAny_mono h0 (fun us s2 ⟨vs, H2, I2, r, z, qe⟩ => ⟨rfl, ?_, I2.bk _ _ hC, hN.keeps I2.bk, T.keeps I2.bk, fun h' a hm => ?_⟩) fun _ _ y => y)
  · rw [← r.length]; exact z
  · exact hx.made pins σ H2 s2 a C us h' I2 hm qe
end L2
set_option Elab.async false
set_option linter.all false
set_option maxRecDepth 100000
set_option maxHeartbeats 4000000
namespace L2
open PySem PySem.Spec PyProof.Rows
section
variable {M : Model} {A : Around} {E : Value → Shared → Prop} {h : Heap} {g : Array GenState} {d : Drawn} {t : Nat} {os : OsState}
variable {nm q : Str} {C N : Addr} {bs bm : List Value} {hdct : Bool} {sn : List Str} {sub : List Value} {ab : Bool} {col : Option Bool} {dd : Option Addr} {k0 k1 k2 k3 k5 : Option Value} {newId : String}
variable {nm' q' : Str} {C' N' : Addr} {bs' bm' : List Value} {hdct' : Bool} {sn' : List Str} {sub' : List Value} {ab' : Bool} {col' : Option Bool} {dd' : Option Addr} {k0' k1' k2' k3' k5' : Option Value} {newId' : String}
theorem excMatches_own {e : Addr} {oe : Obj} {Q : Bool → Shared → Prop}
    (hC : h.get? C = some (excClassObj nm q C N bs bm hdct sn sub ab col dd k0 k1 k2 k3 k5 newId)) (hC' : h.get? C' = some (excClassObj nm' q' C' N' bs' bm' hdct' sn' sub' ab' col' dd' k0' k1' k2' k3' k5' newId'))
    (he : h.get? e = some oe) (hcls : oe.cls = .ref C) (hbase : bm'.contains (.type "BaseException") = true)
    (hq : Q ((Value.ref C :: bm).contains (.ref C')) ⟨h, g, d, t, os⟩) : wpAny M A (excMatches (.ref e) (.ref C')) Q E ⟨h, g, d, t, os⟩ := by
  have hcB : (Value.ref C' :: bm').contains (.type "BaseException") = true := by rw [List.contains_cons, hbase, Bool.or_true]
  have f := tc_notTuple
  unfold excMatches
  repeat (first | (with_reducible refine wpAny_loadPart_at he ?_; rw [hcls]) | with_reducible refine wpAny_loadPart_at hC' ?_ | (with_reducible refine wpAny_isSubtype_exc hC' ?_; rw [hcB]) | (with_reducible refine wpAny_isSubtype_exc hC ?_) | wp_step)
  cases hb : (Value.ref C :: bm).contains (.ref C') <;> (rw [hb] at hq; wp_walk; exact hq)
end
theorem exc_mro {K : PySem.W.Frag} {C : Addr} {bmB : List Value} {newId : String} {h : Heap} (X : K.In h) {nm q : Str} {N : Addr} {bs bm : List Value} {hdct : Bool} {sn : List Str} {sub : List Value} {ab : Bool} {col : Option Bool} {dd : Option Addr} {k0 k1 k2 k3 k5 : Option Value}
    (hx : PySem.W.excIn K C bmB newId = true) (hC : h.get? C = some (excClassObj nm q C N bs bm hdct sn sub ab col dd k0 k1 k2 k3 k5 newId)) {v : Value} {b : Bool} (e : PySem.W.mroIn K C v = some b) : (Value.ref C :: bm).contains v = b := by
  unfold PySem.W.mroIn PySem.W.clsIn at e
  unfold PySem.W.excIn at hx
  split at hx
  · rename_i dd' cd sl ho
    have := X _ _ ho
    rw [hC] at this
    have z := Option.some.inj this
    unfold excClassObj at z
    injection z with z1 z2 z3 z4
    injection z3 with z3
    subst z3
    rw [ho] at e
    simpa using e
  · cases hx
def XM (X : Cx) (a : Addr) (oe : Obj) : Cx := { X with A := X.A.mark (some (.ref a)), calm := false, pn := (a, oe) :: X.pn, xe := fun _ _ => False }
section
variable {X : Cx} {pins : List (Addr × Obj)} {σ : St} {H H' : Hp} {s s' : Shared} {a C : Addr} {oe : Obj}
theorem Inv.handler (I : Inv X pins σ H s) (he : s.heap.get? a = some oe) (hn : H a = none) (hl : a ≠ X.env.locals) (hf : a ∉ X.fs) (hc : ∀ v, oe.data ≠ .cell v) : Inv (XM X a oe) pins σ H s := by
  have ok := I.ok
  refine ⟨⟨ok.mod, ok.kind, ok.glob, ok.blt, ok.above, ok.inj, ok.has, ok.cab, (fun z => by cases z), ok.frames, ok.stk, ok.exf, ok.bs, ok.bsz, ok.noex, ok.exfs, ok.funs, ok.frf⟩, I.os, I.bare, I.base, I.loc, I.cell, I.free, I.freeC, fun p hp => ?_, I.hok, I.len⟩
  have hp' : p ∈ ((a, oe) :: X.pn) ++ pins := hp
  rcases List.mem_append.mp hp' with z | z
  · rcases List.mem_cons.mp z with z | z
    · subst z; exact ⟨he, hn, hl, hf, hc⟩
    · exact I.pin p (List.mem_append_left _ z)
  · exact I.pin p (List.mem_append_right _ z)
theorem Inv.unhandler (I : Inv (XM X a oe) pins σ H s) (hd : X.calm = true → X.A.handled = none) : Inv X pins σ H s := by
  have ok := I.ok
  refine ⟨⟨ok.mod, ok.kind, ok.glob, ok.blt, ok.above, ok.inj, ok.has, ok.cab, hd, ok.frames, ok.stk, ok.exf, ok.bs, ok.bsz, ok.noex, ok.exfs, ok.funs, ok.frf⟩, I.os, I.bare, I.base, I.loc, I.cell, I.free, I.freeC, fun p hp => I.pin p ?_, I.hok, I.len⟩
  show p ∈ ((a, oe) :: X.pn) ++ pins
  rcases List.mem_append.mp hp with z | z
  · exact List.mem_append_left _ (List.mem_cons_of_mem _ z)
  · exact List.mem_append_right _ z
theorem name_goes {n : Str} {i : Nat} {pos : Pos} {E : Value → Shared → Prop} {Q : Unit → Shared → Prop} (I : Inv X pins σ H s) (hi : X.N[i]? = some n) (hN : X.N.Nodup) (hx : X.env.scope.names.lookup n = some .local)
    (h : ∀ s', Inv X pins (σ.set i none) H s' → Q () s') : wpAny (model X.prog X.w) X.A (do bindName X.env n .none; unbindBehindTheSuite X.env n pos) Q E s := by
  obtain ⟨m, hn, hl⟩ := id I.loc
  have hp : (X.env.scope.kind == .class || (X.env.scope.kind == .module && X.env.locals != X.env.globals)) = false := by rw [I.ok.kind]; rfl
  have hiσ : i < σ.length := by rw [I.len]; exact (List.getElem?_eq_some_iff.mp hi).1
  refine wpAny_bind (wpAny_bindName (wpAny_storeName_local hx hn (fun h₁ hn₁ hs₁ => ?_) hp))
  unfold unbindBehindTheSuite
  refine wpAny_onRaise ?_
  refine wpAny_unbindName_local (m := fun y => if y = n then some Value.none else m y) (v := Value.none) hx hn₁ (by simp) hp fun h₂ u hn₂ hs₂ => ?_
  have hs : Heap.SameBut X.env.locals s.heap h₂ := hs₁.trans hs₂
  obtain ⟨oL, _, _, hoL, _⟩ := id hn
  have tracked : HOk X.prog X.w H h₂ := fun b ob e => by
    refine (I.hok b ob e).stay (fun c w' hc q => (hs.2 c ?_).trans q) (fun _ q => q) fun _ _ q => q
    rintro rfl
    rcases hc with rfl | hc
    · rw [I.free] at e; cases e
    · rw [I.free] at hc; cases hc
  refine h _ ⟨I.ok, I.os, I.bare, ⟨fun b o e n hb hx => ?_, fun b o e n hb hx => ?_, I.base.free, fun b o e hx => ?_, I.base.tups, I.base.frzs, I.base.tbls⟩, ⟨_, hn₂, fun j y v' e1 e2 e3 => ?_⟩, fun y c e => ?_, I.free, I.freeC, fun p hp => ?_, tracked, by simpa using I.len⟩
  · exact (hs.2 b (Nat.ne_of_lt (Nat.lt_of_lt_of_le (Heap.lt_size e) I.ok.above))).trans (I.base.keep b o e n hb hx)
  · obtain ⟨sl, e1⟩ := I.base.slot b o e n hb hx
    exact ⟨sl, (hs.2 b (Nat.ne_of_lt (Nat.lt_of_lt_of_le (Heap.lt_size e) I.ok.above))).trans e1⟩
  · obtain ⟨o', e1⟩ := I.base.there b o e hx
    exact ⟨o', (hs.2 b (Nat.ne_of_lt (Nat.lt_of_lt_of_le (Heap.lt_size e) I.ok.above))).trans e1⟩
  · by_cases hj : j = i
    · subst hj
      rw [List.getElem?_set_self hiσ] at e2
      cases e2
    · rw [List.getElem?_set_ne (Ne.symm hj)] at e2
      obtain ⟨u', r', q⟩ := hl j y v' e1 e2 e3
      refine ⟨u', r', ?_⟩
      have ny : y ≠ n := fun e => hj (nodup_ix hN e1 (e ▸ hi))
      rcases q with ⟨k, e⟩ | ⟨k, c, e, z⟩
      · exact .inl ⟨k, by simp [ny, e]⟩
      · exact .inr ⟨k, c, e, z.sameBut hs (I.cne y c e)⟩
  · obtain ⟨w', z⟩ := I.cell y c e
    exact ⟨w', z.sameBut hs (I.cne y c e)⟩
  · obtain ⟨e, n, ne, nf, d⟩ := I.pin p hp
    exact ⟨(hs.2 p.1 ne).trans e, n, ne, nf, d⟩
end
abbrev TH := Addr → Addr → Ends → St → Hp → Prop
def PH (X : Cx) (hs : List ExceptHandler) (th : TH) : Prop :=
  ∀ (pins : List (Addr × Obj)) (s0 s : Shared) (σ : St) (H0 H : Hp) (D : Ends) (a C : Addr), Inv X pins σ H0 s0 → Fly X.prog X.w X.stack H0 s0 H a C s → th a C D σ H →
    wpAny (model X.prog X.w) X.A (handleBy (.ref a) X.env hs) (SP X pins D) X.xe s
def tAs (K : PySem.W.Frag) (C' : Addr) (i : Nat) (ts : Addr → Addr → TS) (tr : TH) : TH := fun a C D σ H => ∃ b, PySem.W.mroIn K C (.ref C') = some b ∧ PySem.W.excIn K C [.type "ValueError", .type "Exception", .type "BaseException", .type "object"] "ValueError.__new__" = true ∧
  if b = true then ts a C { nx := fun σ H => D.nx (σ.set i none) H, rt := D.rt, bk := fun σ H => D.bk (σ.set i none) H, ct := fun σ H => D.ct (σ.set i none) H } (σ.set i (some (.ref a))) H else tr a C D σ H
theorem ph_as {X : Cx} {x n : Str} {C' : Addr} {i : Nat} {np pos : Pos} {b₀ : Stmt} {suite : List Stmt} {rest : List ExceptHandler} {ts : Addr → Addr → TS} {tr : TH} (hfr : X.env.frame = some X.env.locals) (hstk : X.stack = X.env :: X.outer) (hcalm : X.calm = true) (O : Exc X.K X.mg x C') (hg : Gl X x) (hN : X.N.Nodup) (hi : X.N[i]? = some n) (hx : X.env.scope.names.lookup n = some .local)
    (hsuite : ∀ a C oe, oe.cls = .ref C → PSs (XM X a oe) (b₀ :: suite) (ts a C)) (hrest : PH X rest tr) (hdb : (x == ("__debug__" : Str)) = false := by decide) :
    PH X (.ExceptHandler (some (.Name x np)) (some n) (b₀ :: suite) pos :: rest) (tAs X.K C' i ts tr) := by
  intro pins s0 s σ H0 H D a C I0 fl h
  obtain ⟨b, hb, hexc, h⟩ := h
  have I := fl.inv I0
  obtain ⟨t, B, hfw, hB, kk1, kk2⟩ := id fl.fl
  obtain ⟨oe, ws, hoe, hoec, hoed, _⟩ := hfw.first
  have hne : a ≠ X.env.locals := fun z => by
    obtain ⟨m, ⟨o', es, ep, ho', hd', _⟩, _⟩ := I.loc
    rw [← z, hoe] at ho'; cases ho'; rw [hoed] at hd'; cases hd'
  have hnf : ∀ {h : Heap} {oe' : Obj} {ws' : Array Value}, h.FunFrames B X.stack → h.get? a = some oe' → oe'.data = .fields ws' → a ∉ X.fs := fun hF he hd hm => by
    have hm' : a ∈ X.stack.filterMap (·.frame) := by rw [hstk, List.filterMap_cons, hfr]; exact List.mem_cons_of_mem _ hm
    obtain ⟨_, ob, hob, hnf⟩ := hF.mem hm'
    rw [he] at hob; cases hob
    exact hnf _ hd
  have IM : Inv (XM X a oe) pins σ H s := Inv.handler I hoe fl.notH hne (hnf hfw.2.2.1 hoe hoed) (fun v z => by rw [hoed] at z; cases z)
  refine wpAny_handleBy_cons (codeAny_handlers_test (ld_glob (X := XM X a oe) IM hg O.mg ?_ hdb)) (by intro q; cases q)
  obtain ⟨bm', N', nm', q', bs', hdct', sn', sub', ab', col', dd', k0', k1', k2', k3', k5', mN', hC', hN', hni', T'⟩ := exc_obj (h := s.heap) I.kIn O.ex
  obtain ⟨bm, N, nm, q, bs, hdct, sn, sub, ab, col, dd, k0, k1, k2, k3, k5, mN, hC, hNn, hni, T⟩ := exc_obj (h := s.heap) I.kIn hexc
  have hmr := exc_mro I.kIn hexc hC hb
  obtain ⟨hp, gs, dr, tk, os⟩ := s
  refine excMatches_own hC hC' hoe hoec (T'.hasType PySem.F.excBase_ValueError.hasBase) ?_
  rw [hmr]
  cases b with
  | false =>
    rw [if_neg Bool.false_ne_true] at h
    exact hrest pins s0 _ σ H0 H D a C I0 fl h
  | true =>
    rw [if_pos rfl] at h
    refine codeAny_handlers_suite_as ?_
    refine lands_againW hfw fun h₆ hf₆ sm₆ => ?_
    have fl₆ : Fly X.prog X.w X.stack H0 s0 H a C ⟨h₆, gs, dr, tk, os⟩ := fl.moved hfw hB kk1 kk2 hf₆ sm₆
    have I₆ := fl₆.inv I0
    obtain ⟨oe₆, ws₆, hoe₆, hoec₆, hoed₆, _⟩ := hf₆.first
    have IM₆ : Inv (XM X a oe₆) pins σ H ⟨h₆, gs, dr, tk, os⟩ := Inv.handler I₆ hoe₆ fl₆.notH hne (hnf hf₆.2.2.1 hoe₆ hoed₆) (fun v z => by rw [hoed₆] at z; cases z)
    refine store_ok (X := XM X a oe₆) (v := .ref a) IM₆ hN hi (Or.inl hx) rfl (fun s7 I7 => ?_) (.inr hx)
    refine wpAny_mono (hsuite a C oe₆ hoec₆ pins s7 _ H _ I7 h) (fun f s8 q8 => ?_) fun _ _ z => False.elim z
    cases f with
    | next => obtain ⟨σ', H', I8, q⟩ := q8; exact name_goes (Inv.unhandler I8 I0.ok.hd) hi hN hx fun s9 I9 => ⟨_, H', I9, q⟩
    | brk => obtain ⟨σ', H', I8, q⟩ := q8; exact name_goes (Inv.unhandler I8 I0.ok.hd) hi hN hx fun s9 I9 => ⟨_, H', I9, q⟩
    | cont => obtain ⟨σ', H', I8, q⟩ := q8; exact name_goes (Inv.unhandler I8 I0.ok.hd) hi hN hx fun s9 I9 => ⟨_, H', I9, q⟩
    | ret u => obtain ⟨v, σ', H', I8, rv, q⟩ := q8; exact name_goes (Inv.unhandler I8 I0.ok.hd) hi hN hx fun s9 I9 => ⟨v, _, H', I9, rv, q⟩
def tNoH : TH := fun _ _ _ _ _ => False
theorem ph_never {X : Cx} {hs : List ExceptHandler} : PH X hs tNoH := fun _ _ _ _ _ _ _ _ _ _ _ h => h.elim
def tTry (tb : (St → XK) → TS) (th : TH) : TS := fun D σ H => tb (fun σ' cls _ H' => ∀ a C, cls = .ref C → H' a = none → th a C D σ' H') D σ H
abbrev XT (X : Cx) (pn : List (Addr × Obj)) (xe : Value → Shared → Prop) : Cx := { X with pn := pn, xe := xe }
theorem Inv.toXT {X : Cx} {pins : List (Addr × Obj)} {σ : St} {H : Hp} {s : Shared} (I : Inv X pins σ H s) (xe : Value → Shared → Prop) : Inv (XT X (X.pn ++ pins) xe) [] σ H s := by
  have ok := I.ok
  exact ⟨⟨ok.mod, ok.kind, ok.glob, ok.blt, ok.above, ok.inj, ok.has, ok.cab, ok.hd, ok.frames, ok.stk, ok.exf, ok.bs, ok.bsz, ok.noex, ok.exfs, ok.funs, ok.frf⟩, I.os, I.bare, I.base, I.loc, I.cell, I.free, I.freeC, fun p hp => I.pin p (by simpa using hp), I.hok, I.len⟩
theorem Inv.ofXT {X : Cx} {pins pins' : List (Addr × Obj)} {σ : St} {H : Hp} {s : Shared} {xe : Value → Shared → Prop} (I : Inv (XT X (X.pn ++ pins) xe) pins' σ H s) : Inv X pins σ H s := by
  have ok := I.ok
  exact ⟨⟨ok.mod, ok.kind, ok.glob, ok.blt, ok.above, ok.inj, ok.has, ok.cab, ok.hd, ok.frames, ok.stk, ok.exf, ok.bs, ok.bsz, ok.noex, ok.exfs, ok.funs, ok.frf⟩, I.os, I.bare, I.base, I.loc, I.cell, I.free, I.freeC, fun p hp => I.pin p (List.mem_append_left _ hp), I.hok, I.len⟩
theorem ps_try {X : Cx} {body : List Stmt} {h₀ : ExceptHandler} {hs : List ExceptHandler} {pos : Pos} {tb : (St → XK) → TS} {th : TH} (hfr : X.env.frame = some X.env.locals) (hstk : X.stack = X.env :: X.outer)
    (hb : ∀ (pn : List (Addr × Obj)) (xe : Value → Shared → Prop) (ES : St → XK), LetsP (XT X pn xe) ES → PSs (XT X pn xe) body (tb ES)) (hh : PH X (h₀ :: hs) th) : PS X (.Try body (h₀ :: hs) [] [] pos) (tTry tb th) := by
  intro pins s σ H D I h
  have L : LetsP (XT X (X.pn ++ pins) fun e s₁ => wpAny (model X.prog X.w) X.A (noteFrame e X.env) (fun _ s₂ => wpAny (model X.prog X.w) X.A (setFlight e none) (fun _ s₃ => wpAny (model X.prog X.w) X.A (handleBy e X.env (h₀ :: hs)) (SP X pins D) X.xe s₃) X.xe s₂) X.xe s₁)
      (fun σ' cls _ H' => ∀ a C, cls = .ref C → H' a = none → th a C D σ' H') := by
    refine ⟨fun pins' σ' H1 s1 e s' I1 hx => ?_, PassesOwn.looking⟩
    obtain ⟨a, C, H', rfl, fl, q⟩ := hx
    have J : Inv X pins σ' H1 s1 := Inv.ofXT I1
    have fl' : Fly X.prog X.w X.stack H1 s1 H' a C s' := fl
    obtain ⟨t, B, hf, hB, k1, k2⟩ := id fl'.fl
    have hf' : Heap.FlyingW B (X.env :: X.outer) a (.ref C) (.ref t) s'.heap := hstk ▸ hf
    refine wpAny_looks_onW (by rw [J.ok.frames, hstk]) hfr hf' fun h₄ hheld sm₄ => ?_
    refine wpAny_landsW hheld fun h₅ hf₅ sm₅ => ?_
    have hf₅' : Heap.FlyingW B X.stack a (.ref C) (.ref t) h₅ := hstk.symm ▸ hf₅
    have fl₅ := fl'.moved hf hB k1 k2 hf₅' (sm₄.trans sm₅)
    exact hh pins s1 _ σ' H1 H' D a C J fl₅ (q a C rfl fl₅.notH)
  refine wpAny_Try_except (wpAny_mono (hb _ _ _ L [] s σ H D (I.toXT _) h) (fun f s1 q => ?_) fun _ _ x => x)
  cases f with
  | next => obtain ⟨σ', H', I', q⟩ := q; exact wpAny_execs_nil ⟨σ', H', Inv.ofXT I', q⟩
  | brk => obtain ⟨σ', H', I', q⟩ := q; exact ⟨σ', H', Inv.ofXT I', q⟩
  | cont => obtain ⟨σ', H', I', q⟩ := q; exact ⟨σ', H', Inv.ofXT I', q⟩
  | ret u => obtain ⟨v, σ', H', I', rv, q⟩ := q; exact ⟨v, σ', H', Inv.ofXT I', rv, q⟩
def clsV : V → Option Value
  | .ref C => some (.ref C)
  | .ty T => some (.type T)
  | _ => none
theorem clsV_rel {y : V} {u c : Value} (r : RelV y u) (e : clsV y = some c) : u = c := by
  cases y with
  | ref C => cases e; exact r
  | ty T => cases e; exact r
  | _ => cases e
theorem call_isi {X : Cx} : CallR X (.builtin "isinstance") (fun xs H Q => ∃ x y t c b, xs = [x, y] ∧ clsV y = some c ∧ TyOf X.K H x t ∧ PySem.W.kitOne X.K t c = some b ∧ Q (.bl b) H) := by
  intro pins s σ H xs us Q I r h
  obtain ⟨x, y, t, c, b, rfl, ey, ty, e, q⟩ := h
  obtain ⟨u, v, rfl, r1, r2⟩ := Vals.two r
  obtain rfl := clsV_rel r2 ey
  exact isinst_ok I r1 ty e fun tk => ⟨.bl b, H, I.tok tk, rfl, q⟩
end L2
set_option Elab.async false
set_option linter.all false
set_option maxRecDepth 100000
set_option maxHeartbeats 4000000
namespace L2
open PySem PySem.Spec PyProof.Rows
abbrev FF : Value → Shared → Prop := fun _ _ => False
theorem comp_loop {prog : Program} {w : World} {A : Around} {R : Result → Shared → Prop} {s : Shared} {elt target iter : Expr} {ifs : List Expr} {scope : Scope} {pos : Pos} {it acc : Value} {env : Env} (I : Nat → Shared → Prop)
    (turn : ∀ n s, I n s → wpAny (model prog w) A (pyNext it) (fun r s₁ => match r with
      | none => R (.ok .next) s₁
      | some v => wpAny (model prog w) A (letOwnedTupleGo target it v) (fun _ s₁' => wpAny (model prog w) A (assign target env v) (fun _ s₂ =>
          wpAny (model prog w) A (forIn ifs true fun c r => if r = true then do let ok ← isTrue c env (eval c env); pure (ForInStep.yield ok) else pure (ForInStep.yield r)) (fun ok s₃ =>
            if ok = true then wpAny (model prog w) A (eval elt env) (fun x s₄ =>
              wpAny (model prog w) A (call (.builtin "list.append") [acc, x]) (fun _ s₅ => ∃ m, m < n ∧ I m s₅) FF s₄) FF s₃
            else ∃ m, m < n ∧ I m s₃) FF s₂) FF s₁') FF s₁) FF s)
    (n : Nat) (h : I n s) : codeAny (model prog w) A (.compLoop (.ListComp elt [⟨target, iter, ifs, 0⟩] scope pos) 0 it acc env) R s := by
  refine codeAny_loop rfl I (fun n s hI => ?_) n h
  show wpAny _ A ((compTurn (.ListComp elt [⟨target, iter, ifs, 0⟩] scope pos) 0 it acc env).onRaise (fun x => do noteFrame x env; theTreesLotGoes x)) _ _ s
  refine wpAny_noted ?_
  rw [compTurn_list]
  refine wpAny_bind (wpAny_standAt (wpAny_bind (wpAny_mono (turn n s hI) (fun r s₁ h₁ => ?_) fun _ _ h' => h'.elim)))
  cases r with
  | none => exact wpAny_pure h₁
  | some v =>
    refine wpAny_bind (wpAny_mono h₁ (fun _ s₁' h₁' => ?_) fun _ _ h' => h'.elim)
    refine wpAny_bind (wpAny_mono h₁' (fun _ s₂ h₂ => wpAny_bind (wpAny_mono h₂ (fun ok s₃ h₃ => ?_) fun _ _ h' => h'.elim)) fun _ _ h' => h'.elim)
    cases ok with
    | false => exact wpAny_pure ⟨rfl, h₃⟩
    | true =>
      exact wpAny_bind (wpAny_bind (wpAny_mono h₃ (fun x s₄ h₄ => wpAny_bind (wpAny_mono h₄ (fun _ s₅ h₅ => wpAny_pure (wpAny_pure ⟨rfl, h₅⟩)) fun _ _ h' => h'.elim)) fun _ _ h' => h'.elim))
def PIfs (X : Cx) (ifs : List Expr) (t : TT) : Prop :=
  ∀ (pins : List (Addr × Obj)) (s : Shared) (σ : St) (H : Hp) (Q : Bool → Hp → Prop), Inv X pins σ H s → t σ H Q →
    wpAny (model X.prog X.w) X.A (forIn ifs true fun c r => if r = true then do let ok ← isTrue c X.env (eval c X.env); pure (ForInStep.yield ok) else pure (ForInStep.yield r)) (TP X pins σ Q) X.xe s
def tYes : TT := fun _ H Q => Q true H
theorem pifs_nil {X : Cx} : PIfs X [] tYes := fun _ _ _ H _ I h => wpAny_tests_nil ⟨H, I, h⟩
def XC (X : Cx) (scope : Scope) (cl : List (Str × Addr)) (Nc : List Str) (Cc : Addr) (s : Shared) (H : Hp) (ex : List Addr) (pn : List (Addr × Obj)) : Cx where
  prog := X.prog
  w := X.w
  K := X.K
  mg := X.mg
  base := X.base
  A := X.A
  N := Nc
  s₀ := s
  H₀ := H
  env := compEnvC scope cl Cc X.env
  outer := X.stack
  stack := X.stack
  ex := ex
  fn := fun _ => false
  calm := X.calm
  pn := pn
  xe := FF
structure CompOk (X : Cx) (scope : Scope) (cl : List (Str × Addr)) (Nc : List Str) (nt : Nat) (is : List Nat) : Prop where
  clos : closureFor scope X.env = pure cl
  cell : ∀ y ∈ scope.names, y.2 ≠ .cell
  kind : scope.kind = .function
  names : ∀ y ∈ scope.names, y.2 = .local → scope.names.lookup y.1 = some .local
  sub : ∀ x c, cl.lookup x = some c → X.env.cells.lookup x = some c
  has : ∀ x, ((relabel scope X.env).names.lookup x = some .cell ∨ (relabel scope X.env).names.lookup x = some .free) → ∃ c, cl.lookup x = some c
  len : Nc.length = nt + is.length
  fr : ∀ (j i : Nat), is[j]? = some i → ∃ x, Nc[nt + j]? = some x ∧ X.N[i]? = some x ∧ (X.env.kindOf x = some .cell ∨ X.env.kindOf x = some .free) ∧
    ((relabel scope X.env).names.lookup x = some .cell ∨ (relabel scope X.env).names.lookup x = some .free)
def cStart (nt : Nat) (is : List Nat) (σ : St) : St := List.replicate nt none ++ is.map fun i => (σ[i]?).join
theorem cStart_len (nt : Nat) (is : List Nat) (σ : St) : (cStart nt is σ).length = nt + is.length := by unfold cStart; simp
def tCompW (g : TG) (tt : TT) (te : TE) (J : It) (σ0 : St) (H1 : Hp) (Q : VK) : Prop := ∃ W : Nat → Nat → List V → St → Hp → Prop, (∃ m, W 0 m [] σ0 H1) ∧ ∀ i m ys σc H, W i m ys σc H →
  (J.stop i H ∧ ∀ p, H p = none → Q (.ref p) (upd H p (.lst ys))) ∨
  (J.go i H ∧ ys.length < sizeLine ∧ ∃ N : List V → St → Hp → Prop, (∀ ys' σ' H', N ys' σ' H' → ∃ m', m' < m ∧ W (i + 1) m' ys' σ' H') ∧
    ∀ x H', J.yld i H x H' → g x σc H' fun σ2 H2 => tt σ2 H2 fun b H3 => if b = true then te σ2 H3 fun y H4 => N (ys ++ [y]) σ2 H4 else N ys σ2 H3)
def tComp (nt : Nat) (is : List Nat) (wi : TI) (g : TG) (tt : TT) (te : TE) : TE := fun σ H Q => wi σ H fun J H1 => tCompW g tt te J (cStart nt is σ) H1 Q
section
variable {X : Cx} {scope : Scope} {cl : List (Str × Addr)} {Nc : List Str} {nt : Nat} {is : List Nat} {pins : List (Addr × Obj)} {σ : St} {H : Hp} {s : Shared}
theorem CompOk.start (C : CompOk X scope cl Nc nt is) {fp : List Addr} {s4 : Shared} {Cc : Addr} (I : Inv X pins σ H s) (hfp : ∀ b ∈ fp, FpOk X pins H b) (hfo : ∀ b ∈ fp, b < s.heap.objs.size) (hC : s.heap.objs.size ≤ Cc) (k : ∀ b o, s.heap.get? b = some o → s4.heap.get? b = some o) (hos : s4.os = s.os) (hg : s4.gens = s.gens) (hns : ∃ m, s4.heap.Ns Cc m) :
    Inv (XC X scope cl Nc Cc s H fp (X.pn ++ pins)) [] (cStart nt is σ) H s4 := by
  have ok := I.ok
  have cellO : ∀ x c, cl.lookup x = some c → X.env.cells.lookup x = some c := C.sub
  have nstk : ∀ b : Addr, b ≠ X.env.locals → b ∉ X.fs → b ∉ frs X.stack := fun b h1 h2 z => (List.mem_cons.mp (I.stkSub b z)).elim h1 h2
  have ltn : ∀ {b : Addr}, b < s.heap.objs.size → b ≠ Cc := fun hb z => absurd (Nat.lt_of_lt_of_le hb (z ▸ hC)) (Nat.lt_irrefl _)
  refine ⟨⟨ok.mod, ?_, ok.glob, ok.blt, hC, fun x y c h1 h2 => ok.inj x y c (cellO x c h1) (cellO y c h2), fun x hx => C.has x hx, fun x c hf _ => ?_, ok.hd, ok.frames, .inl rfl, fun b hb => ⟨ltn (hfo b hb), fun x c e => (hfp b hb).2.2.2.2.1 x c (cellO x c e)⟩,
    I.bs, Nat.le_trans ok.bsz I.sz, fun b o e hb => ?_, fun b hb => nstk b (hfp b hb).2.1 (hfp b hb).2.2.1, I.stack, I.stkFree⟩, hos, by rw [hg]; exact I.bare, Un.kept k, ?_, fun x c e => ?_, I.hok.fresh hC, fun x c e => I.freeC x c (cellO x c e), fun p hp => ?_, I.hok.kept k, ?_⟩
  · show (relabel scope X.env).kind = .function
    exact C.kind
  · cases hf
  · obtain ⟨_, _, _, h4, _⟩ := hfp b hb
    rcases h4 with z | z
    · exact ok.noex b o e z
    · exact absurd (Nat.lt_of_lt_of_le (Heap.lt_size (ok.bs b o e).1) z) (Nat.lt_irrefl _)
  · obtain ⟨m, hm⟩ := hns
    refine ⟨m, hm, fun j x v h1 h2 h3 => ?_⟩
    obtain ⟨mo, hno, hl⟩ := I.loc
    unfold cStart at h2
    by_cases hj : j < nt
    · rw [List.getElem?_append_left (by simpa using hj), List.getElem?_replicate] at h2
      rw [if_pos hj] at h2
      cases h2
    · rw [List.getElem?_append_right (by simpa using hj), List.length_replicate, List.getElem?_map] at h2
      cases hi : is[j - nt]? with
      | none => rw [hi] at h2; cases h2
      | some i =>
        rw [hi] at h2
        have h2' : (σ[i]?).join = some v := Option.some.inj h2
        have h2'' : σ[i]? = some (some v) := by
          cases q : σ[i]? with
          | none => rw [q] at h2'; cases h2'
          | some o => rw [q] at h2'; rw [show o = some v from h2']
        obtain ⟨x', e1, e2, e3, e4⟩ := C.fr (j - nt) i hi
        have ej : nt + (j - nt) = j := by omega
        rw [ej] at e1
        have h1' : Nc[j]? = some x := h1
        rw [h1'] at e1
        cases e1
        obtain ⟨u, r, l⟩ := hl i x v e2 h2'' (e3.elim (fun z => .inr (.inl z)) fun z => .inr (.inr z))
        refine ⟨u, r, .inr ⟨e4, ?_⟩⟩
        obtain ⟨c, hc⟩ := C.has x e4
        refine ⟨c, hc, ?_⟩
        rcases l with ⟨kk, _⟩ | ⟨_, c', hc', z⟩
        · rcases e3 with z | z <;> (rw [z] at kk; cases kk)
        · rw [cellO x c hc] at hc'
          cases hc'
          obtain ⟨o, ho, hd⟩ := z
          exact ⟨o, k _ _ ho, hd⟩
  · obtain ⟨v, o, ho, hd⟩ := I.cell x c (cellO x c e)
    exact ⟨v, o, k _ _ ho, hd⟩
  · have hp0 : p ∈ (X.pn ++ pins) ++ [] := hp
    have hp' : p ∈ X.pn ++ pins := by rwa [List.append_nil] at hp0
    obtain ⟨e, n, ne, nf, d⟩ := I.pin p hp'
    exact ⟨k _ _ e, n, ltn (Heap.lt_size e), nstk p.1 ne nf, d⟩
  · rw [cStart_len]; exact C.len.symm
theorem Inv.nopins (I : Inv X pins σ H s) : Inv X [] σ H s := I.pins_of fun p hp => by cases hp
theorem comp_core {elt tg iter : Expr} {ifs : List Expr} {pos : Pos} {wi : TI} {g : TG} {tt : TT} {te : TE} {Q : VK} {RR : Value → Addr → Result → Shared → Prop} (hc : X.calm = true) (C : CompOk X scope cl Nc nt is) (hi : PI X tg iter wi)
    (hg : ∀ Cc s H ex pn, PG (XC X scope cl Nc Cc s H ex pn) tg g) (ht : ∀ Cc s H ex pn, PIfs (XC X scope cl Nc Cc s H ex pn) ifs tt) (he : ∀ Cc s H ex pn, PE (XC X scope cl Nc Cc s H ex pn) elt te)
    (I : Inv X pins σ H s) (h : tComp nt is wi g tt te σ H Q)
    (fin : ∀ (D Cc : Addr) (Hd : Hp) (s4 : Shared), Inv X pins σ Hd s4 → (∃ m, s4.heap.Ns Cc m) → FpOk X pins Hd Cc → Q (.ref D) Hd → RR (.ref D) Cc (.ok .next) s4) :
    wpAny (model X.prog X.w) X.A (eval iter X.env) (fun x s₁ => wpAny (model X.prog X.w) X.A (pyIter x) (fun it s₂ => wpAny (model X.prog X.w) X.A (newList []) (fun acc s₃ =>
      wpAny (model X.prog X.w) X.A (newFunctionEnv scope X.env.globals cl [] X.env.qual none .none (some X.env)) (fun cenv s₄ =>
        codeAny (model X.prog X.w) X.A (.compStart (.ListComp elt [⟨tg, iter, ifs, 0⟩] scope pos) 0 it acc { cenv with scope := relabel scope X.env }) (RR acc cenv.locals) s₄) X.xe s₃) X.xe s₂) X.xe s₁) X.xe s := by
  refine thn (hi pins s σ H _ I h) fun v s1 h1 => thn h1 fun itv s2 h2 => ?_
  obtain ⟨it, fp, tn, J, H2, e, I2, T, st2, f2, W, ⟨m0, w0⟩, turn⟩ := h2
  subst e
  refine wpAny_newObj_type (wpAny_newFunctionEnv C.cell (by intro y hy; simp at hy) (fun h₁ hns₁ hsb₁ => ?_) C.kind)
  dsimp only at hns₁ hsb₁ ⊢
  generalize hHe : s2.heap.push { cls := .type "list", dict := none, data := .seq ([] : List Value).toArray } = He at hns₁ hsb₁ ⊢
  have hCs : He.objs.size = s2.heap.objs.size + 1 := by rw [← hHe, Heap.size_push]
  have hDC : s2.heap.objs.size ≠ He.objs.size := by rw [hCs]; exact Nat.ne_of_lt (Nat.lt_succ_self _)
  have hCle : s2.heap.objs.size ≤ He.objs.size := by rw [hCs]; exact Nat.le_succ _
  have ltC : ∀ b, b < s2.heap.objs.size → b ≠ He.objs.size := fun b hb => by rw [hCs]; exact Nat.ne_of_lt (Nat.lt_succ_of_lt hb)
  have old : ∀ b o, s2.heap.get? b = some o → h₁.get? b = some o := fun b o e => hsb₁.extBut b o (ltC b (Heap.lt_size e)) (Heap.get?_push_of_some _ (hHe ▸ Heap.get?_push_of_some _ e))
  have hacc : h₁.get? s2.heap.objs.size = some { cls := .type "list", data := .seq ([] : List Value).toArray } := hsb₁.extBut _ _ hDC (Heap.get?_push_of_some _ (hHe ▸ Heap.get?_push_size _ rfl))
  have hfo : ∀ b ∈ fp, b < s2.heap.objs.size := fun b hb => by obtain ⟨o, e, _⟩ := T.obj _ _ st2 b hb; exact Heap.lt_size e
  have hDf : ∀ b ∈ fp, b ≠ s2.heap.objs.size := fun b hb => Nat.ne_of_lt (hfo b hb)
  have hDst : s2.heap.objs.size ∉ frs X.stack := fun hm => by
    obtain ⟨_, o, ho, _⟩ := I2.stack.mem hm
    exact absurd (Heap.lt_size ho) (Nat.lt_irrefl _)
  have loop : ∀ s₃ : Shared, s₃ = { s2 with heap := h₁, toks := s2.toks + ([] : List (Str × Value)).length } →
      codeAny (model X.prog X.w) X.A (.compLoop (.ListComp elt [⟨tg, iter, ifs, 0⟩] scope pos) 0 (.ref it) (.ref s2.heap.objs.size) (compEnvC scope cl He.objs.size X.env))
        (RR (.ref s2.heap.objs.size) He.objs.size) s₃ := by
    rintro s₃ rfl
    have IC : Inv (XC X scope cl Nc He.objs.size s2 H2 fp (X.pn ++ pins)) [] (cStart nt is σ) H2 { s2 with heap := h₁, toks := s2.toks + ([] : List (Str × Value)).length } :=
      C.start I2 f2 hfo hCle old rfl rfl ⟨_, hns₁⟩
    have fpok : ∀ {pins' : List (Addr × Obj)} {H' : Hp}, (∀ b ∈ fp, H' b = none) → (∀ p ∈ pins', p.1 = s2.heap.objs.size) → ∀ b ∈ fp, FpOk (XC X scope cl Nc He.objs.size s2 H2 fp (X.pn ++ pins)) pins' H' b := fun {pins' H'} hn hp b hb => by
      obtain ⟨z0, z1, z2, z3, z4, z5⟩ := f2 b hb
      refine ⟨hn b hb, ltC b (hfo b hb), fun z => (List.mem_cons.mp (I2.stkSub b z)).elim z1 z2, .inl hb, fun x c e => z4 x c (C.sub x c e), fun p hp' => ?_⟩
      rcases List.mem_append.mp hp' with z | z
      · exact z5 p z
      · rw [hp p z]; exact (hDf b hb).symm
    refine comp_loop (fun n s' => ∃ i ys σc Hc, Inv (XC X scope cl Nc He.objs.size s2 H2 fp (X.pn ++ pins)) [] σc Hc s' ∧ tn i s'.heap ∧ (∀ b ∈ fp, Hc b = none) ∧ Hc s2.heap.objs.size = none ∧
      (∃ (its : List Value) (k : Nat), Vals ys its ∧ s'.heap.get? s2.heap.objs.size = some { cls := .type "list", data := .seq its.toArray k }) ∧ ys.length ≤ sizeLine ∧ W i n ys σc Hc) ?_ m0
      ⟨0, [], _, H2, IC, T.keep _ _ _ st2 fun b hb o e => old b o e, fun b hb => (f2 b hb).1, I2.hok.fresh (Nat.le_refl _), ⟨[], 0, .nil, hacc⟩, Nat.zero_le _, w0⟩
    rintro n s3 ⟨i, ys, σc, Hc, I3, st3, fr3, hD3, ⟨its, kk, rv, hDo⟩, hyl, w3⟩
    have IP : Inv (XC X scope cl Nc He.objs.size s2 H2 fp (X.pn ++ pins)) [(s2.heap.objs.size, { cls := .type "list", data := .seq its.toArray kk })] σc Hc s3 := I3.pins_of fun p hp => by
      have e : p = (s2.heap.objs.size, { cls := .type "list", data := .seq its.toArray kk }) := by simpa using hp
      subst e
      exact ⟨hDo, hD3, hDC, hDst, fun v z => nomatch z⟩
    have hpd : ∀ p ∈ [((s2.heap.objs.size, { cls := .type "list", data := .seq its.toArray kk }) : Addr × Obj)], p.1 = s2.heap.objs.size := fun p hp => by
      have e : p = (s2.heap.objs.size, { cls := .type "list", data := .seq its.toArray kk }) := by simpa using hp
      rw [e]
    have ofPin : ∀ {pl : List (Addr × Obj)} {σ' : St} {H' : Hp} {s' : Shared}, Inv (XC X scope cl Nc He.objs.size s2 H2 fp (X.pn ++ pins)) ([(s2.heap.objs.size, { cls := .type "list", data := .seq its.toArray kk })] ++ pl) σ' H' s' →
        s'.heap.get? s2.heap.objs.size = some { cls := .type "list", data := .seq its.toArray kk } ∧ H' s2.heap.objs.size = none := fun {pl σ' H' s'} J =>
      let z := J.pin (s2.heap.objs.size, { cls := .type "list", data := .seq its.toArray kk }) (List.mem_append_right _ (List.mem_append_left _ (by simp)))
      ⟨z.1, z.2.1⟩
    rcases turn i n ys σc Hc w3 with ⟨stop, qn⟩ | ⟨go, hlen, N, hN, step⟩
    · refine thn (T.done (XC X scope cl Nc He.objs.size s2 H2 fp (X.pn ++ pins)) rfl rfl rfl hc i _ s3 σc Hc FF IP (fpok fr3 hpd) st3 stop) fun r s4 ⟨hr, I4⟩ => ?_
      subst hr
      obtain ⟨m4, hn4, _⟩ := I4.loc
      obtain ⟨eD, nD⟩ := ofPin (pl := []) (by simpa using I4)
      have dne : ∀ b u, Hc b = some u → b ≠ s2.heap.objs.size := fun b u e z => by rw [z, nD] at e; cases e
      have hok' : HOk X.prog X.w (upd Hc s2.heap.objs.size (.lst ys)) s4.heap := fun b u e => by
        by_cases hb : b = s2.heap.objs.size
        · subst hb
          rw [upd_same] at e; cases e
          exact ⟨hyl, its, kk, rv, eD⟩
        · rw [upd_ne hb] at e
          exact (I4.hok b u e).stay (fun c v hcc q => q) (fun c q => by rw [upd_ne (dne c _ q)]; exact q) fun c xs q => by rw [upd_ne (dne c _ q)]; exact q
      have un : Un (frs X.stack) fp H2 (upd Hc s2.heap.objs.size (.lst ys)) s2.heap s4.heap := by
        have ub : Un (frs X.stack) fp H2 Hc s2.heap s4.heap := I4.base
        refine ⟨ub.keep, ub.slot, fun b o e n hx => ?_, ub.there, fun b xs e => ?_, fun b o u e => ?_, fun b ps e => ?_⟩
        · rw [upd_ne (Nat.ne_of_lt (Heap.lt_size e))]; exact ub.free b o e n hx
        · have q := ub.tups b xs e
          rw [upd_ne (dne b _ q)]; exact q
        · have q := ub.frzs b o u e
          rw [upd_ne (dne b _ q)]; exact q
        · obtain ⟨m, q⟩ := ub.tbls b ps e
          exact ⟨m, by rw [upd_ne (dne b _ q)]; exact q⟩
      have I5 : Inv X pins σ (upd Hc s2.heap.objs.size (.lst ys)) s4 := I2.call' (ch := fp) I4.os un hok' I4.bare fun b hb => by
        obtain ⟨z0, z1, z2, z3, z4, z5⟩ := f2 b hb
        exact ⟨z3, z1, z4, z5⟩
      have hCn : upd Hc s2.heap.objs.size (.lst ys) He.objs.size = none := by
        rw [upd_ne (Ne.symm hDC)]; exact I4.free
      exact fin _ _ _ s4 I5 ⟨m4, hn4⟩ (I2.fpOk hCle hCn) (qn _ nD)
    · refine thn (T.item (XC X scope cl Nc He.objs.size s2 H2 fp (X.pn ++ pins)) rfl rfl rfl hc i _ s3 σc Hc FF IP (fpok fr3 hpd) st3 go) fun r s4 ⟨u, hr, h4⟩ => ?_
      subst hr
      refine thn h4 fun _ s5 ⟨x, H5, I5, r5, y5, st5, fr5⟩ => ?_
      have I5' := I5.pinned (fpok fr5 hpd) (T.obj _ _ st5)
      have back : ∀ {σ' : St} {H' : Hp} {s' : Shared}, Inv (XC X scope cl Nc He.objs.size s2 H2 fp (X.pn ++ pins)) ([(s2.heap.objs.size, { cls := .type "list", data := .seq its.toArray kk })] ++ pinsAt fp s5.heap) σ' H' s' → tn (i + 1) s'.heap ∧ ∀ b ∈ fp, H' b = none := fun {σ' H' s'} J => by
        refine ⟨T.keep _ _ _ st5 fun b hb o e => (J.pin (b, o) (List.mem_append_right _ (List.mem_append_right _ (mem_pinsAt hb e)))).1, fun b hb => ?_⟩
        obtain ⟨o, e, d⟩ := T.obj _ _ st5 b hb
        exact (J.pin (b, o) (List.mem_append_right _ (List.mem_append_right _ (mem_pinsAt hb e)))).2.1
      refine thn (hg _ _ _ _ _ _ s5 σc H5 x u _ I5' r5 (step x H5 y5)) fun _ s6 ⟨σ6, H6, I6, q6⟩ => ?_
      refine thn (ht _ _ _ _ _ _ s6 σ6 H6 _ I6 q6) fun ok s7 ⟨H7, I7, q7⟩ => ?_
      cases ok with
      | false =>
        rw [if_neg Bool.false_ne_true] at q7 ⊢
        obtain ⟨m', hm, w7⟩ := hN _ _ _ q7
        obtain ⟨t7, n7⟩ := back I7
        obtain ⟨eD, nD⟩ := ofPin I7
        exact ⟨m', hm, i + 1, ys, σ6, H7, Inv.nopins I7, t7, n7, nD, ⟨its, kk, rv, eD⟩, hyl, w7⟩
      | true =>
        rw [if_pos rfl] at q7 ⊢
        refine thn (he _ _ _ _ _ _ s7 σ6 H7 _ I7 q7) fun uy s8 ⟨y, H8, I8, ry, q8⟩ => ?_
        obtain ⟨m', hm, w8⟩ := hN _ _ _ q8
        obtain ⟨t8, n8⟩ := back I8
        obtain ⟨eD, nD⟩ := ofPin I8
        refine append_at (hsz := by rw [List.size_toArray, ← rv.length]; exact hyl) eD fun h9 hs9 eD9 => ?_
        have I9 : Inv (XC X scope cl Nc He.objs.size s2 H2 fp (X.pn ++ pins)) [] σ6 H8 { s8 with heap := h9 } := (Inv.nopins I8).turned (it := s2.heap.objs.size) (t' := s8.toks) (fun b o hb e => (hs9.2 b hb).trans e) nD hDC (.inr (Nat.le_refl _)) (fun x c e z => by
            obtain ⟨v, q⟩ := I2.cell x c (C.sub x c e)
            exact absurd q.lt (by rw [z]; exact Nat.lt_irrefl _)) (fun p hp z => by
            have hp0 : p ∈ (X.pn ++ pins) ++ [] := hp
            have hp' : p ∈ X.pn ++ pins := by rwa [List.append_nil] at hp0
            exact absurd (Heap.lt_size (I2.pin p hp').1) (by rw [z]; exact Nat.lt_irrefl _))
        refine ⟨m', hm, i + 1, ys ++ [y], σ6, H8, I9, T.keep _ _ _ t8 fun b hb o e => (hs9.2 b (hDf b hb)).trans e, n8, nD, ⟨its ++ [uy], kk + 1, rv.append (.cons ry .nil), by rw [eD9]; simp⟩, ?_, w8⟩
        rw [List.length_append, List.length_singleton]
        omega
  exact codeAny_compStart_list (loop _ rfl) (T.self _ 0 _ _ _ (T.keep _ _ _ st2 fun b hb o e => old b o e) (loop _ rfl))
theorem pe_comp {elt tg iter : Expr} {ifs : List Expr} {pos : Pos} {wi : TI} {g : TG} {tt : TT} {te : TE} (hc : X.calm = true) (C : CompOk X scope cl Nc nt is) (hi : PI X tg iter wi)
    (hg : ∀ Cc s H ex pn, PG (XC X scope cl Nc Cc s H ex pn) tg g) (ht : ∀ Cc s H ex pn, PIfs (XC X scope cl Nc Cc s H ex pn) ifs tt) (he : ∀ Cc s H ex pn, PE (XC X scope cl Nc Cc s H ex pn) elt te)
    (hs : ∀ x, foldedSetIterable iter X.env x = pure x := by intro _; rfl) : PE X (.ListComp elt [⟨tg, iter, ifs, 0⟩] scope pos) (tComp nt is wi g tt te) := by
  intro pins s σ H Q I h
  rw [eval_ListComp]
  refine wpAny_comprehension_free (use := none) rfl hs C.clos C.kind C.names (comp_core (RR := fun acc Cc => compPost (model X.prog X.w) X.A X.xe none (EP X pins σ Q) acc Cc) hc C hi hg ht he I h fun D Cc Hd s4 I4 hm hf q => ?_)
  obtain ⟨m, hm⟩ := hm
  obtain ⟨z0, z1, z2, z3, z4, z5⟩ := hf
  exact ⟨m, hm, fun h' hs' => ⟨.ref D, Hd, I4.turned (it := Cc) (t' := s4.toks) (fun b o hb e => (hs'.2 b hb).trans e) z0 z1 z3 z4 z5, rfl, q⟩⟩
def tSetC (i : Nat) (te : TE) : TS := fun D σ H => te σ H fun v H1 => D.nx (σ.set i (some v)) H1
theorem ps_setC {elt tg iter : Expr} {ifs : List Expr} {pos spos py : Pos} {y : Str} {i : Nat} {wi : TI} {g : TG} {tt : TT} {te : TE} (hc : X.calm = true) (C : CompOk X scope cl Nc nt is) (hN : X.N.Nodup) (hy : X.N[i]? = some y) (hl : X.env.scope.names.lookup y = some .local)
    (hsw : swapsWith (.ListComp elt [⟨tg, iter, ifs, 0⟩] scope pos) (some (.Name y py)) spos.line X.env = pure true) (hi : PI X tg iter wi)
    (hg : ∀ Cc s H ex pn, PG (XC X scope cl Nc Cc s H ex pn) tg g) (ht : ∀ Cc s H ex pn, PIfs (XC X scope cl Nc Cc s H ex pn) ifs tt) (he : ∀ Cc s H ex pn, PE (XC X scope cl Nc Cc s H ex pn) elt te)
    (hs : ∀ x, foldedSetIterable iter X.env x = pure x := by intro _; rfl) : PS X (.Assign [.Name y py] (.ListComp elt [⟨tg, iter, ifs, 0⟩] scope pos) spos) (tSetC i (tComp nt is wi g tt te)) := by
  intro pins s σ H D I h
  rw [exec_Assign_Name_used _ _ _ _ hsw]
  refine wpAny_bind (wpAny_standAt (wpAny_bind ?_))
  show wpAny _ X.A (do let _ ← comprehension (.ListComp elt [⟨tg, iter, ifs, 0⟩] scope pos) scope X.env _ (newList []) false (eval iter X.env) (some (assign (.Name y py) X.env))) _ _ s
  refine wpAny_bind (wpAny_mono (wpAny_comprehension_free (use := some (assign (.Name y py) X.env)) (Q := fun _ s' => SP X pins D .next s') rfl hs C.clos C.kind C.names
    (comp_core (RR := fun acc Cc => compPost (model X.prog X.w) X.A X.xe (some (assign (.Name y py) X.env)) (fun _ s' => SP X pins D .next s') acc Cc) hc C hi hg ht he I h fun Da Cc Hd s4 I4 hm hf q => ?_)) (fun _ s' hq => wpAny_pure (wpAny_pure hq)) fun _ _ e => e)
  obtain ⟨m, hm⟩ := hm
  obtain ⟨z0, z1, z2, z3, z4, z5⟩ := hf
  show wpAny _ X.A (assign (.Name y py) X.env (.ref Da)) _ _ s4
  refine wpAny_assign_Name (store_ok2 (v := .ref Da) I4 hN hy (Or.inl hl) rfl (fun s5 I5 hsb => ?_) (.inr hl))
  have ne : ∃ a, Heap.SameBut a s4.heap s5.heap ∧ Cc ≠ a := by
    obtain ⟨a, hsb, ha⟩ := hsb
    refine ⟨a, hsb, ?_⟩
    rcases ha with ha | ha
    · rw [ha]; exact z1
    · exact (z4 y a ha).symm
  obtain ⟨a, hsb, hne⟩ := ne
  exact ⟨m, hm.sameBut hsb hne, fun h' hs' => ⟨_, Hd, I5.turned (it := Cc) (t' := s5.toks) (fun b o hb e => (hs'.2 b hb).trans e) z0 z1 z3 z4 z5, q⟩⟩
end
theorem comp_list {K : PySem.W.Frag} {a : Addr} {xs : List V} {g : TG} {tt : TT} {te : TE} {Q : VK} {σc : St} {H : Hp} (Pv : Nat → List V → St → Hp → Prop) (h0 : Pv 0 [] σc H) (hz : xs.length ≤ sizeLine) (hl : ∀ i ys σ H, i ≤ xs.length → Pv i ys σ H → SqL K H a xs) (hy : ∀ i ys σ H, Pv i ys σ H → ys.length ≤ i)
    (hs : ∀ i x ys σ H, xs[i]? = some x → Pv i ys σ H → g x σ H fun σ2 H2 => tt σ2 H2 fun b H3 => if b = true then te σ2 H3 fun y H4 => Pv (i + 1) (ys ++ [y]) σ2 H4 else Pv (i + 1) ys σ2 H3)
    (hd : ∀ ys σ H, Pv xs.length ys σ H → ∀ p, H p = none → Q (.ref p) (upd H p (.lst ys))) :
    tCompW g tt te (Itl K a) σc H Q := by
  refine ⟨fun i m ys σ H => m = xs.length - i ∧ i ≤ xs.length ∧ Pv i ys σ H, ⟨xs.length, by simp, Nat.zero_le _, h0⟩, ?_⟩
  rintro i m ys σ H ⟨rfl, hi, p⟩
  have q := hl i ys σ H hi p
  by_cases hlt : i < xs.length
  · refine .inr ⟨⟨xs, xs[i], q, by simp [hlt]⟩, Nat.lt_of_le_of_lt (hy i ys σ H p) (Nat.lt_of_lt_of_le hlt hz), Pv (i + 1), fun ys' σ' H' p' => ⟨xs.length - (i + 1), by omega, rfl, hlt, p'⟩, fun x H' y => ?_⟩
    obtain ⟨e, y⟩ := y
    subst e
    exact hs i x ys σ _ (y xs q) p
  · have e : i = xs.length := by omega
    subst e
    exact .inl ⟨⟨xs, q, Nat.le_refl _⟩, hd ys σ H p⟩
theorem comp_range {lo : Int} {n : Nat} {g : TG} {tt : TT} {te : TE} {Q : VK} {σc : St} {H : Hp} (Pv : Nat → List V → St → Hp → Prop) (h0 : Pv 0 [] σc H) (hz : n ≤ sizeLine) (hy : ∀ i ys σ H, Pv i ys σ H → ys.length ≤ i)
    (hs : ∀ i ys σ H, i < n → Pv i ys σ H → g (.int (lo + i)) σ H fun σ2 H2 => tt σ2 H2 fun b H3 => if b = true then te σ2 H3 fun y H4 => Pv (i + 1) (ys ++ [y]) σ2 H4 else Pv (i + 1) ys σ2 H3)
    (hd : ∀ ys σ H, Pv n ys σ H → ∀ p, H p = none → Q (.ref p) (upd H p (.lst ys))) :
    tCompW g tt te (Itr lo n) σc H Q := by
  refine ⟨fun i m ys σ H => m = n - i ∧ i ≤ n ∧ Pv i ys σ H, ⟨n, by simp, Nat.zero_le _, h0⟩, ?_⟩
  rintro i m ys σ H ⟨rfl, hi, p⟩
  by_cases hlt : i < n
  · refine .inr ⟨hlt, Nat.lt_of_le_of_lt (hy i ys σ H p) (Nat.lt_of_lt_of_le hlt hz), Pv (i + 1), fun ys' σ' H' p' => ⟨n - (i + 1), by omega, rfl, hlt, p'⟩, fun x H' y => ?_⟩
    obtain ⟨e, y⟩ := y
    subst e y
    exact hs i ys σ _ hlt p
  · have e : i = n := by omega
    subst e
    exact .inl ⟨Nat.le_refl _, hd ys σ H p⟩
end L2
set_option Elab.async false
set_option linter.all false
set_option maxRecDepth 100000
set_option maxHeartbeats 4000000
namespace L2
open PySem PySem.Spec PyProof.Rows
theorem small_text {i : Int} (h0 : 0 ≤ i) (h1 : i < 100) : (Str.ofString (toString i)).length ≤ 10 := by
  have e := int_text_length_le10 (a := i) (k := 2) (by decide) (by omega)
  rw [PySem.ofString_length]
  omega
theorem small_log {i : Int} (h0 : 0 ≤ i) (h1 : i < 100) : i.natAbs.log2 < 1920 := by
  have h2 : i.natAbs < 2 ^ 7 := by omega
  by_cases h3 : i.natAbs = 0
  · rw [h3]; decide
  · have := (Nat.log2_lt h3).mpr h2
    omega
theorem pe_fstr {X : Cx} {a b : Str} {v : Expr} {tv : TE} {j1 j2 : Nat} {p1 p2 p3 pos : Pos} (hv : PE X v tv) (ha : a.length ≤ 1000) (hb : b.length ≤ 1000) :
    PE X (.JoinedStr [.Constant (.str a) j1 p1, .FormattedValue v (-1) none p2, .Constant (.str b) j2 p3] pos) (fun σ H Q => tv σ H fun x H1 => ∃ i : Int, x = .int i ∧ 0 ≤ i ∧ i < 100 ∧ ∀ m, Q (.str m) H1) := by
  intro pins s σ H Q I h
  have hz : sizeLine = 16777216 := sizeLine_eq
  refine JoinedStr_many (joinParts_cons (Calls.Constant_str ⟨?_, joinParts_cons (FormattedValue_plain (thn (hv pins _ σ H _ (I.tok _) h) fun u s1 ⟨x, H1, I1, r1, i, ex, h0, h1, q⟩ => ?_))⟩))
  · rw [strLen_append]
    have : Str.empty.length = 0 := rfl
    omega
  · subst ex
    obtain ⟨t, rfl⟩ := r1
    have e1 := small_text h0 h1
    have e0 : Str.empty.length = 0 := rfl
    refine formatField_int_small (small_log h0 h1) ⟨?_, joinParts_cons (Calls.Constant_str ⟨?_, joinParts_nil ⟨.str _, H1, (I1.tok _).tok _ |>.tok _, ⟨_, rfl⟩, q _⟩ ?_⟩)⟩
    · rw [strLen_append, strLen_append]; omega
    · rw [strLen_append, strLen_append, strLen_append]; omega
    · rw [strLen_append, strLen_append, strLen_append]; omega
def Ite (K : PySem.W.Frag) (a : Addr) : It :=
  ⟨fun i H => ∃ xs x, SqL K H a xs ∧ xs[i]? = some x, fun i H x H' => ∃ p y, H p = none ∧ (∀ xs, SqL K H a xs → xs[i]? = some y) ∧ H' = upd H p (.tup [.int i, y]) ∧ x = .ref p, fun i H => ∃ xs, SqL K H a xs ∧ xs.length ≤ i⟩
theorem turn_enum {P : Program} {w : World} {K : PySem.W.Frag} {elts : List Expr} {x1} {tp : Pos} (a e it : Addr) (hne : e ≠ it) : Turn P w K (.Tuple elts x1 tp) (Ite K a) [e, it] e (fun i h => (∃ old, IsEnum h e it i old) ∧ h.IsListIter it a i) where
  mem := by simp
  obj := fun i h st b hb => by
    obtain ⟨⟨old, he⟩, o, ho, hc, hd⟩ := st
    have hb' : b = e ∨ b = it := by simpa using hb
    rcases hb' with rfl | rfl
    · exact ⟨_, he, fun v z => nomatch z⟩
    · exact ⟨o, ho, fun v z => by rw [hd] at z; cases z⟩
  keep := fun i h h' st k => by
    obtain ⟨⟨old, he⟩, hit⟩ := st
    exact ⟨⟨old, k e (by simp) _ he⟩, hit.at fun o x => k it (by simp) o x⟩
  item := fun X eP ew eK hc i pins s σ H E I hf st go => by
    subst eP ew eK
    obtain ⟨⟨old, he⟩, hit⟩ := st
    obtain ⟨xs, x, hq, hx⟩ := go
    obtain ⟨its, rv, p, hz⟩ := I.list hq
    obtain ⟨u, hu, ru⟩ := rv.get hx
    refine wpAny_pyNext_enum_item he hit p.isList (x := u) (by simpa using hu) hne fun h' ho hit' hT hsz hk => ⟨_, rfl, ?_⟩
    refine wpAny_letOwnedTupleGo_enum ho fun h'' he'' hs'' => ?_
    have fr : H s.heap.objs.size = none := I.hok.fresh (Nat.le_refl _)
    have elt : e < s.heap.objs.size := Heap.lt_size he
    have ilt : it < s.heap.objs.size := by obtain ⟨o, ho, _⟩ := hit; exact Heap.lt_size ho
    have kp : ∀ b o, b ≠ e → b ≠ it → s.heap.get? b = some o → h''.get? b = some o := fun b o h1 h2 q => (hs''.2 b h1).trans (hk b o h1 h2 q)
    have hT' : h''.get? s.heap.objs.size = some { cls := .type "tuple", data := .seq #[.int i s.toks, u] } := (hs''.2 _ (Nat.ne_of_gt elt)).trans hT
    have tne : ∀ b w', H b = some w' → b ≠ e ∧ b ≠ it := fun b w' q => ⟨(fun z => by rw [z, (hf e (by simp)).1] at q; cases q), (fun z => by rw [z, (hf it (by simp)).1] at q; cases q)⟩
    have fne : ∀ b w', H b = some w' → b ≠ s.heap.objs.size := fun b w' q z => by rw [z, fr] at q; cases q
    have hok' : HOk X.prog X.w (upd H s.heap.objs.size (.tup [.int i, x])) h'' := fun b w' q => by
      by_cases hb : b = s.heap.objs.size
      · subst hb
        rw [upd_same] at q; cases q
        exact ⟨by show 2 ≤ sizeLine; decide, [.int i s.toks, u], .cons ⟨_, rfl⟩ (.cons ru .nil), ⟨_, hT', rfl, _, rfl⟩⟩
      · rw [upd_ne hb] at q
        refine (I.hok b w' q).stay (fun c v hcc z => ?_) (fun c z => by rw [upd_ne (fne c _ z)]; exact z) fun c ys z => by rw [upd_ne (fne c _ z)]; exact z
        rcases hcc with zz | zz
        · subst zz; exact kp c v (tne c _ q).1 (tne c _ q).2 z
        · exact kp c v (tne c _ zz).1 (tne c _ zz).2 z
    have chs : ∀ b ∈ [e, it], (b ∈ X.ex ∨ X.s₀.heap.objs.size ≤ b) ∧ b ≠ X.env.locals ∧ (∀ x c, X.env.cells.lookup x = some c → c ≠ b) ∧ ∀ p ∈ X.pn ++ pins, p.1 ≠ b := fun b hb => by
      obtain ⟨z0, z1, z2, z3, z4, z5⟩ := hf b hb
      exact ⟨z3, z1, z4, z5⟩
    have nch : ∀ b : Addr, b ∉ [e, it] → b ≠ e ∧ b ≠ it := fun b hb => ⟨fun z => hb (by simp [z]), fun z => hb (by simp [z])⟩
    have I' : Inv X pins σ (upd H s.heap.objs.size (.tup [.int i, x])) { s with heap := h'', toks := s.toks + 1 } := by
      refine I.step (g' := s.gens) (t' := s.toks + 1) (d' := s.drawn) (ch := [e, it]) chs (fun b o _ _ hb q _ => kp b o (nch b hb).1 (nch b hb).2 q) (fun b o _ _ hb q _ => ⟨o.slots, kp b o (nch b hb).1 (nch b hb).2 q⟩)
        (fun b o hb q n => by rw [upd_ne (Nat.ne_of_lt (Heap.lt_size q))]; exact n) (fun b o hb q => ⟨o, kp b o (nch b hb).1 (nch b hb).2 q⟩) (fun b ys q => by rw [upd_ne (fne b _ q)]; exact q) (fun b o v q => by rw [upd_ne (fne b _ q)]; exact q)
        (fun b ps q => ⟨#[], by rw [upd_ne (fne b _ q), q]; simp⟩) (fun m hm => ?_) hok' I.bare
      obtain ⟨o, es, ep, ho', r⟩ := hm
      exact ⟨o, es, ep, kp _ o (Ne.symm (hf e (by simp)).2.1) (Ne.symm (hf it (by simp)).2.1) ho', r⟩
    refine ⟨.ref s.heap.objs.size, _, I', rfl, ⟨_, x, fr, fun ys hys => ?_, rfl, rfl⟩, ⟨⟨_, by simpa using he''⟩, hit'.at fun o z => (hs''.2 it (Ne.symm hne)).trans z⟩, fun b hb => ?_⟩
    · rw [← I.list_inj hq hys]; exact hx
    · have hb' : b = e ∨ b = it := by simpa using hb
      rw [upd_ne (by rcases hb' with z | z <;> (subst z; first | exact Nat.ne_of_lt elt | exact Nat.ne_of_lt ilt))]
      exact (hf b hb).1
  done := fun X eP ew eK hc i pins s σ H E I hf st stop => by
    subst eP ew eK
    obtain ⟨⟨old, he⟩, hit⟩ := st
    obtain ⟨xs, hq, hl⟩ := stop
    obtain ⟨its, rv, p, hz⟩ := I.list hq
    refine wpAny_pyNext_enum_end (I.ok.hd hc) he hit p.isList (by simp; have := rv.length; omega) fun h' hx => ⟨rfl, ?_⟩
    obtain ⟨z0, z1, z2, z3, z4, z5⟩ := hf it (by simp)
    exact I.turned (it := it) (t' := s.toks) (fun b o hb q => hx b o hb q) z0 z1 z3 z4 z5
  self := fun A i s Q E st q => by
    obtain ⟨⟨old, he⟩, _⟩ := st
    exact wpAny_pyIter_enum he q
def iEnum (K : PySem.W.Frag) (ta : TA) : TI := fun σ H R => ta σ H fun vs H1 => ∃ a, vs = [.ref a] ∧ (∃ xs, SqL K H1 a xs) ∧ R (Ite K a) H1
theorem pi_enum {X : Cx} {a : Expr} {ta : TA} {p pos : Pos} {elts : List Expr} {x1} {tp : Pos} (hg : Gl X "enumerate") (hm : X.mg "enumerate" = none) (ha : PA X [a] ta) (hs : starEach [a] X.env = [(false, eval a X.env)] := by rfl) :
    PI X (.Tuple elts x1 tp) (.Call (.Name "enumerate" p) [a] [] pos) (iEnum X.K ta) := by
  intro pins s σ H R I h
  refine Call_ (ld_blt I hg hm boot_enumerate (PyProof.Rows.callWith_type1 (thn (ha pos pins s σ H _ I h) fun us s1 ⟨vs, H1, I1, r1, q1⟩ => ?_) hs rfl))
  obtain ⟨l, e, ⟨xs, hq⟩, q⟩ := q1
  subst e
  cases r1 with
  | cons r rr =>
    cases rr
    obtain rfl := (show _ = Value.ref l from r)
    obtain ⟨its, rv, pl, hz⟩ := I1.list hq
    refine call_enumerate_list pl.isList fun h' he hit hsz hk => ?_
    refine wpAny_pyIter_enum he ?_
    have I2 : Inv X pins σ H1 { s1 with heap := h' } := I1.kept (t' := s1.toks) hk
    refine ⟨s1.heap.objs.size + 1, [s1.heap.objs.size + 1, s1.heap.objs.size], _, _, H1, rfl, I2, turn_enum l _ _ (Nat.ne_of_gt (Nat.lt_succ_self _)), ⟨⟨_, he⟩, hit⟩, fun b hb => ?_, q⟩
    have hb' : b = s1.heap.objs.size + 1 ∨ b = s1.heap.objs.size := by simpa using hb
    rcases hb' with z | z
    · subst z; exact I1.fpOk (Nat.le_succ _) (I1.hok.fresh (Nat.le_succ _))
    · subst z; exact I1.fpOk (Nat.le_refl _) (I1.hok.fresh (Nat.le_refl _))
theorem for_enum {K : PySem.W.Frag} {a : Addr} {xs : List V} {g : TG} {tb : TS} {D : Ends} {σ : St} {H : Hp} (Pv : Nat → St → Hp → Prop) (h0 : Pv 0 σ H) (hl : ∀ i σ H, i ≤ xs.length → Pv i σ H → SqL K H a xs)
    (hs : ∀ i x σ H p, xs[i]? = some x → Pv i σ H → H p = none → g (.ref p) σ (upd H p (.tup [.int i, x])) fun σ2 H2 => tb { D with nx := Pv (i + 1), ct := Pv (i + 1), bk := D.nx } σ2 H2) (hd : ∀ σ H, Pv xs.length σ H → D.nx σ H) :
    ∃ W : Nat → Nat → St → Hp → Prop, (∃ m, W 0 m σ H) ∧ ∀ i m σ H, W i m σ H →
      ((Ite K a).stop i H ∧ D.nx σ H) ∨ ((Ite K a).go i H ∧ ∃ N : St → Hp → Prop, (∀ σ' H', N σ' H' → ∃ m', m' < m ∧ W (i + 1) m' σ' H') ∧ ∀ x H', (Ite K a).yld i H x H' → g x σ H' fun σ2 H2 => tb { D with nx := N, ct := N, bk := D.nx } σ2 H2) := by
  refine ⟨fun i m σ H => m = xs.length - i ∧ i ≤ xs.length ∧ Pv i σ H, ⟨xs.length, by simp, Nat.zero_le _, h0⟩, ?_⟩
  rintro i m σ H ⟨rfl, hi, p⟩
  have q := hl i σ H hi p
  by_cases hlt : i < xs.length
  · refine .inr ⟨⟨xs, xs[i], q, by simp [hlt]⟩, Pv (i + 1), fun σ' H' p' => ⟨xs.length - (i + 1), by omega, rfl, hlt, p'⟩, fun x H' y => ?_⟩
    obtain ⟨pp, y, hp, hy, rfl, rfl⟩ := y
    exact hs i y σ H pp (hy xs q) p hp
  · have e : i = xs.length := by omega
    subst e
    exact .inl ⟨⟨xs, q, Nat.le_refl _⟩, hd σ H p⟩
end L2
set_option Elab.async false
set_option linter.all false
set_option maxRecDepth 100000
set_option maxHeartbeats 4000000
namespace L2
open PySem PySem.Spec PyProof.Rows PySem.SeqAt
inductive Dt where
  | non | bl (b : Bool) | int (i : Int) | str (x : Str) | tup (l : List Dt) | lst (l : List Dt)
mutual
def eqD : Dt → Dt → Bool
  | .non, .non => true
  | .bl a, .bl b => a == b
  | .bl a, .int b => (if a then 1 else 0) == b
  | .int a, .bl b => a == (if b then 1 else 0)
  | .int a, .int b => a == b
  | .str a, .str b => a == b
  | .tup a, .tup b => eqDs a b
  | .lst a, .lst b => eqDs a b
  | _, _ => false
def eqDs : List Dt → List Dt → Bool
  | [], [] => true
  | a :: r, b :: t => eqD a b && eqDs r t
  | _, _ => false
end
mutual
def dep : Dt → Nat
  | .tup l => depL l + 1
  | .lst l => depL l + 1
  | _ => 0
def depL : List Dt → Nat
  | [] => 0
  | d :: r => max (dep d) (depL r)
end
mutual
theorem eqD_refl : ∀ d : Dt, eqD d d = true
  | .non => by simp [eqD]
  | .bl _ => by simp [eqD]
  | .int _ => by simp [eqD]
  | .str _ => by simp [eqD]
  | .tup l => by rw [eqD]; exact eqDs_refl l
  | .lst l => by rw [eqD]; exact eqDs_refl l
theorem eqDs_refl : ∀ l : List Dt, eqDs l l = true
  | [] => by simp [eqDs]
  | d :: r => by rw [eqDs, eqD_refl d, eqDs_refl r]; rfl
end
mutual
inductive Has (K : PySem.W.Frag) (H : Hp) : V → Dt → Prop where
  | non : Has K H .non .non
  | bl (b : Bool) : Has K H (.bl b) (.bl b)
  | int (i : Int) : Has K H (.int i) (.int i)
  | str (x : Str) : Has K H (.str x) (.str x)
  | tup {a : Addr} {xs : List V} {ds : List Dt} : SqT K H a xs → HasL K H xs ds → Has K H (.ref a) (.tup ds)
  | lst {a : Addr} {xs : List V} {ds : List Dt} : SqL K H a xs → HasL K H xs ds → Has K H (.ref a) (.lst ds)
inductive HasL (K : PySem.W.Frag) (H : Hp) : List V → List Dt → Prop where
  | nil : HasL K H [] []
  | cons {x : V} {d : Dt} {xs : List V} {ds : List Dt} : Has K H x d → HasL K H xs ds → HasL K H (x :: xs) (d :: ds)
end
section
variable {K : PySem.W.Frag} {H H' : Hp}
theorem HasL.length : ∀ {xs : List V} {ds : List Dt}, HasL K H xs ds → xs.length = ds.length
  | _, _, .nil => rfl
  | _, _, .cons _ t => by simp [HasL.length t]
theorem HasL.get : ∀ {xs : List V} {ds : List Dt} {i : Nat} {x : V}, HasL K H xs ds → xs[i]? = some x → ∃ d, ds[i]? = some d ∧ Has K H x d
  | _, _, _, _, .nil, e => by simp at e
  | _, _, 0, _, .cons r _, e => by simp at e; subst e; exact ⟨_, rfl, r⟩
  | _, _, i + 1, x, .cons _ t, e => by
    obtain ⟨u, h1, h2⟩ := HasL.get (i := i) (x := x) t (by simpa using e)
    exact ⟨u, by simpa using h1, h2⟩
theorem HasL.of : ∀ {xs : List V} {ds : List Dt} {i : Nat} {d : Dt}, HasL K H xs ds → ds[i]? = some d → ∃ x, xs[i]? = some x ∧ Has K H x d
  | _, _, _, _, .nil, e => by simp at e
  | _, _, 0, _, .cons r _, e => by simp at e; subst e; exact ⟨_, rfl, r⟩
  | _, _, i + 1, x, .cons _ t, e => by
    obtain ⟨u, h1, h2⟩ := HasL.of (i := i) (d := x) t (by simpa using e)
    exact ⟨u, by simpa using h1, h2⟩
theorem HasL.append : ∀ {xs ys : List V} {ds es : List Dt}, HasL K H xs ds → HasL K H ys es → HasL K H (xs ++ ys) (ds ++ es)
  | _, _, _, _, .nil, s => s
  | _, _, _, _, .cons r t, s => .cons r (HasL.append t s)
theorem HasL.take : ∀ {xs : List V} {ds : List Dt} (n : Nat), HasL K H xs ds → HasL K H (xs.take n) (ds.take n)
  | _, _, 0, _ => by simpa using HasL.nil
  | _, _, _ + 1, .nil => by simpa using HasL.nil
  | _, _, n + 1, .cons r t => by simpa using HasL.cons r (HasL.take n t)
theorem hasL_ints (H : Hp) : ∀ ns : List Int, HasL K H (ns.map V.int) (ns.map Dt.int)
  | [] => .nil
  | n :: r => .cons (.int n) (hasL_ints H r)
theorem hasL_ints_inv : ∀ {xs : List V} {ns : List Int}, HasL K H xs (ns.map Dt.int) → xs = ns.map V.int
  | _, [], h => by cases h; rfl
  | _, n :: r, h => by
    cases h with
    | cons h t =>
      cases h
      rw [hasL_ints_inv t]; rfl
theorem Same.sqT (e : L2.Same H H') {a : Addr} {xs : List V} (h : SqT K H a xs) : SqT K H' a xs := by
  rcases h with (h | ⟨o, h⟩) | h
  · exact .inl (.inl (e _ _ h))
  · exact .inl (.inr ⟨o, e _ _ h⟩)
  · exact .inr h
mutual
theorem Has.same (e : L2.Same H H') : ∀ {x : V} {d : Dt}, Has K H x d → Has K H' x d
  | _, _, .non => .non
  | _, _, .bl b => .bl b
  | _, _, .int i => .int i
  | _, _, .str x => .str x
  | _, _, .tup h t => .tup (Same.sqT e h) (HasL.same e t)
  | _, _, .lst h t => .lst (e.seq h) (HasL.same e t)
theorem HasL.same (e : L2.Same H H') : ∀ {xs : List V} {ds : List Dt}, HasL K H xs ds → HasL K H' xs ds
  | _, _, .nil => .nil
  | _, _, .cons h t => .cons (Has.same e h) (HasL.same e t)
end
end
theorem same_upd {H : Hp} {p : Addr} {o : HO} (h : H p = none) : L2.Same H (upd H p o) := fun b u e => by rw [upd_ne (ne_of_none e h)]; exact e
section
variable {X : Cx} {pins : List (Addr × Obj)} {σ : St} {H : Hp} {s : Shared}
theorem sq_apart (I : Inv X pins σ H s) {a : Addr} {xs ys : List V} (h : SqL X.K H a xs) (h' : SqT X.K H a ys) : False := by
  obtain ⟨its, r, ⟨o, n, e, hc, _, d⟩, _⟩ := I.list h
  obtain ⟨its', r', ⟨o', e', hc', n', d'⟩, _⟩ := I.tuple h'
  rw [e] at e'; cases e'
  rw [hc] at hc'
  injection hc' with z
  exact absurd z (by decide)
mutual
theorem Has.inj (I : Inv X pins σ H s) : ∀ {x : V} {d e : Dt}, Has X.K H x d → Has X.K H x e → d = e
  | _, _, _, .non, h => by cases h; rfl
  | _, _, _, .bl b, h => by cases h; rfl
  | _, _, _, .int b, h => by cases h; rfl
  | _, _, _, .str b, h => by cases h; rfl
  | _, _, _, .tup q t, h => by
    cases h with
    | tup q' t' => have := I.tuple_inj q q'; subst this; rw [HasL.inj I t t']
    | lst q' t' => exact (sq_apart I q' q).elim
  | _, _, _, .lst q t, h => by
    cases h with
    | lst q' t' => have := I.list_inj q q'; subst this; rw [HasL.inj I t t']
    | tup q' t' => exact (sq_apart I q q').elim
theorem HasL.inj (I : Inv X pins σ H s) : ∀ {xs : List V} {d e : List Dt}, HasL X.K H xs d → HasL X.K H xs e → d = e
  | _, _, _, .nil, h => by cases h; rfl
  | _, _, _, .cons h t, g => by
    cases g with
    | cons h' t' => rw [Has.inj I h h', HasL.inj I t t']
end
def eAt (ds es : List Dt) (j : Nat) : Bool := match ds[j]?, es[j]? with
  | some d, some e => eqD d e
  | _, _ => false
theorem eqDs_len : ∀ (ds es : List Dt), ds.length ≠ es.length → eqDs ds es = false
  | [], [], h => absurd rfl h
  | [], _ :: _, _ => by simp [eqDs]
  | _ :: _, [], _ => by simp [eqDs]
  | d :: r, e :: t, h => by
    rw [eqDs, eqDs_len r t (by simpa using h), Bool.and_false]
theorem eqDs_all : ∀ (ds es : List Dt), ds.length = es.length → (List.range ds.length).all (eAt ds es) = eqDs ds es
  | [], [], _ => by simp [eqDs]
  | [], _ :: _, h => by simp at h
  | _ :: _, [], h => by simp at h
  | d :: r, e :: t, h => by
    have ih := eqDs_all r t (by simpa using h)
    rw [eqDs, ← ih, List.length_cons, List.range_succ_eq_map, List.all_cons, List.all_map]
    congr 1
theorem eqDs_tup (ds es : List Dt) : ((List.range (min ds.length es.length)).all (eAt ds es) && ds.length == es.length) = eqDs ds es := by
  by_cases h : ds.length = es.length
  · rw [h, Nat.min_self, ← h, eqDs_all ds es h]; simp [h]
  · rw [eqDs_len ds es h]; simp [h]
theorem dep_get : ∀ {ds : List Dt} {j : Nat} {d : Dt}, ds[j]? = some d → dep d ≤ depL ds
  | [], _, _, h => by simp at h
  | e :: r, 0, d, h => by simp at h; subst h; rw [depL]; exact Nat.le_max_left _ _
  | e :: r, j + 1, d, h => by
    have := dep_get (ds := r) (j := j) (d := d) (by simpa using h)
    rw [depL]; exact Nat.le_trans this (Nat.le_max_right _ _)
theorem EqAt.of_rc {A : Around} {s : Shared} {u v : Value} {k : Bool} (h : RcAt A s u v k) (hs : u = v → k = true) (hf : ∀ b t, u ≠ .float b t) : EqAt A s u v k := fun prog w E Q hq => by
  unfold eqBool
  refine wpAny_holding ?_
  refine wpAny_ite_split (fun hab => ?_) (fun _ => ?_)
  · have e := hs (eq_of_beq hab)
    subst e
    exact wpAny_bind (wpAny_rule (wpAny_pure hq))
  · cases u with
    | float b t => exact absurd rfl (hf b t)
    | _ => exact wpAny_bind (h prog w E _ (wpAny_truthy_bool hq))
theorem Has.noFloat {K : PySem.W.Frag} {H : Hp} {x : V} {d : Dt} {u : Value} (h : Has K H x d) (r : RelV x u) : ∀ b t, u ≠ .float b t := by
  intro b t e
  subst e
  cases h with
  | non => cases (show Value.float b t = Value.none from r)
  | bl c => cases (show Value.float b t = Value.bool c from r)
  | int i => obtain ⟨t', z⟩ := (show ∃ t', Value.float b t = Value.int i t' from r); cases z
  | str x => obtain ⟨t', z⟩ := (show ∃ t', Value.float b t = Value.str x t' from r); cases z
  | tup q t' => cases (show Value.float b t = Value.ref _ from r)
  | lst q t' => cases (show Value.float b t = Value.ref _ from r)
theorem eq_of_same (I : Inv X pins σ H s) {d e : Dt} {x y : V} {u v : Value} (hx : Has X.K H x d) (hy : Has X.K H y e) (rx : RelV x u) (ry : RelV y v) (h : u = v) : eqD d e = true := by
  subst h
  have := rx.inj ry
  subst this
  rw [Has.inj I hx hy, eqD_refl]
theorem elems_at (I : Inv X pins σ H s) {n : Nat} (ih : ∀ (d e : Dt) (x y : V) (u v : Value) (A : Around), dep d ≤ n → Has X.K H x d → Has X.K H y e → RelV x u → RelV y v → A.units + n < cLine → RcAt A s u v (eqD d e))
    {A : Around} {ds es : List Dt} {xs ys : List V} {us vs : List Value} (hd : depL ds ≤ n) (t1 : HasL X.K H xs ds) (t2 : HasL X.K H ys es) (r1 : Vals xs us) (r2 : Vals ys vs) (hu : A.units + n < cLine) :
    ∀ j (h1 : j < us.toArray.size) (h2 : j < vs.toArray.size), EqAt A s us.toArray[j] vs.toArray[j] (eAt ds es j) := by
  intro j h1 h2
  have h1' : j < us.length := by simpa using h1
  have h2' : j < vs.length := by simpa using h2
  have hx : j < xs.length := by rw [r1.length]; exact h1'
  have hy : j < ys.length := by rw [r2.length]; exact h2'
  obtain ⟨d, ed, hd'⟩ := t1.get (i := j) (x := xs[j]) (by simp [hx])
  obtain ⟨e, ee, he'⟩ := t2.get (i := j) (x := ys[j]) (by simp [hy])
  obtain ⟨u, eu, ru⟩ := r1.get (i := j) (x := xs[j]) (by simp [hx])
  obtain ⟨v, ev, rv⟩ := r2.get (i := j) (x := ys[j]) (by simp [hy])
  have e1 : us.toArray[j] = u := by
    have : us[j]? = some us[j] := by simp [h1']
    rw [this] at eu
    simpa using Option.some.inj eu
  have e2 : vs.toArray[j] = v := by
    have : vs[j]? = some vs[j] := by simp [h2']
    rw [this] at ev
    simpa using Option.some.inj ev
  have e3 : eAt ds es j = eqD d e := by unfold eAt; rw [ed, ee]
  rw [e1, e2, e3]
  exact EqAt.of_rc (ih d e _ _ u v A (Nat.le_trans (dep_get ed) hd) hd' he' ru rv hu) (eq_of_same I hd' he' ru rv) (hd'.noFloat ru)
theorem rc_step (I : Inv X pins σ H s) {d e : Dt} {x y : V} {u v : Value} {A : Around} (hu0 : A.units < cLine) (hx : Has X.K H x d) (hy : Has X.K H y e) (rx : RelV x u) (ry : RelV y v)
    (elems : ∀ {ds1 ds2 : List Dt} {xs1 xs2 : List V} {its its2 : List Value}, (d = .lst ds1 ∨ d = .tup ds1) → HasL X.K H xs1 ds1 → HasL X.K H xs2 ds2 → Vals xs1 its → Vals xs2 its2 → ∀ j (h1 : j < its.toArray.size) (h2 : j < its2.toArray.size), EqAt A.in1 s its.toArray[j] its2.toArray[j] (eAt ds1 ds2 j)) :
    RcAt A s u v (eqD d e) := by
  cases hx with
    | non =>
      obtain rfl := (show u = Value.none from rx)
      cases hy with
      | non =>
        obtain rfl := (show v = Value.none from ry)
        exact (RcAt.none_none)
      | bl b2 =>
        obtain rfl := (show v = Value.bool _ from ry)
        exact (by first | exact RcAt.none_bool _ _ | exact RcAt.none_bool _ _ _ | exact RcAt.none_bool _ _ _ _ | exact RcAt.none_bool _)
      | int i2 =>
        obtain ⟨tv, rfl⟩ := (show ∃ t, v = Value.int _ t from ry)
        exact (by first | exact RcAt.none_int _ _ | exact RcAt.none_int _ _ _ | exact RcAt.none_int _ _ _ _ | exact RcAt.none_int _)
      | str z2 =>
        obtain ⟨tv, rfl⟩ := (show ∃ t, v = Value.str _ t from ry)
        exact (by first | exact RcAt.none_str _ _ | exact RcAt.none_str _ _ _ | exact RcAt.none_str _ _ _ _ | exact RcAt.none_str _)
      | @tup a2 xs2 ds2 q2 t2 =>
        obtain rfl := (show v = Value.ref _ from ry)
        obtain ⟨its2, rv2, pl2, hz2⟩ := I.tuple q2
        exact (by first | exact RcAt.none_tuple (show s.heap.IsTuple _ its2.toArray from pl2) hu0 | exact RcAt.none_tuple _ (show s.heap.IsTuple _ its2.toArray from pl2) hu0 | exact RcAt.none_tuple _ _ (show s.heap.IsTuple _ its2.toArray from pl2) hu0)
      | @lst a2 xs2 ds2 q2 t2 =>
        obtain rfl := (show v = Value.ref _ from ry)
        obtain ⟨its2, rv2, pl2, hz2⟩ := I.list q2
        exact (by first | exact RcAt.none_list pl2.isList hu0 | exact RcAt.none_list _ pl2.isList hu0 | exact RcAt.none_list _ _ pl2.isList hu0)
    | bl b1 =>
      obtain rfl := (show u = Value.bool _ from rx)
      cases hy with
      | non =>
        obtain rfl := (show v = Value.none from ry)
        exact (by first | exact RcAt.bool_none _ _ | exact RcAt.bool_none _ _ _ | exact RcAt.bool_none _ _ _ _ | exact RcAt.bool_none _)
      | bl b2 =>
        obtain rfl := (show v = Value.bool _ from ry)
        exact (by first | exact RcAt.bool_bool _ _ | exact RcAt.bool_bool _ _ _ | exact RcAt.bool_bool _ _ _ _ | exact RcAt.bool_bool _)
      | int i2 =>
        obtain ⟨tv, rfl⟩ := (show ∃ t, v = Value.int _ t from ry)
        exact (by first | exact RcAt.bool_int _ _ | exact RcAt.bool_int _ _ _ | exact RcAt.bool_int _ _ _ _ | exact RcAt.bool_int _)
      | str z2 =>
        obtain ⟨tv, rfl⟩ := (show ∃ t, v = Value.str _ t from ry)
        exact (by first | exact RcAt.bool_str _ _ | exact RcAt.bool_str _ _ _ | exact RcAt.bool_str _ _ _ _ | exact RcAt.bool_str _)
      | @tup a2 xs2 ds2 q2 t2 =>
        obtain rfl := (show v = Value.ref _ from ry)
        obtain ⟨its2, rv2, pl2, hz2⟩ := I.tuple q2
        exact (by first | exact RcAt.bool_tuple (show s.heap.IsTuple _ its2.toArray from pl2) hu0 | exact RcAt.bool_tuple _ (show s.heap.IsTuple _ its2.toArray from pl2) hu0 | exact RcAt.bool_tuple _ _ (show s.heap.IsTuple _ its2.toArray from pl2) hu0)
      | @lst a2 xs2 ds2 q2 t2 =>
        obtain rfl := (show v = Value.ref _ from ry)
        obtain ⟨its2, rv2, pl2, hz2⟩ := I.list q2
        exact (by first | exact RcAt.bool_list pl2.isList hu0 | exact RcAt.bool_list _ pl2.isList hu0 | exact RcAt.bool_list _ _ pl2.isList hu0)
    | int i1 =>
      obtain ⟨tu, rfl⟩ := (show ∃ t, u = Value.int _ t from rx)
      cases hy with
      | non =>
        obtain rfl := (show v = Value.none from ry)
        exact (by first | exact RcAt.int_none _ _ | exact RcAt.int_none _ _ _ | exact RcAt.int_none _ _ _ _ | exact RcAt.int_none _)
      | bl b2 =>
        obtain rfl := (show v = Value.bool _ from ry)
        exact (by first | exact RcAt.int_bool _ _ | exact RcAt.int_bool _ _ _ | exact RcAt.int_bool _ _ _ _ | exact RcAt.int_bool _)
      | int i2 =>
        obtain ⟨tv, rfl⟩ := (show ∃ t, v = Value.int _ t from ry)
        exact (by first | exact RcAt.int_int _ _ | exact RcAt.int_int _ _ _ | exact RcAt.int_int _ _ _ _ | exact RcAt.int_int _)
      | str z2 =>
        obtain ⟨tv, rfl⟩ := (show ∃ t, v = Value.str _ t from ry)
        exact (by first | exact RcAt.int_str _ _ | exact RcAt.int_str _ _ _ | exact RcAt.int_str _ _ _ _ | exact RcAt.int_str _)
      | @tup a2 xs2 ds2 q2 t2 =>
        obtain rfl := (show v = Value.ref _ from ry)
        obtain ⟨its2, rv2, pl2, hz2⟩ := I.tuple q2
        exact (by first | exact RcAt.int_tuple (show s.heap.IsTuple _ its2.toArray from pl2) hu0 | exact RcAt.int_tuple _ (show s.heap.IsTuple _ its2.toArray from pl2) hu0 | exact RcAt.int_tuple _ _ (show s.heap.IsTuple _ its2.toArray from pl2) hu0)
      | @lst a2 xs2 ds2 q2 t2 =>
        obtain rfl := (show v = Value.ref _ from ry)
        obtain ⟨its2, rv2, pl2, hz2⟩ := I.list q2
        exact (by first | exact RcAt.int_list pl2.isList hu0 | exact RcAt.int_list _ pl2.isList hu0 | exact RcAt.int_list _ _ pl2.isList hu0)
    | str z1 =>
      obtain ⟨tu, rfl⟩ := (show ∃ t, u = Value.str _ t from rx)
      cases hy with
      | non =>
        obtain rfl := (show v = Value.none from ry)
        exact (by first | exact RcAt.str_none _ _ | exact RcAt.str_none _ _ _ | exact RcAt.str_none _ _ _ _ | exact RcAt.str_none _)
      | bl b2 =>
        obtain rfl := (show v = Value.bool _ from ry)
        exact (by first | exact RcAt.str_bool _ _ | exact RcAt.str_bool _ _ _ | exact RcAt.str_bool _ _ _ _ | exact RcAt.str_bool _)
      | int i2 =>
        obtain ⟨tv, rfl⟩ := (show ∃ t, v = Value.int _ t from ry)
        exact (by first | exact RcAt.str_int _ _ | exact RcAt.str_int _ _ _ | exact RcAt.str_int _ _ _ _ | exact RcAt.str_int _)
      | str z2 =>
        obtain ⟨tv, rfl⟩ := (show ∃ t, v = Value.str _ t from ry)
        exact (by first | exact RcAt.str_str _ _ | exact RcAt.str_str _ _ _ | exact RcAt.str_str _ _ _ _ | exact RcAt.str_str _)
      | @tup a2 xs2 ds2 q2 t2 =>
        obtain rfl := (show v = Value.ref _ from ry)
        obtain ⟨its2, rv2, pl2, hz2⟩ := I.tuple q2
        exact (by first | exact RcAt.str_tuple (show s.heap.IsTuple _ its2.toArray from pl2) hu0 | exact RcAt.str_tuple _ (show s.heap.IsTuple _ its2.toArray from pl2) hu0 | exact RcAt.str_tuple _ _ (show s.heap.IsTuple _ its2.toArray from pl2) hu0)
      | @lst a2 xs2 ds2 q2 t2 =>
        obtain rfl := (show v = Value.ref _ from ry)
        obtain ⟨its2, rv2, pl2, hz2⟩ := I.list q2
        exact (by first | exact RcAt.str_list pl2.isList hu0 | exact RcAt.str_list _ pl2.isList hu0 | exact RcAt.str_list _ _ pl2.isList hu0)
    | @tup a1 xs1 ds1 q1 t1 =>
      obtain rfl := (show u = Value.ref _ from rx)
      obtain ⟨its, rv, pl, hz⟩ := I.tuple q1
      cases hy with
      | non =>
        obtain rfl := (show v = Value.none from ry)
        exact (by first | exact RcAt.tuple_none (show s.heap.IsTuple _ its.toArray from pl) hu0 | exact RcAt.tuple_none _ (show s.heap.IsTuple _ its.toArray from pl) hu0 | exact RcAt.tuple_none _ _ (show s.heap.IsTuple _ its.toArray from pl) hu0)
      | bl b2 =>
        obtain rfl := (show v = Value.bool _ from ry)
        exact (by first | exact RcAt.tuple_bool (show s.heap.IsTuple _ its.toArray from pl) hu0 | exact RcAt.tuple_bool _ (show s.heap.IsTuple _ its.toArray from pl) hu0 | exact RcAt.tuple_bool _ _ (show s.heap.IsTuple _ its.toArray from pl) hu0)
      | int i2 =>
        obtain ⟨tv, rfl⟩ := (show ∃ t, v = Value.int _ t from ry)
        exact (by first | exact RcAt.tuple_int (show s.heap.IsTuple _ its.toArray from pl) hu0 | exact RcAt.tuple_int _ (show s.heap.IsTuple _ its.toArray from pl) hu0 | exact RcAt.tuple_int _ _ (show s.heap.IsTuple _ its.toArray from pl) hu0)
      | str z2 =>
        obtain ⟨tv, rfl⟩ := (show ∃ t, v = Value.str _ t from ry)
        exact (by first | exact RcAt.tuple_str (show s.heap.IsTuple _ its.toArray from pl) hu0 | exact RcAt.tuple_str _ (show s.heap.IsTuple _ its.toArray from pl) hu0 | exact RcAt.tuple_str _ _ (show s.heap.IsTuple _ its.toArray from pl) hu0)
      | @tup a2 xs2 ds2 q2 t2 =>
        obtain rfl := (show v = Value.ref _ from ry)
        obtain ⟨its2, rv2, pl2, hz2⟩ := I.tuple q2
        rw [eqD]
        have l1 : its.toArray.size = ds1.length := by rw [List.size_toArray, ← rv.length]; exact t1.length
        have l2 : its2.toArray.size = ds2.length := by rw [List.size_toArray, ← rv2.length]; exact t2.length
        have z := RcAt.tuples (A := A) (e := eAt ds1 ds2) (show s.heap.IsTuple _ its.toArray from pl) (show s.heap.IsTuple _ its2.toArray from pl2) hu0 (elems (by first | exact .inl rfl | exact .inr rfl) t1 t2 rv rv2)
        rw [l1, l2, eqDs_tup ds1 ds2] at z
        exact z
      | @lst a2 xs2 ds2 q2 t2 =>
        obtain rfl := (show v = Value.ref _ from ry)
        obtain ⟨its2, rv2, pl2, hz2⟩ := I.list q2
        exact (by first | exact RcAt.tuple_list (show s.heap.IsTuple _ its.toArray from pl) pl2.isList hu0 | exact RcAt.tuple_list _ (show s.heap.IsTuple _ its.toArray from pl) pl2.isList hu0 | exact RcAt.tuple_list _ _ (show s.heap.IsTuple _ its.toArray from pl) pl2.isList hu0)
    | @lst a1 xs1 ds1 q1 t1 =>
      obtain rfl := (show u = Value.ref _ from rx)
      obtain ⟨its, rv, pl, hz⟩ := I.list q1
      cases hy with
      | non =>
        obtain rfl := (show v = Value.none from ry)
        exact (by first | exact RcAt.list_none pl.isList hu0 | exact RcAt.list_none _ pl.isList hu0 | exact RcAt.list_none _ _ pl.isList hu0)
      | bl b2 =>
        obtain rfl := (show v = Value.bool _ from ry)
        exact (by first | exact RcAt.list_bool pl.isList hu0 | exact RcAt.list_bool _ pl.isList hu0 | exact RcAt.list_bool _ _ pl.isList hu0)
      | int i2 =>
        obtain ⟨tv, rfl⟩ := (show ∃ t, v = Value.int _ t from ry)
        exact (by first | exact RcAt.list_int pl.isList hu0 | exact RcAt.list_int _ pl.isList hu0 | exact RcAt.list_int _ _ pl.isList hu0)
      | str z2 =>
        obtain ⟨tv, rfl⟩ := (show ∃ t, v = Value.str _ t from ry)
        exact (by first | exact RcAt.list_str pl.isList hu0 | exact RcAt.list_str _ pl.isList hu0 | exact RcAt.list_str _ _ pl.isList hu0)
      | @tup a2 xs2 ds2 q2 t2 =>
        obtain rfl := (show v = Value.ref _ from ry)
        obtain ⟨its2, rv2, pl2, hz2⟩ := I.tuple q2
        exact (by first | exact RcAt.list_tuple pl.isList (show s.heap.IsTuple _ its2.toArray from pl2) hu0 | exact RcAt.list_tuple _ pl.isList (show s.heap.IsTuple _ its2.toArray from pl2) hu0 | exact RcAt.list_tuple _ _ pl.isList (show s.heap.IsTuple _ its2.toArray from pl2) hu0)
      | @lst a2 xs2 ds2 q2 t2 =>
        obtain rfl := (show v = Value.ref _ from ry)
        obtain ⟨its2, rv2, pl2, hz2⟩ := I.list q2
        rw [eqD]
        have l1 : its.toArray.size = ds1.length := by rw [List.size_toArray, ← rv.length]; exact t1.length
        have l2 : its2.toArray.size = ds2.length := by rw [List.size_toArray, ← rv2.length]; exact t2.length
        by_cases hl : ds1.length = ds2.length
        · have z := RcAt.lists (A := A) (e := eAt ds1 ds2) pl.isList pl2.isList (by rw [l1, l2, hl]) hu0 (elems (by first | exact .inl rfl | exact .inr rfl) t1 t2 rv rv2)
          rw [l1, eqDs_all ds1 ds2 hl] at z
          exact z
        · have z := RcAt.lists_lengths (A := A) pl.isList pl2.isList (by rw [l1, l2]; simpa using hl) hu0
          rw [eqDs_len ds1 ds2 hl]
          exact z
theorem rcNe_step (I : Inv X pins σ H s) {d e : Dt} {x y : V} {u v : Value} {A : Around} (hu0 : A.units < cLine) (hx : Has X.K H x d) (hy : Has X.K H y e) (rx : RelV x u) (ry : RelV y v)
    (elems : ∀ {ds1 ds2 : List Dt} {xs1 xs2 : List V} {its its2 : List Value}, (d = .lst ds1 ∨ d = .tup ds1) → HasL X.K H xs1 ds1 → HasL X.K H xs2 ds2 → Vals xs1 its → Vals xs2 its2 → ∀ j (h1 : j < its.toArray.size) (h2 : j < its2.toArray.size), EqAt A.in1 s its.toArray[j] its2.toArray[j] (eAt ds1 ds2 j)) :
    RcNeAt A s u v (!eqD d e) := by
  cases hx with
    | non =>
      obtain rfl := (show u = Value.none from rx)
      cases hy with
      | non =>
        obtain rfl := (show v = Value.none from ry)
        exact (RcNeAt.none_none)
      | bl b2 =>
        obtain rfl := (show v = Value.bool _ from ry)
        exact (by first | exact RcNeAt.none_bool _ _ | exact RcNeAt.none_bool _ _ _ | exact RcNeAt.none_bool _ _ _ _ | exact RcNeAt.none_bool _)
      | int i2 =>
        obtain ⟨tv, rfl⟩ := (show ∃ t, v = Value.int _ t from ry)
        exact (by first | exact RcNeAt.none_int _ _ | exact RcNeAt.none_int _ _ _ | exact RcNeAt.none_int _ _ _ _ | exact RcNeAt.none_int _)
      | str z2 =>
        obtain ⟨tv, rfl⟩ := (show ∃ t, v = Value.str _ t from ry)
        exact (by first | exact RcNeAt.none_str _ _ | exact RcNeAt.none_str _ _ _ | exact RcNeAt.none_str _ _ _ _ | exact RcNeAt.none_str _)
      | @tup a2 xs2 ds2 q2 t2 =>
        obtain rfl := (show v = Value.ref _ from ry)
        obtain ⟨its2, rv2, pl2, hz2⟩ := I.tuple q2
        exact (by first | exact RcNeAt.none_tuple (show s.heap.IsTuple _ its2.toArray from pl2) hu0 | exact RcNeAt.none_tuple _ (show s.heap.IsTuple _ its2.toArray from pl2) hu0 | exact RcNeAt.none_tuple _ _ (show s.heap.IsTuple _ its2.toArray from pl2) hu0)
      | @lst a2 xs2 ds2 q2 t2 =>
        obtain rfl := (show v = Value.ref _ from ry)
        obtain ⟨its2, rv2, pl2, hz2⟩ := I.list q2
        exact (by first | exact RcNeAt.none_list pl2.isList hu0 | exact RcNeAt.none_list _ pl2.isList hu0 | exact RcNeAt.none_list _ _ pl2.isList hu0)
    | bl b1 =>
      obtain rfl := (show u = Value.bool _ from rx)
      cases hy with
      | non =>
        obtain rfl := (show v = Value.none from ry)
        exact (by first | exact RcNeAt.bool_none _ _ | exact RcNeAt.bool_none _ _ _ | exact RcNeAt.bool_none _ _ _ _ | exact RcNeAt.bool_none _)
      | bl b2 =>
        obtain rfl := (show v = Value.bool _ from ry)
        exact (by first | exact RcNeAt.bool_bool _ _ | exact RcNeAt.bool_bool _ _ _ | exact RcNeAt.bool_bool _ _ _ _ | exact RcNeAt.bool_bool _)
      | int i2 =>
        obtain ⟨tv, rfl⟩ := (show ∃ t, v = Value.int _ t from ry)
        exact (by first | exact RcNeAt.bool_int _ _ | exact RcNeAt.bool_int _ _ _ | exact RcNeAt.bool_int _ _ _ _ | exact RcNeAt.bool_int _)
      | str z2 =>
        obtain ⟨tv, rfl⟩ := (show ∃ t, v = Value.str _ t from ry)
        exact (by first | exact RcNeAt.bool_str _ _ | exact RcNeAt.bool_str _ _ _ | exact RcNeAt.bool_str _ _ _ _ | exact RcNeAt.bool_str _)
      | @tup a2 xs2 ds2 q2 t2 =>
        obtain rfl := (show v = Value.ref _ from ry)
        obtain ⟨its2, rv2, pl2, hz2⟩ := I.tuple q2
        exact (by first | exact RcNeAt.bool_tuple (show s.heap.IsTuple _ its2.toArray from pl2) hu0 | exact RcNeAt.bool_tuple _ (show s.heap.IsTuple _ its2.toArray from pl2) hu0 | exact RcNeAt.bool_tuple _ _ (show s.heap.IsTuple _ its2.toArray from pl2) hu0)
      | @lst a2 xs2 ds2 q2 t2 =>
        obtain rfl := (show v = Value.ref _ from ry)
        obtain ⟨its2, rv2, pl2, hz2⟩ := I.list q2
        exact (by first | exact RcNeAt.bool_list pl2.isList hu0 | exact RcNeAt.bool_list _ pl2.isList hu0 | exact RcNeAt.bool_list _ _ pl2.isList hu0)
    | int i1 =>
      obtain ⟨tu, rfl⟩ := (show ∃ t, u = Value.int _ t from rx)
      cases hy with
      | non =>
        obtain rfl := (show v = Value.none from ry)
        exact (by first | exact RcNeAt.int_none _ _ | exact RcNeAt.int_none _ _ _ | exact RcNeAt.int_none _ _ _ _ | exact RcNeAt.int_none _)
      | bl b2 =>
        obtain rfl := (show v = Value.bool _ from ry)
        exact (by first | exact RcNeAt.int_bool _ _ | exact RcNeAt.int_bool _ _ _ | exact RcNeAt.int_bool _ _ _ _ | exact RcNeAt.int_bool _)
      | int i2 =>
        obtain ⟨tv, rfl⟩ := (show ∃ t, v = Value.int _ t from ry)
        exact (by first | exact RcNeAt.int_int _ _ | exact RcNeAt.int_int _ _ _ | exact RcNeAt.int_int _ _ _ _ | exact RcNeAt.int_int _)
      | str z2 =>
        obtain ⟨tv, rfl⟩ := (show ∃ t, v = Value.str _ t from ry)
        exact (by first | exact RcNeAt.int_str _ _ | exact RcNeAt.int_str _ _ _ | exact RcNeAt.int_str _ _ _ _ | exact RcNeAt.int_str _)
      | @tup a2 xs2 ds2 q2 t2 =>
        obtain rfl := (show v = Value.ref _ from ry)
        obtain ⟨its2, rv2, pl2, hz2⟩ := I.tuple q2
        exact (by first | exact RcNeAt.int_tuple (show s.heap.IsTuple _ its2.toArray from pl2) hu0 | exact RcNeAt.int_tuple _ (show s.heap.IsTuple _ its2.toArray from pl2) hu0 | exact RcNeAt.int_tuple _ _ (show s.heap.IsTuple _ its2.toArray from pl2) hu0)
      | @lst a2 xs2 ds2 q2 t2 =>
        obtain rfl := (show v = Value.ref _ from ry)
        obtain ⟨its2, rv2, pl2, hz2⟩ := I.list q2
        exact (by first | exact RcNeAt.int_list pl2.isList hu0 | exact RcNeAt.int_list _ pl2.isList hu0 | exact RcNeAt.int_list _ _ pl2.isList hu0)
    | str z1 =>
      obtain ⟨tu, rfl⟩ := (show ∃ t, u = Value.str _ t from rx)
      cases hy with
      | non =>
        obtain rfl := (show v = Value.none from ry)
        exact (by first | exact RcNeAt.str_none _ _ | exact RcNeAt.str_none _ _ _ | exact RcNeAt.str_none _ _ _ _ | exact RcNeAt.str_none _)
      | bl b2 =>
        obtain rfl := (show v = Value.bool _ from ry)
        exact (by first | exact RcNeAt.str_bool _ _ | exact RcNeAt.str_bool _ _ _ | exact RcNeAt.str_bool _ _ _ _ | exact RcNeAt.str_bool _)
      | int i2 =>
        obtain ⟨tv, rfl⟩ := (show ∃ t, v = Value.int _ t from ry)
        exact (by first | exact RcNeAt.str_int _ _ | exact RcNeAt.str_int _ _ _ | exact RcNeAt.str_int _ _ _ _ | exact RcNeAt.str_int _)
      | str z2 =>
        obtain ⟨tv, rfl⟩ := (show ∃ t, v = Value.str _ t from ry)
        exact (by first | exact RcNeAt.str_str _ _ | exact RcNeAt.str_str _ _ _ | exact RcNeAt.str_str _ _ _ _ | exact RcNeAt.str_str _)
      | @tup a2 xs2 ds2 q2 t2 =>
        obtain rfl := (show v = Value.ref _ from ry)
        obtain ⟨its2, rv2, pl2, hz2⟩ := I.tuple q2
        exact (by first | exact RcNeAt.str_tuple (show s.heap.IsTuple _ its2.toArray from pl2) hu0 | exact RcNeAt.str_tuple _ (show s.heap.IsTuple _ its2.toArray from pl2) hu0 | exact RcNeAt.str_tuple _ _ (show s.heap.IsTuple _ its2.toArray from pl2) hu0)
      | @lst a2 xs2 ds2 q2 t2 =>
        obtain rfl := (show v = Value.ref _ from ry)
        obtain ⟨its2, rv2, pl2, hz2⟩ := I.list q2
        exact (by first | exact RcNeAt.str_list pl2.isList hu0 | exact RcNeAt.str_list _ pl2.isList hu0 | exact RcNeAt.str_list _ _ pl2.isList hu0)
    | @tup a1 xs1 ds1 q1 t1 =>
      obtain rfl := (show u = Value.ref _ from rx)
      obtain ⟨its, rv, pl, hz⟩ := I.tuple q1
      cases hy with
      | non =>
        obtain rfl := (show v = Value.none from ry)
        exact (by first | exact RcNeAt.tuple_none (show s.heap.IsTuple _ its.toArray from pl) hu0 | exact RcNeAt.tuple_none _ (show s.heap.IsTuple _ its.toArray from pl) hu0 | exact RcNeAt.tuple_none _ _ (show s.heap.IsTuple _ its.toArray from pl) hu0)
      | bl b2 =>
        obtain rfl := (show v = Value.bool _ from ry)
        exact (by first | exact RcNeAt.tuple_bool (show s.heap.IsTuple _ its.toArray from pl) hu0 | exact RcNeAt.tuple_bool _ (show s.heap.IsTuple _ its.toArray from pl) hu0 | exact RcNeAt.tuple_bool _ _ (show s.heap.IsTuple _ its.toArray from pl) hu0)
      | int i2 =>
        obtain ⟨tv, rfl⟩ := (show ∃ t, v = Value.int _ t from ry)
        exact (by first | exact RcNeAt.tuple_int (show s.heap.IsTuple _ its.toArray from pl) hu0 | exact RcNeAt.tuple_int _ (show s.heap.IsTuple _ its.toArray from pl) hu0 | exact RcNeAt.tuple_int _ _ (show s.heap.IsTuple _ its.toArray from pl) hu0)
      | str z2 =>
        obtain ⟨tv, rfl⟩ := (show ∃ t, v = Value.str _ t from ry)
        exact (by first | exact RcNeAt.tuple_str (show s.heap.IsTuple _ its.toArray from pl) hu0 | exact RcNeAt.tuple_str _ (show s.heap.IsTuple _ its.toArray from pl) hu0 | exact RcNeAt.tuple_str _ _ (show s.heap.IsTuple _ its.toArray from pl) hu0)
      | @tup a2 xs2 ds2 q2 t2 =>
        obtain rfl := (show v = Value.ref _ from ry)
        obtain ⟨its2, rv2, pl2, hz2⟩ := I.tuple q2
        rw [eqD]
        have l1 : its.toArray.size = ds1.length := by rw [List.size_toArray, ← rv.length]; exact t1.length
        have l2 : its2.toArray.size = ds2.length := by rw [List.size_toArray, ← rv2.length]; exact t2.length
        have z := RcNeAt.tuples (A := A) (e := eAt ds1 ds2) (show s.heap.IsTuple _ its.toArray from pl) (show s.heap.IsTuple _ its2.toArray from pl2) hu0 (elems (by first | exact .inl rfl | exact .inr rfl) t1 t2 rv rv2)
        rw [l1, l2, eqDs_tup ds1 ds2] at z
        exact z
      | @lst a2 xs2 ds2 q2 t2 =>
        obtain rfl := (show v = Value.ref _ from ry)
        obtain ⟨its2, rv2, pl2, hz2⟩ := I.list q2
        exact (by first | exact RcNeAt.tuple_list (show s.heap.IsTuple _ its.toArray from pl) pl2.isList hu0 | exact RcNeAt.tuple_list _ (show s.heap.IsTuple _ its.toArray from pl) pl2.isList hu0 | exact RcNeAt.tuple_list _ _ (show s.heap.IsTuple _ its.toArray from pl) pl2.isList hu0)
    | @lst a1 xs1 ds1 q1 t1 =>
      obtain rfl := (show u = Value.ref _ from rx)
      obtain ⟨its, rv, pl, hz⟩ := I.list q1
      cases hy with
      | non =>
        obtain rfl := (show v = Value.none from ry)
        exact (by first | exact RcNeAt.list_none pl.isList hu0 | exact RcNeAt.list_none _ pl.isList hu0 | exact RcNeAt.list_none _ _ pl.isList hu0)
      | bl b2 =>
        obtain rfl := (show v = Value.bool _ from ry)
        exact (by first | exact RcNeAt.list_bool pl.isList hu0 | exact RcNeAt.list_bool _ pl.isList hu0 | exact RcNeAt.list_bool _ _ pl.isList hu0)
      | int i2 =>
        obtain ⟨tv, rfl⟩ := (show ∃ t, v = Value.int _ t from ry)
        exact (by first | exact RcNeAt.list_int pl.isList hu0 | exact RcNeAt.list_int _ pl.isList hu0 | exact RcNeAt.list_int _ _ pl.isList hu0)
      | str z2 =>
        obtain ⟨tv, rfl⟩ := (show ∃ t, v = Value.str _ t from ry)
        exact (by first | exact RcNeAt.list_str pl.isList hu0 | exact RcNeAt.list_str _ pl.isList hu0 | exact RcNeAt.list_str _ _ pl.isList hu0)
      | @tup a2 xs2 ds2 q2 t2 =>
        obtain rfl := (show v = Value.ref _ from ry)
        obtain ⟨its2, rv2, pl2, hz2⟩ := I.tuple q2
        exact (by first | exact RcNeAt.list_tuple pl.isList (show s.heap.IsTuple _ its2.toArray from pl2) hu0 | exact RcNeAt.list_tuple _ pl.isList (show s.heap.IsTuple _ its2.toArray from pl2) hu0 | exact RcNeAt.list_tuple _ _ pl.isList (show s.heap.IsTuple _ its2.toArray from pl2) hu0)
      | @lst a2 xs2 ds2 q2 t2 =>
        obtain rfl := (show v = Value.ref _ from ry)
        obtain ⟨its2, rv2, pl2, hz2⟩ := I.list q2
        rw [eqD]
        have l1 : its.toArray.size = ds1.length := by rw [List.size_toArray, ← rv.length]; exact t1.length
        have l2 : its2.toArray.size = ds2.length := by rw [List.size_toArray, ← rv2.length]; exact t2.length
        by_cases hl : ds1.length = ds2.length
        · have z := RcNeAt.lists (A := A) (e := eAt ds1 ds2) pl.isList pl2.isList (by rw [l1, l2, hl]) hu0 (elems (by first | exact .inl rfl | exact .inr rfl) t1 t2 rv rv2)
          rw [l1, eqDs_all ds1 ds2 hl] at z
          exact z
        · have z := RcNeAt.lists_lengths (A := A) pl.isList pl2.isList (by rw [l1, l2]; simpa using hl) hu0
          rw [eqDs_len ds1 ds2 hl]
          exact z
theorem rcAt_D (I : Inv X pins σ H s) : ∀ (n : Nat) (d e : Dt) (x y : V) (u v : Value) (A : Around), dep d ≤ n → Has X.K H x d → Has X.K H y e → RelV x u → RelV y v → A.units + n < cLine → RcAt A s u v (eqD d e) := by
  intro n
  induction n with
  | zero =>
    intro d e x y u v A hd hx hy rx ry hu
    refine rc_step I (by omega) hx hy rx ry fun {ds1 _ _ _ _ _} e => ?_
    rcases e with e | e <;> (subst e; rw [dep] at hd; exact absurd hd (by omega))
  | succ n ih =>
    intro d e x y u v A hd hx hy rx ry hu
    refine rc_step I (by omega) hx hy rx ry fun {ds1 ds2 xs1 xs2 its its2} e t1 t2 r1 r2 => elems_at I ih ?_ t1 t2 r1 r2 (show A.units + 1 + n < cLine by omega)
    rcases e with e | e <;> (subst e; rw [dep] at hd; omega)
theorem rcNe_D (I : Inv X pins σ H s) {n : Nat} {d e : Dt} {x y : V} {u v : Value} {A : Around} (hd : dep d ≤ n) (hx : Has X.K H x d) (hy : Has X.K H y e) (rx : RelV x u) (ry : RelV y v) (hu : A.units + n < cLine) : RcNeAt A s u v (!eqD d e) := by
  refine rcNe_step I (by omega) hx hy rx ry fun {ds1 ds2 xs1 xs2 its its2} e t1 t2 r1 r2 => elems_at I (rcAt_D I (n - 1)) ?_ t1 t2 r1 r2 ?_
  · rcases e with e | e <;> (subst e; rw [dep] at hd; omega)
  · show A.units + 1 + (n - 1) < cLine
    rcases e with e | e <;> (subst e; rw [dep] at hd; omega)
end
section
variable {X : Cx}
def rEqD (K : PySem.W.Frag) (neg : Bool) : R2 := fun x y H Q => ∃ d e, Has K H x d ∧ Has K H y e ∧ dep d ≤ 50 ∧ Q (.bl (if neg then !eqD d e else eqD d e)) H
theorem op_eqD (hu : X.A.units + 64 < cLine) : OpR X (compareOp .Eq) (rEqD X.K false) := by
  intro pins s σ H x y v u Q I rx ry h
  obtain ⟨d, e, hx, hy, hd, q⟩ := h
  exact rcAt_D I 50 d e x y v u X.A hd hx hy rx ry (by omega) X.prog X.w X.xe _ ⟨.bl _, H, I, rfl, q⟩
theorem op_neD (hu : X.A.units + 64 < cLine) : OpR X (compareOp .NotEq) (rEqD X.K true) := by
  intro pins s σ H x y v u Q I rx ry h
  obtain ⟨d, e, hx, hy, hd, q⟩ := h
  exact rcNe_D I (n := 50) hd hx hy rx ry (by omega) X.prog X.w X.xe _ ⟨.bl _, H, I, rfl, q⟩
end
end L2
set_option Elab.async false
set_option linter.all false
set_option maxRecDepth 100000
set_option maxHeartbeats 4000000
namespace L2
open PySem PySem.Spec PyProof.Rows
theorem lets_xc {X : Cx} {scope : Scope} {cl : List (Str × Addr)} {Nc : List Str} {Cc : Addr} {s : Shared} {H : Hp} {ex : List Addr} {pn : List (Addr × Obj)} : LetsP (XC X scope cl Nc Cc s H ex pn) EN where
  pass := fun _ _ _ _ _ _ _ h => by obtain ⟨_, _, _, _, _, q⟩ := h; exact q.elim
  own := PassesOwn.never
structure Callee (P : Program) (w : World) (K : PySem.W.Frag) (mg : Str → Option Value) (base : Heap) (x : Str) (k : Nat) (ps : List Str) (sp : Sp) : Prop where
  ex : ∃ f fd, FnOk P w K mg base (CXR P w) k f fd ps sp ∧ mg x = some (.ref f) ∧ PySem.W.keepIn K (.ref f) = true ∧ Binds K fd ps []
structure Maker (P : Program) (w : World) (K : PySem.W.Frag) (mg : Str → Option Value) (base : Heap) (x : Str) (C : Addr) (k : Nat) (ps : List Str) (sp : Sp) : Prop where
  ex : ∃ f fd, Mk K C f ∧ FnOk P w K mg base (CXR P w) k f fd ps sp ∧ mg x = some (.ref C) ∧ Binds K fd ps []
section
variable {X : Cx} {k : Nat} {C : Addr} {ps : List Str} {sp : Sp} {ES : St → XK} {x : Str} {p pos : Pos} {e : Expr} {es : List Expr} {t : TA}
theorem pe_c (C : Callee X.prog X.w X.K X.mg X.base x k ps sp) (hr : Room k X.A) (hx : LetsP X ES) (ha : PA X (e :: es) t) (hg : Gl X x := by rfl) (hdb : (x == ("__debug__" : Str)) = false := by decide)
    (he : starEach (e :: es) X.env = (false, eval e X.env) :: starEach es X.env := by rfl) (hpl : (backTo pos (starEach es X.env)).any (·.1) = false := by rfl) : PE X (.Call (.Name x p) (e :: es) [] pos) (tCallS sp [] ES t) := by
  obtain ⟨f, fd, F, hm, hk, hb⟩ := C.ex
  exact pe_callS F hr hg hm hk hb .nil hx ha hdb he hpl
theorem pe_mk (M : Maker X.prog X.w X.K X.mg X.base x C k ps sp) (hr : Room (k + 1) X.A) (hx : LetsP X ES) (ha : PA X (e :: es) t) (hg : Gl X x := by rfl) (hdb : (x == ("__debug__" : Str)) = false := by decide)
    (he : starEach (e :: es) X.env = (false, eval e X.env) :: starEach es X.env := by rfl) (hpl : (backTo pos (starEach es X.env)).any (·.1) = false := by rfl) : PE X (.Call (.Name x p) (e :: es) [] pos) (tMakeS C sp [] ES t) := by
  obtain ⟨f, fd, Mk, F, hm, hb⟩ := M.ex
  exact pe_makeS Mk F hr hg hm hb .nil hx ha hdb he hpl
end
section
variable {P : Program} {w : World} {K : PySem.W.Frag} {mg : Str → Option Value} {base : Heap}
theorem Fun.okX {x qual : Str} {st : Stmt} {f : Addr} {fd : FuncData} {N ps : List Str} {k : Nat} {sp : Sp} (F : Fun K x qual st f fd) (S : FnScope N ps (defScope st)) (len : ∀ vs H Q E, sp vs H Q E → vs.length = ps.length)
    (hbody : ∀ (cdv : Value) (A : Around) (outer : List Env) (s : Shared) (H : Hp) (vs : List V) (Q : VK) (E : XK), Room k (A.deeper (envOfC qual (defScope st) s.heap.objs.size f cdv)) → sp vs H Q E →
      Lets (cxOf (CXR P w) P w K mg base N qual (defScope st) f cdv A outer s H E) (fun _ => E) →
      ∃ t, PSs (cxOf (CXR P w) P w K mg base N qual (defScope st) f cdv A outer s H E) (defBody st) t ∧ t { nx := fun _ H' => Q .non H', rt := Q } (start N vs) H) : FnOk P w K mg base (CXR P w) (k + 1) f fd ps sp := by
  obtain ⟨oc, od, kV, doc, pm, an, cdv, ct, osl, rfl, lk, hcd⟩ := F.ex
  exact fn_of lk hcd S len fun A outer s H vs Q E hr hsp => hbody cdv A outer s H vs Q E hr hsp lets_body
theorem callee_of {x : Str} {f : Addr} {fd : FuncData} {k : Nat} {ps : List Str} {sp : Sp} (F : FnOk P w K mg base (CXR P w) k f fd ps sp) (hm : mg x = some (.ref f)) (hk : PySem.W.keepIn K (.ref f) = true) (hb : Binds K fd ps []) : Callee P w K mg base x k ps sp := ⟨f, fd, F, hm, hk, hb⟩
end
theorem relabel_mem {scope : Scope} {env : Env} {x : Str} {k : NameKind} (h : (relabel scope env).names.lookup x = some k) : ∃ n k', (n, k') ∈ scope.names ∧ x = n ∧ (k = k' ∨ (k = .cell ∧ k' = .free)) := by
  have hm := PySem.mem_of_lookup h
  have hm' : (x, k) ∈ scope.names.map fun (n, k) => if (k == NameKind.free && env.scope.kind == .function && env.kindOf n == some .cell) then (n, NameKind.cell) else (n, k) := hm
  obtain ⟨⟨n, k'⟩, hin, e⟩ := List.mem_map.mp hm'
  refine ⟨n, k', hin, ?_⟩
  dsimp only at e
  split at e
  · rename_i hc
    cases e
    refine ⟨rfl, .inr ⟨rfl, ?_⟩⟩
    simp only [Bool.and_eq_true, beq_iff_eq] at hc
    exact hc.1.1
  · cases e
    exact ⟨rfl, .inl rfl⟩
theorem comp_ok0 {X : Cx} {scope : Scope} {Nc : List Str} {nt : Nat} (hf : ∀ y ∈ scope.names, y.2 ≠ .free) (hc : ∀ y ∈ scope.names, y.2 ≠ .cell) (hk : scope.kind = .function)
    (hn : ∀ y ∈ scope.names, y.2 = .local → scope.names.lookup y.1 = some .local) (hl : Nc.length = nt) : CompOk X scope [] Nc nt [] where
  clos := closureFor_none hf
  cell := hc
  kind := hk
  names := hn
  sub := fun x c h => nomatch h
  has := fun x h => by
    exfalso
    rcases h with h | h
    · obtain ⟨n, k', hm, _, e⟩ := relabel_mem h
      rcases e with e | ⟨_, e⟩
      · exact hc _ hm e.symm
      · exact hf _ hm e
    · obtain ⟨n, k', hm, _, e⟩ := relabel_mem h
      rcases e with e | ⟨e, _⟩
      · exact hf _ hm e.symm
      · cases e
  len := by simpa using hl
  fr := fun j i h => by simp at h
theorem comp_okF {X : Cx} {scope : Scope} {cl : List (Str × Addr)} {Nc : List Str} {nt : Nat} {is : List Nat} (hcl : closureFor scope X.env = pure cl) (hc : ∀ y ∈ scope.names, y.2 ≠ .cell) (hk : scope.kind = .function)
    (hn : ∀ y ∈ scope.names, y.2 = .local → scope.names.lookup y.1 = some .local) (hs : ∀ p ∈ cl, X.env.cells.lookup p.1 = some p.2) (hh : (scope.names.all fun y => y.2 != .free || (cl.lookup y.1).isSome) = true) (hl : Nc.length = nt + is.length)
    (hfr : ∀ (j i : Nat), is[j]? = some i → ∃ x, Nc[nt + j]? = some x ∧ X.N[i]? = some x ∧ (X.env.kindOf x = some .cell ∨ X.env.kindOf x = some .free) ∧
      ((relabel scope X.env).names.lookup x = some .cell ∨ (relabel scope X.env).names.lookup x = some .free)) : CompOk X scope cl Nc nt is where
  clos := hcl
  cell := hc
  kind := hk
  names := hn
  sub := fun x c h => hs _ (PySem.mem_of_lookup h)
  has := fun x h => by
    have fin : ∀ n k', (n, k') ∈ scope.names → x = n → k' = .free → ∃ c, cl.lookup x = some c := fun n k' hm e1 e2 => by
      have z := List.all_eq_true.mp hh _ hm
      subst e1 e2
      simp only [bne_self_eq_false, Bool.false_or] at z
      exact Option.isSome_iff_exists.mp z
    rcases h with h | h
    · obtain ⟨n, k', hm, e0, e⟩ := relabel_mem h
      rcases e with e | ⟨_, e⟩
      · exact absurd e.symm (hc _ hm)
      · exact fin n k' hm e0 e
    · obtain ⟨n, k', hm, e0, e⟩ := relabel_mem h
      rcases e with e | ⟨e, _⟩
      · exact fin n k' hm e0 e.symm
      · cases e
  len := hl
  fr := hfr
theorem sqT_of {K : PySem.W.Frag} {a : Addr} {dd : Option Addr} {its : Array Value} {n : Nat} {sl : Array (Option Value)} {xs : List V} (l : K.lookup a = some ⟨.type "tuple", dd, .seq its n, sl⟩) (hz : its.size ≤ sizeLine) (r : Vals xs its.toList) (H : Hp) : SqT K H a xs := .inr ⟨_, its, n, l, rfl, rfl, hz, r⟩
theorem kit_self {K : PySem.W.Frag} {C : Addr} : PySem.W.kitOne K (.ref C) (.ref C) = some true := by
  unfold PySem.W.kitOne
  rw [if_pos (by simp)]
end L2
namespace L2
open PySem PySem.Spec PyProof.Rows
def intsOf : List Expr → Option (List Int)
  | [] => some []
  | .Constant (.int n) _ _ :: r => (intsOf r).map (n :: ·)
  | _ => none
def tInts (ns : List Int) : TA := fun _ H Q => Q (ns.map V.int) H
theorem pa_ints {X : Cx} : ∀ {es : List Expr} {ns : List Int}, intsOf es = some ns → PA X es (tInts ns)
  | [], ns, h => by
    cases h
    exact pa_nil
  | e :: r, ns, h => by
    unfold intsOf at h
    split at h
    · rename_i h0; cases h0
    · rename_i n j p r' h0
      cases h0
      cases q : intsOf r with
      | none => rw [q] at h; cases h
      | some ms =>
        rw [q] at h
        cases h
        have z := pa_cons (X := X) (pe_int (X := X) (i := n) (j := j) (pos := p)) (pa_ints q)
        exact z
    · cases h
end L2
namespace L2
open PySem PySem.Spec PyProof.Rows
abbrev rListOf (K : PySem.W.Frag) : List V → Hp → VK → Prop := fun xs H Q => ∃ p ys, xs = [.ref p] ∧ (SqL K H p ys ∨ SqT K H p ys) ∧ ∀ l, H l = none → Q (.ref l) (upd H l (.lst ys))
abbrev rLenOf (K : PySem.W.Frag) : List V → Hp → VK → Prop := fun xs H Q => ∃ p ys, xs = [.ref p] ∧ (SqL K H p ys ∨ SqT K H p ys) ∧ Q (.int ys.length) H
abbrev rIsi (K : PySem.W.Frag) : List V → Hp → VK → Prop := fun xs H Q => ∃ x y t c b, xs = [x, y] ∧ clsV y = some c ∧ TyOf K H x t ∧ PySem.W.kitOne K t c = some b ∧ Q (.bl b) H
theorem pe_fldK (K : PySem.W.Frag) {X : Cx} {e : Expr} {f : Str} {pos : Pos} {ta : TE} (he : PE X e ta) (hb : attributeBase e f X.env (eval e X.env) = eval e X.env) (hK : X.K = K := by rfl) : PE X (.Attribute e f pos) (tFld K ta f) := by
  subst hK; exact pe_fld he hb
theorem pg_tupK (K : PySem.W.Frag) {X : Cx} {pos : Pos} {es : List Expr} {k : Nat} {t : TGs} {n : Nat} (hc : X.calm = true) (h : PGs X es t) (hK : X.K = K := by rfl)
    (hn : (assignEach es X.env).length = n := by rfl) (hst : (assignEach es X.env).findIdx? (·.1) = none := by rfl) : PG X (.Tuple es k pos) (gTup K n t) := by
  subst hK; exact pg_tup hc h hn hst
theorem pi_listK (K : PySem.W.Frag) {X : Cx} {tg l : Expr} {tl : TE} (hl : PE X l tl) (hK : X.K = K := by rfl) : PI X tg l (iList K tl) := by
  subst hK; exact pi_list hl
theorem pi_enumK (K : PySem.W.Frag) {X : Cx} {a : Expr} {ta : TA} {p pos : Pos} {elts : List Expr} {x1} {tp : Pos} (hg : Gl X "enumerate") (hm : X.mg "enumerate" = none) (ha : PA X [a] ta) (hK : X.K = K := by rfl) (hs : starEach [a] X.env = [(false, eval a X.env)] := by rfl) :
    PI X (.Tuple elts x1 tp) (.Call (.Name "enumerate" p) [a] [] pos) (iEnum K ta) := by
  subst hK; exact pi_enum hg hm ha hs
end L2
set_option Elab.async false
set_option linter.all false
set_option maxRecDepth 100000
set_option maxHeartbeats 4000000
namespace L2
open PySem PySem.Spec PyProof.Rows
def frsh (H0 H : Hp) : Hp := fun b => match H0 b with
  | none => H b
  | some _ => none
theorem frsh_none {H0 H : Hp} {b : Addr} (h : H0 b = none) : frsh H0 H b = H b := by unfold frsh; rw [h]
theorem frsh_some {H0 H : Hp} {b : Addr} {o : HO} (h : H0 b = some o) : frsh H0 H b = none := by unfold frsh; rw [h]
theorem of_frsh {H0 H : Hp} {b : Addr} {o : HO} (h : frsh H0 H b = some o) : H0 b = none ∧ H b = some o := by
  cases e : H0 b with
  | none => exact ⟨rfl, by rwa [frsh_none e] at h⟩
  | some u => rw [frsh_some e] at h; cases h
theorem frsh_same (H0 H : Hp) : L2.Same (frsh H0 H) H := fun _ _ h => (of_frsh h).2
theorem frsh_upd {H0 H : Hp} {l : Addr} {o u : HO} (h : H0 l = some u) : frsh H0 (upd H l o) = frsh H0 H := by
  funext b
  unfold frsh upd
  by_cases e : b = l
  · subst e; rw [h]
  · rw [if_neg e]
theorem frsh_mono {H0 H H' : Hp} (e : L2.Same H H') : L2.Same (frsh H0 H) (frsh H0 H') := fun b o h => by
  obtain ⟨h1, h2⟩ := of_frsh h
  rw [frsh_none h1]; exact e b o h2
theorem frsh_from {H0 H1 H : Hp} (e : L2.Same H0 H1) : L2.Same (frsh H1 H) (frsh H0 H) := fun b o h => by
  obtain ⟨h1, h2⟩ := of_frsh h
  rw [frsh_none (e.free h1)]; exact h2
theorem same_both {H H' : Hp} {p : Addr} {o : HO} (e : L2.Same H H') (h : H' p = none) : L2.Same H (upd H' p o) := e.trans (same_upd h)
abbrev RowAt (H : Hp) (a : Addr) (r : List Int) : Prop := H a = some (.lst (r.map V.int))
structure GR (H : Hp) (v : V) (rs : List (List Int)) (m : Addr) (ras : List Addr) : Prop where
  ev : v = .ref m
  top : H m = some (.lst (ras.map V.ref))
  rows : Paired (RowAt H) ras rs
def TGrid (H : Hp) (v : V) (rs : List (List Int)) : Prop := ∃ m ras, GR H v rs m ras
theorem Paired.getP {α β : Type} {F : α → β → Prop} : ∀ {l₁ : List α} {l₂ : List β} {i : Nat} {b : β}, Paired F l₁ l₂ → l₂[i]? = some b → ∃ a, l₁[i]? = some a ∧ F a b
  | _, _, _, _, .nil, e => by simp at e
  | _, _, 0, _, .cons r _, e => by simp at e; subst e; exact ⟨_, rfl, r⟩
  | _, _, i + 1, x, .cons _ t, e => by
    obtain ⟨u, h1, h2⟩ := Paired.getP (i := i) (b := x) t (by simpa using e)
    exact ⟨u, by simpa using h1, h2⟩
theorem Paired.getL {α β : Type} {F : α → β → Prop} : ∀ {l₁ : List α} {l₂ : List β} {i : Nat} {a : α}, Paired F l₁ l₂ → l₁[i]? = some a → ∃ b, l₂[i]? = some b ∧ F a b
  | _, _, _, _, .nil, e => by simp at e
  | _, _, 0, _, .cons r _, e => by simp at e; subst e; exact ⟨_, rfl, r⟩
  | _, _, i + 1, x, .cons _ t, e => by
    obtain ⟨u, h1, h2⟩ := Paired.getL (i := i) (a := x) t (by simpa using e)
    exact ⟨u, by simpa using h1, h2⟩
theorem Paired.appendP {α β : Type} {F : α → β → Prop} : ∀ {l₁ l₃ : List α} {l₂ l₄ : List β}, Paired F l₁ l₂ → Paired F l₃ l₄ → Paired F (l₁ ++ l₃) (l₂ ++ l₄)
  | _, _, _, _, .nil, h => h
  | _, _, _, _, .cons r t, h => .cons r (Paired.appendP t h)
theorem Paired.withMem {α β : Type} {F : α → β → Prop} : ∀ {l₁ : List α} {l₂ : List β}, Paired F l₁ l₂ → Paired (fun a b => a ∈ l₁ ∧ F a b) l₁ l₂
  | _, _, .nil => .nil
  | _, _, .cons h t => .cons ⟨List.mem_cons_self, h⟩ (L2.Paired.mapP (Paired.withMem t) fun a b z => ⟨List.mem_cons_of_mem _ z.1, z.2⟩)
theorem rows_same {H H' : Hp} (e : L2.Same H H') {ras : List Addr} {rs : List (List Int)} (h : Paired (RowAt H) ras rs) : Paired (RowAt H') ras rs := L2.Paired.mapP h fun a r z => e _ _ z
theorem GR.same {H H' : Hp} (e : L2.Same H H') {v : V} {rs : List (List Int)} {m : Addr} {ras : List Addr} (h : GR H v rs m ras) : GR H' v rs m ras := ⟨h.ev, e _ _ h.top, rows_same e h.rows⟩
theorem TGrid.same {H H' : Hp} (e : L2.Same H H') {v : V} {rs : List (List Int)} (h : TGrid H v rs) : TGrid H' v rs := let ⟨m, ras, t⟩ := h; ⟨m, ras, t.same e⟩
def gridD (rs : List (List Int)) : Dt := .lst (rs.map fun r => .lst (r.map Dt.int))
theorem rows_has {K : PySem.W.Frag} {H : Hp} : ∀ {ras : List Addr} {rs : List (List Int)}, Paired (RowAt H) ras rs → HasL K H (ras.map V.ref) (rs.map fun r => .lst (r.map Dt.int))
  | _, _, .nil => .nil
  | _, _, .cons h t => .cons (.lst (SqL.of h) (hasL_ints H _)) (rows_has t)
theorem GR.has {K : PySem.W.Frag} {H : Hp} {v : V} {rs : List (List Int)} {m : Addr} {ras : List Addr} (h : GR H v rs m ras) : Has K H v (gridD rs) := by
  rw [h.ev]; exact .lst (SqL.of h.top) (rows_has h.rows)
theorem TGrid.has {K : PySem.W.Frag} {H : Hp} {v : V} {rs : List (List Int)} (h : TGrid H v rs) : Has K H v (gridD rs) := let ⟨_, _, t⟩ := h; t.has
theorem depL_ints : ∀ r : List Int, depL (r.map Dt.int) = 0
  | [] => by simp [depL]
  | i :: r => by rw [List.map_cons, depL, depL_ints r]; simp [dep]
theorem depL_rows : ∀ rs : List (List Int), depL (rs.map fun r => .lst (r.map Dt.int)) ≤ 1
  | [] => by simp [depL]
  | r :: t => by
    rw [List.map_cons, depL, dep, depL_ints]
    have := depL_rows t
    omega
theorem dep_grid (rs : List (List Int)) : dep (gridD rs) ≤ 50 := by
  unfold gridD
  rw [dep]
  have := depL_rows rs
  omega
def Good (rs : List (List Int)) : Prop := 2 ≤ rs.length ∧ rs.length ≤ 13 ∧ ∀ (y : Nat) (r : List Int), rs[y]? = some r → r.length = rs.length - y ∧ ∀ v ∈ r, 0 ≤ v ∧ v ≤ 2
theorem copy_grid {K : PySem.W.Frag} {i : Nat} {σ : St} {H : Hp} {Q : VK} {v : V} {rs : List (List Int)} (hv : σ[i]? = some (some v)) (G : TGrid H v rs) (hz : rs.length ≤ 1000) (k : ∀ r H', L2.Same H H' → TGrid (frsh H H') r rs → Q r H') :
    tComp 1 [] (iList K (tVar i)) (gName 0) tYes (tCB (rListOf K) (tCons (tVar 0) tNil)) σ H Q := by
  obtain ⟨m, ras, G⟩ := G
  refine ⟨v, hv, m, G.ev, ⟨_, SqL.of G.top⟩, ?_⟩
  have hlr : ras.length = rs.length := Paired.length G.rows
  refine comp_list (K := K) (a := m) (xs := ras.map V.ref) (fun i ys σc H1 => L2.Same H H1 ∧ σc.length = 1 ∧ ∃ ras', ys = ras'.map V.ref ∧ Paired (RowAt (frsh H H1)) ras' (rs.take i)) ⟨L2.Same.refl H, rfl, [], rfl, by simpa using Paired.nil⟩
    (by rw [List.length_map, hlr, sizeLine_eq]; omega) (fun i ys σ H1 _ ⟨s1, _⟩ => s1.seq (SqL.of G.top)) (fun i ys σ H1 ⟨_, _, ras', e, h⟩ => ?_) ?_ ?_
  · have := Paired.length h
    rw [e, List.length_map, this, List.length_take]
    omega
  · rintro i x ys σc H1 hx ⟨s1, hl, ras', rfl, hp⟩
    rw [List.getElem?_map] at hx
    cases ea : ras[i]? with
    | none => rw [ea] at hx; cases hx
    | some a =>
      rw [ea] at hx
      cases hx
      obtain ⟨r, er, hr⟩ := Paired.getL G.rows ea
      obtain ⟨c, rfl⟩ : ∃ c, σc = [c] := by
        match σc, hl with
        | [c], _ => exact ⟨c, rfl⟩
      refine ⟨_, rfl, a, _, rfl, .inl (s1.seq (SqL.of hr)), fun l hl1 => ?_⟩
      refine ⟨same_both s1 hl1, rfl, ras' ++ [l], by simp, ?_⟩
      rw [List.take_add_one, er]
      refine Paired.appendP (rows_same (frsh_mono (same_upd hl1)) hp) (.cons ?_ .nil)
      show frsh H (upd H1 l (.lst (r.map V.int))) l = _
      rw [frsh_none (s1.free hl1), upd_same]
  · rintro ys σc H1 ⟨s1, hl, ras', rfl, hp⟩ p hp1
    rw [List.length_map, hlr, List.take_length] at hp
    refine k _ _ (same_both s1 hp1) ⟨p, ras', rfl, ?_, rows_same (frsh_mono (same_upd hp1)) hp⟩
    rw [frsh_none (s1.free hp1), upd_same]
end L2
set_option Elab.async false
set_option linter.all false
set_option maxRecDepth 100000
set_option maxHeartbeats 4000000
namespace L2
open PySem PySem.Spec PyProof.Rows
section
variable {X : Cx}
theorem seq_by {A B : TS} {D : Ends} {σ : L2.St} {H : Hp} (R : L2.St → Hp → Prop) (h2 : ∀ σ' H', R σ' H' → B D σ' H') (h1 : ∀ nx : L2.St → Hp → Prop, (∀ σ' H', R σ' H' → nx σ' H') → A { D with nx := nx } σ H) : tSeq A B D σ H := h1 _ h2
theorem seq_by2 {A B C : TS} {D : Ends} {σ : L2.St} {H : Hp} (R : L2.St → Hp → Prop) (h2 : ∀ σ' H', R σ' H' → C D σ' H') (h1 : ∀ nx : L2.St → Hp → Prop, (∀ σ' H', R σ' H' → nx σ' H') → tSeq A B { D with nx := nx } σ H) : tSeq A (tSeq B C) D σ H := h1 _ h2
end
end L2
set_option Elab.async false
set_option linter.all false
set_option maxRecDepth 100000
set_option maxHeartbeats 4000000
namespace L2
open PySem PySem.Spec PyProof.Rows
abbrev Pt := Int × Int
abbrev Tr := Int × Int × Int
def tD (t : Tr) : Dt := .tup [.int t.1, .int t.2.1, .int t.2.2]
def onN (n x y : Int) : Prop := 0 ≤ x ∧ 0 ≤ y ∧ x + y ≤ n
instance {n x y : Int} : Decidable (onN n x y) := by unfold onN; infer_instance
def mkAt (rs : List (List Int)) (x y : Int) : Int := (rs.getD y.toNat []).getD x.toNat 0
def cornersP (x y k : Int) : List Pt := if k = 0 then [(x, y), (x + 1, y), (x, y + 1)] else [(x + 1, y), (x + 1, y + 1), (x, y + 1)]
def isTri (n x y k : Int) : Prop := 0 ≤ x ∧ 0 ≤ y ∧ ((k = 0 ∧ x + y + 1 ≤ n) ∨ (k = 1 ∧ x + y + 2 ≤ n))
instance {n x y k : Int} : Decidable (isTri n x y k) := by unfold isTri; infer_instance
theorem isTri_iff {n x y k : Int} : isTri n x y k ↔ (k = 0 ∨ k = 1) ∧ ∀ p ∈ cornersP x y k, onN n p.1 p.2 := by
  unfold isTri cornersP onN
  constructor
  · rintro ⟨h1, h2, ⟨rfl, h3⟩ | ⟨rfl, h3⟩⟩
    · refine ⟨.inl rfl, fun p hp => ?_⟩
      rw [if_pos rfl] at hp
      simp only [List.mem_cons, List.not_mem_nil, or_false] at hp
      rcases hp with rfl | rfl | rfl <;> simp only <;> omega
    · refine ⟨.inr rfl, fun p hp => ?_⟩
      rw [if_neg (by decide)] at hp
      simp only [List.mem_cons, List.not_mem_nil, or_false] at hp
      rcases hp with rfl | rfl | rfl <;> simp only <;> omega
  · rintro ⟨rfl | rfl, h⟩
    · rw [if_pos rfl] at h
      have h1 := h (x, y) (by simp)
      have h2 := h (x + 1, y) (by simp)
      simp only at h1 h2
      omega
    · rw [if_neg (by decide)] at h
      have h1 := h (x + 1, y) (by simp)
      have h2 := h (x + 1, y + 1) (by simp)
      have h3 := h (x, y + 1) (by simp)
      simp only at h1 h2 h3
      omega
def fwd (a b c : Int) : Bool := (a == 0 && b == 1 && c == 2) || (a == 1 && b == 2 && c == 0) || (a == 2 && b == 0 && c == 1)
def bwd (a b c : Int) : Bool := (a == 0 && b == 2 && c == 1) || (a == 2 && b == 1 && c == 0) || (a == 1 && b == 0 && c == 2)
def sense3 (a b c : Int) : Int := if fwd a b c then 1 else if bwd a b c then -1 else 0
def senseL : List Int → Int
  | [a, b, c] => sense3 a b c
  | _ => 0
def senseT (rs : List (List Int)) (x y k : Int) : Int := senseL ((cornersP x y k).map fun p => mkAt rs p.1 p.2)
theorem tri3 {v : Int} (h : 0 ≤ v ∧ v ≤ 2) : v = 0 ∨ v = 1 ∨ v = 2 := by omega
theorem Good.at {rs : List (List Int)} (g : Good rs) {x y : Int} (h : onN ((rs.length : Int) - 1) x y) : ∃ r, rs[y.toNat]? = some r ∧ r[x.toNat]? = some (mkAt rs x y) ∧ 0 ≤ mkAt rs x y ∧ mkAt rs x y ≤ 2 := by
  obtain ⟨h0, h1, h2⟩ := h
  have hy : y.toNat < rs.length := by have := g.1; omega
  refine ⟨rs[y.toNat], by simp [hy], ?_⟩
  obtain ⟨gl, gv⟩ := g.2.2 y.toNat rs[y.toNat] (by simp [hy])
  have hx : x.toNat < rs[y.toNat].length := by omega
  have e : mkAt rs x y = rs[y.toNat][x.toNat] := by
    unfold mkAt
    rw [List.getD_eq_getElem?_getD, List.getD_eq_getElem?_getD, List.getElem?_eq_getElem hy]
    simp [hx]
  rw [e]
  exact ⟨by simp [hx], gv _ (List.getElem_mem hx)⟩
def less (H : Hp) (l : Addr) : Hp := fun b => if b = l then none else H b
theorem less_upd {H : Hp} {l : Addr} {o : HO} : less (upd H l o) l = less H l := by
  funext b
  unfold less upd
  by_cases e : b = l
  · rw [if_pos e, if_pos e]
  · rw [if_neg e, if_neg e, if_neg e]
theorem less_same (H : Hp) (l : Addr) : L2.Same (less H l) H := fun b o h => by
  unfold less at h
  split at h
  · cases h
  · exact h
theorem less_mono {H H' : Hp} {l : Addr} (e : L2.Same H H') : L2.Same (less H l) (less H' l) := fun b o h => by
  unfold less at h ⊢
  split at h
  · cases h
  · rename_i z
    rw [if_neg z]; exact e _ _ h
structure NewL (K : PySem.W.Frag) (H H' : Hp) (v : V) (l : Addr) (xs : List V) (ds : List Dt) : Prop where
  ev : v = .ref l
  new : H l = none
  same : L2.Same H H'
  at_ : H' l = some (.lst xs)
  has : HasL K (less H' l) xs ds
theorem depL_le {m : Nat} : ∀ {l : List Dt}, (∀ d ∈ l, dep d ≤ m) → depL l ≤ m
  | [], _ => by simp [depL]
  | d :: l, h => by
    rw [depL]
    have h1 := h d List.mem_cons_self
    have h2 := depL_le fun x hx => h x (List.mem_cons_of_mem d hx)
    omega
theorem ne_refl {d : Dt} : ¬ ((if true then !eqD d d else eqD d d) = true) := by
  rw [eqD_refl]; decide
end L2
set_option Elab.async false
set_option linter.all false
set_option maxRecDepth 100000
set_option maxHeartbeats 4000000
namespace L2
open PySem PySem.Spec PyProof.Rows
section
variable {X : Cx}
end
end L2
set_option Elab.async false
set_option linter.all false
set_option maxRecDepth 100000
set_option maxHeartbeats 4000000
namespace L2
open PySem PySem.Spec PyProof.Rows
abbrev sz (rs : List (List Int)) : Int := (rs.length : Int) - 1
def ruledP (rs : List (List Int)) : Prop := mkAt rs 0 0 = 0 ∧ mkAt rs (sz rs) 0 = 1 ∧ mkAt rs 0 (sz rs) = 2 ∧ ∀ k : Int, 0 ≤ k → k ≤ sz rs → mkAt rs k 0 ≠ 2 ∧ mkAt rs 0 k ≠ 1 ∧ mkAt rs k (sz rs - k) ≠ 0
def setAt (rs : List (List Int)) (x y c : Int) : List (List Int) := rs.set y.toNat ((rs.getD y.toNat []).set x.toNat c)
theorem setAt_len (rs : List (List Int)) (x y c : Int) : (setAt rs x y c).length = rs.length := by unfold setAt; simp
theorem setAt_row {rs : List (List Int)} {x y c : Int} {r : List Int} (h : rs[y.toNat]? = some r) (j : Nat) : (setAt rs x y c)[j]? = if j = y.toNat then some (r.set x.toNat c) else rs[j]? := by
  have hy : y.toNat < rs.length := (List.getElem?_eq_some_iff.mp h).1
  unfold setAt
  rw [List.getD_eq_getElem?_getD, h]
  by_cases e : j = y.toNat
  · subst e
    rw [if_pos rfl, List.getElem?_set_self hy]
    rfl
  · rw [if_neg e, List.getElem?_set_ne (Ne.symm e)]
theorem Good.set {rs : List (List Int)} (g : Good rs) {x y c : Int} (on : onN (sz rs) x y) (hc : 0 ≤ c ∧ c ≤ 2) : Good (setAt rs x y c) := by
  obtain ⟨r, er, ex, _⟩ := g.at on
  refine ⟨by rw [setAt_len]; exact g.1, by rw [setAt_len]; exact g.2.1, fun j q hq => ?_⟩
  rw [setAt_row er] at hq
  rw [setAt_len]
  by_cases e : j = y.toNat
  · rw [if_pos e] at hq
    cases hq
    subst e
    obtain ⟨h1, h2⟩ := g.2.2 _ r er
    refine ⟨by rw [List.length_set]; exact h1, fun v hv => ?_⟩
    rcases List.mem_or_eq_of_mem_set hv with z | z
    · exact h2 v z
    · rw [z]; exact hc
  · rw [if_neg e] at hq
    exact g.2.2 j q hq
theorem mkAt_set {rs : List (List Int)} (g : Good rs) {x y c x' y' : Int} (on : onN (sz rs) x y) (hx : 0 ≤ x') (hy : 0 ≤ y') : mkAt (setAt rs x y c) x' y' = if x' = x ∧ y' = y then c else mkAt rs x' y' := by
  obtain ⟨r, er, ex, _⟩ := g.at on
  obtain ⟨h0, h1, h2⟩ := on
  unfold mkAt
  rw [List.getD_eq_getElem?_getD, List.getD_eq_getElem?_getD, setAt_row er]
  by_cases e : y'.toNat = y.toNat
  · have ey : y' = y := by omega
    subst ey
    rw [if_pos rfl]
    have hxl : x.toNat < r.length := (List.getElem?_eq_some_iff.mp ex).1
    by_cases e2 : x' = x
    · subst e2
      rw [if_pos ⟨rfl, rfl⟩]
      simp [hxl]
    · rw [if_neg (fun z => e2 z.1)]
      have : x.toNat ≠ x'.toNat := by omega
      rw [List.getD_eq_getElem?_getD, List.getD_eq_getElem?_getD, er]
      simp [List.getElem?_set_ne this]
  · rw [if_neg e, if_neg (fun z => e (by rw [z.2])), List.getD_eq_getElem?_getD, List.getD_eq_getElem?_getD]
theorem frsh_upd_new {H0 H : Hp} {a : Addr} {o : HO} (h : H0 a = none) : frsh H0 (upd H a o) = upd (frsh H0 H) a o := by
  funext b
  unfold upd frsh
  by_cases e : b = a
  · subst e
    rw [h]
    first | done | simp
  · rw [if_neg e]
    cases H0 b with
    | none => simp [e]
    | some _ => simp [e]
theorem same_upd_new {H0 H : Hp} {a : Addr} {o : HO} (e : L2.Same H0 H) (h : H0 a = none) : L2.Same H0 (upd H a o) := fun b u hb => by
  rw [upd_ne (ne_of_none hb h)]; exact e _ _ hb
theorem ixN_in {n : Nat} {i : Int} (h0 : 0 ≤ i) (h1 : i < n) : ixN n i = some i.toNat := by
  unfold ixN
  rw [if_pos h0, if_pos h1]
theorem atI_of {α : Type} {xs : List α} {i : Int} {v : α} (h0 : 0 ≤ i) (h : xs[i.toNat]? = some v) : atI xs i = some v := by
  have z := atI_nat (j := i.toNat) h
  rw [Int.toNat_of_nonneg h0] at z
  exact z
theorem GR.get {H : Hp} {v : V} {rs : List (List Int)} {m : Addr} {ras : List Addr} (G : GR H v rs m ras) (g : Good rs) {x y : Int} (on : onN (sz rs) x y) :
    ∃ (a : Addr) (r : List Int), atI (ras.map V.ref) y = some (.ref a) ∧ H a = some (.lst (r.map V.int)) ∧ atI (r.map V.int) x = some (.int (mkAt rs x y)) := by
  obtain ⟨r, er, ex, _⟩ := g.at on
  obtain ⟨a, ea, ra⟩ := Paired.getP G.rows er
  exact ⟨a, r, atI_of on.2.1 (by rw [List.getElem?_map, ea]; rfl), ra, atI_of on.1 (by rw [List.getElem?_map, ex]; rfl)⟩
theorem Paired.setP {α β : Type} {F G : α → β → Prop} {a : α} {b : β} : ∀ {l₁ : List α} {l₂ : List β} {i : Nat}, Paired F l₁ l₂ → l₁[i]? = some a → G a b → (∀ (j : Nat) (c : α) (d : β), j ≠ i → l₁[j]? = some c → l₂[j]? = some d → F c d → G c d) → Paired G l₁ (l₂.set i b)
  | _, _, _, .nil, e, _, _ => by simp at e
  | _, _, 0, .cons r t, e, h, k => by
    simp at e; subst e
    refine .cons h ?_
    have aux : ∀ {m₁ : List α} {m₂ : List β}, Paired F m₁ m₂ → (∀ (j : Nat) (c : α) (d : β), m₁[j]? = some c → m₂[j]? = some d → F c d → G c d) → Paired G m₁ m₂ := by
      intro m₁ m₂ p
      induction p with
      | nil => intro _; exact .nil
      | cons r t ih => intro k; exact .cons (k 0 _ _ rfl rfl r) (ih fun j c d h1 h2 => k (j + 1) c d (by simpa using h1) (by simpa using h2))
    exact aux t fun j c d h1 h2 => k (j + 1) c d (by omega) (by simpa using h1) (by simpa using h2)
  | _, _, i + 1, .cons r t, e, h, k => .cons (k 0 _ _ (by omega) rfl rfl r) (Paired.setP (i := i) t (by simpa using e) h fun j c d hj h1 h2 => k (j + 1) c d (by omega) (by simpa using h1) (by simpa using h2))
theorem map_int_inj {r t : List Int} (h : r.map V.int = t.map V.int) : r = t := by
  have := congrArg (List.map (fun v : V => match v with | .int i => i | _ => 0)) h
  simpa [List.map_map, Function.comp_def] using this
theorem GR.put {H : Hp} {v : V} {rs : List (List Int)} {m : Addr} {ras : List Addr} (G : GR H v rs m ras) (g : Good rs) {x y : Int} (on : onN (sz rs) x y) :
    ∃ (a : Addr) (r : List Int), atI (ras.map V.ref) y = some (.ref a) ∧ H a = some (.lst (r.map V.int)) ∧ ixN (r.map V.int).length x = some x.toNat ∧ ∀ c : Int, GR (upd H a (.lst ((r.map V.int).set x.toNat (.int c)))) v (setAt rs x y c) m ras := by
  obtain ⟨r, er, ex, _⟩ := g.at on
  obtain ⟨a, ea, ra⟩ := Paired.getP G.rows er
  have hxl : x.toNat < r.length := (List.getElem?_eq_some_iff.mp ex).1
  have h0 := on.1
  refine ⟨a, r, atI_of on.2.1 (by rw [List.getElem?_map, ea]; rfl), ra, ixN_in on.1 (by rw [List.length_map]; omega), fun c => ⟨G.ev, ?_, ?_⟩⟩
  · have hm : m ≠ a := fun z => by
      subst z
      have e := G.top.symm.trans ra
      injection e with e
      injection e with e
      have l1 := Paired.length G.rows
      have l2 : 0 < ras.length := by have := g.1; omega
      cases r with
      | nil => cases ras with
        | nil => simp at l2
        | cons _ _ => simp at e
      | cons _ _ => cases ras with
        | nil => simp at l2
        | cons _ _ => simp at e
    rw [upd_ne hm]; exact G.top
  · have e : setAt rs x y c = rs.set y.toNat (r.set x.toNat c) := by unfold setAt; rw [List.getD_eq_getElem?_getD, er]; rfl
    rw [e]
    refine Paired.setP (F := RowAt H) (a := a) G.rows ea ?_ fun j b t hj eb et hb => ?_
    · show upd H a _ a = _
      rw [upd_same, List.map_set]
    · have nb : b ≠ a := fun z => by
        subst z
        have e := hb.symm.trans ra
        injection e with e
        injection e with e
        have e := map_int_inj e
        subst e
        obtain ⟨z1, _⟩ := g.2.2 _ _ er
        obtain ⟨z2, _⟩ := g.2.2 _ _ et
        have := (List.getElem?_eq_some_iff.mp et).1
        have := (List.getElem?_eq_some_iff.mp er).1
        omega
      show upd H a _ b = _
      rw [upd_ne nb]; exact hb
theorem GR.putN {H0 H : Hp} {v : V} {rs : List (List Int)} {m : Addr} {ras : List Addr} (s : L2.Same H0 H) (G : GR (frsh H0 H) v rs m ras) (g : Good rs) {x y : Int} (on : onN (sz rs) x y) :
    ∃ (a : Addr) (r : List Int), atI (ras.map V.ref) y = some (.ref a) ∧ H a = some (.lst (r.map V.int)) ∧ ixN (r.map V.int).length x = some x.toNat ∧ ∀ c : Int, L2.Same H0 (upd H a (.lst ((r.map V.int).set x.toNat (.int c)))) ∧ GR (frsh H0 (upd H a (.lst ((r.map V.int).set x.toNat (.int c))))) v (setAt rs x y c) m ras := by
  obtain ⟨a, r, h1, h2, h3, h4⟩ := G.put g on
  obtain ⟨n0, h2'⟩ := of_frsh h2
  refine ⟨a, r, h1, h2', h3, fun c => ⟨same_upd_new s n0, ?_⟩⟩
  rw [frsh_upd_new n0]
  exact h4 c
theorem GR.len {H : Hp} {v : V} {rs : List (List Int)} {m : Addr} {ras : List Addr} (G : GR H v rs m ras) : (ras.map V.ref).length = rs.length := by rw [List.length_map]; exact Paired.length G.rows
end L2
set_option Elab.async false
set_option linter.all false
set_option maxRecDepth 100000
set_option maxHeartbeats 4000000
namespace L2
open PySem PySem.Spec PyProof.Rows PySem.SeqAt
abbrev E2 := Sum Key (List Key)
abbrev K2 := List E2
section
variable (P : Program) (w : World)
def itIs (h : Heap) : E2 → Value → Prop
  | .inl k, v => keyIs k v = true
  | .inr ks, v => ∃ a, v = .ref a ∧ IsTupleKey (mixKind P w) h ks a
def Is2 (h : Heap) (ks : K2) (a : Addr) : Prop := ∃ o items n, h.get? a = some o ∧ o.cls = .type "tuple" ∧ o.data = .seq items n ∧ Paired (itIs P w h) ks items.toList
def hash1 : E2 → Int
  | .inl k => keyH w k
  | .inr ks => tupleKeyHash (mixKind P w) ks
def draws1 : E2 → Nat
  | .inl _ => 1
  | .inr ks => ks.length + 1
end
section
variable {P : Program} {w : World}
theorem itIs_inj {h : Heap} {x y : E2} {v : Value} (a : itIs P w h x v) (b : itIs P w h y v) : x = y := by
  cases x with
  | inl k => cases y with
    | inl l => rw [(mixKind P w).inj v k l a b]
    | inr ls =>
      obtain ⟨q, rfl, _⟩ := b
      have := (mixKind P w).byValue k _ a
      simp [carriedByValue] at this
  | inr ks =>
    obtain ⟨q, rfl, t⟩ := a
    cases y with
    | inl l =>
      have := (mixKind P w).byValue l _ b
      simp [carriedByValue] at this
    | inr ls =>
      obtain ⟨q', e, t'⟩ := b
      cases e
      rw [t.inj t']
theorem its_inj {h : Heap} : ∀ {x y : K2} {vs : List Value}, Paired (itIs P w h) x vs → Paired (itIs P w h) y vs → x = y
  | _, _, _, .nil, r => by cases r; rfl
  | _, _, _, .cons a t, r => by
    cases r with
    | cons b u => rw [itIs_inj a b, its_inj t u]
theorem Is2.inj {h : Heap} {x y : K2} {a : Addr} (u : Is2 P w h x a) (v : Is2 P w h y a) : x = y := by
  obtain ⟨o, it, n, ho, _, hd, r⟩ := u
  obtain ⟨o', it', n', ho', _, hd', r'⟩ := v
  rw [ho] at ho'; cases ho'
  rw [hd] at hd'
  injection hd' with e _
  subst e
  exact its_inj r r'
theorem Is2.ty {s : Shared} {x : K2} {a : Addr} (u : Is2 P w s.heap x a) : s.TypeIs (.ref a) "tuple" := let ⟨o, _, _, ho, hc, _⟩ := u; ⟨o, ho, hc⟩
theorem itIs_keeps {h h' : Heap} {d : Addr} {o : Obj} {es ep} (ho : h.get? d = some o) (hd : o.data = .dict es ep) (hs : Heap.SameBut d h h') {x : E2} {v : Value} (a : itIs P w h x v) : itIs P w h' x v := by
  cases x with
  | inl k => exact a
  | inr ks =>
    obtain ⟨q, e, t⟩ := a
    exact ⟨q, e, t.keeps ho hd hs⟩
theorem Is2.keeps {h h' : Heap} {x : K2} {a d : Addr} {o : Obj} {es ep} (u : Is2 P w h x a) (ho : h.get? d = some o) (hd : o.data = .dict es ep) (hs : Heap.SameBut d h h') : Is2 P w h' x a := by
  obtain ⟨q, it, n, hq, hc, hdq, r⟩ := u
  have ne : a ≠ d := fun z => by
    subst z
    rw [hq] at ho; cases ho
    rw [hdq] at hd; cases hd
  exact ⟨q, it, n, (hs.2 a ne).trans hq, hc, hdq, L2.Paired.mapP r fun _ _ z => itIs_keeps ho hd hs z⟩
theorem quiet1 {A : Around} {E : Value → Shared → Prop} {s : Shared} {x : E2} {v : Value} {n : Nat} {Q : Bool → Shared → Prop} (u : itIs P w s.heap x v) (q : Q true s) : wpAny (model P w) A (eqIsQuiet (n + 1) v) Q E s := by
  cases x with
  | inl k =>
    rw [eqIsQuiet_byValue _ ((mixKind P w).byValue k v u)]
    exact wpAny_pure q
  | inr ks =>
    obtain ⟨a, rfl, t⟩ := u
    have ty := t.typeIs
    obtain ⟨o, it, m, go, _, gd, r⟩ := t
    unfold eqIsQuiet
    refine wpAny_bind (wpAny_specialOf ty PySem.F.slot_tuple_eq.lookup ?_)
    show wpAny _ _ (isInstance (.ref a) (.type "tuple") >>= fun _ => _) _ _ s
    refine wpAny_bind (wpAny_isInstance ty isSubtype_tuple_tuple ?_)
    simp only [Bool.not_true, Bool.false_eq_true, if_false]
    refine wpAny_bind (wpAny_seqItems go gd ?_)
    refine wpAny_bind ?_
    show wpAny (model P w) A (forIn it _ _) _ _ s
    rw [← Array.forIn_toList]
    refine wpAny_forIn_list _ (fun left c s1 => c.1 = none ∧ s1 = s ∧ ∀ y ∈ left, carriedByValue y = true) _ ?_ ?_ _ _ ⟨rfl, rfl, r.byValue⟩
    · rintro y left c s1 ⟨e, rfl, al⟩
      rw [eqIsQuiet_byValue _ (al y List.mem_cons_self)]
      refine wpAny_bind (wpAny_pure ?_)
      simp only [Bool.not_true, Bool.false_eq_true, if_false]
      exact wpAny_pure ⟨rfl, rfl, fun z hz => al z (List.mem_cons_of_mem _ hz)⟩
    · rintro ⟨c1, c2⟩ s1 ⟨e, rfl, _⟩
      simp only at e
      subst e
      exact wpAny_pure q
theorem quiet2 {A : Around} {E : Value → Shared → Prop} {s : Shared} {x : K2} {a : Addr} {Q : Bool → Shared → Prop} (u : Is2 P w s.heap x a) (q : Q true s) : wpAny (model P w) A (eqIsQuiet 8 (.ref a)) Q E s := by
  have ty := u.ty
  obtain ⟨o, it, m, go, _, gd, r⟩ := u
  unfold eqIsQuiet
  refine wpAny_bind (wpAny_specialOf ty PySem.F.slot_tuple_eq.lookup ?_)
  show wpAny _ _ (isInstance (.ref a) (.type "tuple") >>= fun _ => _) _ _ s
  refine wpAny_bind (wpAny_isInstance ty isSubtype_tuple_tuple ?_)
  simp only [Bool.not_true, Bool.false_eq_true, if_false]
  refine wpAny_bind (wpAny_seqItems go gd ?_)
  refine wpAny_bind ?_
  show wpAny (model P w) A (forIn it _ _) _ _ s
  rw [← Array.forIn_toList]
  refine wpAny_forIn_list _ (fun left c s1 => c.1 = none ∧ s1 = s ∧ ∃ ks : K2, Paired (itIs P w s.heap) ks left) _ ?_ ?_ _ _ ⟨rfl, rfl, x, r⟩
  · rintro y left c s1 ⟨e, rfl, ks, al⟩
    cases al with
    | cons h t =>
      refine wpAny_bind (quiet1 (n := 6) h ?_)
      simp only [Bool.not_true, Bool.false_eq_true, if_false]
      exact wpAny_pure ⟨rfl, rfl, _, t⟩
  · rintro ⟨c1, c2⟩ s1 ⟨e, rfl, _⟩
    simp only at e
    subst e
    exact wpAny_pure q
theorem hash_one {A : Around} {E : Value → Shared → Prop} {s : Shared} {x : E2} {v : Value} {Q : Int → Shared → Prop} (hu : A.units < cLine) (u : itIs P w s.heap x v) (q : Q (hash1 P w x) { s with toks := s.toks + draws1 x }) : wpAny (model P w) A (pyHash v) Q E s := by
  cases x with
  | inl k => exact (mixKind P w).pyHash u q
  | inr ks =>
    obtain ⟨a, rfl, t⟩ := u
    exact wpAny_pyHash_tuple hu t q
def hash2 (P : Program) (w : World) (ks : K2) : Int := reduceHash (Builtin.Tuple.tupleHashOf (ks.map (hash1 P w)))
def draws2 (ks : K2) : Nat := (ks.map draws1).sum + 1
theorem hash_two {A : Around} {E : Value → Shared → Prop} {s : Shared} {ks : K2} {a : Addr} {Q : Int → Shared → Prop} (hu : A.units + 8 < cLine) (u : Is2 P w s.heap ks a) (q : Q (hash2 P w ks) { s with toks := s.toks + draws2 ks }) : wpAny (model P w) A (pyHash (.ref a)) Q E s := by
  have ty := u.ty
  obtain ⟨o, it, m, go, _, gd, r⟩ := u
  unfold pyHash
  first | unfold pyHashByItsType | skip
  first | refine wpAny_bind (wpAny_cRoomFor_or (.inr (by omega)) ?_) | skip
  refine wpAny_bind (wpAny_specialOf ty PySem.F.slot_tuple_hash.lookup ?_)
  show wpAny (model P w) A (if (some (Value.builtin "tuple.__hash__") == some Value.none) = true then _ else _) Q E s
  rw [if_neg (by rw [beq_builtin_none]; decide)]
  refine wpAny_bind (wpAny_specialOf ty PySem.F.slot_tuple_hash.lookup ?_)
  show wpAny (model P w) A (callSpecialIfBoundUnlessNone? (.ref a) "__hash__" _ >>= fun _ => _) Q E s
  refine wpAny_bind (wpAny_callSpecialIfBoundUnlessNone?_slot ty PySem.F.slot_tuple_hash (wpAny_call_entry PySem.F.slot_tuple_hash ty PySem.F.entry_tuple_hash ?_ (PySem.F.args_tuple_hash_1 _)))
  show wpAny (model P w) A.in1 (Builtin.Tuple.tupleItemsOf (.ref a) >>= fun _ => _) _ _ s
  refine wpAny_bind (wpAny_tupleItemsOf go gd ?_)
  refine wpAny_bind ?_
  rw [← Array.forIn_toList]
  refine wpAny_forIn_list _ (fun left (b : Array Int) s1 => ∃ fst snd : K2, ks = fst ++ snd ∧ Paired (itIs P w s.heap) snd left ∧ b.toList = fst.map (hash1 P w) ∧ s1 = { s with toks := s.toks + (fst.map draws1).sum }) _ ?_ ?_ _ _ ⟨[], ks, rfl, r, rfl, rfl⟩
  · rintro y left b s1 ⟨fst, snd, rfl, al, hb, rfl⟩
    cases al with
    | @cons k _ ks' _ h t =>
      refine wpAny_bind (hash_one (by show A.units + 1 < cLine; omega) h ?_)
      have fin : ∃ f2 s2 : K2, fst ++ k :: ks' = f2 ++ s2 ∧ Paired (itIs P w s.heap) s2 left ∧ (b.push (hash1 P w k)).toList = f2.map (hash1 P w) ∧ ({ s with toks := s.toks + (fst.map draws1).sum + draws1 k } : Shared) = { s with toks := s.toks + (f2.map draws1).sum } :=
        ⟨fst ++ [k], ks', by simp, t, by simp [hb], by simp [Nat.add_assoc]⟩
      first
        | exact wpAny_pure fin
        | exact wpAny_bind (wpAny_pure (wpAny_pure fin))
  · rintro b s1 ⟨fst, snd, rfl, al, hb, rfl⟩
    cases al
    rw [List.append_nil] at q
    show wpAny (model P w) A.in1 (retInt (Builtin.Tuple.tupleHashOf b.toList)) _ _ _
    rw [hb]
    refine wpAny_ret_mkInt ?_
    unfold hash2 reduceHash at q
    generalize Builtin.Tuple.tupleHashOf (fst.map (hash1 P w)) = hv at q ⊢
    show wpAny (model P w) A (if (decide (-(2 : Int) ^ 63 ≤ hv) && decide (hv < 2 ^ 63)) = true then _ else _) Q E _
    by_cases c : (decide (-(2 : Int) ^ 63 ≤ hv) && decide (hv < 2 ^ 63)) = true
    · rw [if_pos c] at q ⊢
      exact wpAny_pure (by simpa [draws2, Nat.add_assoc] using q)
    · rw [if_neg c] at q ⊢
      exact wpAny_bind (wpAny_rule (wpAny_pure (by simpa [draws2, Nat.add_assoc] using q)))
def dAt {α : Type} [DecidableEq α] (x y : List α) (j : Nat) : Bool := match x[j]?, y[j]? with
  | some p, some q => decide (p = q)
  | _, _ => false
theorem all_dec {α : Type} [DecidableEq α] : ∀ x y : List α, ((List.range (min x.length y.length)).all (dAt x y) && (x.length == y.length)) = decide (x = y)
  | [], [] => by simp
  | [], _ :: _ => by simp
  | _ :: _, [] => by simp
  | p :: x, q :: y => by
    have ih := all_dec x y
    rw [List.length_cons, List.length_cons, Nat.add_min_add_right, List.range_succ_eq_map, List.all_cons, List.all_map]
    have e1 : dAt (p :: x) (q :: y) 0 = decide (p = q) := rfl
    have e2 : (dAt (p :: x) (q :: y)) ∘ Nat.succ = dAt x y := by
      funext j
      simp [dAt, Function.comp]
    rw [e1, e2, Bool.and_assoc]
    have e3 : (x.length + 1 == y.length + 1) = (x.length == y.length) := by
      rw [Bool.eq_iff_iff]; simp
    rw [e3, ih, Bool.eq_iff_iff]
    simp
theorem kV_of {k : Key} {v : Value} (h : keyIs k v = true) : RelV (kV k) v := by
  rcases keyIs_shape h with ⟨i, t, rfl, rfl⟩ | ⟨x, t, rfl, rfl⟩
  · exact ⟨t, rfl⟩
  · exact ⟨t, rfl⟩
theorem flat_kV (k : Key) : flatV (kV k) = true := by cases k <;> rfl
theorem eqV_kV (k l : Key) : eqV (kV k) (kV l) = decide (k = l) := by
  cases k with
  | inl i => cases l with
    | inl j => rw [key_ll]; rfl
    | inr y => rw [key_lr]; rfl
  | inr x => cases l with
    | inl j => rw [key_rl]; rfl
    | inr y =>
      rw [key_rr]
      show (x == y) = decide (x = y)
      rw [Bool.eq_iff_iff]
      simp
theorem eq_key {A : Around} {s : Shared} {k l : Key} {u v : Value} (a : keyIs k u = true) (b : keyIs l v = true) : EqAt A s u v (decide (k = l)) := by
  have := eqAt_V (A := A) (s := s) (kV_of a) (kV_of b) (flat_kV k) (flat_kV l)
  rw [eqV_kV] at this
  exact this
theorem noFl_ref {a : Addr} : ∀ b t, Value.ref a ≠ .float b t := fun _ _ e => nomatch e
theorem items_at {K : Type} [DecidableEq K] {knd : KeyKind P w K} : ∀ {x : List K} {vs : List Value} (_ : ItemsAre knd x vs) (j : Nat) (v : Value), vs[j]? = some v → ∃ k, x[j]? = some k ∧ knd.is k v = true
  | _, _, .nil, _, _, e => by simp at e
  | _, _, .cons h t, 0, v, e => by simp at e; subst e; exact ⟨_, rfl, h⟩
  | _, _, .cons h t, j + 1, v, e => by
    obtain ⟨k, h1, h2⟩ := items_at t j v (by simpa using e)
    exact ⟨k, by simpa using h1, h2⟩
theorem eq_flat {A : Around} {s : Shared} {x y : List Key} {a b : Addr} (hu : A.units < cLine) (p : IsTupleKey (mixKind P w) s.heap x a) (q : IsTupleKey (mixKind P w) s.heap y b) : EqAt A s (.ref a) (.ref b) (decide (x = y)) := by
  have pj := p
  have qj := q
  obtain ⟨o, it, m, go, gc, gd, r⟩ := p
  obtain ⟨o', it', m', go', gc', gd', r'⟩ := q
  have z := RcAt.tuples (A := A) (e := dAt x y) (show s.heap.IsTuple a it from ⟨o, go, gc, m, gd⟩) (show s.heap.IsTuple b it' from ⟨o', go', gc', m', gd'⟩) hu fun j h1 h2 => by
    obtain ⟨k, e1, i1⟩ := items_at r j it[j] (by simp [h1])
    obtain ⟨l, e2, i2⟩ := items_at r' j it'[j] (by simp [h2])
    have e : dAt x y j = decide (k = l) := by unfold dAt; rw [e1, e2]
    rw [e]
    exact eq_key i1 i2
  have l1 : it.size = x.length := by rw [← Array.length_toList]; exact r.length.symm
  have l2 : it'.size = y.length := by rw [← Array.length_toList]; exact r'.length.symm
  rw [l1, l2, all_dec] at z
  refine EqAt.of_rc z (fun e => ?_) noFl_ref
  cases e
  rw [pj.inj qj]
  simp
theorem eq_item {A : Around} {s : Shared} {x y : E2} {u v : Value} (hu : A.units < cLine) (p : itIs P w s.heap x u) (q : itIs P w s.heap y v) : EqAt A s u v (decide (x = y)) := by
  cases x with
  | inl k =>
    cases y with
    | inl l =>
      have := eq_key (A := A) (s := s) p q
      have e : decide ((Sum.inl k : E2) = Sum.inl l) = decide (k = l) := by rw [Bool.eq_iff_iff]; simp
      rw [e]; exact this
    | inr ls =>
      obtain ⟨b, rfl, o, it, m, go, gc, gd, r⟩ := q
      have e : decide ((Sum.inl k : E2) = Sum.inr ls) = false := by simp
      rw [e]
      have ht : s.heap.IsTuple b it := ⟨o, go, gc, m, gd⟩
      rcases keyIs_shape (show keyIs k u = true from p) with ⟨i, t, rfl, rfl⟩ | ⟨x, t, rfl, rfl⟩
      · exact EqAt.of_rc (by first | exact RcAt.int_tuple ht hu | exact RcAt.int_tuple _ ht hu | exact RcAt.int_tuple _ _ ht hu) (fun e => nomatch e) (fun _ _ e => nomatch e)
      · exact EqAt.of_rc (by first | exact RcAt.str_tuple ht hu | exact RcAt.str_tuple _ ht hu | exact RcAt.str_tuple _ _ ht hu) (fun e => nomatch e) (fun _ _ e => nomatch e)
  | inr ks =>
    obtain ⟨a, rfl, pa⟩ := p
    cases y with
    | inl l =>
      obtain ⟨o, it, m, go, gc, gd, r⟩ := pa
      have e : decide ((Sum.inr ks : E2) = Sum.inl l) = false := by simp
      rw [e]
      have ht : s.heap.IsTuple a it := ⟨o, go, gc, m, gd⟩
      rcases keyIs_shape (show keyIs l v = true from q) with ⟨i, t, rfl, rfl⟩ | ⟨x, t, rfl, rfl⟩
      · exact EqAt.of_rc (by first | exact RcAt.tuple_int ht hu | exact RcAt.tuple_int _ ht hu | exact RcAt.tuple_int _ _ ht hu) (fun e => nomatch e) noFl_ref
      · exact EqAt.of_rc (by first | exact RcAt.tuple_str ht hu | exact RcAt.tuple_str _ ht hu | exact RcAt.tuple_str _ _ ht hu) (fun e => nomatch e) noFl_ref
    | inr ls =>
      obtain ⟨b, rfl, pb⟩ := q
      have e : decide ((Sum.inr ks : E2) = Sum.inr ls) = decide (ks = ls) := by rw [Bool.eq_iff_iff]; simp
      rw [e]
      exact eq_flat hu pa pb
theorem pair_at {h : Heap} : ∀ {x : K2} {vs : List Value} (_ : Paired (itIs P w h) x vs) (j : Nat) (v : Value), vs[j]? = some v → ∃ k, x[j]? = some k ∧ itIs P w h k v
  | _, _, .nil, _, _, e => by simp at e
  | _, _, .cons h t, 0, v, e => by simp at e; subst e; exact ⟨_, rfl, h⟩
  | _, _, .cons h t, j + 1, v, e => by
    obtain ⟨k, h1, h2⟩ := pair_at t j v (by simpa using e)
    exact ⟨k, by simpa using h1, h2⟩
theorem eq_two {A : Around} {s : Shared} {x y : K2} {a b : Addr} (hu : A.units + 8 < cLine) (p : Is2 P w s.heap x a) (q : Is2 P w s.heap y b) : EqAt A s (.ref a) (.ref b) (decide (x = y)) := by
  have pj := p
  have qj := q
  obtain ⟨o, it, m, go, gc, gd, r⟩ := p
  obtain ⟨o', it', m', go', gc', gd', r'⟩ := q
  have z := RcAt.tuples (A := A) (e := dAt x y) (show s.heap.IsTuple a it from ⟨o, go, gc, m, gd⟩) (show s.heap.IsTuple b it' from ⟨o', go', gc', m', gd'⟩) (by omega) fun j h1 h2 => by
    obtain ⟨k, e1, i1⟩ := pair_at r j it[j] (by simp [h1])
    obtain ⟨l, e2, i2⟩ := pair_at r' j it'[j] (by simp [h2])
    have e : dAt x y j = decide (k = l) := by unfold dAt; rw [e1, e2]
    rw [e]
    exact eq_item (by show A.units + 1 < cLine; omega) i1 i2
  have l1 : it.size = x.length := by rw [← Array.length_toList]; exact (Paired.length r).symm
  have l2 : it'.size = y.length := by rw [← Array.length_toList]; exact (Paired.length r').symm
  rw [l1, l2, all_dec] at z
  refine EqAt.of_rc z (fun e => ?_) noFl_ref
  cases e
  rw [pj.inj qj]
  simp
def kind2 (P : Program) (w : World) : HeapKind P w K2 where
  is := Is2 P w
  hash := hash2 P w
  draws := draws2
  room := fun A => A.units + 8 < cLine
  inj := fun a b => a.inj b
  keeps := fun a b c d => a.keeps b c d
  pyHash := fun hu a q => hash_two hu a q
  eqBool := fun hu a b q => eq_two hu a b P w _ _ q
  quiet := fun a q => quiet2 a q
end
end L2
set_option Elab.async false
set_option linter.all false
set_option maxRecDepth 100000
set_option maxHeartbeats 4000000
namespace L2
open PySem PySem.Spec PyProof.Rows PySem.SeqAt
def kD : Key → Dt
  | .inl i => .int i
  | .inr x => .str x
def e2D : E2 → Dt
  | .inl k => kD k
  | .inr ks => .tup (ks.map kD)
def k2D (k : K2) : Dt := .tup (k.map e2D)
abbrev DE := K2 × Addr × V
def look (kvs : List DE) (k : K2) : Option V := (kvs.find? fun e => decide (e.1 = k)).map (·.2.2)
def putV (k : K2) (v : V) (e : DE) : DE := if e.1 = k then (e.1, e.2.1, v) else e
def put (kvs : List DE) (k : K2) (p : Addr) (v : V) : List DE := if (look kvs k).isSome then kvs.map (putV k v) else kvs ++ [(k, p, v)]
abbrev KA : List DE → List (K2 × Addr × Value) → Prop := Paired fun p q => p.1 = q.1 ∧ p.2.1 = q.2.1 ∧ RelV p.2.2 q.2.2
theorem look_nil (k : K2) : look [] k = none := rfl
theorem look_cons (e : DE) (l : List DE) (k : K2) : look (e :: l) k = if e.1 = k then some e.2.2 else look l k := by
  unfold look
  rw [List.find?_cons]
  by_cases h : e.1 = k
  · rw [decide_eq_true h, if_pos h]; rfl
  · rw [decide_eq_false h, if_neg h]
theorem look_app (l m : List DE) (k : K2) : look (l ++ m) k = match look l k with
    | some v => some v
    | none => look m k := by
  induction l with
  | nil => rfl
  | cons e l ih =>
    rw [List.cons_append, look_cons, look_cons, ih]
    by_cases h : e.1 = k
    · rw [if_pos h, if_pos h]
    · rw [if_neg h, if_neg h]
theorem look_map (l : List DE) (k k' : K2) (v : V) : look (l.map (putV k v)) k' = if k' = k ∧ (look l k).isSome = true then some v else look l k' := by
  induction l with
  | nil => simp [look]
  | cons e l ih =>
    rw [List.map_cons, look_cons, look_cons, look_cons, ih]
    have e1 : (putV k v e).1 = e.1 := by unfold putV; split <;> rfl
    rw [e1]
    by_cases h : e.1 = k'
    · rw [if_pos h, if_pos h]
      by_cases h2 : k' = k
      · have h3 : e.1 = k := h.trans h2
        rw [if_pos h3, if_pos ⟨h2, rfl⟩]
        unfold putV
        rw [if_pos h3]
      · rw [if_neg (fun z => h2 z.1)]
        unfold putV
        rw [if_neg (fun z => h2 (h.symm.trans z))]
    · rw [if_neg h, if_neg h]
      by_cases h2 : e.1 = k
      · rw [if_pos h2]
        have h3 : ¬ k' = k := fun z => h (h2.trans z.symm)
        rw [if_neg (fun z => h3 z.1), if_neg (fun z => h3 z.1)]
      · rw [if_neg h2]
theorem look_put (l : List DE) (k k' : K2) (p : Addr) (v : V) : look (put l k p v) k' = if k' = k then some v else look l k' := by
  unfold put
  by_cases h : (look l k).isSome = true
  · rw [if_pos h, look_map]
    simp only [h, and_true]
  · rw [if_neg h, look_app, look_cons, look_nil]
    have hn : look l k = none := by simpa using h
    by_cases e : k' = k
    · subst e
      rw [hn]
      first | done | simp
    · rw [if_neg e, if_neg (fun z => e z.symm)]
      cases look l k' <;> rfl
theorem keys_put (l : List DE) (k : K2) (p : Addr) (v : V) : (put l k p v).map (·.1) = if (look l k).isSome then l.map (·.1) else l.map (·.1) ++ [k] := by
  unfold put
  split
  · rw [List.map_map]
    refine List.map_congr_left fun e _ => ?_
    show (putV k v e).1 = e.1
    unfold putV; split <;> rfl
  · simp
theorem look_mem {l : List DE} {k : K2} : (look l k).isSome = true ↔ k ∈ l.map (·.1) := by
  induction l with
  | nil => simp [look]
  | cons e l ih =>
    rw [look_cons, List.map_cons, List.mem_cons]
    by_cases h : e.1 = k
    · rw [if_pos h]; simp [h]
    · rw [if_neg h, ih]
      constructor
      · exact .inr
      · rintro (z | z)
        · exact absurd z.symm h
        · exact z
theorem nodup_put {l : List DE} {k : K2} {p : Addr} {v : V} (h : (l.map (·.1)).Nodup) : ((put l k p v).map (·.1)).Nodup := by
  rw [keys_put]
  split
  · exact h
  · rename_i c
    rw [List.nodup_append]
    refine ⟨h, by simp, fun a ha b hb => ?_⟩
    have hb' : b = k := by simpa using hb
    subst hb'
    rintro rfl
    exact c (look_mem.mpr ha)
theorem mem_put {l : List DE} {k : K2} {p : Addr} {v : V} {e : DE} (h : e ∈ put l k p v) : (∃ f ∈ l, e.1 = f.1 ∧ e.2.1 = f.2.1) ∨ (e.1 = k ∧ e.2.1 = p) := by
  unfold put at h
  split at h
  · obtain ⟨f, hf, rfl⟩ := List.mem_map.mp h
    refine .inl ⟨f, hf, ?_⟩
    unfold putV; split <;> exact ⟨rfl, rfl⟩
  · rcases List.mem_append.mp h with h | h
    · exact .inl ⟨e, h, rfl, rfl⟩
    · have : e = (k, p, v) := by simpa using h
      subst this
      exact .inr ⟨rfl, rfl⟩
theorem KA.val {l : List DE} {xs : List (K2 × Addr × Value)} (r : KA l xs) (k : K2) : RelO (look l k) ((atKey xs k).map (·.2)) := by
  induction r with
  | nil => exact True.intro
  | @cons p q ps qs h t ih =>
    obtain ⟨h1, _, h3⟩ := h
    rw [look_cons]
    by_cases e : p.1 = k
    · have b : atKey (q :: qs) k = some q.2 := by
        unfold atKey
        rw [List.find?_cons, decide_eq_true (h1.symm.trans e)]
        rfl
      rw [if_pos e, b]; exact h3
    · have b : atKey (q :: qs) k = atKey qs k := by
        unfold atKey
        rw [List.find?_cons, decide_eq_false (fun z => e (h1.trans z))]
      rw [if_neg e, b]; exact ih
theorem relO_some {o : Option V} {u : Option Value} (r : RelO o u) : o.isSome = u.isSome := by
  cases o <;> cases u <;> first | rfl | exact r.elim
theorem KA.put {l : List DE} {xs : List (K2 × Addr × Value)} (r : KA l xs) (k : K2) (p : Addr) {v : V} {u : Value} (rv : RelV v u) : KA (put l k p v) (storedH xs k p u) := by
  have e : (look l k).isSome = (atKey xs k).isSome := by
    rw [relO_some (r.val k), Option.isSome_map]
  unfold L2.put storedH
  rw [e]
  by_cases q : (atKey xs k).isSome = true
  · rw [if_pos q, if_pos q]
    clear e q
    induction r with
    | nil => exact .nil
    | @cons a b as bs h t ih =>
      refine .cons ?_ ih
      obtain ⟨h1, h2, h3⟩ := h
      unfold putV putAt
      by_cases c : a.1 = k
      · rw [if_pos c, if_pos (h1.symm.trans c)]; exact ⟨h1, h2, rv⟩
      · rw [if_neg c, if_neg (fun z => c (h1.trans z))]; exact ⟨h1, h2, h3⟩
  · rw [if_neg q, if_neg q]
    exact Paired.appendP r (.cons ⟨rfl, rfl, rv⟩ .nil)
theorem KA.keys {l : List DE} {xs : List (K2 × Addr × Value)} (r : KA l xs) : xs.map (·.1) = l.map (·.1) := by
  induction r with
  | nil => rfl
  | cons h t ih => rw [List.map_cons, List.map_cons, ih, h.1]
def d2Obj (P : Program) (w : World) (a : Addr) (kvs : List DE) : HO := .ext fun h => kvs.length ≤ sizeLine ∧ (a == sysModules) = false ∧ ∃ xs, KA kvs xs ∧ ∃ o es ep, h.get? a = some o ∧ o.ExactDict ∧ o.data = .dict es ep ∧ es.toList = xs.map (entryOfKey (kind2 P w))
structure D2At (P : Program) (w : World) (K : PySem.W.Frag) (H : Hp) (a : Addr) (kvs : List DE) : Prop where
  at_ : H a = some (d2Obj P w a kvs)
  keys : ∀ e ∈ kvs, Has K (less H a) (.ref e.2.1) (k2D e.1)
  nd : (kvs.map (·.1)).Nodup
theorem D2At.same {P : Program} {w : World} {K : PySem.W.Frag} {H H' : Hp} {a : Addr} {kvs : List DE} (e : L2.Same H H') (D : D2At P w K H a kvs) : D2At P w K H' a kvs := ⟨e _ _ D.at_, fun x hx => (D.keys x hx).same (less_mono e), D.nd⟩
theorem D2At.put {P : Program} {w : World} {K : PySem.W.Frag} {H : Hp} {a p : Addr} {kvs : List DE} {k : K2} {v : V} (D : D2At P w K H a kvs) (hp : Has K (less H a) (.ref p) (k2D k)) : D2At P w K (upd H a (d2Obj P w a (put kvs k p v))) a (put kvs k p v) := by
  refine ⟨upd_same, fun e he => ?_, nodup_put D.nd⟩
  rw [less_upd]
  rcases mem_put he with ⟨f, hf, e1, e2⟩ | ⟨e1, e2⟩
  · rw [e1, e2]; exact D.keys f hf
  · rw [e1, e2]; exact hp
theorem D2At.new {P : Program} {w : World} {K : PySem.W.Frag} {H : Hp} {a : Addr} : D2At P w K (upd H a (d2Obj P w a [])) a [] := ⟨upd_same, fun e he => (by cases he), List.nodup_nil⟩
theorem Has.less {K : PySem.W.Frag} {H : Hp} {a : Addr} (h : ∀ xs, H a ≠ some (.lst xs)) (ht : ∀ xs, H a ≠ some (.tup xs)) (hz : ∀ o u, H a ≠ some (.frz o u)) : ∀ {v : V} {d : Dt}, Has K H v d → Has K (less H a) v d
  | _, _, .non => .non
  | _, _, .bl b => .bl b
  | _, _, .int i => .int i
  | _, _, .str x => .str x
  | _, _, .tup q t => by
    refine .tup ?_ (HasL.less h ht hz t)
    rcases q with (q | ⟨o, q⟩) | q
    · refine .inl (.inl ?_)
      unfold L2.less
      rw [if_neg (fun z => by subst z; exact ht _ q)]; exact q
    · refine .inl (.inr ⟨o, ?_⟩)
      unfold L2.less
      rw [if_neg (fun z => by subst z; exact hz _ _ q)]; exact q
    · exact .inr q
  | _, _, .lst q t => by
    refine .lst ?_ (HasL.less h ht hz t)
    rcases q with (q | ⟨o, q⟩) | q
    · refine .inl (.inl ?_)
      unfold L2.less
      rw [if_neg (fun z => by subst z; exact h _ q)]; exact q
    · refine .inl (.inr ⟨o, ?_⟩)
      unfold L2.less
      rw [if_neg (fun z => by subst z; exact hz _ _ q)]; exact q
    · exact .inr q
where
  HasL.less (h : ∀ xs, H a ≠ some (.lst xs)) (ht : ∀ xs, H a ≠ some (.tup xs)) (hz : ∀ o u, H a ≠ some (.frz o u)) : ∀ {vs : List V} {ds : List Dt}, HasL K H vs ds → HasL K (L2.less H a) vs ds
  | _, _, .nil => .nil
  | _, _, .cons q t => .cons (Has.less h ht hz q) (HasL.less h ht hz t)
theorem D2At.elsewhere {P : Program} {w : World} {K : PySem.W.Frag} {H : Hp} {a : Addr} {kvs : List DE} (D : D2At P w K H a kvs) {v : V} {d : Dt} (h : Has K H v d) : Has K (L2.less H a) v d :=
  Has.less (fun xs e => by rw [D.at_] at e; cases e) (fun xs e => by rw [D.at_] at e; cases e) (fun o u e => by rw [D.at_] at e; cases e) h
section
variable {X : Cx} {pins : List (Addr × Obj)} {σ : St} {H : Hp} {s : Shared}
end
end L2
set_option Elab.async false
set_option linter.all false
set_option maxRecDepth 100000
set_option maxHeartbeats 4000000
namespace L2
open PySem PySem.Spec PyProof.Rows PySem.SeqAt
section
variable {P : Program} {w : World} {A : Around} {E : Value → Shared → Prop} {s : Shared}
end
end L2
set_option Elab.async false
set_option linter.all false
set_option maxRecDepth 100000
set_option maxHeartbeats 4000000
namespace L2
open PySem PySem.Spec PyProof.Rows PySem.SeqAt
section
variable {prog : Program} {w : World} {A : Around} {E : Value → Shared → Prop} {s : Shared}
end
section
variable {prog : Program} {w : World} {A : Around} {E : Value → Shared → Prop} {s : Shared}
end
section
variable {X : Cx}
end
end L2
set_option Elab.async false
set_option linter.all false
set_option maxRecDepth 100000
set_option maxHeartbeats 4000000
namespace L2
open PySem PySem.Spec PyProof.Rows PySem.SeqAt PySem.W
section
variable {prog : Program} {w : World} {A : Around} {E : Value → Shared → Prop} {s : Shared}
end
section
variable {X : Cx}
end
end L2
set_option Elab.async false
set_option linter.all false
set_option maxRecDepth 100000
set_option maxHeartbeats 4000000
namespace L2
open PySem PySem.Spec PyProof.Rows
abbrev Sd := Tr × Int
def crn (t : Tr) (k : Int) : Pt :=
  if t.2.2 = 0 then (if k = 0 then (t.1, t.2.1) else if k = 1 then (t.1 + 1, t.2.1) else (t.1, t.2.1 + 1))
  else (if k = 0 then (t.1 + 1, t.2.1) else if k = 1 then (t.1 + 1, t.2.1 + 1) else (t.1, t.2.1 + 1))
def nxt (k : Int) : Int := if k = 0 then 1 else if k = 1 then 2 else 0
def opp (s : Sd) : Sd :=
  if s.1.2.2 = 0 then
    (if s.2 = 0 then ((s.1.1, s.1.2.1 - 1, 1), 1) else if s.2 = 1 then ((s.1.1, s.1.2.1, 1), 2) else ((s.1.1 - 1, s.1.2.1, 1), 0))
  else
    (if s.2 = 0 then ((s.1.1 + 1, s.1.2.1, 0), 2) else if s.2 = 1 then ((s.1.1, s.1.2.1 + 1, 0), 0) else ((s.1.1, s.1.2.1, 0), 1))
def okS (s : Sd) : Prop := (s.1.2.2 = 0 ∨ s.1.2.2 = 1) ∧ (s.2 = 0 ∨ s.2 = 1 ∨ s.2 = 2)
theorem opp_ok {s : Sd} (h : okS s) : okS (opp s) := by
  obtain ⟨⟨x, y, c⟩, k⟩ := s
  obtain ⟨rfl | rfl, rfl | rfl | rfl⟩ := h <;> simp [opp, okS]
theorem opp_opp {s : Sd} (h : okS s) : opp (opp s) = s := by
  obtain ⟨⟨x, y, c⟩, k⟩ := s
  obtain ⟨rfl | rfl, rfl | rfl | rfl⟩ := h <;> simp [opp]
theorem opp_tr {s : Sd} (h : okS s) : (opp s).1 ≠ s.1 := by
  obtain ⟨⟨x, y, c⟩, k⟩ := s
  obtain ⟨rfl | rfl, rfl | rfl | rfl⟩ := h <;> simp [opp]
theorem opp_ne {s : Sd} (h : okS s) : opp s ≠ s := fun e => opp_tr h (by rw [e])
def ltP (p q : Pt) : Bool := if p.1 = q.1 then decide (p.2 < q.2) else decide (p.1 < q.1)
def srt (p q : Pt) : Pt × Pt := if ltP q p then (q, p) else (p, q)
def key (s : Sd) : Pt × Pt := srt (crn s.1 s.2) (crn s.1 (nxt s.2))
theorem crn_opp {s : Sd} (h : okS s) : crn (opp s).1 (opp s).2 = crn s.1 (nxt s.2) ∧ crn (opp s).1 (nxt (opp s).2) = crn s.1 s.2 := by
  obtain ⟨⟨x, y, c⟩, k⟩ := s
  obtain ⟨rfl | rfl, rfl | rfl | rfl⟩ := h <;> simp [opp, crn, nxt]
theorem crn_ne {s : Sd} (h : okS s) : crn s.1 s.2 ≠ crn s.1 (nxt s.2) := by
  obtain ⟨⟨x, y, c⟩, k⟩ := s
  obtain ⟨rfl | rfl, rfl | rfl | rfl⟩ := h <;> simp [crn, nxt] <;> omega
theorem srt_swap {p q : Pt} (h : p ≠ q) : srt p q = srt q p := by
  obtain ⟨a, b⟩ := p
  obtain ⟨c, d⟩ := q
  unfold srt ltP
  by_cases e : a = c
  · subst e
    have hb : b ≠ d := fun z => h (by rw [z])
    simp only [if_true]
    by_cases l : d < b
    · have : ¬ b < d := by omega
      simp [l, this]
    · have : b < d := by omega
      simp [l, this]
  · have e' : ¬ c = a := fun z => e z.symm
    simp only [if_neg e, if_neg e']
    by_cases l : c < a
    · have : ¬ a < c := by omega
      simp [l, this]
    · have : a < c := by omega
      simp [l, this]
theorem key_opp {s : Sd} (h : okS s) : key (opp s) = key s := by
  unfold key
  obtain ⟨e1, e2⟩ := crn_opp h
  rw [e1, e2]
  exact srt_swap fun z => crn_ne h z.symm
theorem srt_eq {p q p' q' : Pt} (h : srt p q = srt p' q') : (p = p' ∧ q = q') ∨ (p = q' ∧ q = p') := by
  unfold srt at h
  split at h <;> split at h <;> injection h with h1 h2
  · exact .inl ⟨h2, h1⟩
  · exact .inr ⟨h2, h1⟩
  · exact .inr ⟨h1, h2⟩
  · exact .inl ⟨h1, h2⟩
theorem key_inj {s t : Sd} (hs : okS s) (ht : okS t) (h : key s = key t) : t = s ∨ t = opp s := by
  obtain ⟨⟨x, y, c⟩, k⟩ := s
  obtain ⟨⟨x', y', c'⟩, k'⟩ := t
  have hc := srt_eq h
  obtain ⟨rfl | rfl, rfl | rfl | rfl⟩ := hs <;> obtain ⟨rfl | rfl, rfl | rfl | rfl⟩ := ht <;> simp [crn, nxt, opp] at hc ⊢ <;> omega
def sds (t : Tr) : List Sd := [(t, 0), (t, 1), (t, 2)]
def sdsL (F : List Tr) : List Sd := F.flatMap sds
def tl (t : Tr) : List Int := [t.1, t.2.1, t.2.2]
def sD (s : Sd) : Dt := .tup [tD s.1, .int s.2]
def pK (p : Pt) : E2 := .inr [.inl p.1, .inl p.2]
def mK (s : Sd) : K2 := [pK (key s).1, pK (key s).2]
def bK (s : Sd) : K2 := [.inr [.inl s.1.1, .inl s.1.2.1, .inl s.1.2.2], .inl (.inl s.2)]
theorem bK_inj {s t : Sd} (h : bK s = bK t) : s = t := by
  obtain ⟨⟨a, b, c⟩, k⟩ := s
  obtain ⟨⟨a', b', c'⟩, k'⟩ := t
  simp [bK] at h
  obtain ⟨⟨rfl, rfl, rfl⟩, rfl⟩ := h
  rfl
theorem mK_inj {s t : Sd} (h : mK s = mK t) : key s = key t := by
  unfold mK pK at h
  simp at h
  obtain ⟨⟨h1, h2⟩, h3, h4⟩ := h
  exact Prod.ext (Prod.ext h1 h2) (Prod.ext h3 h4)
theorem bK_eq {s t : Sd} : bK s = bK t ↔ s = t := ⟨bK_inj, fun e => by rw [e]⟩
theorem mK_eq {s t : Sd} (hs : okS s) (ht : okS t) : mK s = mK t ↔ t = s ∨ t = opp s := by
  constructor
  · intro h; exact key_inj hs ht (mK_inj h)
  · rintro (rfl | rfl)
    · rfl
    · unfold mK; rw [key_opp hs]
theorem cornersP_crn (t : Tr) : cornersP t.1 t.2.1 t.2.2 = [crn t 0, crn t 1, crn t 2] := by
  unfold cornersP crn
  split <;> simp
theorem D2At.stay {P : Program} {w : World} {K : PySem.W.Frag} {H : Hp} {a : Addr} {kvs : List DE} {o : HO} (D : D2At P w K H a kvs) {v : V} {d : Dt} (h : Has K H v d) : Has K (upd H a o) v d := by
  have z := D.elsewhere h
  rw [← less_upd (H := H) (l := a) (o := o)] at z
  exact z.same (less_same _ _)
end L2
set_option Elab.async false
set_option linter.all false
set_option maxRecDepth 100000
set_option maxHeartbeats 4000000
namespace L2
open PySem PySem.Spec PyProof.Rows
section
variable {P : Program} {w : World} {K : PySem.W.Frag} {H H1 H2 : Hp} {am ab : Addr} {mk bk : List DE}
end
section
variable {P : Program} {w : World} {K : PySem.W.Frag} {H H1 H2 : Hp} {am ab : Addr} {mk bk : List DE} {dn : List Sd}
theorem bK_mem {s : Sd} : ∀ {dn : List Sd}, bK s ∈ dn.map bK ↔ s ∈ dn
  | [] => by simp
  | t :: dn => by
    rw [List.map_cons, List.mem_cons, List.mem_cons, bK_mem, bK_eq]
end
end L2
set_option Elab.async false
set_option linter.all false
set_option maxRecDepth 100000
set_option maxHeartbeats 4000000
namespace L2
open PySem PySem.Spec PyProof.Rows
def turnI (a b : Int) : Int := if a = 0 ∧ b = 1 then 1 else if a = 1 ∧ b = 0 then -1 else 0
def tnS (rs : List (List Int)) (s : Sd) : Int := turnI (mkAt rs (crn s.1 s.2).1 (crn s.1 s.2).2) (mkAt rs (crn s.1 (nxt s.2)).1 (crn s.1 (nxt s.2)).2)
def snT (rs : List (List Int)) (t : Tr) : Int := senseT rs t.1 t.2.1 t.2.2
theorem sense_turns {a b c : Int} (ha : 0 ≤ a ∧ a ≤ 2) (hb : 0 ≤ b ∧ b ≤ 2) (hc : 0 ≤ c ∧ c ≤ 2) : sense3 a b c = turnI a b + turnI b c + turnI c a := by
  rcases tri3 ha with rfl | rfl | rfl <;> rcases tri3 hb with rfl | rfl | rfl <;> rcases tri3 hc with rfl | rfl | rfl <;> decide
end L2
set_option Elab.async false
set_option linter.all false
set_option maxRecDepth 100000
set_option maxHeartbeats 4000000
namespace L2
open PySem PySem.Spec PyProof.Rows
def cnt (dn : List Sd) (s : Sd) : Int := (if s ∈ dn then 1 else 0) + if opp s ∈ dn then 1 else 0
theorem cnt_nn (dn : List Sd) (s : Sd) : 0 ≤ cnt dn s := by unfold cnt; split <;> split <;> omega
theorem cnt_same {dn : List Sd} {s u : Sd} (hs : okS s) (hu : okS u) (h : mK u = mK s) : cnt dn u = cnt dn s := by
  rcases (mK_eq hs hu).mp h.symm with rfl | rfl
  · rfl
  · unfold cnt
    rw [opp_opp hs]
    omega
theorem cnt_add {dn : List Sd} {s u : Sd} (hs : okS s) (hu : okS u) (new : s ∉ dn) : cnt (dn ++ [s]) u = cnt dn u + if mK u = mK s then 1 else 0 := by
  by_cases e : mK u = mK s
  · rw [if_pos e]
    rcases (mK_eq hs hu).mp e.symm with rfl | rfl
    · unfold cnt
      have h1 : u ∈ dn ++ [u] := by simp
      have h2 : opp u ∈ dn ++ [u] ↔ opp u ∈ dn := by simp [opp_ne hu]
      rw [if_pos h1, if_neg new]
      by_cases h : opp u ∈ dn
      · rw [if_pos (h2.mpr h), if_pos h]; omega
      · rw [if_neg (fun z => h (h2.mp z)), if_neg h]; omega
    · unfold cnt
      rw [opp_opp hs]
      have h1 : s ∈ dn ++ [s] := by simp
      have h2 : opp s ∈ dn ++ [s] ↔ opp s ∈ dn := by simp [opp_ne hs]
      rw [if_pos h1, if_neg new]
      by_cases h : opp s ∈ dn
      · rw [if_pos (h2.mpr h), if_pos h]; omega
      · rw [if_neg (fun z => h (h2.mp z)), if_neg h]; omega
  · rw [if_neg e]
    have n1 : u ≠ s := fun z => e (by rw [z])
    have n2 : opp u ≠ s := fun z => e (by rw [← z]; exact (mK_eq hu (opp_ok hu)).mpr (.inr rfl))
    unfold cnt
    have h1 : u ∈ dn ++ [s] ↔ u ∈ dn := by simp [n1]
    have h2 : opp u ∈ dn ++ [s] ↔ opp u ∈ dn := by simp [n2]
    simp only [h1, h2]
    omega
def cntOk (kvs : List DE) (dn : List Sd) : Prop := ∀ s, okS s → look kvs (mK s) = if cnt dn s = 0 then none else some (.int (cnt dn s))
theorem cntOk.get {kvs : List DE} {dn : List Sd} (h : cntOk kvs dn) {s : Sd} (hs : okS s) : (look kvs (mK s)).getD (.int 0) = .int (cnt dn s) := by
  rw [h s hs]
  split
  · rename_i e; rw [e]; rfl
  · rfl
theorem cntOk.put {kvs : List DE} {dn : List Sd} (h : cntOk kvs dn) {s : Sd} (hs : okS s) (new : s ∉ dn) (p : Addr) : cntOk (put kvs (mK s) p (.int (cnt dn s + 1))) (dn ++ [s]) := fun u hu => by
  rw [look_put, cnt_add hs hu new]
  by_cases e : mK u = mK s
  · rw [if_pos e, if_pos e, cnt_same hs hu e]
    have := cnt_nn dn s
    rw [if_neg (by omega)]
  · rw [if_neg e, if_neg e, h u hu]
    simp
end L2
namespace L2
end L2
set_option Elab.async false
set_option linter.all false
set_option maxRecDepth 100000
set_option maxHeartbeats 4000000
namespace L2
open PySem PySem.Spec PyProof.Rows
theorem HasL.set {K : PySem.W.Frag} {H : Hp} : ∀ {xs : List V} {ds : List Dt} {i : Nat} {x : V} {d : Dt}, HasL K H xs ds → Has K H x d → HasL K H (xs.set i x) (ds.set i d)
  | _, _, _, _, _, .nil, _ => .nil
  | _, _, 0, _, _, .cons _ t, h => .cons h t
  | _, _, i + 1, _, _, .cons g t, h => .cons g (HasL.set t h)
end L2
set_option Elab.async false
set_option linter.all false
set_option maxRecDepth 100000
set_option maxHeartbeats 4000000
namespace L2
open PySem PySem.Spec PyProof.Rows
section
variable {X : Cx}
end
end L2
namespace L2
open PySem PySem.Spec PyProof.Rows
def SameN (H H' : Hp) : Prop := ∀ b o, H b = some o → (∀ xs, o ≠ .lst xs) → (∀ u xs, o ≠ .frz u (.lst xs)) → H' b = some o
theorem SameN.trans {H H1 H2 : Hp} (a : SameN H H1) (b : SameN H1 H2) : SameN H H2 := fun c o h n m => b c o (a c o h n m) n m
theorem SameN.of {H H' : Hp} (e : L2.Same H H') : SameN H H' := fun b o h _ _ => e b o h
theorem SameN.refl (H : Hp) : SameN H H := fun _ _ h _ _ => h
theorem SameN.upd {H : Hp} {l : Addr} {xs ys : List V} (h : H l = some (.lst xs)) : SameN H (upd H l (.lst ys)) := fun b o e n _ => by
  have : b ≠ l := fun z => by subst z; rw [h] at e; cases e; exact n xs rfl
  rw [upd_ne this]; exact e
theorem SameN.less {H : Hp} {l : Addr} {xs : List V} (h : H l = some (.lst xs)) : SameN H (less H l) := fun b o e n _ => by
  have : b ≠ l := fun z => by subst z; rw [h] at e; cases e; exact n xs rfl
  unfold L2.less
  rw [if_neg this]; exact e
mutual
def onlyT : Dt → Bool
  | .lst _ => false
  | .tup l => onlyTs l
  | _ => true
def onlyTs : List Dt → Bool
  | [] => true
  | d :: r => onlyT d && onlyTs r
end
mutual
theorem Has.tups {K : PySem.W.Frag} {H H' : Hp} (e : SameN H H') : ∀ {v : V} {d : Dt}, onlyT d = true → Has K H v d → Has K H' v d
  | _, _, _, .non => .non
  | _, _, _, .bl b => .bl b
  | _, _, _, .int i => .int i
  | _, _, _, .str x => .str x
  | _, _, o, .tup q t => by
    rw [onlyT] at o
    refine .tup ?_ (HasL.tups e o t)
    rcases q with (q | ⟨u, q⟩) | q
    · exact .inl (.inl (e _ _ q (fun _ z => by cases z) (fun _ _ z => by cases z)))
    · exact .inl (.inr ⟨u, e _ _ q (fun _ z => by cases z) (fun _ _ z => by cases z)⟩)
    · exact .inr q
  | _, _, o, .lst q t => by rw [onlyT] at o; cases o
theorem HasL.tups {K : PySem.W.Frag} {H H' : Hp} (e : SameN H H') : ∀ {vs : List V} {ds : List Dt}, onlyTs ds = true → HasL K H vs ds → HasL K H' vs ds
  | _, _, _, .nil => .nil
  | _, _, o, .cons q t => by
    rw [onlyTs, Bool.and_eq_true] at o
    exact .cons (Has.tups e o.1 q) (HasL.tups e o.2 t)
end
theorem NewL.ext {K : PySem.W.Frag} {H H1 : Hp} {v : V} {l : Addr} {xs zs : List V} {ds es : List Dt} (h : NewL K H H1 v l xs ds) (hx : HasL K (L2.less H1 l) zs es) : NewL K H (upd H1 l (.lst (xs ++ zs))) v l (xs ++ zs) (ds ++ es) :=
  ⟨h.ev, h.new, fun b o e => by rw [upd_ne (ne_of_none e h.new)]; exact h.same _ _ e, upd_same, by rw [less_upd]; exact h.has.append hx⟩
end L2
set_option Elab.async false
set_option linter.all false
set_option maxRecDepth 100000
set_option maxHeartbeats 4000000
namespace L2
open PySem PySem.Spec PyProof.Rows
inductive En where
  | wh (t : Tr) | dr (s : Sd)
  deriving DecidableEq
def eD : En → Dt
  | .wh t => .tup [.str "whole", tD t]
  | .dr s => .tup [.str "door", tD s.1, .int s.2]
structure Bey (P : Program) (w : World) (K : PySem.W.Frag) (H : Hp) (ab : Addr) (bk : List DE) (F : List Tr) : Prop where
  at_ : D2At P w K H ab bk
  keys : bk.map (·.1) = (sdsL F).map bK
  vals : ∀ s ∈ sdsL F, ∃ v, look bk (bK s) = some v ∧ (opp s ∈ sdsL F → Has K H v (sD (opp s))) ∧ (opp s ∉ sdsL F → v = .non)
theorem Bey.same {P : Program} {w : World} {K : PySem.W.Frag} {H H' : Hp} {ab : Addr} {bk : List DE} {F : List Tr} (e : L2.Same H H') (b : Bey P w K H ab bk F) : Bey P w K H' ab bk F := by
  refine ⟨b.at_.same e, b.keys, fun s hs => ?_⟩
  obtain ⟨v, l, h1, h2⟩ := b.vals s hs
  exact ⟨v, l, fun z => (h1 z).same e, h2⟩
theorem Bey.mem {P : Program} {w : World} {K : PySem.W.Frag} {H : Hp} {ab : Addr} {bk : List DE} {F : List Tr} (b : Bey P w K H ab bk F) (s : Sd) : (look bk (bK s)).isSome = decide (s ∈ sdsL F) := by
  rw [Bool.eq_iff_iff, look_mem, b.keys, bK_mem]
  simp
end L2
namespace L2
end L2
set_option Elab.async false
set_option linter.all false
set_option maxRecDepth 100000
set_option maxHeartbeats 4000000
namespace L2
open PySem PySem.Spec PyProof.Rows
def lf (x y z c : Int) : List Int := (([(0, x), (1, y), (2, z)] : List (Int × Int)).filter fun p => decide (p.1 ≠ c) && decide (p.2 ≠ 0)).map (·.1)
def lft (rs : List (List Int)) (t : Tr) (c : Int) : List Int := lf (tnS rs (t, 0)) (tnS rs (t, 1)) (tnS rs (t, 2)) c
def trips : List (Int × Int × Int) := [(0, 0, 0), (1, 0, 0), (-1, 0, 0), (0, 1, 0), (0, -1, 0), (0, 0, 1), (0, 0, -1), (1, -1, 0), (-1, 1, 0), (1, 0, -1), (-1, 0, 1), (0, 1, -1), (0, -1, 1)]
theorem trip_in : ∀ a ∈ ([0, 1, 2] : List Int), ∀ b ∈ ([0, 1, 2] : List Int), ∀ c ∈ ([0, 1, 2] : List Int), (turnI a b, turnI b c, turnI c a) ∈ trips := by decide +kernel
theorem in3 {a : Int} (h : 0 ≤ a ∧ a ≤ 2) : a ∈ ([0, 1, 2] : List Int) := by
  have : a = 0 ∨ a = 1 ∨ a = 2 := by omega
  simpa using this
def pick (p : Int × Int × Int) (c : Int) : Int := if c = 0 then p.1 else if c = 1 then p.2.1 else p.2.2
def sum3 (p : Int × Int × Int) : Int := p.1 + p.2.1 + p.2.2
theorem fin_end : ∀ p ∈ trips, ∀ c ∈ ([0, 1, 2] : List Int), pick p c ≠ 0 → sum3 p ≠ 0 → lf p.1 p.2.1 p.2.2 c = [] ∧ lf p.1 p.2.1 p.2.2 (-1) = [c] ∧ pick p c = sum3 p := by decide +kernel
theorem fin_two : ∀ p ∈ trips, ∀ c ∈ ([0, 1, 2] : List Int), pick p c ≠ 0 → sum3 p = 0 → ∃ k ∈ ([0, 1, 2] : List Int), lf p.1 p.2.1 p.2.2 c = [k] ∧ pick p k = - pick p c ∧ lf p.1 p.2.1 p.2.2 k = [c] := by decide +kernel
theorem fin_whole : ∀ p ∈ trips, sum3 p ≠ 0 → ∃ k ∈ ([0, 1, 2] : List Int), lf p.1 p.2.1 p.2.2 (-1) = [k] ∧ pick p k = sum3 p := by decide +kernel
def tp (rs : List (List Int)) (t : Tr) : Int × Int × Int := (tnS rs (t, 0), tnS rs (t, 1), tnS rs (t, 2))
theorem pick_tp {rs : List (List Int)} {t : Tr} {c : Int} (h : c ∈ ([0, 1, 2] : List Int)) : pick (tp rs t) c = tnS rs (t, c) := by
  simp at h
  rcases h with rfl | rfl | rfl <;> rfl
theorem tp_in {rs : List (List Int)} {t : Tr} (g : Good rs) (it : isTri (sz rs) t.1 t.2.1 t.2.2) : tp rs t ∈ trips ∧ sum3 (tp rs t) = snT rs t := by
  have hon := (isTri_iff.mp it).2
  rw [cornersP_crn] at hon
  have h0 := (g.at (hon (crn t 0) (by simp))).choose_spec.2.2
  have h1 := (g.at (hon (crn t 1) (by simp))).choose_spec.2.2
  have h2 := (g.at (hon (crn t 2) (by simp))).choose_spec.2.2
  refine ⟨trip_in _ (in3 h0) _ (in3 h1) _ (in3 h2), ?_⟩
  unfold snT senseT
  rw [cornersP_crn]
  exact (sense_turns h0 h1 h2).symm
section
variable {rs : List (List Int)} {t : Tr} {c k : Int}
theorem lft_end (g : Good rs) (it : isTri (sz rs) t.1 t.2.1 t.2.2) (hc : c ∈ ([0, 1, 2] : List Int)) (ne : tnS rs (t, c) ≠ 0) (w : snT rs t ≠ 0) : lft rs t c = [] ∧ lft rs t (-1) = [c] ∧ tnS rs (t, c) = snT rs t := by
  obtain ⟨a, b⟩ := tp_in g it
  rw [← b] at w ⊢
  rw [← pick_tp (rs := rs) (t := t) hc] at ne ⊢
  exact fin_end _ a c hc ne w
theorem lft_two (g : Good rs) (it : isTri (sz rs) t.1 t.2.1 t.2.2) (hc : c ∈ ([0, 1, 2] : List Int)) (ne : tnS rs (t, c) ≠ 0) (w : snT rs t = 0) : ∃ k ∈ ([0, 1, 2] : List Int), lft rs t c = [k] ∧ tnS rs (t, k) = - tnS rs (t, c) ∧ lft rs t k = [c] := by
  obtain ⟨a, b⟩ := tp_in g it
  rw [← b] at w
  rw [← pick_tp (rs := rs) (t := t) hc] at ne ⊢
  obtain ⟨k, hk, e1, e2, e3⟩ := fin_two _ a c hc ne w
  exact ⟨k, hk, e1, by rw [← pick_tp (rs := rs) (t := t) hk]; exact e2, e3⟩
theorem lft_whole (g : Good rs) (it : isTri (sz rs) t.1 t.2.1 t.2.2) (w : snT rs t ≠ 0) : ∃ k ∈ ([0, 1, 2] : List Int), lft rs t (-1) = [k] ∧ tnS rs (t, k) = snT rs t := by
  obtain ⟨a, b⟩ := tp_in g it
  rw [← b] at w ⊢
  obtain ⟨k, hk, e1, e2⟩ := fin_whole _ a w
  exact ⟨k, hk, e1, by rw [← pick_tp (rs := rs) (t := t) hk]; exact e2⟩
end
def gn (rs : List (List Int)) (F : List Tr) : Nat → Tr → Int → List Tr × Option En
  | 0, _, _ => ([], none)
  | n + 1, t, c => match lft rs t c with
    | [] => ([t], some (.wh t))
    | k :: _ => if opp (t, k) ∈ sdsL F then (t :: (gn rs F n (opp (t, k)).1 (opp (t, k)).2).1, (gn rs F n (opp (t, k)).1 (opp (t, k)).2).2) else ([t], some (.dr (t, k)))
def okst (rs : List (List Int)) (d : Int) (t : Tr) (c : Int) : Prop := d ≠ 0 ∧ ((c = -1 ∧ snT rs t = d) ∨ (c ∈ ([0, 1, 2] : List Int) ∧ tnS rs (t, c) = - d))
theorem okst.cases {rs : List (List Int)} {d : Int} {t : Tr} {c : Int} (g : Good rs) (it : isTri (sz rs) t.1 t.2.1 t.2.2) (h : okst rs d t c) :
    (lft rs t c = [] ∧ c ∈ ([0, 1, 2] : List Int) ∧ snT rs t = - d ∧ lft rs t (-1) = [c]) ∨ (∃ k ∈ ([0, 1, 2] : List Int), lft rs t c = [k] ∧ tnS rs (t, k) = d ∧ ((c = -1 ∧ snT rs t = d ∧ lft rs t k = []) ∨ (c ∈ ([0, 1, 2] : List Int) ∧ snT rs t = 0 ∧ lft rs t k = [c]))) := by
  obtain ⟨d0, ⟨rfl, e⟩ | ⟨hc, e⟩⟩ := h
  · obtain ⟨k, hk, e1, e2⟩ := lft_whole g it (by rw [e]; exact d0)
    exact .inr ⟨k, hk, e1, by rw [e2, e], .inl ⟨rfl, e, (lft_end g it hk (by rw [e2, e]; exact d0) (by rw [e]; exact d0)).1⟩⟩
  · have ne : tnS rs (t, c) ≠ 0 := by omega
    by_cases w : snT rs t = 0
    · obtain ⟨k, hk, e1, e2, e3⟩ := lft_two g it hc ne w
      exact .inr ⟨k, hk, e1, by omega, .inr ⟨hc, w, e3⟩⟩
    · obtain ⟨a, b, e3⟩ := lft_end g it hc ne w
      exact .inl ⟨a, hc, by omega, b⟩
def st : En → Tr × Int
  | .wh t => (t, -1)
  | .dr s => s
section
variable {rs : List (List Int)} {F : List Tr}
end
def gonE (rs : List (List Int)) (F : List Tr) (e : En) : List Tr × Option En := gn rs F (F.length + 1) (st e).1 (st e).2
def ptnP (rs : List (List Int)) (F : List Tr) (e : En) : En := (gonE rs F e).2.getD e
end L2
set_option Elab.async false
set_option linter.all false
set_option maxRecDepth 100000
set_option maxHeartbeats 4000000
namespace L2
open PySem PySem.Spec PyProof.Rows
section
variable {X : Cx}
end
end L2
namespace L2
open PySem PySem.Spec PyProof.Rows
end L2
namespace L2
open PySem PySem.Spec PyProof.Rows
end L2
namespace L2
open PySem PySem.Spec PyProof.Rows
end L2
set_option Elab.async false
set_option linter.all false
set_option maxRecDepth 100000
set_option maxHeartbeats 4000000
namespace L2
open PySem PySem.Spec PyProof.Rows
section
variable {rs : List (List Int)} {n : Nat}
def hit (rs : List (List Int)) (F : List Tr) (e : En) : Option (Tr × Sd) := match e with
  | .wh _ => none
  | .dr s => match ptnP rs F (.dr s) with
    | .wh t => some (t, s)
    | .dr _ => none
end
end L2
namespace L2
open PySem PySem.Spec PyProof.Rows
end L2
set_option Elab.async false
set_option linter.all false
set_option maxRecDepth 100000
set_option maxHeartbeats 4000000
namespace L2
open PySem PySem.Spec PySem.Calls PyProof.Rows PySem.W Builtin Builtin.ObjectAttr Builtin.Getset_descriptor
structure ExcCls (K : PySem.W.Frag) (D : Addr) : Prop where
  ga : PySem.W.findIn K (.ref D) "__getattribute__" = some (some (.builtin "BaseException.__getattribute__"))
  no : PySem.W.findIn K (.ref D) "__getattr__" = some none
  cl : PySem.W.findIn K (.ref D) "__class__" = some (some (.builtin "object.__class__"))
  sp : PySem.W.specialIn K (.builtin "object.__class__") "__get__" = some (some (.builtin "getset_descriptor.__get__"))
  tk : PySem.W.takesIn K (.builtin "object.__class__") = some true
  ob : PySem.W.mroIn K D (.type "object") = some true
  ba : PySem.W.mroIn K D (.type "BaseException") = some true
section
variable {prog : Program} {w : World} {A : Around} {E : Value → Shared → Prop} {s : Shared} {K : PySem.W.Frag} {x D : Addr} {ox : Obj}
theorem exc_cget {R : Result → Shared → Prop} {tp : Value} (X : K.In s.heap) (Z : ExcCls K D) (hx : s.heap.get? x = some ox) (hc : ox.cls = .ref D) (h : R (.ok (.ret (.ref D))) s) :
    codeAny (model prog w) A (.call (.builtin "getset_descriptor.__get__") ⟨[.builtin "object.__class__", .ref x, tp], []⟩) R s := by
  obtain ⟨h0, g, dr, t, os⟩ := s
  have T0 : Looks (model prog w) h0 (typeOf (.ref x)) (.ref D) := hc ▸ (Looks.ld hx).andThen .now
  have T1 := looks_mroIn (M := model prog w) X Z.ob
  refine codeAny_call_builtin KF.slot_gs.plain KF.entry_gs ?_
  refine KF.slot_gs.check _ _ _ _ _ _ _ _ KF.type_class (KF.args_gs _ _ _) ?_
  unfold Builtin.«getset_descriptor.__get__»
  unfold descrGet
  rw [dga_obj]
  refine wpAny_bind (wpAny_pure ?_)
  unfold descrGetter descrCheckInstance
  unfold descrNameAndClass isInstance
  simp only [KF.owner_class]
  repeat lk
  refine ⟨Code.quiet_builtin _ (by decide +kernel), ?_⟩
  refine codeAny_builtin KF.entry_class ?_
  unfold Builtin.«object.__class__»
  unfold shownTypeOf
  repeat lk
  exact h
theorem exc_class {Q : Option Value → Shared → Prop} (X : K.In s.heap) (Z : ExcCls K D) (hx : s.heap.get? x = some ox) (hc : ox.cls = .ref D) (h : Q (some (.ref D)) { s with toks := s.toks + 1 }) :
    wpAny (model prog w) A (getAttr? (.ref x) "__class__") Q E s := by
  obtain ⟨h0, g, dr, t, os⟩ := s
  have T0 : Looks (model prog w) h0 (typeOf (.ref x)) (.ref D) := hc ▸ (Looks.ld hx).andThen .now
  have T1 := looks_findIn (M := model prog w) X Z.ga
  have T2 := looks_findIn (M := model prog w) X Z.no
  have T3 : Looks (model prog w) h0 (find (.ref x) (.ref D) "__class__") (Found.bind (.builtin "getset_descriptor.__get__") (.builtin "object.__class__")) := by
    have U1 := looks_findIn (M := model prog w) X Z.cl
    have U2 : Looks (model prog w) h0 (getOf (some (.builtin "object.__class__"))) (some (.builtin "getset_descriptor.__get__")) := looks_specialIn X Z.sp
    have U3 := looks_takesIn (M := model prog w) X Z.tk
    refine U1.andThen (U2.andThen ?_)
    have U4 : Looks (model prog w) h0 (dataDescriptor? (some (.builtin "object.__class__")) (some (.builtin "getset_descriptor.__get__"))) (some (.builtin "getset_descriptor.__get__", .builtin "object.__class__")) := U3.andThen .now
    exact U4.andThen (Looks.tag .now)
  unfold getAttr? getAttrBy?
  unfold getAttrBy
  refine wpAny_bind (wpAny_mkText ?_)
  refine wpAny_bind (wpAny_attempt (wpAny_holding ?_))
  refine wpAny_bind (T0.at (wpAny_bind (T1.at ?_)))
  dsimp only
  have ne : (Value.builtin "BaseException.__getattribute__" == Value.builtin "object.__getattribute__") = false := by decide +kernel
  rw [if_neg (by rw [ne, Bool.and_false]; decide)]
  unfold getAttrByItsOwn hookBefore
  rw [if_pos (by rfl)]
  refine wpAny_bind (T2.at ?_)
  refine wpAny_bind (wpAny_attempt (wpAny_holding ?_))
  unfold callGetattribute boundAndCalled
  rw [if_neg (by simp)]
  refine wpAny_bind (wpAny_of_eq (F.attr_ValueError.ga.bind _) ?_)
  show wpAny _ _ (call (.builtin "BaseException.__getattribute__") [.ref x, .str "__class__" t]) _ _ _
  refine wpAny_call (codeAny_call_builtin F.attr_ValueError.ga.plain F.entry_bexc_ga ?_)
  have T4 : Looks (model prog w) h0 (isInstance (.ref x) (.type "BaseException")) true := T0.andThen (looks_mroIn X Z.ba)
  have kd : builtinKind "BaseException.__getattribute__" = some .slot := by decide +kernel
  have sd : splitId "BaseException.__getattribute__" = some ("BaseException", "__getattribute__") := by decide +kernel
  have ao := F.args_bexc_ga (.ref x) (.str "__class__" t)
  simp only [checkBuiltinCall, kd, sd]
  refine wpAny_bind (T4.at ?_)
  rw [if_neg (by decide)]
  refine wpAny_of_eq ao ?_
  unfold Builtin.«object.__getattribute__»
  unfold slotArgs
  iterate 8 lk
  refine wpAny_bind (wpAny_pure (wpAny_bind (T0.at (wpAny_bind (T3.at ?_)))))
  unfold bindTo
  dsimp only
  refine wpAny_bind (wpAny_holding (wpAny_call (exc_cget X Z hx hc ?_)))
  refine wpAny_pure ?_
  show wpAny _ _ (handedOut (.ref D)) _ _ _
  refine PySem.W.handed_on rfl ?_
  exact wpAny_pure h
theorem kitx_exc (Z : ExcCls K D) (hcl : PySem.W.isClsIn K D = true) : PySem.W.KitX K (.ref x) (.ref D) (fun h => h.get? x = some ox ∧ ox.cls = .ref D) := by
  obtain ⟨cd, dd, c, sl, ho⟩ : ∃ cd dd c sl, K.lookup D = some ⟨c, dd, .cls cd, sl⟩ := by
    have h1 : (PySem.W.clsIn K D).isSome = true := hcl
    unfold PySem.W.clsIn at h1
    split at h1
    · exact ⟨_, _, _, _, by assumption⟩
    · cases h1
  refine ⟨fun M h X p => p.2 ▸ (Looks.ld p.1).andThen .now, fun M h X p B' R' F' u' kk zz => ?_, fun h tp d2 its n sl2 X htp => ?_, fun X p k => exc_class X Z p.1 p.2 k⟩
  · unfold isType
    unfold loadHead
    exact wpAny_bind (wpAny_loadPart (kk _ _ (X _ _ ho)) (wpAny_pure zz))
  · refine Bool.eq_false_iff.mpr fun q => ?_
    have e : Value.ref D = .ref tp := beq_iff_eq.mp q
    injection e with e
    subst e
    have h2 := X _ _ ho
    rw [htp] at h2
    cases h2
end
abbrev rIsiB (K : PySem.W.Frag) (a C : Addr) : List V → Hp → VK → Prop := fun xs H Q => ∃ y c b, xs = [.ref a, y] ∧ clsV y = some c ∧ ExcCls K C ∧ PySem.W.isClsIn K C = true ∧ PySem.W.kitOne K (.ref C) c = some b ∧ Q (.bl b) H
theorem call_isi_excB {X : Cx} {a C : Addr} {oe : Obj} (hp : (a, oe) ∈ X.pn) (hc : oe.cls = .ref C) : CallR X (.builtin "isinstance") (rIsiB X.K a C) := by
  intro pins s σ H xs us Q I r h
  obtain ⟨y, c, b, rfl, ey, z, hcl, e, q⟩ := h
  obtain ⟨u, v, rfl, r1, r2⟩ := Vals.two r
  obtain rfl : u = Value.ref a := r1
  obtain rfl := clsV_rel r2 ey
  exact PySem.W.kia_one (kitx_exc z hcl) I.kIn ⟨(I.pin (a, oe) (List.mem_append_left _ hp)).1, hc⟩ e (fun z => nomatch z) fun tk => ⟨.bl b, H, I.tok tk, rfl, q⟩
theorem kit_refB {K : PySem.W.Frag} {C D : Addr} {b : Bool} (ne : C ≠ D) (h1 : PySem.W.isClsIn K D = true) (h2 : PySem.W.typeIn K (.ref D) = some (.type "type")) (h3 : PySem.W.subIn K (.ref C) (.ref D) = some b) : PySem.W.kitOne K (.ref C) (.ref D) = some b := by
  unfold PySem.W.kitOne
  have n1 : (Value.ref C == Value.ref D) = false := Bool.eq_false_iff.mpr fun q => ne (Value.ref.inj (beq_iff_eq.mp q))
  rw [n1, if_neg (by decide)]
  have h1' : (PySem.W.clsIn K D).isSome = true := h1
  show (if ((PySem.W.clsIn K D).isSome && PySem.W.typeIn K (.ref D) == some (.type "type")) = true then PySem.W.subIn K (.ref C) (.ref D) else none) = some b
  rw [h1', h2, if_pos (by simp)]
  exact h3
end L2
set_option Elab.async false
set_option linter.all false
set_option maxRecDepth 100000
set_option maxHeartbeats 4000000
namespace L2
open PySem PySem.Spec PyProof.Rows
def hnd (x y : Int) : Int := (x - y) % 3
theorem hnd_in (x y : Int) : 0 ≤ hnd x y ∧ hnd x y < 3 := ⟨Int.emod_nonneg _ (by decide), Int.emod_lt_of_pos _ (by decide)⟩
def jrow (rss : List (List (List Int))) (n y : Nat) : List Int := (List.range (n + 1 - y)).map fun (x : Nat) => mkAt (rss.getD (hnd x y).toNat []) x y
def jnt (rss : List (List (List Int))) (n : Nat) : List (List Int) := (List.range (n + 1)).map fun (y : Nat) => jrow rss n y
section
variable {rss : List (List (List Int))} {n : Nat}
theorem jnt_len : (jnt rss n).length = n + 1 := by unfold jnt; simp
theorem hand_net (h3 : rss.length = 3) (x y : Int) : ∃ rs, rss[(hnd x y).toNat]? = some rs ∧ rss.getD (hnd x y).toNat [] = rs ∧ rs ∈ rss := by
  obtain ⟨a, b⟩ := hnd_in x y
  have hl : (hnd x y).toNat < rss.length := by omega
  refine ⟨rss[(hnd x y).toNat], by simp [hl], by rw [List.getD_eq_getElem?_getD]; simp [hl], List.getElem_mem hl⟩
theorem jrow_len (i : Nat) : (jrow rss n i).length = n + 1 - i := by unfold jrow; simp
theorem jrow_at {i j : Nat} (h : j < n + 1 - i) : (jrow rss n i)[j]? = some (mkAt (rss.getD (hnd j i).toNat []) j i) := by
  unfold jrow
  rw [List.getElem?_map, List.getElem?_range h]
  rfl
theorem jnt_row {i : Nat} (h : i < n + 1) : (jnt rss n)[i]? = some (jrow rss n i) := by
  unfold jnt
  rw [List.getElem?_map, List.getElem?_range h]
  rfl
theorem jnt_good (h3 : rss.length = 3) (g : ∀ rs ∈ rss, Good rs ∧ rs.length = n + 1) : Good (jnt rss n) := by
  obtain ⟨r0, _, _, m0⟩ := hand_net h3 0 0
  obtain ⟨g0, l0⟩ := g r0 m0
  refine ⟨by rw [jnt_len, ← l0]; exact g0.1, by rw [jnt_len, ← l0]; exact g0.2.1, fun y r h => ?_⟩
  rw [jnt_len]
  unfold jnt at h
  rw [List.getElem?_map] at h
  cases e : (List.range (n + 1))[y]? with
  | none => rw [e] at h; cases h
  | some y' =>
    rw [e] at h
    cases h
    obtain ⟨hy, ey⟩ := List.getElem?_eq_some_iff.mp e
    rw [List.getElem_range] at ey
    subst ey
    rw [List.length_range] at hy
    unfold jrow
    refine ⟨by simp, fun v hv => ?_⟩
    obtain ⟨x, hx, rfl⟩ := List.mem_map.mp hv
    have hx := List.mem_range.mp hx
    obtain ⟨rs, _, e2, m⟩ := hand_net h3 x y
    rw [e2]
    obtain ⟨gr, lr⟩ := g rs m
    exact (gr.at (x := x) (y := y) ⟨by omega, by omega, by omega⟩).choose_spec.2.2
end
end L2
namespace L2
open PySem PySem.Spec PyProof.Rows
theorem GR.rows_some {H : Hp} {v : V} {rs : List (List Int)} {m : Addr} {ras : List Addr} (G : GR H v rs m ras) {a : Addr} (ha : a ∈ ras) : ∃ r : List Int, H a = some (.lst (r.map V.int)) := by
  obtain ⟨i, hi⟩ := List.mem_iff_getElem?.mp ha
  obtain ⟨r, _, h⟩ := Paired.getL G.rows hi
  exact ⟨r, h⟩
theorem refs_ints {ras : List Addr} {r : List Int} (h : ras.map V.ref = r.map V.int) : ras = [] := by
  cases ras with
  | nil => rfl
  | cons a l => cases r with
    | nil => cases h
    | cons b t => injection h with h1 _; cases h1
theorem GR.off {H : Hp} {v : V} {rs : List (List Int)} {m a : Addr} {ras : List Addr} {r0 : List Int} {o : HO} (G : GR H v rs m ras) (h0 : 0 < rs.length) (ha : H a = some (.lst (r0.map V.int))) (na : a ∉ ras) : GR (upd H a o) v rs m ras := by
  have hm : m ≠ a := fun z => by
    subst z
    have e := G.top.symm.trans ha
    injection e with e
    injection e with e
    have := Paired.length G.rows
    rw [refs_ints e] at this
    simp at this
    omega
  refine ⟨G.ev, by rw [upd_ne hm]; exact G.top, Paired.mapP (Paired.withMem G.rows) fun b r ⟨hb, z⟩ => ?_⟩
  have nb : b ≠ a := fun e => na (e ▸ hb)
  show upd H a o b = _
  rw [upd_ne nb]; exact z
theorem GR.offL {H : Hp} {v x : V} {rs : List (List Int)} {m l : Addr} {ras : List Addr} {t : List V} {q : Addr} {o : HO} (G : GR H v rs m ras) (hm : m ≠ l) (hl : H l = some (.lst (.ref q :: t))) : GR (upd H l o) v rs m ras := by
  refine ⟨G.ev, by rw [upd_ne hm]; exact G.top, Paired.mapP G.rows fun b r z => ?_⟩
  have nb : b ≠ l := fun e => by
    subst e
    have e := z.symm.trans hl
    injection e with e
    injection e with e
    cases r with
    | nil => cases e
    | cons c u => injection e with h1 _; cases h1
  show upd H l o b = _
  rw [upd_ne nb]; exact z
def HG (l : Addr) (H : Hp) (p : V × List Addr) (rs : List (List Int)) : Prop := ∃ m, m ≠ l ∧ GR H p.1 rs m p.2
theorem Paired.set2 {α β : Type} {F : α → β → Prop} {a : α} {b : β} : ∀ {l₁ : List α} {l₂ : List β} {i : Nat}, Paired F l₁ l₂ → F a b → Paired F (l₁.set i a) (l₂.set i b)
  | _, _, _, .nil, _ => .nil
  | _, _, 0, .cons _ t, h => .cons h t
  | _, _, i + 1, .cons r t, h => .cons r (Paired.set2 t h)
theorem Paired.fst {α β γ : Type} {F : α → γ → Prop} : ∀ {l₁ : List (α × β)} {l₂ : List γ}, Paired (fun p c => F p.1 c) l₁ l₂ → Paired F (l₁.map (·.1)) l₂
  | _, _, .nil => .nil
  | _, _, .cons r t => .cons r (Paired.fst t)
def zrow (n y : Nat) : List Int := List.replicate (n + 2 - y) 0
def zer (n : Nat) : List (List Int) := (List.range (n + 2)).map fun (y : Nat) => zrow n y
theorem zer_len (n : Nat) : (zer n).length = n + 2 := by unfold zer; simp
theorem zer_row {n i : Nat} (h : i < n + 2) : (zer n)[i]? = some (zrow n i) := by
  unfold zer
  rw [List.getElem?_map, List.getElem?_range h]
  rfl
theorem zer_good {n : Nat} (h : n + 2 ≤ 13) : Good (zer n) := by
  refine ⟨by rw [zer_len]; omega, by rw [zer_len]; omega, fun y r e => ?_⟩
  have hy : y < n + 2 := by have := (List.getElem?_eq_some_iff.mp e).1; rw [zer_len] at this; exact this
  rw [zer_row hy] at e
  cases e
  refine ⟨by rw [zer_len]; unfold zrow; simp, fun v hv => ?_⟩
  have : v = 0 := by unfold zrow at hv; exact List.eq_of_mem_replicate hv
  omega
theorem rep_zero (k : Nat) : (List.replicate k [V.int 0]).flatten = (List.replicate k (0 : Int)).map V.int := by
  induction k with
  | zero => rfl
  | succ k ih => rw [List.replicate_succ, List.flatten_cons, ih, List.replicate_succ]; rfl
theorem hasG {K : PySem.W.Frag} {H : Hp} : ∀ {gs : List V} {rss : List (List (List Int))}, Paired (TGrid H) gs rss → HasL K H gs (rss.map gridD)
  | _, _, .nil => .nil
  | _, _, .cons h t => .cons (by obtain ⟨_, _, G⟩ := h; exact G.has) (hasG t)
theorem atI_mem {α : Type} {xs : List α} {i : Int} {v : α} (h : atI xs i = some v) : v ∈ xs := by
  unfold atI at h
  obtain ⟨j, _, e⟩ := Option.bind_eq_some_iff.mp h
  exact List.mem_of_getElem? e
theorem dj_at {ps : List (V × List Addr)} (d : ps.Pairwise fun p q => ∀ b ∈ p.2, b ∉ q.2) {i j : Nat} {p q : V × List Addr} (hi : ps[i]? = some p) (hj : ps[j]? = some q) (ne : j ≠ i) {b : Addr} (hb : b ∈ p.2) : b ∉ q.2 := by
  obtain ⟨li, ei⟩ := List.getElem?_eq_some_iff.mp hi
  obtain ⟨lj, ej⟩ := List.getElem?_eq_some_iff.mp hj
  rw [List.pairwise_iff_getElem] at d
  rcases Nat.lt_or_ge i j with h | h
  · have := d i j li lj h b (by rw [ei]; exact hb)
    rw [ej] at this
    exact this
  · intro z
    have := d j i lj li (by omega) b (by rw [ej]; exact z)
    rw [ei] at this
    exact this hb
theorem dep_grids (rss : List (List (List Int))) : dep (.lst (rss.map gridD)) ≤ 50 := by
  rw [dep]
  have : depL (rss.map gridD) ≤ 10 := depL_le fun d hd => by
    obtain ⟨rs, _, rfl⟩ := List.mem_map.mp hd
    unfold gridD
    rw [dep]
    have := depL_rows rs
    omega
  omega
end L2
set_option Elab.async false
set_option linter.all false
set_option maxRecDepth 100000
set_option maxHeartbeats 4000000
namespace K14
open PySem PySem.Spec PyProof.Rows L2
seal L2.PE L2.PT L2.PS L2.PSs L2.PA L2.PI L2.PG L2.PGs L2.PW L2.PO L2.PIfs L2.PH
def top (i : Nat) : Stmt := PySem.Challenge.pw_cornerdoors_k14_joint_nets.main.body.getD i (.Pass ⟨0, 0, 0, 0⟩)
abbrev s_check_marks : Stmt := top 13
abbrev s_Net__init : Stmt := inClass (top 14) 0
abbrev s_is_place : Stmt := top 15
abbrev s_mark : Stmt := top 16
abbrev s_ruled : Stmt := top 36
abbrev s_check_ruled : Stmt := top 37
abbrev s_hand_of : Stmt := top 39
abbrev s_check_nets : Stmt := top 40
abbrev s_joint : Stmt := top 41
abbrev s_settled : Stmt := top 42
abbrev s_law_cell_at : Stmt := top 44
abbrev s_law_mix : Stmt := top 45
abbrev s_law_marks_by : Stmt := top 46
abbrev s_law_ruled_by : Stmt := top 47
abbrev s_law_net : Stmt := top 49
abbrev s_law_hand_by : Stmt := top 50
abbrev s_law_met : Stmt := top 51
abbrev s_law : Stmt := top 52
theorem sc_check_marks : FnScope ["rows", "size", "y", "row", "value"] ["rows"] (defScope s_check_marks) := ⟨rfl, rfl, rfl, by decide +kernel, rfl, by decide +kernel, by decide +kernel⟩
theorem sc_Net__init : FnScope ["self", "marks"] ["self", "marks"] (defScope s_Net__init) := ⟨rfl, rfl, rfl, by decide +kernel, rfl, by decide +kernel, by decide +kernel⟩
theorem sc_is_place : FnScope ["net", "x", "y"] ["net", "x", "y"] (defScope s_is_place) := ⟨rfl, rfl, rfl, by decide +kernel, rfl, by decide +kernel, by decide +kernel⟩
theorem sc_mark : FnScope ["net", "x", "y"] ["net", "x", "y"] (defScope s_mark) := ⟨rfl, rfl, rfl, by decide +kernel, rfl, by decide +kernel, by decide +kernel⟩
theorem sc_ruled : FnScope ["net", "size", "step"] ["net"] (defScope s_ruled) := ⟨rfl, rfl, rfl, by decide +kernel, rfl, by decide +kernel, by decide +kernel⟩
theorem sc_check_ruled : FnScope ["net"] ["net"] (defScope s_check_ruled) := ⟨rfl, rfl, rfl, by decide +kernel, rfl, by decide +kernel, by decide +kernel⟩
theorem sc_hand_of : FnScope ["x", "y"] ["x", "y"] (defScope s_hand_of) := ⟨rfl, rfl, rfl, by decide +kernel, rfl, by decide +kernel, by decide +kernel⟩
theorem sc_check_nets : FnScope ["nets", "net"] ["nets"] (defScope s_check_nets) := ⟨rfl, rfl, rfl, by decide +kernel, rfl, by decide +kernel, by decide +kernel⟩
theorem sc_joint : FnScope ["nets", "size", "rows", "y"] ["nets"] (defScope s_joint) := ⟨rfl, rfl, rfl, by decide +kernel, rfl, by decide +kernel, by decide +kernel⟩
theorem sc_settled : FnScope ["nets", "shared", "whole", "by_hand", "x", "y"] ["nets"] (defScope s_settled) := ⟨rfl, rfl, rfl, by decide +kernel, rfl, by decide +kernel, by decide +kernel⟩
theorem sc_law_cell_at : FnScope ["script", "k"] ["script", "k"] (defScope s_law_cell_at) := ⟨rfl, rfl, rfl, by decide +kernel, rfl, by decide +kernel, by decide +kernel⟩
theorem sc_law_mix : FnScope ["cell", "k", "many", "some", "number"] ["cell", "k", "many"] (defScope s_law_mix) := ⟨rfl, rfl, rfl, by decide +kernel, rfl, by decide +kernel, by decide +kernel⟩
theorem sc_law_marks_by : FnScope ["script", "most", "size", "marks", "y", "cell"] ["script", "most"] (defScope s_law_marks_by) := ⟨rfl, rfl, rfl, by decide +kernel, rfl, by decide +kernel, by decide +kernel⟩
theorem sc_law_ruled_by : FnScope ["script", "most", "marks", "size", "k", "cell"] ["script", "most"] (defScope s_law_ruled_by) := ⟨rfl, rfl, rfl, by decide +kernel, rfl, by decide +kernel, by decide +kernel⟩
theorem sc_law_net : FnScope ["marks"] ["marks"] (defScope s_law_net) := ⟨rfl, rfl, rfl, by decide +kernel, rfl, by decide +kernel, by decide +kernel⟩
theorem sc_law_hand_by : FnScope ["script", "hand", "most", "own"] ["script", "hand", "most"] (defScope s_law_hand_by) := ⟨rfl, rfl, rfl, by decide +kernel, rfl, by decide +kernel, by decide +kernel⟩
theorem sc_law_met : FnScope ["nets", "way", "e"] ["nets", "way"] (defScope s_law_met) := ⟨rfl, rfl, rfl, by decide +kernel, rfl, by decide +kernel, by decide +kernel⟩
theorem sc_law : FnScope ["script", "hands", "size", "cell", "due", "nets", "found", "marks", "y"] ["script"] (defScope s_law) := ⟨rfl, rfl, rfl, by decide +kernel, rfl, by decide +kernel, by decide +kernel⟩
structure Adr where
  DoorError : Addr
  BadNet : Addr
  NoPlace : Addr
  NoTriangle : Addr
  NoFloor : Addr
  NoEnd : Addr
  NotRuled : Addr
  Net : Addr
  t_SMALLEST_SIZE : Tok
  t_LARGEST_SIZE : Tok
  MARKS : Addr
  FORWARD_ORDERS : Addr
structure Txt (K : PySem.W.Frag) (mg : Str → Option Value) (ad : Adr) : Prop where
  b_len : mg "len" = none
  b_range : mg "range" = none
  b_enumerate : mg "enumerate" = none
  b_list : mg "list" = none
  b_isinstance : mg "isinstance" = none
  b_bool : mg "bool" = none
  b_ValueError : mg "ValueError" = none
  g_SMALLEST_SIZE : mg "SMALLEST_SIZE" = some (.int (1) ad.t_SMALLEST_SIZE)
  r_SMALLEST_SIZE : RelV (.int (1)) (.int (1) ad.t_SMALLEST_SIZE)
  g_LARGEST_SIZE : mg "LARGEST_SIZE" = some (.int (12) ad.t_LARGEST_SIZE)
  r_LARGEST_SIZE : RelV (.int (12)) (.int (12) ad.t_LARGEST_SIZE)
  g_MARKS : mg "MARKS" = some (.ref ad.MARKS)
  r_MARKS : RelV (.ref ad.MARKS) (.ref ad.MARKS)
  q_MARKS : ∀ H, SqT K H ad.MARKS [V.int (0), V.int (1), V.int (2)]
  h_MARKS : ∀ H, Has K H (.ref ad.MARKS) (.tup [.int 0, .int 1, .int 2])
  g_FORWARD_ORDERS : mg "FORWARD_ORDERS" = some (.ref ad.FORWARD_ORDERS)
  r_FORWARD_ORDERS : RelV (.ref ad.FORWARD_ORDERS) (.ref ad.FORWARD_ORDERS)
  h_FORWARD_ORDERS : ∀ H, Has K H (.ref ad.FORWARD_ORDERS) (.tup [.tup [.int 0, .int 1, .int 2], .tup [.int 1, .int 2, .int 0], .tup [.int 2, .int 0, .int 1]])
  x_DoorError : Exc K mg "DoorError" ad.DoorError
  x_BadNet : Exc K mg "BadNet" ad.BadNet
  x_NoPlace : Exc K mg "NoPlace" ad.NoPlace
  x_NoTriangle : Exc K mg "NoTriangle" ad.NoTriangle
  x_NoFloor : Exc K mg "NoFloor" ad.NoFloor
  x_NoEnd : Exc K mg "NoEnd" ad.NoEnd
  x_NotRuled : Exc K mg "NotRuled" ad.NotRuled
  g_Net : mg "Net" = some (.ref ad.Net)
  cl_Net : Cls K ad.Net
  n_Net_size : NoAttr K ad.Net "size"
  n_Net_marks : NoAttr K ad.Net "marks"
  m_BadNet_DoorError : PySem.W.mroIn K ad.BadNet (.ref ad.DoorError) = some true
  m_NotRuled_DoorError : PySem.W.mroIn K ad.NotRuled (.ref ad.DoorError) = some true
  ec_BadNet : ExcCls K ad.BadNet
  ic_BadNet : PySem.W.isClsIn K ad.BadNet = true
  ec_NotRuled : ExcCls K ad.NotRuled
  ic_NotRuled : PySem.W.isClsIn K ad.NotRuled = true
  ty_Net : ∀ (H : Hp) (a dx : Addr) (fs : List (Str × V)), H a = some (.ins ad.Net dx fs) → TyOf K H (.ref a) (.ref ad.Net)
  kb_BadNet_BadNet : PySem.W.kitOne K (.ref ad.BadNet) (.ref ad.BadNet) = some true
  kb_BadNet_NotRuled : PySem.W.kitOne K (.ref ad.BadNet) (.ref ad.NotRuled) = some false
  kb_NotRuled_BadNet : PySem.W.kitOne K (.ref ad.NotRuled) (.ref ad.BadNet) = some false
  kb_NotRuled_NotRuled : PySem.W.kitOne K (.ref ad.NotRuled) (.ref ad.NotRuled) = some true
def spLaw (K : PySem.W.Frag) : Sp := fun vs H Q _ => ∃ (a : Addr) (ns : List Int), vs = [.ref a] ∧ SqL K H a (ns.map V.int) ∧ ∀ H', Q (.bl true) H'
def cellAt (ns : List Int) (k : Int) : Int := if k < (ns.length : Int) then ns.getD k.toNat 0 else 0
def spCell (K : PySem.W.Frag) : Sp := fun vs H Q _ => ∃ (a : Addr) (ns : List Int) (k : Int), vs = [.ref a, .int k] ∧ SqL K H a (ns.map V.int) ∧ 0 ≤ k ∧ Q (.int (cellAt ns k)) H
def spMix : Sp := fun vs H Q _ => ∃ c k m : Int, vs = [.int c, .int k, .int m] ∧ 0 ≤ k ∧ k < 100000 ∧ 0 < m ∧ ∀ r H', 0 ≤ r → r < m → L2.Same H H' → Q (.int r) H'
def spCheck (K : PySem.W.Frag) (BN : Addr) : Sp := fun vs H Q E => ∃ v rs, vs = [v] ∧ Has K H v (gridD rs) ∧ (Good rs → ∀ H', L2.Same H H' → Q .non H') ∧ (¬ Good rs → ∀ H', L2.Same H H' → E (.ref BN) none H')
section
variable {P : Program} {w : World} {K : PySem.W.Frag} {mg : Str → Option Value} {base : Heap} {ad : Adr}
theorem ok_cell {f : Addr} {fd : FuncData} (F : Fun K "_law_cell_at" "_law_cell_at" s_law_cell_at f fd) (T : Txt K mg ad) : FnOk P w K mg base (CXR P w) 1 f fd ["script", "k"] (spCell K) := by
  refine F.okX sc_law_cell_at (fun vs H Q E h => ?_) (fun cdv A outer s H vs Q E hr h hx => ?_)
  · obtain ⟨a, ns, k, rfl, _⟩ := h
    rfl
  · obtain ⟨a, ns, k, rfl, hS, h0, q⟩ := h
    refine ⟨_, (pss_cons (ps_if (pt_cmpR op_lt (pv 1) (pe_callB (r := rLenOf K) call_len_seq rfl T.b_len PySem.boot_len (pa_cons (pv 0) pa_nil)) (nomark _)) (pss_one (ps_ret (pe_ix (r := rIxL K) ix_list (pv 0) (pv 1) (fun _ _ => rfl)))) pss_nil)
  (pss_one (ps_ret pe_int))), ?_⟩
    refine ⟨_, rfl, _, rfl, a, _, rfl, .inl hS, _, _, rfl, rfl, _, rfl, ?_⟩
    refine ite2 (fun hlt => ?_) (fun hge => ?_)
    · have hlt' : k < (ns.length : Int) := by simpa using hlt
      have hk : k.toNat < ns.length := by omega
      have hat : atI (ns.map V.int) k = some (.int (cellAt ns k)) := by
        have e : ((k.toNat : Nat) : Int) = k := by omega
        have z := atI_nat (xs := ns.map V.int) (j := k.toNat) (v := .int ns[k.toNat]) (by simp [hk])
        rw [e] at z
        rw [z]
        unfold cellAt
        rw [if_pos hlt']
        simp [List.getD_eq_getElem?_getD, hk]
      exact ⟨_, rfl, _, rfl, a, _, _, _, rfl, rfl, hS, hat, q⟩
    · have hge' : ¬ k < (ns.length : Int) := by simpa using hge
      unfold cellAt at q
      rw [if_neg hge'] at q
      exact q
end
end K14
set_option Elab.async false
set_option linter.all false
set_option maxRecDepth 100000
set_option maxHeartbeats 4000000
namespace K14
open PySem PySem.Spec PyProof.Rows L2
seal L2.PE L2.PT L2.PS L2.PSs L2.PA L2.PI L2.PG L2.PGs L2.PW L2.PO L2.PIfs L2.PH
section
variable {P : Program} {w : World} {K : PySem.W.Frag} {mg : Str → Option Value} {base : Heap} {ad : Adr}
theorem mix_bound {c k : Int} (t : Int) (h1 : 0 ≤ t) (h2 : t < 100000) : 0 ≤ (c % 2147483647 + 12345) * t ∧ (c % 2147483647 + 12345) * t < 2 ^ 64 := by
  have a1 := Int.emod_nonneg c (show (2147483647 : Int) ≠ 0 by decide)
  have a2 := Int.emod_lt_of_pos c (show (0 : Int) < 2147483647 by decide)
  constructor
  · exact Int.mul_nonneg (by omega) h1
  · have : (c % 2147483647 + 12345) * t ≤ 2147495992 * 100000 := Int.mul_le_mul (by omega) (by omega) h1 (by decide)
    omega
theorem ok_mix {f : Addr} {fd : FuncData} (F : Fun K "_law_mix" "_law_mix" s_law_mix f fd) (T : Txt K mg ad) : FnOk P w K mg base (CXR P w) 1 f fd ["cell", "k", "many"] spMix := by
  refine F.okX sc_law_mix (fun vs H Q E h => ?_) (fun cdv A outer s H vs Q E hr h hx => ?_)
  · obtain ⟨c, k, m, rfl, _⟩ := h
    rfl
  · obtain ⟨c, k, m, rfl, h0, h1, hm, q⟩ := h
    refine ⟨_, (pss_cons (ps_set (i := 3) sc_law_mix.nd rfl (Or.inl rfl) (pe_lst (pa_ints rfl)))
  (pss_cons (ps_set (i := 4) sc_law_mix.nd rfl (Or.inl rfl) (pe_op op_mul (pe_op op_add (pe_op op_mod (pv 0) pe_int) pe_int) (pe_ix (r := rIxL K) ix_list (pv 3) (pe_op op_mod (pv 1) pe_int) (fun _ _ => rfl))))
  (pss_cons (ps_set (i := 4) sc_law_mix.nd rfl (Or.inl rfl) (pe_op op_add (pe_op op_mul (pv 4) (pe_op op_add (pe_op op_mul pe_int (pe_op op_fdiv (pv 1) pe_int)) pe_int)) (pe_op op_mul pe_int (pv 1))))
  (pss_one (ps_ret (pe_op op_mod (pe_op op_fdiv (pe_op op_mod (pv 4) pe_int) pe_int) (pv 2))))))), ?_⟩
    refine ⟨(by show 13 ≤ sizeLine; decide), fun l hl => ?_⟩
    have k1 := Int.emod_nonneg k (show (13 : Int) ≠ 0 by decide)
    have k2 := Int.emod_lt_of_pos k (show (0 : Int) < 13 by decide)
    obtain ⟨t, ht, t0, tb⟩ : ∃ t : Int, atI [V.int 48271, .int 69621, .int 16807, .int 39373, .int 30269, .int 40014, .int 40692, .int 50021, .int 61687, .int 71993, .int 83869, .int 95561, .int 30307] (k % 13) = some (.int t) ∧ 0 ≤ t ∧ t < 100000 := by
      generalize k % 13 = j at k1 k2
      have : j = 0 ∨ j = 1 ∨ j = 2 ∨ j = 3 ∨ j = 4 ∨ j = 5 ∨ j = 6 ∨ j = 7 ∨ j = 8 ∨ j = 9 ∨ j = 10 ∨ j = 11 ∨ j = 12 := by omega
      rcases this with rfl | rfl | rfl | rfl | rfl | rfl | rfl | rfl | rfl | rfl | rfl | rfl | rfl <;> exact ⟨_, rfl, by decide, by decide⟩
    obtain ⟨b1, b2⟩ := mix_bound (c := c) (k := k) t t0 tb
    have a1 := Int.emod_nonneg c (show (2147483647 : Int) ≠ 0 by decide)
    have a2 := Int.emod_lt_of_pos c (show (0 : Int) < 2147483647 by decide)
    refine ⟨_, rfl, _, _, rfl, rfl, (by show (0 : Int) < 2147483647; decide), _, _, rfl, rfl, _, rfl, _, rfl, _, _, rfl, rfl, (by show (0 : Int) < 13; decide), l, _, _, _, rfl, rfl, SqL.of upd_same, ht, _, _, rfl, rfl, .inl ⟨by omega, by omega⟩, ?_⟩
    refine ⟨_, rfl, _, rfl, _, _, rfl, rfl, ⟨by decide, by decide⟩, _, _, rfl, rfl, .inl ⟨by decide, by decide⟩, _, _, rfl, rfl, _, _, rfl, rfl, .inl ⟨by omega, b2⟩, _, rfl, _, _, rfl, rfl, .inl ⟨by decide, by decide⟩, _, _, rfl, rfl, ?_⟩
    refine ⟨_, rfl, _, _, rfl, rfl, (by show (0 : Int) < 1000000007; decide), _, _, rfl, rfl, ⟨by decide, by decide⟩, _, rfl, _, _, rfl, rfl, hm, ?_⟩
    exact q _ _ (Int.emod_nonneg _ (by omega)) (Int.emod_lt_of_pos _ hm) (same_upd hl)
end
end K14
set_option Elab.async false
set_option linter.all false
set_option maxRecDepth 100000
set_option maxHeartbeats 4000000
namespace K14
open PySem PySem.Spec PyProof.Rows L2
seal L2.PE L2.PT L2.PS L2.PSs L2.PA L2.PI L2.PG L2.PGs L2.PW L2.PO L2.PIfs L2.PH
theorem in_marks (v : Int) : inV (.int v) [.int 0, .int 1, .int 2] = decide (0 ≤ v ∧ v ≤ 2) := by
  simp only [inV, List.any_cons, List.any_nil, eqV, Bool.or_false]
  rw [Bool.eq_iff_iff]
  simp only [Bool.or_eq_true, beq_iff_eq, decide_eq_true_eq]
  omega
def RowOk (n y : Nat) (r : List Int) : Prop := r.length = n - y ∧ ∀ v ∈ r, 0 ≤ v ∧ v ≤ 2
section
variable {P : Program} {w : World} {K : PySem.W.Frag} {mg : Str → Option Value} {base : Heap} {ad : Adr}
theorem ok_check {f : Addr} {fd : FuncData} (F : Fun K "check_marks" "check_marks" s_check_marks f fd) (T : Txt K mg ad) : FnOk P w K mg base (CXR P w) 1 f fd ["rows"] (spCheck K ad.BadNet) := by
  refine F.okX sc_check_marks (fun vs H Q E h => ?_) (fun cdv A outer s H vs Q E hr h hx => ?_)
  · obtain ⟨v, rs, rfl, _⟩ := h
    rfl
  · obtain ⟨v, rs, rfl, hh, kq, ke⟩ := h
    refine ⟨_, (pss_cons (ps_set (i := 1) sc_check_marks.nd rfl (Or.inl rfl) (pe_op op_sub (pe_callB (r := rLenOf K) call_len_seq rfl T.b_len PySem.boot_len (pa_cons (pv 0) pa_nil)) pe_int))
  (pss_cons (ps_if (PW.pt (pw_or (pt_cmpR op_lt (pv 1) (pe_glob rfl T.g_SMALLEST_SIZE T.r_SMALLEST_SIZE) (nomark _)) (pw_or1 (pt_cmpR op_gt (pv 1) (pe_glob rfl T.g_LARGEST_SIZE T.r_LARGEST_SIZE) (nomark _))))) (pss_one (ps_raise hx rfl T.x_BadNet rfl (pa_cons pe_str pa_nil))) pss_nil)
  (pss_one (ps_for hx.own rfl (pi_enumK K rfl T.b_enumerate (pa_cons (pv 0) pa_nil)) (pg_tupK (n := 2) K rfl (pgs_cons (pg_name (i := 2) sc_check_marks.nd rfl (Or.inl rfl)) (pgs_cons (pg_name (i := 3) sc_check_marks.nd rfl (Or.inl rfl)) pgs_nil))) (pss_cons (ps_if (pt_cmpR op_ne (pe_callB (r := rLenOf K) call_len_seq rfl T.b_len PySem.boot_len (pa_cons (pv 3) pa_nil)) (pe_op op_add (pe_op op_sub (pv 1) (pv 2)) pe_int) (nomark _)) (pss_one (ps_raise hx rfl T.x_BadNet rfl (pa_cons (pe_fstr (pv 2) (by decide) (by decide)) pa_nil))) pss_nil)
  (pss_one (ps_for hx.own rfl (pi_listK K (pv 3)) (pg_name (i := 4) sc_check_marks.nd rfl (Or.inl rfl)) (pss_one (ps_if (pt_cmpR (r := rIn K true) op_notIn_seq (pv 4) (pe_glob rfl T.g_MARKS T.r_MARKS) rfl) (pss_one (ps_raise hx rfl T.x_BadNet rfl (pa_cons (pe_fstr (pv 2) (by decide) (by decide)) pa_nil))) pss_nil))))))))), ?_⟩
    unfold gridD at hh
    cases hh with
    | @lst m xs ds hq hl =>
      have el : xs.length = rs.length := by rw [hl.length, List.length_map]
      refine ⟨_, rfl, m, xs, rfl, .inl hq, _, _, rfl, rfl, ?_⟩
      refine ⟨_, rfl, _, _, rfl, rfl, _, rfl, ?_⟩
      refine ite2 (fun hb => ?_) (fun hb => ?_)
      · refine ⟨by show 1 ≤ sizeLine; decide, ke (fun g => ?_) H (L2.Same.refl H)⟩
        have := g.1
        have hb' := of_decide_eq_true hb
        omega
      refine ⟨_, rfl, _, _, rfl, rfl, _, rfl, ?_⟩
      refine ite2 (fun hb2 => ?_) (fun hb2 => ?_)
      · refine ⟨by show 1 ≤ sizeLine; decide, ke (fun g => ?_) H (L2.Same.refl H)⟩
        have := g.2.1
        have hb' := of_decide_eq_true hb2
        omega
      have n2 : 2 ≤ rs.length := by
        have : ¬ ((xs.length : Int) - 1 < 1) := fun z => hb (decide_eq_true z)
        omega
      have n13 : rs.length ≤ 13 := by
        have : ¬ ((12 : Int) < (xs.length : Int) - 1) := fun z => hb2 (decide_eq_true z)
        omega
      refine ⟨_, rfl, m, rfl, ⟨_, hq⟩, for_enum (K := K) (a := m) (xs := xs) (fun i σ H1 => L2.Same H H1 ∧ (∃ c2 c3 c4, σ = [some (.ref m), some (.int ((xs.length : Int) - 1)), c2, c3, c4]) ∧ ∀ (y : Nat) (r : List Int), y < i → rs[y]? = some r → RowOk rs.length y r)
        ⟨L2.Same.refl H, ⟨_, _, _, rfl⟩, fun y r h => absurd h (Nat.not_lt_zero _)⟩ (fun i σ H1 _ ⟨s1, _⟩ => s1.seq hq) ?_ ?_⟩
      · rintro i x σ H1 p hx1 ⟨s1, ⟨c2, c3, c4, rfl⟩, hok⟩ hp
        have hi : i < xs.length := (List.getElem?_eq_some_iff.mp hx1).1
        obtain ⟨d, hd, hxd⟩ := hl.get hx1
        rw [List.getElem?_map] at hd
        cases er : rs[i]? with
        | none => rw [er] at hd; cases hd
        | some r =>
          rw [er] at hd
          cases hd
          cases hxd with
          | @lst a zs _ hqa hla =>
            have hz := hasL_ints_inv hla
            subst hz
            have s2 : L2.Same H (upd H1 p (.tup [.int i, .ref a])) := same_both s1 hp
            refine ⟨p, _, rfl, SqT.of upd_same, rfl, _, _, rfl, _, _, rfl, rfl, ?_⟩
            refine ⟨_, rfl, a, _, rfl, .inl (s2.seq hqa), _, rfl, _, rfl, _, _, rfl, rfl, _, _, rfl, rfl, rfl, _, rfl, ?_⟩
            refine ite2 (fun hb3 => ?_) (fun hb3 => ?_)
            · refine ⟨_, rfl, _, rfl, by omega, by omega, fun msg => ⟨by show 1 ≤ sizeLine; decide, ke (fun g => ?_) _ s2⟩⟩
              have g1 := (g.2.2 i r er).1
              have hb' : ¬ (V.int ((r.map V.int).length : Int) = V.int ((xs.length : Int) - 1 - (i : Int) + 1)) := by simpa using hb3
              apply hb'
              rw [List.length_map, g1, el]
              congr 1
              omega
            have rl : r.length = rs.length - i := by
              have hb' : V.int ((r.map V.int).length : Int) = V.int ((xs.length : Int) - 1 - (i : Int) + 1) := by simpa using hb3
              injection hb' with hb'
              rw [List.length_map] at hb'
              omega
            refine ⟨_, rfl, a, rfl, ⟨_, s2.seq hqa⟩, for_list (K := K) (a := a) (xs := r.map V.int) (fun j σ H3 => L2.Same H H3 ∧ (∃ c4, σ = [some (.ref m), some (.int ((xs.length : Int) - 1)), some (.int i), some (.ref a), c4]) ∧ ∀ u ∈ r.take j, 0 ≤ u ∧ u ≤ 2)
              ⟨s2, ⟨_, rfl⟩, fun u hu => by simp at hu⟩ (fun j σ H3 _ ⟨s3, _⟩ => s3.seq hqa) ?_ ?_⟩
            · rintro j y σ H3 hy ⟨s3, ⟨c4', rfl⟩, hall⟩
              rw [List.getElem?_map] at hy
              cases eu : r[j]? with
              | none => rw [eu] at hy; cases hy
              | some u =>
                rw [eu] at hy
                cases hy
                refine ⟨_, rfl, ad.MARKS, _, rfl, .inr (T.q_MARKS _), rfl, rfl, _, rfl, ?_⟩
                refine ite2 (fun hb4 => ?_) (fun hb4 => ?_)
                · refine ⟨_, rfl, _, rfl, by omega, by omega, fun msg => ⟨by show 1 ≤ sizeLine; decide, ke (fun g => ?_) _ s3⟩⟩
                  have g1 := (g.2.2 i r er).2 u (List.mem_of_getElem? eu)
                  rw [if_pos rfl, in_marks] at hb4
                  simp [g1] at hb4
                · refine ⟨s3, ⟨_, rfl⟩, fun u' hu' => ?_⟩
                  rw [List.take_add_one, eu] at hu'
                  rcases List.mem_append.mp hu' with z | z
                  · exact hall u' z
                  · have e : u' = u := by simpa using z
                    subst e
                    rw [if_pos rfl, in_marks] at hb4
                    simpa using hb4
            · rintro σ H3 ⟨s3, ⟨c4', rfl⟩, hall⟩
              rw [List.length_map, List.take_length] at hall
              refine ⟨s3, ⟨_, _, _, rfl⟩, fun y r' hy er' => ?_⟩
              by_cases e : y = i
              · subst e
                rw [er] at er'; cases er'
                exact ⟨rl, hall⟩
              · exact hok y r' (by omega) er'
      · rintro σ H1 ⟨s1, ⟨c2, c3, c4, rfl⟩, hok⟩
        refine kq ⟨n2, n13, fun y r er => hok y r ?_ er⟩ H1 s1
        have := (List.getElem?_eq_some_iff.mp er).1
        omega
end
end K14
set_option Elab.async false
set_option linter.all false
set_option maxRecDepth 100000
set_option maxHeartbeats 4000000
namespace K14
open PySem PySem.Spec PyProof.Rows L2
seal L2.PE L2.PT L2.PS L2.PSs L2.PA L2.PI L2.PG L2.PGs L2.PW L2.PO L2.PIfs L2.PH
def flds (n : Int) (m : Addr) : List (Str × V) := putF "marks" (.ref m) (putF "size" (.int n) [])
theorem km : ¬ (("marks" : Str) = "size") := by decide +kernel
theorem flds_size (n : Int) (m : Addr) : (flds n m).lookup ("size" : Str) = some (.int n) := by
  unfold flds
  rw [lookup_putF, if_neg (fun e => km e.symm), lookup_putF, if_pos rfl]
theorem flds_marks (n : Int) (m : Addr) : (flds n m).lookup ("marks" : Str) = some (.ref m) := by
  unfold flds
  rw [lookup_putF, if_pos rfl]
theorem ins_ne {H : Hp} {p a C dx : Addr} {fs : List (Str × V)} {xs : List V} (h : H p = some (.ins C dx fs)) (h' : H a = some (.lst xs)) : a ≠ p := ne_of h' h (by intro z; cases z)
theorem GR.ins {H : Hp} {p C dx : Addr} {fs : List (Str × V)} {o : HO} {v : V} {rs : List (List Int)} {m : Addr} {ras : List Addr} (h : H p = some (.ins C dx fs)) (G : GR H v rs m ras) : GR (upd H p o) v rs m ras :=
  ⟨G.ev, by rw [upd_ne (ins_ne h G.top)]; exact G.top, L2.Paired.mapP G.rows fun a r z => by show upd H p o a = _; rw [upd_ne (ins_ne h z)]; exact z⟩
theorem frsh_dom {H0 H1 H : Hp} (e : ∀ b, H1 b = none → H0 b = none) : L2.Same (frsh H1 H) (frsh H0 H) := fun b o h => by
  obtain ⟨h1, h2⟩ := of_frsh h
  rw [frsh_none (e b h1)]; exact h2
def spInit (C BN : Addr) : Sp := fun vs H Q E => ∃ (p dx : Addr) (v : V) (rs : List (List Int)), vs = [.ref p, v] ∧ H p = some (.ins C dx []) ∧ TGrid H v rs ∧ rs.length ≤ 1000 ∧
  (Good rs → ∀ H' m, (∀ b o, H b = some o → b ≠ p → H' b = some o) → H' p = some (.ins C dx (flds ((rs.length : Int) - 1) m)) → TGrid (frsh H H') (.ref m) rs → Q .non H') ∧ (¬ Good rs → ∀ H', L2.Same H H' → E (.ref BN) none H')
section
variable {P : Program} {w : World} {K : PySem.W.Frag} {mg : Str → Option Value} {base : Heap} {ad : Adr}
theorem ok_init {f : Addr} {fd : FuncData} (F : Fun K "__init__" "Net.__init__" s_Net__init f fd) (T : Txt K mg ad) (C_check_marks : Callee P w K mg base "check_marks" 1 ["rows"] (spCheck K ad.BadNet)) :
    FnOk P w K mg base (CXR P w) 2 f fd ["self", "marks"] (spInit ad.Net ad.BadNet) := by
  refine F.okX sc_Net__init (fun vs H Q E h => ?_) (fun cdv A outer s H vs Q E hr h hx => ?_)
  · obtain ⟨p, dx, v, rs, rfl, _⟩ := h
    rfl
  · obtain ⟨p, dx, v, rs, rfl, hp, G, hz, kq, ke⟩ := h
    refine ⟨_, (pss_cons (ps_expr (pe_c C_check_marks (hr.mono (by decide)) hx.toLetsP (pa_cons (pv 1) pa_nil)))
  (pss_cons (ps_fld (pv 0) (pe_op op_sub (pe_callB (r := rLenOf K) call_len_seq rfl T.b_len PySem.boot_len (pa_cons (pv 1) pa_nil)) pe_int) rfl)
  (pss_one (ps_fld (pv 0) (pe_comp (Nc := ["row"]) (nt := 1) (is := []) rfl (comp_ok0 (by decide +kernel) (by decide +kernel) rfl (by decide +kernel) rfl)  (pi_listK K (pv 1)) (fun _ _ _ _ _ => (pg_name (i := 0) (show List.Nodup (["row"] : List Str) by decide +kernel) rfl (Or.inl rfl))) (fun _ _ _ _ _ => pifs_nil) (fun _ _ _ _ _ => (pe_callTy (r := rListOf K) call_list_of rfl T.b_list boot_list (pa_cons (pv 0) pa_nil)))) rfl)))), ?_⟩
    obtain ⟨m, ras, G⟩ := G
    obtain rfl := G.ev
    refine ⟨_, rfl, _, rs, rfl, G.has, fun g H1 s1 => ?_, fun ng H1 s1 => ke ng H1 s1⟩
    have el : (ras.map V.ref).length = rs.length := by rw [List.length_map]; exact Paired.length G.rows
    refine ⟨_, rfl, m, _, rfl, .inl (s1.seq (SqL.of G.top)), _, _, rfl, rfl, _, rfl, p, ad.Net, dx, _, rfl, s1 _ _ hp, T.cl_Net, T.n_Net_size, by show 0 < 1000; decide, ?_⟩
    have hp1 : H1 p = some (.ins ad.Net dx []) := s1 _ _ hp
    have d1 : ∀ b, upd H1 p (.ins ad.Net dx (putF "size" (.int (((ras.map V.ref).length : Int) - 1)) [])) b = none → H b = none := fun b z => by
      by_cases e : b = p
      · subst e; rw [upd_same] at z; cases z
      · rw [upd_ne e] at z; exact s1.free z
    show tComp 1 [] (iList K (tVar 1)) (gName 0) tYes (tCB (rListOf K) (tCons (tVar 0) tNil)) _ _ _
    refine copy_grid (i := 1) (rs := rs) (by rfl) ⟨m, ras, GR.ins hp1 (G.same s1)⟩ hz fun r H2 s2 G2 => ?_
    obtain ⟨m2, ras2, G2⟩ := G2
    obtain rfl := G2.ev
    refine ⟨_, rfl, p, ad.Net, dx, _, rfl, s2 _ _ upd_same, T.cl_Net, T.n_Net_marks, by show 1 < 1000; decide, ?_⟩
    refine kq g _ m2 (fun b o e hb => ?_) ?_ ⟨m2, ras2, ?_⟩
    · rw [upd_ne hb]
      exact s2 _ _ (by rw [upd_ne hb]; exact s1 _ _ e)
    · rw [upd_same, el]
      rfl
    · rw [frsh_upd hp]
      exact G2.same (frsh_dom d1)
def spMarks (K : PySem.W.Frag) : Sp := fun vs H Q _ => ∃ (a : Addr) (ns : List Int) (m : Int), vs = [.ref a, .int m] ∧ SqL K H a (ns.map V.int) ∧ 1 ≤ m ∧ m ≤ 12 ∧ ∀ r H' rs, L2.Same H H' → Good rs → TGrid (frsh H H') r rs → (rs.length : Int) = 2 + cellAt ns 0 % m → Q r H'
theorem ok_marks {f : Addr} {fd : FuncData} (F : Fun K "_law_marks_by" "_law_marks_by" s_law_marks_by f fd) (T : Txt K mg ad) (C_law_cell_at : Callee P w K mg base "_law_cell_at" 1 ["script", "k"] (spCell K))
    (C_law_mix : Callee P w K mg base "_law_mix" 1 ["cell", "k", "many"] spMix) : FnOk P w K mg base (CXR P w) 2 f fd ["script", "most"] (spMarks K) := by
  refine F.okX sc_law_marks_by (fun vs H Q E h => ?_) (fun cdv A outer s H vs Q E hr h hx => ?_)
  · obtain ⟨a, ns, m, rfl, _⟩ := h
    rfl
  · obtain ⟨a, ns, most, rfl, hS, h1, h12, kq⟩ := h
    refine ⟨_, (pss_cons (ps_set (i := 2) sc_law_marks_by.nd rfl (Or.inl rfl) (pe_op op_add pe_int (pe_op op_mod (pe_c C_law_cell_at (hr.mono (by decide)) hx.toLetsP (pa_cons (pv 0) (pa_cons pe_int pa_nil))) (pv 1))))
  (pss_cons (ps_set (i := 3) sc_law_marks_by.nd rfl (Or.inl rfl) (pe_lst pa_nil))
  (pss_cons (ps_for hx.own rfl (pi_range1 rfl T.b_range (pa_cons (pe_op op_add (pv 2) pe_int) pa_nil)) (pg_name (i := 4) sc_law_marks_by.nd rfl (Or.inr rfl)) (pss_cons (ps_set (i := 5) sc_law_marks_by.nd rfl (Or.inr rfl) (pe_c C_law_cell_at (hr.mono (by decide)) hx.toLetsP (pa_cons (pv 0) (pa_cons (pe_op op_add pe_int (pv 4)) pa_nil))))
  (pss_one (ps_expr (pe_bm PySem.F.plainAttrs_list PySem.F.slot_list_append PySem.F.type_list_append mt_append (pv 3) (pa_cons (pe_comp (Nc := ["x", "cell", "y"]) (nt := 1) (is := [5, 4]) rfl (comp_okF (by rfl) (by decide +kernel) rfl (by decide +kernel) (by intro p hp; simp only [List.mem_cons, List.not_mem_nil, or_false] at hp; first | (rcases hp with rfl | rfl | rfl | rfl <;> rfl) | (rcases hp with rfl | rfl | rfl <;> rfl) | (rcases hp with rfl | rfl <;> rfl) | (subst hp; rfl)) (by rfl) rfl (fun j i h => match j, h with | 0, h => by cases h; exact ⟨_, rfl, rfl, .inl rfl, .inl rfl⟩ | 1, h => by cases h; exact ⟨_, rfl, rfl, .inl rfl, .inl rfl⟩ | _ + 2, h => by simp at h))  (pi_range1 rfl T.b_range (pa_cons (pe_op op_add (pe_op op_sub (pv 2) (pv 4)) pe_int) pa_nil)) (fun _ _ _ _ _ => (pg_name (i := 0) (show List.Nodup (["x", "cell", "y"] : List Str) by decide +kernel) rfl (Or.inl rfl))) (fun _ _ _ _ _ => pifs_nil) (fun _ _ _ _ _ => (pe_c C_law_mix (hr.mono (by decide)) lets_xc (pa_cons (pv 1) (pa_cons (pe_op op_add (pv 0) (pe_op op_mul pe_int (pv 2))) (pa_cons pe_int pa_nil)))))) pa_nil))))))
  (pss_one (ps_ret (pv 3)))))), ?_⟩
    have c0 := Int.emod_nonneg (cellAt ns 0) (show most ≠ 0 by omega)
    have c1 := Int.emod_lt_of_pos (cellAt ns 0) (show 0 < most by omega)
    refine ⟨_, rfl, a, ns, 0, rfl, hS, by decide, _, rfl, _, _, rfl, rfl, (by show 0 < most; omega), _, _, rfl, rfl, ?_⟩
    obtain ⟨n, hn⟩ : ∃ n, 1 + cellAt ns 0 % most = n := ⟨_, rfl⟩
    simp only [hn]
    refine ⟨by show 0 ≤ sizeLine; decide, fun l hl => ?_⟩
    refine ⟨_, rfl, _, _, rfl, rfl, n + 1, rfl, by omega, by omega, for_range (lo := 0) (n := (n + 1).toNat) (fun i σ H1 => L2.Same H H1 ∧ ∃ (c4 c5 : Option V) (ras : List Addr) (rs : List (List Int)), σ = [some (.ref a), some (.int most), some (.int n), some (.ref l), c4, c5] ∧ H1 l = some (.lst (ras.map V.ref)) ∧
      Paired (RowAt (frsh H H1)) ras rs ∧ (∀ b ∈ ras, b ≠ l) ∧ rs.length = i ∧ ∀ (y : Nat) (r : List Int), rs[y]? = some r → r.length = (n + 1).toNat - y ∧ ∀ v ∈ r, 0 ≤ v ∧ v ≤ 2)
      ⟨same_upd hl, _, _, [], [], rfl, upd_same, .nil, (fun b hb => by cases hb), rfl, (fun y r h => by simp at h)⟩ ?_ ?_⟩
    · rintro i σ H1 hi ⟨s1, c4, c5, ras, rs, rfl, hl1, hp, hne, hlen, hok⟩
      refine ⟨_, rfl, _, rfl, _, _, rfl, rfl, a, ns, _, rfl, s1.seq hS, by omega, ?_⟩
      refine ⟨_, rfl, .inl ⟨rfl, _, SqL.of hl1⟩, ?_⟩
      refine ⟨_, rfl, _, rfl, _, _, rfl, rfl, _, _, rfl, rfl, n - (0 + (i : Int)) + 1, rfl, by omega, by omega, comp_range (lo := 0) (n := (n - (0 + (i : Int)) + 1).toNat) (fun j ys σc H2 => L2.Same H1 H2 ∧ ∃ (zs : List Int) (c0 : Option V), ys = zs.map V.int ∧ zs.length = j ∧ (∀ z ∈ zs, 0 ≤ z ∧ z ≤ 2) ∧
        σc = [c0, some (.int (cellAt ns (3 + (0 + (i : Int))))), some (.int (0 + (i : Int)))]) ⟨L2.Same.refl _, [], none, rfl, rfl, (fun z hz => by cases hz), rfl⟩ (by rw [sizeLine_eq]; omega) (fun j ys σ H2 ⟨_, zs, _, e, hz, _⟩ => by rw [e, List.length_map, hz]; exact Nat.le_refl _) ?_ ?_⟩
      · rintro j ys σc H2 hj ⟨s2, zs, c0, rfl, hz, hall, rfl⟩
        refine ⟨_, rfl, _, rfl, _, rfl, _, _, rfl, rfl, .inl ⟨by decide, by decide⟩, _, _, rfl, rfl, _, _, _, rfl, by omega, by omega, by decide, fun r H3 r0 r1 s3 => ?_⟩
        refine ⟨s2.trans s3, zs ++ [r], _, by simp, by rw [List.length_append, hz]; rfl, fun z hz' => ?_, rfl⟩
        rcases List.mem_append.mp hz' with h | h
        · exact hall z h
        · have e : z = r := by simpa using h
          subst e
          omega
      · rintro ys σc H2 ⟨s2, zs, c0, rfl, hz, hall, rfl⟩ p hp2
        have e2 : H2 l = some (.lst (ras.map V.ref)) := s2 _ _ hl1
        have npl : l ≠ p := ne_of_none e2 hp2
        have lenr : ras.length = rs.length := Paired.length hp
        refine ⟨l, _, _, rfl, rfl, by rw [upd_ne npl]; exact e2, by rw [List.length_map, sizeLine_eq]; omega, ?_⟩
        have s4 : L2.Same H (upd (upd H2 p (.lst (zs.map V.int))) l (.lst (ras.map V.ref ++ [.ref p]))) := fun b o e => by
          have hb : b ≠ l := ne_of_none e hl
          rw [upd_ne hb]
          exact same_upd hp2 _ _ (s2 _ _ (s1 _ _ e))
        have pH : H p = none := s1.free (s2.free hp2)
        refine ⟨s4, _, _, ras ++ [p], rs ++ [zs], rfl, by rw [upd_same]; simp, Paired.appendP (L2.Paired.mapP (Paired.withMem hp) fun b r ⟨hb, z⟩ => ?_) (.cons ?_ .nil), fun b hb => ?_, by simp [hlen], fun y r e => ?_⟩
        · obtain ⟨z1, z2⟩ := of_frsh z
          show frsh H _ b = _
          rw [frsh_none z1, upd_ne (hne b hb)]
          exact same_upd hp2 _ _ (s2 _ _ z2)
        · show frsh H _ p = _
          rw [frsh_none pH, upd_ne npl.symm, upd_same]
        · rcases List.mem_append.mp hb with h | h
          · exact hne b h
          · have e : b = p := by simpa using h
            rw [e]; exact npl.symm
        · by_cases hy : y < rs.length
          · rw [List.getElem?_append_left hy] at e
            exact hok y r e
          · rw [List.getElem?_append_right (by omega)] at e
            have y0 : y - rs.length = 0 := by
              cases q : y - rs.length with
              | zero => rfl
              | succ k => rw [q] at e; simp at e
            rw [y0] at e
            have e' : zs = r := by simpa using e
            subst e'
            exact ⟨by omega, hall⟩
    · rintro σ H1 ⟨s1, c4, c5, ras, rs, rfl, hl1, hp, hne, hlen, hok⟩
      refine ⟨_, rfl, kq _ _ rs s1 ⟨by omega, by omega, fun y r e => ?_⟩ ⟨l, ras, rfl, ?_, hp⟩ (by omega)⟩
      · have := hok y r e
        rw [hlen]
        exact this
      · rw [frsh_none hl]; exact hl1
end
end K14
set_option Elab.async false
set_option linter.all false
set_option maxRecDepth 100000
set_option maxHeartbeats 4000000
namespace K14
open PySem PySem.Spec PyProof.Rows L2
seal L2.PE L2.PT L2.PS L2.PSs L2.PA L2.PI L2.PG L2.PGs L2.PW L2.PO L2.PIfs L2.PH
def NetAt (C : Addr) (H : Hp) (v : V) (rs : List (List Int)) : Prop := ∃ p dx m, v = .ref p ∧ H p = some (.ins C dx (flds ((rs.length : Int) - 1) m)) ∧ TGrid H (.ref m) rs ∧ Good rs
theorem NetAt.same {C : Addr} {H H' : Hp} {v : V} {rs : List (List Int)} (e : L2.Same H H') (h : NetAt C H v rs) : NetAt C H' v rs := by
  obtain ⟨p, dx, m, e0, hp, G, g⟩ := h
  exact ⟨p, dx, m, e0, e _ _ hp, G.same e, g⟩
def spPlace (C : Addr) : Sp := fun vs H Q _ => ∃ (nv : V) (rs : List (List Int)) (x y : Int), vs = [nv, .int x, .int y] ∧ NetAt C H nv rs ∧ Q (.bl (decide (onN ((rs.length : Int) - 1) x y))) H
def spMark (C NP : Addr) : Sp := fun vs H Q E => ∃ (nv : V) (rs : List (List Int)) (x y : Int), vs = [nv, .int x, .int y] ∧ NetAt C H nv rs ∧ (onN ((rs.length : Int) - 1) x y → Q (.int (mkAt rs x y)) H) ∧ (¬ onN ((rs.length : Int) - 1) x y → E (.ref NP) none H)
section
variable {P : Program} {w : World} {K : PySem.W.Frag} {mg : Str → Option Value} {base : Heap} {ad : Adr}
theorem ok_place {f : Addr} {fd : FuncData} (F : Fun K "is_place" "is_place" s_is_place f fd) (T : Txt K mg ad) : FnOk P w K mg base (CXR P w) 1 f fd ["net", "x", "y"] (spPlace ad.Net) := by
  refine F.okX sc_is_place (fun vs H Q E h => ?_) (fun cdv A outer s H vs Q E hr h hx => ?_)
  · obtain ⟨nv, rs, x, y, rfl, _⟩ := h
    rfl
  · obtain ⟨nv, rs, x, y, rfl, N, q⟩ := h
    refine ⟨_, (pss_one (ps_ret (pe_and (pe_cmpR op_ge (pv 1) pe_int (nomark _)) (pe_and (pe_cmpR op_ge (pv 2) pe_int (nomark _)) (pe_one (pe_cmpR op_le (pe_op op_add (pv 1) (pv 2)) (pe_fldK K (pv 0) rfl) (nomark _))))))), ?_⟩
    obtain ⟨p, dx, m, rfl, hp, G, g⟩ := N
    refine ⟨_, rfl, _, _, rfl, rfl, _, rfl, ?_⟩
    refine ite2 (fun h1 => ?_) (fun h1 => ?_)
    · refine ⟨_, rfl, _, _, rfl, rfl, _, rfl, ?_⟩
      refine ite2 (fun h2 => ?_) (fun h2 => ?_)
      · refine ⟨_, rfl, _, rfl, _, _, rfl, rfl, _, rfl, p, ad.Net, dx, _, _, rfl, hp, T.cl_Net, T.n_Net_size, flds_size _ _, _, _, rfl, rfl, ?_⟩
        have e : decide (onN ((rs.length : Int) - 1) x y) = decide (x + y ≤ (rs.length : Int) - 1) := by
          have h1' : 0 ≤ x := of_decide_eq_true h1
          have h2' : 0 ≤ y := of_decide_eq_true h2
          unfold onN
          simp [h1', h2']
        rw [e] at q
        exact q
      · have e : decide (onN ((rs.length : Int) - 1) x y) = false := by
          have h2' : ¬ (0 ≤ y) := fun z => h2 (decide_eq_true z)
          unfold onN
          simp [h2']
        rw [e] at q
        exact q
    · have e : decide (onN ((rs.length : Int) - 1) x y) = false := by
        have h1' : ¬ (0 ≤ x) := fun z => h1 (decide_eq_true z)
        unfold onN
        simp [h1']
      rw [e] at q
      exact q
theorem ok_mark {f : Addr} {fd : FuncData} (F : Fun K "mark" "mark" s_mark f fd) (T : Txt K mg ad) (C_is_place : Callee P w K mg base "is_place" 1 ["net", "x", "y"] (spPlace ad.Net)) : FnOk P w K mg base (CXR P w) 2 f fd ["net", "x", "y"] (spMark ad.Net ad.NoPlace) := by
  refine F.okX sc_mark (fun vs H Q E h => ?_) (fun cdv A outer s H vs Q E hr h hx => ?_)
  · obtain ⟨nv, rs, x, y, rfl, _⟩ := h
    rfl
  · obtain ⟨nv, rs, x, y, rfl, N, q, ke⟩ := h
    refine ⟨_, (pss_cons (ps_if (pt_not (pt_val (pe_c C_is_place (hr.mono (by decide)) hx.toLetsP (pa_cons (pv 0) (pa_cons (pv 1) (pa_cons (pv 2) pa_nil)))))) (pss_one (ps_raise hx rfl T.x_NoPlace rfl (pa_cons pe_str pa_nil))) pss_nil)
  (pss_one (ps_ret (pe_ix (r := rIxL K) ix_list (pe_ix (r := rIxL K) ix_list (pe_fldK K (pv 0) rfl) (pv 2) (fun _ _ => rfl)) (pv 1) (fun _ _ => rfl))))), ?_⟩
    have N' := N
    obtain ⟨p, dx, m, rfl, hp, G, g⟩ := N
    refine ⟨_, rfl, _, rfl, _, rfl, _, rs, x, y, rfl, N', _, rfl, ?_⟩
    refine ite2 (fun h1 => ?_) (fun h1 => ?_)
    · refine ⟨by show 1 ≤ sizeLine; decide, ke ?_⟩
      simpa using h1
    · have on : onN ((rs.length : Int) - 1) x y := by simpa using h1
      obtain ⟨m', ras, G⟩ := G
      have e0 := G.ev
      injection e0 with e0
      subst e0
      obtain ⟨r, er, ex, _⟩ := g.at on
      obtain ⟨a, ea, ra⟩ := Paired.getP G.rows er
      have e1 : ((y.toNat : Nat) : Int) = y := Int.toNat_of_nonneg on.2.1
      have e2 : ((x.toNat : Nat) : Int) = x := Int.toNat_of_nonneg on.1
      have at1 : atI (ras.map V.ref) y = some (.ref a) := by
        rw [← e1]
        exact atI_nat (by rw [List.getElem?_map, ea]; rfl)
      have at2 : atI (r.map V.int) x = some (.int (mkAt rs x y)) := by
        have z := atI_nat (xs := r.map V.int) (j := x.toNat) (v := .int (mkAt rs x y)) (by rw [List.getElem?_map, ex]; rfl)
        rw [e2] at z
        exact z
      refine ⟨_, rfl, p, ad.Net, dx, _, _, rfl, hp, T.cl_Net, T.n_Net_marks, flds_marks _ _, _, rfl, m, _, _, _, rfl, rfl, SqL.of G.top, at1, _, rfl, a, _, _, _, rfl, rfl, SqL.of ra, at2, q on⟩
end
end K14
set_option Elab.async false
set_option linter.all false
set_option maxRecDepth 100000
set_option maxHeartbeats 4000000
namespace K14
open PySem PySem.Spec PyProof.Rows L2
seal L2.PE L2.PT L2.PS L2.PSs L2.PA L2.PI L2.PG L2.PGs L2.PW L2.PO L2.PIfs L2.PH
def spLNet (C : Addr) : Sp := fun vs H Q _ => ∃ (mv : V) (rs : List (List Int)), vs = [mv] ∧ TGrid H mv rs ∧ Good rs ∧ ∀ v H', L2.Same H H' → NetAt C (frsh H H') v rs → Q v H'
section
variable {P : Program} {w : World} {K : PySem.W.Frag} {mg : Str → Option Value} {base : Heap} {ad : Adr}
theorem ok_lnet {f : Addr} {fd : FuncData} (F : Fun K "_law_net" "_law_net" s_law_net f fd) (T : Txt K mg ad) (M_Net : Maker P w K mg base "Net" ad.Net 2 ["self", "marks"] (spInit ad.Net ad.BadNet)) : FnOk P w K mg base (CXR P w) 4 f fd ["marks"] (spLNet ad.Net) := by
  refine F.okX sc_law_net (fun vs H Q E h => ?_) (fun cdv A outer s H vs Q E hr h hx => ?_)
  · obtain ⟨mv, rs, rfl, _⟩ := h
    rfl
  · obtain ⟨mv, rs, rfl, G, g, q⟩ := h
    refine ⟨_, (pss_one (ps_ret (pe_mk M_Net (hr.mono (by decide)) hx.toLetsP (pa_cons (pe_comp (Nc := ["row"]) (nt := 1) (is := []) rfl (comp_ok0 (by decide +kernel) (by decide +kernel) rfl (by decide +kernel) rfl)  (pi_listK K (pv 0)) (fun _ _ _ _ _ => (pg_name (i := 0) (show List.Nodup (["row"] : List Str) by decide +kernel) rfl (Or.inl rfl))) (fun _ _ _ _ _ => pifs_nil) (fun _ _ _ _ _ => (pe_callTy (r := rListOf K) call_list_of rfl T.b_list boot_list (pa_cons (pv 0) pa_nil)))) pa_nil)))), ?_⟩
    have hz : rs.length ≤ 1000 := by have := g.2.1; omega
    show tComp 1 [] (iList K (tVar 0)) (gName 0) tYes (tCB (rListOf K) (tCons (tVar 0) tNil)) _ _ _
    refine copy_grid (i := 0) (rs := rs) (by rfl) G hz fun gv H2 s2 Gg => ?_
    intro x dx hx0 hdx hne
    have sn : L2.Same H2 (upd (upd H2 dx (.own x)) x (.ins ad.Net dx [])) := (same_upd hdx).trans (same_upd (by rw [upd_ne hne.symm]; exact hx0))
    refine ⟨x, dx, gv, rs, rfl, upd_same, Gg.same ((frsh_same _ _).trans sn), hz, fun _ H5 m fr hp Gn => ⟨rfl, ?_⟩, fun ng => absurd g ng⟩
    refine q _ _ (fun b o e => fr b o (sn _ _ (s2 _ _ e)) (ne_of_none (s2 _ _ e) hx0)) ⟨x, dx, m, rfl, ?_, Gn.same (frsh_from (s2.trans sn)), g⟩
    rw [frsh_none (s2.free hx0)]
    exact hp
end
end K14
set_option Elab.async false
set_option linter.all false
set_option maxRecDepth 100000
set_option maxHeartbeats 4000000
namespace K14
open PySem PySem.Spec PyProof.Rows L2
seal L2.PE L2.PT L2.PS L2.PSs L2.PA L2.PI L2.PG L2.PGs L2.PW L2.PO L2.PIfs L2.PH
def spRuled (C : Addr) : Sp := fun vs H Q _ => ∃ (nv : V) (rs : List (List Int)), vs = [nv] ∧ NetAt C H nv rs ∧ ∀ b : Bool, (b = true ↔ ruledP rs) → Q (.bl b) H
def spChkRuled (C NR : Addr) : Sp := fun vs H Q E => ∃ (nv : V) (rs : List (List Int)), vs = [nv] ∧ NetAt C H nv rs ∧ (ruledP rs → Q .non H) ∧ (¬ ruledP rs → E (.ref NR) none H)
theorem ne_int_of {a b : Int} (h : (!decide (V.int a = V.int b)) = true) : a ≠ b := by simpa using h
theorem eq_int_of {a b : Int} (h : ¬ (!decide (V.int a = V.int b)) = true) : a = b := by simpa using h
theorem is_int_of {a b : Int} (h : decide (V.int a = V.int b) = true) : a = b := by simpa using h
theorem isnt_int_of {a b : Int} (h : ¬ decide (V.int a = V.int b) = true) : a ≠ b := by simpa using h
section
variable {P : Program} {w : World} {K : PySem.W.Frag} {mg : Str → Option Value} {base : Heap} {ad : Adr}
theorem ok_ruled {f : Addr} {fd : FuncData} (F : Fun K "ruled" "ruled" s_ruled f fd) (T : Txt K mg ad) (C_mark : Callee P w K mg base "mark" 2 ["net", "x", "y"] (spMark ad.Net ad.NoPlace)) : FnOk P w K mg base (CXR P w) 3 f fd ["net"] (spRuled ad.Net) := by
  refine F.okX sc_ruled (fun vs H Q E h => ?_) (fun cdv A outer s H vs Q E hr h hx => ?_)
  · obtain ⟨nv, rs, rfl, _⟩ := h
    rfl
  · obtain ⟨nv, rs, rfl, N, q⟩ := h
    refine ⟨_, (pss_cons (ps_set (i := 1) sc_ruled.nd rfl (Or.inl rfl) (pe_fldK K (pv 0) rfl))
  (pss_cons (ps_if (PW.pt (pw_or (pt_cmpR op_ne (pe_c C_mark (hr.mono (by decide)) hx.toLetsP (pa_cons (pv 0) (pa_cons pe_int (pa_cons pe_int pa_nil)))) pe_int (nomark _)) (pw_or (pt_cmpR op_ne (pe_c C_mark (hr.mono (by decide)) hx.toLetsP (pa_cons (pv 0) (pa_cons (pv 1) (pa_cons pe_int pa_nil)))) pe_int (nomark _)) (pw_or1 (pt_cmpR op_ne (pe_c C_mark (hr.mono (by decide)) hx.toLetsP (pa_cons (pv 0) (pa_cons pe_int (pa_cons (pv 1) pa_nil)))) pe_int (nomark _)))))) (pss_one (ps_ret pe_bl)) pss_nil)
  (pss_cons (ps_for hx.own rfl (pi_range1 rfl T.b_range (pa_cons (pe_op op_add (pv 1) pe_int) pa_nil)) (pg_name (i := 2) sc_ruled.nd rfl (Or.inl rfl)) (pss_one (ps_if (PW.pt (pw_or (pt_cmpR op_eq (pe_c C_mark (hr.mono (by decide)) hx.toLetsP (pa_cons (pv 0) (pa_cons (pv 2) (pa_cons pe_int pa_nil)))) pe_int (nomark _)) (pw_or (pt_cmpR op_eq (pe_c C_mark (hr.mono (by decide)) hx.toLetsP (pa_cons (pv 0) (pa_cons pe_int (pa_cons (pv 2) pa_nil)))) pe_int (nomark _)) (pw_or1 (pt_cmpR op_eq (pe_c C_mark (hr.mono (by decide)) hx.toLetsP (pa_cons (pv 0) (pa_cons (pv 2) (pa_cons (pe_op op_sub (pv 1) (pv 2)) pa_nil)))) pe_int (nomark _)))))) (pss_one (ps_ret pe_bl)) pss_nil)))
  (pss_one (ps_ret pe_bl))))), ?_⟩
    have N' := N
    obtain ⟨p, dx, m, rfl, hp, G, g⟩ := N
    have g1 := g.1
    have g2 := g.2.1
    have hz : sz rs = (rs.length : Int) - 1 := rfl
    have on : ∀ x y : Int, 0 ≤ x → 0 ≤ y → x + y ≤ sz rs → onN ((rs.length : Int) - 1) x y := fun x y a b c => ⟨a, b, c⟩
    have qf : ¬ ruledP rs → Q (.bl false) H := fun nr => q false ⟨fun z => (by cases z), fun z => absurd z nr⟩
    refine ⟨_, rfl, p, ad.Net, dx, _, _, rfl, hp, T.cl_Net, T.n_Net_size, flds_size _ _, ?_⟩
    refine ⟨_, rfl, _, rs, 0, 0, rfl, N', fun _ => ⟨rfl, _, rfl, ?_⟩, fun no => absurd (on 0 0 (by omega) (by omega) (by omega)) no⟩
    refine ite2 (fun h1 => qf fun r => ne_int_of h1 r.1) (fun h1 => ?_)
    refine ⟨_, rfl, _, rfl, _, rs, sz rs, 0, rfl, N', fun _ => ⟨rfl, _, rfl, ?_⟩, fun no => absurd (on _ 0 (by omega) (by omega) (by omega)) no⟩
    refine ite2 (fun h2 => qf fun r => ne_int_of h2 r.2.1) (fun h2 => ?_)
    refine ⟨_, rfl, _, rfl, _, rs, 0, sz rs, rfl, N', fun _ => ⟨rfl, _, rfl, ?_⟩, fun no => absurd (on 0 _ (by omega) (by omega) (by omega)) no⟩
    refine ite2 (fun h3 => qf fun r => ne_int_of h3 r.2.2.1) (fun h3 => ?_)
    refine ⟨_, rfl, _, _, rfl, rfl, sz rs + 1, rfl, by omega, by omega, for_range (lo := 0) (n := (sz rs + 1).toNat) (fun i σ H1 => H1 = H ∧ (∃ c2, σ = [some (.ref p), some (.int (sz rs)), c2]) ∧ ∀ k : Int, 0 ≤ k → k < i → mkAt rs k 0 ≠ 2 ∧ mkAt rs 0 k ≠ 1 ∧ mkAt rs k (sz rs - k) ≠ 0)
      ⟨rfl, ⟨none, rfl⟩, fun k h0 h1 => absurd h1 (by omega)⟩ ?_ ?_⟩
    · rintro i σ H1 hi ⟨rfl, ⟨c2, rfl⟩, hall⟩
      have nr : ∀ {A : Prop}, (ruledP rs → mkAt rs (0 + (i : Int)) 0 ≠ 2 ∧ mkAt rs 0 (0 + (i : Int)) ≠ 1 ∧ mkAt rs (0 + (i : Int)) (sz rs - (0 + (i : Int))) ≠ 0) := fun {_} r => r.2.2.2 _ (by omega) (by omega)
      refine ⟨_, rfl, _, rfl, _, rs, 0 + (i : Int), 0, rfl, N', fun _ => ⟨rfl, _, rfl, ?_⟩, fun no => absurd (on _ 0 (by omega) (by omega) (by omega)) no⟩
      refine ite2 (fun h4 => qf fun r => (nr (A := True) r).1 (is_int_of h4)) (fun h4 => ?_)
      refine ⟨_, rfl, _, rfl, _, rs, 0, 0 + (i : Int), rfl, N', fun _ => ⟨rfl, _, rfl, ?_⟩, fun no => absurd (on 0 _ (by omega) (by omega) (by omega)) no⟩
      refine ite2 (fun h5 => qf fun r => (nr (A := True) r).2.1 (is_int_of h5)) (fun h5 => ?_)
      refine ⟨_, rfl, _, rfl, _, rfl, _, rfl, _, _, rfl, rfl, _, rs, 0 + (i : Int), sz rs - (0 + (i : Int)), rfl, N', fun _ => ⟨rfl, _, rfl, ?_⟩, fun no => absurd (on _ _ (by omega) (by omega) (by omega)) no⟩
      refine ite2 (fun h6 => qf fun r => (nr (A := True) r).2.2 (is_int_of h6)) (fun h6 => ?_)
      refine ⟨rfl, ⟨_, rfl⟩, fun k k0 k1 => ?_⟩
      by_cases e : k < i
      · exact hall k k0 e
      · have e2 : k = 0 + (i : Int) := by omega
        subst e2
        exact ⟨isnt_int_of h4, isnt_int_of h5, isnt_int_of h6⟩
    · rintro σ H1 ⟨rfl, ⟨c2, rfl⟩, hall⟩
      exact q true ⟨fun _ => ⟨eq_int_of h1, eq_int_of h2, eq_int_of h3, fun k k0 k1 => hall k k0 (by omega)⟩, fun _ => rfl⟩
theorem ok_chkruled {f : Addr} {fd : FuncData} (F : Fun K "check_ruled" "check_ruled" s_check_ruled f fd) (T : Txt K mg ad) (C_ruled : Callee P w K mg base "ruled" 3 ["net"] (spRuled ad.Net)) : FnOk P w K mg base (CXR P w) 4 f fd ["net"] (spChkRuled ad.Net ad.NotRuled) := by
  refine F.okX sc_check_ruled (fun vs H Q E h => ?_) (fun cdv A outer s H vs Q E hr h hx => ?_)
  · obtain ⟨nv, rs, rfl, _⟩ := h
    rfl
  · obtain ⟨nv, rs, rfl, N, q, ke⟩ := h
    refine ⟨_, (pss_one (ps_if (pt_not (pt_val (pe_c C_ruled (hr.mono (by decide)) hx.toLetsP (pa_cons (pv 0) pa_nil)))) (pss_one (ps_raise hx rfl T.x_NotRuled rfl (pa_cons pe_str pa_nil))) pss_nil)), ?_⟩
    refine ⟨_, rfl, nv, rs, rfl, N, fun b hb => ⟨_, rfl, ?_⟩⟩
    cases b with
    | false =>
      refine ite2 (fun _ => ?_) (fun h => absurd rfl h)
      exact ⟨by show 1 ≤ sizeLine; decide, ke fun r => by have := hb.mpr r; cases this⟩
    | true =>
      refine ite2 (fun h => absurd h (by decide)) (fun _ => ?_)
      exact q (hb.mp rfl)
end
end K14
set_option Elab.async false
set_option linter.all false
set_option maxRecDepth 100000
set_option maxHeartbeats 4000000
namespace K14
open PySem PySem.Spec PyProof.Rows L2
seal L2.PE L2.PT L2.PS L2.PSs L2.PA L2.PI L2.PG L2.PGs L2.PW L2.PO L2.PIfs L2.PH
def spRuledBy (K : PySem.W.Frag) : Sp := fun vs H Q _ => ∃ (a : Addr) (ns : List Int) (m : Int), vs = [.ref a, .int m] ∧ SqL K H a (ns.map V.int) ∧ 1 ≤ m ∧ m ≤ 12 ∧ ∀ r H' rs, L2.Same H H' → Good rs → ruledP rs → TGrid (frsh H H') r rs → (rs.length : Int) = 2 + cellAt ns 0 % m → Q r H'
def bord (n : Int) (rs : List (List Int)) (k : Int) : Prop := mkAt rs k 0 ≠ 2 ∧ mkAt rs 0 k ≠ 1 ∧ mkAt rs (n - k) k ≠ 0
section
variable {P : Program} {w : World} {K : PySem.W.Frag} {mg : Str → Option Value} {base : Heap} {ad : Adr}
theorem ok_ruledby {f : Addr} {fd : FuncData} (F : Fun K "_law_ruled_by" "_law_ruled_by" s_law_ruled_by f fd) (T : Txt K mg ad) (C_law_cell_at : Callee P w K mg base "_law_cell_at" 1 ["script", "k"] (spCell K))
    (C_law_mix : Callee P w K mg base "_law_mix" 1 ["cell", "k", "many"] spMix) (C_law_marks_by : Callee P w K mg base "_law_marks_by" 2 ["script", "most"] (spMarks K)) : FnOk P w K mg base (CXR P w) 3 f fd ["script", "most"] (spRuledBy K) := by
  refine F.okX sc_law_ruled_by (fun vs H Q E h => ?_) (fun cdv A outer s H vs Q E hr h hx => ?_)
  · obtain ⟨a, ns, m, rfl, _⟩ := h
    rfl
  · obtain ⟨a, ns, most, rfl, hS, h1, h12, kq⟩ := h
    refine ⟨_, (pss_cons (ps_set (i := 2) sc_law_ruled_by.nd rfl (Or.inl rfl) (pe_c C_law_marks_by (hr.mono (by decide)) hx.toLetsP (pa_cons (pv 0) (pa_cons (pv 1) pa_nil))))
  (pss_cons (ps_set (i := 3) sc_law_ruled_by.nd rfl (Or.inl rfl) (pe_op op_sub (pe_callB (r := rLenOf K) call_len_seq rfl T.b_len PySem.boot_len (pa_cons (pv 2) pa_nil)) pe_int))
  (pss_cons (ps_for hx.own rfl (pi_range1 rfl T.b_range (pa_cons (pe_op op_add (pv 3) pe_int) pa_nil)) (pg_name (i := 4) sc_law_ruled_by.nd rfl (Or.inl rfl)) (pss_cons (ps_set (i := 5) sc_law_ruled_by.nd rfl (Or.inl rfl) (pe_c C_law_cell_at (hr.mono (by decide)) hx.toLetsP (pa_cons (pv 0) (pa_cons (pe_op op_add pe_int (pv 4)) pa_nil))))
  (pss_cons (ps_asg (pe_c C_law_mix (hr.mono (by decide)) hx.toLetsP (pa_cons (pv 5) (pa_cons pe_int (pa_cons pe_int pa_nil)))) (pg_sub (pe_ix (r := rIxL K) ix_list (pv 2) pe_int (fun _ _ => rfl)) (pv 4) set_list))
  (pss_cons (ps_asg (pe_ix (r := rIxL K) ix_list (pe_lst (pa_cons pe_int (pa_cons pe_int pa_nil))) (pe_c C_law_mix (hr.mono (by decide)) hx.toLetsP (pa_cons (pv 5) (pa_cons pe_int (pa_cons pe_int pa_nil)))) (fun _ _ => rfl)) (pg_sub (pe_ix (r := rIxL K) ix_list (pv 2) (pv 4) (fun _ _ => rfl)) pe_int set_list))
  (pss_one (ps_asg (pe_op op_add pe_int (pe_c C_law_mix (hr.mono (by decide)) hx.toLetsP (pa_cons (pv 5) (pa_cons pe_int (pa_cons pe_int pa_nil))))) (pg_sub (pe_ix (r := rIxL K) ix_list (pv 2) (pv 4) (fun _ _ => rfl)) (pe_op op_sub (pv 3) (pv 4)) set_list)))))))
  (pss_cons (ps_asg pe_int (pg_sub (pe_ix (r := rIxL K) ix_list (pv 2) pe_int (fun _ _ => rfl)) pe_int set_list))
  (pss_cons (ps_asg pe_int (pg_sub (pe_ix (r := rIxL K) ix_list (pv 2) pe_int (fun _ _ => rfl)) (pv 3) set_list))
  (pss_cons (ps_asg pe_int (pg_sub (pe_ix (r := rIxL K) ix_list (pv 2) (pv 3) (fun _ _ => rfl)) pe_int set_list))
  (pss_one (ps_ret (pv 2))))))))), ?_⟩
    have z2 : 2 ≤ sizeLine := by rw [sizeLine_eq]; decide
    refine ⟨_, rfl, _, rfl, a, ns, most, rfl, hS, h1, h12, fun mv H1 rs0 s1 g0 G0 hlen => ?_⟩
    obtain ⟨m, ras, G0⟩ := G0
    obtain rfl := G0.ev
    have g1 := g0.1
    have g2 := g0.2.1
    refine ⟨_, rfl, m, _, rfl, .inl (SqL.of (frsh_same _ _ _ _ G0.top)), _, _, rfl, rfl, ?_⟩
    obtain ⟨n, hn⟩ : ∃ n, ((ras.map V.ref).length : Int) - 1 = n := ⟨_, rfl⟩
    have hn0 : sz rs0 = n := by rw [← hn, G0.len]
    have hn0' : (rs0.length : Int) - 1 = n := hn0
    simp only [hn]
    refine ⟨_, rfl, _, _, rfl, rfl, n + 1, rfl, by omega, by omega, for_range (lo := 0) (n := (n + 1).toNat) (fun i σ H2 => L2.Same H H2 ∧ ∃ (c4 c5 : Option V) (rs : List (List Int)), σ = [some (.ref a), some (.int most), some (.ref m), some (.int n), c4, c5] ∧
      GR (frsh H H2) (.ref m) rs m ras ∧ Good rs ∧ rs.length = rs0.length ∧ ∀ k : Int, 0 < k → k < i → k < n → bord n rs k) ⟨s1, _, _, rs0, rfl, G0, g0, rfl, fun k h0 h1 => absurd h1 (by omega)⟩ ?_ ?_⟩
    · rintro i σ H2 hi ⟨s2, c4, c5, rs, rfl, G, g, hl, hP⟩
      have hzn : sz rs = n := by show (rs.length : Int) - 1 = n; rw [hl]; exact hn0'
      refine ⟨_, rfl, _, rfl, _, _, rfl, rfl, a, ns, _, rfl, s2.seq hS, by omega, ?_⟩
      generalize cellAt ns (20 + (0 + (i : Int))) = cell
      obtain ⟨k, hk⟩ : ∃ k : Int, 0 + (i : Int) = k := ⟨_, rfl⟩
      simp only [hk]
      have k0 : 0 ≤ k := by omega
      have kn : k ≤ n := by omega
      refine ⟨_, rfl, cell, 1, 2, rfl, by decide, by decide, by decide, fun c1 H3 c10 c11 s3 => ?_⟩
      have on1 : onN (sz rs) k 0 := ⟨k0, by omega, by rw [hzn]; omega⟩
      have G3 := G.same (frsh_mono (H0 := H) s3)
      obtain ⟨a1, r1, at1, row1, ix1, put1⟩ := GR.putN (s2.trans s3) G3 g on1
      refine ⟨_, rfl, m, _, _, _, rfl, rfl, SqL.of (frsh_same _ _ _ _ G3.top), at1, _, rfl, a1, _, _, _, rfl, rfl, row1, ix1, ?_⟩
      obtain ⟨s4, G4⟩ := put1 c1
      have g4 := g.set on1 (c := c1) (by omega)
      have M4 : ∀ x' y' : Int, 0 ≤ x' → 0 ≤ y' → mkAt (setAt rs k 0 c1) x' y' = if x' = k ∧ y' = 0 then c1 else mkAt rs x' y' := fun x' y' hx hy => mkAt_set g on1 hx hy
      have l4 : (setAt rs k 0 c1).length = rs0.length := by rw [setAt_len]; exact hl
      revert s4 G4 g4 M4 l4
      generalize setAt rs k 0 c1 = rs4
      generalize upd H3 a1 (.lst ((r1.map V.int).set k.toNat (.int c1))) = H4
      intro s4 G4 g4 M4 l4
      refine ⟨z2, fun lq hlq => ⟨_, rfl, cell, 2, 2, rfl, by decide, by decide, by decide, fun j H5 j0 j1 s5 => ?_⟩⟩
      obtain ⟨c2, hc2, hv2⟩ : ∃ c2 : Int, atI [V.int 0, .int 2] j = some (.int c2) ∧ (c2 = 0 ∨ c2 = 2) := by
        have : j = 0 ∨ j = 1 := by omega
        rcases this with rfl | rfl
        · exact ⟨_, rfl, .inl rfl⟩
        · exact ⟨_, rfl, .inr rfl⟩
      refine ⟨lq, _, j, _, rfl, rfl, SqL.of (s5 _ _ upd_same), hc2, ?_⟩
      have s45 := (same_upd (o := .lst [V.int 0, .int 2]) hlq).trans s5
      have hz4 : sz rs4 = n := by show (rs4.length : Int) - 1 = n; rw [l4]; exact hn0'
      have on2 : onN (sz rs4) 0 k := ⟨by omega, k0, by rw [hz4]; omega⟩
      have G5 := G4.same (frsh_mono (H0 := H) s45)
      obtain ⟨a2, r2, at2, row2, ix2, put2⟩ := GR.putN (s4.trans s45) G5 g4 on2
      refine ⟨_, rfl, _, rfl, m, _, _, _, rfl, rfl, SqL.of (frsh_same _ _ _ _ G5.top), at2, a2, _, _, _, rfl, rfl, row2, ix2, ?_⟩
      obtain ⟨s6, G6⟩ := put2 c2
      have g6 := g4.set on2 (c := c2) (by omega)
      have M6 : ∀ x' y' : Int, 0 ≤ x' → 0 ≤ y' → mkAt (setAt rs4 0 k c2) x' y' = if x' = 0 ∧ y' = k then c2 else mkAt rs4 x' y' := fun x' y' hx hy => mkAt_set g4 on2 hx hy
      have l6 : (setAt rs4 0 k c2).length = rs0.length := by rw [setAt_len]; exact l4
      revert s6 G6 g6 M6 l6
      generalize setAt rs4 0 k c2 = rs6
      generalize upd H5 a2 (.lst ((r2.map V.int).set (0 : Int).toNat (.int c2))) = H6
      intro s6 G6 g6 M6 l6
      refine ⟨_, rfl, cell, 3, 2, rfl, by decide, by decide, by decide, fun c3 H7 c30 c31 s7 => ⟨_, _, rfl, rfl, ?_⟩⟩
      have hz6 : sz rs6 = n := by show (rs6.length : Int) - 1 = n; rw [l6]; exact hn0'
      have on3 : onN (sz rs6) (n - k) k := ⟨by omega, k0, by rw [hz6]; omega⟩
      have G7 := G6.same (frsh_mono (H0 := H) s7)
      obtain ⟨a3, r3, at3, row3, ix3, put3⟩ := GR.putN (s6.trans s7) G7 g6 on3
      refine ⟨_, rfl, _, rfl, m, _, _, _, rfl, rfl, SqL.of (frsh_same _ _ _ _ G7.top), at3, _, rfl, _, rfl, _, _, rfl, rfl, a3, _, _, _, rfl, rfl, row3, ix3, ?_⟩
      obtain ⟨s8, G8⟩ := put3 (1 + c3)
      have g8 := g6.set on3 (c := 1 + c3) (by omega)
      have M8 : ∀ x' y' : Int, 0 ≤ x' → 0 ≤ y' → mkAt (setAt rs6 (n - k) k (1 + c3)) x' y' = if x' = n - k ∧ y' = k then 1 + c3 else mkAt rs6 x' y' := fun x' y' hx hy => mkAt_set g6 on3 hx hy
      have l8 : (setAt rs6 (n - k) k (1 + c3)).length = rs0.length := by rw [setAt_len]; exact l6
      refine ⟨s8, _, _, _, rfl, G8, g8, l8, fun q q0 q1 qn => ?_⟩
      unfold bord
      rw [M8 q 0 (by omega) (by omega), M6 q 0 (by omega) (by omega), M4 q 0 (by omega) (by omega)]
      rw [M8 0 q (by omega) (by omega), M6 0 q (by omega) (by omega), M4 0 q (by omega) (by omega)]
      rw [M8 (n - q) q (by omega) (by omega), M6 (n - q) q (by omega) (by omega), M4 (n - q) q (by omega) (by omega)]
      by_cases e : q = k
      · subst e
        refine ⟨?_, ?_, ?_⟩ <;> (repeat' split) <;> omega
      · obtain ⟨p1, p2, p3⟩ := hP q q0 (by omega) qn
        refine ⟨?_, ?_, ?_⟩ <;> (repeat' split) <;> omega
    · rintro σ H2 ⟨s2, c4, c5, rs, rfl, G, g, hl, hP⟩
      have hzn : sz rs = n := by show (rs.length : Int) - 1 = n; rw [hl]; exact hn0'
      have on1 : onN (sz rs) 0 0 := ⟨by omega, by omega, by rw [hzn]; omega⟩
      obtain ⟨a1, r1, at1, row1, ix1, put1⟩ := GR.putN s2 G g on1
      refine ⟨_, rfl, m, _, _, _, rfl, rfl, SqL.of (frsh_same _ _ _ _ G.top), at1, a1, _, _, _, rfl, rfl, row1, ix1, ?_⟩
      obtain ⟨s4, G4⟩ := put1 0
      have g4 := g.set on1 (c := 0) (by omega)
      have M4 : ∀ x' y' : Int, 0 ≤ x' → 0 ≤ y' → mkAt (setAt rs 0 0 0) x' y' = if x' = 0 ∧ y' = 0 then 0 else mkAt rs x' y' := fun x' y' hx hy => mkAt_set g on1 hx hy
      have l4 : (setAt rs 0 0 0).length = rs0.length := by rw [setAt_len]; exact hl
      revert s4 G4 g4 M4 l4
      generalize setAt rs 0 0 0 = rs4
      generalize upd H2 a1 (.lst ((r1.map V.int).set (0 : Int).toNat (.int 0))) = H4
      intro s4 G4 g4 M4 l4
      have hz4 : sz rs4 = n := by show (rs4.length : Int) - 1 = n; rw [l4]; exact hn0'
      have on2 : onN (sz rs4) n 0 := ⟨by omega, by omega, by rw [hz4]; omega⟩
      obtain ⟨a2, r2, at2, row2, ix2, put2⟩ := GR.putN s4 G4 g4 on2
      refine ⟨_, rfl, m, _, _, _, rfl, rfl, SqL.of (frsh_same _ _ _ _ G4.top), at2, _, rfl, a2, _, _, _, rfl, rfl, row2, ix2, ?_⟩
      obtain ⟨s6, G6⟩ := put2 1
      have g6 := g4.set on2 (c := 1) (by omega)
      have M6 : ∀ x' y' : Int, 0 ≤ x' → 0 ≤ y' → mkAt (setAt rs4 n 0 1) x' y' = if x' = n ∧ y' = 0 then 1 else mkAt rs4 x' y' := fun x' y' hx hy => mkAt_set g4 on2 hx hy
      have l6 : (setAt rs4 n 0 1).length = rs0.length := by rw [setAt_len]; exact l4
      revert s6 G6 g6 M6 l6
      generalize setAt rs4 n 0 1 = rs6
      generalize upd H4 a2 (.lst ((r2.map V.int).set n.toNat (.int 1))) = H6
      intro s6 G6 g6 M6 l6
      have hz6 : sz rs6 = n := by show (rs6.length : Int) - 1 = n; rw [l6]; exact hn0'
      have on3 : onN (sz rs6) 0 n := ⟨by omega, by omega, by rw [hz6]; omega⟩
      obtain ⟨a3, r3, at3, row3, ix3, put3⟩ := GR.putN s6 G6 g6 on3
      refine ⟨_, rfl, _, rfl, m, _, _, _, rfl, rfl, SqL.of (frsh_same _ _ _ _ G6.top), at3, a3, _, _, _, rfl, rfl, row3, ix3, ?_⟩
      obtain ⟨s8, G8⟩ := put3 2
      have g8 := g6.set on3 (c := 2) (by omega)
      have M8 : ∀ x' y' : Int, 0 ≤ x' → 0 ≤ y' → mkAt (setAt rs6 0 n 2) x' y' = if x' = 0 ∧ y' = n then 2 else mkAt rs6 x' y' := fun x' y' hx hy => mkAt_set g6 on3 hx hy
      have l8 : (setAt rs6 0 n 2).length = rs0.length := by rw [setAt_len]; exact l6
      refine ⟨_, rfl, kq _ _ _ s8 g8 ?_ ⟨m, ras, G8⟩ (by rw [l8]; exact hlen)⟩
      have hz8 : sz (setAt rs6 0 n 2) = n := by show ((setAt rs6 0 n 2).length : Int) - 1 = n; rw [l8]; exact hn0'
      have MM : ∀ x' y' : Int, 0 ≤ x' → 0 ≤ y' → mkAt (setAt rs6 0 n 2) x' y' = if x' = 0 ∧ y' = n then 2 else if x' = n ∧ y' = 0 then 1 else if x' = 0 ∧ y' = 0 then 0 else mkAt rs x' y' := fun x' y' hx hy => by
        rw [M8 x' y' hx hy, M6 x' y' hx hy, M4 x' y' hx hy]
      unfold ruledP
      rw [hz8]
      refine ⟨?_, ?_, ?_, fun k k0 kn => ?_⟩
      · rw [MM 0 0 (by omega) (by omega), if_neg (by omega), if_neg (by omega), if_pos (by omega)]
      · rw [MM n 0 (by omega) (by omega), if_neg (by omega), if_pos (by omega)]
      · rw [MM 0 n (by omega) (by omega), if_pos (by omega)]
      · rw [MM k 0 k0 (by omega), MM 0 k (by omega) k0, MM k (n - k) k0 (by omega)]
        by_cases e0 : k = 0
        · subst e0
          refine ⟨?_, ?_, ?_⟩ <;> (repeat' split) <;> omega
        · by_cases e1 : k = n
          · subst e1
            refine ⟨?_, ?_, ?_⟩ <;> (repeat' split) <;> omega
          · obtain ⟨p1, p2, _⟩ := hP k (by omega) (by omega) (by omega)
            obtain ⟨_, _, p3⟩ := hP (n - k) (by omega) (by omega) (by omega)
            have e2 : n - (n - k) = k := by omega
            rw [e2] at p3
            refine ⟨?_, ?_, ?_⟩ <;> (repeat' split) <;> omega
end
end K14
set_option Elab.async false
set_option linter.all false
set_option maxRecDepth 100000
set_option maxHeartbeats 4000000
namespace K14
open PySem PySem.Spec PyProof.Rows L2
seal L2.PE L2.PT L2.PS L2.PSs L2.PA L2.PI L2.PG L2.PGs L2.PW L2.PO L2.PIfs L2.PH
def NL (K : PySem.W.Frag) (C : Addr) (H : Hp) (l : Addr) (rss : List (List (List Int))) : Prop := ∃ ns, SqL K H l ns ∧ Paired (fun v rs => NetAt C H v rs) ns rss
theorem NL.same {K : PySem.W.Frag} {C : Addr} {H H' : Hp} {l : Addr} {rss : List (List (List Int))} (e : L2.Same H H') (h : NL K C H l rss) : NL K C H' l rss := by
  obtain ⟨ns, a, b⟩ := h
  exact ⟨ns, e.seq a, Paired.mapP b fun v rs z => z.same e⟩
def spHand : Sp := fun vs H Q _ => ∃ x y : Int, vs = [.int x, .int y] ∧ Q (.int (hnd x y)) H
def oneSz (rss : List (List (List Int))) : Prop := ∀ rs ∈ rss, rs.length = (rss.getD 0 []).length
def spChkNets (K : PySem.W.Frag) (C BN NR : Addr) : Sp := fun vs H Q E => ∃ (l : Addr) (rss : List (List (List Int))), vs = [.ref l] ∧ NL K C H l rss ∧ rss.length = 3 ∧
  (oneSz rss → (∀ rs ∈ rss, ruledP rs) → Q .non H) ∧ (¬ oneSz rss → E (.ref BN) none H) ∧ (oneSz rss → (¬ ∀ rs ∈ rss, ruledP rs) → E (.ref NR) none H)
def spJoint (K : PySem.W.Frag) (C BN NR : Addr) : Sp := fun vs H Q E => ∃ (l : Addr) (rss : List (List (List Int))), vs = [.ref l] ∧ NL K C H l rss ∧ rss.length = 3 ∧
  (∀ n : Nat, (∀ rs ∈ rss, rs.length = n + 1) → (∀ rs ∈ rss, ruledP rs) → ∀ v H', L2.Same H H' → NetAt C (frsh H H') v (jnt rss n) → Q v H') ∧ (¬ oneSz rss → E (.ref BN) none H) ∧ (oneSz rss → (¬ ∀ rs ∈ rss, ruledP rs) → E (.ref NR) none H)
section
variable {P : Program} {w : World} {K : PySem.W.Frag} {mg : Str → Option Value} {base : Heap} {ad : Adr}
theorem ok_hand {f : Addr} {fd : FuncData} (F : Fun K "hand_of" "hand_of" s_hand_of f fd) (T : Txt K mg ad) : FnOk P w K mg base (CXR P w) 1 f fd ["x", "y"] spHand := by
  refine F.okX sc_hand_of (fun vs H Q E h => ?_) (fun cdv A outer s H vs Q E hr h hx => ?_)
  · obtain ⟨x, y, rfl, _⟩ := h
    rfl
  · obtain ⟨x, y, rfl, q⟩ := h
    refine ⟨_, (pss_one (ps_ret (pe_op op_mod (pe_op op_sub (pv 0) (pv 1)) pe_int))), ?_⟩
    exact ⟨_, rfl, _, rfl, _, _, rfl, rfl, _, _, rfl, rfl, (by show (0 : Int) < 3; decide), q⟩
theorem ok_chknets {f : Addr} {fd : FuncData} (F : Fun K "check_nets" "check_nets" s_check_nets f fd) (T : Txt K mg ad) (C_check_ruled : Callee P w K mg base "check_ruled" 4 ["net"] (spChkRuled ad.Net ad.NotRuled)) : FnOk P w K mg base (CXR P w) 5 f fd ["nets"] (spChkNets K ad.Net ad.BadNet ad.NotRuled) := by
  refine F.okX sc_check_nets (fun vs H Q E h => ?_) (fun cdv A outer s H vs Q E hr h hx => ?_)
  · obtain ⟨l, rss, rfl, _⟩ := h
    rfl
  · obtain ⟨l, rss, rfl, ⟨ns, hl, hn⟩, h3, q, kb, kr⟩ := h
    refine ⟨_, (pss_cons (ps_for hx.own rfl (pi_listK K (pv 0)) (pg_name (i := 1) sc_check_nets.nd rfl (Or.inl rfl)) (pss_one (ps_if (pt_cmpR op_ne (pe_fldK K (pv 1) rfl) (pe_fldK K (pe_ix (r := rIxL K) ix_list (pv 0) pe_int (fun _ _ => rfl)) rfl) (nomark _)) (pss_one (ps_raise hx rfl T.x_BadNet rfl (pa_cons pe_str pa_nil))) pss_nil)))
  (pss_one (ps_for hx.own rfl (pi_listK K (pv 0)) (pg_name (i := 1) sc_check_nets.nd rfl (Or.inl rfl)) (pss_one (ps_expr (pe_c C_check_ruled (hr.mono (by decide)) hx.toLetsP (pa_cons (pv 1) pa_nil))))))), ?_⟩
    have zl : sizeLine = 16777216 := sizeLine_eq
    have ln : ns.length = 3 := by rw [Paired.length hn]; exact h3
    obtain ⟨r0, e0⟩ : ∃ r0, rss[0]? = some r0 := ⟨rss[0]'(by omega), by simp⟩
    have d0 : rss.getD 0 [] = r0 := by rw [List.getD_eq_getElem?_getD, e0]; rfl
    obtain ⟨v0, ev0, N0⟩ := Paired.getP hn e0
    refine ⟨_, rfl, l, rfl, ⟨_, hl⟩, for_list (K := K) (a := l) (xs := ns) (fun i σ H' => H' = H ∧ (∃ c1, σ = [some (.ref l), c1]) ∧ ∀ rs ∈ rss.take i, rs.length = r0.length) ⟨rfl, ⟨_, rfl⟩, by simp⟩ (fun i σ H' _ h => by rw [h.1]; exact hl) ?_ ?_⟩
    · rintro i v σ H1 hv ⟨rfl, ⟨c1, rfl⟩, hall⟩
      obtain ⟨rs, ers, Nv⟩ := Paired.getL hn hv
      obtain ⟨p, dx, m, rfl, hp, _, _⟩ := Nv
      obtain ⟨p0, dx0, m0, rfl, hp0, _, _⟩ := N0
      refine ⟨_, rfl, p, ad.Net, dx, _, _, rfl, hp, T.cl_Net, T.n_Net_size, flds_size _ _, _, rfl, l, _, 0, V.ref p0, rfl, rfl, hl, atI_of (by omega) ev0, p0, ad.Net, dx0, _, _, rfl, hp0, T.cl_Net, T.n_Net_size, flds_size _ _, rfl, _, rfl, ?_⟩
      refine ite2 (fun h => ?_) (fun h => ?_)
      · refine ⟨by show 1 ≤ sizeLine; omega, kb fun one => ?_⟩
        have := one rs (List.mem_of_getElem? ers)
        rw [d0] at this
        simp [this] at h
      · refine ⟨rfl, ⟨_, rfl⟩, fun rs' hm => ?_⟩
        rw [List.take_add_one, ers] at hm
        rcases List.mem_append.mp hm with z | z
        · exact hall rs' z
        · have : rs' = rs := by simpa using z
          subst this
          simp at h
          omega
    · rintro σ H1 ⟨rfl, ⟨c1, rfl⟩, hall⟩
      rw [ln, ← h3, List.take_length] at hall
      have one : oneSz rss := fun rs hm => by rw [d0]; exact hall rs hm
      refine ⟨_, rfl, l, rfl, ⟨_, hl⟩, for_list (K := K) (a := l) (xs := ns) (fun i σ H' => H' = H1 ∧ (∃ c1, σ = [some (.ref l), c1]) ∧ ∀ rs ∈ rss.take i, ruledP rs) ⟨rfl, ⟨_, rfl⟩, by simp⟩ (fun i σ H' _ h => by rw [h.1]; exact hl) ?_ ?_⟩
      · rintro i v σ H2 hv ⟨rfl, ⟨c1, rfl⟩, hru⟩
        obtain ⟨rs, ers, Nv⟩ := Paired.getL hn hv
        refine ⟨_, rfl, v, rs, rfl, Nv, fun r => ?_, fun nr => kr one fun all => nr (all rs (List.mem_of_getElem? ers))⟩
        refine ⟨rfl, ⟨_, rfl⟩, fun rs' hm => ?_⟩
        rw [List.take_add_one, ers] at hm
        rcases List.mem_append.mp hm with z | z
        · exact hru rs' z
        · have : rs' = rs := by simpa using z
          subst this
          exact r
      · rintro σ H2 ⟨rfl, ⟨c1, rfl⟩, hru⟩
        rw [ln, ← h3, List.take_length] at hru
        exact q one hru
theorem ok_joint {f : Addr} {fd : FuncData} (F : Fun K "joint" "joint" s_joint f fd) (T : Txt K mg ad) (C_check_nets : Callee P w K mg base "check_nets" 5 ["nets"] (spChkNets K ad.Net ad.BadNet ad.NotRuled)) (C_hand_of : Callee P w K mg base "hand_of" 1 ["x", "y"] spHand) (C_mark : Callee P w K mg base "mark" 2 ["net", "x", "y"] (spMark ad.Net ad.NoPlace))
    (M_Net : Maker P w K mg base "Net" ad.Net 2 ["self", "marks"] (spInit ad.Net ad.BadNet)) : FnOk P w K mg base (CXR P w) 6 f fd ["nets"] (spJoint K ad.Net ad.BadNet ad.NotRuled) := by
  refine F.okX sc_joint (fun vs H Q E h => ?_) (fun cdv A outer s H vs Q E hr h hx => ?_)
  · obtain ⟨l, rss, rfl, _⟩ := h
    rfl
  · obtain ⟨l, rss, rfl, NN, h3, q, kb, kr⟩ := h
    refine ⟨_, (pss_cons (ps_expr (pe_c C_check_nets (hr.mono (by decide)) hx.toLetsP (pa_cons (pv 0) pa_nil)))
  (pss_cons (ps_set (i := 1) sc_joint.nd rfl (Or.inl rfl) (pe_fldK K (pe_ix (r := rIxL K) ix_list (pv 0) pe_int (fun _ _ => rfl)) rfl))
  (pss_cons (ps_set (i := 2) sc_joint.nd rfl (Or.inl rfl) (pe_lst pa_nil))
  (pss_cons (ps_for hx.own rfl (pi_range1 rfl T.b_range (pa_cons (pe_op op_add (pv 1) pe_int) pa_nil)) (pg_name (i := 3) sc_joint.nd rfl (Or.inr rfl)) (pss_one (ps_expr (pe_bm PySem.F.plainAttrs_list PySem.F.slot_list_append PySem.F.type_list_append mt_append (pv 2) (pa_cons (pe_comp (Nc := ["x", "y", "nets"]) (nt := 1) (is := [3, 0]) rfl (comp_okF (by rfl) (by decide +kernel) rfl (by decide +kernel) (by intro p hp; simp only [List.mem_cons, List.not_mem_nil, or_false] at hp; first | (rcases hp with rfl | rfl | rfl | rfl <;> rfl) | (rcases hp with rfl | rfl | rfl <;> rfl) | (rcases hp with rfl | rfl <;> rfl) | (subst hp; rfl)) (by rfl) rfl (fun j i h => match j, h with | 0, h => by cases h; exact ⟨_, rfl, rfl, .inl rfl, .inl rfl⟩ | 1, h => by cases h; exact ⟨_, rfl, rfl, .inl rfl, .inl rfl⟩ | _ + 2, h => by simp at h))  (pi_range1 rfl T.b_range (pa_cons (pe_op op_add (pe_op op_sub (pv 1) (pv 3)) pe_int) pa_nil)) (fun _ _ _ _ _ => (pg_name (i := 0) (show List.Nodup (["x", "y", "nets"] : List Str) by decide +kernel) rfl (Or.inl rfl))) (fun _ _ _ _ _ => pifs_nil) (fun _ _ _ _ _ => (pe_c C_mark (hr.mono (by decide)) lets_xc (pa_cons (pe_ix (r := rIxL K) ix_list (pv 2) (pe_c C_hand_of (hr.mono (by decide)) lets_xc (pa_cons (pv 0) (pa_cons (pv 1) pa_nil))) (fun _ _ => rfl)) (pa_cons (pv 0) (pa_cons (pv 1) pa_nil)))))) pa_nil)))))
  (pss_one (ps_ret (pe_mk M_Net (hr.mono (by decide)) hx.toLetsP (pa_cons (pv 2) pa_nil)))))))), ?_⟩
    have zl : sizeLine = 16777216 := sizeLine_eq
    refine ⟨_, rfl, l, rss, rfl, NN, h3, fun one ru => ?_, kb, kr⟩
    obtain ⟨ns, hl, hn⟩ := NN
    have ln : ns.length = 3 := by rw [Paired.length hn]; exact h3
    obtain ⟨r0, e0⟩ : ∃ r0, rss[0]? = some r0 := ⟨rss[0]'(by omega), by simp⟩
    have d0 : rss.getD 0 [] = r0 := by rw [List.getD_eq_getElem?_getD, e0]; rfl
    obtain ⟨v0, ev0, N0⟩ := Paired.getP hn e0
    obtain ⟨p0, dx0, m0, rfl, hp0, _, g0⟩ := N0
    have g1 := g0.1
    have g2 := g0.2.1
    obtain ⟨n, hN⟩ : ∃ n : Nat, r0.length = n + 1 := ⟨r0.length - 1, by omega⟩
    have allN : ∀ rs ∈ rss, rs.length = n + 1 := fun rs hm => by rw [one rs hm, d0, hN]
    have allG : ∀ rs ∈ rss, Good rs ∧ rs.length = n + 1 := fun rs hm => by
      obtain ⟨i, hi⟩ := List.mem_iff_getElem?.mp hm
      obtain ⟨v, _, _, _, _, _, _, _, g⟩ := Paired.getP hn hi
      exact ⟨g, allN rs hm⟩
    refine ⟨_, rfl, l, _, 0, V.ref p0, rfl, rfl, hl, atI_of (by omega) ev0, p0, ad.Net, dx0, _, _, rfl, hp0, T.cl_Net, T.n_Net_size, flds_size _ _, ?_⟩
    have en : (r0.length : Int) - 1 = (n : Int) := by omega
    simp only [en]
    refine ⟨by show 0 ≤ sizeLine; decide, fun rl hrl => ?_⟩
    refine ⟨_, rfl, _, _, rfl, rfl, (n : Int) + 1, rfl, by omega, by omega, for_range (lo := 0) (n := ((n : Int) + 1).toNat) (fun i σ H1 => L2.Same H H1 ∧ ∃ (c3 : Option V) (ras : List Addr), σ = [some (.ref l), some (.int n), some (.ref rl), c3] ∧ H1 rl = some (.lst (ras.map V.ref)) ∧
      Paired (RowAt (frsh H H1)) ras ((jnt rss n).take i) ∧ (∀ b ∈ ras, b ≠ rl)) ⟨same_upd hrl, _, [], rfl, upd_same, .nil, (fun b hb => by cases hb)⟩ ?_ ?_⟩
    · rintro i σ H1 hi ⟨s1, c3, ras, rfl, hl1, hp, hne⟩
      have hi' : i < n + 1 := by omega
      refine ⟨_, rfl, .inl ⟨rfl, _, SqL.of hl1⟩, ?_⟩
      refine ⟨_, rfl, _, rfl, _, _, rfl, rfl, _, _, rfl, rfl, (n : Int) - (0 + (i : Int)) + 1, rfl, by omega, by omega, comp_range (lo := 0) (n := ((n : Int) - (0 + (i : Int)) + 1).toNat) (fun j ys σc H2 => H2 = H1 ∧ (∃ c0, σc = [c0, some (.int (0 + (i : Int))), some (.ref l)]) ∧ ys = ((jrow rss n i).take j).map V.int) ⟨rfl, ⟨none, rfl⟩, by simp⟩
        (by rw [sizeLine_eq]; omega) (fun j ys σ H2 h => by rw [h.2.2, List.length_map, List.length_take]; omega) ?_ ?_⟩
      · rintro j ys σc H2 hj ⟨rfl, ⟨c0, rfl⟩, rfl⟩
        refine ⟨_, rfl, _, rfl, _, rfl, 0 + (j : Int), 0 + (i : Int), rfl, ?_⟩
        obtain ⟨rs, e1, e2, m⟩ := hand_net h3 (0 + (j : Int)) (0 + (i : Int))
        obtain ⟨v, ev, Nv⟩ := Paired.getP hn e1
        obtain ⟨gr, lr⟩ := allG rs m
        have on : onN ((rs.length : Int) - 1) (0 + (j : Int)) (0 + (i : Int)) := ⟨by omega, by omega, by omega⟩
        refine ⟨l, ns, _, v, rfl, rfl, s1.seq hl, atI_of (hnd_in _ _).1 ev, _, rfl, _, rfl, v, rs, 0 + (j : Int), 0 + (i : Int), rfl, Nv.same s1, fun _ => ⟨rfl, ⟨_, rfl⟩, ?_⟩, fun no => absurd on no⟩
        rw [Int.zero_add, Int.zero_add] at e2
        rw [List.take_add_one, jrow_at (by omega), e2, Int.zero_add, Int.zero_add]
        simp
      · rintro ys σc H2 ⟨rfl, ⟨c0, rfl⟩, rfl⟩ p hp2
        have tk : (jrow rss n i).take ((n : Int) - (0 + (i : Int)) + 1).toNat = jrow rss n i := by
          rw [List.take_of_length_le]
          rw [jrow_len]; omega
        rw [tk]
        have npl : rl ≠ p := ne_of_none hl1 hp2
        have lr : ras.length ≤ 13 := by
          rw [Paired.length hp, List.length_take, jnt_len]; omega
        refine ⟨rl, _, _, rfl, rfl, by rw [upd_ne npl]; exact hl1, by rw [List.length_map, sizeLine_eq]; omega, ?_⟩
        have s4 : L2.Same H (upd (upd H2 p (.lst ((jrow rss n i).map V.int))) rl (.lst (ras.map V.ref ++ [.ref p]))) := fun b o e => by
          have hb : b ≠ rl := ne_of_none e hrl
          rw [upd_ne hb]
          exact same_upd hp2 _ _ (s1 _ _ e)
        have pH : H p = none := s1.free hp2
        refine ⟨s4, _, ras ++ [p], rfl, by rw [upd_same]; simp, ?_, fun b hb => ?_⟩
        · rw [List.take_add_one, jnt_row hi']
          refine Paired.appendP (L2.Paired.mapP (Paired.withMem hp) fun b r ⟨hb, z⟩ => ?_) (.cons ?_ .nil)
          · obtain ⟨z1, z2⟩ := of_frsh z
            show frsh H _ b = _
            rw [frsh_none z1, upd_ne (hne b hb)]
            exact same_upd hp2 _ _ z2
          · show frsh H _ p = _
            rw [frsh_none pH, upd_ne npl.symm, upd_same]
        · rcases List.mem_append.mp hb with h | h
          · exact hne b h
          · have e : b = p := by simpa using h
            rw [e]; exact npl.symm
    · rintro σ H1 ⟨s1, c3, ras, rfl, hl1, hp, hne⟩
      have tk : (jnt rss n).take ((n : Int) + 1).toNat = jnt rss n := by
        rw [List.take_of_length_le]
        rw [jnt_len]; omega
      rw [tk] at hp
      have g : Good (jnt rss n) := jnt_good h3 allG
      have Gg : TGrid (frsh H H1) (.ref rl) (jnt rss n) := ⟨rl, ras, rfl, by rw [frsh_none hrl]; exact hl1, hp⟩
      refine ⟨_, rfl, ?_⟩
      intro x dx hx0 hdx hne2
      have sn : L2.Same H1 (upd (upd H1 dx (.own x)) x (.ins ad.Net dx [])) := (same_upd hdx).trans (same_upd (by rw [upd_ne hne2.symm]; exact hx0))
      refine ⟨x, dx, .ref rl, jnt rss n, rfl, upd_same, Gg.same ((frsh_same _ _).trans sn), by rw [jnt_len]; omega, fun _ H5 m fr hp' Gn => ⟨rfl, ?_⟩, fun ng => absurd g ng⟩
      refine q n allN ru _ _ (fun b o e => fr b o (sn _ _ (s1 _ _ e)) (ne_of_none (s1 _ _ e) hx0)) ⟨x, dx, m, rfl, ?_, Gn.same (frsh_from (s1.trans sn)), g⟩
      rw [frsh_none (s1.free hx0)]
      exact hp'
end
end K14
set_option Elab.async false
set_option linter.all false
set_option maxRecDepth 100000
set_option maxHeartbeats 4000000
namespace K14
open PySem PySem.Spec PyProof.Rows L2
seal L2.PE L2.PT L2.PS L2.PSs L2.PA L2.PI L2.PG L2.PGs L2.PW L2.PO L2.PIfs L2.PH
def spHandBy (K : PySem.W.Frag) : Sp := fun vs H Q _ => ∃ (a : Addr) (ns : List Int) (hand m : Int), vs = [.ref a, .int hand, .int m] ∧ SqL K H a (ns.map V.int) ∧ 0 ≤ hand ∧ hand ≤ 2 ∧ 1 ≤ m ∧ m ≤ 12 ∧ ∀ r H' rs, L2.Same H H' → Good rs → ruledP rs → TGrid (frsh H H') r rs → (rs.length : Int) = 2 + cellAt ns 0 % m → Q r H'
section
variable {P : Program} {w : World} {K : PySem.W.Frag} {mg : Str → Option Value} {base : Heap} {ad : Adr}
theorem ok_handby {f : Addr} {fd : FuncData} (F : Fun K "_law_hand_by" "_law_hand_by" s_law_hand_by f fd) (T : Txt K mg ad) (C_law_cell_at : Callee P w K mg base "_law_cell_at" 1 ["script", "k"] (spCell K)) (C_law_mix : Callee P w K mg base "_law_mix" 1 ["cell", "k", "many"] spMix) (C_law_ruled_by : Callee P w K mg base "_law_ruled_by" 3 ["script", "most"] (spRuledBy K)) :
    FnOk P w K mg base (CXR P w) 4 f fd ["script", "hand", "most"] (spHandBy K) := by
  refine F.okX sc_law_hand_by (fun vs H Q E h => ?_) (fun cdv A outer s H vs Q E hr h hx => ?_)
  · obtain ⟨a, ns, hand, m, rfl, _⟩ := h
    rfl
  · obtain ⟨a, ns, hand, most, rfl, hS, hh0, hh2, h1, h12, q⟩ := h
    refine ⟨_, (pss_cons (ps_set (i := 3) sc_law_hand_by.nd rfl (Or.inl rfl) (pe_op op_cat (pe_lst (pa_cons (pe_c C_law_cell_at (hr.mono (by decide)) hx.toLetsP (pa_cons (pv 0) (pa_cons pe_int pa_nil))) pa_nil)) (pe_comp (Nc := ["k", "script", "hand"]) (nt := 1) (is := [0, 1]) rfl (comp_okF (by rfl) (by decide +kernel) rfl (by decide +kernel) (by intro p hp; simp only [List.mem_cons, List.not_mem_nil, or_false] at hp; first | (rcases hp with rfl | rfl | rfl | rfl <;> rfl) | (rcases hp with rfl | rfl | rfl <;> rfl) | (rcases hp with rfl | rfl <;> rfl) | (subst hp; rfl)) (by rfl) rfl (fun j i h => match j, h with | 0, h => by cases h; exact ⟨_, rfl, rfl, .inl rfl, .inl rfl⟩ | 1, h => by cases h; exact ⟨_, rfl, rfl, .inl rfl, .inl rfl⟩ | _ + 2, h => by simp at h))  (pi_range2 rfl T.b_range (pa_cons pe_int (pa_cons pe_int pa_nil))) (fun _ _ _ _ _ => (pg_name (i := 0) (show List.Nodup (["k", "script", "hand"] : List Str) by decide +kernel) rfl (Or.inl rfl))) (fun _ _ _ _ _ => pifs_nil) (fun _ _ _ _ _ => (pe_c C_law_mix (hr.mono (by decide)) lets_xc (pa_cons (pe_c C_law_cell_at (hr.mono (by decide)) lets_xc (pa_cons (pv 1) (pa_cons (pv 0) pa_nil))) (pa_cons (pe_op op_add pe_int (pv 2)) (pa_cons (pe_op op_pow pe_int pe_int) pa_nil))))))))
  (pss_one (ps_ret (pe_c C_law_ruled_by (hr.mono (by decide)) hx.toLetsP (pa_cons (pv 3) (pa_cons (pv 2) pa_nil)))))), ?_⟩
    have zl : sizeLine = 16777216 := sizeLine_eq
    have z1 : 1 ≤ sizeLine := by omega
    refine ⟨_, rfl, a, ns, 0, rfl, hS, by decide, z1, fun p1 hp1 => ?_⟩
    have q1 := same_upd (o := .lst [V.int (cellAt ns 0)]) hp1
    refine ⟨1, 36, rfl, ⟨by decide, by decide, by decide, by decide⟩, comp_range (lo := 1) (n := 35) (fun j ys σc H2 => L2.Same (upd H p1 (.lst [V.int (cellAt ns 0)])) H2 ∧ ∃ (zs : List Int) (c0 : Option V), ys = zs.map V.int ∧ zs.length = j ∧ σc = [c0, some (.ref a), some (.int hand)]) ⟨L2.Same.refl _, [], none, rfl, rfl, rfl⟩
      (by omega) (fun j ys σ H2 ⟨_, zs, _, e, hz, _⟩ => by rw [e, List.length_map, hz]; exact Nat.le_refl _) ?_ ?_⟩
    · rintro j ys σc H2 hj ⟨s2, zs, c0, rfl, hz, rfl⟩
      refine ⟨_, rfl, _, rfl, a, ns, _, rfl, s2.seq (q1.seq hS), by omega, ?_⟩
      refine ⟨_, rfl, _, _, rfl, rfl, _, _, rfl, rfl, ⟨by decide, by decide, by decide⟩, _, _, _, rfl, by omega, by omega, by decide, fun r H3 r0 r1 s3 => ?_⟩
      exact ⟨s2.trans s3, zs ++ [r], _, by simp, by rw [List.length_append, hz]; rfl, rfl⟩
    · rintro ys σc H2 ⟨s2, zs, c0, rfl, hz, rfl⟩ p2 hp2
      have q2 := same_upd (o := .lst (zs.map V.int)) hp2
      refine ⟨p1, p2, [V.int (cellAt ns 0)], zs.map V.int, rfl, rfl, q2 _ _ (s2 _ _ upd_same), upd_same, by rw [List.length_map, hz, zl]; show 1 + 35 ≤ 16777216; decide, fun p3 hp3 => ?_⟩
      have q3 := same_upd (o := .lst ([V.int (cellAt ns 0)] ++ zs.map V.int)) hp3
      refine ⟨_, rfl, _, rfl, p3, cellAt ns 0 :: zs, most, rfl, SqL.of upd_same, h1, h12, fun r H4 rs s4 g ru G hl => ?_⟩
      have sA := q1.trans (s2.trans (q2.trans q3))
      refine q r H4 rs (sA.trans s4) g ru (G.same (frsh_from sA)) ?_
      rw [hl]
      have : cellAt (cellAt ns 0 :: zs) 0 = cellAt ns 0 := by
        show (if (0 : Int) < ((cellAt ns 0 :: zs).length : Int) then _ else _) = _
        rw [if_pos (by rw [List.length_cons]; omega)]
        rfl
      rw [this]
end
end K14
set_option Elab.async false
set_option linter.all false
set_option maxRecDepth 100000
set_option maxHeartbeats 4000000
namespace K14
open PySem PySem.Spec PyProof.Rows L2
seal L2.PE L2.PT L2.PS L2.PSs L2.PA L2.PI L2.PG L2.PGs L2.PW L2.PO L2.PIfs L2.PH
def spSettledNo (K : PySem.W.Frag) (C BN NR : Addr) : Sp := fun vs H Q E => ∃ (l : Addr) (rss : List (List (List Int))), vs = [.ref l] ∧ NL K C H l rss ∧ rss.length = 3 ∧ (¬ oneSz rss ∨ ¬ ∀ rs ∈ rss, ruledP rs) ∧ (¬ oneSz rss → E (.ref BN) none H) ∧ (oneSz rss → (¬ ∀ rs ∈ rss, ruledP rs) → E (.ref NR) none H)
def spMetJ (K : PySem.W.Frag) (C : Addr) : Sp := fun vs H Q _ => ∃ (l : Addr) (way : Int) (rss : List (List (List Int))), vs = [.ref l, .int way] ∧ NL K C H l rss ∧ rss.length = 3 ∧
  ((oneSz rss ∧ ∀ rs ∈ rss, ruledP rs) → way = 0) ∧
  (way = 0 → ∀ n : Nat, (∀ rs ∈ rss, rs.length = n + 1) → (∀ rs ∈ rss, ruledP rs) → ∀ v H', L2.Same H H' → NetAt C (frsh H H') v (jnt rss n) → Q v H') ∧
  (¬ oneSz rss → ∀ p H', L2.Same H H' → H' p = some (.lst [V.bl true, .bl false]) → Q (.ref p) H') ∧ (oneSz rss → (¬ ∀ rs ∈ rss, ruledP rs) → ∀ p H', L2.Same H H' → H' p = some (.lst [V.bl false, .bl true]) → Q (.ref p) H')
section
variable {P : Program} {w : World} {K : PySem.W.Frag} {mg : Str → Option Value} {base : Heap} {ad : Adr}
theorem ok_settledNo {f : Addr} {fd : FuncData} (F : Fun K "settled" "settled" s_settled f fd) (T : Txt K mg ad) (C_joint : Callee P w K mg base "joint" 6 ["nets"] (spJoint K ad.Net ad.BadNet ad.NotRuled)) : FnOk P w K mg base (CXR P w) 7 f fd ["nets"] (spSettledNo K ad.Net ad.BadNet ad.NotRuled) := by
  refine F.okX sc_settled (fun vs H Q E h => ?_) (fun cdv A outer s H vs Q E hr h hx => ?_)
  · obtain ⟨l, rss, rfl, _⟩ := h
    rfl
  · obtain ⟨l, rss, rfl, NN, h3, bad, kb, kr⟩ := h
    refine ⟨_, (pss_cons (ps_set (i := 1) sc_settled.nd rfl (Or.inl rfl) (pe_c C_joint (hr.mono (by decide)) hx.toLetsP (pa_cons (pv 0) pa_nil)))
  pss_never), ?_⟩
    refine ⟨_, rfl, l, rss, rfl, NN, h3, fun n all ru => ?_, kb, kr⟩
    exfalso
    rcases bad with b | b
    · refine b fun rs hm => ?_
      have z : rss.getD 0 [] ∈ rss := by
        rw [List.getD_eq_getElem?_getD, List.getElem?_eq_getElem (by omega)]
        exact List.getElem_mem _
      rw [all rs hm, all _ z]
    · exact b ru
theorem ok_met {f : Addr} {fd : FuncData} (F : Fun K "_law_met" "_law_met" s_law_met f fd) (T : Txt K mg ad) (C_joint : Callee P w K mg base "joint" 6 ["nets"] (spJoint K ad.Net ad.BadNet ad.NotRuled)) (C_settled : Callee P w K mg base "settled" 7 ["nets"] (spSettledNo K ad.Net ad.BadNet ad.NotRuled)) : FnOk P w K mg base (CXR P w) 8 f fd ["nets", "way"] (spMetJ K ad.Net) := by
  refine F.okX sc_law_met (fun vs H Q E h => ?_) (fun cdv A outer s H vs Q E hr h hx => ?_)
  · obtain ⟨l, way, rss, rfl, _⟩ := h
    rfl
  · obtain ⟨l, way, rss, rfl, NN, h3, w0, q, qb, qr⟩ := h
    refine ⟨_, (pss_one (ps_try rfl rfl (fun pn xe ES hxT => (pss_cons (ps_if (pt_cmpR op_eq (pv 1) pe_int (nomark _)) (pss_one (ps_ret (pe_c C_joint (hr.mono (by decide)) hxT (pa_cons (pv 0) pa_nil)))) pss_nil)
  (pss_one (ps_ret (pe_c C_settled (hr.mono (by decide)) hxT (pa_cons (pv 0) pa_nil)))))) (ph_as rfl rfl rfl T.x_DoorError rfl sc_law_met.nd (i := 2) rfl rfl (fun ea eC oe hoe => (pss_one (ps_ret (pe_lst (pa_cons (pe_callB (r := rIsiB K ea eC) (call_isi_excB (List.mem_cons_self ..) hoe) rfl T.b_isinstance boot_isinstance (pa_cons (pv 2) (pa_cons (pe_glob (v := .ref _) rfl T.x_BadNet.mg rfl) pa_nil))) (pa_cons (pe_callB (r := rIsiB K ea eC) (call_isi_excB (List.mem_cons_self ..) hoe) rfl T.b_isinstance boot_isinstance (pa_cons (pv 2) (pa_cons (pe_glob (v := .ref _) rfl T.x_NotRuled.mg rfl) pa_nil))) pa_nil)))))) ph_never))), ?_⟩
    have z2 : 2 ≤ sizeLine := by rw [sizeLine_eq]; decide
    refine ⟨_, rfl, rfl, _, rfl, ?_⟩
    refine ite2 (fun h0 => ?_) (fun h0 => ?_)
    · refine ⟨_, rfl, l, rss, rfl, NN, h3, fun n all ru v H1 s1 Nv => q (by simpa using h0) n all ru v H1 s1 Nv, fun b ea eC ee hn => ?_, fun one nr ea eC ee hn => ?_⟩
      · cases ee
        refine ⟨true, T.m_BadNet_DoorError, T.x_BadNet.ex, _, rfl, _, _, true, rfl, rfl, T.ec_BadNet, T.ic_BadNet, T.kb_BadNet_BadNet, _, rfl, _, _, false, rfl, rfl, T.ec_BadNet, T.ic_BadNet, T.kb_BadNet_NotRuled, z2, fun p hp => ?_⟩
        exact qb b p _ (same_upd hp) upd_same
      · cases ee
        refine ⟨true, T.m_NotRuled_DoorError, T.x_NotRuled.ex, _, rfl, _, _, false, rfl, rfl, T.ec_NotRuled, T.ic_NotRuled, T.kb_NotRuled_BadNet, _, rfl, _, _, true, rfl, rfl, T.ec_NotRuled, T.ic_NotRuled, T.kb_NotRuled_NotRuled, z2, fun p hp => ?_⟩
        exact qr one nr p _ (same_upd hp) upd_same
    · have bad : ¬ oneSz rss ∨ ¬ ∀ rs ∈ rss, ruledP rs := by
        by_cases o : oneSz rss
        · by_cases r : ∀ rs ∈ rss, ruledP rs
          · exact absurd (by simp [w0 ⟨o, r⟩]) h0
          · exact .inr r
        · exact .inl o
      refine ⟨_, rfl, l, rss, rfl, NN, h3, bad, fun b ea eC ee hn => ?_, fun one nr ea eC ee hn => ?_⟩
      · cases ee
        refine ⟨true, T.m_BadNet_DoorError, T.x_BadNet.ex, _, rfl, _, _, true, rfl, rfl, T.ec_BadNet, T.ic_BadNet, T.kb_BadNet_BadNet, _, rfl, _, _, false, rfl, rfl, T.ec_BadNet, T.ic_BadNet, T.kb_BadNet_NotRuled, z2, fun p hp => ?_⟩
        exact qb b p _ (same_upd hp) upd_same
      · cases ee
        refine ⟨true, T.m_NotRuled_DoorError, T.x_NotRuled.ex, _, rfl, _, _, false, rfl, rfl, T.ec_NotRuled, T.ic_NotRuled, T.kb_NotRuled_BadNet, _, rfl, _, _, true, rfl, rfl, T.ec_NotRuled, T.ic_NotRuled, T.kb_NotRuled_NotRuled, z2, fun p hp => ?_⟩
        exact qr one nr p _ (same_upd hp) upd_same
end
end K14
set_option Elab.async false
set_option linter.all false
set_option maxRecDepth 100000
set_option maxHeartbeats 4000000
namespace K14
open PySem PySem.Spec PyProof.Rows L2
seal L2.PE L2.PT L2.PS L2.PSs L2.PA L2.PI L2.PG L2.PGs L2.PW L2.PO L2.PIfs L2.PH
section
variable {P : Program} {w : World} {K : PySem.W.Frag} {mg : Str → Option Value} {base : Heap} {ad : Adr}
theorem ok_law {f : Addr} {fd : FuncData} (F : Fun K "law" "law" s_law f fd) (T : Txt K mg ad) (C_law_hand_by : Callee P w K mg base "_law_hand_by" 4 ["script", "hand", "most"] (spHandBy K)) (C_law_cell_at : Callee P w K mg base "_law_cell_at" 1 ["script", "k"] (spCell K)) (C_law_net : Callee P w K mg base "_law_net" 4 ["marks"] (spLNet ad.Net))
    (C_law_met : Callee P w K mg base "_law_met" 8 ["nets", "way"] (spMetJ K ad.Net)) : FnOk P w K mg base (CXR P w) 9 f fd ["script"] (spLaw K) := by
  refine F.okX sc_law (fun vs H Q E h => ?_) (fun cdv A outer s H vs Q E hr h hx => ?_)
  · obtain ⟨a, ns, rfl, _⟩ := h
    rfl
  · obtain ⟨a, ns, rfl, hS, kq⟩ := h
    have hu : _ := hr.units
    refine ⟨_, (pss_cons (ps_set (i := 1) sc_law.nd rfl (Or.inr rfl) (pe_comp (Nc := ["hand", "script"]) (nt := 1) (is := [0]) rfl (comp_okF (by rfl) (by decide +kernel) rfl (by decide +kernel) (by intro p hp; simp only [List.mem_cons, List.not_mem_nil, or_false] at hp; first | (rcases hp with rfl | rfl | rfl | rfl <;> rfl) | (rcases hp with rfl | rfl | rfl <;> rfl) | (rcases hp with rfl | rfl <;> rfl) | (subst hp; rfl)) (by rfl) rfl (fun j i h => match j, h with | 0, h => by cases h; exact ⟨_, rfl, rfl, .inl rfl, .inl rfl⟩ | _ + 1, h => by simp at h))  (pi_range1 rfl T.b_range (pa_cons pe_int pa_nil)) (fun _ _ _ _ _ => (pg_name (i := 0) (show List.Nodup (["hand", "script"] : List Str) by decide +kernel) rfl (Or.inl rfl))) (fun _ _ _ _ _ => pifs_nil) (fun _ _ _ _ _ => (pe_c C_law_hand_by (hr.mono (by decide)) lets_xc (pa_cons (pv 1) (pa_cons (pv 0) (pa_cons pe_int pa_nil)))))))
  (pss_cons (ps_set (i := 2) sc_law.nd rfl (Or.inr rfl) (pe_op op_sub (pe_callB (r := rLenOf K) call_len_seq rfl T.b_len PySem.boot_len (pa_cons (pe_ix (r := rIxL K) ix_list (pv 1) pe_int (fun _ _ => rfl)) pa_nil)) pe_int))
  (pss_cons (ps_set (i := 3) sc_law.nd rfl (Or.inl rfl) (pe_c C_law_cell_at (hr.mono (by decide)) hx.toLetsP (pa_cons (pv 0) (pa_cons pe_int pa_nil))))
  (pss_cons (ps_set (i := 4) sc_law.nd rfl (Or.inl rfl) pe_non)
  (pss_cons (ps_if (pt_cmpR op_gt (pe_op op_mod (pv 3) pe_int) pe_int (nomark _)) (pss_cons (ps_asg pe_int (pg_sub (pe_ix (r := rIxL K) ix_list (pe_ix (r := rIxL K) ix_list (pv 1) (pe_op op_mod (pe_op op_fdiv (pv 3) pe_int) pe_int) (fun _ _ => rfl)) pe_int (fun _ _ => rfl)) pe_int set_list))
  (pss_one (ps_set (i := 4) sc_law.nd rfl (Or.inl rfl) (pe_lst (pa_cons pe_bl (pa_cons pe_bl pa_nil)))))) pss_nil)
  (pss_cons (ps_if (pt_cmpR op_eq (pe_op op_mod (pe_op op_mod (pv 3) pe_int) pe_int) pe_int (nomark _)) (pss_cons (ps_asg (pe_comp (Nc := ["y", "size"]) (nt := 1) (is := [2]) rfl (comp_okF (by rfl) (by decide +kernel) rfl (by decide +kernel) (by intro p hp; simp only [List.mem_cons, List.not_mem_nil, or_false] at hp; first | (rcases hp with rfl | rfl | rfl | rfl <;> rfl) | (rcases hp with rfl | rfl | rfl <;> rfl) | (rcases hp with rfl | rfl <;> rfl) | (subst hp; rfl)) (by rfl) rfl (fun j i h => match j, h with | 0, h => by cases h; exact ⟨_, rfl, rfl, .inl rfl, .inl rfl⟩ | _ + 1, h => by simp at h))  (pi_range1 rfl T.b_range (pa_cons (pe_op op_add (pv 2) pe_int) pa_nil)) (fun _ _ _ _ _ => (pg_name (i := 0) (show List.Nodup (["y", "size"] : List Str) by decide +kernel) rfl (Or.inl rfl))) (fun _ _ _ _ _ => pifs_nil) (fun _ _ _ _ _ => (pe_op op_rep (pe_lst (pa_cons pe_int pa_nil)) (pe_op op_sub (pe_op op_add (pv 1) pe_int) (pv 0))))) (pg_sub (pv 1) (pe_op op_mod (pe_op op_fdiv (pv 3) pe_int) pe_int) set_list))
  (pss_one (ps_set (i := 4) sc_law.nd rfl (Or.inl rfl) (pe_lst (pa_cons pe_bl (pa_cons pe_bl pa_nil)))))) pss_nil)
  (pss_cons (ps_setC (Nc := ["marks"]) (nt := 1) (is := []) rfl (comp_ok0 (by decide +kernel) (by decide +kernel) rfl (by decide +kernel) rfl) sc_law.nd (i := 5) rfl rfl rfl (pi_listK K (pv 1)) (fun _ _ _ _ _ => (pg_name (i := 0) (show List.Nodup (["marks"] : List Str) by decide +kernel) rfl (Or.inl rfl))) (fun _ _ _ _ _ => pifs_nil) (fun _ _ _ _ _ => (pe_c C_law_net (hr.mono (by decide)) lets_xc (pa_cons (pv 0) pa_nil))))
  (pss_cons (ps_if (pt_cmpR op_notN (pv 4) pe_non (nomark _)) (pss_one (ps_ret (pe_and (pe_cmpR (r := rEqD K false) (op_eqD hu) (pe_c C_law_met (hr.mono (by decide)) hx.toLetsP (pa_cons (pv 5) (pa_cons pe_int pa_nil))) (pv 4) (nomark _)) (pe_one (pe_cmpR (r := rEqD K false) (op_eqD hu) (pe_c C_law_met (hr.mono (by decide)) hx.toLetsP (pa_cons (pe_callTy (r := rListOf K) call_list_of rfl T.b_list boot_list (pa_cons (pv 5) pa_nil)) (pa_cons pe_int pa_nil))) (pv 4) (nomark _)))))) pss_nil)
  (pss_cons (ps_set (i := 6) sc_law.nd rfl (Or.inl rfl) (pe_c C_law_met (hr.mono (by decide)) hx.toLetsP (pa_cons (pv 5) (pa_cons pe_int pa_nil))))
  (pss_cons (ps_set (i := 7) sc_law.nd rfl (Or.inl rfl) (pe_lst pa_nil))
  (pss_cons (ps_for hx.own rfl (pi_range1 rfl T.b_range (pa_cons (pe_op op_add (pv 2) pe_int) pa_nil)) (pg_name (i := 8) sc_law.nd rfl (Or.inr rfl)) (pss_one (ps_expr (pe_bm PySem.F.plainAttrs_list PySem.F.slot_list_append PySem.F.type_list_append mt_append (pv 7) (pa_cons (pe_comp (Nc := ["x", "y", "hands"]) (nt := 1) (is := [8, 1]) rfl (comp_okF (by rfl) (by decide +kernel) rfl (by decide +kernel) (by intro p hp; simp only [List.mem_cons, List.not_mem_nil, or_false] at hp; first | (rcases hp with rfl | rfl | rfl | rfl <;> rfl) | (rcases hp with rfl | rfl | rfl <;> rfl) | (rcases hp with rfl | rfl <;> rfl) | (subst hp; rfl)) (by rfl) rfl (fun j i h => match j, h with | 0, h => by cases h; exact ⟨_, rfl, rfl, .inl rfl, .inl rfl⟩ | 1, h => by cases h; exact ⟨_, rfl, rfl, .inl rfl, .inl rfl⟩ | _ + 2, h => by simp at h))  (pi_range1 rfl T.b_range (pa_cons (pe_op op_add (pe_op op_sub (pv 2) (pv 8)) pe_int) pa_nil)) (fun _ _ _ _ _ => (pg_name (i := 0) (show List.Nodup (["x", "y", "hands"] : List Str) by decide +kernel) rfl (Or.inl rfl))) (fun _ _ _ _ _ => pifs_nil) (fun _ _ _ _ _ => (pe_ix (r := rIxL K) ix_list (pe_ix (r := rIxL K) ix_list (pe_ix (r := rIxL K) ix_list (pv 2) (pe_op op_mod (pe_op op_sub (pv 0) (pv 1)) pe_int) (fun _ _ => rfl)) (pv 1) (fun _ _ => rfl)) (pv 0) (fun _ _ => rfl)))) pa_nil)))))
  (pss_cons (ps_if (PW.pt (pw_or (pt_not (pt_val (pe_callB (r := rIsi K) call_isi rfl T.b_isinstance boot_isinstance (pa_cons (pv 6) (pa_cons (pe_glob (v := .ref _) rfl T.g_Net rfl) pa_nil))))) (pw_or (pt_cmpR (r := rEqD K true) (op_neD hu) (pe_fldK K (pv 6) rfl) (pv 7) (nomark _)) (pw_or (pt_cmpR op_ne (pe_fldK K (pv 6) rfl) (pv 2) (nomark _)) (pw_or1 (pt_cmpR op_ne (pe_callB (r := rLenOf K) call_len_seq rfl T.b_len PySem.boot_len (pa_cons (pv 5) pa_nil)) pe_int (nomark _))))))) (pss_one (ps_ret pe_bl)) pss_nil)
  (pss_one (ps_ret (pe_cmpR (r := rEqD K false) (op_eqD hu) (pe_comp (Nc := ["net"]) (nt := 1) (is := []) rfl (comp_ok0 (by decide +kernel) (by decide +kernel) rfl (by decide +kernel) rfl)  (pi_listK K (pv 5)) (fun _ _ _ _ _ => (pg_name (i := 0) (show List.Nodup (["net"] : List Str) by decide +kernel) rfl (Or.inl rfl))) (fun _ _ _ _ _ => pifs_nil) (fun _ _ _ _ _ => (pe_fldK K (pv 0) rfl))) (pv 1) (nomark _)))))))))))))))), ?_⟩
    have zl : sizeLine = 16777216 := sizeLine_eq
    have z2 : 2 ≤ sizeLine := by omega
    have c0 := Int.emod_nonneg (cellAt ns 0) (show (10 : Int) ≠ 0 by decide)
    have c1 := Int.emod_lt_of_pos (cellAt ns 0) (show (0 : Int) < 10 by decide)
    obtain ⟨n, hn⟩ : ∃ n : Nat, (n : Int) = 1 + cellAt ns 0 % 10 := ⟨(1 + cellAt ns 0 % 10).toNat, by omega⟩
    refine ⟨3, rfl, by decide, by decide, comp_range (lo := 0) (n := 3) (fun i ys σc H2 => L2.Same H H2 ∧ (∃ c0, σc = [c0, some (.ref a)]) ∧ ∃ (ps : List (V × List Addr)) (rss : List (List (List Int))), ys = ps.map (·.1) ∧ Paired (fun p rs => ∃ m, GR H2 p.1 rs m p.2) ps rss ∧ ps.length = i ∧ ps.Pairwise (fun p q => ∀ b ∈ p.2, b ∉ q.2) ∧ ∀ rs ∈ rss, Good rs ∧ ruledP rs ∧ rs.length = n + 1)
      ⟨L2.Same.refl _, ⟨none, rfl⟩, [], [], rfl, .nil, rfl, .nil, by simp⟩ (by omega) (fun i ys σ H2 ⟨_, _, ps, _, e, _, hl, _⟩ => by rw [e, List.length_map, hl]; exact Nat.le_refl _) ?_ ?_⟩
    · rintro i ys σc H2 hi ⟨s2, ⟨c0', rfl⟩, ps, rss, rfl, hp, hl, dj, hall⟩
      refine ⟨_, rfl, _, rfl, a, ns, 0 + (i : Int), 10, rfl, s2.seq hS, by omega, by omega, by decide, by decide, fun r H3 rs s3 g ru G hlen => ?_⟩
      obtain ⟨m, ras, G⟩ := G
      refine ⟨s2.trans s3, ⟨_, rfl⟩, ps ++ [(r, ras)], rss ++ [rs], by simp, Paired.appendP (Paired.mapP hp fun p q ⟨m', z⟩ => ⟨m', z.same s3⟩) (.cons ⟨m, G.same (frsh_same _ _)⟩ .nil), by simp [hl], ?_, fun q hq => ?_⟩
      · rw [List.pairwise_append]
        refine ⟨dj, by simp, fun p hpm q hq b hb hbq => ?_⟩
        obtain rfl : q = (r, ras) := by simpa using hq
        obtain ⟨j, hj⟩ := List.mem_iff_getElem?.mp hpm
        obtain ⟨_, _, m', Gp⟩ := Paired.getL hp hj
        obtain ⟨r1, e1⟩ := Gp.rows_some hb
        obtain ⟨r2, e2⟩ := G.rows_some hbq
        have := (of_frsh e2).1
        rw [e1] at this
        cases this
      · rcases List.mem_append.mp hq with z | z
        · exact hall q z
        · obtain rfl : q = rs := by simpa using z
          exact ⟨g, ru, by omega⟩
    · rintro ys σc H3 ⟨s3, ⟨c0', rfl⟩, ps, rss, rfl, hp, hl, dj, hall⟩ hl0 hhl0
      obtain ⟨hl1, ehl1⟩ : ∃ x : Addr, hl0 = x := ⟨_, rfl⟩
      subst ehl1
      have q4 := same_upd (o := .lst (ps.map (·.1))) hhl0
      have at4 : upd H3 hl0 (.lst (ps.map (·.1))) hl0 = some (.lst (ps.map (·.1))) := upd_same
      have hp4 : Paired (HG hl0 (upd H3 hl0 (.lst (ps.map (·.1))))) ps rss := Paired.mapP hp fun p rs ⟨m, G⟩ => ⟨m, ne_of_none G.top hhl0, G.same q4⟩
      have s4 := s3.trans q4
      obtain ⟨H4, e4⟩ : ∃ H4, upd H3 hl0 (.lst (ps.map (·.1))) = H4 := ⟨_, rfl⟩
      simp only [e4] at at4 hp4 s4 ⊢
      clear q4 e4 hp
      have h3 : rss.length = 3 := by rw [← Paired.length hp4]; exact hl
      have lps : (ps.map (·.1)).length = 3 := by rw [List.length_map]; exact hl
      obtain ⟨r0, e0⟩ : ∃ r0, rss[0]? = some r0 := ⟨rss[0]'(by omega), by simp⟩
      obtain ⟨p0, ep0, m0, hm0, G0⟩ := Paired.getP hp4 e0
      obtain ⟨g0, _, l0⟩ := hall r0 (List.mem_of_getElem? e0)
      have ev0 := G0.ev
      have gat : (ps.map (·.1))[0]? = some p0.1 := by rw [List.getElem?_map, ep0]; rfl
      refine ⟨_, rfl, hl0, _, 0, p0.1, rfl, rfl, SqL.of at4, atI_of (by omega) gat, m0, _, ?_, .inl (SqL.of G0.top), _, _, rfl, rfl, ?_⟩
      · rw [ev0]
      have en : ((p0.2.map V.ref).length : Int) - 1 = (n : Int) := by rw [G0.len, l0]; omega
      simp only [en]
      refine ⟨_, rfl, a, ns, 40, rfl, s4.seq hS, by decide, ?_⟩
      generalize cellAt ns 40 = cell
      dsimp only [gName]
      refine seq_by2 (B := tIfS _ _ _) (fun σ H' => ∃ (dv : V) (rss' : List (List (List Int))), σ = [some (.ref a), some (.ref hl0), some (.int n), some (.int cell), some dv, none, none, none, none] ∧ H' hl0 = some (.lst (ps.map (·.1))) ∧ Paired (HG hl0 H') ps rss' ∧ (∀ rs ∈ rss', Good rs ∧ rs.length = n + 1) ∧
        ((dv = .non ∧ ∀ rs ∈ rss', ruledP rs) ∨ (∃ d, dv = .ref d ∧ H' d = some (.lst [.bl false, .bl true]) ∧ ¬ ∀ rs ∈ rss', ruledP rs))) ?_ (fun nx hnx => ?_)
      rotate_left
      · refine ⟨_, rfl, _, _, rfl, rfl, (by show (0 : Int) < 4; decide), _, _, rfl, rfl, _, rfl, ?_⟩
        refine ite2 (fun _ => ?_) (fun _ => ?_)
        · have i0 := Int.emod_nonneg (cell / 4) (show (3 : Int) ≠ 0 by decide)
          have i1 := Int.emod_lt_of_pos (cell / 4) (show (0 : Int) < 3 by decide)
          obtain ⟨i, hi⟩ : ∃ i : Nat, (i : Int) = cell / 4 % 3 := ⟨(cell / 4 % 3).toNat, by omega⟩
          have il : i < rss.length := by omega
          obtain ⟨rs, ers⟩ : ∃ rs, rss[i]? = some rs := ⟨rss[i], by simp [il]⟩
          obtain ⟨⟨pv, pra⟩, ep, m, hm, G⟩ := Paired.getP hp4 ers
          obtain rfl : pv = .ref m := G.ev
          obtain ⟨g, _, lr⟩ := hall rs (List.mem_of_getElem? ers)
          have on : onN (sz rs) 0 0 := ⟨by omega, by omega, by show (0 : Int) + 0 ≤ (rs.length : Int) - 1; omega⟩
          obtain ⟨a1, r1, at1, row1, ix1, put1⟩ := GR.put G g on
          have a1m : a1 ∈ pra := by
            obtain ⟨x, hx, e⟩ := List.mem_map.mp (atI_mem at1)
            cases e
            exact hx
          have gi : (ps.map (·.1))[i]? = some (.ref m) := by rw [List.getElem?_map, ep]; rfl
          refine ⟨_, rfl, _, rfl, _, _, rfl, rfl, ⟨by show (0 : Int) < 4; decide, by show (4 : Int) < 1073741824; decide⟩, _, _, rfl, rfl, (by show (0 : Int) < 3; decide), hl0, _, _, V.ref m, rfl, rfl, SqL.of at4, (by rw [← hi]; exact atI_nat gi), m, _, 0, V.ref a1, rfl, rfl, SqL.of G.top, at1, a1, _, 0, _, rfl, rfl, row1, ix1, ?_⟩
          have nhl : hl0 ≠ a1 := fun z => by
            subst z
            have e := at4.symm.trans row1
            injection e with e
            injection e with e
            have : (ps.map (·.1))[i]? = some (V.ref m) := gi
            rw [e, List.getElem?_map] at this
            cases hh : r1[i]? with
            | none => rw [hh] at this; cases this
            | some c => rw [hh] at this; cases this
          refine ⟨z2, fun d hd => ?_⟩
          have q5 := same_upd (o := .lst [V.bl false, .bl true]) hd
          refine hnx _ _ ⟨.ref d, rss.set i (setAt rs 0 0 1), rfl, q5 _ _ (by rw [upd_ne nhl]; exact at4), ?_, fun q hq => ?_, .inr ⟨d, rfl, upd_same, fun all => ?_⟩⟩
          · refine Paired.setP hp4 ep ⟨m, hm, (put1 1).same q5⟩ fun j c e hj ec ee ⟨m', hm', G'⟩ => ⟨m', hm', ?_⟩
            obtain ⟨ge, _, le⟩ := hall e (List.mem_of_getElem? ee)
            exact (G'.off (by omega) row1 (dj_at dj ep ec hj a1m)).same q5
          · rcases List.mem_or_eq_of_mem_set hq with z | z
            · obtain ⟨z1, _, z3⟩ := hall q z
              exact ⟨z1, z3⟩
            · rw [z]
              exact ⟨g.set on (by decide), by rw [setAt_len]; exact lr⟩
          · have := (all _ (List.mem_set il (setAt rs 0 0 1))).1
            rw [mkAt_set g on (by omega) (by omega), if_pos ⟨rfl, rfl⟩] at this
            cases this
        · exact hnx _ _ ⟨.non, rss, rfl, at4, hp4, fun q hq => ⟨(hall q hq).1, (hall q hq).2.2⟩, .inl ⟨rfl, fun q hq => (hall q hq).2.1⟩⟩
      rintro σ H5 ⟨dv, rss5, rfl, at5, hp5, all5, dd5⟩
      have h35 : rss5.length = 3 := by rw [← Paired.length hp5]; exact hl
      clear hp4 at4 hall G0 e0 hm0 s4
      have z1 : 1 ≤ sizeLine := by omega
      refine seq_by (A := tIfS _ _ _) (fun σ H' => ∃ (dv : V) (gs : List V) (rss' : List (List (List Int))), σ = [some (.ref a), some (.ref hl0), some (.int n), some (.int cell), some dv, none, none, none, none] ∧ H' hl0 = some (.lst gs) ∧ Paired (TGrid H') gs rss' ∧ rss'.length = 3 ∧ (∀ rs ∈ rss', Good rs) ∧
        ((dv = .non ∧ ∀ rs ∈ rss', ruledP rs ∧ rs.length = n + 1) ∨ (∃ d, dv = .ref d ∧ H' d = some (.lst [.bl false, .bl true]) ∧ oneSz rss' ∧ ¬ ∀ rs ∈ rss', ruledP rs) ∨ (∃ d, dv = .ref d ∧ H' d = some (.lst [.bl true, .bl false]) ∧ ¬ oneSz rss'))) ?_ (fun nx hnx => ?_)
      rotate_left
      · refine ⟨_, rfl, _, _, rfl, rfl, (by show (0 : Int) < 4; decide), _, _, rfl, rfl, (by show (0 : Int) < 2; decide), rfl, _, rfl, ?_⟩
        refine ite2 (fun _ => ?_) (fun _ => ?_)
        · refine ⟨_, rfl, _, _, rfl, rfl, (n : Int) + 2, rfl, by omega, by omega, comp_range (lo := 0) (n := ((n : Int) + 2).toNat) (fun j ys σc H2 => L2.Same H5 H2 ∧ (∃ c0, σc = [c0, some (.int n)]) ∧ ∃ ras : List Addr, ys = ras.map V.ref ∧ Paired (RowAt H2) ras ((zer n).take j)) ⟨L2.Same.refl _, ⟨none, rfl⟩, [], rfl, by simpa using Paired.nil⟩
            (by omega) (fun j ys σ H2 ⟨_, _, ras, e, pr⟩ => by rw [e, List.length_map, Paired.length pr, List.length_take]; omega) ?_ ?_⟩
          · rintro j ys σc H2 hj ⟨s2, ⟨c0', rfl⟩, ras, rfl, pr⟩
            refine ⟨z1, fun p1 h1 => ⟨_, rfl, _, _, rfl, rfl, _, rfl, _, _, rfl, rfl, p1, _, [V.int 0], rfl, rfl, upd_same, by omega, by omega, ?_, fun p2 h2 => ?_⟩⟩
            · show 1 * ((n : Int) + 2 - (0 + (j : Int))).toNat ≤ sizeLine
              omega
            have q1 := same_upd (o := .lst [V.int 0]) h1
            have q2 := same_upd (o := .lst (List.replicate ((n : Int) + 2 - (0 + (j : Int))).toNat [V.int 0]).flatten) h2
            refine ⟨s2.trans (q1.trans q2), ⟨_, rfl⟩, ras ++ [p2], by simp, ?_⟩
            rw [List.take_add_one, zer_row (by omega)]
            refine Paired.appendP (rows_same (q1.trans q2) pr) (.cons ?_ .nil)
            show upd _ p2 _ p2 = some (.lst ((zrow n j).map V.int))
            rw [upd_same, rep_zero]
            unfold zrow
            rw [show ((n : Int) + 2 - (0 + (j : Int))).toNat = n + 2 - j by omega]
          · rintro ys σc H2 ⟨s2, ⟨c0', rfl⟩, ras, rfl, pr⟩ p3 h3'
            rw [List.take_of_length_le (by rw [zer_len]; omega)] at pr
            have q3 := same_upd (o := .lst (ras.map V.ref)) h3'
            have Gz : GR (upd H2 p3 (.lst (ras.map V.ref))) (.ref p3) (zer n) p3 ras := ⟨rfl, upd_same, rows_same q3 pr⟩
            have s53 := s2.trans q3
            have at7 := s53 _ _ at5
            have j0 := Int.emod_nonneg (cell / 12) (show (3 : Int) ≠ 0 by decide)
            have j1 := Int.emod_lt_of_pos (cell / 12) (show (0 : Int) < 3 by decide)
            have np3 : p3 ≠ hl0 := (ne_of_none (s2 _ _ at5) h3').symm
            refine ⟨_, rfl, _, rfl, _, _, rfl, rfl, ⟨by show (0 : Int) < 12; decide, by show (12 : Int) < 1073741824; decide⟩, _, _, rfl, rfl, (by show (0 : Int) < 3; decide), hl0, _, _, _, rfl, rfl, at7, ixN_in j0 (by rw [lps]; exact j1), ?_⟩
            obtain ⟨jn, hjn⟩ : ∃ jn, (cell / 12 % 3).toNat = jn := ⟨_, rfl⟩
            simp only [hjn]
            have jl : jn < rss5.length := by omega
            obtain ⟨q0, t0, e0⟩ : ∃ (q0 : Addr) (t0 : List V), ps.map (·.1) = .ref q0 :: t0 := by
              cases ps with
              | nil => simp at hl
              | cons p pt =>
                cases hp5 with
                | cons hh _ =>
                  obtain ⟨m, _, G⟩ := hh
                  exact ⟨m, pt.map (·.1), by rw [List.map_cons, G.ev]⟩
            rw [e0] at at7
            refine ⟨z2, fun d hd => ?_⟩
            have q8 := same_upd (o := .lst [V.bl true, .bl false]) hd
            have hp8 : Paired (TGrid (upd (upd (upd H2 p3 (.lst (ras.map V.ref))) hl0 (.lst ((ps.map (·.1)).set jn (.ref p3)))) d (.lst [V.bl true, .bl false]))) (ps.map (·.1)) rss5 :=
              Paired.fst (Paired.mapP hp5 fun p rs ⟨m, hm, G⟩ => ⟨m, p.2, ((G.same s53).offL (x := .non) hm at7).same q8⟩)
            have gz8 : TGrid (upd (upd (upd H2 p3 (.lst (ras.map V.ref))) hl0 (.lst ((ps.map (·.1)).set jn (.ref p3)))) d (.lst [V.bl true, .bl false])) (.ref p3) (zer n) := ⟨p3, ras, (Gz.offL (x := .non) np3 at7).same q8⟩
            refine hnx _ _ ⟨.ref d, (ps.map (·.1)).set jn (.ref p3), rss5.set jn (zer n), rfl, q8 _ _ upd_same, Paired.set2 hp8 gz8, by rw [List.length_set]; exact h35, fun q hq => ?_, .inr (.inr ⟨d, rfl, upd_same, fun one => ?_⟩)⟩
            · rcases List.mem_or_eq_of_mem_set hq with z | z
              · exact (all5 q z).1
              · rw [z]; exact zer_good (by omega)
            · have a1 := one _ (List.mem_set jl (zer n))
              obtain ⟨j', hj', nj⟩ : ∃ j', j' < rss5.length ∧ j' ≠ jn := by
                by_cases z : jn = 0
                · exact ⟨1, by omega, by omega⟩
                · exact ⟨0, by omega, by omega⟩
              have m' : rss5[j'] ∈ rss5.set jn (zer n) := List.mem_of_getElem? (i := j') (by rw [List.getElem?_set_ne (Ne.symm nj)]; simp [hj'])
              have a2 := one _ m'
              have a3 := (all5 _ (List.getElem_mem hj')).2
              rw [zer_len] at a1
              omega
        · refine hnx _ _ ⟨dv, ps.map (·.1), rss5, rfl, at5, Paired.fst (Paired.mapP hp5 fun p rs ⟨m, hm, G⟩ => ⟨m, p.2, G⟩), h35, fun q hq => (all5 q hq).1, ?_⟩
          rcases dd5 with ⟨e, r⟩ | ⟨d, e, hd, nr⟩
          · exact .inl ⟨e, fun q hq => ⟨r q hq, (all5 q hq).2⟩⟩
          · refine .inr (.inl ⟨d, e, hd, fun q hq => ?_, nr⟩)
            have z : rss5.getD 0 [] ∈ rss5 := by
              rw [List.getD_eq_getElem?_getD, List.getElem?_eq_getElem (by omega)]
              exact List.getElem_mem _
            rw [(all5 q hq).2, (all5 _ z).2]
      clear at5 hp5 all5 dd5 h35
      rintro σ H6 ⟨dv, gs, rs6, rfl, at6, hp6, h36, all6, dd6⟩
      have lgs : gs.length = 3 := by rw [Paired.length hp6]; exact h36
      refine ⟨_, rfl, hl0, rfl, ⟨_, SqL.of at6⟩, comp_list (K := K) (a := hl0) (xs := gs) (fun i ys σc H2 => L2.Same H6 H2 ∧ (∃ c0, σc = [c0]) ∧ Paired (fun v rs => NetAt ad.Net H2 v rs) ys (rs6.take i)) ⟨L2.Same.refl _, ⟨none, rfl⟩, by simpa using Paired.nil⟩
        (by omega) (fun i ys σ H2 _ h => SqL.of (h.1 _ _ at6)) (fun i ys σ H2 h => by rw [Paired.length h.2.2, List.length_take]; omega) ?_ ?_⟩
      · rintro i v ys σc H2 hv ⟨s2, ⟨c0', rfl⟩, pr⟩
        obtain ⟨rs, ers, Gv⟩ := Paired.getL hp6 hv
        refine ⟨_, rfl, v, rs, rfl, Gv.same s2, all6 rs (List.mem_of_getElem? ers), fun nv H3 s3' Nn => ?_⟩
        refine ⟨s2.trans s3', ⟨_, rfl⟩, ?_⟩
        rw [List.take_add_one, ers]
        exact Paired.appendP (Paired.mapP pr fun v rs z => z.same s3') (.cons (Nn.same (frsh_same _ _)) .nil)
      · rintro ys σc H7 ⟨s7, ⟨c0', rfl⟩, pr⟩ nl hnl
        rw [lgs, ← h36, List.take_length] at pr
        have q8 := same_upd (o := .lst ys) hnl
        have NN : NL K ad.Net (upd H7 nl (.lst ys)) nl rs6 := ⟨ys, SqL.of upd_same, Paired.mapP pr fun v rs z => z.same q8⟩
        have s68 := s7.trans q8
        have nat8 : upd H7 nl (.lst ys) nl = some (.lst ys) := upd_same
        obtain ⟨H8, e8⟩ : ∃ H8, upd H7 nl (.lst ys) = H8 := ⟨_, rfl⟩
        simp only [e8] at NN s68 nat8 ⊢
        have at8 := s68 _ _ at6
        refine ⟨_, rfl, rfl, _, rfl, ?_⟩
        rcases dd6 with ⟨rfl, ok6⟩ | ⟨d, rfl, hd, one, nr⟩ | ⟨d, rfl, hd, nb⟩
        · refine ite2 (fun h => absurd h (by simp)) (fun _ => ?_)
          refine ⟨_, rfl, nl, 0, rs6, rfl, NN, h36, fun _ => rfl, fun _ n' all ru v H9 s9 Nv => ?_, fun nb => absurd (fun q hq => ?_) nb, fun _ nr => absurd (fun q hq => (ok6 q hq).1) nr⟩
          rotate_left
          · have z : rs6.getD 0 [] ∈ rs6 := by
              rw [List.getD_eq_getElem?_getD, List.getElem?_eq_getElem (by omega)]
              exact List.getElem_mem _
            rw [(ok6 q hq).2, (ok6 _ z).2]
          have en' : n' = n := by
            have z : rs6.getD 0 [] ∈ rs6 := by
              rw [List.getD_eq_getElem?_getD, List.getElem?_eq_getElem (by omega)]
              exact List.getElem_mem _
            have z1 := all _ z
            have z2 := (ok6 _ z).2
            omega
          subst en'
          have s69 := s68.trans s9
          have at9 := s69 _ _ at6
          have hp9 : Paired (TGrid H9) gs rs6 := Paired.mapP hp6 fun v rs z => z.same s69
          have N9 : NetAt ad.Net H9 v (jnt rs6 n') := Nv.same (frsh_same _ _)
          have gJ : Good (jnt rs6 n') := jnt_good h36 fun q hq => ⟨all6 q hq, all q hq⟩
          refine ⟨by show 0 ≤ sizeLine; decide, fun rl hrl => ?_⟩
          refine ⟨_, rfl, _, _, rfl, rfl, (n' : Int) + 1, rfl, by omega, by omega, for_range (lo := 0) (n := ((n' : Int) + 1).toNat) (fun i σ H1 => L2.Same H9 H1 ∧ ∃ (c8 : Option V) (ras : List Addr), σ = [some (.ref a), some (.ref hl0), some (.int n'), some (.int cell), some .non, some (.ref nl), some v, some (.ref rl), c8] ∧ H1 rl = some (.lst (ras.map V.ref)) ∧
            Paired (RowAt (frsh H9 H1)) ras ((jnt rs6 n').take i) ∧ (∀ b ∈ ras, b ≠ rl)) ⟨same_upd hrl, _, [], rfl, upd_same, by simpa using Paired.nil, (fun b hb => by cases hb)⟩ ?_ ?_⟩
          · rintro i σ H1 hi ⟨s1, c8, ras, rfl, hl1, hp, hne⟩
            have hi' : i < n' + 1 := by omega
            refine ⟨_, rfl, .inl ⟨rfl, _, SqL.of hl1⟩, ?_⟩
            refine ⟨_, rfl, _, rfl, _, _, rfl, rfl, _, _, rfl, rfl, (n' : Int) - (0 + (i : Int)) + 1, rfl, by omega, by omega, comp_range (lo := 0) (n := ((n' : Int) - (0 + (i : Int)) + 1).toNat) (fun j ys σc H2 => H2 = H1 ∧ (∃ c0, σc = [c0, some (.int (0 + (i : Int))), some (.ref hl0)]) ∧ ys = ((jrow rs6 n' i).take j).map V.int) ⟨rfl, ⟨none, rfl⟩, by simp⟩
              (by rw [sizeLine_eq]; omega) (fun j ys σ H2 h => by rw [h.2.2, List.length_map, List.length_take]; omega) ?_ ?_⟩
            · rintro j ys σc H2 hj ⟨rfl, ⟨c0', rfl⟩, rfl⟩
              obtain ⟨rs, e1, e2, m⟩ := hand_net h36 (0 + (j : Int)) (0 + (i : Int))
              obtain ⟨gv, egv, m1, ras1, G1⟩ := Paired.getP hp9 e1
              obtain rfl := G1.ev
              have G1 := G1.same s1
              have lr := all rs m
              have on : onN (sz rs) (0 + (j : Int)) (0 + (i : Int)) := ⟨by omega, by omega, by show _ ≤ (rs.length : Int) - 1; omega⟩
              obtain ⟨a1, r1, at1, row1, v1⟩ := G1.get (all6 rs m) on
              refine ⟨_, rfl, _, rfl, _, rfl, _, _, rfl, rfl, _, _, rfl, rfl, (by show (0 : Int) < 3; decide), hl0, gs, _, V.ref m1, rfl, rfl, SqL.of (s1 _ _ at9), atI_of (hnd_in _ _).1 egv, _, rfl, m1, _, _, V.ref a1, rfl, rfl, SqL.of G1.top, at1, _, rfl, a1, _, _, _, rfl, rfl, SqL.of row1, v1, rfl, ⟨_, rfl⟩, ?_⟩
              rw [Int.zero_add, Int.zero_add] at e2
              rw [List.take_add_one, jrow_at (by omega), e2, Int.zero_add, Int.zero_add]
              simp
            · rintro ys σc H2 ⟨rfl, ⟨c0', rfl⟩, rfl⟩ p hp2
              have tk : (jrow rs6 n' i).take ((n' : Int) - (0 + (i : Int)) + 1).toNat = jrow rs6 n' i := by
                rw [List.take_of_length_le]
                rw [jrow_len]; omega
              rw [tk]
              have npl : rl ≠ p := ne_of_none hl1 hp2
              have lr : ras.length ≤ 13 := by
                rw [Paired.length hp, List.length_take, jnt_len]; omega
              refine ⟨rl, _, _, rfl, rfl, by rw [upd_ne npl]; exact hl1, by rw [List.length_map, sizeLine_eq]; omega, ?_⟩
              have s4 : L2.Same H9 (upd (upd H2 p (.lst ((jrow rs6 n' i).map V.int))) rl (.lst (ras.map V.ref ++ [.ref p]))) := fun b o e => by
                have hb : b ≠ rl := ne_of_none e hrl
                rw [upd_ne hb]
                exact same_upd hp2 _ _ (s1 _ _ e)
              have pH : H9 p = none := s1.free hp2
              refine ⟨s4, _, ras ++ [p], rfl, by rw [upd_same]; simp, ?_, fun b hb => ?_⟩
              · rw [List.take_add_one, jnt_row hi']
                refine Paired.appendP (L2.Paired.mapP (Paired.withMem hp) fun b r ⟨hb, z⟩ => ?_) (.cons ?_ .nil)
                · obtain ⟨z1, z2⟩ := of_frsh z
                  show frsh H9 _ b = _
                  rw [frsh_none z1, upd_ne (hne b hb)]
                  exact same_upd hp2 _ _ z2
                · show frsh H9 _ p = _
                  rw [frsh_none pH, upd_ne npl.symm, upd_same]
              · rcases List.mem_append.mp hb with h | h
                · exact hne b h
                · have e : b = p := by simpa using h
                  rw [e]; exact npl.symm
          · rintro σ H1 ⟨s1, c8, ras, rfl, hl1, hp, hne⟩
            rw [List.take_of_length_le (by rw [jnt_len]; omega)] at hp
            have Gm : GR H1 (.ref rl) (jnt rs6 n') rl ras := ⟨rfl, hl1, rows_same (frsh_same _ _) hp⟩
            obtain ⟨xp, xdx, xm, rfl, hxp, Gx, _⟩ := N9.same s1
            have s81 := s9.trans s1
            refine ⟨_, rfl, _, _, _, _, _, rfl, rfl, T.ty_Net _ _ _ _ hxp, kit_self, ⟨_, rfl, ?_⟩⟩
            refine ite2 (fun h => absurd h (by decide)) (fun _ => ?_)
            refine ⟨_, rfl, xp, ad.Net, xdx, _, _, rfl, hxp, T.cl_Net, T.n_Net_marks, flds_marks _ _, _, rfl, gridD (jnt rs6 n'), gridD (jnt rs6 n'), (by obtain ⟨_, _, G⟩ := Gx; exact G.has), Gm.has, dep_grid _, _, rfl, ?_⟩
            refine ite2 (fun h => absurd h ne_refl) (fun _ => ?_)
            refine ⟨_, rfl, xp, ad.Net, xdx, _, _, rfl, hxp, T.cl_Net, T.n_Net_size, flds_size _ _, _, rfl, rfl, _, rfl, ?_⟩
            have ez : (((jnt rs6 n').length : Int) - 1) = (n' : Int) := by rw [jnt_len]; omega
            refine ite2 (fun h => absurd h (by rw [ez]; simp)) (fun _ => ?_)
            have lys : ys.length = 3 := by rw [Paired.length pr]; exact h36
            refine ⟨_, rfl, nl, _, rfl, .inl (SqL.of (s81 _ _ nat8)), rfl, _, rfl, ?_⟩
            refine ite2 (fun h => absurd h (by rw [lys]; decide)) (fun _ => ?_)
            have pr1 : Paired (fun v rs => NetAt ad.Net H1 v rs) ys rs6 := Paired.mapP pr fun v rs z => z.same ((e8 ▸ q8 : L2.Same H7 H8).trans s81)
            refine ⟨_, rfl, nl, rfl, ⟨_, SqL.of (s81 _ _ nat8)⟩, comp_list (K := K) (a := nl) (xs := ys) (fun i zs σc H2 => H2 = H1 ∧ (∃ c0, σc = [c0]) ∧ Paired (TGrid H1) zs (rs6.take i)) ⟨rfl, ⟨none, rfl⟩, by simpa using Paired.nil⟩
              (by omega) (fun i ys σ H2 _ h => by rw [h.1]; exact SqL.of (s81 _ _ nat8)) (fun i ys σ H2 h => by rw [Paired.length h.2.2, List.length_take]; omega) ?_ ?_⟩
            · rintro i nv zs σc H2 hv ⟨rfl, ⟨c0', rfl⟩, pz⟩
              obtain ⟨rs, ers, yp, ydx, ym, rfl, hyp, Gy, _⟩ := Paired.getL pr1 hv
              refine ⟨_, rfl, yp, ad.Net, ydx, _, _, rfl, hyp, T.cl_Net, T.n_Net_marks, flds_marks _ _, rfl, ⟨_, rfl⟩, ?_⟩
              rw [List.take_add_one, ers]
              exact Paired.appendP pz (.cons Gy .nil)
            · rintro zs σc H2 ⟨rfl, ⟨c0', rfl⟩, pz⟩ p3 h3'
              rw [lys, ← h36, List.take_length] at pz
              have q3 := same_upd (o := .lst zs) h3'
              refine ⟨_, rfl, .lst (rs6.map gridD), .lst (rs6.map gridD), .lst (SqL.of upd_same) ((hasG pz).same q3), .lst (SqL.of (q3 _ _ (s1 _ _ at9))) ((hasG hp9).same (s1.trans q3)), dep_grids _, ?_⟩
              rw [if_neg (by decide), eqD_refl]
              exact kq _
        · refine ite2 (fun _ => ?_) (fun h => absurd (by simp) h)
          have hd8 := s68 _ _ hd
          refine ⟨_, rfl, nl, 0, rs6, rfl, NN, h36, fun _ => rfl, (fun _ _ _ ru => absurd ru nr), (fun nb => absurd one nb), fun _ _ p H9 s9 hp9 => ?_⟩
          refine ⟨_, rfl, .lst [.bl false, .bl true], .lst [.bl false, .bl true], .lst (SqL.of hp9) (.cons (.bl _) (.cons (.bl _) .nil)), .lst (SqL.of (s9 _ _ hd8)) (.cons (.bl _) (.cons (.bl _) .nil)), by simp [dep, depL], _, rfl, ?_⟩
          refine ite2 (fun _ => ?_) (fun h => absurd (by decide) h)
          refine ⟨_, rfl, nl, _, rfl, .inl (SqL.of (s9 _ _ nat8)), fun l2 h2 => ?_⟩
          have q2 := same_upd (o := .lst ys) h2
          have NN2 : NL K ad.Net (upd H9 l2 (.lst ys)) l2 rs6 := ⟨ys, SqL.of upd_same, Paired.mapP pr fun v rs z => z.same ((e8 ▸ q8 : L2.Same H7 H8).trans (s9.trans q2))⟩
          refine ⟨l2, 1, rs6, rfl, NN2, h36, (fun b => absurd b.2 nr), (fun w0 => absurd w0 (by decide)), (fun nb => absurd one nb), fun _ _ p' H10 s10 hp10 => ?_⟩
          refine ⟨_, rfl, .lst [.bl false, .bl true], .lst [.bl false, .bl true], .lst (SqL.of hp10) (.cons (.bl _) (.cons (.bl _) .nil)), .lst (SqL.of ((s9.trans (q2.trans s10)) _ _ hd8)) (.cons (.bl _) (.cons (.bl _) .nil)), by simp [dep, depL], ?_⟩
          rw [if_neg (by decide), eqD_refl]
          exact kq _
        · refine ite2 (fun _ => ?_) (fun h => absurd (by simp) h)
          have hd8 := s68 _ _ hd
          refine ⟨_, rfl, nl, 0, rs6, rfl, NN, h36, fun _ => rfl, (fun _ n' all _ => absurd (fun q hq => ?_) nb), fun _ p H9 s9 hp9 => ?_, (fun one => absurd one nb)⟩
          · have z : rs6.getD 0 [] ∈ rs6 := by
              rw [List.getD_eq_getElem?_getD, List.getElem?_eq_getElem (by omega)]
              exact List.getElem_mem _
            rw [all q hq, all _ z]
          refine ⟨_, rfl, .lst [.bl true, .bl false], .lst [.bl true, .bl false], .lst (SqL.of hp9) (.cons (.bl _) (.cons (.bl _) .nil)), .lst (SqL.of (s9 _ _ hd8)) (.cons (.bl _) (.cons (.bl _) .nil)), by simp [dep, depL], _, rfl, ?_⟩
          refine ite2 (fun _ => ?_) (fun h => absurd (by decide) h)
          refine ⟨_, rfl, nl, _, rfl, .inl (SqL.of (s9 _ _ nat8)), fun l2 h2 => ?_⟩
          have q2 := same_upd (o := .lst ys) h2
          have NN2 : NL K ad.Net (upd H9 l2 (.lst ys)) l2 rs6 := ⟨ys, SqL.of upd_same, Paired.mapP pr fun v rs z => z.same ((e8 ▸ q8 : L2.Same H7 H8).trans (s9.trans q2))⟩
          refine ⟨l2, 1, rs6, rfl, NN2, h36, (fun b => absurd b.1 nb), (fun w0 => absurd w0 (by decide)), fun _ p' H10 s10 hp10 => ?_, (fun one => absurd one nb)⟩
          refine ⟨_, rfl, .lst [.bl true, .bl false], .lst [.bl true, .bl false], .lst (SqL.of hp10) (.cons (.bl _) (.cons (.bl _) .nil)), .lst (SqL.of ((s9.trans (q2.trans s10)) _ _ hd8)) (.cons (.bl _) (.cons (.bl _) .nil)), by simp [dep, depL], ?_⟩
          rw [if_neg (by decide), eqD_refl]
          exact kq _
end
end K14
set_option Elab.async false
set_option linter.all false
set_option maxRecDepth 100000
set_option maxHeartbeats 4000000
namespace K14
open PySem PySem.Spec PyProof.Rows L2
seal L2.PE L2.PT L2.PS L2.PSs L2.PA L2.PI L2.PG L2.PGs L2.PW L2.PO L2.PIfs L2.PH
theorem all_mk {l : PySem.W.OpenLaw} {w : World} {K : PySem.W.Frag} {h : Heap} {mg : Str → Option Value} {fa : Addr} (X : K.In h) (G : h.Ns mainGlobals mg) (hfa : mg "law" = some (.ref fa))
    {A_DoorError : Addr}
    {A_BadNet : Addr}
    {A_NoPlace : Addr}
    {A_NoTriangle : Addr}
    {A_NoFloor : Addr}
    {A_NoEnd : Addr}
    {A_NotRuled : Addr}
    {A_Net : Addr}
    {fa_check_marks : Addr} {od_check_marks an_check_marks : Option Addr} {sl_check_marks : Array (Option Value)} {oc_check_marks kV_check_marks dc_check_marks pm_check_marks cd_check_marks ct_check_marks : Value}
    {fa_Net__init : Addr} {od_Net__init an_Net__init : Option Addr} {sl_Net__init : Array (Option Value)} {oc_Net__init kV_Net__init dc_Net__init pm_Net__init cd_Net__init ct_Net__init : Value}
    {fa_is_place : Addr} {od_is_place an_is_place : Option Addr} {sl_is_place : Array (Option Value)} {oc_is_place kV_is_place dc_is_place pm_is_place cd_is_place ct_is_place : Value}
    {fa_mark : Addr} {od_mark an_mark : Option Addr} {sl_mark : Array (Option Value)} {oc_mark kV_mark dc_mark pm_mark cd_mark ct_mark : Value}
    {fa_ruled : Addr} {od_ruled an_ruled : Option Addr} {sl_ruled : Array (Option Value)} {oc_ruled kV_ruled dc_ruled pm_ruled cd_ruled ct_ruled : Value}
    {fa_check_ruled : Addr} {od_check_ruled an_check_ruled : Option Addr} {sl_check_ruled : Array (Option Value)} {oc_check_ruled kV_check_ruled dc_check_ruled pm_check_ruled cd_check_ruled ct_check_ruled : Value}
    {fa_hand_of : Addr} {od_hand_of an_hand_of : Option Addr} {sl_hand_of : Array (Option Value)} {oc_hand_of kV_hand_of dc_hand_of pm_hand_of cd_hand_of ct_hand_of : Value}
    {fa_check_nets : Addr} {od_check_nets an_check_nets : Option Addr} {sl_check_nets : Array (Option Value)} {oc_check_nets kV_check_nets dc_check_nets pm_check_nets cd_check_nets ct_check_nets : Value}
    {fa_joint : Addr} {od_joint an_joint : Option Addr} {sl_joint : Array (Option Value)} {oc_joint kV_joint dc_joint pm_joint cd_joint ct_joint : Value}
    {fa_settled : Addr} {od_settled an_settled : Option Addr} {sl_settled : Array (Option Value)} {oc_settled kV_settled dc_settled pm_settled cd_settled ct_settled : Value}
    {fa_law_cell_at : Addr} {od_law_cell_at an_law_cell_at : Option Addr} {sl_law_cell_at : Array (Option Value)} {oc_law_cell_at kV_law_cell_at dc_law_cell_at pm_law_cell_at cd_law_cell_at ct_law_cell_at : Value}
    {fa_law_mix : Addr} {od_law_mix an_law_mix : Option Addr} {sl_law_mix : Array (Option Value)} {oc_law_mix kV_law_mix dc_law_mix pm_law_mix cd_law_mix ct_law_mix : Value}
    {fa_law_marks_by : Addr} {od_law_marks_by an_law_marks_by : Option Addr} {sl_law_marks_by : Array (Option Value)} {oc_law_marks_by kV_law_marks_by dc_law_marks_by pm_law_marks_by cd_law_marks_by ct_law_marks_by : Value}
    {fa_law_ruled_by : Addr} {od_law_ruled_by an_law_ruled_by : Option Addr} {sl_law_ruled_by : Array (Option Value)} {oc_law_ruled_by kV_law_ruled_by dc_law_ruled_by pm_law_ruled_by cd_law_ruled_by ct_law_ruled_by : Value}
    {fa_law_net : Addr} {od_law_net an_law_net : Option Addr} {sl_law_net : Array (Option Value)} {oc_law_net kV_law_net dc_law_net pm_law_net cd_law_net ct_law_net : Value}
    {fa_law_hand_by : Addr} {od_law_hand_by an_law_hand_by : Option Addr} {sl_law_hand_by : Array (Option Value)} {oc_law_hand_by kV_law_hand_by dc_law_hand_by pm_law_hand_by cd_law_hand_by ct_law_hand_by : Value}
    {fa_law_met : Addr} {od_law_met an_law_met : Option Addr} {sl_law_met : Array (Option Value)} {oc_law_met kV_law_met dc_law_met pm_law_met cd_law_met ct_law_met : Value}
    {fa_law : Addr} {od_law an_law : Option Addr} {sl_law : Array (Option Value)} {oc_law kV_law dc_law pm_law cd_law ct_law : Value}
    {t_SMALLEST_SIZE : Tok}
    {t_LARGEST_SIZE : Tok}
    {A_MARKS : Addr}
    {t_MARKS_0 : Tok}
    {t_MARKS_1 : Tok}
    {t_MARKS_2 : Tok}
    {d_MARKS : Option Addr} {n_MARKS : Nat} {sl_MARKS : Array (Option Value)}
    {A_FORWARD_ORDERS : Addr}
    {A_FORWARD_ORDERS_0 : Addr}
    {A_FORWARD_ORDERS_1 : Addr}
    {A_FORWARD_ORDERS_2 : Addr}
    {d_FORWARD_ORDERS : Option Addr} {n_FORWARD_ORDERS : Nat} {sl_FORWARD_ORDERS : Array (Option Value)}
    {t_FORWARD_ORDERS_0_0 : Tok}
    {t_FORWARD_ORDERS_0_1 : Tok}
    {t_FORWARD_ORDERS_0_2 : Tok}
    {d_FORWARD_ORDERS_0 : Option Addr} {n_FORWARD_ORDERS_0 : Nat} {sl_FORWARD_ORDERS_0 : Array (Option Value)}
    {t_FORWARD_ORDERS_1_0 : Tok}
    {t_FORWARD_ORDERS_1_1 : Tok}
    {t_FORWARD_ORDERS_1_2 : Tok}
    {d_FORWARD_ORDERS_1 : Option Addr} {n_FORWARD_ORDERS_1 : Nat} {sl_FORWARD_ORDERS_1 : Array (Option Value)}
    {t_FORWARD_ORDERS_2_0 : Tok}
    {t_FORWARD_ORDERS_2_1 : Tok}
    {t_FORWARD_ORDERS_2_2 : Tok}
    {d_FORWARD_ORDERS_2 : Option Addr} {n_FORWARD_ORDERS_2 : Nat} {sl_FORWARD_ORDERS_2 : Array (Option Value)}
    (a_DoorError : PySem.W.nsIn K mainGlobals "DoorError" = some (some (.ref A_DoorError)))
    (a_BadNet : PySem.W.nsIn K mainGlobals "BadNet" = some (some (.ref A_BadNet)))
    (a_NoPlace : PySem.W.nsIn K mainGlobals "NoPlace" = some (some (.ref A_NoPlace)))
    (a_NoTriangle : PySem.W.nsIn K mainGlobals "NoTriangle" = some (some (.ref A_NoTriangle)))
    (a_NoFloor : PySem.W.nsIn K mainGlobals "NoFloor" = some (some (.ref A_NoFloor)))
    (a_NoEnd : PySem.W.nsIn K mainGlobals "NoEnd" = some (some (.ref A_NoEnd)))
    (a_NotRuled : PySem.W.nsIn K mainGlobals "NotRuled" = some (some (.ref A_NotRuled)))
    (a_Net : PySem.W.nsIn K mainGlobals "Net" = some (some (.ref A_Net)))
    (a_check_marks : PySem.W.nsIn K mainGlobals "check_marks" = some (some (.ref fa_check_marks)))
    (l_check_marks : K.lookup fa_check_marks = some ⟨oc_check_marks, od_check_marks, .func (PySem.W.fnOf "check_marks" "check_marks" (defArgs s_check_marks) (defBody s_check_marks) (defScope s_check_marks) .none kV_check_marks dc_check_marks pm_check_marks an_check_marks cd_check_marks ct_check_marks), sl_check_marks⟩)
    (c_check_marks : PySem.W.codeIn K cd_check_marks "check_marks" = true)
    (k_check_marks : PySem.W.keepIn K (.ref fa_check_marks) = true)
    (a_Net__init : PySem.W.findIn K (.ref A_Net) "__init__" = some (some (.ref fa_Net__init)))
    (i_Net__init : PySem.W.isFn K (.ref fa_Net__init) = true)
    (l_Net__init : K.lookup fa_Net__init = some ⟨oc_Net__init, od_Net__init, .func (PySem.W.fnOf "__init__" "Net.__init__" (defArgs s_Net__init) (defBody s_Net__init) (defScope s_Net__init) .none kV_Net__init dc_Net__init pm_Net__init an_Net__init cd_Net__init ct_Net__init), sl_Net__init⟩)
    (c_Net__init : PySem.W.codeIn K cd_Net__init "Net.__init__" = true)
    (k_Net__init : PySem.W.keepIn K (.ref fa_Net__init) = true)
    (a_is_place : PySem.W.nsIn K mainGlobals "is_place" = some (some (.ref fa_is_place)))
    (l_is_place : K.lookup fa_is_place = some ⟨oc_is_place, od_is_place, .func (PySem.W.fnOf "is_place" "is_place" (defArgs s_is_place) (defBody s_is_place) (defScope s_is_place) .none kV_is_place dc_is_place pm_is_place an_is_place cd_is_place ct_is_place), sl_is_place⟩)
    (c_is_place : PySem.W.codeIn K cd_is_place "is_place" = true)
    (k_is_place : PySem.W.keepIn K (.ref fa_is_place) = true)
    (a_mark : PySem.W.nsIn K mainGlobals "mark" = some (some (.ref fa_mark)))
    (l_mark : K.lookup fa_mark = some ⟨oc_mark, od_mark, .func (PySem.W.fnOf "mark" "mark" (defArgs s_mark) (defBody s_mark) (defScope s_mark) .none kV_mark dc_mark pm_mark an_mark cd_mark ct_mark), sl_mark⟩)
    (c_mark : PySem.W.codeIn K cd_mark "mark" = true)
    (k_mark : PySem.W.keepIn K (.ref fa_mark) = true)
    (a_ruled : PySem.W.nsIn K mainGlobals "ruled" = some (some (.ref fa_ruled)))
    (l_ruled : K.lookup fa_ruled = some ⟨oc_ruled, od_ruled, .func (PySem.W.fnOf "ruled" "ruled" (defArgs s_ruled) (defBody s_ruled) (defScope s_ruled) .none kV_ruled dc_ruled pm_ruled an_ruled cd_ruled ct_ruled), sl_ruled⟩)
    (c_ruled : PySem.W.codeIn K cd_ruled "ruled" = true)
    (k_ruled : PySem.W.keepIn K (.ref fa_ruled) = true)
    (a_check_ruled : PySem.W.nsIn K mainGlobals "check_ruled" = some (some (.ref fa_check_ruled)))
    (l_check_ruled : K.lookup fa_check_ruled = some ⟨oc_check_ruled, od_check_ruled, .func (PySem.W.fnOf "check_ruled" "check_ruled" (defArgs s_check_ruled) (defBody s_check_ruled) (defScope s_check_ruled) .none kV_check_ruled dc_check_ruled pm_check_ruled an_check_ruled cd_check_ruled ct_check_ruled), sl_check_ruled⟩)
    (c_check_ruled : PySem.W.codeIn K cd_check_ruled "check_ruled" = true)
    (k_check_ruled : PySem.W.keepIn K (.ref fa_check_ruled) = true)
    (a_hand_of : PySem.W.nsIn K mainGlobals "hand_of" = some (some (.ref fa_hand_of)))
    (l_hand_of : K.lookup fa_hand_of = some ⟨oc_hand_of, od_hand_of, .func (PySem.W.fnOf "hand_of" "hand_of" (defArgs s_hand_of) (defBody s_hand_of) (defScope s_hand_of) .none kV_hand_of dc_hand_of pm_hand_of an_hand_of cd_hand_of ct_hand_of), sl_hand_of⟩)
    (c_hand_of : PySem.W.codeIn K cd_hand_of "hand_of" = true)
    (k_hand_of : PySem.W.keepIn K (.ref fa_hand_of) = true)
    (a_check_nets : PySem.W.nsIn K mainGlobals "check_nets" = some (some (.ref fa_check_nets)))
    (l_check_nets : K.lookup fa_check_nets = some ⟨oc_check_nets, od_check_nets, .func (PySem.W.fnOf "check_nets" "check_nets" (defArgs s_check_nets) (defBody s_check_nets) (defScope s_check_nets) .none kV_check_nets dc_check_nets pm_check_nets an_check_nets cd_check_nets ct_check_nets), sl_check_nets⟩)
    (c_check_nets : PySem.W.codeIn K cd_check_nets "check_nets" = true)
    (k_check_nets : PySem.W.keepIn K (.ref fa_check_nets) = true)
    (a_joint : PySem.W.nsIn K mainGlobals "joint" = some (some (.ref fa_joint)))
    (l_joint : K.lookup fa_joint = some ⟨oc_joint, od_joint, .func (PySem.W.fnOf "joint" "joint" (defArgs s_joint) (defBody s_joint) (defScope s_joint) .none kV_joint dc_joint pm_joint an_joint cd_joint ct_joint), sl_joint⟩)
    (c_joint : PySem.W.codeIn K cd_joint "joint" = true)
    (k_joint : PySem.W.keepIn K (.ref fa_joint) = true)
    (a_settled : PySem.W.nsIn K mainGlobals "settled" = some (some (.ref fa_settled)))
    (l_settled : K.lookup fa_settled = some ⟨oc_settled, od_settled, .func (PySem.W.fnOf "settled" "settled" (defArgs s_settled) (defBody s_settled) (defScope s_settled) .none kV_settled dc_settled pm_settled an_settled cd_settled ct_settled), sl_settled⟩)
    (c_settled : PySem.W.codeIn K cd_settled "settled" = true)
    (k_settled : PySem.W.keepIn K (.ref fa_settled) = true)
    (a_law_cell_at : PySem.W.nsIn K mainGlobals "_law_cell_at" = some (some (.ref fa_law_cell_at)))
    (l_law_cell_at : K.lookup fa_law_cell_at = some ⟨oc_law_cell_at, od_law_cell_at, .func (PySem.W.fnOf "_law_cell_at" "_law_cell_at" (defArgs s_law_cell_at) (defBody s_law_cell_at) (defScope s_law_cell_at) .none kV_law_cell_at dc_law_cell_at pm_law_cell_at an_law_cell_at cd_law_cell_at ct_law_cell_at), sl_law_cell_at⟩)
    (c_law_cell_at : PySem.W.codeIn K cd_law_cell_at "_law_cell_at" = true)
    (k_law_cell_at : PySem.W.keepIn K (.ref fa_law_cell_at) = true)
    (a_law_mix : PySem.W.nsIn K mainGlobals "_law_mix" = some (some (.ref fa_law_mix)))
    (l_law_mix : K.lookup fa_law_mix = some ⟨oc_law_mix, od_law_mix, .func (PySem.W.fnOf "_law_mix" "_law_mix" (defArgs s_law_mix) (defBody s_law_mix) (defScope s_law_mix) .none kV_law_mix dc_law_mix pm_law_mix an_law_mix cd_law_mix ct_law_mix), sl_law_mix⟩)
    (c_law_mix : PySem.W.codeIn K cd_law_mix "_law_mix" = true)
    (k_law_mix : PySem.W.keepIn K (.ref fa_law_mix) = true)
    (a_law_marks_by : PySem.W.nsIn K mainGlobals "_law_marks_by" = some (some (.ref fa_law_marks_by)))
    (l_law_marks_by : K.lookup fa_law_marks_by = some ⟨oc_law_marks_by, od_law_marks_by, .func (PySem.W.fnOf "_law_marks_by" "_law_marks_by" (defArgs s_law_marks_by) (defBody s_law_marks_by) (defScope s_law_marks_by) .none kV_law_marks_by dc_law_marks_by pm_law_marks_by an_law_marks_by cd_law_marks_by ct_law_marks_by), sl_law_marks_by⟩)
    (c_law_marks_by : PySem.W.codeIn K cd_law_marks_by "_law_marks_by" = true)
    (k_law_marks_by : PySem.W.keepIn K (.ref fa_law_marks_by) = true)
    (a_law_ruled_by : PySem.W.nsIn K mainGlobals "_law_ruled_by" = some (some (.ref fa_law_ruled_by)))
    (l_law_ruled_by : K.lookup fa_law_ruled_by = some ⟨oc_law_ruled_by, od_law_ruled_by, .func (PySem.W.fnOf "_law_ruled_by" "_law_ruled_by" (defArgs s_law_ruled_by) (defBody s_law_ruled_by) (defScope s_law_ruled_by) .none kV_law_ruled_by dc_law_ruled_by pm_law_ruled_by an_law_ruled_by cd_law_ruled_by ct_law_ruled_by), sl_law_ruled_by⟩)
    (c_law_ruled_by : PySem.W.codeIn K cd_law_ruled_by "_law_ruled_by" = true)
    (k_law_ruled_by : PySem.W.keepIn K (.ref fa_law_ruled_by) = true)
    (a_law_net : PySem.W.nsIn K mainGlobals "_law_net" = some (some (.ref fa_law_net)))
    (l_law_net : K.lookup fa_law_net = some ⟨oc_law_net, od_law_net, .func (PySem.W.fnOf "_law_net" "_law_net" (defArgs s_law_net) (defBody s_law_net) (defScope s_law_net) .none kV_law_net dc_law_net pm_law_net an_law_net cd_law_net ct_law_net), sl_law_net⟩)
    (c_law_net : PySem.W.codeIn K cd_law_net "_law_net" = true)
    (k_law_net : PySem.W.keepIn K (.ref fa_law_net) = true)
    (a_law_hand_by : PySem.W.nsIn K mainGlobals "_law_hand_by" = some (some (.ref fa_law_hand_by)))
    (l_law_hand_by : K.lookup fa_law_hand_by = some ⟨oc_law_hand_by, od_law_hand_by, .func (PySem.W.fnOf "_law_hand_by" "_law_hand_by" (defArgs s_law_hand_by) (defBody s_law_hand_by) (defScope s_law_hand_by) .none kV_law_hand_by dc_law_hand_by pm_law_hand_by an_law_hand_by cd_law_hand_by ct_law_hand_by), sl_law_hand_by⟩)
    (c_law_hand_by : PySem.W.codeIn K cd_law_hand_by "_law_hand_by" = true)
    (k_law_hand_by : PySem.W.keepIn K (.ref fa_law_hand_by) = true)
    (a_law_met : PySem.W.nsIn K mainGlobals "_law_met" = some (some (.ref fa_law_met)))
    (l_law_met : K.lookup fa_law_met = some ⟨oc_law_met, od_law_met, .func (PySem.W.fnOf "_law_met" "_law_met" (defArgs s_law_met) (defBody s_law_met) (defScope s_law_met) .none kV_law_met dc_law_met pm_law_met an_law_met cd_law_met ct_law_met), sl_law_met⟩)
    (c_law_met : PySem.W.codeIn K cd_law_met "_law_met" = true)
    (k_law_met : PySem.W.keepIn K (.ref fa_law_met) = true)
    (a_law : PySem.W.nsIn K mainGlobals "law" = some (some (.ref fa_law)))
    (l_law : K.lookup fa_law = some ⟨oc_law, od_law, .func (PySem.W.fnOf "law" "law" (defArgs s_law) (defBody s_law) (defScope s_law) .none kV_law dc_law pm_law an_law cd_law ct_law), sl_law⟩)
    (c_law : PySem.W.codeIn K cd_law "law" = true)
    (k_law : PySem.W.keepIn K (.ref fa_law) = true)
    (b_len : PySem.W.nsIn K mainGlobals "len" = some none)
    (b_range : PySem.W.nsIn K mainGlobals "range" = some none)
    (b_enumerate : PySem.W.nsIn K mainGlobals "enumerate" = some none)
    (b_list : PySem.W.nsIn K mainGlobals "list" = some none)
    (b_isinstance : PySem.W.nsIn K mainGlobals "isinstance" = some none)
    (b_bool : PySem.W.nsIn K mainGlobals "bool" = some none)
    (b_ValueError : PySem.W.nsIn K mainGlobals "ValueError" = some none)
    (a_SMALLEST_SIZE : PySem.W.nsIn K mainGlobals "SMALLEST_SIZE" = some (some (.int (1) t_SMALLEST_SIZE)))
    (a_LARGEST_SIZE : PySem.W.nsIn K mainGlobals "LARGEST_SIZE" = some (some (.int (12) t_LARGEST_SIZE)))
    (a_MARKS : PySem.W.nsIn K mainGlobals "MARKS" = some (some (.ref A_MARKS)))
    (l_MARKS : K.lookup A_MARKS = some ⟨.type "tuple", d_MARKS, .seq #[.int (0) t_MARKS_0, .int (1) t_MARKS_1, .int (2) t_MARKS_2] n_MARKS, sl_MARKS⟩)
    (a_FORWARD_ORDERS : PySem.W.nsIn K mainGlobals "FORWARD_ORDERS" = some (some (.ref A_FORWARD_ORDERS)))
    (l_FORWARD_ORDERS : K.lookup A_FORWARD_ORDERS = some ⟨.type "tuple", d_FORWARD_ORDERS, .seq #[.ref A_FORWARD_ORDERS_0, .ref A_FORWARD_ORDERS_1, .ref A_FORWARD_ORDERS_2] n_FORWARD_ORDERS, sl_FORWARD_ORDERS⟩)
    (l_FORWARD_ORDERS_0 : K.lookup A_FORWARD_ORDERS_0 = some ⟨.type "tuple", d_FORWARD_ORDERS_0, .seq #[.int (0) t_FORWARD_ORDERS_0_0, .int (1) t_FORWARD_ORDERS_0_1, .int (2) t_FORWARD_ORDERS_0_2] n_FORWARD_ORDERS_0, sl_FORWARD_ORDERS_0⟩)
    (l_FORWARD_ORDERS_1 : K.lookup A_FORWARD_ORDERS_1 = some ⟨.type "tuple", d_FORWARD_ORDERS_1, .seq #[.int (1) t_FORWARD_ORDERS_1_0, .int (2) t_FORWARD_ORDERS_1_1, .int (0) t_FORWARD_ORDERS_1_2] n_FORWARD_ORDERS_1, sl_FORWARD_ORDERS_1⟩)
    (l_FORWARD_ORDERS_2 : K.lookup A_FORWARD_ORDERS_2 = some ⟨.type "tuple", d_FORWARD_ORDERS_2, .seq #[.int (2) t_FORWARD_ORDERS_2_0, .int (0) t_FORWARD_ORDERS_2_1, .int (1) t_FORWARD_ORDERS_2_2] n_FORWARD_ORDERS_2, sl_FORWARD_ORDERS_2⟩)
    (x_DoorError : PySem.W.excIn K A_DoorError [.type "ValueError", .type "Exception", .type "BaseException", .type "object"] "ValueError.__new__" = true)
    (x_BadNet : PySem.W.excIn K A_BadNet [.type "ValueError", .type "Exception", .type "BaseException", .type "object"] "ValueError.__new__" = true)
    (x_NoPlace : PySem.W.excIn K A_NoPlace [.type "ValueError", .type "Exception", .type "BaseException", .type "object"] "ValueError.__new__" = true)
    (x_NoTriangle : PySem.W.excIn K A_NoTriangle [.type "ValueError", .type "Exception", .type "BaseException", .type "object"] "ValueError.__new__" = true)
    (x_NoFloor : PySem.W.excIn K A_NoFloor [.type "ValueError", .type "Exception", .type "BaseException", .type "object"] "ValueError.__new__" = true)
    (x_NoEnd : PySem.W.excIn K A_NoEnd [.type "ValueError", .type "Exception", .type "BaseException", .type "object"] "ValueError.__new__" = true)
    (x_NotRuled : PySem.W.excIn K A_NotRuled [.type "ValueError", .type "Exception", .type "BaseException", .type "object"] "ValueError.__new__" = true)
    (pg_Net : PySem.W.plainGet K A_Net Str.empty = true)
    (hd_Net : PySem.W.hasDictIn K A_Net = true)
    (po_Net : PySem.W.plainOver K A_Net = true)
    (sa_Net : PySem.W.findIn K (.ref A_Net) "__setattr__" = some (some (.builtin "object.__setattr__")))
    (mk_Net : PySem.W.makesIn K A_Net = true)
    (kc_Net : PySem.W.keepIn K (.ref A_Net) = true)
    (n_Net_size : PySem.W.findIn K (.ref A_Net) "size" = some none)
    (n_Net_marks : PySem.W.findIn K (.ref A_Net) "marks" = some none)
    (m_BadNet_DoorError : PySem.W.mroIn K A_BadNet (.ref A_DoorError) = some true)
    (m_NotRuled_DoorError : PySem.W.mroIn K A_NotRuled (.ref A_DoorError) = some true)
    (ega_BadNet : PySem.W.findIn K (.ref A_BadNet) "__getattribute__" = some (some (.builtin "BaseException.__getattribute__")))
    (eno_BadNet : PySem.W.findIn K (.ref A_BadNet) "__getattr__" = some none)
    (ecl_BadNet : PySem.W.findIn K (.ref A_BadNet) "__class__" = some (some (.builtin "object.__class__")))
    (eob_BadNet : PySem.W.mroIn K A_BadNet (.type "object") = some true)
    (eba_BadNet : PySem.W.mroIn K A_BadNet (.type "BaseException") = some true)
    (e_sp : PySem.W.specialIn K (.builtin "object.__class__") "__get__" = some (some (.builtin "getset_descriptor.__get__")))
    (e_tk : PySem.W.takesIn K (.builtin "object.__class__") = some true)
    (kc_BadNet : PySem.W.isClsIn K A_BadNet = true)
    (kt_BadNet : PySem.W.typeIn K (.ref A_BadNet) = some (.type "type"))
    (ega_NotRuled : PySem.W.findIn K (.ref A_NotRuled) "__getattribute__" = some (some (.builtin "BaseException.__getattribute__")))
    (eno_NotRuled : PySem.W.findIn K (.ref A_NotRuled) "__getattr__" = some none)
    (ecl_NotRuled : PySem.W.findIn K (.ref A_NotRuled) "__class__" = some (some (.builtin "object.__class__")))
    (eob_NotRuled : PySem.W.mroIn K A_NotRuled (.type "object") = some true)
    (eba_NotRuled : PySem.W.mroIn K A_NotRuled (.type "BaseException") = some true)
    (kc_NotRuled : PySem.W.isClsIn K A_NotRuled = true)
    (kt_NotRuled : PySem.W.typeIn K (.ref A_NotRuled) = some (.type "type"))
    (nc_Net : PySem.W.findIn K (.ref A_Net) "__class__" = some (some (.builtin "object.__class__")))
    (nb_Net : PySem.W.mroIn K A_Net (.type "object") = some true)
    (kn_BadNet_NotRuled : A_BadNet ≠ A_NotRuled)
    (kb_BadNet_NotRuled : PySem.W.subIn K (.ref A_BadNet) (.ref A_NotRuled) = some false)
    (kn_NotRuled_BadNet : A_NotRuled ≠ A_BadNet)
    (kb_NotRuled_BadNet : PySem.W.subIn K (.ref A_NotRuled) (.ref A_BadNet) = some false) :
    ∃ fd : FuncData, (∀ (s : Shared) (v : Value), BindsTo s fd ⟨[v], []⟩ [("script", v)]) ∧ ∀ base : Heap, K.In base → base.Ns mainGlobals mg → FnOk l.prog w K mg base (CXR l.prog w) 9 fa fd ["script"] (spLaw K) := by
  have e := hfa.symm.trans (PySem.W.mg_of X G a_law)
  cases e
  have F_check_marks := fun_mk (st := s_check_marks) l_check_marks c_check_marks k_check_marks
  have B_check_marks := F_check_marks.binds (ps := ["rows"]) fun _ _ _ _ _ _ us hl => match us, hl with | [_], _ => rfl
  have g_check_marks := PySem.W.mg_of X G a_check_marks
  have F_Net__init := fun_mk (st := s_Net__init) l_Net__init c_Net__init k_Net__init
  have B_Net__init := F_Net__init.binds (ps := ["self", "marks"]) fun _ _ _ _ _ _ us hl => match us, hl with | [_, _], _ => rfl
  have F_is_place := fun_mk (st := s_is_place) l_is_place c_is_place k_is_place
  have B_is_place := F_is_place.binds (ps := ["net", "x", "y"]) fun _ _ _ _ _ _ us hl => match us, hl with | [_, _, _], _ => rfl
  have g_is_place := PySem.W.mg_of X G a_is_place
  have F_mark := fun_mk (st := s_mark) l_mark c_mark k_mark
  have B_mark := F_mark.binds (ps := ["net", "x", "y"]) fun _ _ _ _ _ _ us hl => match us, hl with | [_, _, _], _ => rfl
  have g_mark := PySem.W.mg_of X G a_mark
  have F_ruled := fun_mk (st := s_ruled) l_ruled c_ruled k_ruled
  have B_ruled := F_ruled.binds (ps := ["net"]) fun _ _ _ _ _ _ us hl => match us, hl with | [_], _ => rfl
  have g_ruled := PySem.W.mg_of X G a_ruled
  have F_check_ruled := fun_mk (st := s_check_ruled) l_check_ruled c_check_ruled k_check_ruled
  have B_check_ruled := F_check_ruled.binds (ps := ["net"]) fun _ _ _ _ _ _ us hl => match us, hl with | [_], _ => rfl
  have g_check_ruled := PySem.W.mg_of X G a_check_ruled
  have F_hand_of := fun_mk (st := s_hand_of) l_hand_of c_hand_of k_hand_of
  have B_hand_of := F_hand_of.binds (ps := ["x", "y"]) fun _ _ _ _ _ _ us hl => match us, hl with | [_, _], _ => rfl
  have g_hand_of := PySem.W.mg_of X G a_hand_of
  have F_check_nets := fun_mk (st := s_check_nets) l_check_nets c_check_nets k_check_nets
  have B_check_nets := F_check_nets.binds (ps := ["nets"]) fun _ _ _ _ _ _ us hl => match us, hl with | [_], _ => rfl
  have g_check_nets := PySem.W.mg_of X G a_check_nets
  have F_joint := fun_mk (st := s_joint) l_joint c_joint k_joint
  have B_joint := F_joint.binds (ps := ["nets"]) fun _ _ _ _ _ _ us hl => match us, hl with | [_], _ => rfl
  have g_joint := PySem.W.mg_of X G a_joint
  have F_settled := fun_mk (st := s_settled) l_settled c_settled k_settled
  have B_settled := F_settled.binds (ps := ["nets"]) fun _ _ _ _ _ _ us hl => match us, hl with | [_], _ => rfl
  have g_settled := PySem.W.mg_of X G a_settled
  have F_law_cell_at := fun_mk (st := s_law_cell_at) l_law_cell_at c_law_cell_at k_law_cell_at
  have B_law_cell_at := F_law_cell_at.binds (ps := ["script", "k"]) fun _ _ _ _ _ _ us hl => match us, hl with | [_, _], _ => rfl
  have g_law_cell_at := PySem.W.mg_of X G a_law_cell_at
  have F_law_mix := fun_mk (st := s_law_mix) l_law_mix c_law_mix k_law_mix
  have B_law_mix := F_law_mix.binds (ps := ["cell", "k", "many"]) fun _ _ _ _ _ _ us hl => match us, hl with | [_, _, _], _ => rfl
  have g_law_mix := PySem.W.mg_of X G a_law_mix
  have F_law_marks_by := fun_mk (st := s_law_marks_by) l_law_marks_by c_law_marks_by k_law_marks_by
  have B_law_marks_by := F_law_marks_by.binds (ps := ["script", "most"]) fun _ _ _ _ _ _ us hl => match us, hl with | [_, _], _ => rfl
  have g_law_marks_by := PySem.W.mg_of X G a_law_marks_by
  have F_law_ruled_by := fun_mk (st := s_law_ruled_by) l_law_ruled_by c_law_ruled_by k_law_ruled_by
  have B_law_ruled_by := F_law_ruled_by.binds (ps := ["script", "most"]) fun _ _ _ _ _ _ us hl => match us, hl with | [_, _], _ => rfl
  have g_law_ruled_by := PySem.W.mg_of X G a_law_ruled_by
  have F_law_net := fun_mk (st := s_law_net) l_law_net c_law_net k_law_net
  have B_law_net := F_law_net.binds (ps := ["marks"]) fun _ _ _ _ _ _ us hl => match us, hl with | [_], _ => rfl
  have g_law_net := PySem.W.mg_of X G a_law_net
  have F_law_hand_by := fun_mk (st := s_law_hand_by) l_law_hand_by c_law_hand_by k_law_hand_by
  have B_law_hand_by := F_law_hand_by.binds (ps := ["script", "hand", "most"]) fun _ _ _ _ _ _ us hl => match us, hl with | [_, _, _], _ => rfl
  have g_law_hand_by := PySem.W.mg_of X G a_law_hand_by
  have F_law_met := fun_mk (st := s_law_met) l_law_met c_law_met k_law_met
  have B_law_met := F_law_met.binds (ps := ["nets", "way"]) fun _ _ _ _ _ _ us hl => match us, hl with | [_, _], _ => rfl
  have g_law_met := PySem.W.mg_of X G a_law_met
  have F_law := fun_mk (st := s_law) l_law c_law k_law
  have B_law := F_law.binds (ps := ["script"]) fun _ _ _ _ _ _ us hl => match us, hl with | [_], _ => rfl
  have g_law := PySem.W.mg_of X G a_law
  have q_MARKS : ∀ H, SqT K H A_MARKS [V.int (0), V.int (1), V.int (2)] := sqT_of l_MARKS (by show 3 ≤ sizeLine; rw [sizeLine_eq]; decide) (.cons ⟨_, rfl⟩ (.cons ⟨_, rfl⟩ (.cons ⟨_, rfl⟩ .nil)))
  have q_FORWARD_ORDERS_0 : ∀ H, SqT K H A_FORWARD_ORDERS_0 [V.int (0), V.int (1), V.int (2)] := sqT_of l_FORWARD_ORDERS_0 (by show 3 ≤ sizeLine; rw [sizeLine_eq]; decide) (.cons ⟨_, rfl⟩ (.cons ⟨_, rfl⟩ (.cons ⟨_, rfl⟩ .nil)))
  have q_FORWARD_ORDERS_1 : ∀ H, SqT K H A_FORWARD_ORDERS_1 [V.int (1), V.int (2), V.int (0)] := sqT_of l_FORWARD_ORDERS_1 (by show 3 ≤ sizeLine; rw [sizeLine_eq]; decide) (.cons ⟨_, rfl⟩ (.cons ⟨_, rfl⟩ (.cons ⟨_, rfl⟩ .nil)))
  have q_FORWARD_ORDERS_2 : ∀ H, SqT K H A_FORWARD_ORDERS_2 [V.int (2), V.int (0), V.int (1)] := sqT_of l_FORWARD_ORDERS_2 (by show 3 ≤ sizeLine; rw [sizeLine_eq]; decide) (.cons ⟨_, rfl⟩ (.cons ⟨_, rfl⟩ (.cons ⟨_, rfl⟩ .nil)))
  have q_FORWARD_ORDERS : ∀ H, SqT K H A_FORWARD_ORDERS [V.ref A_FORWARD_ORDERS_0, V.ref A_FORWARD_ORDERS_1, V.ref A_FORWARD_ORDERS_2] := sqT_of l_FORWARD_ORDERS (by show 3 ≤ sizeLine; rw [sizeLine_eq]; decide) (.cons rfl (.cons rfl (.cons rfl .nil)))
  have T : Txt K mg ⟨A_DoorError, A_BadNet, A_NoPlace, A_NoTriangle, A_NoFloor, A_NoEnd, A_NotRuled, A_Net, t_SMALLEST_SIZE, t_LARGEST_SIZE, A_MARKS, A_FORWARD_ORDERS⟩ := ⟨PySem.W.mg_none_of X G b_len, PySem.W.mg_none_of X G b_range, PySem.W.mg_none_of X G b_enumerate, PySem.W.mg_none_of X G b_list, PySem.W.mg_none_of X G b_isinstance, PySem.W.mg_none_of X G b_bool, PySem.W.mg_none_of X G b_ValueError, PySem.W.mg_of X G a_SMALLEST_SIZE, ⟨_, rfl⟩, PySem.W.mg_of X G a_LARGEST_SIZE, ⟨_, rfl⟩, PySem.W.mg_of X G a_MARKS, rfl, q_MARKS, (fun H => (.tup (q_MARKS H) (.cons (.int _) (.cons (.int _) (.cons (.int _) .nil))))), PySem.W.mg_of X G a_FORWARD_ORDERS, rfl, (fun H => (.tup (q_FORWARD_ORDERS H) (.cons (.tup (q_FORWARD_ORDERS_0 H) (.cons (.int _) (.cons (.int _) (.cons (.int _) .nil)))) (.cons (.tup (q_FORWARD_ORDERS_1 H) (.cons (.int _) (.cons (.int _) (.cons (.int _) .nil)))) (.cons (.tup (q_FORWARD_ORDERS_2 H) (.cons (.int _) (.cons (.int _) (.cons (.int _) .nil)))) .nil))))), ⟨a_DoorError, x_DoorError, PySem.W.mg_of X G a_DoorError⟩, ⟨a_BadNet, x_BadNet, PySem.W.mg_of X G a_BadNet⟩, ⟨a_NoPlace, x_NoPlace, PySem.W.mg_of X G a_NoPlace⟩, ⟨a_NoTriangle, x_NoTriangle, PySem.W.mg_of X G a_NoTriangle⟩, ⟨a_NoFloor, x_NoFloor, PySem.W.mg_of X G a_NoFloor⟩, ⟨a_NoEnd, x_NoEnd, PySem.W.mg_of X G a_NoEnd⟩, ⟨a_NotRuled, x_NotRuled, PySem.W.mg_of X G a_NotRuled⟩, PySem.W.mg_of X G a_Net, ⟨pg_Net, hd_Net, po_Net, sa_Net⟩, n_Net_size, n_Net_marks, m_BadNet_DoorError, m_NotRuled_DoorError, ⟨ega_BadNet, eno_BadNet, ecl_BadNet, e_sp, e_tk, eob_BadNet, eba_BadNet⟩, kc_BadNet, ⟨ega_NotRuled, eno_NotRuled, ecl_NotRuled, e_sp, e_tk, eob_NotRuled, eba_NotRuled⟩, kc_NotRuled, (fun H a dx fs e => .ins e ⟨pg_Net, hd_Net, po_Net, sa_Net⟩ nc_Net e_sp e_tk nb_Net), kit_self, kit_refB kn_BadNet_NotRuled kc_NotRuled kt_NotRuled kb_BadNet_NotRuled, kit_refB kn_NotRuled_BadNet kc_BadNet kt_BadNet kb_NotRuled_BadNet, kit_self⟩
  refine ⟨PySem.W.fnOf "law" "law" (defArgs s_law) (defBody s_law) (defScope s_law) .none kV_law dc_law pm_law an_law cd_law ct_law, fun s v => .of_eq rfl, fun base _ _ => ?_⟩
  have C_law_cell_at := callee_of (base := base) (ok_cell (base := base) (P := l.prog) (w := w) F_law_cell_at T ) g_law_cell_at k_law_cell_at B_law_cell_at
  have C_law_mix := callee_of (base := base) (ok_mix (base := base) (P := l.prog) (w := w) F_law_mix T ) g_law_mix k_law_mix B_law_mix
  have C_law_marks_by := callee_of (base := base) (ok_marks (base := base) (P := l.prog) (w := w) F_law_marks_by T C_law_cell_at C_law_mix) g_law_marks_by k_law_marks_by B_law_marks_by
  have C_law_ruled_by := callee_of (base := base) (ok_ruledby (base := base) (P := l.prog) (w := w) F_law_ruled_by T C_law_cell_at C_law_mix C_law_marks_by) g_law_ruled_by k_law_ruled_by B_law_ruled_by
  have C_law_hand_by := callee_of (base := base) (ok_handby (base := base) (P := l.prog) (w := w) F_law_hand_by T C_law_cell_at C_law_mix C_law_ruled_by) g_law_hand_by k_law_hand_by B_law_hand_by
  have C_check_marks := callee_of (base := base) (ok_check (base := base) (P := l.prog) (w := w) F_check_marks T ) g_check_marks k_check_marks B_check_marks
  have C_law_net := callee_of (base := base) (ok_lnet (base := base) (P := l.prog) (w := w) F_law_net T ⟨fa_Net__init, _, ⟨mk_Net, a_Net__init, i_Net__init, kc_Net⟩, ok_init (base := base) (P := l.prog) (w := w) F_Net__init T C_check_marks, PySem.W.mg_of X G a_Net, B_Net__init⟩) g_law_net k_law_net B_law_net
  have C_is_place := callee_of (base := base) (ok_place (base := base) (P := l.prog) (w := w) F_is_place T ) g_is_place k_is_place B_is_place
  have C_mark := callee_of (base := base) (ok_mark (base := base) (P := l.prog) (w := w) F_mark T C_is_place) g_mark k_mark B_mark
  have C_ruled := callee_of (base := base) (ok_ruled (base := base) (P := l.prog) (w := w) F_ruled T C_mark) g_ruled k_ruled B_ruled
  have C_check_ruled := callee_of (base := base) (ok_chkruled (base := base) (P := l.prog) (w := w) F_check_ruled T C_ruled) g_check_ruled k_check_ruled B_check_ruled
  have C_check_nets := callee_of (base := base) (ok_chknets (base := base) (P := l.prog) (w := w) F_check_nets T C_check_ruled) g_check_nets k_check_nets B_check_nets
  have C_hand_of := callee_of (base := base) (ok_hand (base := base) (P := l.prog) (w := w) F_hand_of T ) g_hand_of k_hand_of B_hand_of
  have C_joint := callee_of (base := base) (ok_joint (base := base) (P := l.prog) (w := w) F_joint T C_check_nets C_hand_of C_mark ⟨fa_Net__init, _, ⟨mk_Net, a_Net__init, i_Net__init, kc_Net⟩, ok_init (base := base) (P := l.prog) (w := w) F_Net__init T C_check_marks, PySem.W.mg_of X G a_Net, B_Net__init⟩) g_joint k_joint B_joint
  have C_settled := callee_of (base := base) (ok_settledNo (base := base) (P := l.prog) (w := w) F_settled T C_joint) g_settled k_settled B_settled
  have C_law_met := callee_of (base := base) (ok_met (base := base) (P := l.prog) (w := w) F_law_met T C_joint C_settled) g_law_met k_law_met B_law_met
  exact ok_law (base := base) (P := l.prog) (w := w) F_law T C_law_hand_by C_law_cell_at C_law_net C_law_met
theorem cxr_no {P : Program} {w : World} {H : Hp} {s : Shared} {e : Value} {s' : Shared} (h : CXR P w [] H s (fun _ _ _ => False) e s') : False := by
  obtain ⟨_, _, _, _, _, q⟩ := h
  exact q
theorem walk {l : PySem.W.OpenLaw} {q : Program} {loose : List Str} {XP : (Str → Option Value) → Heap → Prop} {YP : World → Heap → Prop} {d : DefRec} {K : Params → PySem.W.Frag} (hn : l.most = some 63) (hdf : d.params.defaults = [])
    (hY : ∀ (w : World) (h : Heap), YP w h → (K w.params).In h)
    (F : ∀ (w : World) (mg : Str → Option Value) (fa : Addr) (h : Heap), (K w.params).In h → h.Ns mainGlobals mg → mg d.name = some (.ref fa) →
      ∃ fd : FuncData, (∀ (s : Shared) (u : Value), BindsTo s fd ⟨[u], []⟩ [("script", u)]) ∧ ∀ base : Heap, (K w.params).In base → base.Ns mainGlobals mg → FnOk l.prog w (K w.params) mg base (CXR l.prog w) 9 fa fd ["script"] (spLaw (K w.params))) :
    PySem.W.WalkO q loose XP YP l.row.toRowW d [] (fun f vs => PySem.call f vs) :=
  L2.walk_of (n := 63) (k := 9) (x := "script") (CX := fun w => CXR l.prog w) (sp := fun w => spLaw (K w.params)) hn (by decide) hdf ⟨rfl, by decide, by decide⟩ hY F (fun _ _ a ns hl _ hS => ⟨a, ns, rfl, hS, fun _ => rfl⟩) fun _ _ _ _ _ z => cxr_no z
end K14
def PySem.W.Fast.tw5185186143580966 : Unit := ()
def PySem.W.Fast.tw9320841894408754074 : Unit := ()
def PySem.W.Fast.tw6333537668991666879 : Unit := ()
def PySem.W.Fast.tw18303401134503158706 : Unit := ()
def PySem.W.Fast.tw1486551597057126827 : Unit := ()
def PySem.W.Fast.tw15148183607568158800 : Unit := ()
def PySem.W.Fast.tw8390673336622188557 : Unit := ()
def PySem.W.Fast.tw5168178244090269331 : Unit := ()
def PySem.W.Fast.tw8722330625626457059 : Unit := ()
def PySem.W.Fast.tw12790943944957266204 : Unit := ()
def PySem.W.Fast.tw18192601196936608679 : Unit := ()
def PySem.W.Fast.tw4489846869935302417 : Unit := ()
def PySem.W.Fast.tw12139282531407525418 : Unit := ()
def PySem.W.Fast.tw13106518217977849781 : Unit := ()
def PySem.W.Fast.tw8982881012359262791 : Unit := ()
def PySem.W.Fast.tw17782047663046841304 : Unit := ()
def PySem.W.Fast.tw2672913327629576101 : Unit := ()
def PySem.W.Fast.tw12639075147001828925 : Unit := ()
def PySem.W.Fast.tw15583019795611507854 : Unit := ()
def PySem.W.Fast.tw17730256007764916170 : Unit := ()
def PySem.W.Fast.tw2895230154727337849 : Unit := ()
def PySem.W.Fast.tw5458273255133472994 : Unit := ()
open PySem PySem.W PyProof.Rows
set_option maxRecDepth 100000 in
set_option maxHeartbeats 0 in
theorem PySem.Challenge.cw_cornerdoors_k14_joint_nets_holds : PySem.Challenge.rw_cornerdoors_k14_joint_nets.Holds := by
  w_on; o_law; k_head; (case hw => w_witness2)
  k_fill
  refine K14.walk (l := PySem.Challenge.rw_cornerdoors_k14_joint_nets) rfl rfl (fun w h Y => PySem.W.kIn_of Y) ?F
  case F =>
    intro w mg fa h KX G hmg
    refine' K14.all_mk KX G hmg ?a_DoorError ?a_BadNet ?a_NoPlace ?a_NoTriangle ?a_NoFloor ?a_NoEnd ?a_NotRuled ?a_Net ?a_check_marks ?l_check_marks ?c_check_marks ?k_check_marks ?a_Net__init ?i_Net__init ?l_Net__init ?c_Net__init ?k_Net__init ?a_is_place ?l_is_place ?c_is_place ?k_is_place ?a_mark ?l_mark ?c_mark ?k_mark ?a_ruled ?l_ruled ?c_ruled ?k_ruled ?a_check_ruled ?l_check_ruled ?c_check_ruled ?k_check_ruled ?a_hand_of ?l_hand_of ?c_hand_of ?k_hand_of ?a_check_nets ?l_check_nets ?c_check_nets ?k_check_nets ?a_joint ?l_joint ?c_joint ?k_joint ?a_settled ?l_settled ?c_settled ?k_settled ?a_law_cell_at ?l_law_cell_at ?c_law_cell_at ?k_law_cell_at ?a_law_mix ?l_law_mix ?c_law_mix ?k_law_mix ?a_law_marks_by ?l_law_marks_by ?c_law_marks_by ?k_law_marks_by ?a_law_ruled_by ?l_law_ruled_by ?c_law_ruled_by ?k_law_ruled_by ?a_law_net ?l_law_net ?c_law_net ?k_law_net ?a_law_hand_by ?l_law_hand_by ?c_law_hand_by ?k_law_hand_by ?a_law_met ?l_law_met ?c_law_met ?k_law_met ?a_law ?l_law ?c_law ?k_law ?b_len ?b_range ?b_enumerate ?b_list ?b_isinstance ?b_bool ?b_ValueError ?a_SMALLEST_SIZE ?a_LARGEST_SIZE ?a_MARKS ?l_MARKS ?a_FORWARD_ORDERS ?l_FORWARD_ORDERS ?l_FORWARD_ORDERS_0 ?l_FORWARD_ORDERS_1 ?l_FORWARD_ORDERS_2 ?x_DoorError ?x_BadNet ?x_NoPlace ?x_NoTriangle ?x_NoFloor ?x_NoEnd ?x_NotRuled ?pg_Net ?hd_Net ?po_Net ?sa_Net ?mk_Net ?kc_Net ?n_Net_size ?n_Net_marks ?m_BadNet_DoorError ?m_NotRuled_DoorError ?ega_BadNet ?eno_BadNet ?ecl_BadNet ?eob_BadNet ?eba_BadNet ?e_sp ?e_tk ?kc_BadNet ?kt_BadNet ?ega_NotRuled ?eno_NotRuled ?ecl_NotRuled ?eob_NotRuled ?eba_NotRuled ?kc_NotRuled ?kt_NotRuled ?nc_Net ?nb_Net ?kn_BadNet_NotRuled ?kb_BadNet_NotRuled ?kn_NotRuled_BadNet ?kb_NotRuled_BadNet
    (case a_DoorError => k_is)
    (case a_BadNet => k_is)
    (case a_NoPlace => k_is)
    (case a_NoTriangle => k_is)
    (case a_NoFloor => k_is)
    (case a_NoEnd => k_is)
    (case a_NotRuled => k_is)
    (case a_Net => k_is)
    (case a_check_marks => k_is)
    (case l_check_marks => k_is)
    (case c_check_marks => k_is)
    (case k_check_marks => k_is)
    (case a_Net__init => k_is)
    (case i_Net__init => k_is)
    (case l_Net__init => k_is)
    (case c_Net__init => k_is)
    (case k_Net__init => k_is)
    (case a_is_place => k_is)
    (case l_is_place => k_is)
    (case c_is_place => k_is)
    (case k_is_place => k_is)
    (case a_mark => k_is)
    (case l_mark => k_is)
    (case c_mark => k_is)
    (case k_mark => k_is)
    (case a_ruled => k_is)
    (case l_ruled => k_is)
    (case c_ruled => k_is)
    (case k_ruled => k_is)
    (case a_check_ruled => k_is)
    (case l_check_ruled => k_is)
    (case c_check_ruled => k_is)
    (case k_check_ruled => k_is)
    (case a_hand_of => k_is)
    (case l_hand_of => k_is)
    (case c_hand_of => k_is)
    (case k_hand_of => k_is)
    (case a_check_nets => k_is)
    (case l_check_nets => k_is)
    (case c_check_nets => k_is)
    (case k_check_nets => k_is)
    (case a_joint => k_is)
    (case l_joint => k_is)
    (case c_joint => k_is)
    (case k_joint => k_is)
    (case a_settled => k_is)
    (case l_settled => k_is)
    (case c_settled => k_is)
    (case k_settled => k_is)
    (case a_law_cell_at => k_is)
    (case l_law_cell_at => k_is)
    (case c_law_cell_at => k_is)
    (case k_law_cell_at => k_is)
    (case a_law_mix => k_is)
    (case l_law_mix => k_is)
    (case c_law_mix => k_is)
    (case k_law_mix => k_is)
    (case a_law_marks_by => k_is)
    (case l_law_marks_by => k_is)
    (case c_law_marks_by => k_is)
    (case k_law_marks_by => k_is)
    (case a_law_ruled_by => k_is)
    (case l_law_ruled_by => k_is)
    (case c_law_ruled_by => k_is)
    (case k_law_ruled_by => k_is)
    (case a_law_net => k_is)
    (case l_law_net => k_is)
    (case c_law_net => k_is)
    (case k_law_net => k_is)
    (case a_law_hand_by => k_is)
    (case l_law_hand_by => k_is)
    (case c_law_hand_by => k_is)
    (case k_law_hand_by => k_is)
    (case a_law_met => k_is)
    (case l_law_met => k_is)
    (case c_law_met => k_is)
    (case k_law_met => k_is)
    (case a_law => k_is)
    (case l_law => k_is)
    (case c_law => k_is)
    (case k_law => k_is)
    (case b_len => k_is)
    (case b_range => k_is)
    (case b_enumerate => k_is)
    (case b_list => k_is)
    (case b_isinstance => k_is)
    (case b_bool => k_is)
    (case b_ValueError => k_is)
    (case a_SMALLEST_SIZE => k_is)
    (case a_LARGEST_SIZE => k_is)
    (case a_MARKS => k_is)
    (case l_MARKS => k_is)
    (case a_FORWARD_ORDERS => k_is)
    (case l_FORWARD_ORDERS => k_is)
    (case l_FORWARD_ORDERS_0 => k_is)
    (case l_FORWARD_ORDERS_1 => k_is)
    (case l_FORWARD_ORDERS_2 => k_is)
    (case x_DoorError => k_exc)
    (case x_BadNet => k_exc)
    (case x_NoPlace => k_exc)
    (case x_NoTriangle => k_exc)
    (case x_NoFloor => k_exc)
    (case x_NoEnd => k_exc)
    (case x_NotRuled => k_exc)
    (case pg_Net => k_is)
    (case hd_Net => k_is)
    (case po_Net => k_is)
    (case sa_Net => k_is)
    (case mk_Net => k_is)
    (case kc_Net => k_is)
    (case n_Net_size => k_is)
    (case n_Net_marks => k_is)
    (case m_BadNet_DoorError => k_is)
    (case m_NotRuled_DoorError => k_is)
    (case ega_BadNet => k_is)
    (case eno_BadNet => k_is)
    (case ecl_BadNet => k_is)
    (case eob_BadNet => k_is)
    (case eba_BadNet => k_is)
    (case e_sp => k_is)
    (case e_tk => k_is)
    (case kc_BadNet => k_is)
    (case kt_BadNet => k_is)
    (case ega_NotRuled => k_is)
    (case eno_NotRuled => k_is)
    (case ecl_NotRuled => k_is)
    (case eob_NotRuled => k_is)
    (case eba_NotRuled => k_is)
    (case kc_NotRuled => k_is)
    (case kt_NotRuled => k_is)
    (case nc_Net => k_is)
    (case nb_Net => k_is)
    (case kn_BadNet_NotRuled => decide)
    (case kb_BadNet_NotRuled => k_is)
    (case kn_NotRuled_BadNet => decide)
    (case kb_NotRuled_BadNet => k_is)
