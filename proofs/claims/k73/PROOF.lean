import PyProof.Rows.All
import Wide.All
import OpenK.AllK
import Wide.FinOn
import HandS.ForMost
import HandS.ForExc
import HandS.ExcOwn
import HandS.CallSlots
import HandS.IsInst
import HandS.TupAny
import HandS.TupMul
import HandS.Wide
import HandS.Deep
import HandS.Style
import HandS.Conv
import KE.DataFind
import KE.KIndexOf
import HandS.Defaults
import HandS.TryOnly
import HandS.TryMany
import HandS.MakeKw
import KE.GoesMore
import HandS.DictTup
import KE.SortData
import HandS.Zip
import HandS.ExcIs
import HandS.SetFor
import HandS.Flow
import HandS.Strs
import HandS.ExcInit
import HandS.ExcField
import HandS.ClsMeth
import HandS.DictComp
import HandS.SortInts
import HandS.NoneIn
import PySem.Challenge.RW_spentblocks_k73_records_by_own_check
set_option Elab.async false
set_option linter.all false
set_option maxRecDepth 100000
set_option maxHeartbeats 4000000
/-! Our own layer over HandS: data without addresses, a heap that is a list, functions in the place of readings. -/
namespace Sh
open PySem L2

/-- data: tuples by their items, lists and instances by their number -/
inductive D where
  | non | bl (b : Bool) | int (i : Int) | str (s : Str) | tup (xs : List D) | ref (n : Nat) | scl (xs : List D)
/-- what stands at a number: a list; a list that is only read (the script); an instance; a dict -/
inductive O where
  | lst (xs : List D) | scr (xs : List D) | ins (c : Str) (fs : List (Str × D)) | dk (kvs : List (Key × D))
abbrev Hm := List O
inductive RD where
  | ok (d : D) (h : Hm) | exc (c : Str) (fs : List (Str × D)) (h : Hm) | bad
inductive RA where
  | ok (ds : List D) (h : Hm) | exc (c : Str) (fs : List (Str × D)) (h : Hm) | bad
abbrev DS := List (Option D)
inductive RT where
  | nx (s : DS) (h : Hm) | rt (d : D) (h : Hm) | bk (s : DS) (h : Hm) | ct (s : DS) (h : Hm) | exc (c : Str) (fs : List (Str × D)) (s : DS) (h : Hm) | bad
abbrev FE := DS → Hm → RD
abbrev FA := DS → Hm → RA
abbrev FS := DS → Hm → RT
abbrev FF := List D → Hm → RD
def RD.bind (r : RD) (k : D → Hm → RD) : RD := match r with
  | .ok d h => k d h
  | .exc c fs h => .exc c fs h
  | .bad => .bad
@[simp] theorem RD.bind_ok (d : D) (h : Hm) (k : D → Hm → RD) : (RD.ok d h).bind k = k d h := rfl
@[simp] theorem RD.bind_exc (c fs) (h : Hm) (k : D → Hm → RD) : (RD.exc c fs h).bind k = .exc c fs h := rfl
@[simp] theorem RD.bind_bad (k : D → Hm → RD) : RD.bad.bind k = .bad := rfl

mutual
def D.beq : D → D → Bool
  | .non, .non => true
  | .bl a, .bl b => a == b
  | .int a, .int b => a == b
  | .str a, .str b => a == b
  | .tup a, .tup b => D.beqL a b
  | .ref a, .ref b => a == b
  | .scl a, .scl b => D.beqL a b
  | _, _ => false
def D.beqL : List D → List D → Bool
  | [], [] => true
  | a :: l, b :: r => D.beq a b && D.beqL l r
  | _, _ => false
end
mutual
theorem D.beq_eq : ∀ a b : D, D.beq a b = true → a = b
  | .non, b, h => by cases b <;> simp [D.beq] at h ⊢
  | .bl a, b, h => by cases b <;> simp [D.beq] at h ⊢; exact h
  | .int a, b, h => by cases b <;> simp [D.beq] at h ⊢; exact h
  | .str a, b, h => by cases b <;> simp [D.beq] at h ⊢; exact h
  | .tup a, b, h => by
    cases b <;> simp [D.beq] at h ⊢
    exact D.beqL_eq _ _ h
  | .ref a, b, h => by cases b <;> simp [D.beq] at h ⊢; exact h
  | .scl a, b, h => by
    cases b <;> simp [D.beq] at h ⊢
    exact D.beqL_eq _ _ h
theorem D.beqL_eq : ∀ a b : List D, D.beqL a b = true → a = b
  | [], b, h => by cases b <;> simp [D.beqL] at h ⊢
  | a :: l, b, h => by
    cases b with
    | nil => simp [D.beqL] at h
    | cons c r =>
      simp [D.beqL] at h
      rw [D.beq_eq _ _ h.1, D.beqL_eq _ _ h.2]
end
mutual
theorem D.beq_self : ∀ a : D, D.beq a a = true
  | .non => rfl
  | .bl a => by simp [D.beq]
  | .int a => by simp [D.beq]
  | .str a => by simp [D.beq]
  | .tup a => by simp [D.beq]; exact D.beqL_self a
  | .ref a => by simp [D.beq]
  | .scl a => by simp [D.beq]; exact D.beqL_self a
theorem D.beqL_self : ∀ a : List D, D.beqL a a = true
  | [] => rfl
  | a :: l => by simp [D.beqL]; exact ⟨D.beq_self a, D.beqL_self l⟩
end
theorem D.beq_iff (a b : D) : D.beq a b = true ↔ a = b := ⟨D.beq_eq a b, fun h => h ▸ D.beq_self a⟩
theorem D.beqL_iff (a b : List D) : D.beqL a b = true ↔ a = b := ⟨D.beqL_eq a b, fun h => h ▸ D.beqL_self a⟩
instance : DecidableEq D := fun a b => decidable_of_iff _ (D.beq_iff a b)

/-! ### what a value says -/
/-- a tuple that is known to have no dict of its own -/
def TupS (K : PySem.W.Frag) (H : Hp) (a : Addr) (xs : List V) : Prop :=
  (∃ o, H a = some (.frz o (.tup xs)) ∧ o.dict = none) ∨
    ∃ (o : Obj) (its : Array Value) (n : Nat), K.lookup a = some o ∧ o.cls = .type "tuple" ∧ o.dict = none ∧ o.data = .seq its n ∧ its.size ≤ sizeLine ∧ Vals xs its.toList
theorem TupS.sqT {K : PySem.W.Frag} {H : Hp} {a : Addr} {xs : List V} (h : TupS K H a xs) : SqT K H a xs := by
  rcases h with ⟨o, h, _⟩ | ⟨o, its, n, h1, h2, _, h3⟩
  · exact .inl (.inr ⟨o, h⟩)
  · exact .inr ⟨o, its, n, h1, h2, h3⟩
/-- a list that nobody changes -/
def SclS (K : PySem.W.Frag) (H : Hp) (a : Addr) (xs : List V) : Prop :=
  (∃ o, H a = some (.frz o (.lst xs))) ∨
    ∃ (o : Obj) (its : Array Value) (n : Nat), K.lookup a = some o ∧ o.cls = .type "list" ∧ o.dict = none ∧ o.data = .seq its n ∧ its.size ≤ sizeLine ∧ Vals xs its.toList
theorem SclS.sqL {K : PySem.W.Frag} {H : Hp} {a : Addr} {xs : List V} (h : SclS K H a xs) : SqL K H a xs := by
  rcases h with ⟨o, h⟩ | h
  · exact .inl (.inr ⟨o, h⟩)
  · exact .inr h
section
variable (K : PySem.W.Frag) (m : List Addr) (H : Hp)
mutual
inductive Rep : V → D → Prop
  | non : Rep .non .non
  | bl (b : Bool) : Rep (.bl b) (.bl b)
  | int (i : Int) : Rep (.int i) (.int i)
  | str (x : Str) : Rep (.str x) (.str x)
  | tup {a : Addr} {vs : List V} {ds : List D} : TupS K H a vs → RepL vs ds → Rep (.ref a) (.tup ds)
  | ref {n : Nat} {a : Addr} : m[n]? = some a → Rep (.ref a) (.ref n)
  | scl {a : Addr} {vs : List V} {ds : List D} : SclS K H a vs → RepL vs ds → Rep (.ref a) (.scl ds)
inductive RepL : List V → List D → Prop
  | nil : RepL [] []
  | cons {v : V} {d : D} {vs : List V} {ds : List D} : Rep v d → RepL vs ds → RepL (v :: vs) (d :: ds)
end
end
structure Grow (m : List Addr) (H : Hp) (m' : List Addr) (H' : Hp) : Prop where
  loc : ∀ (n : Nat) (a : Addr), m[n]? = some a → m'[n]? = some a
  frz : ∀ (a : Addr) (o : Obj) (u : HO), H a = some (.frz o u) → H' a = some (.frz o u)
theorem Grow.refl (m : List Addr) (H : Hp) : Grow m H m H := ⟨fun _ _ h => h, fun _ _ _ h => h⟩
theorem Grow.trans {m m1 m2 : List Addr} {H H1 H2 : Hp} (a : Grow m H m1 H1) (b : Grow m1 H1 m2 H2) : Grow m H m2 H2 := ⟨fun n c h => b.loc n c (a.loc n c h), fun c o u h => b.frz c o u (a.frz c o u h)⟩
section
variable {K : PySem.W.Frag} {mg : Str → Option Value} {m m' : List Addr} {H H' : Hp}
theorem Grow.tupS (g : Grow m H m' H') {a : Addr} {vs : List V} (h : TupS K H a vs) : TupS K H' a vs := by
  rcases h with ⟨o, h, e⟩ | h
  · exact .inl ⟨o, g.frz _ _ _ h, e⟩
  · exact .inr h
theorem Grow.sclS (g : Grow m H m' H') {a : Addr} {vs : List V} (h : SclS K H a vs) : SclS K H' a vs := by
  rcases h with ⟨o, h⟩ | h
  · exact .inl ⟨o, g.frz _ _ _ h⟩
  · exact .inr h
mutual
theorem Rep.grow (g : Grow m H m' H') : ∀ {v : V} {d : D}, Rep K m H v d → Rep K m' H' v d
  | _, _, .non => .non
  | _, _, .bl b => .bl b
  | _, _, .int i => .int i
  | _, _, .str x => .str x
  | _, _, .tup h r => .tup (g.tupS h) (RepL.grow g r)
  | _, _, .ref h => .ref (g.loc _ _ h)
  | _, _, .scl h r => .scl (g.sclS h) (RepL.grow g r)
theorem RepL.grow (g : Grow m H m' H') : ∀ {vs : List V} {ds : List D}, RepL K m H vs ds → RepL K m' H' vs ds
  | _, _, .nil => .nil
  | _, _, .cons h r => .cons (Rep.grow g h) (RepL.grow g r)
end
theorem RepL.length : ∀ {vs : List V} {ds : List D}, RepL K m H vs ds → vs.length = ds.length
  | _, _, .nil => rfl
  | _, _, .cons _ r => by simp [RepL.length r]
theorem RepL.get : ∀ {vs : List V} {ds : List D} {i : Nat} {d : D}, RepL K m H vs ds → ds[i]? = some d → ∃ v, vs[i]? = some v ∧ Rep K m H v d
  | _, _, _, _, .nil, e => by simp at e
  | _, _, 0, _, .cons r _, e => by simp at e; subst e; exact ⟨_, rfl, r⟩
  | _, _, i + 1, d, .cons _ t, e => by
    obtain ⟨v, h1, h2⟩ := RepL.get (i := i) (d := d) t (by simpa using e)
    exact ⟨v, by simpa using h1, h2⟩
theorem RepL.get' : ∀ {vs : List V} {ds : List D} {i : Nat} {v : V}, RepL K m H vs ds → vs[i]? = some v → ∃ d, ds[i]? = some d ∧ Rep K m H v d
  | _, _, _, _, .nil, e => by simp at e
  | _, _, 0, _, .cons r _, e => by simp at e; subst e; exact ⟨_, rfl, r⟩
  | _, _, i + 1, d, .cons _ t, e => by
    obtain ⟨v, h1, h2⟩ := RepL.get' (i := i) (v := d) t (by simpa using e)
    exact ⟨v, by simpa using h1, h2⟩
theorem RepL.app : ∀ {vs ws : List V} {ds es : List D}, RepL K m H vs ds → RepL K m H ws es → RepL K m H (vs ++ ws) (ds ++ es)
  | _, _, _, _, .nil, s => s
  | _, _, _, _, .cons r t, s => .cons r (RepL.app t s)
theorem RepL.take : ∀ {vs : List V} {ds : List D} (n : Nat), RepL K m H vs ds → RepL K m H (vs.take n) (ds.take n)
  | _, _, 0, _ => .nil
  | _, _, _ + 1, .nil => .nil
  | _, _, n + 1, .cons r t => .cons r (RepL.take n t)
theorem RepL.drop : ∀ {vs : List V} {ds : List D} (n : Nat), RepL K m H vs ds → RepL K m H (vs.drop n) (ds.drop n)
  | _, _, 0, r => r
  | _, _, _ + 1, .nil => .nil
  | _, _, n + 1, .cons _ t => RepL.drop n t
theorem RepL.set {v : V} {d : D} (r : Rep K m H v d) : ∀ {vs : List V} {ds : List D} (n : Nat), RepL K m H vs ds → RepL K m H (vs.set n v) (ds.set n d)
  | _, _, _, .nil => .nil
  | _, _, 0, .cons _ t => .cons r t
  | _, _, n + 1, .cons q t => .cons q (RepL.set r n t)
theorem RepL.reverse : ∀ {vs : List V} {ds : List D}, RepL K m H vs ds → RepL K m H vs.reverse ds.reverse
  | _, _, .nil => .nil
  | _, _, .cons r t => by rw [List.reverse_cons, List.reverse_cons]; exact (RepL.reverse t).app (.cons r .nil)
theorem RepL.eraseIdx : ∀ {vs : List V} {ds : List D} (n : Nat), RepL K m H vs ds → RepL K m H (vs.eraseIdx n) (ds.eraseIdx n)
  | _, _, _, .nil => .nil
  | _, _, 0, .cons _ t => t
  | _, _, n + 1, .cons r t => .cons r (RepL.eraseIdx n t)
theorem RepL.rep {v : V} {d : D} (r : Rep K m H v d) : ∀ n : Nat, RepL K m H (List.replicate n v) (List.replicate n d)
  | 0 => .nil
  | n + 1 => .cons r (RepL.rep r n)

theorem Rep.int_inv {v : V} {i : Int} (r : Rep K m H v (.int i)) : v = .int i := by cases r; rfl
theorem Rep.bl_inv {v : V} {b : Bool} (r : Rep K m H v (.bl b)) : v = .bl b := by cases r; rfl
theorem Rep.str_inv {v : V} {x : Str} (r : Rep K m H v (.str x)) : v = .str x := by cases r; rfl
theorem Rep.non_inv {v : V} (r : Rep K m H v .non) : v = .non := by cases r; rfl
theorem Rep.tup_inv {v : V} {ds : List D} (r : Rep K m H v (.tup ds)) : ∃ a vs, v = .ref a ∧ TupS K H a vs ∧ RepL K m H vs ds := by cases r with | tup h r => exact ⟨_, _, rfl, h, r⟩
theorem Rep.scl_inv {v : V} {ds : List D} (r : Rep K m H v (.scl ds)) : ∃ a vs, v = .ref a ∧ SclS K H a vs ∧ RepL K m H vs ds := by cases r with | scl h r => exact ⟨_, _, rfl, h, r⟩
theorem Rep.ref_inv {v : V} {n : Nat} (r : Rep K m H v (.ref n)) : ∃ a, v = .ref a ∧ m[n]? = some a := by cases r with | ref h => exact ⟨_, rfl, h⟩
end

/-! ### the heap -/
def RepF (K : PySem.W.Frag) (m : List Addr) (H : Hp) : List (Str × V) → List (Str × D) → Prop := Paired fun p q => p.1 = q.1 ∧ Rep K m H p.2 q.2
def RepK (K : PySem.W.Frag) (m : List Addr) (H : Hp) : List (Key × V) → List (Key × D) → Prop := Paired fun p q => p.1 = q.1 ∧ Rep K m H p.2 q.2
def ObjR (K : PySem.W.Frag) (mg : Str → Option Value) (m : List Addr) (H : Hp) (a : Addr) : O → Prop
  | .lst ds => ∃ vs, H a = some (.lst vs) ∧ RepL K m H vs ds
  | .scr ds => ∃ vs, Rd H a (.lst vs) ∧ RepL K m H vs ds
  | .ins c fs => ∃ C dx fv, mg c = some (.ref C) ∧ H a = some (.ins C dx fv) ∧ RepF K m H fv fs
  | .dk kvs => ∃ kv, H a = some (.dK kv) ∧ RepK K m H kv kvs
structure R (K : PySem.W.Frag) (mg : Str → Option Value) (m : List Addr) (H : Hp) (h : Hm) : Prop where
  len : m.length = h.length
  nd : m.Nodup
  ob : ∀ (n : Nat) (a : Addr) (o : O), m[n]? = some a → h[n]? = some o → ObjR K mg m H a o
def RS (K : PySem.W.Frag) (m : List Addr) (H : Hp) (σ : L2.St) (s : DS) : Prop := σ.length = s.length ∧ ∀ (i : Nat) (d : D), s[i]? = some (some d) → ∃ v, σ[i]? = some (some v) ∧ Rep K m H v d
section
variable {K : PySem.W.Frag} {mg : Str → Option Value} {m m' : List Addr} {H H' : Hp} {h h' : Hm} {a p : Addr} {n : Nat} {o : O} {u : HO} {s : DS} {σ : L2.St}
theorem RepF.grow (g : Grow m H m' H') {x : List (Str × V)} {y : List (Str × D)} (r : RepF K m H x y) : RepF K m' H' x y := Paired.mapP r fun _ _ z => ⟨z.1, z.2.grow g⟩
theorem RepK.grow (g : Grow m H m' H') {x : List (Key × V)} {y : List (Key × D)} (r : RepK K m H x y) : RepK K m' H' x y := Paired.mapP r fun _ _ z => ⟨z.1, z.2.grow g⟩
theorem ObjR.grow (g : Grow m H m' H') (e : H' a = H a) : ObjR K mg m H a o → ObjR K mg m' H' a o := by
  cases o with
  | lst ds => rintro ⟨vs, h1, h2⟩; exact ⟨vs, by rw [e]; exact h1, h2.grow g⟩
  | scr ds => rintro ⟨vs, h1, h2⟩; exact ⟨vs, by unfold Rd; rw [e]; exact h1, h2.grow g⟩
  | ins c fs => rintro ⟨C, dx, fv, h0, h1, h2⟩; exact ⟨C, dx, fv, h0, by rw [e]; exact h1, h2.grow g⟩
  | dk kvs => rintro ⟨kv, h1, h2⟩; exact ⟨kv, by rw [e]; exact h1, h2.grow g⟩
theorem ObjR.there (x : ObjR K mg m H a o) : H a ≠ none := by
  cases o with
  | lst ds => obtain ⟨vs, h1, h2⟩ := x; rw [h1]; exact fun z => by cases z
  | scr ds =>
    obtain ⟨vs, h1 | ⟨_, h1⟩, h2⟩ := x
    · rw [h1]; exact fun z => by cases z
    · rw [h1]; exact fun z => by cases z
  | ins c fs => obtain ⟨C, dx, fv, h0, h1, h2⟩ := x; rw [h1]; exact fun z => by cases z
  | dk kvs => obtain ⟨kv, h1, h2⟩ := x; rw [h1]; exact fun z => by cases z
/-- of what may be changed -/
def O.isMut : O → Bool
  | .scr _ => false
  | _ => true
theorem ObjR.nofrz (x : ObjR K mg m H a o) (hm : o.isMut = true) {ob : Obj} {u : HO} : H a ≠ some (.frz ob u) := by
  cases o with
  | lst ds => obtain ⟨vs, h1, h2⟩ := x; rw [h1]; exact fun z => by cases z
  | scr ds => cases hm
  | ins c fs => obtain ⟨C, dx, fv, h0, h1, h2⟩ := x; rw [h1]; exact fun z => by cases z
  | dk kvs => obtain ⟨kv, h1, h2⟩ := x; rw [h1]; exact fun z => by cases z
theorem R.at (r : R K mg m H h) (e : h[n]? = some o) : ∃ a, m[n]? = some a ∧ ObjR K mg m H a o := by
  have hl := (List.getElem?_eq_some_iff.mp e).1
  have hm : n < m.length := by rw [r.len]; exact hl
  exact ⟨m[n], List.getElem?_eq_getElem hm, r.ob n _ o (List.getElem?_eq_getElem hm) e⟩
theorem R.at' (r : R K mg m H h) (e : m[n]? = some a) : ∃ o, h[n]? = some o ∧ ObjR K mg m H a o := by
  have hl := (List.getElem?_eq_some_iff.mp e).1
  have hm : n < h.length := by rw [← r.len]; exact hl
  exact ⟨h[n], List.getElem?_eq_getElem hm, r.ob n _ _ e (List.getElem?_eq_getElem hm)⟩
theorem R.there (r : R K mg m H h) (e : m[n]? = some a) : H a ≠ none := by
  obtain ⟨o, _, x⟩ := r.at' e
  exact x.there
theorem Grow.new (hp : H p = none) : Grow m H m (upd H p u) := ⟨fun _ _ h => h, fun a o u h => by
  rw [upd_ne (ne_of_none h hp)]
  exact h⟩
theorem Grow.more (t : List Addr) : Grow m H (m ++ t) H := ⟨fun n a e => by rw [List.getElem?_append_left (List.getElem?_eq_some_iff.mp e).1]; exact e, fun _ _ _ h => h⟩
theorem Grow.newr (hp : H p = none) : Grow m H (m ++ [p]) (upd H p u) := (Grow.new hp).trans (Grow.more _)
/-- a new thing that is no tuple -/
theorem R.new (r : R K mg m H h) (hp : H p = none) (x : ObjR K mg (m ++ [p]) (upd H p u) p o) : R K mg (m ++ [p]) (upd H p u) (h ++ [o]) := by
  have np : p ∉ m := fun z => by
    obtain ⟨n, hn, e⟩ := List.mem_iff_getElem.mp z
    exact r.there (n := n) (a := p) (by rw [List.getElem?_eq_getElem hn, e]) hp
  refine ⟨by simp [r.len], ?_, fun n a o' e1 e2 => ?_⟩
  · rw [List.nodup_append]
    refine ⟨r.nd, by simp, fun a ha b hb => ?_⟩
    have : b = p := by simpa using hb
    subst this
    rintro rfl
    exact np ha
  · by_cases hn : n < m.length
    · rw [List.getElem?_append_left hn] at e1
      rw [List.getElem?_append_left (by rw [← r.len]; exact hn)] at e2
      have ne : a ≠ p := by
        rintro rfl
        exact r.there e1 hp
      exact (r.ob n a o' e1 e2).grow (Grow.newr hp) (upd_ne ne)
    · have hn' : ¬ n < h.length := by rw [← r.len]; exact hn
      rw [List.getElem?_append_right (by omega)] at e1 e2
      have e : n - m.length = 0 := by
        have := (List.getElem?_eq_some_iff.mp e1).1
        simp at this
        omega
      rw [e] at e1
      rw [← r.len, e] at e2
      simp at e1 e2
      subst e1 e2
      exact x
theorem R.newAt (r : R K mg m H h) : (m ++ [p])[h.length]? = some p := by
  rw [← r.len, List.getElem?_append_right (Nat.le_refl _)]
  simp
/-- a new tuple -/
theorem R.tup (r : R K mg m H h) (hp : H p = none) : R K mg m (upd H p u) h :=
  ⟨r.len, r.nd, fun n a o e1 e2 => by
    have ne : a ≠ p := by
      rintro rfl
      exact r.there e1 hp
    exact (r.ob n a o e1 e2).grow (Grow.new hp) (upd_ne ne)⟩
theorem Grow.set {o' : O} (x : ObjR K mg m H a o') (hm : o'.isMut = true) : Grow m H m (upd H a u) := ⟨fun _ _ h => h, fun b ob u h => by
  have ne : b ≠ a := by
    rintro rfl
    exact x.nofrz hm h
  rw [upd_ne ne]
  exact h⟩
/-- a thing is changed -/
theorem R.set {o' : O} (r : R K mg m H h) (e : m[n]? = some a) (e' : h[n]? = some o') (hm : o'.isMut = true) (x : ObjR K mg m (upd H a u) a o) : R K mg m (upd H a u) (h.set n o) := by
  have xo := r.ob n a o' e e'
  have hl := (List.getElem?_eq_some_iff.mp e').1
  refine ⟨by simp [r.len], r.nd, fun k b ob e1 e2 => ?_⟩
  by_cases hk : k = n
  · subst hk
    rw [e] at e1
    cases e1
    rw [List.getElem?_set_self hl] at e2
    cases e2
    exact x
  · rw [List.getElem?_set_ne (fun z => hk z.symm)] at e2
    have ne : b ≠ a := by
      rintro rfl
      obtain ⟨h1, e1'⟩ := List.getElem?_eq_some_iff.mp e1
      obtain ⟨h2, e2'⟩ := List.getElem?_eq_some_iff.mp e
      exact hk ((List.getElem_inj r.nd).mp (e1'.trans e2'.symm))
    exact (r.ob k b ob e1 e2).grow (Grow.set xo hm) (upd_ne ne)
theorem RS.grow (g : Grow m H m' H') (x : RS K m H σ s) : RS K m' H' σ s := ⟨x.1, fun i d e => by
  obtain ⟨v, h1, h2⟩ := x.2 i d e
  exact ⟨v, h1, h2.grow g⟩⟩
theorem RS.set {v : V} {d : D} (x : RS K m H σ s) (i : Nat) (r : Rep K m H v d) : RS K m H (σ.set i (some v)) (s.set i (some d)) := ⟨by simp [x.1], fun j e hj => by
  by_cases hi : j = i
  · subst hi
    have hl : j < s.length := by
      have := (List.getElem?_eq_some_iff.mp hj).1
      simpa using this
    rw [List.getElem?_set_self hl] at hj
    cases hj
    exact ⟨v, by rw [List.getElem?_set_self (by rw [x.1]; exact hl)], r⟩
  · rw [List.getElem?_set_ne (fun z => hi z.symm)] at hj
    obtain ⟨w, h1, h2⟩ := x.2 j e hj
    exact ⟨w, by rw [List.getElem?_set_ne (fun z => hi z.symm)]; exact h1, h2⟩⟩
theorem RS.clr (x : RS K m H σ s) (i : Nat) : RS K m H (σ.set i none) (s.set i none) := ⟨by simp [x.1], fun j e hj => by
  by_cases hi : j = i
  · subst hi
    have hl : j < s.length := by
      have := (List.getElem?_eq_some_iff.mp hj).1
      simpa using this
    rw [List.getElem?_set_self hl] at hj
    cases hj
  · rw [List.getElem?_set_ne (fun z => hi z.symm)] at hj
    obtain ⟨w, h1, h2⟩ := x.2 j e hj
    exact ⟨w, by rw [List.getElem?_set_ne (fun z => hi z.symm)]; exact h1, h2⟩⟩
theorem RS.start {vs : List V} {ds : List D} (N : List Str) (r : RepL K m H vs ds) : RS K m H (start N vs) (ds.map some ++ List.replicate (N.length - ds.length) none) := by
  unfold L2.start
  refine ⟨by simp [r.length], fun i d e => ?_⟩
  by_cases hi : i < ds.length
  · rw [List.getElem?_append_left (by simpa using hi), List.getElem?_map] at e
    cases q : ds[i]? with
    | none => rw [q] at e; cases e
    | some d' =>
      rw [q] at e
      cases e
      obtain ⟨v, h1, h2⟩ := r.get q
      exact ⟨v, by rw [List.getElem?_append_left (by simpa [r.length] using hi), List.getElem?_map, h1]; rfl, h2⟩
  · rw [List.getElem?_append_right (by simpa using hi), List.getElem?_replicate] at e
    split at e <;> cases e
end

/-! ### what is wanted behind a result -/
def ExcAt (K : PySem.W.Frag) (mg : Str → Option Value) (m : List Addr) (H : Hp) (cls : Value) (dx : Option Addr) (c : Str) (fs : List (Str × D)) : Prop :=
  ∃ C, mg c = some (.ref C) ∧ cls = .ref C ∧ (fs ≠ [] → ∃ a fv, dx = some a ∧ H a = some (.xd fv) ∧ RepF K m H fv fs)
section
variable (K : PySem.W.Frag) (mg : Str → Option Value)
def PostE (W : XK) (m : List Addr) (H : Hp) (r : RD) (Q : VK) : Prop := match r with
  | .ok d h' => ∀ m' H' v, Grow m H m' H' → R K mg m' H' h' → Rep K m' H' v d → Q v H'
  | .exc c fs h' => ∀ m' H' cls dx, Grow m H m' H' → R K mg m' H' h' → ExcAt K mg m' H' cls dx c fs → W cls dx H'
  | .bad => False
def PostA (W : XK) (m : List Addr) (H : Hp) (r : RA) (Q : List V → Hp → Prop) : Prop := match r with
  | .ok ds h' => ∀ m' H' vs, Grow m H m' H' → R K mg m' H' h' → RepL K m' H' vs ds → Q vs H'
  | .exc c fs h' => ∀ m' H' cls dx, Grow m H m' H' → R K mg m' H' h' → ExcAt K mg m' H' cls dx c fs → W cls dx H'
  | .bad => False
def PostT (W : XK) (m : List Addr) (H : Hp) (r : RD) (Q : Bool → Hp → Prop) : Prop := match r with
  | .ok (.bl b) h' => ∀ m' H', Grow m H m' H' → R K mg m' H' h' → Q b H'
  | .ok _ _ => False
  | .exc c fs h' => ∀ m' H' cls dx, Grow m H m' H' → R K mg m' H' h' → ExcAt K mg m' H' cls dx c fs → W cls dx H'
  | .bad => False
def PostS (W : WX) (m : List Addr) (H : Hp) (r : RT) (E : Ends) : Prop := match r with
  | .nx s' h' => ∀ m' H' σ', Grow m H m' H' → R K mg m' H' h' → RS K m' H' σ' s' → E.nx σ' H'
  | .bk s' h' => ∀ m' H' σ', Grow m H m' H' → R K mg m' H' h' → RS K m' H' σ' s' → E.bk σ' H'
  | .ct s' h' => ∀ m' H' σ', Grow m H m' H' → R K mg m' H' h' → RS K m' H' σ' s' → E.ct σ' H'
  | .rt d h' => ∀ m' H' v, Grow m H m' H' → R K mg m' H' h' → Rep K m' H' v d → E.rt v H'
  | .exc c fs s' h' => ∀ m' H' σ' cls dx, Grow m H m' H' → R K mg m' H' h' → RS K m' H' σ' s' → ExcAt K mg m' H' cls dx c fs → W cls dx σ' H'
  | .bad => False
def tS (W : WX) (f : FE) : TE := fun σ H Q => ∃ m s h, R K mg m H h ∧ RS K m H σ s ∧ PostE K mg (fun c d H' => W c d σ H') m H (f s h) Q
def tSA (W : WX) (f : FA) : TA := fun σ H Q => ∃ m s h, R K mg m H h ∧ RS K m H σ s ∧ PostA K mg (fun c d H' => W c d σ H') m H (f s h) Q
def tST (W : WX) (f : FE) : TT := fun σ H Q => ∃ m s h, R K mg m H h ∧ RS K m H σ s ∧ PostT K mg (fun c d H' => W c d σ H') m H (f s h) Q
def tSS (W : WX) (f : FS) : TS := fun E σ H => ∃ m s h, R K mg m H h ∧ RS K m H σ s ∧ PostS K mg W m H (f s h) E
end
def SE (X : Cx) (W : WX) (e : Expr) (f : FE) : Prop := PE X e (tS X.K X.mg W f)
def SA (X : Cx) (W : WX) (es : List Expr) (f : FA) : Prop := PA X es (tSA X.K X.mg W f)
def ST (X : Cx) (W : WX) (e : Expr) (f : FE) : Prop := PT X e (tST X.K X.mg W f)
def SW (X : Cx) (W : WX) (e : Expr) (f : FE) : Prop := PW X e (tST X.K X.mg W f)
def SS (X : Cx) (W : WX) (st : Stmt) (f : FS) : Prop := PS X st (tSS X.K X.mg W f)
def SSs (X : Cx) (W : WX) (st : List Stmt) (f : FS) : Prop := PSs X st (tSS X.K X.mg W f)

theorem PE.imp {X : Cx} {e : Expr} {t t' : TE} (h : PE X e t) (k : ∀ σ H Q, t' σ H Q → t σ H Q) : PE X e t' := ⟨fun pins s σ H Q I q => h.run pins s σ H Q I (k _ _ _ q)⟩
theorem PA.imp {X : Cx} {e : List Expr} {t t' : TA} (h : PA X e t) (k : ∀ σ H Q, t' σ H Q → t σ H Q) : PA X e t' := ⟨fun pos pins s σ H Q I q => h.run pos pins s σ H Q I (k _ _ _ q)⟩
theorem PT.imp {X : Cx} {e : Expr} {t t' : TT} (h : PT X e t) (k : ∀ σ H Q, t' σ H Q → t σ H Q) : PT X e t' := ⟨fun pins s σ H Q I q => h.run pins s σ H Q I (k _ _ _ q)⟩
theorem PW.imp {X : Cx} {e : Expr} {t t' : TT} (h : PW X e t) (k : ∀ σ H Q, t' σ H Q → t σ H Q) : PW X e t' := ⟨fun wh pins s σ H Q I q => h.run wh pins s σ H Q I (k _ _ _ q)⟩
theorem PS.imp {X : Cx} {e : Stmt} {t t' : TS} (h : PS X e t) (k : ∀ D σ H, t' D σ H → t D σ H) : PS X e t' := ⟨fun pins s σ H D I q => h.run pins s σ H D I (k _ _ _ q)⟩
theorem PSs.imp {X : Cx} {e : List Stmt} {t t' : TS} (h : PSs X e t) (k : ∀ D σ H, t' D σ H → t D σ H) : PSs X e t' := ⟨fun pins s σ H D I q => h.run pins s σ H D I (k _ _ _ q)⟩

section
variable {K : PySem.W.Frag} {mg : Str → Option Value} {W : XK} {WW : WX} {m m1 : List Addr} {H H1 : Hp} {r : RD}
theorem PostE.grow {Q : VK} (p : PostE K mg W m H r Q) (g : Grow m H m1 H1) : PostE K mg W m1 H1 r Q := by
  cases r with
  | ok d h => exact fun m' H' v g' => p m' H' v (g.trans g')
  | exc c fs h => exact fun m' H' cls dx g' => p m' H' cls dx (g.trans g')
  | bad => exact p
theorem PostT.grow {Q : Bool → Hp → Prop} (p : PostT K mg W m H r Q) (g : Grow m H m1 H1) : PostT K mg W m1 H1 r Q := by
  cases r with
  | ok d h => cases d <;> first | exact p | exact fun m' H' g' => p m' H' (g.trans g')
  | exc c fs h => exact fun m' H' cls dx g' => p m' H' cls dx (g.trans g')
  | bad => exact p
theorem PostA.grow {r : RA} {Q : List V → Hp → Prop} (p : PostA K mg W m H r Q) (g : Grow m H m1 H1) : PostA K mg W m1 H1 r Q := by
  cases r with
  | ok d h => exact fun m' H' v g' => p m' H' v (g.trans g')
  | exc c fs h => exact fun m' H' cls dx g' => p m' H' cls dx (g.trans g')
  | bad => exact p
theorem PostS.grow {r : RT} {E : Ends} (p : PostS K mg WW m H r E) (g : Grow m H m1 H1) : PostS K mg WW m1 H1 r E := by
  cases r with
  | nx s h => exact fun m' H' σ' g' => p m' H' σ' (g.trans g')
  | bk s h => exact fun m' H' σ' g' => p m' H' σ' (g.trans g')
  | ct s h => exact fun m' H' σ' g' => p m' H' σ' (g.trans g')
  | rt d h => exact fun m' H' v g' => p m' H' v (g.trans g')
  | exc c fs s h => exact fun m' H' σ' cls dx g' => p m' H' σ' cls dx (g.trans g')
  | bad => exact p
theorem PostE.mono {Q Q' : VK} (p : PostE K mg W m H r Q) (k : ∀ v H', Q v H' → Q' v H') : PostE K mg W m H r Q' := by
  cases r with
  | ok d h => exact fun m' H' v g' r' rep => k _ _ (p m' H' v g' r' rep)
  | exc c fs h => exact p
  | bad => exact p
theorem PostA.mono {r : RA} {Q Q' : List V → Hp → Prop} (p : PostA K mg W m H r Q) (k : ∀ v H', Q v H' → Q' v H') : PostA K mg W m H r Q' := by
  cases r with
  | ok d h => exact fun m' H' v g' r' rep => k _ _ (p m' H' v g' r' rep)
  | exc c fs h => exact p
  | bad => exact p
/-- what a value of d in the heap h, grown out of (m, H), is wanted for -/
def Got (K : PySem.W.Frag) (mg : Str → Option Value) (m : List Addr) (H : Hp) (P : List Addr → Hp → D → Hm → Prop) : VK := fun v H' => ∃ m' d h', Grow m H m' H' ∧ R K mg m' H' h' ∧ Rep K m' H' v d ∧ P m' H' d h'
theorem PostE.bind {k : D → Hm → RD} {Q : VK} (p : PostE K mg W m H (r.bind k) Q) : PostE K mg W m H r (Got K mg m H fun m' H' d h' => PostE K mg W m' H' (k d h') Q) := by
  cases r with
  | ok d h => exact fun m' H' v g' r' rep => ⟨m', d, h, g', r', rep, PostE.grow p g'⟩
  | exc c fs h => exact p
  | bad => exact p
end
end Sh

set_option Elab.async false
set_option linter.all false
set_option maxRecDepth 100000
set_option maxHeartbeats 4000000
namespace Sh
open PySem L2 PyProof.Rows
section
variable {K : PySem.W.Frag} {mg : Str → Option Value} {W : XK} {WW : WX} {m m1 : List Addr} {H H1 : Hp} {r : RD}
/-- a value as it is -/
theorem PostE.val {Q : VK} {d : D} {h : Hm} {v : V} (p : PostE K mg W m H (.ok d h) Q) (r : R K mg m H h) (x : Rep K m H v d) : Q v H := p m H v (Grow.refl _ _) r x
/-- a new tuple -/
theorem PostE.tup {Q : VK} {ds : List D} {h : Hm} {vs : List V} (p : PostE K mg W m H (.ok (.tup ds) h) Q) (r : R K mg m H h) (x : RepL K m H vs ds) : ∀ q o, H q = none → o.dict = none → Q (.ref q) (upd H q (.frz o (.tup vs))) := fun q o hq ho =>
  p m _ _ (Grow.new hq) (r.tup hq) (.tup (.inl ⟨o, upd_same, ho⟩) (x.grow (Grow.new hq)))
/-- a new list -/
theorem PostE.lst {Q : VK} {ds : List D} {h : Hm} {vs : List V} (p : PostE K mg W m H (.ok (.ref h.length) (h ++ [.lst ds])) Q) (r : R K mg m H h) (x : RepL K m H vs ds) : ∀ q, H q = none → Q (.ref q) (upd H q (.lst vs)) := fun q hq =>
  p _ _ _ (Grow.newr hq) (r.new hq ⟨vs, upd_same, x.grow (Grow.newr hq)⟩) (.ref r.newAt)
theorem PostT.toE {Q : Bool → Hp → Prop} (p : PostT K mg W m H r Q) : PostE K mg W m H r (fun v H' => ∃ k, v = .bl k ∧ Q k H') := by
  cases r with
  | ok d h =>
    cases d with
    | bl b => exact fun m' H' v g r' rep => ⟨b, rep.bl_inv, p m' H' g r'⟩
    | _ => exact False.elim p
  | exc c fs h => exact p
  | bad => exact p
theorem PostT.bind {k : D → Hm → RD} {Q : Bool → Hp → Prop} (hk : ∀ d h, (∀ b, d ≠ .bl b) → k d h = .bad) (p : PostT K mg W m H (r.bind k) Q) :
    PostT K mg W m H r (fun b H' => ∃ m' h', Grow m H m' H' ∧ R K mg m' H' h' ∧ PostT K mg W m' H' (k (.bl b) h') Q) := by
  cases r with
  | ok d h =>
    obtain ⟨b, rfl⟩ | hn : (∃ b, d = .bl b) ∨ ∀ b, d ≠ .bl b := by cases d <;> simp
    · exact fun m' H' g r' => ⟨m', h, g, r', PostT.grow p g⟩
    · have e := hk d h hn
      have p' : PostT K mg W m H (k d h) Q := p
      rw [e] at p'
      exact False.elim p'
  | exc c fs h => exact p
  | bad => exact p
theorem PostT.bindE {k : D → Hm → RD} {Q : Bool → Hp → Prop} (p : PostT K mg W m H (r.bind k) Q) : PostE K mg W m H r (Got K mg m H fun m' H' d h' => PostT K mg W m' H' (k d h') Q) := by
  cases r with
  | ok d h => exact fun m' H' v g' r' rep => ⟨m', d, h, g', r', rep, PostT.grow p g'⟩
  | exc c fs h => exact p
  | bad => exact p
end

/-! ### names, constants -/
def eVar (i : Nat) : FE := fun s h => match s[i]? with
  | some (some d) => .ok d h
  | _ => .bad
def eC (d : D) : FE := fun _ h => .ok d h
section
variable {X : Cx} {W : WX} {e a b c : Expr} {f fa fb fc : FE} {pos : Pos}
theorem se_var (i : Nat) {x : Str} (hN : X.N[i]? = some x := by rfl) (hv : Vis X.env.scope x := by first | exact Or.inl rfl | exact Or.inr (Or.inl rfl) | exact Or.inr (Or.inr rfl)) (hd : (x == ("__debug__" : Str)) = false := by decide)
    (hcd : (x == ("__classdict__" : Str)) = false := by decide) : SE X W (.Name x pos) (eVar i) := by
  refine PE.imp (pe_var hN hv hd hcd) fun σ H Q h => ?_
  obtain ⟨m, s, h, r, rs, p⟩ := h
  unfold eVar at p
  split at p
  · rename_i d hd
    obtain ⟨v, h1, h2⟩ := rs.2 i d hd
    exact ⟨v, h1, p.val r h2⟩
  · exact False.elim p
theorem se_int {i j} : SE X W (.Constant (.int i) j pos) (eC (.int i)) := PE.imp pe_int fun σ H Q ⟨m, s, h, r, rs, p⟩ => p.val r (.int i)
theorem se_bl {i j} : SE X W (.Constant (.bool i) j pos) (eC (.bl i)) := PE.imp pe_bl fun σ H Q ⟨m, s, h, r, rs, p⟩ => p.val r (.bl i)
theorem se_non {j} : SE X W (.Constant .none j pos) (eC .non) := PE.imp pe_non fun σ H Q ⟨m, s, h, r, rs, p⟩ => p.val r .non
theorem se_str {x j} : SE X W (.Constant (.str x) j pos) (eC (.str x)) := PE.imp pe_str fun σ H Q ⟨m, s, h, r, rs, p⟩ => p.val r (.str x)
/-- an int of the module's top -/
theorem se_gint {x : Str} {i : Int} {t : Tok} (hg : Gl X x) (hm : X.mg x = some (.int i t)) (hd : (x == ("__debug__" : Str)) = false := by decide) : SE X W (.Name x pos) (eC (.int i)) :=
  PE.imp (pe_glob (v := .int i) hg hm ⟨_, rfl⟩ hd) fun σ H Q ⟨m, s, h, r, rs, p⟩ => p.val r (.int i)

/-! ### two-place operations -/
def eBin (fop : D → D → Hm → RD) (fa fb : FE) : FE := fun s h => (fa s h).bind fun x h1 => (fb s h1).bind fun y h2 => fop x y h2
/-- the operation by values bears the one by data -/
def OpS (X : Cx) (r : R2) (fop : D → D → Hm → RD) : Prop := ∀ (W : XK) (m : List Addr) (H : Hp) (h : Hm) (x y : V) (dx dy : D) (Q : VK),
  R X.K X.mg m H h → Rep X.K m H x dx → Rep X.K m H y dy → PostE X.K X.mg W m H (fop dx dy h) Q → r x y H Q
theorem bin_ok {r : R2} {fop : D → D → Hm → RD} (hop : OpS X r fop) {σ : L2.St} {H : Hp} {Q : VK} (h : tS X.K X.mg W (eBin fop fa fb) σ H Q) : tOp r (tS X.K X.mg W fa) (tS X.K X.mg W fb) σ H Q := by
  obtain ⟨m, s, h, R0, rs, p⟩ := h
  refine ⟨m, s, h, R0, rs, PostE.mono (PostE.bind p) ?_⟩
  rintro x H1 ⟨m1, dx, h1, g1, R1, rx, p1⟩
  refine ⟨m1, s, h1, R1, rs.grow g1, PostE.mono (PostE.bind p1) ?_⟩
  rintro y H2 ⟨m2, dy, h2, g2, R2, ry, p2⟩
  exact hop _ m2 H2 h2 x y dx dy Q R2 (rx.grow g2) ry p2
theorem se_op {op : Operator} {r : R2} {fop : D → D → Hm → RD} (ho : OpR X (binaryOp op) r) (hop : OpS X r fop) (ha : SE X W a fa) (hb : SE X W b fb) : SE X W (.BinOp a op b pos) (eBin fop fa fb) :=
  PE.imp (pe_op ho ha hb) fun σ H Q h => bin_ok hop h
theorem se_cmp {op : CmpOp} {r : R2} {fop : D → D → Hm → RD} (ho : OpR X (compareOp op) r) (hop : OpS X r fop) (ha : SE X W a fa) (hb : SE X W b fb) (hm : behindInMarks op b = false) : SE X W (.Compare a [op] [b] pos) (eBin fop fa fb) :=
  PE.imp (pe_cmpR ho ha hb hm) fun σ H Q h => bin_ok hop h
theorem tST_E {f : FE} {σ : L2.St} {H : Hp} {Q : Bool → Hp → Prop} (h : tST X.K X.mg W f σ H Q) : tS X.K X.mg W f σ H (fun v H' => ∃ k, v = .bl k ∧ Q k H') := by
  obtain ⟨m, s, h, R0, rs, p⟩ := h
  exact ⟨m, s, h, R0, rs, p.toE⟩
theorem st_cmp {op : CmpOp} {r : R2} {fop : D → D → Hm → RD} (ho : OpR X (compareOp op) r) (hop : OpS X r fop) (ha : SE X W a fa) (hb : SE X W b fb) (hm : behindInMarks op b = false) : ST X W (.Compare a [op] [b] pos) (eBin fop fa fb) :=
  PT.imp (pt_cmpR ho ha hb hm) fun σ H Q h => bin_ok hop (tST_E h)
/-- a value that is a truth value, as a test -/
theorem st_val (he : SE X W e f) (hw : ∀ whole, isTrue e X.env whole = (do let v ← whole; standAt e.pos; holding [v] (truthy v)) := by intro _; rfl) : ST X W e f :=
  PT.imp (pt_val he hw) fun σ H Q h => tST_E h
theorem SW.st (h : SW X W e f) : ST X W e f := PW.pt h

def IxS := 1
/-! ### and, or, not, if -/
def eAnd (fa fb : FE) : FE := fun s h => (fa s h).bind fun d h1 => match d with
  | .bl true => fb s h1
  | .bl false => .ok (.bl false) h1
  | _ => .bad
def eOr (fa fb : FE) : FE := fun s h => (fa s h).bind fun d h1 => match d with
  | .bl true => .ok (.bl true) h1
  | .bl false => fb s h1
  | _ => .bad
def eNot (fa : FE) : FE := fun s h => (fa s h).bind fun d h1 => match d with
  | .bl b => .ok (.bl (!b)) h1
  | _ => .bad
def eIf (fc fa fb : FE) : FE := fun s h => (fc s h).bind fun d h1 => match d with
  | .bl true => fa s h1
  | .bl false => fb s h1
  | _ => .bad
variable {rest : List Expr}
theorem sw_and1 (ha : ST X W a fa) : SW X W (.BoolOp .And [a] pos) fa := pw_and1 ha
theorem sw_or1 (ha : ST X W a fa) : SW X W (.BoolOp .Or [a] pos) fa := pw_or1 ha
theorem sw_and (ha : ST X W a fa) (hb : SW X W (.BoolOp .And (b :: rest) pos) fb) : SW X W (.BoolOp .And (a :: b :: rest) pos) (eAnd fa fb) := by
  refine PW.imp (pw_and ha hb) fun σ H Q h => ?_
  obtain ⟨m, s, h, R0, rs, p⟩ := h
  refine ⟨m, s, h, R0, rs, ?_⟩
  have p' := PostT.bind (fun d h hd => by cases d <;> first | rfl | exact absurd rfl (hd _)) p
  generalize fa s h = r at p'
  cases r with
  | ok d h1 =>
    cases d with
    | bl c =>
      intro m' H' g r'
      obtain ⟨m2, h2, g2, r2, p2⟩ := p' m' H' g r'
      cases c with
      | true => exact iteT ⟨m2, s, h2, r2, rs.grow g2, p2⟩
      | false => exact iteF (p2 m2 H' (Grow.refl _ _) r2)
    | _ => exact p'
  | exc c fs h1 => exact p'
  | bad => exact p'
theorem sw_or (ha : ST X W a fa) (hb : SW X W (.BoolOp .Or (b :: rest) pos) fb) : SW X W (.BoolOp .Or (a :: b :: rest) pos) (eOr fa fb) := by
  refine PW.imp (pw_or ha hb) fun σ H Q h => ?_
  obtain ⟨m, s, h, R0, rs, p⟩ := h
  refine ⟨m, s, h, R0, rs, ?_⟩
  have p' := PostT.bind (fun d h hd => by cases d <;> first | rfl | exact absurd rfl (hd _)) p
  generalize fa s h = r at p'
  cases r with
  | ok d h1 =>
    cases d with
    | bl c =>
      intro m' H' g r'
      obtain ⟨m2, h2, g2, r2, p2⟩ := p' m' H' g r'
      cases c with
      | false => exact iteF ⟨m2, s, h2, r2, rs.grow g2, p2⟩
      | true => exact iteT (p2 m2 H' (Grow.refl _ _) r2)
    | _ => exact p'
  | exc c fs h1 => exact p'
  | bad => exact p'
theorem st_not (ha : ST X W a fa) : ST X W (.UnaryOp .Not a pos) (eNot fa) := by
  refine PT.imp (pt_not ha) fun σ H Q h => ?_
  obtain ⟨m, s, h, R0, rs, p⟩ := h
  refine ⟨m, s, h, R0, rs, ?_⟩
  have p' := PostT.bind (fun d h hd => by cases d <;> first | rfl | exact absurd rfl (hd _)) p
  generalize fa s h = r at p'
  cases r with
  | ok d h1 =>
    cases d with
    | bl c =>
      intro m' H' g r'
      obtain ⟨m2, h2, g2, r2, p2⟩ := p' m' H' g r'
      exact p2 m2 H' (Grow.refl _ _) r2
    | _ => exact p'
  | exc c fs h1 => exact p'
  | bad => exact p'
theorem se_one {op} (h : SE X W a fa) : SE X W (.BoolOp op [a] pos) fa := pe_one h
theorem se_and (ha : SE X W a fa) (hb : SE X W (.BoolOp .And (b :: rest) pos) fb) : SE X W (.BoolOp .And (a :: b :: rest) pos) (eAnd fa fb) := by
  refine PE.imp (pe_and ha hb) fun σ H Q h => ?_
  obtain ⟨m, s, h, R0, rs, p⟩ := h
  refine ⟨m, s, h, R0, rs, PostE.mono (PostE.bind p) ?_⟩
  rintro x H1 ⟨m1, dx, h1, g1, R1, rx, p1⟩
  cases dx with
  | bl c =>
    refine ⟨c, rx.bl_inv, ?_⟩
    cases c with
    | true => exact iteT ⟨m1, s, h1, R1, rs.grow g1, p1⟩
    | false => exact iteF (p1.val R1 (.bl false))
  | _ => exact False.elim p1
theorem se_or (ha : SE X W a fa) (hb : SE X W (.BoolOp .Or (b :: rest) pos) fb) : SE X W (.BoolOp .Or (a :: b :: rest) pos) (eOr fa fb) := by
  refine PE.imp (pe_or ha hb) fun σ H Q h => ?_
  obtain ⟨m, s, h, R0, rs, p⟩ := h
  refine ⟨m, s, h, R0, rs, PostE.mono (PostE.bind p) ?_⟩
  rintro x H1 ⟨m1, dx, h1, g1, R1, rx, p1⟩
  cases dx with
  | bl c =>
    refine ⟨c, rx.bl_inv, ?_⟩
    cases c with
    | false => exact iteF ⟨m1, s, h1, R1, rs.grow g1, p1⟩
    | true => exact iteT (p1.val R1 (.bl true))
  | _ => exact False.elim p1
theorem se_not (ha : SE X W a fa) : SE X W (.UnaryOp .Not a pos) (eNot fa) := by
  refine PE.imp (pe_not ha) fun σ H Q h => ?_
  obtain ⟨m, s, h, R0, rs, p⟩ := h
  refine ⟨m, s, h, R0, rs, PostE.mono (PostE.bind p) ?_⟩
  rintro x H1 ⟨m1, dx, h1, g1, R1, rx, p1⟩
  cases dx with
  | bl c => exact ⟨c, rx.bl_inv, p1.val R1 (.bl _)⟩
  | _ => exact False.elim p1
theorem se_if (hc : ST X W c fc) (ha : SE X W a fa) (hb : SE X W b fb) : SE X W (.IfExp c a b pos) (eIf fc fa fb) := by
  refine PE.imp (pe_ifExp hc ha hb) fun σ H Q h => ?_
  obtain ⟨m, s, h, R0, rs, p⟩ := h
  refine ⟨m, s, h, R0, rs, ?_⟩
  unfold eIf at p
  generalize fc s h = r at p
  cases r with
  | ok d h1 =>
    cases d with
    | bl c =>
      intro m' H' g r'
      cases c with
      | true => exact iteT ⟨m', s, h1, r', rs.grow g, PostE.grow p g⟩
      | false => exact iteF ⟨m', s, h1, r', rs.grow g, PostE.grow p g⟩
    | _ => exact p
  | exc c fs h1 => exact p
  | bad => exact p
/-- a op1 b op2 c -/
def eChain (f1 f2 : D → D → Hm → RD) (fa fb fc : FE) : FE := fun s h => (fa s h).bind fun x h1 => (fb s h1).bind fun y h2 => (f1 x y h2).bind fun d h3 => match d with
  | .bl true => (fc s h3).bind fun z h4 => f2 y z h4
  | .bl false => .ok (.bl false) h3
  | _ => .bad
theorem chain_ok {r r' : R2} {f1 f2 : D → D → Hm → RD} (h1 : OpS X r f1) (h2 : OpS X r' f2) {σ : L2.St} {H : Hp} {Q : VK} (h : tS X.K X.mg W (eChain f1 f2 fa fb fc) σ H Q) :
    tChain r r' (tS X.K X.mg W fa) (tS X.K X.mg W fb) (tS X.K X.mg W fc) σ H Q := by
  obtain ⟨m, s, h, R0, rs, p⟩ := h
  refine ⟨m, s, h, R0, rs, PostE.mono (PostE.bind p) ?_⟩
  rintro x H1 ⟨m1, dx, h1', g1, R1, rx, p1⟩
  refine ⟨m1, s, h1', R1, rs.grow g1, PostE.mono (PostE.bind p1) ?_⟩
  rintro y H2 ⟨m2, dy, h2', g2, R2, ry, p2⟩
  refine h1 _ m2 H2 h2' x y dx dy _ R2 (rx.grow g2) ry (PostE.mono (PostE.bind p2) ?_)
  rintro z H3 ⟨m3, dz, h3, g3, R3, rz, p3⟩
  cases dz with
  | bl k =>
    refine ⟨k, rz.bl_inv, ?_⟩
    cases k with
    | true =>
      refine iteT ⟨m3, s, h3, R3, rs.grow (g1.trans (g2.trans g3)), PostE.mono (PostE.bind p3) ?_⟩
      rintro z H4 ⟨m4, dz, h4, g4, R4, rz, p4⟩
      exact h2 _ m4 H4 h4 y z dy dz Q R4 (ry.grow (g3.trans g4)) rz p4
    | false => exact iteF (p3.val R3 (.bl false))
  | _ => exact False.elim p3
theorem se_chain {op op' : CmpOp} {r r' : R2} {f1 f2 : D → D → Hm → RD} (ho : OpR X (compareOp op) r) (ho' : OpR X (compareOp op') r') (h1 : OpS X r f1) (h2 : OpS X r' f2) (ha : SE X W a fa) (hb : SE X W b fb) (hc : SE X W c fc)
    (hm : lastMarks [op, op'] [b, c] = false := by with_unfolding_all rfl) : SE X W (.Compare a [op, op'] [b, c] pos) (eChain f1 f2 fa fb fc) :=
  PE.imp (pe_chain ho ho' ha hb hc hm) fun σ H Q h => chain_ok h1 h2 h
theorem st_chain {op op' : CmpOp} {r r' : R2} {f1 f2 : D → D → Hm → RD} (ho : OpR X (compareOp op) r) (ho' : OpR X (compareOp op') r') (h1 : OpS X r f1) (h2 : OpS X r' f2) (ha : SE X W a fa) (hb : SE X W b fb) (hc : SE X W c fc)
    (hm : lastMarks [op, op'] [b, c] = false := by with_unfolding_all rfl) : ST X W (.Compare a [op, op'] [b, c] pos) (eChain f1 f2 fa fb fc) :=
  PT.imp (pt_chain ho ho' ha hb hc hm) fun σ H Q h => chain_ok h1 h2 (tST_E h)

/-! ### argument lists, displays -/
def evalL : List FE → FA
  | [], _, h => .ok [] h
  | f :: fs, s, h => match f s h with
    | .ok d h1 => (match evalL fs s h1 with
      | .ok ds h2 => .ok (d :: ds) h2
      | r => r)
    | .exc c x h1 => .exc c x h1
    | .bad => .bad
variable {es : List Expr} {fs : List FE}
theorem evalL_length : ∀ {fs : List FE} {s : DS} {h h' : Hm} {ds : List D}, evalL fs s h = .ok ds h' → ds.length = fs.length
  | [], s, h, h', ds, e => by
    unfold evalL at e
    cases e
    rfl
  | f :: fs, s, h, h', ds, e => by
    unfold evalL at e
    split at e
    · split at e
      · rename_i q
        cases e
        simp [evalL_length q]
      · rename_i hne
        exact absurd e (hne _ _)
    · cases e
    · cases e
theorem sa_nil : SA X W [] (evalL []) := PA.imp pa_nil fun σ H Q ⟨m, s, h, r, rs, p⟩ => p m H [] (Grow.refl _ _) r .nil
theorem sa_cons (ha : SE X W e f) (hr : SA X W es (evalL fs)) (hs : starEach (e :: es) X.env = (false, eval e X.env) :: starEach es X.env := by rfl) : SA X W (e :: es) (evalL (f :: fs)) := by
  refine PA.imp (pa_cons ha hr hs) fun σ H Q h => ?_
  obtain ⟨m, s, h, R0, rs, p⟩ := h
  refine ⟨m, s, h, R0, rs, ?_⟩
  unfold evalL at p
  generalize f s h = r at p
  cases r with
  | ok d h1 =>
    intro m1 H1 v g1 R1 rv
    refine ⟨m1, s, h1, R1, rs.grow g1, ?_⟩
    replace p := PostA.grow p g1
    dsimp only at p
    generalize evalL fs s h1 = r2 at p
    cases r2 with
    | ok ds h2 => exact fun m2 H2 vs g2 R2 rvs => p m2 H2 (v :: vs) g2 R2 (.cons (rv.grow g2) rvs)
    | exc c fs h1 => exact p
    | bad => exact p
  | exc c fs h1 => exact p
  | bad => exact p
def eArgs (g : List D → Hm → RD) (fs : List FE) : FE := fun s h => match evalL fs s h with
  | .ok ds h1 => g ds h1
  | .exc c x h1 => .exc c x h1
  | .bad => .bad
/-- what follows an argument list -/
theorem args_ok {g : List D → Hm → RD} {r : List V → Hp → VK → Prop} {σ : L2.St} {H : Hp} {Q : VK}
    (k : ∀ m1 H1 vs ds h1 s h, R X.K X.mg m1 H1 h1 → RepL X.K m1 H1 vs ds → evalL fs s h = .ok ds h1 → PostE X.K X.mg (fun c d H' => W c d σ H') m1 H1 (g ds h1) Q → r vs H1 Q)
    (h : tS X.K X.mg W (eArgs g fs) σ H Q) : tSA X.K X.mg W (evalL fs) σ H fun vs H1 => r vs H1 Q := by
  obtain ⟨m, s, h, R0, rs, p⟩ := h
  refine ⟨m, s, h, R0, rs, ?_⟩
  unfold eArgs at p
  generalize q : evalL fs s h = r at p
  cases r with
  | ok ds h1 => exact fun m1 H1 vs g1 R1 rvs => k m1 H1 vs ds h1 s h R1 rvs q (PostE.grow p g1)
  | exc c fs h1 => exact p
  | bad => exact p
theorem args_ok' {g : List D → Hm → RD} {r : List V → Hp → VK → Prop} {σ : L2.St} {H : Hp} {Q : VK} {m : List Addr} {s : DS} {h : Hm} (R0 : R X.K X.mg m H h) (rs : RS X.K m H σ s) (p : PostE X.K X.mg (fun c d H' => W c d σ H') m H (eArgs g fs s h) Q)
    (k : ∀ m1 H1 vs ds h1, Grow m H m1 H1 → R X.K X.mg m1 H1 h1 → RepL X.K m1 H1 vs ds → evalL fs s h = .ok ds h1 → PostE X.K X.mg (fun c d H' => W c d σ H') m1 H1 (g ds h1) Q → r vs H1 Q) : tSA X.K X.mg W (evalL fs) σ H fun vs H1 => r vs H1 Q := by
  refine ⟨m, s, h, R0, rs, ?_⟩
  unfold eArgs at p
  generalize q : evalL fs s h = r at p
  cases r with
  | ok ds h1 => exact fun m1 H1 vs g1 R1 rvs => k m1 H1 vs ds h1 g1 R1 rvs q (PostE.grow p g1)
  | exc c fs h1 => exact p
  | bad => exact p
def eTup (fs : List FE) : FE := eArgs (fun ds h => .ok (.tup ds) h) fs
def eLst (fs : List FE) : FE := eArgs (fun ds h => .ok (.ref h.length) (h ++ [.lst ds])) fs
/-- (a, b, ..): the new tuple's object is known -/
def tTupF (t : TA) : TE := fun σ H Q => t σ H fun xs H1 => xs.length ≤ sizeLine ∧ ∀ p o, H1 p = none → o.dict = none → Q (.ref p) (upd H1 p (.frz o (.tup xs)))
theorem pe_tupF {t : TA} {x1} (h : PA X es t) : PE X (.Tuple es x1 pos) (tTupF t) := by
  refine ⟨fun pins s σ H Q I hq => ?_⟩
  refine wpAny_Tuple_spliced (thn (h.run pos pins s σ H _ I hq) fun us s1 ⟨xs, H1, I1, r, z, q⟩ => ⟨by rw [← r.length]; exact z, ?_⟩)
  have hf : H1 s1.heap.objs.size = none := I1.hok.fresh (Nat.le_refl _)
  refine ⟨.ref s1.heap.objs.size, upd H1 s1.heap.objs.size (.frz { cls := .type "tuple", data := .seq us.toArray } (.tup xs)), I1.laid (t' := s1.toks) (fun b u e => Heap.get?_push_of_some _ e) (Nat.le_refl _) ?_, rfl, q _ { cls := .type "tuple", data := .seq us.toArray } hf rfl⟩
  exact ⟨Heap.get?_push_size _ rfl, z, us, r, ⟨_, Heap.get?_push_size _ rfl, rfl, _, rfl⟩⟩
theorem se_tup {x1} (h : SA X W es (evalL fs)) (hl : decide (fs.length ≤ 1000) = true := by rfl) : SE X W (.Tuple es x1 pos) (eTup fs) := by
  refine PE.imp (pe_tupF h) fun σ H Q h => ?_
  refine args_ok (r := fun xs H1 Q => xs.length ≤ sizeLine ∧ ∀ p o, H1 p = none → o.dict = none → Q (.ref p) (upd H1 p (.frz o (.tup xs)))) (fun m1 H1 vs ds h1 s h0 R1 rvs e p => ⟨?_, PostE.tup p R1 rvs⟩) h
  rw [rvs.length, evalL_length e, sizeLine_eq]
  exact Nat.le_trans (of_decide_eq_true hl) (by decide)
theorem se_lst (h : SA X W es (evalL fs)) (hl : decide (fs.length ≤ 1000) = true := by rfl) : SE X W (.List es pos) (eLst fs) := by
  refine PE.imp (pe_lst h) fun σ H Q h => ?_
  refine args_ok (r := fun xs H1 Q => xs.length ≤ sizeLine ∧ ∀ p, H1 p = none → Q (.ref p) (upd H1 p (.lst xs))) (fun m1 H1 vs ds h1 s h0 R1 rvs e p => ⟨?_, PostE.lst p R1 rvs⟩) h
  rw [rvs.length, evalL_length e, sizeLine_eq]
  exact Nat.le_trans (of_decide_eq_true hl) (by decide)

/-! ### calls -/
/-- a def's promise: what the function F of data gives -/
def spF (K : PySem.W.Frag) (mg : Str → Option Value) (n : Nat) (F : FF) : Sp := fun vs H Q E => vs.length = n ∧ ∃ m ds h, R K mg m H h ∧ RepL K m H vs ds ∧ PostE K mg E m H (F ds h) Q
variable {P : Program} {w : World} {k n : Nat} {fa' : Addr} {fd : FuncData} {ps : List Str} {F : FF} {x : Str} {p : Pos}
/-- the callee keeps what F tells -/
abbrev FnS (X : Cx) (k : Nat) (f : Addr) (fd : FuncData) (ps : List Str) (F : FF) : Prop := FnOk X.prog X.w X.K X.mg X.base (L2.CX X.prog X.w) k f fd ps (spF X.K X.mg ps.length F)
theorem se_call (G : FnS X k fa' fd ps F) (tk : Takes X W) (hr : Room k X.A) (hg : Gl X x) (hm : X.mg x = some (.ref fa')) (hk : PySem.W.keepIn X.K (.ref fa') = true) (hb : Binds X.K fd ps []) (ha : SA X W (e :: es) (evalL fs))
    (hl : decide (fs.length = ps.length) = true := by rfl) (hdb : (x == ("__debug__" : Str)) = false := by decide) (he : starEach (e :: es) X.env = (false, eval e X.env) :: starEach es X.env := by rfl) (hpl : (backTo pos (starEach es X.env)).any (·.1) = false := by rfl) :
    SE X W (.Call (.Name x p) (e :: es) [] pos) (eArgs F fs) := by
  refine PE.imp (pe_callS G hr hg hm hk hb (fun σ => passAt tk σ) ha hdb he hpl) fun σ H Q h => ?_
  exact args_ok (r := fun vs H1 Q => spF X.K X.mg ps.length F vs H1 Q (WE W σ)) (fun m1 H1 vs ds h1 s h0 R1 rvs ee p => ⟨by rw [rvs.length, evalL_length ee]; exact of_decide_eq_true hl, m1, ds, h1, R1, rvs, p⟩) h
/-- a built-in function or type, by values -/
def CallS (X : Cx) (r : List V → Hp → VK → Prop) (g : List D → Hm → RD) : Prop := ∀ (W : XK) (m : List Addr) (H : Hp) (h : Hm) (vs : List V) (ds : List D) (Q : VK), R X.K X.mg m H h → RepL X.K m H vs ds → PostE X.K X.mg W m H (g ds h) Q → r vs H Q
variable {id T : String} {r : List V → Hp → VK → Prop} {g : List D → Hm → RD}
theorem se_callB (hc : CallR X (.builtin id) r) (hs : CallS X r g) (hg : Gl X x) (hm : X.mg x = none) (hv : bootBuiltins x = some (.builtin id)) (ha : SA X W (e :: es) (evalL fs)) (hn : x ≠ "__name__" := by decide) (hdb : (x == ("__debug__" : Str)) = false := by decide)
    (he : starEach (e :: es) X.env = (false, eval e X.env) :: starEach es X.env := by rfl) (hpl : (backTo pos (starEach es X.env)).any (·.1) = false := by rfl) : SE X W (.Call (.Name x p) (e :: es) [] pos) (eArgs g fs) :=
  PE.imp (pe_callB hc hg hm hv ha hn hdb he hpl) fun σ H Q h => args_ok (r := r) (fun m1 H1 vs ds h1 s h0 R1 rvs ee p => hs _ m1 H1 h1 vs ds Q R1 rvs p) h
theorem se_callTy (hc : CallR X (.type T) r) (hs : CallS X r g) (hg : Gl X x) (hm : X.mg x = none) (hv : bootBuiltins x = some (.type T)) (ha : SA X W (e :: es) (evalL fs)) (hn : x ≠ "__name__" := by decide) (hdb : (x == ("__debug__" : Str)) = false := by decide)
    (he : starEach (e :: es) X.env = (false, eval e X.env) :: starEach es X.env := by rfl) (hpl : (backTo pos (starEach es X.env)).any (·.1) = false := by rfl) : SE X W (.Call (.Name x p) (e :: es) [] pos) (eArgs g fs) :=
  PE.imp (pe_callTy hc hg hm hv ha hn hdb he hpl) fun σ H Q h => args_ok (r := r) (fun m1 H1 vs ds h1 s h0 R1 rvs ee p => hs _ m1 H1 h1 vs ds Q R1 rvs p) h
end
end Sh

set_option Elab.async false
set_option linter.all false
set_option maxRecDepth 100000
set_option maxHeartbeats 4000000
namespace Sh
open PySem L2 PyProof.Rows
def big : Nat := 1000000
theorem big_line {n : Nat} (h : n ≤ big) : n ≤ sizeLine := by
  rw [sizeLine_eq]
  unfold big at h
  omega
/-! ### new tuples whose object is known -/
section
variable {X : Cx}
theorem Inv.tupF {pins : List (Addr × Obj)} {σ : L2.St} {H : Hp} {s : Shared} (I : Inv X pins σ H s) {ys : List V} {its : List Value} (r : Vals ys its) (hz : ys.length ≤ sizeLine) (t : Nat) :
    Inv X pins σ (upd H s.heap.objs.size (.frz { cls := .type "tuple", data := .seq its.toArray } (.tup ys))) { s with heap := s.heap.push { cls := .type "tuple", data := .seq its.toArray }, toks := t } :=
  I.laid (t' := t) (o := .frz { cls := .type "tuple", data := .seq its.toArray } (.tup ys)) (fun b ob q => Heap.get?_push_of_some _ q) (Nat.le_refl _) ⟨Heap.get?_push_size _ rfl, hz, its, r, IsTup.new _ _⟩
def rTupF (ys : List V) (H : Hp) (Q : VK) : Prop := ∀ p o, H p = none → o.dict = none → Q (.ref p) (upd H p (.frz o (.tup ys)))
theorem call_tuple_ofF : CallR X (.type "tuple") (fun xs H Q => ∃ p ys, xs = [.ref p] ∧ ((SqL X.K H p ys ∧ rTupF ys H Q) ∨ (SqT X.K H p ys ∧ Q (.ref p) H))) := by
  intro pins s σ H xs us Q I r h
  obtain ⟨p, ys, rfl, h⟩ := h
  obtain ⟨u, rfl, rx⟩ := vals1 r
  cases rx
  rcases h with ⟨hq, q⟩ | ⟨hq, q⟩
  · obtain ⟨its, r', pl, hz⟩ := I.list hq
    have hlen := r'.length
    refine call_tuple_list pl.isList (fun h' kp => ?_) (by simp only [List.size_toArray] <;> omega)
    have I1 : Inv X pins σ H { s with heap := h' } := I.kept (t' := s.toks) kp
    exact ⟨.ref h'.objs.size, _, Inv.tupF I1 r' hz s.toks, rfl, q _ _ (I1.hok.fresh (Nat.le_refl _)) rfl⟩
  · obtain ⟨its, r', pl, hz⟩ := I.tuple hq
    exact call_tuple_same pl ⟨.ref p, H, I, rfl, q⟩
def rCatF (K : PySem.W.Frag) : R2 := fun x y H Q => ∃ a b xs ys, x = .ref a ∧ y = .ref b ∧ SqT K H a xs ∧ SqT K H b ys ∧ xs.length + ys.length ≤ sizeLine ∧
  (xs = [] → Q (.ref b) H) ∧ (xs ≠ [] → ys = [] → Q (.ref a) H) ∧ (xs ≠ [] → ys ≠ [] → rTupF (xs ++ ys) H Q)
theorem op_catF : OpR X (binaryOp .Add) (rCatF X.K) := by
  intro pins s σ H x y v u Q I rx ry h
  obtain ⟨a, b, xs, ys, rfl, rfl, ha, hb, hz, q0, q1, q2⟩ := h
  by_cases hx : xs = []
  · exact op_catA pins s σ H _ _ v u Q I rx ry ⟨a, b, xs, ys, rfl, rfl, ha, hb, hz, q0, q1, fun z => absurd hx z⟩
  · cases rx
    cases ry
    obtain ⟨its, r1, p1, _⟩ := I.tuple ha
    obtain ⟨its2, r2, p2, _⟩ := I.tuple hb
    refine HT.cat_tup p1 p2 (fun z => hx (r1.nil_iff.mp z)) (fun z => ⟨.ref a, H, I, rfl, q1 hx (r2.nil_iff.mp z)⟩) (fun z => ?_) (by rw [← r1.length, ← r2.length]; exact hz)
    exact ⟨.ref s.heap.objs.size, _, Inv.tupF I (r1.append r2) (by rw [List.length_append]; exact hz) s.toks, rfl, q2 hx (fun w => z (r2.nil_iff.mpr w)) _ _ (I.hok.fresh (Nat.le_refl _)) rfl⟩
def rSlF (K : PySem.W.Frag) : V → Option Int → Option Int → Hp → VK → Prop := fun x lo hi H Q => ∃ a xs, x = .ref a ∧ SqT K H a xs ∧
  (HT.sIx xs.length 0 lo = 0 ∧ HT.sIx xs.length xs.length hi = xs.length → Q (.ref a) H) ∧ (¬ (HT.sIx xs.length 0 lo = 0 ∧ HT.sIx xs.length xs.length hi = xs.length) → rTupF (cutV xs lo hi) H Q)
theorem sl_tupF : SlR X (rSlF X.K) := by
  intro pins s σ H x v vl vu lo hi sl Q I rx hs pl pu h
  obtain ⟨a, xs, rfl, hx, q1, q2⟩ := h
  by_cases hw : HT.sIx xs.length 0 lo = 0 ∧ HT.sIx xs.length xs.length hi = xs.length
  · exact sl_tupA pins s σ H _ v vl vu lo hi sl Q I rx hs pl pu ⟨a, xs, rfl, hx, q1, fun z => absurd hw z⟩
  · cases rx
    obtain ⟨its, r, ht, hz⟩ := I.tuple hx
    have hlen : its.toArray.size = xs.length := by rw [List.size_toArray]; exact r.length.symm
    refine ⟨"tuple", _, PyProof.Rows.slot_tuple_getitem.lookup, ht.typeIs, ?_⟩
    refine HT.getItem_tuple_cut ht hs pl pu (by rw [hlen]; exact hw) ?_ (by rw [hlen]; exact hz)
    rw [hlen]
    exact ⟨.ref s.heap.objs.size, _, Inv.tupF I ((r.drop (HT.sIx xs.length 0 lo)).take (HT.sIx xs.length xs.length hi - HT.sIx xs.length 0 lo)) (Nat.le_trans (cutV_length xs lo hi) hz) s.toks, rfl, q2 hw _ _ (I.hok.fresh (Nat.le_refl _)) rfl⟩
/-- a call of a tuple's own method, the tuple's object known -/
def tupV (K : PySem.W.Frag) (x : V) (H : Hp) : Prop := ∃ p xs, x = .ref p ∧ TupS K H p xs
theorem tupV_is {pins : List (Addr × Obj)} {σ : L2.St} {H : Hp} {s : Shared} {x : V} {v : Value} (I : Inv X pins σ H s) (r : RelV x v) (ty : tupV X.K x H) :
    s.TypeIs v "tuple" ∧ ∀ a, v = .ref a → ∃ ob, s.heap.get? a = some ob ∧ ob.dict = none := by
  obtain ⟨p, xs, rfl, h⟩ := ty
  cases r
  obtain ⟨its, rv, pl, hz⟩ := I.tuple h.sqT
  refine ⟨pl.typeIs, fun a e => ?_⟩
  cases e
  rcases h with ⟨o, h1, h2⟩ | ⟨o, its, n, h1, h2, h3, _⟩
  · exact ⟨o, (I.hok _ _ h1).1, h2⟩
  · exact ⟨o, I.kIn _ o h1, h3⟩
def tTM (K : PySem.W.Frag) (r : V → List V → Hp → VK → Prop) (to : TE) (t : TA) : TE := fun σ H Q => to σ H fun x H1 => tupV K x H1 ∧ t σ H1 fun xs H2 => r x xs H2 Q
variable {o e : Expr} {es : List Expr} {to : TE} {t : TA} {name : Str} {apos cpos : Pos} {id : String} {r : V → List V → Hp → VK → Prop}
theorem pe_tm (pa : PlainAttrs "tuple") (slot : Slot "tuple" name id) (hty : typeOf (.builtin id) = pure (.type "method_descriptor")) (hm : MtR X id r) (ho : PE X o to) (ha : PA X (e :: es) t)
    (hbase : attributeBase o name X.env (eval o X.env) = eval o X.env := by rfl)
    (hfew : ((backTo cpos (starEach (e :: es) X.env)).all (fun x => !x.1) && (backToKw cpos (keywordEach [] X.env)).all (fun x => x.1.isSome)
      && decide ((e :: es).length + ([] : List Keyword).length + (if ([] : List Keyword).isEmpty then 0 else 1) < 30)) = true := by rfl)
    (hline : (apos.endLine == cpos.line) = true := by rfl) (hs : starEach (e :: es) X.env = (false, eval e X.env) :: starEach es X.env := by rfl) (hplain : (backTo cpos (starEach es X.env)).any (·.1) = false := by rfl) :
    PE X (.Call (.Attribute o name apos) (e :: es) [] cpos) (tTM X.K r to t) := by
  refine ⟨fun pins s σ H Q I h => ?_⟩
  refine wpAny_Call_method_late hbase hfew hline rfl (thn (ho.run pins s σ H _ I h) fun v s1 ⟨x, H1, I1, r1, ty, q1⟩ => ?_)
  obtain ⟨h1, h2⟩ := tupV_is I1 r1 ty
  refine ⟨"tuple", id, pa, slot, hty, h1, h2, ?_⟩
  have hA := ha.run cpos pins s1 σ H1 _ I1 q1
  rw [hs] at hA ⊢
  refine Calls.callWith_builtin (by show (false || (backTo cpos (starEach es X.env)).any (·.1)) = false; rw [hplain] <;> rfl) (Calls.evalArgs_plain ?_)
  exact thn hA fun us s2 ⟨vs, H2, I2, r2, q2⟩ => hm pins s2 σ H2 x vs v us Q I2 r1 r2 q2
end

/-! ### data as the library has it -/
def mapO (f : D → Option PyData) : List D → Option (List PyData)
  | [] => some []
  | d :: ds => match f d, mapO f ds with
    | some p, some ps => some (p :: ps)
    | _, _ => none
def toPy : Nat → Hm → D → Option PyData
  | _, _, .non => some .none
  | _, _, .bl b => some (.bool b)
  | _, _, .int i => some (.int i)
  | _, _, .str x => some (.str x)
  | 0, _, _ => none
  | n + 1, h, .tup ds => (mapO (toPy n h) ds).map .tuple
  | n + 1, h, .ref k => match h[k]? with
    | some (.lst ds) => (mapO (toPy n h) ds).map .list
    | some (.scr ds) => (mapO (toPy n h) ds).map .list
    | _ => none
  | n + 1, h, .scl ds => (mapO (toPy n h) ds).map .list
section
variable {K : PySem.W.Frag} {mg : Str → Option Value} {m : List Addr} {H : Hp} {h : Hm}
theorem mapO_dp {f : D → Option PyData} (k : ∀ v d p, Rep K m H v d → f d = some p → Dp K H v p) : ∀ (ds : List D) (vs : List V) (ps : List PyData), RepL K m H vs ds → mapO f ds = some ps → DpAll K H vs ps
  | [], _, ps, .nil, e => by cases e; exact .nil
  | d :: ds, _, ps, .cons r t, e => by
    unfold mapO at e
    split at e
    · rename_i p qs h1 h2
      cases e
      exact .cons (k _ _ _ r h1) (mapO_dp k ds _ _ t h2)
    · cases e
theorem ObjR.sqL {a : Addr} {ds : List D} (x : ObjR K mg m H a (.lst ds) ∨ ObjR K mg m H a (.scr ds)) : ∃ vs, SqL K H a vs ∧ RepL K m H vs ds := by
  rcases x with ⟨vs, h1, h2⟩ | ⟨vs, h1, h2⟩
  · exact ⟨vs, .inl (.inl h1), h2⟩
  · exact ⟨vs, .inl h1, h2⟩
theorem toPy_dp (r : R K mg m H h) : ∀ (n : Nat) (v : V) (d : D) (p : PyData), Rep K m H v d → toPy n h d = some p → Dp K H v p
  | n, _, .non, p, x, e => by cases x; simp only [toPy] at e; cases e; exact .non
  | n, _, .bl b, p, x, e => by cases x; simp only [toPy] at e; cases e; exact .bl b
  | n, _, .int b, p, x, e => by cases x; simp only [toPy] at e; cases e; exact .int b
  | n, _, .str b, p, x, e => by cases x; simp only [toPy] at e; cases e; exact .str b
  | 0, _, .tup ds, p, x, e => by simp only [toPy] at e; cases e
  | 0, _, .ref k, p, x, e => by simp only [toPy] at e; cases e
  | 0, _, .scl k, p, x, e => by simp only [toPy] at e; cases e
  | n + 1, _, .scl ds, p, x, e => by
    simp only [toPy] at e
    obtain ⟨ps, h1, rfl⟩ := Option.map_eq_some_iff.mp e
    obtain ⟨a, vs, rfl, h2, h3⟩ := x.scl_inv
    exact .lst h2.sqL (mapO_dp (fun v d p => toPy_dp r n v d p) ds vs ps h3 h1)
  | n + 1, _, .tup ds, p, x, e => by
    simp only [toPy] at e
    obtain ⟨ps, h1, rfl⟩ := Option.map_eq_some_iff.mp e
    obtain ⟨a, vs, rfl, h2, h3⟩ := x.tup_inv
    exact .tup h2.sqT (mapO_dp (fun v d p => toPy_dp r n v d p) ds vs ps h3 h1)
  | n + 1, _, .ref k, p, x, e => by
    simp only [toPy] at e
    obtain ⟨a, rfl, hm⟩ := x.ref_inv
    split at e
    · rename_i ds hk
      obtain ⟨ps, h1, rfl⟩ := Option.map_eq_some_iff.mp e
      obtain ⟨vs, q1, q2⟩ := ObjR.sqL (.inl (r.ob _ _ _ hm hk))
      exact .lst q1 (mapO_dp (fun v d p => toPy_dp r n v d p) ds vs ps q2 h1)
    · rename_i ds hk
      obtain ⟨ps, h1, rfl⟩ := Option.map_eq_some_iff.mp e
      obtain ⟨vs, q1, q2⟩ := ObjR.sqL (.inr (r.ob _ _ _ hm hk))
      exact .lst q1 (mapO_dp (fun v d p => toPy_dp r n v d p) ds vs ps q2 h1)
    · cases e
end
/-- the items of a list or tuple -/
def items (h : Hm) : D → Option (List D)
  | .tup ds => some ds
  | .ref k => match h[k]? with
    | some (.lst ds) => some ds
    | some (.scr ds) => some ds
    | _ => none
  | .scl ds => some ds
  | _ => none
section
variable {K : PySem.W.Frag} {mg : Str → Option Value} {m : List Addr} {H : Hp} {h : Hm}
theorem items_sq (r : R K mg m H h) {v : V} {d : D} {ds : List D} (x : Rep K m H v d) (e : items h d = some ds) : ∃ a vs, v = .ref a ∧ (SqL K H a vs ∨ SqT K H a vs) ∧ RepL K m H vs ds := by
  cases d with
  | tup es =>
    cases e
    obtain ⟨a, vs, rfl, h2, h3⟩ := x.tup_inv
    exact ⟨a, vs, rfl, .inr h2.sqT, h3⟩
  | scl es =>
    cases e
    obtain ⟨a, vs, rfl, h2, h3⟩ := x.scl_inv
    exact ⟨a, vs, rfl, .inl h2.sqL, h3⟩
  | ref k =>
    obtain ⟨a, rfl, hm⟩ := x.ref_inv
    unfold items at e
    simp only at e
    split at e
    · rename_i es hk
      cases e
      obtain ⟨vs, q1, q2⟩ := ObjR.sqL (.inl (r.ob _ _ _ hm hk))
      exact ⟨a, vs, rfl, .inl q1, q2⟩
    · rename_i es hk
      cases e
      obtain ⟨vs, q1, q2⟩ := ObjR.sqL (.inr (r.ob _ _ _ hm hk))
      exact ⟨a, vs, rfl, .inl q1, q2⟩
    · cases e
  | _ => cases e
end

/-! ### + - * // % ** -/
def dAdd (x y : D) (h : Hm) : RD := match x, y with
  | .int i, .int j => .ok (.int (i + j)) h
  | .tup a, .tup b => if a.length + b.length ≤ big then .ok (.tup (a ++ b)) h else .bad
  | .ref a, .ref b => match h[a]?, h[b]? with
    | some (.lst xs), some (.lst ys) => if xs.length + ys.length ≤ big then .ok (.ref h.length) (h ++ [.lst (xs ++ ys)]) else .bad
    | _, _ => .bad
  | .str a, .str b => if a.length + b.length ≤ big then .ok (.str (a ++ b)) h else .bad
  | _, _ => .bad
def rAdd4 (K : PySem.W.Frag) : R2 := fun x y H Q => (rI0 fun i j => .int (i + j)) x y H Q ∨ rCatF K x y H Q ∨ rCat x y H Q ∨ (∃ i j, x = .str i ∧ y = .str j ∧ i.length + j.length ≤ sizeLine ∧ Q (.str (i ++ j)) H)
section
variable {X : Cx}
theorem op_add4 : OpR X (binaryOp .Add) (rAdd4 X.K) := op_add.or (op_catF.or (op_cat.or op_add_str))
theorem os_add : OpS X (rAdd4 X.K) dAdd := by
  intro W m H h x y dx dy Q r rx ry p
  unfold dAdd at p
  split at p
  · cases rx; cases ry
    exact .inl ⟨_, _, rfl, rfl, p.val r (.int _)⟩
  · rename_i a b
    split at p
    · rename_i hz
      obtain ⟨p1, vs, rfl, t1, l1⟩ := rx.tup_inv
      obtain ⟨p2, ws, rfl, t2, l2⟩ := ry.tup_inv
      have e1 := l1.length
      have e2 := l2.length
      refine .inr (.inl ⟨p1, p2, vs, ws, rfl, rfl, t1.sqT, t2.sqT, big_line (by omega), fun z => ?_, fun _ z => ?_, fun _ _ q o hq ho => PostE.tup p r (l1.app l2) q o hq ho⟩)
      · subst z
        cases l1
        exact p.val r ry
      · subst z
        cases l2
        rw [List.append_nil] at p
        exact p.val r rx
    · exact False.elim p
  · split at p
    · rename_i xs ys h1 h2
      split at p
      · rename_i hz
        obtain ⟨p1, rfl, m1⟩ := rx.ref_inv
        obtain ⟨p2, rfl, m2⟩ := ry.ref_inv
        obtain ⟨vs, q1, l1⟩ := r.ob _ _ _ m1 h1
        obtain ⟨ws, q2, l2⟩ := r.ob _ _ _ m2 h2
        have e1 := l1.length
        have e2 := l2.length
        exact .inr (.inr (.inl ⟨p1, p2, vs, ws, rfl, rfl, q1, q2, big_line (by omega), PostE.lst p r (l1.app l2)⟩))
      · exact False.elim p
    · exact False.elim p
  · split at p
    · rename_i hz
      cases rx; cases ry
      exact .inr (.inr (.inr ⟨_, _, rfl, rfl, big_line hz, p.val r (.str _)⟩))
    · exact False.elim p
  · exact False.elim p
def dInt2 (c : Int → Int → Bool) (g : Int → Int → Int) (x y : D) (h : Hm) : RD := match x, y with
  | .int i, .int j => if c i j = true then .ok (.int (g i j)) h else .bad
  | _, _ => .bad
theorem os_int2 {c : Int → Int → Bool} {g : Int → Int → Int} {C : Int → Int → Prop} (k : ∀ i j, c i j = true → C i j) : OpS X (rI C fun i j => .int (g i j)) (dInt2 c g) := by
  intro W m H h x y dx dy Q r rx ry p
  unfold dInt2 at p
  split at p
  · split at p
    · rename_i hc
      cases rx; cases ry
      exact ⟨_, _, rfl, rfl, k _ _ hc, p.val r (.int _)⟩
    · exact False.elim p
  · exact False.elim p
def dInt0 (g : Int → Int → Int) (x y : D) (h : Hm) : RD := match x, y with
  | .int i, .int j => .ok (.int (g i j)) h
  | _, _ => .bad
theorem os_int0 {g : Int → Int → Int} : OpS X (rI0 fun i j => .int (g i j)) (dInt0 g) := by
  intro W m H h x y dx dy Q r rx ry p
  unfold dInt0 at p
  split at p
  · cases rx; cases ry
    exact ⟨_, _, rfl, rfl, p.val r (.int _)⟩
  · exact False.elim p
def dCmp (g : Int → Int → Bool) (x y : D) (h : Hm) : RD := match x, y with
  | .int i, .int j => .ok (.bl (g i j)) h
  | _, _ => .bad
theorem os_cmp {g : Int → Int → Bool} : OpS X (rI0 fun i j => .bl (g i j)) (dCmp g) := by
  intro W m H h x y dx dy Q r rx ry p
  unfold dCmp at p
  split at p
  · cases rx; cases ry
    exact ⟨_, _, rfl, rfl, p.val r (.bl _)⟩
  · exact False.elim p
/-- a product, one factor within a word -/
def dSub := dInt0 fun i j => i - j
def dMod := dInt2 (fun _ j => decide (0 < j)) fun i j => i % j
def dDiv := dInt2 (fun _ j => decide (0 < j ∧ j < 2 ^ 200)) fun i j => i / j
def dPow := dInt2 (fun i j => decide (0 ≤ j ∧ j ≤ 1000000 ∧ i.natAbs < 2 ^ 64)) fun i j => i ^ j.toNat
def cM (i j : Int) : Bool := decide ((-(2 ^ 64) < i ∧ i < 2 ^ 64) ∨ (-(2 ^ 64) < j ∧ j < 2 ^ 64))
theorem os_sub : OpS X (rI0 fun i j => .int (i - j)) dSub := os_int0
theorem os_mod : OpS X (rI (fun _ j => 0 < j) fun i j => .int (i % j)) dMod := os_int2 fun _ _ h => of_decide_eq_true h
theorem os_div : OpS X (rI CDivW fun i j => .int (i / j)) dDiv := os_int2 fun i j h => by
  have q := of_decide_eq_true h
  exact wide_div (b := 200) q.1 (by have := q.2; omega) (by decide) (by decide)
theorem os_pow : OpS X (rI CPow fun i j => .int (i ^ j.toNat)) dPow := os_int2 fun i j h => by
  have q : 0 ≤ j ∧ j ≤ 1000000 ∧ i.natAbs < 2 ^ 64 := of_decide_eq_true h
  exact q
/-- * : ints, a list times an int -/
def dMul (x y : D) (h : Hm) : RD := match x, y with
  | .int i, .int j => if cM i j = true then .ok (.int (i * j)) h else .bad
  | .ref a, .int k => match h[a]? with
    | some (.lst xs) => if -(2 ^ 63) ≤ k ∧ k < 2 ^ 63 ∧ xs.length * k.toNat ≤ big then .ok (.ref h.length) (h ++ [.lst (List.replicate k.toNat xs).flatten]) else .bad
    | _ => .bad
  | _, _ => .bad
theorem RepL.flat {K : PySem.W.Frag} {m : List Addr} {H : Hp} {vs : List V} {ds : List D} (r : RepL K m H vs ds) : ∀ n : Nat, RepL K m H (List.replicate n vs).flatten (List.replicate n ds).flatten
  | 0 => .nil
  | n + 1 => by
    rw [List.replicate_succ, List.replicate_succ, List.flatten_cons, List.flatten_cons]
    exact r.app (RepL.flat r n)
theorem op_mul2 : OpR X (binaryOp .Mult) (fun x y H Q => (rI CMul fun i j => .int (i * j)) x y H Q ∨ rRep x y H Q) := op_mul.or op_rep
theorem os_mul : OpS X (fun x y H Q => (rI CMul fun i j => .int (i * j)) x y H Q ∨ rRep x y H Q) dMul := by
  intro W m H h x y dx dy Q r rx ry p
  unfold dMul at p
  split at p
  · split at p
    · rename_i hc
      cases rx; cases ry
      rename_i i j
      have q : (-(2 ^ 64) < i ∧ i < 2 ^ 64) ∨ (-(2 ^ 64) < j ∧ j < 2 ^ 64) := of_decide_eq_true hc
      exact .inl ⟨i, j, rfl, rfl, q, p.val r (.int _)⟩
    · exact False.elim p
  · split at p
    · rename_i xs h1
      split at p
      · rename_i hz
        obtain ⟨p1, rfl, m1⟩ := rx.ref_inv
        cases ry
        obtain ⟨vs, q1, l1⟩ := r.ob _ _ _ m1 h1
        have e1 := l1.length
        exact .inr ⟨p1, _, vs, rfl, rfl, q1, hz.1, hz.2.1, big_line (by rw [e1]; exact hz.2.2), PostE.lst p r (l1.flat _)⟩
      · exact False.elim p
    · exact False.elim p
  · exact False.elim p
end

/-! ### == != is in -/
def eqSc : D → D → Option Bool
  | .non, .non => some true
  | .non, .int _ => some false | .int _, .non => some false | .non, .bl _ => some false | .bl _, .non => some false | .non, .str _ => some false | .str _, .non => some false
  | .int i, .int j => some (decide (i = j)) | .bl i, .bl j => some (decide (i = j)) | .str i, .str j => some (decide (i = j))
  | .int _, .str _ => some false | .str _, .int _ => some false | .bl _, .str _ => some false | .str _, .bl _ => some false
  | _, _ => none
/-- == of data -/
def eqB (h : Hm) (x y : D) : Option Bool := match eqSc x y with
  | some b => some b
  | none => match toPy 20 h x, toPy 20 h y with
    | some a, some b => if SeqAt.shaped a = true ∧ SeqAt.shaped b = true then some (PyData.eqv a b) else none
    | _, _ => none
def dEq (x y : D) (h : Hm) : RD := match eqB h x y with
  | some b => .ok (.bl b) h
  | none => .bad
def dNe (x y : D) (h : Hm) : RD := match eqB h x y with
  | some b => .ok (.bl (!b)) h
  | none => .bad
section
variable {X : Cx}
theorem eqSc_ok {K : PySem.W.Frag} {m : List Addr} {H : Hp} {x y : V} {dx dy : D} {b : Bool} (rx : Rep K m H x dx) (ry : Rep K m H y dy) (e : eqSc dx dy = some b) : scal x y = true ∧ decide (x = y) = b := by
  cases dx <;> cases dy <;> first
    | (simp [eqSc] at e; done)
    | (cases rx; cases ry; simp [eqSc] at e; subst e; refine ⟨rfl, ?_⟩; simp)
theorem op_eq2 (hr : X.A.units + 64 < cLine) : OpR X (compareOp .Eq) (fun x y H Q => rEq x y H Q ∨ rEqD X.K x y H Q) := op_eq.or (op_eqD hr)
theorem op_ne2 (hr : X.A.units + 64 < cLine) : OpR X (compareOp .NotEq) (fun x y H Q => rNe x y H Q ∨ rNeD X.K x y H Q) := op_ne.or (op_neD hr)
theorem eqB_ok {K : PySem.W.Frag} {mg : Str → Option Value} {m : List Addr} {H : Hp} {h : Hm} {x y : V} {dx dy : D} {b : Bool} (r : R K mg m H h) (rx : Rep K m H x dx) (ry : Rep K m H y dy) (e : eqB h dx dy = some b) :
    (scal x y = true ∧ decide (x = y) = b) ∨ ∃ d e, Dp K H x d ∧ Dp K H y e ∧ SeqAt.shaped d = true ∧ SeqAt.shaped e = true ∧ PyData.eqv d e = b := by
  unfold eqB at e
  split at e
  · rename_i b' h1
    cases e
    exact .inl (eqSc_ok rx ry h1)
  · split at e
    · rename_i a c h1 h2
      split at e
      · rename_i hs
        cases e
        exact .inr ⟨a, c, toPy_dp r _ _ _ _ rx h1, toPy_dp r _ _ _ _ ry h2, hs.1, hs.2, rfl⟩
      · cases e
    · cases e
theorem os_eq : OpS X (fun x y H Q => rEq x y H Q ∨ rEqD X.K x y H Q) dEq := by
  intro W m H h x y dx dy Q r rx ry p
  unfold dEq at p
  split at p
  · rename_i b e
    rcases eqB_ok r rx ry e with ⟨h1, h2⟩ | ⟨d, c, h1, h2, h3, h4, h5⟩
    · exact .inl ⟨h1, by rw [h2]; exact p.val r (.bl _)⟩
    · exact .inr ⟨d, c, h1, h2, h3, h4, by rw [h5]; exact p.val r (.bl _)⟩
  · exact False.elim p
theorem os_ne : OpS X (fun x y H Q => rNe x y H Q ∨ rNeD X.K x y H Q) dNe := by
  intro W m H h x y dx dy Q r rx ry p
  unfold dNe at p
  split at p
  · rename_i b e
    rcases eqB_ok r rx ry e with ⟨h1, h2⟩ | ⟨d, c, h1, h2, h3, h4, h5⟩
    · exact .inl ⟨h1, by rw [h2]; exact p.val r (.bl _)⟩
    · exact .inr ⟨d, c, h1, h2, h3, h4, by rw [h5]; exact p.val r (.bl _)⟩
  · exact False.elim p
/-- is None, is True, is False -/
def dIs (x y : D) (h : Hm) : RD := match y with
  | .non => .ok (.bl (decide (x = .non))) h
  | .bl b => .ok (.bl (decide (x = .bl b))) h
  | _ => .bad
def dIsNot (x y : D) (h : Hm) : RD := match y with
  | .non => .ok (.bl (!decide (x = .non))) h
  | .bl b => .ok (.bl (!decide (x = .bl b))) h
  | _ => .bad
def rIs3 : R2 := fun x y H Q => (y = .non ∨ ∃ b, y = .bl b) ∧ Q (.bl (decide (x = y))) H
def rIsNot3 : R2 := fun x y H Q => (y = .non ∨ ∃ b, y = .bl b) ∧ Q (.bl (!decide (x = y))) H
theorem plain_bool {x : V} {v : Value} (r : RelV x v) (b : Bool) : plainIs v (.bool b) = true := by
  cases x <;> first | (obtain ⟨t, rfl⟩ := r; rfl) | (cases r; rfl)
theorem relV_bl {x : V} {v : Value} (r : RelV x v) (b : Bool) : v = .bool b ↔ x = .bl b := by
  cases x <;> first | (obtain ⟨t, rfl⟩ := r; simp) | (cases r; simp)
theorem op_is3 : OpR X (compareOp .Is) rIs3 := by
  rintro pins s σ H x y v u Q I rx ry ⟨rfl | ⟨b, rfl⟩, q⟩
  · exact op_isN pins s σ H x _ v u Q I rx ry ⟨rfl, q⟩
  · cases (show u = Value.bool b from ry)
    by_cases e : v = .bool b
    · subst e
      exact wpAny_is_self rfl ⟨.bl true, H, I, rfl, by rw [decide_eq_true ((relV_bl rx b).mp rfl)] at q; exact q⟩
    · exact wpAny_is_other (plain_bool rx b) e ⟨.bl false, H, I, rfl, by rw [decide_eq_false (fun z => e ((relV_bl rx b).mpr z))] at q; exact q⟩
theorem op_isNot3 : OpR X (compareOp .IsNot) rIsNot3 := by
  rintro pins s σ H x y v u Q I rx ry ⟨rfl | ⟨b, rfl⟩, q⟩
  · exact op_notN pins s σ H x _ v u Q I rx ry ⟨rfl, q⟩
  · cases (show u = Value.bool b from ry)
    by_cases e : v = .bool b
    · subst e
      exact wpAny_isNot_self rfl ⟨.bl false, H, I, rfl, by rw [decide_eq_true ((relV_bl rx b).mp rfl)] at q; exact q⟩
    · exact wpAny_isNot_other (plain_bool rx b) e ⟨.bl true, H, I, rfl, by rw [decide_eq_false (fun z => e ((relV_bl rx b).mpr z))] at q; exact q⟩
theorem rep_non {K : PySem.W.Frag} {m : List Addr} {H : Hp} {x : V} {d : D} (r : Rep K m H x d) : decide (x = .non) = decide (d = .non) := by cases r <;> simp
theorem rep_bl {K : PySem.W.Frag} {m : List Addr} {H : Hp} {x : V} {d : D} (r : Rep K m H x d) (b : Bool) : decide (x = .bl b) = decide (d = .bl b) := by cases r <;> simp
theorem os_is : OpS X rIs3 dIs := by
  intro W m H h x y dx dy Q r rx ry p
  unfold dIs at p
  split at p
  · cases ry
    exact ⟨.inl rfl, by rw [rep_non rx]; exact p.val r (.bl _)⟩
  · cases ry
    exact ⟨.inr ⟨_, rfl⟩, by rw [rep_bl rx]; exact p.val r (.bl _)⟩
  · exact False.elim p
theorem os_isNot : OpS X rIsNot3 dIsNot := by
  intro W m H h x y dx dy Q r rx ry p
  unfold dIsNot at p
  split at p
  · cases ry
    exact ⟨.inl rfl, by rw [rep_non rx]; exact p.val r (.bl _)⟩
  · cases ry
    exact ⟨.inr ⟨_, rfl⟩, by rw [rep_bl rx]; exact p.val r (.bl _)⟩
  · exact False.elim p
/-- x in y: flat things in a tuple, data in a list -/
def flatD : D → Bool
  | .non => true | .bl _ => true | .int _ => true | .str _ => true
  | _ => false
def eqF : D → D → Bool
  | .non, .non => true
  | .bl a, .bl b => a == b
  | .bl a, .int b => (if a then 1 else 0) == b
  | .int a, .bl b => a == (if b then 1 else 0)
  | .int a, .int b => a == b
  | .str a, .str b => a == b
  | _, _ => false
def inB (h : Hm) (x y : D) : Option Bool := match y with
  | .tup ys => if flatD x = true ∧ ys.all flatD = true then some (ys.any fun z => eqF z x) else none
  | _ => match toPy 20 h x, toPy 20 h y with
    | some a, some (.list b) => if SeqAt.shaped a = true ∧ SeqAt.shaped (.list b) = true then some (b.any fun z => PyData.eqv z a) else none
    | _, _ => none
def dIn (x y : D) (h : Hm) : RD := match inB h x y with
  | some b => .ok (.bl b) h
  | none => .bad
def dNotIn (x y : D) (h : Hm) : RD := match inB h x y with
  | some b => .ok (.bl (!b)) h
  | none => .bad
theorem flat_rep {K : PySem.W.Frag} {m : List Addr} {H : Hp} {x : V} {d : D} (r : Rep K m H x d) (f : flatD d = true) : flatV x = true := by cases r <;> first | rfl | cases f
theorem flat_repL {K : PySem.W.Frag} {m : List Addr} {H : Hp} : ∀ {vs : List V} {ds : List D}, RepL K m H vs ds → ds.all flatD = true → vs.all flatV = true
  | _, _, .nil, _ => rfl
  | _, _, .cons r t, f => by
    rw [List.all_cons, Bool.and_eq_true] at f ⊢
    exact ⟨flat_rep r f.1, flat_repL t f.2⟩
theorem eqF_rep {K : PySem.W.Frag} {m : List Addr} {H : Hp} {x y : V} {d e : D} (r : Rep K m H x d) (q : Rep K m H y e) : eqV x y = eqF d e := by
  cases r <;> cases q <;> rfl
theorem any_rep {K : PySem.W.Frag} {m : List Addr} {H : Hp} {x : V} {d : D} (r : Rep K m H x d) : ∀ {vs : List V} {ds : List D}, RepL K m H vs ds → inV x vs = ds.any fun z => eqF z d
  | _, _, .nil => rfl
  | _, _, .cons q t => by
    unfold inV
    rw [List.any_cons, List.any_cons, eqF_rep q r]
    have := any_rep r t
    unfold inV at this
    rw [this]
theorem op_in2 (hu : X.A.units + 65 < cLine) : OpR X (compareOp .In) (fun x y H Q => rIn X.K false x y H Q ∨ rInD X.K x y H Q) := op_in_seq.or (op_inD hu)
theorem op_notIn2 (hu : X.A.units + 65 < cLine) : OpR X (compareOp .NotIn) (fun x y H Q => rIn X.K true x y H Q ∨ rNotInD X.K x y H Q) := op_notIn_seq.or (op_notInD hu)
theorem inB_ok {mg : Str → Option Value} {K : PySem.W.Frag} {m : List Addr} {H : Hp} {h : Hm} {x y : V} {dx dy : D} {b : Bool} (r : R K mg m H h) (rx : Rep K m H x dx) (ry : Rep K m H y dy) (e : inB h dx dy = some b) :
    (∃ p xs, y = .ref p ∧ (SqL K H p xs ∨ SqT K H p xs) ∧ flatV x = true ∧ xs.all flatV = true ∧ inV x xs = b) ∨
      ∃ d ds, Dp K H x d ∧ Dp K H y (.list ds) ∧ SeqAt.shaped d = true ∧ SeqAt.shaped (.list ds) = true ∧ (ds.any fun z => PyData.eqv z d) = b := by
  unfold inB at e
  split at e
  · split at e
    · rename_i hf
      cases e
      obtain ⟨p, vs, rfl, t1, l1⟩ := ry.tup_inv
      exact .inl ⟨p, vs, rfl, .inr t1.sqT, flat_rep rx hf.1, flat_repL l1 hf.2, any_rep rx l1⟩
    · cases e
  · split at e
    · rename_i a c h1 h2
      split at e
      · rename_i hs
        cases e
        exact .inr ⟨a, c, toPy_dp r _ _ _ _ rx h1, toPy_dp r _ _ _ _ ry h2, hs.1, hs.2, rfl⟩
      · cases e
    · cases e
theorem os_in : OpS X (fun x y H Q => rIn X.K false x y H Q ∨ rInD X.K x y H Q) dIn := by
  intro W m H h x y dx dy Q r rx ry p
  unfold dIn at p
  split at p
  · rename_i b e
    rcases inB_ok r rx ry e with ⟨q, vs, h1, h2, h3, h4, h5⟩ | ⟨d, c, h1, h2, h3, h4, h5⟩
    · exact .inl ⟨q, vs, h1, h2, h3, h4, by rw [h5]; exact p.val r (.bl _)⟩
    · exact .inr ⟨d, c, h1, h2, h3, h4, by rw [h5]; exact p.val r (.bl _)⟩
  · exact False.elim p
theorem os_notIn : OpS X (fun x y H Q => rIn X.K true x y H Q ∨ rNotInD X.K x y H Q) dNotIn := by
  intro W m H h x y dx dy Q r rx ry p
  unfold dNotIn at p
  split at p
  · rename_i b e
    rcases inB_ok r rx ry e with ⟨q, vs, h1, h2, h3, h4, h5⟩ | ⟨d, c, h1, h2, h3, h4, h5⟩
    · exact .inl ⟨q, vs, h1, h2, h3, h4, by rw [h5]; exact p.val r (.bl _)⟩
    · exact .inr ⟨d, c, h1, h2, h3, h4, by rw [h5]; exact p.val r (.bl _)⟩
  · exact False.elim p
end
end Sh

set_option Elab.async false
set_option linter.all false
set_option maxRecDepth 100000
set_option maxHeartbeats 4000000
namespace Sh
open PySem L2 PyProof.Rows
/-! ### subscripts, slices -/
theorem atI_rep {K : PySem.W.Frag} {m : List Addr} {H : Hp} {vs : List V} {ds : List D} {i : Int} {d : D} (r : RepL K m H vs ds) (e : atI ds i = some d) : ∃ v, atI vs i = some v ∧ Rep K m H v d := by
  unfold atI at e ⊢
  rw [r.length]
  cases q : ixN ds.length i with
  | none => rw [q] at e; cases e
  | some j =>
    rw [q] at e
    exact r.get e
def dIx (x y : D) (h : Hm) : RD := match y with
  | .int i => match items h x with
    | some ds => match atI ds i with
      | some d => .ok d h
      | none => .bad
    | none => .bad
  | _ => .bad
section
variable {X : Cx} {W : WX} {e a b c o : Expr} {f fa fb fc fo : FE} {pos apos cpos : Pos} {es : List Expr} {fs : List FE}
theorem os_ix : OpS X (fun x y H Q => rIxL X.K x y H Q ∨ rIxT X.K x y H Q) dIx := by
  intro W m H h x y dx dy Q r rx ry p
  unfold dIx at p
  split at p
  · split at p
    · rename_i ds hi
      split at p
      · rename_i d hd
        cases ry
        obtain ⟨q, vs, rfl, h1, l1⟩ := items_sq r rx hi
        obtain ⟨v, h2, h3⟩ := atI_rep l1 hd
        rcases h1 with h1 | h1
        · exact .inl ⟨q, vs, _, v, rfl, rfl, h1, h2, p.val r h3⟩
        · exact .inr ⟨q, vs, _, v, rfl, rfl, h1, h2, p.val r h3⟩
      · exact False.elim p
    · exact False.elim p
  · exact False.elim p
theorem ix_two : IxR X (fun x y H Q => rIxL X.K x y H Q ∨ rIxT X.K x y H Q) := ix_list.or ix_tup
theorem se_ix (ha : SE X W a fa) (hb : SE X W b fb) (hs : PlainIx b := by exact fun _ _ => rfl) : SE X W (.Subscript a b pos) (eBin dIx fa fb) :=
  PE.imp (pe_ix ix_two ha hb hs) fun σ H Q h => bin_ok os_ix h
def cutD (xs : List D) (lo hi : Option Int) : List D := (xs.drop (HT.sIx xs.length 0 lo)).take (HT.sIx xs.length xs.length hi - HT.sIx xs.length 0 lo)
theorem cut_rep {K : PySem.W.Frag} {m : List Addr} {H : Hp} {vs : List V} {ds : List D} (r : RepL K m H vs ds) (lo hi : Option Int) : RepL K m H (cutV vs lo hi) (cutD ds lo hi) := by
  unfold cutV cutD
  rw [r.length]
  exact (r.drop _).take _
def dSl (x : D) (lo hi : Option Int) (h : Hm) : RD := match x with
  | .tup ds => .ok (.tup (cutD ds lo hi)) h
  | .ref k => match h[k]? with
    | some (.lst ds) => .ok (.ref h.length) (h ++ [.lst (cutD ds lo hi)])
    | some (.scr ds) => .ok (.ref h.length) (h ++ [.lst (cutD ds lo hi)])
    | _ => .bad
  | _ => .bad
theorem sl_two : SlR X (fun x lo hi H Q => rSlL X.K x lo hi H Q ∨ rSlF X.K x lo hi H Q) := sl_list.or sl_tupF
def ePart (lo : Option FE) (s : DS) (h : Hm) (k : Option Int → Hm → RD) : RD := match lo with
  | none => k none h
  | some f => (f s h).bind fun d h1 => match d with
    | .int i => k (some i) h1
    | _ => .bad
def eSl (fa : FE) (lo hi : Option FE) : FE := fun s h => (fa s h).bind fun x h1 => ePart lo s h1 fun l h2 => ePart hi s h2 fun u h3 => dSl x l u h3
inductive SO (X : Cx) (W : WX) : Option Expr → Option FE → Prop
  | no : SO X W none none
  | yes {e : Expr} {f : FE} (h : SE X W e f) : SO X W (some e) (some f)
def tPO (K : PySem.W.Frag) (mg : Str → Option Value) (W : WX) (lo : Option FE) : TO := fun σ H Q => ∃ m s h, R K mg m H h ∧ RS K m H σ s ∧
  (match lo with
    | none => Q none H
    | some f => PostE K mg (fun c d H' => W c d σ H') m H (f s h) (fun v H' => ∃ i, v = .int i ∧ Q (some i) H'))
theorem po_of {lo : Option Expr} {fl : Option FE} (h : SO X W lo fl) : PO X lo (tPO X.K X.mg W fl) := by
  cases h with
  | no => exact ⟨fun pins s σ H Q I ⟨m, s', h, R0, rs, q⟩ => po_none.run pins s σ H Q I q⟩
  | yes h => exact ⟨fun pins s σ H Q I ⟨m, s', hh, R0, rs, q⟩ => (po_some h).run pins s σ H Q I ⟨m, s', hh, R0, rs, q⟩⟩
theorem se_sl {lo hi : Option Expr} {fl fu : Option FE} {p2 : Pos} (ha : SE X W a fa) (hl : SO X W lo fl) (hu : SO X W hi fu) : SE X W (.Subscript a (.Slice lo hi none p2) pos) (eSl fa fl fu) := by
  refine PE.imp (pe_slice sl_two ha (po_of hl) (po_of hu)) fun σ H Q h => ?_
  obtain ⟨m, s, h, R0, rs, p⟩ := h
  refine ⟨m, s, h, R0, rs, PostE.mono (PostE.bind p) ?_⟩
  rintro x H1 ⟨m1, dx, h1, g1, R1, rx, p1⟩
  -- what stands at the end
  have fin : ∀ (l u : Option Int) (m3 : List Addr) (H3 : Hp) (h3 : Hm), Grow m1 H1 m3 H3 → R X.K X.mg m3 H3 h3 → PostE X.K X.mg (fun c d H' => W c d σ H') m3 H3 (dSl dx l u h3) Q → (rSlL X.K x l u H3 Q ∨ rSlF X.K x l u H3 Q) := by
    intro l u m3 H3 h3 g R3 p3
    unfold dSl at p3
    split at p3
    · obtain ⟨q, vs, rfl, t1, l1⟩ := (rx.grow g).tup_inv
      refine .inr ⟨q, vs, rfl, t1.sqT, fun z => ?_, fun _ q' o hq ho => PostE.tup p3 R3 (cut_rep l1 l u) q' o hq ho⟩
      have e : cutV vs l u = vs := by
        unfold cutV
        rw [z.1, z.2]
        simp
      have e2 := cut_rep l1 l u
      rw [e] at e2
      exact p3.val R3 (.tup t1 e2)
    · split at p3
      · rename_i ds hk
        obtain ⟨q, rfl, hm⟩ := (rx.grow g).ref_inv
        obtain ⟨vs, q1, q2⟩ := ObjR.sqL (.inl (R3.ob _ _ _ hm hk))
        exact .inl ⟨q, vs, rfl, q1, PostE.lst p3 R3 (cut_rep q2 l u)⟩
      · rename_i ds hk
        obtain ⟨q, rfl, hm⟩ := (rx.grow g).ref_inv
        obtain ⟨vs, q1, q2⟩ := ObjR.sqL (.inr (R3.ob _ _ _ hm hk))
        exact .inl ⟨q, vs, rfl, q1, PostE.lst p3 R3 (cut_rep q2 l u)⟩
      · exact False.elim p3
    · exact False.elim p3
  have hi_ : ∀ (l : Option Int) (m2 : List Addr) (H2 : Hp) (h2 : Hm), Grow m1 H1 m2 H2 → R X.K X.mg m2 H2 h2 → PostE X.K X.mg (fun c d H' => W c d σ H') m2 H2 (ePart fu s h2 fun u h3 => dSl dx l u h3) Q →
      tPO X.K X.mg W fu σ H2 fun u H3 => (rSlL X.K x l u H3 Q ∨ rSlF X.K x l u H3 Q) := by
    intro l m2 H2 h2 g R2 p2
    refine ⟨m2, s, h2, R2, rs.grow (g1.trans g), ?_⟩
    cases fu with
    | none => exact fin l none m2 H2 h2 g R2 p2
    | some f =>
      refine PostE.mono (PostE.bind p2) ?_
      rintro v H3 ⟨m3, dv, h3, g3, R3, rv, p3⟩
      cases dv with
      | int i => exact ⟨i, rv.int_inv, fin l (some i) m3 H3 h3 (g.trans g3) R3 p3⟩
      | _ => exact False.elim p3
  refine ⟨m1, s, h1, R1, rs.grow g1, ?_⟩
  cases fl with
  | none => exact hi_ none m1 H1 h1 (Grow.refl _ _) R1 p1
  | some f =>
    refine PostE.mono (PostE.bind p1) ?_
    rintro v H2 ⟨m2, dv, h2, g2, R2, rv, p2⟩
    cases dv with
    | int i => exact ⟨i, rv.int_inv, hi_ (some i) m2 H2 h2 g2 R2 p2⟩
    | _ => exact False.elim p2

/-! ### fields -/
theorem lookupC {α : Type} (k : Str) (p : Str × α) (l : List (Str × α)) : (p :: l).lookup k = if k = p.1 then some p.2 else l.lookup k := by
  obtain ⟨q, v⟩ := p
  by_cases e : k = q
  · subst e; simp [List.lookup]
  · have : (k == q) = false := by simpa using e
    simp [List.lookup, this, e]
theorem RepF.look {K : PySem.W.Frag} {m : List Addr} {H : Hp} {k : Str} : ∀ {fv : List (Str × V)} {fs : List (Str × D)}, RepF K m H fv fs → (∀ d, fs.lookup k = some d → ∃ v, fv.lookup k = some v ∧ Rep K m H v d) ∧ (fs.lookup k = none → fv.lookup k = none)
  | _, _, .nil => ⟨fun d e => by simp at e, fun _ => rfl⟩
  | p :: fv, q :: fs, .cons r t => by
    obtain ⟨e1, r⟩ := r
    have ih := RepF.look (k := k) (fv := fv) (fs := fs) t
    rw [lookupC, lookupC, e1]
    by_cases e : k = q.1
    · rw [if_pos e, if_pos e]
      exact ⟨fun d z => ⟨p.2, rfl, by cases z; exact r⟩, fun z => by cases z⟩
    · rw [if_neg e, if_neg e]
      exact ih
def eFld (c f : Str) (fo : FE) : FE := fun s h => (fo s h).bind fun d h1 => match d with
  | .ref n => match h1[n]? with
    | some (.ins c' fs) => if c' = c then (match fs.lookup f with
      | some d => .ok d h1
      | none => .bad) else .bad
    | _ => .bad
  | _ => .bad
theorem se_fld {c f : Str} {C : Addr} (he : SE X W o fo) (gC : X.mg c = some (.ref C)) (cl : Cls X.K C) (na : NoAttr X.K C f) (hb : attributeBase o f X.env (eval o X.env) = eval o X.env := by rfl) : SE X W (.Attribute o f pos) (eFld c f fo) := by
  refine PE.imp (pe_fld he hb) fun σ H Q h => ?_
  obtain ⟨m, s, h, R0, rs, p⟩ := h
  refine ⟨m, s, h, R0, rs, PostE.mono (PostE.bind p) ?_⟩
  rintro x H1 ⟨m1, dx, h1, g1, R1, rx, p1⟩
  try dsimp only at p1
  split at p1
  · split at p1
    · rename_i n c' fs hn
      split at p1
      · rename_i hc
        subst hc
        split at p1
        · rename_i d hd
          obtain ⟨a, rfl, hm⟩ := rx.ref_inv
          obtain ⟨C', dx', fv, q0, q1, q2⟩ := R1.ob _ _ _ hm hn
          rw [gC] at q0
          cases q0
          obtain ⟨v, h3, h4⟩ := (RepF.look q2).1 _ hd
          exact ⟨a, C, dx', fv, v, rfl, q1, cl, na, h3, p1.val R1 h4⟩
        · exact False.elim p1
      · exact False.elim p1
    · exact False.elim p1
  · exact False.elim p1

/-! ### built-ins -/
def bLen (ds : List D) (h : Hm) : RD := match ds with
  | [.str z] => if z.length ≤ big then .ok (.int z.length) h else .bad
  | [d] => match items h d with
    | some xs => .ok (.int xs.length) h
    | none => .bad
  | _ => .bad
theorem cs_len : CallS X (fun xs H Q => ∃ x n, xs = [x] ∧ LenV X.K x H n ∧ Q (.int n) H) bLen := by
  intro W m H h vs ds Q r rv p
  unfold bLen at p
  split at p
  · split at p
    · rename_i hz
      cases rv with | cons r1 r2 => cases r2; cases r1; exact ⟨_, _, rfl, ⟨big_line hz, rfl⟩, p.val r (.int _)⟩
    · exact False.elim p
  · split at p
    · rename_i xs hi
      cases rv with
      | cons r1 r2 =>
        cases r2
        obtain ⟨q, ws, rfl, h1, l1⟩ := items_sq r r1 hi
        have e := l1.length
        rcases h1 with h1 | h1
        · exact ⟨_, xs.length, rfl, .inl ⟨ws, h1, e.symm⟩, p.val r (.int _)⟩
        · exact ⟨_, xs.length, rfl, .inr ⟨ws, h1, e.symm⟩, p.val r (.int _)⟩
    · exact False.elim p
  · exact False.elim p
def bInt (ds : List D) (h : Hm) : RD := match ds with
  | [.int i] => .ok (.int i) h
  | _ => .bad
theorem cs_int : CallS X (fun xs H Q => (∃ i, xs = [.int i] ∧ Q (.int i) H) ∨ ∃ k, xs = [.bl k] ∧ Q (.int (if k then 1 else 0)) H) bInt := by
  intro W m H h vs ds Q r rv p
  unfold bInt at p
  split at p
  · cases rv with | cons r1 r2 => cases r2; cases r1; exact .inl ⟨_, rfl, p.val r (.int _)⟩
  · exact False.elim p
def bList (ds : List D) (h : Hm) : RD := match ds with
  | [d] => match items h d with
    | some xs => .ok (.ref h.length) (h ++ [.lst xs])
    | none => .bad
  | _ => .bad
theorem cs_list : CallS X (fun xs H Q => ∃ p ys, xs = [.ref p] ∧ (SqL X.K H p ys ∨ SqT X.K H p ys) ∧ ∀ l, H l = none → Q (.ref l) (upd H l (.lst ys))) bList := by
  intro W m H h vs ds Q r rv p
  unfold bList at p
  split at p
  · split at p
    · rename_i xs hi
      cases rv with
      | cons r1 r2 =>
        cases r2
        obtain ⟨q, ws, rfl, h1, l1⟩ := items_sq r r1 hi
        exact ⟨q, ws, rfl, h1, PostE.lst p r l1⟩
    · exact False.elim p
  · exact False.elim p
def bTuple (ds : List D) (h : Hm) : RD := match ds with
  | [d] => match items h d with
    | some xs => .ok (.tup xs) h
    | none => .bad
  | _ => .bad
theorem cs_tuple : CallS X (fun xs H Q => ∃ p ys, xs = [.ref p] ∧ ((SqL X.K H p ys ∧ rTupF ys H Q) ∨ (SqT X.K H p ys ∧ Q (.ref p) H))) bTuple := by
  intro W m H h vs ds Q r rv p
  unfold bTuple at p
  split at p
  · rename_i d
    split at p
    · rename_i xs hi
      cases rv with
      | cons r1 r2 =>
        cases r2
        cases d with
        | tup es =>
          cases hi
          obtain ⟨q, ws, rfl, h1, l1⟩ := r1.tup_inv
          exact ⟨q, ws, rfl, .inr ⟨h1.sqT, p.val r (.tup h1 l1)⟩⟩
        | scl es =>
          cases hi
          obtain ⟨q, ws, rfl, h1, l1⟩ := r1.scl_inv
          exact ⟨q, ws, rfl, .inl ⟨h1.sqL, fun q o hq ho => PostE.tup p r l1 q o hq ho⟩⟩
        | ref k =>
          obtain ⟨a, rfl, hm⟩ := r1.ref_inv
          unfold items at hi
          simp only at hi
          split at hi
          · rename_i es hk
            cases hi
            obtain ⟨vs, q1, q2⟩ := ObjR.sqL (.inl (r.ob _ _ _ hm hk))
            exact ⟨a, vs, rfl, .inl ⟨q1, fun q o hq ho => PostE.tup p r q2 q o hq ho⟩⟩
          · rename_i es hk
            cases hi
            obtain ⟨vs, q1, q2⟩ := ObjR.sqL (.inr (r.ob _ _ _ hm hk))
            exact ⟨a, vs, rfl, .inl ⟨q1, fun q o hq ho => PostE.tup p r q2 q o hq ho⟩⟩
          · cases hi
        | _ => cases hi
    · exact False.elim p
  · exact False.elim p
def bls : List D → Option (List Bool)
  | [] => some []
  | .bl b :: r => (bls r).map (b :: ·)
  | _ => none
theorem bls_rep {K : PySem.W.Frag} {m : List Addr} {H : Hp} : ∀ {vs : List V} {ds : List D} {bs : List Bool}, RepL K m H vs ds → bls ds = some bs → vs = bs.map V.bl
  | _, _, bs, .nil, e => by cases e; rfl
  | _, _, bs, .cons (d := d) r t, e => by
    cases d with
    | bl b =>
      obtain ⟨bs', h1, rfl⟩ := Option.map_eq_some_iff.mp e
      rw [r.bl_inv, bls_rep t h1]
      rfl
    | _ => cases e
/-- all, any of a list of truth values -/
def bQuant (g : List Bool → Bool) (ds : List D) (h : Hm) : RD := match ds with
  | [.ref k] => match h[k]? with
    | some (.lst xs) => match bls xs with
      | some bs => .ok (.bl (g bs)) h
      | none => .bad
    | _ => .bad
  | _ => .bad
theorem cs_quant (g : List Bool → Bool) : CallS X (fun vs H Q => ∃ (a : Addr) (bs : List Bool), vs = [V.ref a] ∧ SqL X.K H a (bs.map V.bl) ∧ Q (.bl (g bs)) H) (bQuant g) := by
  intro W m H h vs ds Q r rv p
  unfold bQuant at p
  split at p
  · split at p
    · rename_i k xs hk
      split at p
      · rename_i bs hb
        cases rv with
        | cons r1 r2 =>
          cases r2
          obtain ⟨a, rfl, hm⟩ := r1.ref_inv
          obtain ⟨ws, q1, q2⟩ := r.ob _ _ _ hm hk
          exact ⟨a, bs, rfl, .inl (.inl (by rw [q1, bls_rep q2 hb])), p.val r (.bl _)⟩
      · exact False.elim p
    · exact False.elim p
  · exact False.elim p
abbrev bAll := bQuant fun bs => bs.all id
abbrev bAny := bQuant fun bs => bs.any id

/-! ### isinstance(x, T), T a built-in type -/
def tyN (h : Hm) : D → Option String
  | .non => some "NoneType"
  | .bl _ => some "bool"
  | .int _ => some "int"
  | .str _ => some "str"
  | .tup _ => some "tuple"
  | .ref n => match h[n]? with
    | some (.lst _) => some "list"
    | some (.scr _) => some "list"
    | some (.dk _) => some "dict"
    | _ => none
  | .scl _ => none
def isiB (T : String) (h : Hm) (d : D) : Option Bool := (tyN h d).bind fun a => kitB a T
def eIsi (T : String) (fo : FE) : FE := fun s h => (fo s h).bind fun d h1 => match isiB T h1 d with
  | some b => .ok (.bl b) h1
  | none => .bad
theorem tyN_ok {K : PySem.W.Frag} {mg : Str → Option Value} {m : List Addr} {H : Hp} {h : Hm} (r : R K mg m H h) {v : V} {d : D} {n : String} (x : Rep K m H v d) (e : tyN h d = some n) : TyX K H v (.type n) := by
  cases d with
  | non => cases e; cases x; exact .base .non
  | bl b => cases e; cases x; exact .base (.bl b)
  | int b => cases e; cases x; exact .base (.int b)
  | str b => cases e; cases x; exact .base (.str b)
  | tup ds =>
    cases e
    obtain ⟨a, vs, rfl, t, _⟩ := x.tup_inv
    rcases t with ⟨o, h1, _⟩ | ⟨o, its, n, h1, h2, _⟩
    · exact .fTuple h1
    · exact .kTuple h1 h2
  | scl ds => cases e
  | ref k =>
    obtain ⟨a, rfl, hm⟩ := x.ref_inv
    unfold tyN at e
    simp only at e
    split at e
    · rename_i ds hk
      cases e
      obtain ⟨vs, q1, q2⟩ := r.ob _ _ _ hm hk
      exact .base (.lst q1)
    · rename_i ds hk
      cases e
      obtain ⟨vs, q1, q2⟩ := r.ob _ _ _ hm hk
      rcases q1 with q1 | ⟨ob, q1⟩
      · exact .base (.lst q1)
      · exact .base (.frz q1)
    · rename_i ds hk
      cases e
      obtain ⟨vs, q1, q2⟩ := r.ob _ _ _ hm hk
      exact .base (.dK q1)
    · cases e
theorem se_isi {x T : Str} {t : String} {p p2 : Pos} (he : SE X W o fo) (hg : Gl X x) (hm : X.mg x = none) (hv : bootBuiltins x = some (.builtin "isinstance")) (hT : Gl X T) (hmT : X.mg T = none) (hvT : bootBuiltins T = some (.type t)) (hn : x ≠ "__name__" := by decide)
    (hdb : (x == ("__debug__" : Str)) = false := by decide) (hnT : T ≠ "__name__" := by decide) (hdbT : (T == ("__debug__" : Str)) = false := by decide)
    (hst : starEach (o :: [.Name T p2]) X.env = (false, eval o X.env) :: starEach [.Name T p2] X.env := by rfl) (hpl : (backTo pos (starEach [.Name T p2] X.env)).any (·.1) = false := by rfl) (hst2 : starEach [.Name T p2] X.env = (false, eval (.Name T p2) X.env) :: starEach [] X.env := by rfl) :
    SE X W (.Call (.Name x p) (o :: [.Name T p2]) [] pos) (eIsi t fo) := by
  refine PE.imp (pe_callB call_isi hg hm hv (pa_cons he (pa_cons (pe_bltn (v := .ty t) hT hmT hvT rfl hnT hdbT) pa_nil hst2) hst) hn hdb hst hpl) fun σ H Q h => ?_
  obtain ⟨m, s, h, R0, rs, p⟩ := h
  refine ⟨m, s, h, R0, rs, PostE.mono (PostE.bind p) ?_⟩
  rintro x H1 ⟨m1, dx, h1, g1, R1, rx, p1⟩
  try dsimp only at p1
  split at p1
  · rename_i b hb
    obtain ⟨n, h1, h2⟩ := Option.bind_eq_some_iff.mp hb
    exact ⟨x, .ty t, .type n, .type t, b, rfl, .ty t, tyN_ok R1 rx h1, kit_ty h2, p1.val R1 (.bl _)⟩
  · exact False.elim p1

/-! ### a list's own methods -/
def eLm (g : Nat → List D → List D → Hm → RD) (fo : FE) (fs : List FE) : FE := fun s h => (fo s h).bind fun d h1 => match d with
  | .ref n => match h1[n]? with
    | some (.lst _) => eArgs (fun ds h2 => match h2[n]? with
      | some (.lst xs) => g n xs ds h2
      | _ => .bad) fs s h1
    | _ => .bad
  | _ => .bad
/-- the method by values bears the one by data -/
def LmS (X : Cx) (r : V → List V → Hp → VK → Prop) (g : Nat → List D → List D → Hm → RD) : Prop := ∀ (W : XK) (m : List Addr) (H : Hp) (h : Hm) (n : Nat) (a : Addr) (xs : List D) (us vs : List V) (ds : List D) (Q : VK),
  R X.K X.mg m H h → m[n]? = some a → h[n]? = some (.lst xs) → H a = some (.lst us) → RepL X.K m H us xs → RepL X.K m H vs ds → PostE X.K X.mg W m H (g n xs ds h) Q → r (.ref a) vs H Q
variable {name : Str} {id : String} {r : V → List V → Hp → VK → Prop} {g : Nat → List D → List D → Hm → RD}
theorem lm_ok (hr : LmS X r g) {σ : L2.St} {H : Hp} {Q : VK} {to : TE} {t : TA} (ht : t = tSA X.K X.mg W (evalL fs)) (h : tS X.K X.mg W (eLm g fo fs) σ H Q) : tBM X.K "list" r (tS X.K X.mg W fo) t σ H Q := by
  subst ht
  obtain ⟨m, s, h, R0, rs, p⟩ := h
  refine ⟨m, s, h, R0, rs, PostE.mono (PostE.bind p) ?_⟩
  rintro x H1 ⟨m1, dx, h1, g1, R1, rx, p1⟩
  try dsimp only at p1
  split at p1
  · split at p1
    · rename_i n _ xs hk
      obtain ⟨a, rfl, hm⟩ := rx.ref_inv
      obtain ⟨us, q1, q2⟩ := R1.ob _ _ _ hm hk
      refine ⟨.inl ⟨rfl, us, .inl (.inl q1)⟩, ?_⟩
      refine args_ok' (r := fun xs H2 Q => r (.ref a) xs H2 Q) R1 (rs.grow g1) p1 fun m2 H2 vs ds h2 g2 R2 rvs ee p2 => ?_
      try dsimp only at p2
      split at p2
      · rename_i ys hk2
        have hm2 := g2.loc _ _ hm
        obtain ⟨us2, q3, q4⟩ := R2.ob _ _ _ hm2 hk2
        exact hr _ m2 H2 h2 n a ys us2 vs ds Q R2 hm2 hk2 q3 q4 rvs p2
      · exact False.elim p2
    · exact False.elim p1
  · exact False.elim p1
end
end Sh

set_option Elab.async false
set_option linter.all false
set_option maxRecDepth 100000
set_option maxHeartbeats 4000000
namespace Sh
open PySem L2 PyProof.Rows
section
variable {X : Cx} {W : WX} {e a b c o : Expr} {f fa fb fc fo : FE} {pos apos cpos : Pos} {es : List Expr} {fs : List FE} {name : Str} {id : String} {r : V → List V → Hp → VK → Prop} {g : Nat → List D → List D → Hm → RD}
theorem se_lm (pa : PlainAttrs "list") (slot : Slot "list" name id) (hty : typeOf (.builtin id) = pure (.type "method_descriptor")) (hm : MtR X id r) (hr : LmS X r g) (ho : SE X W o fo) (ha : SA X W (e :: es) (evalL fs))
    (hbase : attributeBase o name X.env (eval o X.env) = eval o X.env := by rfl)
    (hfew : ((backTo cpos (starEach (e :: es) X.env)).all (fun x => !x.1) && (backToKw cpos (keywordEach [] X.env)).all (fun x => x.1.isSome)
      && decide ((e :: es).length + ([] : List Keyword).length + (if ([] : List Keyword).isEmpty then 0 else 1) < 30)) = true := by rfl)
    (hline : (apos.endLine == cpos.line) = true := by rfl) (hs : starEach (e :: es) X.env = (false, eval e X.env) :: starEach es X.env := by rfl) (hplain : (backTo cpos (starEach es X.env)).any (·.1) = false := by rfl) :
    SE X W (.Call (.Attribute o name apos) (e :: es) [] cpos) (eLm g fo fs) :=
  PE.imp (pe_bm pa slot hty hm ho ha hbase hfew hline hs hplain) fun σ H Q h => lm_ok (to := tS X.K X.mg W fo) hr rfl h
theorem se_lm0 (pa : PlainAttrs "list") (slot : Slot "list" name id) (hty : typeOf (.builtin id) = pure (.type "method_descriptor")) (hm : MtR X id r) (hr : LmS X r g) (ho : SE X W o fo)
    (hbase : attributeBase o name X.env (eval o X.env) = eval o X.env := by rfl) (hline : (apos.endLine == cpos.line) = true := by rfl) : SE X W (.Call (.Attribute o name apos) [] [] cpos) (eLm g fo []) := by
  refine PE.imp (pe_bm0 pa slot hty hm ho hbase hline) fun σ H Q h => ?_
  obtain ⟨m, s, h, R0, rs, p⟩ := h
  refine ⟨m, s, h, R0, rs, PostE.mono (PostE.bind p) ?_⟩
  rintro x H1 ⟨m1, dx, h1, g1, R1, rx, p1⟩
  try dsimp only at p1
  split at p1
  · split at p1
    · rename_i n _ xs hk
      obtain ⟨a, rfl, hm⟩ := rx.ref_inv
      obtain ⟨us, q1, q2⟩ := R1.ob _ _ _ hm hk
      refine ⟨.inl ⟨rfl, us, .inl (.inl q1)⟩, ?_⟩
      simp only [eArgs, evalL, hk] at p1
      exact hr _ m1 H1 h1 n a xs us [] [] Q R1 hm hk q1 q2 .nil p1
    · exact False.elim p1
  · exact False.elim p1

/-! the methods -/
def lAppend (n : Nat) (xs ds : List D) (h : Hm) : RD := match ds with
  | [d] => if xs.length < big then .ok .non (h.set n (.lst (xs ++ [d]))) else .bad
  | _ => .bad
theorem big_lt {n : Nat} (h : n < big) : n < sizeLine := by
  rw [sizeLine_eq]
  unfold big at h
  omega
theorem R.lset {K : PySem.W.Frag} {mg : Str → Option Value} {m : List Addr} {H : Hp} {h : Hm} {n : Nat} {a : Addr} {xs ys : List D} {vs : List V} (r : R K mg m H h) (hm : m[n]? = some a) (hk : h[n]? = some (.lst xs)) (l : RepL K m H vs ys) :
    Grow m H m (upd H a (.lst vs)) ∧ R K mg m (upd H a (.lst vs)) (h.set n (.lst ys)) := by
  have xo := r.ob _ _ _ hm hk
  have g : Grow m H m (upd H a (.lst vs)) := Grow.set xo rfl
  exact ⟨g, r.set hm hk rfl ⟨vs, upd_same, l.grow g⟩⟩
theorem ls_append : LmS X rAppend lAppend := by
  intro W m H h n a xs us vs ds Q r hm hk hu l1 l2 p
  unfold lAppend at p
  split at p
  · split at p
    · rename_i d hz
      cases l2 with
      | cons rv rn =>
        cases rn
        obtain ⟨g, r2⟩ := r.lset hm hk (l1.app (.cons rv .nil))
        exact ⟨a, us, _, rfl, rfl, hu, big_lt (by rw [l1.length]; exact hz), p m _ _ g r2 .non⟩
    · exact False.elim p
  · exact False.elim p
def lExtend (n : Nat) (xs ds : List D) (h : Hm) : RD := match ds with
  | [.ref k] => match h[k]? with
    | some (.lst ys) => if xs.length + ys.length ≤ big then .ok .non (h.set n (.lst (xs ++ ys))) else .bad
    | _ => .bad
  | _ => .bad
theorem ls_extend : LmS X rExtend lExtend := by
  intro W m H h n a xs us vs ds Q r hm hk hu l1 l2 p
  unfold lExtend at p
  split at p
  · split at p
    · rename_i k _ ys hy
      split at p
      · rename_i hz
        cases l2 with
        | cons rv rn =>
          cases rn
          obtain ⟨b, rfl, hb⟩ := rv.ref_inv
          obtain ⟨ws, q1, q2⟩ := r.ob _ _ _ hb hy
          obtain ⟨g, r2⟩ := r.lset hm hk (l1.app q2)
          have e1 := l1.length
          have e2 := q2.length
          exact ⟨a, b, us, ws, rfl, rfl, hu, q1, big_line (by omega), p m _ _ g r2 .non⟩
      · exact False.elim p
    · exact False.elim p
  · exact False.elim p
def lPopAt (n : Nat) (xs ds : List D) (h : Hm) : RD := match ds with
  | [.int i] => if -(2 ^ 63) ≤ i ∧ i < 2 ^ 63 then (match seqIndex? i xs.length with
    | some k => match xs[k]? with
      | some d => .ok d (h.set n (.lst (xs.eraseIdx k)))
      | none => .bad
    | none => .bad) else .bad
  | _ => .bad
theorem ls_popAt : LmS X rPopAt lPopAt := by
  intro W m H h n a xs us vs ds Q r hm hk hu l1 l2 p
  unfold lPopAt at p
  split at p
  · split at p
    · rename_i i hz
      split at p
      · rename_i k hk2
        split at p
        · rename_i d hd
          cases l2 with
          | cons rv rn =>
            cases rn
            cases rv
            obtain ⟨v, h1, h2⟩ := l1.get hd
            obtain ⟨g, r2⟩ := r.lset hm hk (l1.eraseIdx k)
            exact ⟨a, us, i, k, v, rfl, rfl, hu, hz.1, hz.2, by rw [l1.length]; exact hk2, h1, p m _ _ g r2 (h2.grow g)⟩
        · exact False.elim p
      · exact False.elim p
    · exact False.elim p
  · exact False.elim p
def lClear (n : Nat) (xs ds : List D) (h : Hm) : RD := match ds with
  | [] => .ok .non (h.set n (.lst []))
  | _ => .bad
theorem ls_clear : LmS X rClear lClear := by
  intro W m H h n a xs us vs ds Q r hm hk hu l1 l2 p
  unfold lClear at p
  split at p
  · cases l2
    obtain ⟨g, r2⟩ := r.lset hm hk .nil
    exact ⟨a, us, rfl, rfl, hu, p m _ _ g r2 .non⟩
  · exact False.elim p

/-! ### a tuple's count -/
def eTm (g : List D → List D → Hm → RD) (fo : FE) (fs : List FE) : FE := fun s h => (fo s h).bind fun d h1 => match d with
  | .tup xs => eArgs (fun ds h2 => g xs ds h2) fs s h1
  | _ => .bad
def TmS (X : Cx) (r : V → List V → Hp → VK → Prop) (g : List D → List D → Hm → RD) : Prop := ∀ (W : XK) (m : List Addr) (H : Hp) (h : Hm) (a : Addr) (xs : List D) (us vs : List V) (ds : List D) (Q : VK),
  R X.K X.mg m H h → TupS X.K H a us → RepL X.K m H us xs → RepL X.K m H vs ds → PostE X.K X.mg W m H (g xs ds h) Q → r (.ref a) vs H Q
variable {gt : List D → List D → Hm → RD}
theorem se_tm (pa : PlainAttrs "tuple") (slot : Slot "tuple" name id) (hty : typeOf (.builtin id) = pure (.type "method_descriptor")) (hm : MtR X id r) (hr : TmS X r gt) (ho : SE X W o fo) (ha : SA X W (e :: es) (evalL fs))
    (hbase : attributeBase o name X.env (eval o X.env) = eval o X.env := by rfl)
    (hfew : ((backTo cpos (starEach (e :: es) X.env)).all (fun x => !x.1) && (backToKw cpos (keywordEach [] X.env)).all (fun x => x.1.isSome)
      && decide ((e :: es).length + ([] : List Keyword).length + (if ([] : List Keyword).isEmpty then 0 else 1) < 30)) = true := by rfl)
    (hline : (apos.endLine == cpos.line) = true := by rfl) (hs : starEach (e :: es) X.env = (false, eval e X.env) :: starEach es X.env := by rfl) (hplain : (backTo cpos (starEach es X.env)).any (·.1) = false := by rfl) :
    SE X W (.Call (.Attribute o name apos) (e :: es) [] cpos) (eTm gt fo fs) := by
  refine PE.imp (pe_tm pa slot hty hm ho ha hbase hfew hline hs hplain) fun σ H Q h => ?_
  obtain ⟨m, s, h, R0, rs, p⟩ := h
  refine ⟨m, s, h, R0, rs, PostE.mono (PostE.bind p) ?_⟩
  rintro x H1 ⟨m1, dx, h1, g1, R1, rx, p1⟩
  cases dx with
  | tup xs =>
    obtain ⟨a, us, rfl, t1, l1⟩ := rx.tup_inv
    refine ⟨⟨a, us, rfl, t1⟩, ?_⟩
    exact args_ok' (r := fun xs H2 Q => r (.ref a) xs H2 Q) R1 (rs.grow g1) p1 fun m2 H2 vs ds h2 g2 R2 rvs ee p2 => hr _ m2 H2 h2 a xs us vs ds Q R2 (g2.tupS t1) (l1.grow g2) rvs p2
  | _ => exact False.elim p1
def rCntT (K : PySem.W.Frag) : V → List V → Hp → VK → Prop := fun x vs H Q => ∃ (p : Addr) (ys : List V) (y : V) (ps : List PyData) (d : PyData), x = .ref p ∧ vs = [y] ∧ SqT K H p ys ∧ DpAll K H ys ps ∧ Dp K H y d ∧
  PyData.plainAll ps = true ∧ d.plain = true ∧ PyData.depthAll ps ≤ 60 ∧ Q (.int ((ps.countP fun z => PyData.eqv z d : Nat) : Int)) H
theorem mt_tcount (hu : X.A.units + 64 < cLine) : MtR X "tuple.count" (rCntT X.K) := by
  intro pins s σ H x xs v us Q I rx rxs h
  obtain ⟨p, ys, y, ps, d, rfl, rfl, ht, hp, hd, h1, h2, h3, q⟩ := h
  cases rx
  obtain ⟨u, rfl, ru⟩ := rxs.one
  obtain ⟨its, rv, pl, hz⟩ := I.tuple ht
  obtain ⟨as, r1⟩ := Dp.readsAll I ps _ its hp rv
  obtain ⟨bs, r2⟩ := Dp.reads I d y u hd ru
  exact SeqAt.count_tuple_data (show s.heap.IsTuple p its.toArray from pl) (show ReadsAll s.heap its.toArray.toList ps as from r1) r2 h1 h2 (by have := Nat.min_le_left (PyData.depthAll ps) d.depth; omega) ⟨.int _, H, I.tok _, ⟨_, rfl⟩, q⟩
/-- flat things as the library has them -/
def flatP : D → PyData
  | .bl b => .bool b | .int i => .int i | .str x => .str x
  | _ => .none
theorem flat_dp {K : PySem.W.Frag} {m : List Addr} {H : Hp} {x : V} {d : D} (r : Rep K m H x d) (f : flatD d = true) : Dp K H x (flatP d) := by
  cases r <;> first | exact .non | exact .bl _ | exact .int _ | exact .str _ | cases f
theorem flat_dpL {K : PySem.W.Frag} {m : List Addr} {H : Hp} : ∀ {vs : List V} {ds : List D}, RepL K m H vs ds → ds.all flatD = true → DpAll K H vs (ds.map flatP)
  | _, _, .nil, _ => .nil
  | _, _, .cons r t, f => by
    rw [List.all_cons, Bool.and_eq_true] at f
    exact .cons (flat_dp r f.1) (flat_dpL t f.2)
theorem flat_plain : ∀ d : D, (flatP d).plain = true := by intro d; cases d <;> rfl
theorem flat_plainAll : ∀ ds : List D, PyData.plainAll (ds.map flatP) = true
  | [] => rfl
  | d :: ds => by
    rw [List.map_cons]
    show ((flatP d).plain && PyData.plainAll (ds.map flatP)) = true
    rw [flat_plain, flat_plainAll ds]
    rfl
theorem flat_depth : ∀ d : D, (flatP d).depth = 0 := by intro d; cases d <;> rfl
theorem flat_depthAll : ∀ ds : List D, PyData.depthAll (ds.map flatP) ≤ 60
  | [] => by simp [PyData.depthAll]
  | d :: ds => by
    have ih := flat_depthAll ds
    have e := flat_depth d
    rw [List.map_cons]
    simp only [PyData.depthAll]
    omega
theorem flat_eqv {a b : D} (ha : flatD a = true) (hb : flatD b = true) : PyData.eqv (flatP a) (flatP b) = eqF a b := by
  cases a <;> cases b <;> first
    | rfl
    | (cases ha; done)
    | (cases hb; done)
    | (rename_i x y; cases x <;> cases y <;> rfl)
    | (rename_i x y; cases x <;> rfl)
    | (rename_i x y; cases y <;> rfl)
def tCount (xs ds : List D) (h : Hm) : RD := match ds with
  | [d] => if flatD d = true ∧ xs.all flatD = true then .ok (.int ((xs.countP fun z => eqF z d : Nat) : Int)) h else .bad
  | _ => .bad
theorem ts_count : TmS X (rCntT X.K) tCount := by
  intro W m H h a xs us vs ds Q r ht l1 l2 p
  unfold tCount at p
  split at p
  · split at p
    · rename_i d hf
      cases l2 with
      | cons rv rn =>
        cases rn
        refine ⟨a, us, _, xs.map flatP, flatP d, rfl, rfl, ht.sqT, flat_dpL l1 hf.2, flat_dp rv hf.1, flat_plainAll _, flat_plain _, flat_depthAll _, ?_⟩
        have e : (xs.map flatP).countP (fun z => PyData.eqv z (flatP d)) = xs.countP fun z => eqF z d := by
          rw [List.countP_map]
          refine List.countP_congr fun z hz => ?_
          have hz' := List.all_eq_true.mp hf.2 z hz
          simp only [Function.comp]
          rw [flat_eqv hz' hf.1]
        rw [e]
        exact p.val r (.int _)
    · exact False.elim p
  · exact False.elim p

/-! ### list(range(..)) -/
def rgD (a b : Int) : List D := (List.range (b - a).toNat).map fun i => D.int (a + (i : Nat))
theorem rg_rep {K : PySem.W.Frag} {m : List Addr} {H : Hp} (a b : Int) : RepL K m H (rgV a b) (rgD a b) := by
  unfold rgV rgD
  generalize List.range (b - a).toNat = l
  induction l with
  | nil => exact .nil
  | cons i l ih => exact .cons (.int _) ih
def bListRg (d : D) (h : Hm) : RD := match d with
  | .int n => if n ≤ 1000000 ∧ -1000000 ≤ n then .ok (.ref h.length) (h ++ [.lst (rgD 0 n)]) else .bad
  | _ => .bad
def eListRg (fo : FE) : FE := fun s h => (fo s h).bind bListRg
theorem se_listRg {p p2 pos2 : Pos} (hc : X.calm = true) (hg : Gl X "list") (hm : X.mg "list" = none) (hg2 : Gl X "range") (hm2 : X.mg "range" = none) (ho : SE X W o fo)
    (na : starEach [o] X.env = (false, eval o X.env) :: starEach [] X.env := by rfl) (na2 : starEach [.Call (.Name "range" p2) [o] [] pos2] X.env = (false, eval (.Call (.Name "range" p2) [o] [] pos2) X.env) :: starEach [] X.env := by rfl) :
    SE X W (.Call (.Name "list" p) [.Call (.Name "range" p2) [o] [] pos2] [] pos) (eListRg fo) := by
  refine PE.imp (pe_listRg hc hg hm (prg_1 hg2 hm2 ho na) na2) fun σ H Q h => ?_
  obtain ⟨m, s, h, R0, rs, p⟩ := h
  refine ⟨m, s, h, R0, rs, PostE.mono (PostE.bind p) ?_⟩
  rintro x H1 ⟨m1, dx, h1, g1, R1, rx, p1⟩
  unfold bListRg at p1
  split at p1
  · split at p1
    · rename_i n hn
      cases rx
      exact ⟨n, rfl, ⟨by omega, by omega, by omega, by omega, by omega⟩, PostE.lst p1 R1 (rg_rep 0 n)⟩
    · exact False.elim p1
  · exact False.elim p1

/-! ### own methods, instances -/
variable {k n : Nat} {fA C : Addr} {fd : FuncData} {ps : List Str} {F : FF} {mn : Str}
def tMethS (C : Addr) (m : Str) (sp : Sp) (E : L2.St → XK) (ta : TE) (t : TA) : TE := fun σ H Q => ta σ H fun x H1 => ∃ a dx fs, x = .ref a ∧ H1 a = some (.ins C dx fs) ∧ fs.lookup m = none ∧ t σ H1 fun vs H2 => sp (x :: vs) H2 Q (E σ)
theorem pe_methS {CX : CXT} {sp : Sp} {E : L2.St → XK} {ta : TE} {t : TA} {pl : Sem Bool} (he : PE X o ta) (c : Cls X.K C) (hm : Meth X.K C mn fA) (F : FnOk X.prog X.w X.K X.mg X.base CX k fA fd ps sp) (hr : Room k X.A) (hb : Binds X.K fd ps []) (hx : ∀ σ, PassesAt CX X σ (E σ)) (ha : PA X (e :: es) t)
    (hst : starEach (e :: es) X.env = (false, eval e X.env) :: starEach es X.env := by rfl) (hpl : (backTo pos (starEach es X.env)).any (·.1) = false := by rfl)
    (ht : eval (.Call (.Attribute o mn apos) (e :: es) [] pos) X.env = (do
      let ov ← eval o X.env
      standAt apos.atName
      let (f, first) ← holding [ov] (getMethod ov mn pl)
      callWith pos f first (backTo pos (starEach (e :: es) X.env)) (backToKw pos (keywordEach [] X.env))) := by rfl) :
    PE X (.Call (.Attribute o mn apos) (e :: es) [] pos) (tMethS C mn sp E ta t) := by
  refine ⟨fun pins s σ H Q I h => ?_⟩
  refine PySem.W.methodCall_KW (pl := pl) (thn (he.run pins s σ H _ I h) fun u s1 ⟨x, H1, I1, rx, a, dx, fs, ex, ea, l, q⟩ => ?_) ht
  subst ex
  obtain rfl : u = Value.ref a := rx
  refine getmeth_ok I1 ea c hm l ?_
  refine PySem.W.callWith_K (first := [.ref a]) (h₀ := X.base) I.ok.mod.kin hm.kp (thn (ha.run pos pins s1 σ H1 _ I1 q) fun us s2 ⟨vs, H2, I2, r, q2⟩ => ⟨I2.kIn, ?_⟩) hst hpl
  exact run_fnS (us := .ref a :: us) (vs := .ref a :: vs) F hr hb (hx σ) I2 (.cons rfl r) q2
theorem pe_methS0 {CX : CXT} {sp : Sp} {E : L2.St → XK} {ta : TE} {pl : Sem Bool} (he : PE X o ta) (c : Cls X.K C) (hm : Meth X.K C mn fA) (F : FnOk X.prog X.w X.K X.mg X.base CX k fA fd ps sp) (hr : Room k X.A) (hb : Binds X.K fd ps []) (hx : ∀ σ, PassesAt CX X σ (E σ))
    (ht : eval (.Call (.Attribute o mn apos) [] [] pos) X.env = (do
      let ov ← eval o X.env
      standAt apos.atName
      let (f, first) ← holding [ov] (getMethod ov mn pl)
      callWith pos f first (backTo pos (starEach [] X.env)) (backToKw pos (keywordEach [] X.env))) := by rfl) :
    PE X (.Call (.Attribute o mn apos) [] [] pos) (tMethS C mn sp E ta tNil) := by
  refine ⟨fun pins s σ H Q I h => ?_⟩
  refine PySem.W.methodCall_KW (pl := pl) (thn (he.run pins s σ H _ I h) fun u s1 ⟨x, H1, I1, rx, a, dx, fs, ex, ea, l, q⟩ => ?_) ht
  subst ex
  obtain rfl : u = Value.ref a := rx
  refine getmeth_ok I1 ea c hm l ?_
  exact PySem.W.callWith_K0 (first := [.ref a]) I1.kIn hm.kp (run_fnS (us := [.ref a]) (vs := [.ref a]) F hr hb (hx σ) I1 (.cons rfl .nil) q)
def eMeth (c mn : Str) (F : FF) (fo : FE) (fs : List FE) : FE := fun s h => (fo s h).bind fun d h1 => match d with
  | .ref n => match h1[n]? with
    | some (.ins c' fl) => if c' = c ∧ fl.lookup mn = none then eArgs (fun ds h2 => F (.ref n :: ds) h2) fs s h1 else .bad
    | _ => .bad
  | _ => .bad
theorem meth_ok {cn : Str} (gC : X.mg cn = some (.ref C)) (hl : fs.length + 1 = ps.length) {σ : L2.St} {H : Hp} {Q : VK} {t : TA} (ht : t = tSA X.K X.mg W (evalL fs)) (h : tS X.K X.mg W (eMeth cn mn F fo fs) σ H Q) : tMethS C mn (spF X.K X.mg ps.length F) (WE W) (tS X.K X.mg W fo) t σ H Q := by
  subst ht
  obtain ⟨m, s, h, R0, rs, p⟩ := h
  refine ⟨m, s, h, R0, rs, PostE.mono (PostE.bind p) ?_⟩
  rintro x H1 ⟨m1, dx, h1, g1, R1, rx, p1⟩
  try dsimp only at p1
  split at p1
  · split at p1
    · rename_i n _ c' fl hk
      split at p1
      · rename_i hc
        obtain ⟨hc, hl2⟩ := hc
        subst hc
        obtain ⟨a, rfl, hm⟩ := rx.ref_inv
        obtain ⟨C', dx', fv, q0, q1, q2⟩ := R1.ob _ _ _ hm hk
        rw [gC] at q0
        cases q0
        refine ⟨a, dx', fv, rfl, q1, (RepF.look q2).2 hl2, ?_⟩
        refine args_ok' (r := fun vs H2 Q => spF X.K X.mg ps.length F (.ref a :: vs) H2 Q (WE W σ)) R1 (rs.grow g1) p1 fun m2 H2 vs ds h2 g2 R2 rvs ee p2 => ?_
        refine ⟨?_, m2, .ref n :: ds, h2, R2, .cons (.ref (g2.loc _ _ hm)) rvs, p2⟩
        rw [List.length_cons, rvs.length, evalL_length ee]
        exact hl
      · exact False.elim p1
    · exact False.elim p1
  · exact False.elim p1
theorem se_meth {cn : Str} {pl : Sem Bool} (G : FnS X k fA fd ps F) (tk : Takes X W) (hr : Room k X.A) (gC : X.mg cn = some (.ref C)) (cl : Cls X.K C) (hm : Meth X.K C mn fA) (hb : Binds X.K fd ps []) (ho : SE X W o fo) (ha : SA X W (e :: es) (evalL fs)) (hl : decide (fs.length + 1 = ps.length) = true := by rfl)
    (hst : starEach (e :: es) X.env = (false, eval e X.env) :: starEach es X.env := by rfl) (hpl : (backTo pos (starEach es X.env)).any (·.1) = false := by rfl)
    (ht : eval (.Call (.Attribute o mn apos) (e :: es) [] pos) X.env = (do
      let ov ← eval o X.env
      standAt apos.atName
      let (f, first) ← holding [ov] (getMethod ov mn pl)
      callWith pos f first (backTo pos (starEach (e :: es) X.env)) (backToKw pos (keywordEach [] X.env))) := by rfl) : SE X W (.Call (.Attribute o mn apos) (e :: es) [] pos) (eMeth cn mn F fo fs) :=
  PE.imp (pe_methS ho cl hm G hr hb (fun σ => passAt tk σ) ha hst hpl ht) fun σ H Q h => meth_ok gC (of_decide_eq_true hl) rfl h
theorem se_meth0 {cn : Str} {pl : Sem Bool} (G : FnS X k fA fd ps F) (tk : Takes X W) (hr : Room k X.A) (gC : X.mg cn = some (.ref C)) (cl : Cls X.K C) (hm : Meth X.K C mn fA) (hb : Binds X.K fd ps []) (ho : SE X W o fo) (hl : decide (1 = ps.length) = true := by rfl)
    (ht : eval (.Call (.Attribute o mn apos) [] [] pos) X.env = (do
      let ov ← eval o X.env
      standAt apos.atName
      let (f, first) ← holding [ov] (getMethod ov mn pl)
      callWith pos f first (backTo pos (starEach [] X.env)) (backToKw pos (keywordEach [] X.env))) := by rfl) : SE X W (.Call (.Attribute o mn apos) [] [] pos) (eMeth cn mn F fo []) := by
  refine PE.imp (pe_methS0 ho cl hm G hr hb (fun σ => passAt tk σ) ht) fun σ H Q h => ?_
  obtain ⟨m, s, h, R0, rs, p⟩ := h
  refine ⟨m, s, h, R0, rs, PostE.mono (PostE.bind p) ?_⟩
  rintro x H1 ⟨m1, dx, h1, g1, R1, rx, p1⟩
  try dsimp only at p1
  split at p1
  · split at p1
    · rename_i n _ c' fl hk
      split at p1
      · rename_i hc
        obtain ⟨hc, hl2⟩ := hc
        subst hc
        obtain ⟨a, rfl, hm⟩ := rx.ref_inv
        obtain ⟨C', dx', fv, q0, q1, q2⟩ := R1.ob _ _ _ hm hk
        rw [gC] at q0
        cases q0
        exact ⟨a, dx', fv, rfl, q1, (RepF.look q2).2 hl2, of_decide_eq_true hl, m1, [.ref n], h1, R1, .cons (.ref hm) .nil, p1⟩
      · exact False.elim p1
    · exact False.elim p1
  · exact False.elim p1
/-- self.f = e -/
def gFld (c f : Str) (fo fe : FE) : FS := fun s h => match fe s h with
  | .ok y h1 => (match fo s h1 with
    | .ok (.ref n) h2 => match h2[n]? with
      | some (.ins c' fl) => if c' = c ∧ fl.length < 900 ∧ fl.lookup f = none then .nx s (h2.set n (.ins c (fl ++ [(f, y)]))) else .bad
      | _ => .bad
    | .ok _ _ => .bad
    | .exc x fs h2 => .exc x fs s h2
    | .bad => .bad)
  | .exc x fs h2 => .exc x fs s h2
  | .bad => .bad
end
end Sh

set_option Elab.async false
set_option linter.all false
set_option maxRecDepth 100000
set_option maxHeartbeats 4000000
namespace Sh
open PySem L2 PyProof.Rows
/-! ### results of expressions in statements -/
def RD.st (r : RD) (s : DS) (k : D → Hm → RT) : RT := match r with
  | .ok d h => k d h
  | .exc c fs h => .exc c fs s h
  | .bad => .bad
@[simp] theorem RD.st_ok (d : D) (h : Hm) (s : DS) (k : D → Hm → RT) : (RD.ok d h).st s k = k d h := rfl
@[simp] theorem RD.st_exc (c fs) (h : Hm) (s : DS) (k : D → Hm → RT) : (RD.exc c fs h).st s k = .exc c fs s h := rfl
@[simp] theorem RD.st_bad (s : DS) (k : D → Hm → RT) : RD.bad.st s k = .bad := rfl
section
variable {K : PySem.W.Frag} {mg : Str → Option Value} {W : WX} {m m1 : List Addr} {H H1 : Hp} {r : RD}
theorem PostS.ofE {s : DS} {σ : L2.St} {k : D → Hm → RT} {E : Ends} (rs : RS K m H σ s) (p : PostS K mg W m H (r.st s k) E) :
    PostE K mg (fun c d H' => W c d σ H') m H r (Got K mg m H fun m' H' d h' => PostS K mg W m' H' (k d h') E) := by
  cases r with
  | ok d h => exact fun m' H' v g' r' rep => ⟨m', d, h, g', r', rep, PostS.grow p g'⟩
  | exc c fs h => exact fun m' H' cls dx g r' x => p m' H' σ cls dx g r' (rs.grow g) x
  | bad => exact p
end
def gSeq (a b : FS) : FS := fun s h => match a s h with
  | .nx s' h' => b s' h'
  | r => r
def gNext : FS := fun s h => .nx s h
def gDrop (f : FE) : FS := fun s h => (f s h).st s fun _ h1 => .nx s h1
def gRet (f : FE) : FS := fun s h => (f s h).st s fun d h1 => .rt d h1
def gRetN : FS := fun _ h => .rt .non h
def gSet (i : Nat) (f : FE) : FS := fun s h => (f s h).st s fun d h1 => .nx (s.set i (some d)) h1
def gIf (c : FE) (a b : FS) : FS := fun s h => (c s h).st s fun d h1 => match d with
  | .bl true => a s h1
  | .bl false => b s h1
  | _ => .bad
def gBad : FS := fun _ _ => .bad
def gCont : FS := fun s h => .ct s h
def gBreak : FS := fun s h => .bk s h
section
variable {X : Cx} {W : WX} {e a b c o : Expr} {f fa fb fc fo : FE} {pos apos cpos : Pos} {st : Stmt} {sts rest : List Stmt} {g g1 g2 : FS}
theorem sss_nil : SSs X W [] gNext := PSs.imp pss_nil fun D σ H ⟨m, s, h, R0, rs, p⟩ => p m H σ (Grow.refl _ _) R0 rs
theorem sss_cons (h1 : SS X W st g1) (h2 : SSs X W rest g2) : SSs X W (st :: rest) (gSeq g1 g2) := by
  refine PSs.imp (pss_cons h1 h2) fun D σ H h => ?_
  obtain ⟨m, s, h, R0, rs, p⟩ := h
  refine ⟨m, s, h, R0, rs, ?_⟩
  unfold gSeq at p
  generalize g1 s h = r at p
  cases r with
  | nx s1 h1 => exact fun m' H' σ' g r' rs' => ⟨m', s1, h1, r', rs', PostS.grow p g⟩
  | bk s h => exact p
  | ct s h => exact p
  | rt d h => exact p
  | exc c fs s h => exact p
  | bad => exact p
theorem sss_one (h1 : SS X W st g1) : SSs X W [st] g1 := pss_one h1
theorem ss_pass : SS X W (.Pass pos) gNext := PS.imp ps_pass fun D σ H ⟨m, s, h, R0, rs, p⟩ => p m H σ (Grow.refl _ _) R0 rs
theorem ss_cont : SS X W (.Continue pos) gCont := PS.imp ps_continue fun D σ H ⟨m, s, h, R0, rs, p⟩ => p m H σ (Grow.refl _ _) R0 rs
theorem ss_break : SS X W (.Break pos) gBreak := PS.imp ps_break fun D σ H ⟨m, s, h, R0, rs, p⟩ => p m H σ (Grow.refl _ _) R0 rs
theorem ss_bad : SS X W st gBad := PS.imp ps_never fun D σ H ⟨m, s, h, R0, rs, p⟩ => p
theorem ss_expr (he : SE X W e f) (hs : swapsWith e none pos.line X.env = pure false := by rfl) : SS X W (.Expr e pos) (gDrop f) := by
  refine PS.imp (ps_expr he hs) fun D σ H h => ?_
  obtain ⟨m, s, h, R0, rs, p⟩ := h
  refine ⟨m, s, h, R0, rs, PostE.mono (PostS.ofE rs p) ?_⟩
  rintro x H1 ⟨m1, dx, h1, g1, R1, rx, p1⟩
  exact p1 m1 H1 σ (Grow.refl _ _) R1 (rs.grow g1)
theorem ss_ret (he : SE X W e f) : SS X W (.Return (some e) pos) (gRet f) := by
  refine PS.imp (ps_ret he) fun D σ H h => ?_
  obtain ⟨m, s, h, R0, rs, p⟩ := h
  refine ⟨m, s, h, R0, rs, PostE.mono (PostS.ofE rs p) ?_⟩
  rintro x H1 ⟨m1, dx, h1, g1, R1, rx, p1⟩
  exact p1 m1 H1 x (Grow.refl _ _) R1 rx
theorem ss_retN : SS X W (.Return none pos) gRetN := PS.imp ps_retN fun D σ H ⟨m, s, h, R0, rs, p⟩ => p m H .non (Grow.refl _ _) R0 .non
theorem ss_set {i : Nat} {x : Str} {pos' : Pos} (hN : X.N.Nodup) (hi : X.N[i]? = some x) (hx : Loc X.env.scope x) (he : SE X W e f) (hs : swapsWith e (some (.Name x pos')) pos.line X.env = pure false := by rfl) (hf : X.fn x = true ∨ X.env.scope.names.lookup x = some .local := by first | exact .inl rfl | exact .inr rfl) :
    SS X W (.Assign [.Name x pos'] e pos) (gSet i f) := by
  refine PS.imp (ps_set hN hi hx he hs hf) fun D σ H h => ?_
  obtain ⟨m, s, h, R0, rs, p⟩ := h
  refine ⟨m, s, h, R0, rs, PostE.mono (PostS.ofE rs p) ?_⟩
  rintro x H1 ⟨m1, dx, h1, g1, R1, rx, p1⟩
  exact p1 m1 H1 _ (Grow.refl _ _) R1 ((rs.grow g1).set i rx)
theorem ss_if {c : Expr} {a b : List Stmt} {fc : FE} (hc : ST X W c fc) (ha : SSs X W a g1) (hb : SSs X W b g2) : SS X W (.If c a b pos) (gIf fc g1 g2) := by
  refine PS.imp (ps_if hc ha hb) fun D σ H h => ?_
  obtain ⟨m, s, h, R0, rs, p⟩ := h
  refine ⟨m, s, h, R0, rs, ?_⟩
  unfold gIf at p
  generalize fc s h = r at p
  cases r with
  | ok d h1 =>
    cases d with
    | bl c =>
      intro m' H' g r'
      cases c with
      | true => exact iteT ⟨m', s, h1, r', rs.grow g, PostS.grow p g⟩
      | false => exact iteF ⟨m', s, h1, r', rs.grow g, PostS.grow p g⟩
    | _ => exact p
  | exc c fs h1 => exact fun m' H' cls dx g r' x => p m' H' σ cls dx g r' (rs.grow g) x
  | bad => exact p
/-- self.f = e -/
def putD (f : Str) (y : D) : List (Str × D) → List (Str × D)
  | [] => [(f, y)]
  | (k, v) :: r => if k = f then (k, y) :: r else (k, v) :: putD f y r
theorem putD_rep {K : PySem.W.Frag} {m : List Addr} {H : Hp} {f : Str} {y : V} {d : D} (r : Rep K m H y d) : ∀ {fv : List (Str × V)} {fs : List (Str × D)}, RepF K m H fv fs → RepF K m H (putF f y fv) (putD f d fs)
  | _, _, .nil => .cons ⟨rfl, r⟩ .nil
  | (k, v) :: fv, (k', d') :: fs, .cons q t => by
    obtain ⟨e1, q⟩ := q
    simp only at e1
    subst e1
    show RepF K m H (if k = f then (k, y) :: fv else (k, v) :: putF f y fv) (if k = f then (k, d) :: fs else (k, d') :: putD f d fs)
    by_cases e : k = f
    · rw [if_pos e, if_pos e]
      exact .cons ⟨rfl, r⟩ t
    · rw [if_neg e, if_neg e]
      exact .cons ⟨rfl, q⟩ (putD_rep r t)
def gPut (c f : Str) (fo fe : FE) : FS := fun s h => (fe s h).st s fun y h1 => (fo s h1).st s fun d h2 => match d with
  | .ref n => match h2[n]? with
    | some (.ins c' fl) => if c' = c ∧ fl.length < 900 then .nx s (h2.set n (.ins c (putD f y fl))) else .bad
    | _ => .bad
  | _ => .bad
theorem RepF.len {K : PySem.W.Frag} {m : List Addr} {H : Hp} {fv : List (Str × V)} {fs : List (Str × D)} (r : RepF K m H fv fs) : fv.length = fs.length := Paired.length r
theorem ss_put {cn f : Str} {C : Addr} {pos' : Pos} (gC : X.mg cn = some (.ref C)) (cl : Cls X.K C) (na : NoAttr X.K C f) (ho : SE X W o fo) (he : SE X W e fa) (hs : swapsWith e (some (.Attribute o f pos')) pos.line X.env = pure false := by rfl) :
    SS X W (.Assign [.Attribute o f pos'] e pos) (gPut cn f fo fa) := by
  refine PS.imp (ps_fld ho he hs) fun D σ H h => ?_
  obtain ⟨m, s, h, R0, rs, p⟩ := h
  refine ⟨m, s, h, R0, rs, PostE.mono (PostS.ofE rs p) ?_⟩
  rintro y H1 ⟨m1, dy, h1, g1, R1, ry, p1⟩
  refine ⟨m1, s, h1, R1, rs.grow g1, PostE.mono (PostS.ofE (rs.grow g1) p1) ?_⟩
  rintro x H2 ⟨m2, dx, h2, g2, R2, rx, p2⟩
  try dsimp only at p2
  split at p2
  · split at p2
    · rename_i n _ c' fl hk
      split at p2
      · rename_i hc
        obtain ⟨hc, hl⟩ := hc
        subst hc
        obtain ⟨a, rfl, hm⟩ := rx.ref_inv
        have xo := R2.ob _ _ _ hm hk
        obtain ⟨C', dx', fv, q0, q1, q2⟩ := id xo
        rw [gC] at q0
        cases q0
        refine ⟨a, C, dx', fv, rfl, q1, cl, na, by rw [q2.len]; omega, ?_⟩
        have g3 : Grow m2 H2 m2 (upd H2 a (.ins C dx' (putF f y fv))) := Grow.set xo rfl
        exact p2 m2 _ σ g3 (R2.set hm hk rfl ⟨C, dx', putF f y fv, gC, upd_same, putD_rep ((ry.grow g2).grow g3) (q2.grow g3)⟩) ((rs.grow (g1.trans g2)).grow g3)
      · exact False.elim p2
    · exact False.elim p2
  · exact False.elim p2

/-! ### targets -/
/-- as Rep, or a tuple whose object is not known (the pairs of enumerate) -/
def RepQ (wk : Bool) (K : PySem.W.Frag) (m : List Addr) (H : Hp) (v : V) (d : D) : Prop := Rep K m H v d ∨ (wk = true ∧ ∃ a vs ds, v = .ref a ∧ SqT K H a vs ∧ RepL K m H vs ds ∧ d = .tup ds)
abbrev GT := D → DS → Hm → RT
/-- behind a store: the slots at vs alone may have changed -/
def PostG (K : PySem.W.Frag) (mg : Str → Option Value) (vs : List Nat) (σ : L2.St) (m : List Addr) (H : Hp) (r : RT) (Q : L2.St → Hp → Prop) : Prop := match r with
  | .nx s' h' => ∀ m' H' σ', Grow m H m' H' → R K mg m' H' h' → RS K m' H' σ' s' → (∀ l, (∀ i ∈ vs, i ∈ l) → wipe σ' l = wipe σ l) → Q σ' H'
  | _ => False
def tSG (K : PySem.W.Frag) (mg : Str → Option Value) (wk : Bool) (vs : List Nat) (gt : GT) : TG := fun v σ H Q => ∃ m s h d, R K mg m H h ∧ RS K m H σ s ∧ RepQ wk K m H v d ∧ PostG K mg vs σ m H (gt d s h) Q
def SG (X : Cx) (wk : Bool) (tg : Expr) (vs : List Nat) (gt : GT) : Prop := PG X tg (tSG X.K X.mg wk vs gt)
def gAll : List GT → List D → DS → Hm → RT
  | [], [], s, h => .nx s h
  | g :: gs, d :: ds, s, h => match g d s h with
    | .nx s' h' => gAll gs ds s' h'
    | _ => .bad
  | _, _, _, _ => .bad
def tSGs (K : PySem.W.Frag) (mg : Str → Option Value) (vs : List Nat) (gts : List GT) : TGs := fun xs σ H Q => ∃ m s h ds, R K mg m H h ∧ RS K m H σ s ∧ RepL K m H xs ds ∧ PostG K mg vs σ m H (gAll gts ds s h) Q
def SGs (X : Cx) (tgs : List Expr) (vs : List Nat) (gts : List GT) : Prop := PGs X tgs (tSGs X.K X.mg vs gts)
theorem PG.imp {X : Cx} {e : Expr} {t t' : TG} (h : PG X e t) (k : ∀ v σ H Q, t' v σ H Q → t v σ H Q) : PG X e t' := ⟨fun pins s σ H v u Q I r q => h.run pins s σ H v u Q I r (k _ _ _ _ q)⟩
theorem PGs.imp {X : Cx} {e : List Expr} {t t' : TGs} (h : PGs X e t) (k : ∀ v σ H Q, t' v σ H Q → t v σ H Q) : PGs X e t' := ⟨fun pins s σ H v u Q I r q => h.run pins s σ H v u Q I r (k _ _ _ _ q)⟩
theorem wipe_get {σ : L2.St} : ∀ {l : List Nat} {j : Nat}, (wipe σ l)[j]? = if j ∈ l then (if j < σ.length then some none else none) else σ[j]?
  | [], j => by simp [wipe]
  | v :: l, j => by
    unfold wipe
    by_cases e : v = j
    · subst e
      rw [if_pos List.mem_cons_self]
      by_cases hl : v < σ.length
      · rw [if_pos hl, List.getElem?_set_self (by rw [wipe_length]; exact hl)]
      · rw [if_neg hl, List.getElem?_eq_none (by rw [List.length_set, wipe_length]; omega)]
    · rw [List.getElem?_set_ne e, wipe_get]
      by_cases hj : j ∈ l
      · rw [if_pos hj, if_pos (List.mem_cons_of_mem _ hj)]
      · rw [if_neg hj, if_neg (by simp only [List.mem_cons, not_or]; exact ⟨fun z => e z.symm, hj⟩)]
theorem wipe_set {σ : L2.St} {l : List Nat} {i : Nat} {v : Option V} (hi : i ∈ l) : wipe (σ.set i v) l = wipe σ l := by
  apply List.ext_getElem?
  intro j
  rw [wipe_get, wipe_get, List.length_set]
  by_cases hj : j ∈ l
  · rw [if_pos hj, if_pos hj]
  · rw [if_neg hj, if_neg hj]
    have : i ≠ j := fun z => hj (z ▸ hi)
    rw [List.getElem?_set_ne this]
theorem wipe_wipe {σ : L2.St} {l : List Nat} : wipe (wipe σ l) l = wipe σ l := by
  apply List.ext_getElem?
  intro j
  rw [wipe_get, wipe_get, wipe_length]
  by_cases hj : j ∈ l
  · rw [if_pos hj, if_pos hj]
  · rw [if_neg hj, if_neg hj]
def tName (i : Nat) : GT := fun d s h => .nx (s.set i (some d)) h
theorem sg_name {i : Nat} {x : Str} (hN : X.N.Nodup) (hi : X.N[i]? = some x) (hx : Loc X.env.scope x) (hf : X.fn x = true ∨ X.env.scope.names.lookup x = some .local := by first | exact .inl rfl | exact .inr rfl) : SG X false (.Name x pos) [i] (tName i) := by
  refine PG.imp (pg_name hN hi hx hf) fun v σ H Q h => ?_
  obtain ⟨m, s, h, d, R0, rs, rep, p⟩ := h
  have rep' : Rep X.K m H v d := by
    rcases rep with r | ⟨z, _⟩
    · exact r
    · cases z
  exact p m H _ (Grow.refl _ _) R0 (rs.set i rep') fun l hl => wipe_set (hl i (by simp))
theorem sgs_nil : SGs X [] [] [] := by
  refine PGs.imp pgs_nil fun v σ H Q h => ?_
  obtain ⟨m, s, h, ds, R0, rs, rep, p⟩ := h
  cases rep with
  | nil => exact ⟨rfl, p m H σ (Grow.refl _ _) R0 rs fun _ _ => rfl⟩
  | cons r t => exact False.elim p
theorem sgs_cons {es : List Expr} {vs ws : List Nat} {gt : GT} {gts : List GT} (h1 : SG X false e vs gt) (h2 : SGs X es ws gts) (hs : (assignEach (e :: es) X.env).map (·.2) = assign e X.env :: (assignEach es X.env).map (·.2) := by rfl) : SGs X (e :: es) (vs ++ ws) (gt :: gts) := by
  refine PGs.imp (pgs_cons h1 h2 hs) fun v σ H Q h => ?_
  obtain ⟨m, s, h, ds, R0, rs, rep, p⟩ := h
  cases rep with
  | nil => exact False.elim p
  | @cons v d xs ds r t =>
    refine ⟨v, xs, rfl, m, s, h, d, R0, rs, .inl r, ?_⟩
    unfold gAll at p
    generalize gt d s h = q at p
    cases q with
    | nx s1 h1 =>
      intro m1 H1 σ1 g1 R1 rs1 hw
      refine ⟨m1, s1, h1, ds, R1, rs1, t.grow g1, ?_⟩
      have p' : PostG X.K X.mg (vs ++ ws) σ m H (gAll gts ds s1 h1) Q := p
      generalize gAll gts ds s1 h1 = q2 at p'
      cases q2 with
      | nx s2 h2 => exact fun m2 H2 σ2 g2 R2 rs2 hw2 => p' m2 H2 σ2 (g1.trans g2) R2 rs2 fun l hl =>
          (hw2 l fun i hi => hl i (List.mem_append_right _ hi)).trans (hw l fun i hi => hl i (List.mem_append_left _ hi))
      | _ => exact p'
    | _ => exact p
def tTup (gts : List GT) : GT := fun d s h => match d with
  | .tup ds => gAll gts ds s h
  | .ref k => match h[k]? with
    | some (.lst ds) => gAll gts ds s h
    | _ => .bad
  | _ => .bad
theorem gAll_len : ∀ {gts : List GT} {ds : List D} {s s' : DS} {h h' : Hm}, gAll gts ds s h = .nx s' h' → ds.length = gts.length
  | [], [], _, _, _, _, _ => rfl
  | [], _ :: _, _, _, _, _, e => by simp [gAll] at e
  | _ :: _, [], _, _, _, _, e => by simp [gAll] at e
  | g :: gs, d :: ds, s, s', h, h', e => by
    unfold gAll at e
    split at e
    · simp [gAll_len e]
    · cases e
theorem sg_tup {es : List Expr} {k : Nat} {vs : List Nat} {gts : List GT} {wk : Bool} (hc : X.calm = true) (h : SGs X es vs gts) (hn : (assignEach es X.env).length = gts.length := by rfl) (hst : (assignEach es X.env).findIdx? (·.1) = none := by rfl) :
    SG X wk (.Tuple es k pos) vs (tTup gts) := by
  have both : PG X (.Tuple es k pos) (fun v σ H Q => gTup X.K gts.length (tSGs X.K X.mg vs gts) v σ H Q ∨ gLst X.K gts.length (tSGs X.K X.mg vs gts) v σ H Q) := by
    refine ⟨fun pins s σ H v u Q I r q => ?_⟩
    rcases q with q | q
    · exact (pg_tup hc h hn hst).run pins s σ H v u Q I r q
    · exact (pg_lst hc h hn hst).run pins s σ H v u Q I r q
  refine PG.imp both fun v σ H Q h => ?_
  obtain ⟨m, s, h, d, R0, rs, rep, p⟩ := h
  have one : ∀ {a : Addr} {us : List V} {ds : List D}, SqT X.K H a us → RepL X.K m H us ds → PostG X.K X.mg vs σ m H (gAll gts ds s h) Q → gTup X.K gts.length (tSGs X.K X.mg vs gts) (.ref a) σ H Q := by
    intro a us ds t l p
    refine ⟨a, us, rfl, t, ?_, m, s, h, ds, R0, rs, l, p⟩
    rw [l.length]
    generalize q : gAll gts ds s h = r at p
    cases r with
    | nx s1 h1 => exact gAll_len q
    | _ => exact False.elim p
  rcases rep with r | ⟨_, a, us, ds, rfl, t, l, rfl⟩
  · unfold tTup at p
    split at p
    · obtain ⟨a, us, rfl, t, l⟩ := r.tup_inv
      exact .inl (one t.sqT l p)
    · split at p
      · rename_i kk _ ds hk
        obtain ⟨a, rfl, hm⟩ := r.ref_inv
        obtain ⟨us, q1, q2⟩ := R0.ob _ _ _ hm hk
        refine .inr ⟨a, us, rfl, .inl (.inl q1), ?_, m, s, h, ds, R0, rs, q2, p⟩
        rw [q2.length]
        generalize q : gAll gts ds s h = r at p
        cases r with
        | nx s1 h1 => exact gAll_len q
        | _ => exact False.elim p
      · exact False.elim p
    · exact False.elim p
  · exact .inl (one t l p)
/-- target = e -/
def gAsg (f : FE) (gt : GT) : FS := fun s h => (f s h).st s fun d h1 => match gt d s h1 with
  | .nx s2 h2 => .nx s2 h2
  | _ => .bad
theorem ss_asg {tg : Expr} {vs : List Nat} {gt : GT} (he : SE X W e f) (hg : SG X false tg vs gt) (hs : swapsWithSole [tg] e pos.line X.env = pure false := by rfl) (hw : swappedStores [tg] e X.env = pure none := by rfl)
    (h1 : (assignEach [tg] X.env).map (·.2) = [assign tg X.env] := by rfl) : SS X W (.Assign [tg] e pos) (gAsg f gt) := by
  refine PS.imp (ps_asg he hg hs hw h1) fun D σ H h => ?_
  obtain ⟨m, s, h, R0, rs, p⟩ := h
  refine ⟨m, s, h, R0, rs, PostE.mono (PostS.ofE rs p) ?_⟩
  rintro x H1 ⟨m1, dx, h1, g1, R1, rx, p1⟩
  refine ⟨m1, s, h1, dx, R1, rs.grow g1, .inl rx, ?_⟩
  try dsimp only at p1
  generalize gt dx s h1 = r at p1
  cases r with
  | nx s2 h2 => exact fun m2 H2 σ2 g2 R2 rs2 _ => p1 m2 H2 σ2 g2 R2 rs2
  | _ => exact p1
end
end Sh

set_option Elab.async false
set_option linter.all false
set_option maxRecDepth 100000
set_option maxHeartbeats 4000000
namespace Sh
open PySem L2 PyProof.Rows
/-! ### what is walked -/
inductive RI where
  | ok (xs : List D) (ck : Option (Nat × List D)) (h : Hm) | exc (c : Str) (fs : List (Str × D)) (h : Hm) | bad
abbrev FI := DS → Hm → RI
/-- a list that is walked is to stay as it is -/
def chkB (ck : Option (Nat × List D)) (h : Hm) : Bool := match ck with
  | none => true
  | some (n, xs) => match items h (.ref n) with
    | some ys => D.beqL ys xs
    | none => false
theorem chkB_ok {n : Nat} {xs : List D} {h : Hm} (e : chkB (some (n, xs)) h = true) : items h (.ref n) = some xs := by
  unfold chkB at e
  dsimp only at e
  split at e
  · rename_i ys hy
    rw [hy, D.beqL_eq _ _ e]
  · cases e
def WalkD (K : PySem.W.Frag) (mg : Str → Option Value) (wk : Bool) (J : It) (xs : List D) (ck : Option (Nat × List D)) (m0 : List Addr) (H0 : Hp) : Prop :=
  ∀ i m H h, Grow m0 H0 m H → R K mg m H h → chkB ck h = true →
    (∀ x, xs[i]? = some x → J.go i H ∧ ∀ v H', J.yld i H v H' → Grow m H m H' ∧ R K mg m H' h ∧ RepQ wk K m H' v x) ∧ (xs.length ≤ i → J.stop i H)
def PostI (K : PySem.W.Frag) (mg : Str → Option Value) (wk : Bool) (W : XK) (m : List Addr) (H : Hp) (r : RI) (Q : It → Hp → Prop) : Prop := match r with
  | .ok xs ck h' => ∀ m' H' J, Grow m H m' H' → R K mg m' H' h' → WalkD K mg wk J xs ck m' H' → Q J H'
  | .exc c fs h' => ∀ m' H' cls dx, Grow m H m' H' → R K mg m' H' h' → ExcAt K mg m' H' cls dx c fs → W cls dx H'
  | .bad => False
def tSI (K : PySem.W.Frag) (mg : Str → Option Value) (W : WX) (wk : Bool) (fi : FI) : TI := fun σ H Q => ∃ m s h, R K mg m H h ∧ RS K m H σ s ∧ PostI K mg wk (fun c d H' => W c d σ H') m H (fi s h) Q
def SI (X : Cx) (W : WX) (wk : Bool) (tg iter : Expr) (fi : FI) : Prop := PI X tg iter (tSI X.K X.mg W wk fi)
theorem PI.imp {X : Cx} {tg e : Expr} {t t' : TI} (h : PI X tg e t) (k : ∀ σ H Q, t' σ H Q → t σ H Q) : PI X tg e t' := ⟨fun pins s σ H Q I q => h.run pins s σ H Q I (k _ _ _ q)⟩
def RD.it (r : RD) (k : D → Hm → RI) : RI := match r with
  | .ok d h => k d h
  | .exc c fs h => .exc c fs h
  | .bad => .bad
section
variable {X : Cx} {W : WX} {tg e a b o : Expr} {f fa fb fo : FE} {pos : Pos}
theorem PostI.ofE {K : PySem.W.Frag} {mg : Str → Option Value} {wk : Bool} {W : XK} {m : List Addr} {H : Hp} {r : RD} {k : D → Hm → RI} {Q : It → Hp → Prop} (p : PostI K mg wk W m H (r.it k) Q) :
    PostE K mg W m H r (Got K mg m H fun m' H' d h' => PostI K mg wk W m' H' (k d h') Q) := by
  cases r with
  | ok d h =>
    intro m' H' v g' r' rep
    refine ⟨m', d, h, g', r', rep, ?_⟩
    have p' : PostI K mg wk W m H (k d h) Q := p
    show PostI K mg wk W m' H' (k d h) Q
    generalize k d h = q at p'
    cases q with
    | ok xs ck h2 => exact fun m2 H2 J g2 => p' m2 H2 J (g'.trans g2)
    | exc c fs h2 => exact fun m2 H2 c d g2 => p' m2 H2 c d (g'.trans g2)
    | bad => exact p'
  | exc c fs h => exact p
  | bad => exact p
/-- a list or a tuple -/
theorem pi_seq {tl : TE} (hl : PE X e tl) : PI X tg e (fun σ H R => tl σ H fun x H1 => ∃ a, x = .ref a ∧ (((∃ xs, SqL X.K H1 a xs) ∧ R (Itl X.K a) H1) ∨ ((∃ xs, SqT X.K H1 a xs) ∧ R (Itt X.K a) H1))) := by
  refine ⟨fun pins s σ H R I h => ?_⟩
  refine thn (hl.run pins s σ H _ I h) fun v s1 ⟨x, H1, I1, r1, q1⟩ => ?_
  obtain ⟨a, e, q1⟩ := q1
  subst e
  cases r1
  rcases q1 with ⟨⟨xs, hq⟩, q⟩ | ⟨⟨xs, hq⟩, q⟩
  · obtain ⟨its, rv, p, hz⟩ := I1.list hq
    refine wpAny_pyIter_list p.isList ?_
    refine ⟨s1.heap.objs.size, [s1.heap.objs.size], _, _, H1, rfl, I1.kept (t' := s1.toks) fun b o e => Heap.get?_push_of_some _ e, turn_list a _, ⟨_, Heap.get?_push_size _ rfl, rfl, rfl⟩, fun b hb => ?_, q⟩
    have e : b = s1.heap.objs.size := by simpa using hb
    subst e
    exact I1.fpOk (Nat.le_refl _) (I1.hok.fresh (Nat.le_refl _))
  · obtain ⟨its, rv, p, hz⟩ := I1.tuple hq
    refine wpAny_pyIter_tuple (show s1.heap.IsTuple a its.toArray from p) ?_
    refine ⟨s1.heap.objs.size, [s1.heap.objs.size], _, _, H1, rfl, I1.kept (t' := s1.toks) fun b o e => Heap.get?_push_of_some _ e, turn_tuple a _, ⟨_, Heap.get?_push_size _ rfl, rfl, rfl⟩, fun b hb => ?_, q⟩
    have e : b = s1.heap.objs.size := by simpa using hb
    subst e
    exact I1.fpOk (Nat.le_refl _) (I1.hok.fresh (Nat.le_refl _))
/-- the items, and what is to stay as it is -/
def iSeq (d : D) (h : Hm) : RI := match d with
  | .tup ds => .ok ds none h
  | .scl ds => .ok ds none h
  | .ref n => match items h (.ref n) with
    | some ds => .ok ds (some (n, ds)) h
    | none => .bad
  | _ => .bad
def fiSeq (f : FE) : FI := fun s h => (f s h).it iSeq
theorem items_ref {K : PySem.W.Frag} {mg : Str → Option Value} {m : List Addr} {H : Hp} {h : Hm} {n : Nat} {a : Addr} {ds : List D} (r : R K mg m H h) (hm : m[n]? = some a) (e : items h (.ref n) = some ds) : ∃ vs, SqL K H a vs ∧ RepL K m H vs ds := by
  unfold items at e
  simp only at e
  split at e
  · rename_i es hk
    cases e
    exact ObjR.sqL (.inl (r.ob _ _ _ hm hk))
  · rename_i es hk
    cases e
    exact ObjR.sqL (.inr (r.ob _ _ _ hm hk))
  · cases e
theorem walk_list {K : PySem.W.Frag} {mg : Str → Option Value} {m : List Addr} {H : Hp} {n : Nat} {a : Addr} {ds : List D} {wk : Bool} (hm : m[n]? = some a) : WalkD K mg wk (Itl K a) ds (some (n, ds)) m H := by
  intro i m' H' h g r hc
  obtain ⟨vs, hq, l⟩ := items_ref r (g.loc _ _ hm) (chkB_ok hc)
  refine ⟨fun x hx => ?_, fun hle => ⟨vs, hq, by rw [l.length]; exact hle⟩⟩
  obtain ⟨v, hv, rv⟩ := l.get hx
  refine ⟨⟨vs, v, hq, hv⟩, fun v' H2 hy => ?_⟩
  obtain ⟨rfl, hy⟩ := hy
  have e := hy vs hq
  rw [hv] at e
  cases e
  exact ⟨Grow.refl _ _, r, .inl rv⟩
theorem walk_tup {K : PySem.W.Frag} {mg : Str → Option Value} {m : List Addr} {H : Hp} {a : Addr} {ds : List D} {vs : List V} {wk : Bool} (ht : TupS K H a vs) (l : RepL K m H vs ds) : WalkD K mg wk (Itt K a) ds none m H := by
  intro i m' H' h g r hc
  have hq := (g.tupS ht).sqT
  replace l := l.grow g
  refine ⟨fun x hx => ?_, fun hle => ⟨vs, hq, by rw [l.length]; exact hle⟩⟩
  obtain ⟨v, hv, rv⟩ := l.get hx
  refine ⟨⟨vs, v, hq, hv⟩, fun v' H2 hy => ?_⟩
  obtain ⟨rfl, hy⟩ := hy
  have e := hy vs hq
  rw [hv] at e
  cases e
  exact ⟨Grow.refl _ _, r, .inl rv⟩
theorem walk_scl {K : PySem.W.Frag} {mg : Str → Option Value} {m : List Addr} {H : Hp} {a : Addr} {ds : List D} {vs : List V} {wk : Bool} (ht : SclS K H a vs) (l : RepL K m H vs ds) : WalkD K mg wk (Itl K a) ds none m H := by
  intro i m' H' h g r hc
  have hq := (g.sclS ht).sqL
  replace l := l.grow g
  refine ⟨fun x hx => ?_, fun hle => ⟨vs, hq, by rw [l.length]; exact hle⟩⟩
  obtain ⟨v, hv, rv⟩ := l.get hx
  refine ⟨⟨vs, v, hq, hv⟩, fun v' H2 hy => ?_⟩
  obtain ⟨rfl, hy⟩ := hy
  have e := hy vs hq
  rw [hv] at e
  cases e
  exact ⟨Grow.refl _ _, r, .inl rv⟩
theorem rgD_length (a b : Int) : (rgD a b).length = (b - a).toNat := by unfold rgD; rw [List.length_map, List.length_range]
theorem rgD_get {a b : Int} {i : Nat} {x : D} (e : (rgD a b)[i]? = some x) : i < (b - a).toNat ∧ x = .int (a + (i : Nat)) := by
  have hl := (List.getElem?_eq_some_iff.mp e).1
  rw [rgD_length] at hl
  unfold rgD at e
  rw [List.getElem?_map, List.getElem?_range hl] at e
  cases e
  exact ⟨hl, rfl⟩
theorem walk_rg {K : PySem.W.Frag} {mg : Str → Option Value} {m : List Addr} {H : Hp} {a b : Int} {wk : Bool} : WalkD K mg wk (Itr a (b - a).toNat) (rgD a b) none m H := by
  intro i m' H' h g r hc
  refine ⟨fun x hx => ?_, fun hle => by rw [rgD_length] at hle; exact hle⟩
  obtain ⟨h1, rfl⟩ := rgD_get hx
  refine ⟨h1, fun v' H2 hy => ?_⟩
  obtain ⟨rfl, rfl⟩ := hy
  exact ⟨Grow.refl _ _, r, .inl (.int _)⟩
theorem si_seq (he : SE X W e f) : SI X W false tg e (fiSeq f) := by
  refine PI.imp (pi_seq he) fun σ H Q h => ?_
  obtain ⟨m, s, h, R0, rs, p⟩ := h
  refine ⟨m, s, h, R0, rs, PostE.mono (PostI.ofE p) ?_⟩
  rintro x H1 ⟨m1, dx, h1, g1, R1, rx, p1⟩
  unfold iSeq at p1
  split at p1
  · obtain ⟨a, vs, rfl, t, l⟩ := rx.tup_inv
    exact ⟨a, rfl, .inr ⟨⟨vs, t.sqT⟩, p1 m1 H1 _ (Grow.refl _ _) R1 (walk_tup t l)⟩⟩
  · obtain ⟨a, vs, rfl, t, l⟩ := rx.scl_inv
    exact ⟨a, rfl, .inl ⟨⟨vs, t.sqL⟩, p1 m1 H1 _ (Grow.refl _ _) R1 (walk_scl t l)⟩⟩
  · split at p1
    · rename_i ds hi
      obtain ⟨a, rfl, hm⟩ := rx.ref_inv
      obtain ⟨vs, hq, l⟩ := items_ref R1 hm hi
      exact ⟨a, rfl, .inl ⟨⟨vs, hq⟩, p1 m1 H1 _ (Grow.refl _ _) R1 (walk_list hm)⟩⟩
    · exact False.elim p1
  · exact False.elim p1
/-- range(b), range(a, b) -/
def iRg (ds : List D) (h : Hm) : RI := match ds with
  | [.int j] => if -(2 ^ 62) ≤ j ∧ j < 2 ^ 62 then .ok (rgD 0 j) none h else .bad
  | [.int i, .int j] => if -(2 ^ 62) ≤ i ∧ i < 2 ^ 62 ∧ -(2 ^ 62) ≤ j ∧ j < 2 ^ 62 then .ok (rgD i j) none h else .bad
  | _ => .bad
def fiRg (fs : List FE) : FI := fun s h => match evalL fs s h with
  | .ok ds h1 => iRg ds h1
  | .exc c x h1 => .exc c x h1
  | .bad => .bad
theorem rg_ok {fs : List FE} {σ : L2.St} {H : Hp} {Q : It → Hp → Prop} {wk : Bool} {r : List V → Hp → (It → Hp → Prop) → Prop} (h : tSI X.K X.mg W wk (fiRg fs) σ H Q)
    (k : ∀ m1 H1 vs ds h1, R X.K X.mg m1 H1 h1 → RepL X.K m1 H1 vs ds → ds.length = fs.length → PostI X.K X.mg wk (fun c d H' => W c d σ H') m1 H1 (iRg ds h1) Q → r vs H1 Q) : tSA X.K X.mg W (evalL fs) σ H fun vs H1 => r vs H1 Q := by
  obtain ⟨m, s, h, R0, rs, p⟩ := h
  refine ⟨m, s, h, R0, rs, ?_⟩
  unfold fiRg at p
  generalize q : evalL fs s h = r at p
  cases r with
  | ok ds h1 =>
    intro m1 H1 vs g1 R1 rvs
    refine k m1 H1 vs ds h1 R1 rvs (evalL_length q) ?_
    try dsimp only at p
    generalize iRg ds h1 = r2 at p
    cases r2 with
    | ok xs ck h2 => exact fun m2 H2 J g2 => p m2 H2 J (g1.trans g2)
    | exc c fs h2 => exact fun m2 H2 c d g2 => p m2 H2 c d (g1.trans g2)
    | bad => exact p
  | exc c fs h1 => exact p
  | bad => exact p
theorem si_rg1 {p : Pos} (hg : Gl X "range") (hm : X.mg "range" = none) (ha : SA X W [a] (evalL [fa])) (hs : starEach [a] X.env = [(false, eval a X.env)] := by rfl) : SI X W false tg (.Call (.Name "range" p) [a] [] pos) (fiRg [fa]) := by
  refine PI.imp (pi_range1 hg hm ha hs) fun σ H Q h => rg_ok (r := fun vs H1 Q => ∃ j : Int, vs = [.int j] ∧ -(2 ^ 62) ≤ j ∧ j < 2 ^ 62 ∧ Q (Itr 0 j.toNat) H1) h fun m1 H1 vs ds h1 R1 rvs hl p => ?_
  unfold iRg at p
  split at p
  · split at p
    · rename_i j hj
      cases rvs with
      | cons r1 r2 =>
        cases r2; cases r1
        have w := walk_rg (K := X.K) (mg := X.mg) (m := m1) (H := H1) (a := 0) (b := j) (wk := false)
        rw [Int.sub_zero] at w
        exact ⟨j, rfl, hj.1, hj.2, p m1 H1 _ (Grow.refl _ _) R1 w⟩
    · exact False.elim p
  · simp at hl
  · exact False.elim p
theorem si_rg2 {p : Pos} (hg : Gl X "range") (hm : X.mg "range" = none) (ha : SA X W [a, b] (evalL [fa, fb])) (hs : starEach [a, b] X.env = [(false, eval a X.env), (false, eval b X.env)] := by rfl) (hs2 : starEach [b] X.env = [(false, eval b X.env)] := by rfl) :
    SI X W false tg (.Call (.Name "range" p) [a, b] [] pos) (fiRg [fa, fb]) := by
  refine PI.imp (pi_range2 hg hm ha hs hs2) fun σ H Q h => rg_ok (r := fun vs H1 Q => ∃ i j : Int, vs = [.int i, .int j] ∧ (-(2 ^ 62) ≤ i ∧ i < 2 ^ 62 ∧ -(2 ^ 62) ≤ j ∧ j < 2 ^ 62) ∧ Q (Itr i (j - i).toNat) H1) h fun m1 H1 vs ds h1 R1 rvs hl p => ?_
  unfold iRg at p
  split at p
  · simp at hl
  · split at p
    · rename_i i j hj
      cases rvs with
      | cons r1 r2 =>
        cases r2 with
        | cons r2 r3 =>
          cases r3; cases r1; cases r2
          exact ⟨i, j, rfl, hj, p m1 H1 _ (Grow.refl _ _) R1 walk_rg⟩
    · exact False.elim p
  · exact False.elim p

/-! ### for -/
def loopG (ck : Option (Nat × List D)) (gt : GT) (gb : FS) : List D → DS → Hm → RT
  | [], s, h => if chkB ck h = true then .nx s h else .bad
  | x :: xs, s, h => if chkB ck h = true then (match gt x s h with
    | .nx s1 h1 => (match gb s1 h1 with
      | .nx s2 h2 => loopG ck gt gb xs s2 h2
      | .ct s2 h2 => loopG ck gt gb xs s2 h2
      | .bk s2 h2 => .nx s2 h2
      | r => r)
    | _ => .bad) else .bad
def gFor (fi : FI) (gt : GT) (gb : FS) : FS := fun s h => match fi s h with
  | .ok xs ck h1 => loopG ck gt gb xs s h1
  | .exc c fs h1 => .exc c fs s h1
  | .bad => .bad
theorem ss_for {iter : Expr} {body : List Stmt} {fi : FI} {gt : GT} {gb : FS} {wk : Bool} {vs : List Nat} (hp : PassesOwn (model X.prog X.w) X.A X.env X.xe) (hc : X.calm = true) (hi : SI X W wk tg iter fi) (hg : SG X wk tg vs gt) (hb : SSs X W body gb)
    (hs : ∀ x, foldedSetIterable iter X.env x = pure x := by intro _; rfl) : SS X W (.For tg iter body [] pos) (gFor fi gt gb) := by
  refine PS.imp (ps_for hp hc hi hg hb hs) fun D σ H h => ?_
  obtain ⟨m, s, h, R0, rs, p⟩ := h
  refine ⟨m, s, h, R0, rs, ?_⟩
  unfold gFor at p
  generalize fi s h = r at p
  cases r with
  | exc c fs h1 => exact fun m' H' cls dx g r' x => p m' H' σ cls dx g r' (rs.grow g) x
  | bad => exact p
  | ok xs ck h1 =>
    intro m1 H1 J g1 R1 wd
    replace p := PostS.grow (show PostS X.K X.mg W m H (loopG ck gt gb xs s h1) D from p) g1
    refine ⟨fun i k σ H => k = xs.length - i ∧ i ≤ xs.length ∧ ∃ m s h, Grow m1 H1 m H ∧ R X.K X.mg m H h ∧ RS X.K m H σ s ∧ PostS X.K X.mg W m H (loopG ck gt gb (xs.drop i) s h) D,
      ⟨xs.length, by simp, Nat.zero_le _, m1, s, h1, Grow.refl _ _, R1, rs.grow g1, p⟩, ?_⟩
    rintro i k σ2 H2 ⟨rfl, hi, m2, s2, h2, g2, R2, rs2, p2⟩
    by_cases hlt : i < xs.length
    · rw [List.drop_eq_getElem_cons hlt] at p2
      unfold loopG at p2
      split at p2
      · rename_i hck
        obtain ⟨hgo, hyl⟩ := (wd i m2 H2 h2 g2 R2 hck).1 xs[i] (List.getElem?_eq_getElem hlt)
        refine .inr ⟨hgo, fun σ' H' => ∃ m s h, Grow m1 H1 m H' ∧ R X.K X.mg m H' h ∧ RS X.K m H' σ' s ∧ PostS X.K X.mg W m H' (loopG ck gt gb (xs.drop (i + 1)) s h) D,
          fun σ' H' q => ⟨xs.length - (i + 1), by omega, rfl, hlt, q⟩, fun v H3 hy => ?_⟩
        obtain ⟨g3, R3, rep⟩ := hyl v H3 hy
        refine ⟨m2, s2, h2, xs[i], R3, rs2.grow g3, rep, ?_⟩
        generalize gt xs[i] s2 h2 = q at p2
        cases q with
        | nx s4 h4 =>
          intro m4 H4 σ4 g4 R4 rs4 _
          refine ⟨m4, s4, h4, R4, rs4, ?_⟩
          replace p2 := PostS.grow p2 (g3.trans g4)
          try dsimp only at p2
          generalize gb s4 h4 = q2 at p2
          have gg := (g2.trans (g3.trans g4))
          cases q2 with
          | nx s5 h5 => exact fun m5 H5 σ5 g5 R5 rs5 => ⟨m5, s5, h5, gg.trans g5, R5, rs5, PostS.grow p2 g5⟩
          | ct s5 h5 => exact fun m5 H5 σ5 g5 R5 rs5 => ⟨m5, s5, h5, gg.trans g5, R5, rs5, PostS.grow p2 g5⟩
          | bk s5 h5 => exact p2
          | rt d h5 => exact p2
          | exc c fs s h => exact p2
          | bad => exact p2
        | _ => exact False.elim p2
      · exact False.elim p2
    · have e : i = xs.length := by omega
      subst e
      rw [List.drop_length] at p2
      unfold loopG at p2
      split at p2
      · rename_i hck
        exact .inl ⟨(wd _ m2 H2 h2 g2 R2 hck).2 (Nat.le_refl _), p2 m2 H2 σ2 (Grow.refl _ _) R2 rs2⟩
      · exact False.elim p2

/-! ### comprehensions -/
def wipeD (s : DS) : List Nat → DS
  | [] => s
  | v :: vs => (wipeD s vs).set v none
theorem RS.wipe {K : PySem.W.Frag} {m : List Addr} {H : Hp} {σ : L2.St} {s : DS} (r : RS K m H σ s) : ∀ l : List Nat, RS K m H (wipe σ l) (wipeD s l)
  | [] => r
  | v :: l => (RS.wipe r l).clr v
/-- the new list stands at n -/
def lcLoop (ck : Option (Nat × List D)) (gt : GT) (ft fe : FE) (n : Nat) (s0 : DS) : List D → Hm → RD
  | [], h => if chkB ck h = true then .ok (.ref n) h else .bad
  | x :: xs, h => if chkB ck h = true then (match gt x s0 h with
    | .nx s1 h1 => (match ft s1 h1 with
      | .ok (.bl true) h2 => (match fe s1 h2 with
        | .ok d h3 => (match h3[n]? with
          | some (.lst acc) => if acc.length < big then lcLoop ck gt ft fe n s0 xs (h3.set n (.lst (acc ++ [d]))) else .bad
          | _ => .bad)
        | _ => .bad)
      | .ok (.bl false) h2 => lcLoop ck gt ft fe n s0 xs h2
      | _ => .bad)
    | _ => .bad) else .bad
def eLc (fi : FI) (gt : GT) (ft fe : FE) (own : List Nat) : FE := fun s h => match fi s h with
  | .ok xs ck h1 => lcLoop ck gt ft fe h1.length (wipeD s own) xs (h1 ++ [.lst []])
  | .exc c fs h1 => .exc c fs h1
  | .bad => .bad
/-- no exception is let out -/
abbrev W0 : WX := fun _ _ _ _ => False
def STs (X : Cx) (ifs : List Expr) (f : FE) : Prop := PTs X ifs (tST X.K X.mg W0 f)
theorem PTs.imp {X : Cx} {e : List Expr} {t t' : TT} (h : PTs X e t) (k : ∀ σ H Q, t' σ H Q → t σ H Q) : PTs X e t' := ⟨fun pins s σ H Q I q => h.run pins s σ H Q I (k _ _ _ q)⟩
theorem sts_nil : STs X [] (eC (.bl true)) := PTs.imp pts_nil fun σ H Q ⟨m, s, h, R0, rs, p⟩ => p m H (Grow.refl _ _) R0
theorem sts_one {c : Expr} {fc : FE} (h : ST X W0 c fc) : STs X [c] fc := pts_one h
theorem lc_ok {wi : TI} {fi : FI} {gt : GT} {ft fe : FE} {vs own : List Nat} {wk : Bool} (hv : ∀ i ∈ vs, i ∈ own) {σ : L2.St} {H : Hp} {Q : VK} (h : tS X.K X.mg W (eLc fi gt ft fe own) σ H Q) :
    tLc (tSI X.K X.mg W wk fi) (tSG X.K X.mg wk vs gt) (tST X.K X.mg W0 ft) (tS X.K X.mg W0 fe) own σ H Q := by
  obtain ⟨m, s, h, R0, rs, p⟩ := h
  refine ⟨m, s, h, R0, rs, ?_⟩
  unfold eLc at p
  generalize fi s h = r at p
  cases r with
  | exc c fs h1 => exact p
  | bad => exact p
  | ok xs ck h1 =>
    intro m1 H1 J g1 R1 wd Dn hD
    replace p := PostE.grow (show PostE X.K X.mg (fun c d H' => W c d σ H') m H (lcLoop ck gt ft fe h1.length (wipeD s own) xs (h1 ++ [.lst []])) Q from p) g1
    have gN : Grow m1 H1 (m1 ++ [Dn]) (upd H1 Dn (.lst [])) := Grow.newr hD
    have RN : R X.K X.mg (m1 ++ [Dn]) (upd H1 Dn (.lst [])) (h1 ++ [.lst []]) := R1.new hD ⟨[], upd_same, .nil⟩
    have nN : (m1 ++ [Dn])[h1.length]? = some Dn := R1.newAt
    generalize h1.length = n at p nN
    generalize h1 ++ [O.lst []] = hN at p RN
    generalize m1 ++ [Dn] = mN at gN RN nN
    generalize hHN : upd H1 Dn (.lst []) = HN at gN RN
    refine ⟨fun i k H => k = xs.length - i ∧ i ≤ xs.length ∧ ∃ m h, Grow mN HN m H ∧ R X.K X.mg m H h ∧ PostE X.K X.mg (fun c d H' => W c d σ H') m H (lcLoop ck gt ft fe n (wipeD s own) (xs.drop i) h) Q,
      ⟨xs.length, by simp, Nat.zero_le _, mN, hN, Grow.refl _ _, RN, PostE.grow p gN⟩, ?_⟩
    rintro i k H2 ⟨rfl, hi, m2, h2, g2, R2, p2⟩
    by_cases hlt : i < xs.length
    · rw [List.drop_eq_getElem_cons hlt] at p2
      unfold lcLoop at p2
      split at p2
      · rename_i hck
        obtain ⟨hgo, hyl⟩ := (wd i m2 H2 h2 (gN.trans g2) R2 hck).1 xs[i] (List.getElem?_eq_getElem hlt)
        refine .inr ⟨hgo, fun H' => ∃ m h, Grow mN HN m H' ∧ R X.K X.mg m H' h ∧ PostE X.K X.mg (fun c d H' => W c d σ H') m H' (lcLoop ck gt ft fe n (wipeD s own) (xs.drop (i + 1)) h) Q,
          fun H' q => ⟨xs.length - (i + 1), by omega, rfl, hlt, q⟩, fun v H3 hy => ?_⟩
        obtain ⟨g3, R3, rep⟩ := hyl v H3 hy
        refine ⟨m2, wipeD s own, h2, xs[i], R3, ((rs.grow (g1.trans (gN.trans (g2.trans g3)))).wipe own), rep, ?_⟩
        generalize gt xs[i] (wipeD s own) h2 = q at p2
        cases q with
        | nx s4 h4 =>
          intro m4 H4 σ4 g4 R4 rs4 hw
          refine ⟨(hw own hv).trans wipe_wipe, m4, s4, h4, R4, rs4, ?_⟩
          replace p2 := PostE.grow p2 (g3.trans g4)
          have gg := g2.trans (g3.trans g4)
          try dsimp only at p2
          generalize ft s4 h4 = q2 at p2
          cases q2 with
          | ok d h5 =>
            cases d with
            | bl b =>
              intro m5 H5 g5 R5
              replace p2 := PostE.grow p2 g5
              cases b with
              | false => exact iteF ⟨m5, h5, gg.trans g5, R5, p2⟩
              | true =>
                refine iteT ⟨m5, s4, h5, R5, rs4.grow g5, ?_⟩
                try dsimp only at p2
                generalize fe s4 h5 = q3 at p2
                cases q3 with
                | ok d h6 =>
                  intro m6 H6 v6 g6 R6 rep6
                  replace p2 := PostE.grow p2 g6
                  try dsimp only at p2
                  split at p2
                  · rename_i acc hk
                    split at p2
                    · rename_i hz
                      have hm6 : m6[n]? = some Dn := (gg.trans (g5.trans g6)).loc _ _ nN
                      obtain ⟨us, q1, q2⟩ := R6.ob _ _ _ hm6 hk
                      obtain ⟨g7, R7⟩ := R6.lset hm6 hk (q2.app (.cons rep6 .nil))
                      exact ⟨us, q1, big_lt (by rw [q2.length]; exact hz), m6, _, (gg.trans (g5.trans g6)).trans g7, R7, PostE.grow p2 g7⟩
                    · exact False.elim p2
                  · exact False.elim p2
                | _ => exact False.elim p2
            | _ => exact False.elim p2
          | _ => exact False.elim p2
        | _ => exact False.elim p2
      · exact False.elim p2
    · have e : i = xs.length := by omega
      subst e
      rw [List.drop_length] at p2
      unfold lcLoop at p2
      split at p2
      · rename_i hck
        exact .inl ⟨(wd _ m2 H2 h2 (gN.trans g2) R2 hck).2 (Nat.le_refl _), p2 m2 H2 _ (Grow.refl _ _) R2 (.ref (g2.loc _ _ nN))⟩
      · exact False.elim p2
end
end Sh

set_option Elab.async false
set_option linter.all false
set_option maxRecDepth 100000
set_option maxHeartbeats 4000000
namespace Sh
open PySem L2 PyProof.Rows
section
variable {X : Cx} {W : WX} {tg e a b o elt iter : Expr} {ifs : List Expr} {f fa fb fo fe ft : FE} {fi : FI} {gt : GT} {pos : Pos} {scope : Scope} {own : List (Str × Nat)} {vs : List Nat} {wk : Bool}
theorem mem_all {vs own : List Nat} (h : vs.all (fun i => own.contains i) = true) : ∀ i ∈ vs, i ∈ own := fun i hi => by
  have := List.all_eq_true.mp h i hi
  simpa using this
/-- [e for x in xs if ..] -/
theorem se_lc (hc : X.calm = true) (hN : X.N.Nodup) (hi : SI X W wk tg iter fi) (ok : BlkOk X.N X.env.scope scope own)
    (hg : ∀ (s : Shared) (H : Hp) (C : Addr) (cl : List (Str × Addr)) (fp : List Addr), SG (X.blk s H scope (compEnvC scope cl C X.env) fp) wk tg vs gt) (ht : ∀ (s : Shared) (H : Hp) (C : Addr) (cl : List (Str × Addr)) (fp : List Addr), STs (X.blk s H scope (compEnvC scope cl C X.env) fp) ifs ft)
    (he : ∀ (s : Shared) (H : Hp) (C : Addr) (cl : List (Str × Addr)) (fp : List Addr), SE (X.blk s H scope (compEnvC scope cl C X.env) fp) W0 elt fe) (hs : ∀ x, foldedSetIterable iter X.env x = pure x := by intro _; rfl) (hv : vs.all (fun i => (own.map (·.2)).contains i) = true := by rfl) :
    SE X W (.ListComp elt [⟨tg, iter, ifs, 0⟩] scope pos) (eLc fi gt ft fe (own.map (·.2))) :=
  PE.imp (pe_lc (g := tSG X.K X.mg wk vs gt) (tt := tST X.K X.mg W0 ft) (te := tS X.K X.mg W0 fe) hc hN hi ok hg ht he hs) fun σ H Q h => lc_ok (wi := tSI X.K X.mg W wk fi) (mem_all hv) h
theorem ss_setLc {i : Nat} {y : Str} {py spos : Pos} (hc : X.calm = true) (hN : X.N.Nodup) (hy : X.N[i]? = some y) (hyl : X.env.scope.names.lookup y = some .local)
    (hsw : swapsWith (.ListComp elt [⟨tg, iter, ifs, 0⟩] scope pos) (some (.Name y py)) spos.line X.env = pure true) (hi : SI X W wk tg iter fi) (ok : BlkOk X.N X.env.scope scope own)
    (hg : ∀ (s : Shared) (H : Hp) (C : Addr) (cl : List (Str × Addr)) (fp : List Addr), SG (X.blk s H scope (compEnvC scope cl C X.env) fp) wk tg vs gt) (ht : ∀ (s : Shared) (H : Hp) (C : Addr) (cl : List (Str × Addr)) (fp : List Addr), STs (X.blk s H scope (compEnvC scope cl C X.env) fp) ifs ft)
    (he : ∀ (s : Shared) (H : Hp) (C : Addr) (cl : List (Str × Addr)) (fp : List Addr), SE (X.blk s H scope (compEnvC scope cl C X.env) fp) W0 elt fe) (hs : ∀ x, foldedSetIterable iter X.env x = pure x := by intro _; rfl) (hv : vs.all (fun i => (own.map (·.2)).contains i) = true := by rfl) :
    SS X W (.Assign [.Name y py] (.ListComp elt [⟨tg, iter, ifs, 0⟩] scope pos) spos) (gSet i (eLc fi gt ft fe (own.map (·.2)))) := by
  refine PS.imp (ps_setLc (g := tSG X.K X.mg wk vs gt) (tt := tST X.K X.mg W0 ft) (te := tS X.K X.mg W0 fe) hc hN hy hyl hsw hi ok hg ht he hs) fun D σ H h => ?_
  obtain ⟨m, s, h, R0, rs, p⟩ := h
  refine lc_ok (X := X) (W := W) (wi := tSI X.K X.mg W wk fi) (mem_all hv) ⟨m, s, h, R0, rs, PostE.mono (PostS.ofE rs p) ?_⟩
  rintro x H1 ⟨m1, dx, h1, g1, R1, rx, p1⟩
  exact p1 m1 H1 _ (Grow.refl _ _) R1 ((rs.grow g1).set i rx)
/-! two fors -/
def lcIn (ck : Option (Nat × List D)) (gt : GT) (ft fe : FE) (n : Nat) (s0 : DS) : List D → Hm → Option Hm
  | [], h => if chkB ck h = true then some h else none
  | x :: xs, h => if chkB ck h = true then (match gt x s0 h with
    | .nx s1 h1 => (match ft s1 h1 with
      | .ok (.bl true) h2 => (match fe s1 h2 with
        | .ok d h3 => (match h3[n]? with
          | some (.lst acc) => if acc.length < big then lcIn ck gt ft fe n s0 xs (h3.set n (.lst (acc ++ [d]))) else none
          | _ => none)
        | _ => none)
      | .ok (.bl false) h2 => lcIn ck gt ft fe n s0 xs h2
      | _ => none)
    | _ => none) else none
def lc2Loop (ck : Option (Nat × List D)) (gt : GT) (ft : FE) (fi1 : FI) (gt1 : GT) (ft1 fe : FE) (n : Nat) (s0 : DS) (vs1 : List Nat) : List D → Hm → RD
  | [], h => if chkB ck h = true then .ok (.ref n) h else .bad
  | x :: xs, h => if chkB ck h = true then (match gt x s0 h with
    | .nx s1 h1 => (match ft s1 h1 with
      | .ok (.bl true) h2 => (match fi1 s1 h2 with
        | .ok ys ck1 h3 => (match lcIn ck1 gt1 ft1 fe n (wipeD s1 vs1) ys h3 with
          | some h4 => lc2Loop ck gt ft fi1 gt1 ft1 fe n s0 vs1 xs h4
          | none => .bad)
        | _ => .bad)
      | .ok (.bl false) h2 => lc2Loop ck gt ft fi1 gt1 ft1 fe n s0 vs1 xs h2
      | _ => .bad)
    | _ => .bad) else .bad
def eLc2 (fi : FI) (gt : GT) (ft : FE) (fi1 : FI) (gt1 : GT) (ft1 fe : FE) (own vs1 : List Nat) : FE := fun s h => match fi s h with
  | .ok xs ck h1 => lc2Loop ck gt ft fi1 gt1 ft1 fe h1.length (wipeD s own) vs1 xs (h1 ++ [.lst []])
  | .exc c fs h1 => .exc c fs h1
  | .bad => .bad
theorem lc2_ok {fi1 : FI} {gt1 : GT} {ft1 : FE} {ws own vs1 : List Nat} {wk1 : Bool} (hv : ∀ i ∈ vs, i ∈ own) (hw1 : ∀ i ∈ ws, i ∈ vs1) {σ : L2.St} {H : Hp} {Q : VK} (h : tS X.K X.mg W (eLc2 fi gt ft fi1 gt1 ft1 fe own vs1) σ H Q) :
    tLc2 (tSI X.K X.mg W wk fi) (tSG X.K X.mg wk vs gt) (tST X.K X.mg W0 ft) (tSI X.K X.mg W0 wk1 fi1) (tSG X.K X.mg wk1 ws gt1) (tST X.K X.mg W0 ft1) (tS X.K X.mg W0 fe) own vs1 σ H Q := by
  obtain ⟨m, s, h, R0, rs, p⟩ := h
  refine ⟨m, s, h, R0, rs, ?_⟩
  unfold eLc2 at p
  generalize fi s h = r at p
  cases r with
  | exc c fs h1 => exact p
  | bad => exact p
  | ok xs ck h1 =>
    intro m1 H1 J g1 R1 wd Dn hD
    replace p := PostE.grow (show PostE X.K X.mg (fun c d H' => W c d σ H') m H (lc2Loop ck gt ft fi1 gt1 ft1 fe h1.length (wipeD s own) vs1 xs (h1 ++ [.lst []])) Q from p) g1
    have gN : Grow m1 H1 (m1 ++ [Dn]) (upd H1 Dn (.lst [])) := Grow.newr hD
    have RN : R X.K X.mg (m1 ++ [Dn]) (upd H1 Dn (.lst [])) (h1 ++ [.lst []]) := R1.new hD ⟨[], upd_same, .nil⟩
    have nN : (m1 ++ [Dn])[h1.length]? = some Dn := R1.newAt
    generalize h1.length = n at p nN
    generalize h1 ++ [O.lst []] = hN at p RN
    generalize m1 ++ [Dn] = mN at gN RN nN
    generalize hHN : upd H1 Dn (.lst []) = HN at gN RN
    refine ⟨fun i k H => k = xs.length - i ∧ i ≤ xs.length ∧ ∃ m h, Grow mN HN m H ∧ R X.K X.mg m H h ∧ PostE X.K X.mg (fun c d H' => W c d σ H') m H (lc2Loop ck gt ft fi1 gt1 ft1 fe n (wipeD s own) vs1 (xs.drop i) h) Q,
      ⟨xs.length, by simp, Nat.zero_le _, mN, hN, Grow.refl _ _, RN, PostE.grow p gN⟩, ?_⟩
    rintro i k H2 ⟨rfl, hi, m2, h2, g2, R2, p2⟩
    by_cases hlt : i < xs.length
    · rw [List.drop_eq_getElem_cons hlt] at p2
      unfold lc2Loop at p2
      split at p2
      · rename_i hck
        obtain ⟨hgo, hyl⟩ := (wd i m2 H2 h2 (gN.trans g2) R2 hck).1 xs[i] (List.getElem?_eq_getElem hlt)
        refine .inr ⟨hgo, fun H' => ∃ m h, Grow mN HN m H' ∧ R X.K X.mg m H' h ∧ PostE X.K X.mg (fun c d H' => W c d σ H') m H' (lc2Loop ck gt ft fi1 gt1 ft1 fe n (wipeD s own) vs1 (xs.drop (i + 1)) h) Q,
          fun H' q => ⟨xs.length - (i + 1), by omega, rfl, hlt, q⟩, fun v H3 hy => ?_⟩
        obtain ⟨g3, R3, rep⟩ := hyl v H3 hy
        refine ⟨m2, wipeD s own, h2, xs[i], R3, ((rs.grow (g1.trans (gN.trans (g2.trans g3)))).wipe own), rep, ?_⟩
        generalize gt xs[i] (wipeD s own) h2 = q at p2
        cases q with
        | nx s4 h4 =>
          intro m4 H4 σ4 g4 R4 rs4 hw
          refine ⟨(hw own hv).trans wipe_wipe, m4, s4, h4, R4, rs4, ?_⟩
          replace p2 := PostE.grow p2 (g3.trans g4)
          have gg := g2.trans (g3.trans g4)
          try dsimp only at p2
          generalize ft s4 h4 = q2 at p2
          cases q2 with
          | ok d h5 =>
            cases d with
            | bl b =>
              intro m5 H5 g5 R5
              replace p2 := PostE.grow p2 g5
              have gg5 := gg.trans g5
              cases b with
              | false => exact iteF ⟨m5, h5, gg5, R5, p2⟩
              | true =>
                refine iteT ⟨m5, s4, h5, R5, rs4.grow g5, ?_⟩
                try dsimp only at p2
                generalize fi1 s4 h5 = q3 at p2
                cases q3 with
                | ok ys ck1 h6 =>
                  intro m6 H6 J1 g6 R6 wd1
                  replace p2 := PostE.grow p2 g6
                  have gg6 := gg5.trans g6
                  have rs6 := (rs4.grow g5).grow g6
                  try dsimp only at p2
                  split at p2
                  · rename_i hE he
                    refine ⟨fun j k H => k = ys.length - j ∧ j ≤ ys.length ∧ ∃ m h, Grow m6 H6 m H ∧ R X.K X.mg m H h ∧ lcIn ck1 gt1 ft1 fe n (wipeD s4 vs1) (ys.drop j) h = some hE,
                      ⟨ys.length, by simp, Nat.zero_le _, m6, h6, Grow.refl _ _, R6, he⟩, ?_⟩
                    rintro j k H7 ⟨rfl, hj, m7, h7, g7, R7, e7⟩
                    have gg7 := gg6.trans g7
                    by_cases hlj : j < ys.length
                    · rw [List.drop_eq_getElem_cons hlj] at e7
                      unfold lcIn at e7
                      split at e7
                      · rename_i hck1
                        obtain ⟨hgo1, hyl1⟩ := (wd1 j m7 H7 h7 g7 R7 hck1).1 ys[j] (List.getElem?_eq_getElem hlj)
                        refine .inr ⟨hgo1, fun H' => ∃ m h, Grow m6 H6 m H' ∧ R X.K X.mg m H' h ∧ lcIn ck1 gt1 ft1 fe n (wipeD s4 vs1) (ys.drop (j + 1)) h = some hE,
                          fun H' q => ⟨ys.length - (j + 1), by omega, rfl, hlj, q⟩, fun v H8 hy8 => ?_⟩
                        obtain ⟨g8, R8, rep8⟩ := hyl1 v H8 hy8
                        refine ⟨m7, wipeD s4 vs1, h7, ys[j], R8, ((rs6.grow (g7.trans g8)).wipe vs1), rep8, ?_⟩
                        generalize gt1 ys[j] (wipeD s4 vs1) h7 = q4 at e7
                        cases q4 with
                        | nx s9 h9 =>
                          intro m9 H9 σ9 g9 R9 rs9 hw9
                          refine ⟨(hw9 vs1 hw1).trans wipe_wipe, m9, s9, h9, R9, rs9, ?_⟩
                          have gg9 := g7.trans (g8.trans g9)
                          try dsimp only at e7
                          generalize ft1 s9 h9 = q5 at e7
                          cases q5 with
                          | ok d hA =>
                            cases d with
                            | bl b =>
                              intro mA HA gA RA
                              cases b with
                              | false => exact iteF ⟨mA, hA, gg9.trans gA, RA, e7⟩
                              | true =>
                                refine iteT ⟨mA, s9, hA, RA, rs9.grow gA, ?_⟩
                                try dsimp only at e7
                                generalize fe s9 hA = q6 at e7
                                cases q6 with
                                | ok d hB =>
                                  intro mB HB vB gB RB repB
                                  try dsimp only at e7
                                  split at e7
                                  · rename_i acc hk
                                    split at e7
                                    · rename_i hz
                                      have hmB : mB[n]? = some Dn := (((gg6.trans gg9).trans gA).trans gB).loc _ _ nN
                                      obtain ⟨us, q1, q2⟩ := RB.ob _ _ _ hmB hk
                                      obtain ⟨gC, RC⟩ := RB.lset hmB hk (q2.app (.cons repB .nil))
                                      exact ⟨us, q1, big_lt (by rw [q2.length]; exact hz), mB, _, ((gg9.trans gA).trans gB).trans gC, RC, e7⟩
                                    · cases e7
                                  · cases e7
                                | _ => cases e7
                            | _ => cases e7
                          | _ => cases e7
                        | _ => cases e7
                      · cases e7
                    · have e : j = ys.length := by omega
                      subst e
                      rw [List.drop_length] at e7
                      unfold lcIn at e7
                      split at e7
                      · rename_i hck1
                        cases e7
                        exact .inl ⟨(wd1 _ m7 H7 _ g7 R7 hck1).2 (Nat.le_refl _), m7, _, gg7, R7, PostE.grow p2 g7⟩
                      · cases e7
                  · exact False.elim p2
                | _ => exact False.elim p2
            | _ => exact False.elim p2
          | _ => exact False.elim p2
        | _ => exact False.elim p2
      · exact False.elim p2
    · have e : i = xs.length := by omega
      subst e
      rw [List.drop_length] at p2
      unfold lc2Loop at p2
      split at p2
      · rename_i hck
        exact .inl ⟨(wd _ m2 H2 h2 (gN.trans g2) R2 hck).2 (Nat.le_refl _), p2 m2 H2 _ (Grow.refl _ _) R2 (.ref (g2.loc _ _ nN))⟩
      · exact False.elim p2
variable {tg1 iter1 : Expr} {ifs1 : List Expr} {fi1 : FI} {gt1 : GT} {ft1 : FE} {ws vs1 : List Nat} {wk1 : Bool}
theorem se_lc2 (hc : X.calm = true) (hN : X.N.Nodup) (hi : SI X W wk tg iter fi) (ok : BlkOk X.N X.env.scope scope own)
    (hg : ∀ (s : Shared) (H : Hp) (C : Addr) (cl : List (Str × Addr)) (fp : List Addr), SG (X.blk s H scope (compEnvC scope cl C X.env) fp) wk tg vs gt) (ht : ∀ (s : Shared) (H : Hp) (C : Addr) (cl : List (Str × Addr)) (fp : List Addr), STs (X.blk s H scope (compEnvC scope cl C X.env) fp) ifs ft)
    (hi1 : ∀ (s : Shared) (H : Hp) (C : Addr) (cl : List (Str × Addr)) (fp : List Addr), SI (X.blk s H scope (compEnvC scope cl C X.env) fp) W0 wk1 tg1 iter1 fi1)
    (hg1 : ∀ (s : Shared) (H : Hp) (C : Addr) (cl : List (Str × Addr)) (fp : List Addr), SG (X.blk s H scope (compEnvC scope cl C X.env) fp) wk1 tg1 ws gt1) (ht1 : ∀ (s : Shared) (H : Hp) (C : Addr) (cl : List (Str × Addr)) (fp : List Addr), STs (X.blk s H scope (compEnvC scope cl C X.env) fp) ifs1 ft1)
    (he : ∀ (s : Shared) (H : Hp) (C : Addr) (cl : List (Str × Addr)) (fp : List Addr), SE (X.blk s H scope (compEnvC scope cl C X.env) fp) W0 elt fe) (hs : ∀ x, foldedSetIterable iter X.env x = pure x := by intro _; rfl) (hs1 : ∀ env x, foldedSetIterable iter1 env x = pure x := by intro _ _; rfl)
    (hv : vs.all (fun i => (own.map (·.2)).contains i) = true := by rfl) (hv1 : vs1.all (fun i => (own.map (·.2)).contains i) = true := by rfl) (hw1 : ws.all (fun i => vs1.contains i) = true := by rfl) :
    SE X W (.ListComp elt [⟨tg, iter, ifs, 0⟩, ⟨tg1, iter1, ifs1, 0⟩] scope pos) (eLc2 fi gt ft fi1 gt1 ft1 fe (own.map (·.2)) vs1) :=
  PE.imp (pe_lc2 (g := tSG X.K X.mg wk vs gt) (tt := tST X.K X.mg W0 ft) (te := tS X.K X.mg W0 fe) (wi1 := tSI X.K X.mg W0 wk1 fi1) (g1 := tSG X.K X.mg wk1 ws gt1) (tt1 := tST X.K X.mg W0 ft1) hc hN hi ok (mem_all hv1) hg ht hi1 hg1 ht1 he hs hs1) fun σ H Q h => lc2_ok (mem_all hv) (mem_all hw1) h
theorem ss_setLc2 {i : Nat} {y : Str} {py spos : Pos} (hc : X.calm = true) (hN : X.N.Nodup) (hy : X.N[i]? = some y) (hyl : X.env.scope.names.lookup y = some .local)
    (hsw : swapsWith (.ListComp elt [⟨tg, iter, ifs, 0⟩, ⟨tg1, iter1, ifs1, 0⟩] scope pos) (some (.Name y py)) spos.line X.env = pure true) (hi : SI X W wk tg iter fi) (ok : BlkOk X.N X.env.scope scope own)
    (hg : ∀ (s : Shared) (H : Hp) (C : Addr) (cl : List (Str × Addr)) (fp : List Addr), SG (X.blk s H scope (compEnvC scope cl C X.env) fp) wk tg vs gt) (ht : ∀ (s : Shared) (H : Hp) (C : Addr) (cl : List (Str × Addr)) (fp : List Addr), STs (X.blk s H scope (compEnvC scope cl C X.env) fp) ifs ft)
    (hi1 : ∀ (s : Shared) (H : Hp) (C : Addr) (cl : List (Str × Addr)) (fp : List Addr), SI (X.blk s H scope (compEnvC scope cl C X.env) fp) W0 wk1 tg1 iter1 fi1)
    (hg1 : ∀ (s : Shared) (H : Hp) (C : Addr) (cl : List (Str × Addr)) (fp : List Addr), SG (X.blk s H scope (compEnvC scope cl C X.env) fp) wk1 tg1 ws gt1) (ht1 : ∀ (s : Shared) (H : Hp) (C : Addr) (cl : List (Str × Addr)) (fp : List Addr), STs (X.blk s H scope (compEnvC scope cl C X.env) fp) ifs1 ft1)
    (he : ∀ (s : Shared) (H : Hp) (C : Addr) (cl : List (Str × Addr)) (fp : List Addr), SE (X.blk s H scope (compEnvC scope cl C X.env) fp) W0 elt fe) (hs : ∀ x, foldedSetIterable iter X.env x = pure x := by intro _; rfl) (hs1 : ∀ env x, foldedSetIterable iter1 env x = pure x := by intro _ _; rfl)
    (hv : vs.all (fun i => (own.map (·.2)).contains i) = true := by rfl) (hv1 : vs1.all (fun i => (own.map (·.2)).contains i) = true := by rfl) (hw1 : ws.all (fun i => vs1.contains i) = true := by rfl) :
    SS X W (.Assign [.Name y py] (.ListComp elt [⟨tg, iter, ifs, 0⟩, ⟨tg1, iter1, ifs1, 0⟩] scope pos) spos) (gSet i (eLc2 fi gt ft fi1 gt1 ft1 fe (own.map (·.2)) vs1)) := by
  refine PS.imp (ps_setLc2 (g := tSG X.K X.mg wk vs gt) (tt := tST X.K X.mg W0 ft) (te := tS X.K X.mg W0 fe) (wi1 := tSI X.K X.mg W0 wk1 fi1) (g1 := tSG X.K X.mg wk1 ws gt1) (tt1 := tST X.K X.mg W0 ft1) hc hN hy hyl hsw hi ok (mem_all hv1) hg ht hi1 hg1 ht1 he hs hs1) fun D σ H h => ?_
  obtain ⟨m, s, h, R0, rs, p⟩ := h
  refine lc2_ok (X := X) (W := W) (wk := wk) (mem_all hv) (mem_all hw1) ⟨m, s, h, R0, rs, PostE.mono (PostS.ofE rs p) ?_⟩
  rintro x H1 ⟨m1, dx, h1, g1, R1, rx, p1⟩
  exact p1 m1 H1 _ (Grow.refl _ _) R1 ((rs.grow g1).set i rx)

/-! ### raise, try -/
/-- what the written part says of an own exception class without __init__ -/
structure ExcT (X : Cx) (c : Str) (C : Addr) : Prop where
  gC : X.mg c = some (.ref C)
  xC : PySem.W.excIn X.K C [.type "ValueError", .type "Exception", .type "BaseException", .type "object"] "ValueError.__new__" = true
  kC : PySem.W.keepIn X.K (.ref C) = true
  bC : PySem.W.subIn X.K (.ref C) (.type "BaseException") = some true
  tC : PySem.W.typeIn X.K (.ref C) = some (.type "type")
theorem pmk_own0 {x : Str} {C : Addr} {p : Pos} (T : ExcT X x C) (hg : Gl X x) (hdb : (x == ("__debug__" : Str)) = false := by decide) : PMk X (.Call (.Name x p) [] [] pos) (fun _ H Q => Q (.ref C) none H) := by
  intro pins s σ H Q I h
  refine wpAny_Call_Name_kw (ld_glob I hg T.gC ?_ hdb)
  refine PySem.W.callWith_K0 I.kIn T.kC ?_
  show wpAny _ _ (call (.ref C) []) _ _ _
  obtain ⟨bm, N, nm, qn, bs, hdct, sn, sub, ab, col, dd, k0, k1, k2, k3, k5, mN, hC, hN, hni, TT⟩ := exc_obj I.kIn T.xC
  refine wpAny_call_exc_subT PySem.F.excBase_ValueError TT hC hN hni (fun h' e hm => ?_) (by show 0 ≤ sizeLine; rw [sizeLine_eq]; omega)
  exact mk_of I hm (raises_own T.bC T.tC) h (I.hok.gone hm.new)
def gRaise (c : Str) : FS := fun s h => .exc c [] s h
theorem ss_raise {x : Str} {C : Addr} {p pos' : Pos} (hc : X.calm = true) (tk : Takes X W) (T : ExcT X x C) (hg : Gl X x) (hdb : (x == ("__debug__" : Str)) = false := by decide) : SS X W (.Raise (some (.Call (.Name x p) [] [] pos')) none pos) (gRaise x) := by
  refine PS.imp (ps_raise hc tk (pmk_own0 T hg hdb)) fun D σ H h => ?_
  obtain ⟨m, s, h, R0, rs, p⟩ := h
  exact p m H σ (.ref C) none (Grow.refl _ _) R0 rs ⟨C, T.gC, rfl, fun z => absurd rfl z⟩
end
end Sh

set_option Elab.async false
set_option linter.all false
set_option maxRecDepth 100000
set_option maxHeartbeats 4000000
namespace Sh
open PySem L2 PyProof.Rows
/-! ### try -/
/-- which classes a clause takes -/
abbrev SubT := List ((Str × Str) × Bool)
def SubOk (K : PySem.W.Frag) (mg : Str → Option Value) (l : SubT) : Prop := ∀ p ∈ l, ∀ C Cx, mg p.1.1 = some (.ref C) → mg p.1.2 = some (.ref Cx) → PySem.W.exmOne K (.ref C) (.ref Cx) = some p.2
def subT (l : SubT) (c x : Str) : Option Bool := l.lookup (c, x)
theorem mem_look {κ α : Type} [BEq κ] [LawfulBEq κ] : ∀ {l : List (κ × α)} {k : κ} {v : α}, l.lookup k = some v → (k, v) ∈ l
  | [], _, _, e => by simp at e
  | (q, w) :: l, k, v, e => by
    by_cases h : k = q
    · subst h
      simp [List.lookup] at e
      subst e
      exact List.mem_cons_self ..
    · have hb : (k == q) = false := by simpa using h
      simp only [List.lookup, hb] at e
      exact List.mem_cons_of_mem _ (mem_look e)
theorem subT_ok {K : PySem.W.Frag} {mg : Str → Option Value} {l : SubT} (S : SubOk K mg l) {c x : Str} {b : Bool} (e : subT l c x = some b) {C Cx : Addr} (h1 : mg c = some (.ref C)) (h2 : mg x = some (.ref Cx)) : PySem.W.exmOne K (.ref C) (.ref Cx) = some b :=
  S ((c, x), b) (mem_look e) C Cx h1 h2
def handle (l : SubT) : List (Str × FS) → Str → List (Str × D) → DS → Hm → RT
  | [], c, fs, s, h => .exc c fs s h
  | (x, g) :: r, c, fs, s, h => match subT l c x with
    | some true => (match g s h with
      | .exc _ _ _ _ => .bad
      | t => t)
    | some false => handle l r c fs s h
    | none => .bad
def gTry (l : SubT) (gb : FS) (hs : List (Str × FS)) : FS := fun s h => match gb s h with
  | .exc c fs s' h' => handle l hs c fs s' h'
  | r => r
abbrev Hd := Str × Addr × FS
section
variable {X : Cx} {W : WX} {body : List Stmt} {pos : Pos} {gb : FS}
def SHd (X : Cx) (hds : List ExceptHandler) (hs : List Hd) : Prop := HdsOk X hds (hs.map fun p => (.ref p.2.1, fun _ _ _ => tSS X.K X.mg W0 p.2.2)) ∧ ∀ p ∈ hs, X.mg p.1 = some (.ref p.2.1)
theorem sh_nil : SHd X [] [] := ⟨.nil, fun _ z => by cases z⟩
theorem sh_cons {x : Str} {C : Addr} {g : FS} {b₀ : Stmt} {suite : List Stmt} {np pos' : Pos} {hds : List ExceptHandler} {hs : List Hd} (hg : Gl X x) (gC : X.mg x = some (.ref C))
    (hsu : ∀ (a : Addr) (oe : Obj) (pn : List (Addr × Obj)), SSs (X.suite a ((a, oe) :: pn)) W0 (b₀ :: suite) g) (r : SHd X hds hs) (hdb : (x == ("__debug__" : Str)) = false := by decide) : SHd X (.ExceptHandler (some (.Name x np)) none (b₀ :: suite) pos' :: hds) ((x, C, g) :: hs) :=
  ⟨.cons ⟨hg, hdb, .inl gC⟩ (fun a oe cls d pn _ _ => hsu a oe pn) r.1, fun p hp => by
    rcases List.mem_cons.mp hp with rfl | hp
    · exact gC
    · exact r.2 p hp⟩
theorem try_ok {l : SubT} {hs : List Hd} {En : Ends} {m : List Addr} {H : Hp} (S : SubOk X.K X.mg l) (hm : ∀ p ∈ hs, X.mg p.1 = some (.ref p.2.1)) {c : Str} {fs : List (Str × D)} {s' : DS} {h' : Hm}
    (p : PostS X.K X.mg W m H (handle l (hs.map fun p => (p.1, p.2.2)) c fs s' h') En) : ∀ m' H' σ' cls dx, Grow m H m' H' → R X.K X.mg m' H' h' → RS X.K m' H' σ' s' → ExcAt X.K X.mg m' H' cls dx c fs →
      wMany X.K W En (hs.map fun p => (.ref p.2.1, fun _ _ _ => tSS X.K X.mg W0 p.2.2)) cls dx σ' H' := by
  intro m' H' σ' cls dx g R' rs' ex
  induction hs with
  | nil => exact p m' H' σ' cls dx g R' rs' ex
  | cons q r ih =>
    obtain ⟨x, C, gs⟩ := q
    have gx : X.mg x = some (.ref C) := hm (x, C, gs) (List.mem_cons_self ..)
    obtain ⟨Cc, e1, e2, e3⟩ := id ex
    rw [List.map_cons] at p
    unfold handle at p
    split at p
    · rename_i hb
      refine ⟨true, by rw [e2]; exact subT_ok S hb e1 gx, fun _ a ha => ⟨m', s', h', R', rs', ?_⟩, fun z => Bool.noConfusion z⟩
      replace p := PostS.grow p g
      dsimp only at p
      show PostS X.K X.mg W0 m' H' (gs s' h') En
      generalize gs s' h' = t at p ⊢
      cases t <;> first | exact p | exact False.elim p
    · rename_i hb
      exact ⟨false, by rw [e2]; exact subT_ok S hb e1 gx, fun z => Bool.noConfusion z, fun _ => ih (fun p hp => hm p (List.mem_cons_of_mem _ hp)) p⟩
    · exact False.elim p
theorem ss_try {l : SubT} {h0 : ExceptHandler} {hds : List ExceptHandler} {hs : List Hd} (hst : X.stack = X.env :: X.outer) (hf : X.env.frame = some X.env.locals) (tk : Takes X W) (S : SubOk X.K X.mg l)
    (hb : ∀ (W : WX) (pn : List (Addr × Obj)) (xe : Value → Shared → Prop), Takes (X.tr pn xe) W → PassesOwn (model X.prog X.w) X.A X.env xe → SSs (X.tr pn xe) W body gb) (hh : SHd X (h0 :: hds) hs) :
    SS X W (.Try body (h0 :: hds) [] [] pos) (gTry l gb (hs.map fun p => (p.1, p.2.2))) := by
  refine PS.imp (ps_try_many hst hf tk (tb := fun W => tSS X.K X.mg W gb) hb hh.1) fun D σ H h => ?_
  obtain ⟨m, s, h, R0, rs, p⟩ := h
  refine ⟨m, s, h, R0, rs, ?_⟩
  unfold gTry at p
  generalize gb s h = r at p
  cases r with
  | exc c fs s' h' => exact try_ok S hh.2 p
  | nx s h => exact p
  | bk s h => exact p
  | ct s h => exact p
  | rt d h => exact p
  | bad => exact p
end

/-! ### a def -/
def runB (n : Nat) (g : FS) (ds : List D) (h : Hm) : RD := match g (ds.map some ++ List.replicate (n - ds.length) none) h with
  | .nx _ h' => .ok .non h'
  | .rt d h' => .ok d h'
  | .exc c fs _ h' => .exc c fs h'
  | _ => .bad
section
variable {P : Program} {w : World} {K : PySem.W.Frag} {mg : Str → Option Value} {base : Heap} {x qual : Str} {st : Stmt} {f : Addr} {fd : FuncData} {N ps : List Str} {k : Nat} {g : FS}
theorem okS (Fu : Fun K x qual st f fd) (S : FnScope N ps (defScope st))
    (hb : ∀ (cdv : Value) (A : Around) (outer : List Env) (s : Shared) (H : Hp) (E : XK), Room k (A.deeper (envOfC qual (defScope st) s.heap.objs.size f cdv)) →
      Takes (cxOf (L2.CX P w) P w K mg base N qual (defScope st) f cdv A outer s H E) (fun cls d _ H' => E cls d H') → PassesOwn (model P w) (A.deeper (envOfC qual (defScope st) s.heap.objs.size f cdv)) (envOfC qual (defScope st) s.heap.objs.size f cdv) (cxOf (L2.CX P w) P w K mg base N qual (defScope st) f cdv A outer s H E).xe →
      SSs (cxOf (L2.CX P w) P w K mg base N qual (defScope st) f cdv A outer s H E) (fun cls d _ H' => E cls d H') (defBody st) g) :
    FnOk P w K mg base (L2.CX P w) (k + 1) f fd ps (spF K mg ps.length (runB N.length g)) := by
  refine Fu.okX S (fun vs H Q E h => h.1) fun cdv A outer s H vs Q E hr h => ?_
  obtain ⟨hl, m, ds, h0, R0, rv, p⟩ := h
  have tk : Takes (cxOf (L2.CX P w) P w K mg base N qual (defScope st) f cdv A outer s H E) (fun cls d _ H' => E cls d H') := takes_of rfl rfl rfl rfl
  have po : PassesOwn (model P w) (A.deeper (envOfC qual (defScope st) s.heap.objs.size f cdv)) (envOfC qual (defScope st) s.heap.objs.size f cdv) (cxOf (L2.CX P w) P w K mg base N qual (defScope st) f cdv A outer s H E).xe := passes_of (X := cxOf (L2.CX P w) P w K mg base N qual (defScope st) f cdv A outer s H E) rfl
  refine ⟨_, hb cdv A outer s H E hr tk po, m, _, h0, R0, RS.start N rv, ?_⟩
  unfold runB at p
  generalize g (ds.map some ++ List.replicate (N.length - ds.length) none) h0 = r at p
  cases r with
  | nx s' h' => exact fun m' H' σ' gg R' rs' => p m' H' .non gg R' .non
  | rt d h' => exact p
  | exc c fs s' h' => exact fun m' H' σ' cls dx gg R' rs' ex => p m' H' cls dx gg R' ex
  | bk s' h' => exact False.elim p
  | ct s' h' => exact False.elim p
  | bad => exact False.elim p
end

/-! ### C(e, .., k = v, ..) -/
section
variable {X : Cx} {W : WX} {e : Expr} {es : List Expr} {fs fk : List FE} {kws : List Keyword} {pos p : Pos} {k n : Nat} {C fA : Addr} {fd : FuncData} {ps ks : List Str} {F : FF} {x : Str}
def tMakeS (C : Addr) (n m : Nat) (sp : Sp) (E : L2.St → XK) (t tk : TA) : TE := fun σ H Q => t σ H fun vs H1 => tk σ H1 fun zs H2 => vs.length = n ∧ zs.length = m ∧
  ∀ x dx, H2 x = none → H2 dx = none → dx ≠ x → sp (.ref x :: (vs ++ zs)) (upd (upd H2 dx (.own x)) x (.ins C dx [])) (fun v H3 => v = .non ∧ Q (.ref x) H3) (E σ)
theorem run_makeS {CX : CXT} {E : L2.St → XK} {sp : Sp} {pins : List (Addr × Obj)} {σ : L2.St} {H : Hp} {s : Shared} {Q : VK} {us ws : List Value} {vs zs : List V} (M : Mk X.K C fA) (G : FnOk X.prog X.w X.K X.mg X.base CX k fA fd ps sp) (hr : Room (k + 1) X.A)
    (hb : ∀ (s : Shared) (us ws : List Value), us.length = n + 1 → ws.length = ks.length → BindsTo s fd ⟨us, ks.zip ws⟩ (ps.zip (us ++ ws)))
    (hx : PassesAt CX X σ (E σ)) (I : Inv X pins σ H s) (r : Vals vs us) (rz : Vals zs ws) (l1 : vs.length = n) (l2 : zs.length = ks.length)
    (h : ∀ x dx, H x = none → H dx = none → dx ≠ x → sp (.ref x :: (vs ++ zs)) (upd (upd H dx (.own x)) x (.ins C dx [])) (fun v H2 => v = .non ∧ Q (.ref x) H2) (E σ)) :
    wpAny (model X.prog X.w) X.A (call (.ref C) us (ks.zip ws)) (EP X pins σ Q) X.xe s := by
  have hq := h (s.heap.objs.size + 1) s.heap.objs.size (I.hok.fresh (Nat.le_succ _)) (I.hok.fresh (Nat.le_refl _)) (Nat.ne_of_lt (Nat.lt_succ_self _))
  have I2 := Inv.made (C := C) I
  have r1 : Vals (V.ref (s.heap.objs.size + 1) :: vs) (Value.ref (s.heap.objs.size + 1) :: us) := .cons rfl r
  have r2 : Vals (V.ref (s.heap.objs.size + 1) :: (vs ++ zs)) (Value.ref (s.heap.objs.size + 1) :: (us ++ ws)) := .cons rfl (r.append rz)
  have e1 : (Value.ref (s.heap.objs.size + 1) :: us).length = n + 1 := r1.length.symm.trans (congrArg Nat.succ l1)
  have e2 : ws.length = ks.length := rz.length.symm.trans l2
  refine wpAny_call (make_map (f := fA) I.kIn M.makes M.init (beq_iff_eq.mp M.fn) (codeAny_mono (G.run _ X.stack _ _ ⟨Value.ref (s.heap.objs.size + 1) :: us, ks.zip ws⟩ (Value.ref (s.heap.objs.size + 1) :: (us ++ ws)) _ _ (E σ) (hr.make C us (ks.zip ws))
    (I2.env0.make C us (ks.zip ws)) (hb _ (Value.ref (s.heap.objs.size + 1) :: us) ws e1 e2) r2 hq) fun r s' hq' => ?_))
  cases r with
  | error e => exact hx pins _ _ e s' I2 hq'
  | ok fl =>
    cases fl with
    | ret u =>
      obtain ⟨v, H', I3, rv, ev, q3⟩ := I2.after hq'
      subst ev
      exact ⟨rv, ⟨V.ref (s.heap.objs.size + 1), H', I3, rfl, q3⟩⟩
    | next => exact False.elim hq'
    | brk => exact False.elim hq'
    | cont => exact False.elim hq'
theorem pe_makeS {CX : CXT} {E : L2.St → XK} {sp : Sp} {t tk : TA} (M : Mk X.K C fA) (G : FnOk X.prog X.w X.K X.mg X.base CX k fA fd ps sp) (hr : Room (k + 1) X.A) (hg : Gl X x) (hm : X.mg x = some (.ref C))
    (hb : ∀ (s : Shared) (us ws : List Value), us.length = n + 1 → ws.length = ks.length → BindsTo s fd ⟨us, ks.zip ws⟩ (ps.zip (us ++ ws))) (hx : ∀ σ, PassesAt CX X σ (E σ))
    (ha : PA X (e :: es) t) (hkw : PK X kws tk) (hall : (backToKw pos (keywordEach kws X.env)).all (·.1.isSome) = true := by rfl) (hks : (backToKw pos (keywordEach kws X.env)).filterMap (·.1) = ks := by rfl)
    (hdb : (x == ("__debug__" : Str)) = false := by decide) (he : starEach (e :: es) X.env = (false, eval e X.env) :: starEach es X.env := by rfl)
    (hpl : ((backTo pos (starEach (e :: es) X.env)).any (·.1) || (backToKw pos (keywordEach kws X.env)).any (·.1.isNone)) = false := by rfl) :
    PE X (.Call (.Name x p) (e :: es) kws pos) (tMakeS C n ks.length sp E t tk) := by
  refine ⟨fun pins s σ H Q I h => ?_⟩
  refine wpAny_Call_Name_kw (ld_glob I hg hm ?_ hdb)
  refine PySem.W.callWith_KW (h₀ := X.base) I.ok.mod.kin M.kp hall (thn (ha.run pos pins s σ H _ I h) fun us s1 ⟨vs, H1, I1, r, q⟩ => ?_) hpl he
  refine thn (hkw.run pos pins s1 σ H1 _ I1 q) fun ws s2 ⟨zs, H2, I2, rz, l1, l2, q2⟩ => ⟨I2.kIn, ?_⟩
  rw [hks]
  exact run_makeS M G hr hb (hx σ) I2 r rz l1 l2 q2
def SK (X : Cx) (W : WX) (kws : List Keyword) (fk : List FE) : Prop := PK X kws (tSA X.K X.mg W (evalL fk))
theorem PK.imp {X : Cx} {e : List Keyword} {t t' : TA} (h : PK X e t) (k : ∀ σ H Q, t' σ H Q → t σ H Q) : PK X e t' := ⟨fun pos pins s σ H Q I q => h.run pos pins s σ H Q I (k _ _ _ q)⟩
theorem sk_nil : SK X W [] [] := PK.imp pk_nil fun σ H Q ⟨m, s, h, r, rs, p⟩ => p m H [] (Grow.refl _ _) r .nil
theorem sk_cons {nm : Option Str} {kpos : Pos} {f : FE} (ha : SE X W e f) (hr : SK X W kws fk) : SK X W (⟨nm, e, kpos⟩ :: kws) (f :: fk) := by
  refine PK.imp (pk_cons ha hr) fun σ H Q h => ?_
  obtain ⟨m, s, h, R0, rs, p⟩ := h
  refine ⟨m, s, h, R0, rs, ?_⟩
  unfold evalL at p
  generalize f s h = r at p
  cases r with
  | ok d h1 =>
    intro m1 H1 v g1 R1 rv
    refine ⟨m1, s, h1, R1, rs.grow g1, ?_⟩
    replace p := PostA.grow p g1
    dsimp only at p
    generalize evalL fk s h1 = r2 at p
    cases r2 with
    | ok ds h2 => exact fun m2 H2 vs g2 R2 rvs => p m2 H2 (v :: vs) g2 R2 (.cons (rv.grow g2) rvs)
    | exc c fs h1 => exact p
    | bad => exact p
  | exc c fs h1 => exact p
  | bad => exact p
/-- a new instance of the class c -/
def dMake (c : Str) (F : FF) (ds : List D) (h : Hm) : RD := match F (.ref h.length :: ds) (h ++ [.ins c []]) with
  | .ok .non h2 => .ok (.ref h.length) h2
  | .ok _ _ => .bad
  | r => r
def eMake (c : Str) (F : FF) (fs fk : List FE) : FE := fun s h => match evalL fs s h with
  | .ok ds h1 => (match evalL fk s h1 with
    | .ok es h2 => dMake c F (ds ++ es) h2
    | .exc c x h1 => .exc c x h1
    | .bad => .bad)
  | .exc c x h1 => .exc c x h1
  | .bad => .bad
theorem se_make (M : Mk X.K C fA) (G : FnS X k fA fd ps F) (tk : Takes X W) (hr : Room (k + 1) X.A) (hg : Gl X x) (hm : X.mg x = some (.ref C))
    (hb : ∀ (s : Shared) (us ws : List Value), us.length = n + 1 → ws.length = ks.length → BindsTo s fd ⟨us, ks.zip ws⟩ (ps.zip (us ++ ws)))
    (ha : SA X W (e :: es) (evalL fs)) (hkw : SK X W kws fk) (hn : decide (fs.length = n) = true := by rfl) (hk2 : decide (fk.length = ks.length) = true := by rfl) (hps : decide (n + ks.length + 1 = ps.length) = true := by rfl)
    (hall : (backToKw pos (keywordEach kws X.env)).all (·.1.isSome) = true := by rfl) (hks : (backToKw pos (keywordEach kws X.env)).filterMap (·.1) = ks := by rfl)
    (hdb : (x == ("__debug__" : Str)) = false := by decide) (he : starEach (e :: es) X.env = (false, eval e X.env) :: starEach es X.env := by rfl)
    (hpl : ((backTo pos (starEach (e :: es) X.env)).any (·.1) || (backToKw pos (keywordEach kws X.env)).any (·.1.isNone)) = false := by rfl) :
    SE X W (.Call (.Name x p) (e :: es) kws pos) (eMake x F fs fk) := by
  refine PE.imp (pe_makeS M G hr hg hm hb (fun σ => passAt tk σ) ha hkw hall hks hdb he hpl) fun σ H Q h => ?_
  obtain ⟨m, s, h, R0, rs, p⟩ := h
  refine ⟨m, s, h, R0, rs, ?_⟩
  have hn := of_decide_eq_true hn
  have hk2 := of_decide_eq_true hk2
  have hps := of_decide_eq_true hps
  unfold eMake at p
  generalize q1 : evalL fs s h = r1 at p
  cases r1 with
  | ok ds h1 =>
    intro m1 H1 vs g1 R1 rvs
    refine ⟨m1, s, h1, R1, rs.grow g1, ?_⟩
    replace p := PostE.grow p g1
    try dsimp only at p
    generalize q2 : evalL fk s h1 = r2 at p
    cases r2 with
    | ok zs h2 =>
      intro m2 H2 ws g2 R2 rws
      replace p := PostE.grow p g2
      try dsimp only at p
      refine ⟨by rw [rvs.length, evalL_length q1]; exact hn, by rw [rws.length, evalL_length q2]; exact hk2, fun y dx hy hdx ne => ?_⟩
      have g3 : Grow m2 H2 m2 (upd H2 dx (.own y)) := Grow.new hdx
      have R3 : R X.K X.mg m2 (upd H2 dx (.own y)) h2 := R2.tup hdx
      have hy3 : upd H2 dx (.own y) y = none := by rw [upd_ne (Ne.symm ne)]; exact hy
      have g4 : Grow m2 (upd H2 dx (.own y)) (m2 ++ [y]) (upd (upd H2 dx (.own y)) y (.ins C dx [])) := Grow.newr hy3
      have R4 : R X.K X.mg (m2 ++ [y]) (upd (upd H2 dx (.own y)) y (.ins C dx [])) (h2 ++ [.ins x []]) := R3.new hy3 ⟨C, dx, [], hm, upd_same, .nil⟩
      have g5 := g3.trans g4
      refine ⟨?_, m2 ++ [y], .ref h2.length :: (ds ++ zs), h2 ++ [.ins x []], R4, .cons (.ref R3.newAt) (((rvs.grow g2).app rws).grow g5), ?_⟩
      · rw [List.length_cons, List.length_append, rvs.length, rws.length, evalL_length q1, evalL_length q2, hn, hk2]
        exact hps
      · replace p := PostE.grow p g5
        have nn : (m2 ++ [y])[h2.length]? = some y := R3.newAt
        unfold dMake at p
        generalize F (.ref h2.length :: (ds ++ zs)) (h2 ++ [.ins x []]) = r at p
        cases r with
        | ok d h6 =>
          cases d with
          | non => exact fun m6 H6 v g6 R6 rep => ⟨rep.non_inv, p m6 H6 _ g6 R6 (.ref (g6.loc _ _ nn))⟩
          | _ => exact False.elim p
        | exc c fs h6 => exact p
        | bad => exact False.elim p
    | exc c fs h1 => exact p
    | bad => exact p
  | exc c fs h1 => exact p
  | bad => exact p
end
end Sh

set_option Elab.async false
set_option linter.all false
set_option maxRecDepth 100000
set_option maxHeartbeats 4000000
namespace Sh
open PySem L2 PyProof.Rows
/-! ### enumerate -/
section
open Sem (wp)
open AutoSeq1 (wpAny_loadPart')
theorem meets_enum1 {v : Value} {o : Obj} {H : Heap → Prop} (B : Begins v o H) :
    Meets (Builtin.«enumerate.__new__» ⟨[.type "enumerate", v], []⟩) (fun _ R s => H s.heap ∧
      R (.ok (.ret (.ref (s.heap.push o).objs.size))) { s with heap := (s.heap.push o).push { cls := .type "enumerate", data := .fields #[.none, .bool false, .ref s.heap.objs.size, rawInt 0, .none, .none] } }) :=
  .of_wp fun prog w A R s h => by
    obtain ⟨hp, g, d, tk, os⟩ := s; obtain ⟨h1, h⟩ := h
    have hsub := sub_enumerate
    have q1 : ∀ {A' : Around} {E : Value → Shared → Prop} {Q : Value → Shared → Prop}, Q (.ref hp.objs.size) ⟨hp.push o, g, d, tk, os⟩ → wpAny (model prog w) A' (pyIter v) Q E ⟨hp, g, d, tk, os⟩ :=
      fun q => B.iter prog w _ _ ⟨hp, g, d, tk, os⟩ _ h1 q
    wp_walk using q1
    refine wpAny_stack_any fun st => wpAny_pure ?_
    split
    · rename_i c _ _ _ _ _
      cases (c == Value.type "enumerate")
      · wp_walk using q1
        exact ⟨_, rfl, h⟩
      · wp_walk using q1
        exact ⟨_, rfl, h⟩
    · wp_walk using q1
      exact ⟨_, rfl, h⟩
theorem call_enum1 {prog : Program} {w : World} {A : Around} {E : Value → Shared → Prop} {s : Shared} {v : Value} {o : Obj} {H : Heap → Prop} {Q : Value → Shared → Prop} (B : Begins v o H) (h1 : H s.heap)
    (h : ∀ h', IsEnum h' (s.heap.objs.size + 1) s.heap.objs.size 0 .none → h'.get? s.heap.objs.size = some o → h'.objs.size = s.heap.objs.size + 2 →
      (∀ b o, s.heap.get? b = some o → h'.get? b = some o) → Q (.ref (s.heap.objs.size + 1)) { s with heap := h' }) :
    wpAny (model prog w) A (call (.type "enumerate") [v]) Q E s := by
  refine callType_new F.called_enumerate (by decide) (F.typeCall_enumerate_1 _) (F.newCall_enumerate_1 _) (fun obj => F.args_object_init_2 obj _) F.entry_enumerate_new
    (meets_enum1 B) ⟨h1, ?_⟩
  have hz : (s.heap.push o).objs.size = s.heap.objs.size + 1 := Heap.size_push ..
  show _ ∧ _
  rw [hz]
  have he : IsEnum ((s.heap.push o).push { cls := .type "enumerate", data := .fields #[.none, .bool false, .ref s.heap.objs.size, rawInt 0, .none, .none] }) (s.heap.objs.size + 1) s.heap.objs.size 0 .none := by
    have := Heap.get?_push_size (s.heap.push o) (o := { cls := .type "enumerate", data := .fields #[.none, .bool false, .ref s.heap.objs.size, rawInt 0, .none, .none] }) rfl
    rw [hz] at this; exact this
  refine ⟨⟨_, he, rfl⟩, h _ he (Heap.get?_push_of_some _ (Heap.get?_push_size _ B.free)) (by rw [Heap.size_push, hz]) fun b o x => Heap.get?_push_of_some _ (Heap.get?_push_of_some _ x)⟩
end
/-- the tuple at a, each item in a new pair -/
def Itet (K : PySem.W.Frag) (a : Addr) : It :=
  ⟨fun i H => ∃ (xs : List V) (x : V), SqT K H a xs ∧ xs[i]? = some x, fun i H v H' => ∃ T x, v = .ref T ∧ H T = none ∧ H' = upd H T (.tup [.int (i : Nat), x]) ∧ ∀ xs, SqT K H a xs → xs[i]? = some x, fun i H => ∃ xs : List V, SqT K H a xs ∧ xs.length ≤ i⟩
theorem turn_enumT {P : Program} {w : World} {K : PySem.W.Frag} {elts : List Expr} {kk : Nat} {tpos : Pos} (a e it : Addr) :
    Turn P w K (.Tuple elts kk tpos) (Itet K a) [e, it] e (fun i h => (∃ old, IsEnum h e it ((i : Nat) : Int) old) ∧ h.IsTupleIter it a i ∧ e ≠ it ∧ e ≠ a ∧ a ≠ it) where
  mem := by simp
  obj := fun i h st b hb => by
    obtain ⟨⟨old, he⟩, ⟨o, ho, hc, hd⟩, _⟩ := st
    have e' : b = e ∨ b = it := by simpa using hb
    rcases e' with z | z
    · rw [z]; exact ⟨_, he, fun v q => nomatch q⟩
    · rw [z]; exact ⟨o, ho, fun v q => by rw [hd] at q; cases q⟩
  keep := fun i h h' st k => let ⟨⟨old, he⟩, hi, hne⟩ := st; ⟨⟨old, k e (by simp) _ he⟩, hi.at fun o q => k it (by simp) o q, hne⟩
  item := by
    intro X hP hw hK hc i pins s σ H E I hf st hg
    subst hP hw hK
    obtain ⟨⟨old, he⟩, hit, hne, hea, hai⟩ := st
    obtain ⟨xs, x, hq, hx⟩ := hg
    obtain ⟨its, rv, p, hz⟩ := I.tuple hq
    obtain ⟨u, hu, ru⟩ := rv.get hx
    have hel : e < s.heap.objs.size := Heap.lt_size he
    have hil : it < s.heap.objs.size := by obtain ⟨_, q, _⟩ := hit; exact Heap.lt_size q
    have hlt : i < its.toArray.size := by
      have := (List.getElem?_eq_some_iff.mp hu).1
      simpa using this
    refine wpAny_pyNext_enum_itemD (Draws.tuple (A := X.A.in1) (I.ok.hd hc) it a hai its.toArray) he ⟨hit, show s.heap.IsTuple a its.toArray from p⟩ hlt hne (by simp [hne, hea]) fun y h' tk hy ho hst hT hsz hk => ?_
    have ey : y = u := by
      have q : its[i]? = some y := by simpa using hy
      rw [hu] at q
      exact (Option.some.inj q).symm
    subst ey
    have hit' : h'.IsTupleIter it a (i + 1) := hst.1
    refine ⟨_, rfl, wpAny_letOwnedTupleGo_enum (s := { s with heap := h', toks := tk + 1 }) ho fun h'' he' sb => ?_⟩
    have hT2 : h''.get? s.heap.objs.size = some { cls := .type "tuple", data := .seq #[.int i tk, y] } := (sb.2 _ (Nat.ne_of_gt hel)).trans hT
    have new : ObjOk X.prog X.w (upd H s.heap.objs.size (.tup [.int (i : Nat), x])) h'' s.heap.objs.size (.tup [.int (i : Nat), x]) :=
      ⟨by show 2 ≤ sizeLine; decide, [.int i tk, y], .cons ⟨_, rfl⟩ (.cons ru .nil), ⟨_, hT2, rfl, _, rfl⟩⟩
    have I1 : Inv X pins σ (upd H s.heap.objs.size (.tup [.int (i : Nat), x])) { s with heap := h'', toks := tk + 1 } :=
      I.turnedNew (ch := [e, it]) (fun b ob hb q => (sb.2 b (fun z => hb (by simp [z]))).trans (hk b ob (fun z => hb (by simp [z])) (fun z => hb (by simp [z])) q)) hf (Nat.le_refl _) new
    refine ⟨.ref s.heap.objs.size, _, I1, rfl, ⟨_, x, rfl, I.hok.fresh (Nat.le_refl _), rfl, fun ys hy => by rw [I.tuple_inj hy hq]; exact hx⟩, ⟨⟨y, ?_⟩, hit'.at fun o q => (sb.2 it (Ne.symm hne)).trans q, hne, hea, hai⟩, fun b hb => ?_⟩
    · have e1 : ((i + 1 : Nat) : Int) = (i : Int) + 1 := by omega
      rw [e1]; exact he'
    · have hb' : b < s.heap.objs.size := by
        have e' : b = e ∨ b = it := by simpa using hb
        rcases e' with z | z
        · rw [z]; exact hel
        · rw [z]; exact hil
      rw [upd_ne (Nat.ne_of_lt hb')]
      exact (hf b hb).1
  done := by
    intro X hP hw hK hc i pins s σ H E I hf st hg
    subst hP hw hK
    obtain ⟨⟨old, he⟩, hit, hne, hea, hai⟩ := st
    obtain ⟨xs, hq, hx⟩ := hg
    obtain ⟨its, rv, p, hz⟩ := I.tuple hq
    obtain ⟨f0, f1, f2, f3, f4, f5⟩ := hf it (by simp)
    have hl := rv.length
    unfold pyNext
    have hT : s.TypeIs (.ref e) "enumerate" := ⟨_, he, rfl⟩
    refine wpAny_bind (wpAny_attempt (wpAny_callSpecial?_slot (name := Str.ofString "__next__") hT F.slot_enumerate_next
      (wpAny_call_entry F.slot_enumerate_next hT F.entry_enumerate_next ?_ (F.args_enumerate_next_1 _))))
    show wpAny _ _ (field (.ref e) 2 >>= _) _ _ _
    refine wpAny_bind (wpAny_field he rfl (x := .ref it) rfl ?_)
    refine wpAny_bind (wpAny_nextOf_tuple_end (A := X.A.in1) (I.ok.hd hc) hit (show s.heap.IsTuple a its.toArray from p) (by simp; omega) fun h' e0 eb hsi => ?_)
    obtain ⟨o, ho, hc⟩ := hsi
    refine wpAny_bind (wpAny_isInstance (T := "StopIteration") (b := true) ⟨o, ho, hc⟩ isSubtype_stop ?_)
    exact wpAny_pure ⟨rfl, I.turned (t' := s.toks) (fun b o hb q => eb b o hb q) f0 f1 f3 f4 f5⟩
  self := fun A i s Q E st h => let ⟨⟨_, he⟩, _⟩ := st; wpAny_pyIter_enum he h
section
variable {X : Cx} {W : WX} {e : Expr} {f : FE} {p pos tpos : Pos} {elts : List Expr} {kk : Nat}
/-- of a list or a tuple -/
theorem pi_enumS {ta : TA} (hg : Gl X "enumerate") (hm : X.mg "enumerate" = none) (ha : PA X [e] ta) (hs : starEach [e] X.env = [(false, eval e X.env)] := by rfl) :
    PI X (.Tuple elts kk tpos) (.Call (.Name "enumerate" p) [e] [] pos) (fun σ H R => ta σ H fun vs H1 => ∃ x, vs = [x] ∧ ∃ a, x = .ref a ∧ (((∃ xs, SqL X.K H1 a xs) ∧ R (Ite X.K a) H1) ∨ ((∃ xs, SqT X.K H1 a xs) ∧ R (Itet X.K a) H1))) := by
  refine ⟨fun pins s σ H R I h => ?_⟩
  refine Call_ (ld_blt I hg hm boot_enumerate (PyProof.Rows.callWith_type1 (thn (ha.run pos pins s σ H _ I h) fun us s1 ⟨vs, H1, I1, r1, x, q0, q1⟩ => ?_) hs rfl))
  subst q0
  obtain ⟨a, ex, q⟩ := q1
  subst ex
  cases r1 with
  | cons r rr =>
    cases rr
    cases r
    rcases q with ⟨⟨xs, hq⟩, q⟩ | ⟨⟨xs, hq⟩, q⟩
    · obtain ⟨its, rv, p', hz⟩ := I1.list hq
      refine call_enumerate_list p'.isList fun h' he hit hsz hk => wpAny_pyIter_enum he ?_
      have I2 : Inv X pins σ H1 { s1 with heap := h' } := I1.kept (t' := s1.toks) hk
      refine ⟨s1.heap.objs.size + 1, [s1.heap.objs.size + 1, s1.heap.objs.size], _, _, H1, rfl, I2, turn_enum a (s1.heap.objs.size + 1) s1.heap.objs.size, ⟨⟨.none, he⟩, hit, Nat.succ_ne_self _⟩, fun b hb => ?_, q⟩
      have e' : b = s1.heap.objs.size + 1 ∨ b = s1.heap.objs.size := by simpa using hb
      have hle : s1.heap.objs.size ≤ b := by
        rcases e' with z | z
        · rw [z]; exact Nat.le_add_right _ _
        · rw [z]; exact Nat.le_refl _
      exact I1.fpOk hle (I1.hok.fresh hle)
    · obtain ⟨its, rv, p', hz⟩ := I1.tuple hq
      have hl : a < s1.heap.objs.size := by
        obtain ⟨ob, ho, _⟩ := (show s1.heap.IsTuple a its.toArray from p')
        exact Heap.lt_size ho
      refine call_enum1 (begins_tuple a its.toArray) (show s1.heap.IsTuple a its.toArray from p') fun h' he hit hsz hk => wpAny_pyIter_enum he ?_
      have I2 : Inv X pins σ H1 { s1 with heap := h' } := I1.kept (t' := s1.toks) hk
      refine ⟨s1.heap.objs.size + 1, [s1.heap.objs.size + 1, s1.heap.objs.size], _, _, H1, rfl, I2, turn_enumT a (s1.heap.objs.size + 1) s1.heap.objs.size, ⟨⟨.none, he⟩, ⟨_, hit, rfl, rfl⟩, Nat.succ_ne_self _, Nat.ne_of_gt (Nat.lt_succ_of_lt hl), Nat.ne_of_lt hl⟩, fun b hb => ?_, q⟩
      have e' : b = s1.heap.objs.size + 1 ∨ b = s1.heap.objs.size := by simpa using hb
      have hle : s1.heap.objs.size ≤ b := by
        rcases e' with z | z
        · rw [z]; exact Nat.le_add_right _ _
        · rw [z]; exact Nat.le_refl _
      exact I1.fpOk hle (I1.hok.fresh hle)
def enD : Nat → List D → List D
  | _, [] => []
  | i, d :: ds => .tup [.int (i : Nat), d] :: enD (i + 1) ds
theorem enD_get : ∀ {ds : List D} {k i : Nat}, (enD k ds)[i]? = (ds[i]?).map fun d => .tup [.int ((k + i : Nat) : Nat), d]
  | [], k, i => by simp [enD]
  | d :: ds, k, 0 => by simp [enD]
  | d :: ds, k, i + 1 => by
    have e : k + 1 + i = k + (i + 1) := by omega
    simp only [enD, List.getElem?_cons_succ]
    rw [enD_get, e]
theorem enD_length : ∀ {ds : List D} {k : Nat}, (enD k ds).length = ds.length
  | [], k => rfl
  | d :: ds, k => by simp [enD, enD_length]
def iEn (d : D) (h : Hm) : RI := match d with
  | .tup ds => .ok (enD 0 ds) none h
  | .ref n => match items h (.ref n) with
    | some ds => .ok (enD 0 ds) (some (n, ds)) h
    | none => .bad
  | _ => .bad
def fiEn (f : FE) : FI := fun s h => (f s h).it iEn
theorem walk_enumL {K : PySem.W.Frag} {mg : Str → Option Value} {m : List Addr} {H : Hp} {n : Nat} {a : Addr} {ds : List D} (hm : m[n]? = some a) : WalkD K mg true (Ite K a) (enD 0 ds) (some (n, ds)) m H := by
  intro i m' H' h g r hc
  obtain ⟨vs, hq, l⟩ := items_ref r (g.loc _ _ hm) (chkB_ok hc)
  refine ⟨fun x hx => ?_, fun hle => ⟨vs, hq, by rw [l.length]; rw [enD_length] at hle; exact hle⟩⟩
  rw [enD_get] at hx
  obtain ⟨d, hd, rfl⟩ := Option.map_eq_some_iff.mp hx
  obtain ⟨v, hv, rv⟩ := l.get hd
  refine ⟨⟨vs, v, hq, hv⟩, fun v' H2 hy => ?_⟩
  obtain ⟨T, w, rfl, hT, rfl, hy⟩ := hy
  have e := hy vs hq
  rw [hv] at e
  cases e
  refine ⟨Grow.new hT, r.tup hT, .inr ⟨rfl, T, _, _, rfl, .inl (.inl upd_same), .cons (.int _) (.cons (rv.grow (Grow.new hT)) .nil), ?_⟩⟩
  rw [Nat.zero_add]
theorem walk_enumT {K : PySem.W.Frag} {mg : Str → Option Value} {m : List Addr} {H : Hp} {a : Addr} {ds : List D} {vs : List V} (ht : TupS K H a vs) (l : RepL K m H vs ds) : WalkD K mg true (Itet K a) (enD 0 ds) none m H := by
  intro i m' H' h g r hc
  have hq := (g.tupS ht).sqT
  replace l := l.grow g
  refine ⟨fun x hx => ?_, fun hle => ⟨vs, hq, by rw [l.length]; rw [enD_length] at hle; exact hle⟩⟩
  rw [enD_get] at hx
  obtain ⟨d, hd, rfl⟩ := Option.map_eq_some_iff.mp hx
  obtain ⟨v, hv, rv⟩ := l.get hd
  refine ⟨⟨vs, v, hq, hv⟩, fun v' H2 hy => ?_⟩
  obtain ⟨T, w, rfl, hT, rfl, hy⟩ := hy
  have e := hy vs hq
  rw [hv] at e
  cases e
  refine ⟨Grow.new hT, r.tup hT, .inr ⟨rfl, T, _, _, rfl, .inl (.inl upd_same), .cons (.int _) (.cons (rv.grow (Grow.new hT)) .nil), ?_⟩⟩
  rw [Nat.zero_add]
theorem si_enum (hg : Gl X "enumerate") (hm : X.mg "enumerate" = none) (he : SE X W e f) (hs : starEach [e] X.env = [(false, eval e X.env)] := by rfl) (hs2 : starEach [e] X.env = (false, eval e X.env) :: starEach [] X.env := by rfl) :
    SI X W true (.Tuple elts kk tpos) (.Call (.Name "enumerate" p) [e] [] pos) (fiEn f) := by
  refine PI.imp (pi_enumS hg hm (pa_cons he pa_nil hs2) hs) fun σ H Q h => ?_
  obtain ⟨m, s, h, R0, rs, p⟩ := h
  refine ⟨m, s, h, R0, rs, PostE.mono (PostI.ofE p) ?_⟩
  rintro x H1 ⟨m1, dx, h1, g1, R1, rx, p1⟩
  refine ⟨x, rfl, ?_⟩
  unfold iEn at p1
  split at p1
  · obtain ⟨a, vs, rfl, t, l⟩ := rx.tup_inv
    exact ⟨a, rfl, .inr ⟨⟨vs, t.sqT⟩, p1 m1 H1 _ (Grow.refl _ _) R1 (walk_enumT t l)⟩⟩
  · split at p1
    · rename_i ds hi
      obtain ⟨a, rfl, hm⟩ := rx.ref_inv
      obtain ⟨vs, hq, l⟩ := items_ref R1 hm hi
      exact ⟨a, rfl, .inl ⟨⟨vs, hq⟩, p1 m1 H1 _ (Grow.refl _ _) R1 (walk_enumL hm)⟩⟩
    · exact False.elim p1
  · exact False.elim p1
end
end Sh

set_option Elab.async false
set_option linter.all false
set_option maxRecDepth 100000
set_option maxHeartbeats 4000000
namespace Sh
open PySem L2 PyProof.Rows
/-! ### dicts with keys that are ints or texts -/
section
variable {X : Cx} {W : WX} {o i e b c : Expr} {fo fi f fb fc : FE} {pos pos' apos cpos p : Pos}
def eDnew : FE := fun _ h => .ok (.ref h.length) (h ++ [.dk []])
theorem se_dnew : SE X W (.Dict [] [] pos) eDnew := PE.imp pe_dnewK fun σ H Q ⟨m, s, h, r, rs, p⟩ q hq =>
  p _ _ _ (Grow.newr hq) (r.new hq ⟨[], upd_same, .nil⟩) (.ref r.newAt)
def keyD : D → Option Key
  | .int i => some (.inl i)
  | .str x => some (.inr x)
  | _ => none
theorem keyD_rep {K : PySem.W.Frag} {m : List Addr} {H : Hp} {v : V} {d : D} {k : Key} (r : Rep K m H v d) (e : keyD d = some k) : v = kV k := by
  cases r <;> simp [keyD] at e <;> subst e <;> rfl
def valD (kvs : List (Key × D)) (k : Key) : Option D := (kvs.find? fun kv => decide (kv.1 = k)).map (·.2)
def putKD (kvs : List (Key × D)) (k : Key) (v : D) : List (Key × D) :=
  if (kvs.any fun kv => decide (kv.1 = k)) = true then kvs.map (fun kv => if kv.1 = k then (kv.1, v) else kv) else kvs ++ [(k, v)]
section
variable {K : PySem.W.Frag} {m : List Addr} {H : Hp}
theorem RepK.val (k : Key) : ∀ {x : List (Key × V)} {y : List (Key × D)}, RepK K m H x y → (valV x k = none ∧ valD y k = none) ∨ ∃ v d, valV x k = some v ∧ valD y k = some d ∧ Rep K m H v d
  | _, _, .nil => .inl ⟨rfl, rfl⟩
  | (k1, v) :: x, (k2, d) :: y, .cons q t => by
    obtain ⟨e1, q⟩ := q
    simp only at e1
    subst e1
    by_cases e : k1 = k
    · subst e
      exact .inr ⟨v, d, by simp [valV], by simp [valD], q⟩
    · rcases RepK.val k t with ⟨a, b⟩ | ⟨v, d, a, b, r⟩
      · exact .inl ⟨by simpa [valV, List.find?_cons, e] using a, by simpa [valD, List.find?_cons, e] using b⟩
      · exact .inr ⟨v, d, by simpa [valV, List.find?_cons, e] using a, by simpa [valD, List.find?_cons, e] using b, r⟩
theorem RepK.any (k : Key) : ∀ {x : List (Key × V)} {y : List (Key × D)}, RepK K m H x y → (x.any fun kv => decide (kv.1 = k)) = (y.any fun kv => decide (kv.1 = k))
  | _, _, .nil => rfl
  | (k1, v) :: x, (k2, d) :: y, .cons q t => by
    obtain ⟨e1, q⟩ := q
    simp only at e1
    subst e1
    simp only [List.any_cons, RepK.any k t]
theorem RepK.mapP (k : Key) {v : V} {d : D} (r : Rep K m H v d) : ∀ {x : List (Key × V)} {y : List (Key × D)}, RepK K m H x y → RepK K m H (x.map fun kv => if kv.1 = k then (kv.1, v) else kv) (y.map fun kv => if kv.1 = k then (kv.1, d) else kv)
  | _, _, .nil => .nil
  | (k1, v) :: x, (k2, d) :: y, .cons q t => by
    obtain ⟨e1, q⟩ := q
    simp only at e1
    subst e1
    refine .cons ?_ (RepK.mapP k r t)
    by_cases e : k1 = k
    · simp only [e, if_true]; exact ⟨trivial, r⟩
    · simp only [e, if_false]; exact ⟨trivial, q⟩
theorem RepK.app : ∀ {x x' : List (Key × V)} {y y' : List (Key × D)}, RepK K m H x y → RepK K m H x' y' → RepK K m H (x ++ x') (y ++ y')
  | _, _, _, _, .nil, s => s
  | _, _, _, _, .cons r t, s => .cons r (RepK.app t s)
theorem RepK.put (k : Key) {v : V} {d : D} (r : Rep K m H v d) {x : List (Key × V)} {y : List (Key × D)} (t : RepK K m H x y) : RepK K m H (putK x k v) (putKD y k d) := by
  unfold putK putKD
  rw [RepK.any k t]
  split
  · exact t.mapP k r
  · exact t.app (.cons ⟨rfl, r⟩ .nil)
theorem RepK.len {x : List (Key × V)} {y : List (Key × D)} (t : RepK K m H x y) : x.length = y.length := Paired.length t
end
/-- d[k] = v -/
def gDput (fo fi fv : FE) : FS := fun s h => (fv s h).st s fun v h1 => (fo s h1).st s fun d h2 => (fi s h2).st s fun y h3 => match d, keyD y with
  | .ref n, some k => (match h3[n]? with
    | some (.dk kvs) => if kvs.length < big then .nx s (h3.set n (.dk (putKD kvs k v))) else .bad
    | _ => .bad)
  | _, _ => .bad
theorem ss_dput {k : Nat} (hr : Room k X.A) (ho : SE X W o fo) (hi : SE X W i fi) (hv : SE X W e f) (hs : swapsWith e (some (.Subscript o i pos')) pos.line X.env = pure false := by rfl) : SS X W (.Assign [.Subscript o i pos'] e pos) (gDput fo fi f) := by
  have hu := hr.units
  refine PS.imp (ps_dput (by omega) ho hi hv hs) fun D σ H h => ?_
  obtain ⟨m, s, h, R0, rs, p⟩ := h
  refine ⟨m, s, h, R0, rs, PostE.mono (PostS.ofE rs p) ?_⟩
  rintro v H1 ⟨m1, dv, h1, g1, R1, rv, p1⟩
  refine ⟨m1, s, h1, R1, rs.grow g1, PostE.mono (PostS.ofE (rs.grow g1) p1) ?_⟩
  rintro x H2 ⟨m2, dx, h2, g2, R2, rx, p2⟩
  refine ⟨m2, s, h2, R2, (rs.grow g1).grow g2, PostE.mono (PostS.ofE ((rs.grow g1).grow g2) p2) ?_⟩
  rintro y H3 ⟨m3, dy, h3, g3, R3, ry, p3⟩
  split at p3
  · rename_i n k hk
    split at p3
    · rename_i kvs hn
      split at p3
      · rename_i hl
        obtain ⟨a, rfl, hm⟩ := (rx.grow g3).ref_inv
        have xo := R3.ob _ _ _ hm hn
        obtain ⟨kv, q1, q2⟩ := id xo
        have ek := keyD_rep ry hk
        subst ek
        refine ⟨a, _, rfl, DPut.k q1 (by rw [q2.len]; exact Nat.lt_of_lt_of_le hl (big_line (Nat.le_refl _))), ?_⟩
        have g4 : Grow m3 H3 m3 (upd H3 a (.dK (putK kv k v))) := Grow.set xo rfl
        exact p3 m3 _ σ g4 (R3.set hm hn rfl ⟨putK kv k v, upd_same, ((q2.grow g4).put k ((rv.grow (g2.trans g3)).grow g4))⟩) ((rs.grow (g1.trans (g2.trans g3))).grow g4)
      · exact False.elim p3
    · exact False.elim p3
  · exact False.elim p3
/-- d.get(k), d.get(k, x); d[k], k there -/
def dGet (d y z : D) (h : Hm) : RD := match d, keyD y with
  | .ref n, some k => (match h[n]? with
    | some (.dk kvs) => .ok ((valD kvs k).getD z) h
    | _ => .bad)
  | _, _ => .bad
def dHas (d y : D) (h : Hm) : Option (Option D) := match d, keyD y with
  | .ref n, some k => (match h[n]? with
    | some (.dk kvs) => some (valD kvs k)
    | _ => none)
  | _, _ => none
def isDk (d : D) (h : Hm) : Bool := match d with
  | .ref n => (match h[n]? with
    | some (.dk _) => true
    | _ => false)
  | _ => false
theorem isDk_ok {m : List Addr} {H : Hp} {h : Hm} {x : V} {d : D} (R0 : R X.K X.mg m H h) (rx : Rep X.K m H x d) (e : isDk d h = true) : ∃ a, x = .ref a ∧ IsD H a := by
  unfold isDk at e
  split at e
  · split at e
    · rename_i n _ kvs hn
      obtain ⟨a, rfl, hm⟩ := rx.ref_inv
      obtain ⟨kv, q1, q2⟩ := R0.ob _ _ _ hm hn
      exact ⟨a, rfl, .inl ⟨kv, .inl q1⟩⟩
    · cases e
  · cases e
theorem dHas_ok {m : List Addr} {H : Hp} {h : Hm} {x y : V} {d dy : D} {r : Option D} (R0 : R X.K X.mg m H h) (rx : Rep X.K m H x d) (ry : Rep X.K m H y dy) (e : dHas d dy h = some r) :
    ∃ a o, x = .ref a ∧ DGet H a y o ∧ ((o = none ∧ r = none) ∨ ∃ v z, o = some v ∧ r = some z ∧ Rep X.K m H v z) := by
  unfold dHas at e
  split at e
  · rename_i n k hk
    split at e
    · rename_i kvs hn
      cases e
      obtain ⟨a, rfl, hm⟩ := rx.ref_inv
      obtain ⟨kv, q1, q2⟩ := R0.ob _ _ _ hm hn
      have ek := keyD_rep ry hk
      subst ek
      rcases q2.val k with ⟨h1, h2⟩ | ⟨v, z, h1, h2, h3⟩
      · exact ⟨a, none, rfl, by rw [← h1]; exact DGet.k q1, .inl ⟨rfl, h2⟩⟩
      · exact ⟨a, some v, rfl, by rw [← h1]; exact DGet.k q1, .inr ⟨v, z, rfl, h2, h3⟩⟩
    · cases e
  · cases e
def eDget1 (fo fi : FE) : FE := fun s h => (fo s h).bind fun d h1 => if isDk d h1 = true then (fi s h1).bind fun y h2 => match dHas d y h2 with
  | some r => .ok (r.getD .non) h2
  | none => .bad
  else .bad
def eDget2 (fo fi fx : FE) : FE := fun s h => (fo s h).bind fun d h1 => if isDk d h1 = true then (fi s h1).bind fun y h2 => (fx s h2).bind fun z h3 => match dHas d y h3 with
  | some r => .ok (r.getD z) h3
  | none => .bad
  else .bad
def eDix (fo fi : FE) : FE := fun s h => (fo s h).bind fun d h1 => (fi s h1).bind fun y h2 => match dHas d y h2 with
  | some (some v) => .ok v h2
  | _ => .bad
theorem se_dget1 {k : Nat} (hr : Room k X.A) (ho : SE X W o fo) (he : SE X W e fi) (m : M1 X o "get" apos e cpos) : SE X W (.Call (.Attribute o "get" apos) [e] [] cpos) (eDget1 fo fi) := by
  have hu := hr.units
  refine PE.imp (pe_dget1 (by omega) ho he m) fun σ H Q h => ?_
  obtain ⟨m, s, h, R0, rs, p⟩ := h
  refine ⟨m, s, h, R0, rs, PostE.mono (PostE.bind p) ?_⟩
  rintro x H1 ⟨m1, dx, h1, g1, R1, rx, p1⟩
  split at p1
  · rename_i hd
    obtain ⟨a, rfl, hD⟩ := isDk_ok R1 rx hd
    refine ⟨a, rfl, hD, m1, s, h1, R1, rs.grow g1, PostE.mono (PostE.bind p1) ?_⟩
    rintro y H2 ⟨m2, dy, h2, g2, R2, ry, p2⟩
    split at p2
    · rename_i r hr
      obtain ⟨a', o, e, g, q⟩ := dHas_ok R2 (rx.grow g2) ry hr
      cases e
      refine ⟨o, g, ?_⟩
      rcases q with ⟨rfl, rfl⟩ | ⟨v, z, rfl, rfl, rv⟩
      · exact p2.val R2 .non
      · exact p2.val R2 rv
    · exact False.elim p2
  · exact False.elim p1
theorem se_dget2 {k : Nat} (hr : Room k X.A) (ho : SE X W o fo) (he : SE X W e fi) (hf : SE X W b fb) (m : M2 X o "get" apos e b cpos) : SE X W (.Call (.Attribute o "get" apos) [e, b] [] cpos) (eDget2 fo fi fb) := by
  have hu := hr.units
  refine PE.imp (pe_dget2 (by omega) ho he hf m) fun σ H Q h => ?_
  obtain ⟨m, s, h, R0, rs, p⟩ := h
  refine ⟨m, s, h, R0, rs, PostE.mono (PostE.bind p) ?_⟩
  rintro x H1 ⟨m1, dx, h1, g1, R1, rx, p1⟩
  split at p1
  · rename_i hd
    obtain ⟨a, rfl, hD⟩ := isDk_ok R1 rx hd
    refine ⟨a, rfl, hD, m1, s, h1, R1, rs.grow g1, PostE.mono (PostE.bind p1) ?_⟩
    rintro y H2 ⟨m2, dy, h2, g2, R2, ry, p2⟩
    refine ⟨m2, s, h2, R2, (rs.grow g1).grow g2, PostE.mono (PostE.bind p2) ?_⟩
    rintro z H3 ⟨m3, dz, h3, g3, R3, rz, p3⟩
    split at p3
    · rename_i r hr
      obtain ⟨a', o, e, g, q⟩ := dHas_ok R3 (rx.grow (g2.trans g3)) (ry.grow g3) hr
      cases e
      refine ⟨o, g, ?_⟩
      rcases q with ⟨rfl, rfl⟩ | ⟨v, z, rfl, rfl, rv⟩
      · exact p3.val R3 rz
      · exact p3.val R3 rv
    · exact False.elim p3
  · exact False.elim p1
theorem se_dix {k : Nat} (hr : Room k X.A) (ho : SE X W o fo) (hi : SE X W i fi) (hs : NoSl i) : SE X W (.Subscript o i pos) (eDix fo fi) := by
  have hu := hr.units
  refine PE.imp (pe_dget (by omega) ho hi hs) fun σ H Q h => ?_
  obtain ⟨m, s, h, R0, rs, p⟩ := h
  refine ⟨m, s, h, R0, rs, PostE.mono (PostE.bind p) ?_⟩
  rintro x H1 ⟨m1, dx, h1, g1, R1, rx, p1⟩
  refine ⟨m1, s, h1, R1, rs.grow g1, PostE.mono (PostE.bind p1) ?_⟩
  rintro y H2 ⟨m2, dy, h2, g2, R2, ry, p2⟩
  split at p2
  · rename_i r hr
    obtain ⟨a', o, e, g, q⟩ := dHas_ok R2 (rx.grow g2) ry hr
    cases e
    rcases q with ⟨rfl, h0⟩ | ⟨v, z, rfl, h0, rv⟩
    · cases h0
    · cases h0
      exact ⟨a', v, rfl, g, p2.val R2 rv⟩
  · exact False.elim p2
end
end Sh

set_option Elab.async false
set_option linter.all false
set_option maxRecDepth 100000
set_option maxHeartbeats 4000000
namespace Sh
open PySem L2 PyProof.Rows L2.DX
open PySem.W (EachIs AllAlike Sortable dataLe)
/-! ### sorted(d.items()) -/
section
variable {X : Cx}
def rItemsK : V → List V → Hp → VK → Prop := fun x xs H Q => ∃ (a : Addr) (kvs : List (Key × V)), x = .ref a ∧ xs = [] ∧ H a = some (.dK kvs) ∧ ∀ p, H p = none → Q (.ref p) (upd H p (itemsO p a))
theorem mt_itemsK : MtR X "dict.items" rItemsK := by
  intro pins s σ H x xs v us Q I rx rxs h
  obtain ⟨a, kvs, rfl, rfl, ha, q⟩ := h
  cases rx
  cases rxs
  obtain ⟨z, hd, xs', rel, o, es, ep, ho, hx, hdat, _⟩ := dk_rd I.hok (.inl ha)
  refine DT.callItems (es := es) (ep := ep) hd ⟨o, ho, hx, hdat⟩ ?_
  have hf : H s.heap.objs.size = none := I.hok.fresh (Nat.le_refl _)
  exact ⟨.ref s.heap.objs.size, upd H s.heap.objs.size (itemsO s.heap.objs.size a), I.laid (t' := s.toks) (fun b u e => Heap.get?_push_of_some _ e) (Nat.le_refl _) (itemsO_ok (Heap.get?_push_size _ rfl)), rfl, q _ hf⟩
/-- things already laid are tracked -/
theorem takeF {pins : List (Addr × Obj)} {σ : L2.St} {H0 : Hp} {s : Shared} {h' : Heap} {tk : Nat} {P : Addr → HO → Prop} (I0 : Inv X pins σ H0 s) : ∀ (L : List Addr) (H1 : Hp), Inv X pins σ H1 { s with heap := h', toks := tk } → L.Nodup →
    (∀ a ∈ L, s.heap.objs.size ≤ a ∧ H1 a = none ∧ ∃ u, P a u ∧ ∀ H2, ObjOk X.prog X.w H2 h' a u) →
    ∃ H2, Inv X pins σ H2 { s with heap := h', toks := tk } ∧ (∀ b o, H1 b = some o → H2 b = some o) ∧ ∀ a ∈ L, ∃ u, P a u ∧ H2 a = some u
  | [], H1, I1, _, _ => ⟨H1, I1, fun _ _ e => e, fun _ h => nomatch h⟩
  | a :: L, H1, I1, hn, h => by
    obtain ⟨hb, hnone, u, hP, ok⟩ := h a (List.mem_cons_self ..)
    have I2 : Inv X pins σ (upd H1 a u) { s with heap := h', toks := tk } := I1.take (h' := h') (t' := tk) (fun b ob _ e => e) (I0.fpOk hb hnone) (ok _)
    rw [List.nodup_cons] at hn
    obtain ⟨H2, I3, g, q⟩ := takeF I0 L (upd H1 a u) I2 hn.2 fun c hc => by
      obtain ⟨c1, c2, c3⟩ := h c (List.mem_cons_of_mem _ hc)
      exact ⟨c1, by rw [upd_ne (fun z => hn.1 (by rw [← z]; exact hc))]; exact c2, c3⟩
    refine ⟨H2, I3, fun b o e => g b o (by rw [upd_ne (ne_of_none e hnone)]; exact e), fun c hc => ?_⟩
    rcases List.mem_cons.mp hc with rfl | hc
    · exact ⟨u, hP, g _ _ upd_same⟩
    · exact q c hc
def kP : Key → PyData
  | .inl i => .int i
  | .inr x => .str x
theorem pairs_at {prog : Program} {w : World} : ∀ {es : List DictEntry} {kvs : List (Key × Value)} {j : Nat} {e : DictEntry}, Pairs (mixKind prog w) es kvs → es[j]? = some e → ∃ p : Key × Value, kvs[j]? = some p ∧ keyIs p.1 e.key = true ∧ e.val = p.2
  | _, _, j, e, .nil, h => by simp at h
  | _, _, 0, e, .cons (kv := kv) h1 h2 _, h => by
    simp only [List.getElem?_cons_zero] at h
    cases h
    exact ⟨kv, rfl, h1, h2⟩
  | _, _, j + 1, e, .cons _ _ t, h => by
    simp only [List.getElem?_cons_succ] at h ⊢
    exact pairs_at t h
theorem pairs_len {prog : Program} {w : World} {es : List DictEntry} {kvs : List (Key × Value)} (h : Pairs (mixKind prog w) es kvs) : es.length = kvs.length := Pairs.length h
theorem key_reads {h : Heap} {k : Key} {v : Value} (e : keyIs k v = true) : Reads h v (kP k) [] := by
  rcases keyIs_shape e with ⟨i, t, rfl, rfl⟩ | ⟨x, t, rfl, rfl⟩
  · exact .int i t
  · exact .str x t
theorem key_rel {k : Key} {v : Value} (e : keyIs k v = true) : RelV (kV k) v := by
  rcases keyIs_shape e with ⟨i, t, rfl, rfl⟩ | ⟨x, t, rfl, rfl⟩
  · exact ⟨t, rfl⟩
  · exact ⟨t, rfl⟩
theorem each_of {α β : Type} {R : α → β → Prop} : ∀ {as : List α} {bs : List β}, as.length = bs.length → (∀ (j : Nat) a b, as[j]? = some a → bs[j]? = some b → R a b) → EachIs R as bs
  | [], [], _, _ => .nil
  | [], _ :: _, h, _ => by simp at h
  | _ :: _, [], h, _ => by simp at h
  | a :: as, b :: bs, h, k => .cons (k 0 a b rfl rfl) (each_of (by simpa using h) fun j x y h1 h2 => k (j + 1) x y (by simpa using h1) (by simpa using h2))
theorem each_mem' {α β : Type} {R : α → β → Prop} : ∀ {as : List α} {bs : List β}, EachIs R as bs → ∀ a ∈ as, ∃ b ∈ bs, R a b
  | _, _, .nil, a, h => nomatch h
  | _, _, .cons r t, a, h => by
    rcases List.mem_cons.mp h with rfl | h
    · exact ⟨_, List.mem_cons_self .., r⟩
    · obtain ⟨b, hb, q⟩ := each_mem' t a h
      exact ⟨b, List.mem_cons_of_mem _ hb, q⟩
abbrev KVP := (Key × V) × PyData
def rSortIK (K : PySem.W.Frag) : List V → Hp → VK → Prop := fun vs H Q => ∃ (p a : Addr) (bs : List KVP), vs = [.ref p] ∧ H p = some (itemsO p a) ∧ H a = some (.dK (bs.map (·.1))) ∧ bs.length ≤ big ∧
  (∀ b ∈ bs, ∃ d, Dp K H b.1.2 d ∧ b.2 = .tuple [kP b.1.1, d] ∧ b.2.depth ≤ 50) ∧ AllAlike (bs.map (·.2)) ∧
  ∀ (H' : Hp) (l : Addr) (qs : List Addr), (∀ b o, H b = some o → H' b = some o) → H l = none → H' l = some (.lst (qs.map V.ref)) →
    EachIs (fun q b => ∃ o, H' q = some (.frz o (.tup [kV b.1.1, b.1.2])) ∧ o.dict = none) qs (bs.mergeSort (dataLe false (·.2))) → Q (.ref l) H'
theorem reads_in {h : Heap} {v : Value} {d : PyData} {as : List Addr} {l : Addr} (r : Reads h v d as) (hl : h.objs.size ≤ l) : l ∉ as := fun z => by
  obtain ⟨o, ho⟩ := PyProof.On.reads_mem_get r l z
  exact absurd (Heap.lt_size ho) (Nat.not_lt.mpr hl)
theorem cr_sortIK (hc : X.calm = true) (hu : X.A.units + 64 < cLine) : CallR X (.builtin "sorted") (rSortIK X.K) := by
  intro pins s σ H xs us Q I r h
  obtain ⟨p, a, bs, rfl, hp, ha, h64, hbs, hal, q⟩ := h
  obtain rfl := Vals.ref1 r
  have view : s.heap.IsItemsView p a := (show ObjOk X.prog X.w H s.heap p (itemsO p a) from I.hok p _ hp).1
  obtain ⟨z, hd, xs', rel, o, es, ep, ho, hx, hdat, hkeys, hpairs, hnd⟩ := dk_rd I.hok (.inl ha)
  have l1 : bs.length = xs'.length := by have := Paired.length rel; simpa using this
  have l2 : es.size = xs'.length := by have := pairs_len hpairs; simpa using this
  have hh : X.A.handled = none := I.ok.hd hc
  refine DT.sortedI (es := es) (ep := ep) hh view ⟨o, ho, hx, hdat⟩ (by rw [l2, ← l1]; exact big_line h64) fun h' tk as hk hlt hl hG => ?_
  have las : as.length = bs.length := by omega
  have nd : as.Nodup := List.Pairwise.imp (fun h => Nat.ne_of_lt h) hG.rise
  -- the pairs that were made
  have pr : ∀ (j : Nat) (t : Addr), as[j]? = some t → ∃ (b : KVP) (kv vv : Value), bs[j]? = some b ∧ keyIs b.1.1 kv = true ∧ RelV b.1.2 vv ∧ h'.get? t = some { cls := .type "tuple", data := .seq #[kv, vv] } := by
    intro j t hj
    obtain ⟨en, he, hg⟩ := hG.pairs j t hj
    obtain ⟨pq, hpq, hkey, hval⟩ := pairs_at hpairs (j := j) (e := en) (by simpa using he)
    obtain ⟨kv, h0, h1, h2⟩ := pget rel hpq
    rw [List.getElem?_map] at h0
    obtain ⟨b, hb, rfl⟩ := Option.map_eq_some_iff.mp h0
    exact ⟨b, en.key, en.val, hb, by rw [h1]; exact hkey, by rw [hval]; exact h2, hg⟩
  have hob : (h'.push { cls := .type "list", data := .seq (as.map Value.ref).toArray }).get? h'.objs.size = some (seqObj "list" (as.map Value.ref).toArray 0) := Heap.get?_push_size _ rfl
  have kb : ∀ b o, s.heap.get? b = some o → (h'.push { cls := .type "list", data := .seq (as.map Value.ref).toArray }).get? b = some o := fun b o e => Heap.get?_push_of_some _ (hk b o e)
  have ne0 : ∀ b o, h'.get? b = some o → b ≠ h'.objs.size := fun b o e => Nat.ne_of_lt (Heap.lt_size e)
  generalize hh2 : h'.push { cls := .type "list", data := .seq (as.map Value.ref).toArray } = h2 at hob kb ⊢
  have ka : ∀ b o, h'.get? b = some o → h2.get? b = some o := fun b o e => by rw [← hh2]; exact Heap.get?_push_of_some _ e
  refine PySem.W.list_sort_data (s := { s with heap := h2, toks := tk }) (A := X.A.in1) (enc := fun b : KVP => b.2) (bs := bs) (R := fun v b => ∃ (j : Nat) (t : Addr), v = .ref t ∧ as[j]? = some t ∧ bs[j]? = some b)
    hob (each_of (by rw [List.length_map]; exact las) fun j v b h1 h2 => ?_) (each_of (by rw [List.length_map]; exact las) fun j v b h1 h2' => ?_) hal (.inl fun d hd => ?_) (big_line h64) (fun b hb => ?_) fun out hol hout => ?_
  · rw [List.getElem?_map] at h1
    obtain ⟨t, ht, rfl⟩ := Option.map_eq_some_iff.mp h1
    exact ⟨j, t, rfl, ht, h2⟩
  · rw [List.getElem?_map] at h1
    obtain ⟨t, ht, rfl⟩ := Option.map_eq_some_iff.mp h1
    obtain ⟨b', kv, vv, hb', hkey, hval, hg⟩ := pr j t ht
    obtain rfl : b' = b := Option.some.inj (hb'.symm.trans h2')
    obtain ⟨d, hd, e2, e4⟩ := hbs b' (List.mem_of_getElem? hb')
    obtain ⟨ws, hr⟩ := Dp.reads I d b'.1.2 vv hd hval
    have hr2 : Reads h2 vv d ws := Reads.keeps kb hr
    refine ⟨[] ++ (ws ++ []), ?_, ?_⟩
    · show Reads h2 (.ref t) b'.2 _
      rw [e2]
      exact Reads.tuple (ka _ _ hg) rfl rfl (.cons (key_reads hkey) (.cons hr2 .nil))
    · have := reads_in (l := h'.objs.size) hr (Nat.le_of_lt hlt)
      simpa using this
  · obtain ⟨b, hb, rfl⟩ := List.mem_map.mp hd
    obtain ⟨d, _, e2, _⟩ := hbs b hb
    exact ⟨_, _, e2⟩
  · obtain ⟨d, _, e2, e4⟩ := hbs b hb
    have hu2 : X.A.in1.units = X.A.units + 1 := rfl
    rw [hu2]
    show X.A.units + 1 + 1 + b.2.depth < cLine
    omega
  · show EP X pins σ Q (.ref h'.objs.size) { s with heap := sortedHeap h2 h'.objs.size (as.map Value.ref) out.toArray, toks := tk }
    have hln : out.length = bs.length := hol
    have oref : ∃ qs : List Addr, out = qs.map Value.ref ∧ (∀ t ∈ qs, t ∈ as) ∧ EachIs (fun t b => ∃ j : Nat, as[j]? = some t ∧ bs[j]? = some b) qs (bs.mergeSort (dataLe false fun b : KVP => b.2)) := by
      generalize bs.mergeSort (dataLe false fun b : KVP => b.2) = B at hout
      clear hol hln q
      induction hout with
      | nil => exact ⟨[], rfl, (fun _ z => nomatch z), .nil⟩
      | cons h1 t1 ih =>
        obtain ⟨j, t, rfl, h2, h3⟩ := h1
        obtain ⟨qs, rfl, h4, h5⟩ := ih
        refine ⟨t :: qs, rfl, fun x hx => ?_, .cons ⟨j, h2, h3⟩ h5⟩
        rcases List.mem_cons.mp hx with rfl | hx
        · exact List.mem_of_getElem? h2
        · exact h4 x hx
    obtain ⟨qs, rfl, hqs, hE⟩ := oref
    have kF : ∀ b o, b ≠ h'.objs.size → h2.get? b = some o → (sortedHeap h2 h'.objs.size (as.map Value.ref) (qs.map Value.ref).toArray).get? b = some o := fun b o hb e => (PyProof.Rows.sortedHeap_old hb (Heap.lt_size e)).trans e
    have kS : ∀ b o, s.heap.get? b = some o → (sortedHeap h2 h'.objs.size (as.map Value.ref) (qs.map Value.ref).toArray).get? b = some o := fun b o e => kF b o (ne0 _ _ (hk b o e)) (kb b o e)
    obtain ⟨eF, heF⟩ := PyProof.Rows.sortedHeap_at (vs := as.map Value.ref) (out := (qs.map Value.ref).toArray) hob
    have I1 : Inv X pins σ H { s with heap := sortedHeap h2 h'.objs.size (as.map Value.ref) (qs.map Value.ref).toArray, toks := tk } := I.kept (t' := tk) kS
    have hn0 : H h'.objs.size = none := I.hok.fresh (Nat.le_of_lt hlt)
    have hlen : (qs.map V.ref).length ≤ sizeLine := by
      rw [List.length_map] at hln ⊢
      rw [hln]
      exact big_line h64
    have rv : Vals (qs.map V.ref) (qs.map Value.ref) := vals_maps V.ref Value.ref qs fun _ _ => rfl
    have I2 : Inv X pins σ (upd H h'.objs.size (.lst (qs.map V.ref))) { s with heap := sortedHeap h2 h'.objs.size (as.map Value.ref) (qs.map Value.ref).toArray, toks := tk } :=
      I1.take (h' := sortedHeap h2 h'.objs.size (as.map Value.ref) (qs.map Value.ref).toArray) (t' := tk) (fun b ob _ e => e) (I.fpOk (Nat.le_of_lt hlt) hn0) ⟨hlen, _, eF, rv, heF⟩
    obtain ⟨H2, I3, g, qt⟩ := takeF (P := fun t u => ∃ (j : Nat) (b : KVP) (o : Obj), as[j]? = some t ∧ bs[j]? = some b ∧ u = .frz o (.tup [kV b.1.1, b.1.2]) ∧ o.dict = none) I as _ I2 nd fun t ht => by
      obtain ⟨j, hj⟩ := List.mem_iff_getElem?.mp ht
      obtain ⟨b, kv, vv, hb, hkey, hval, hg⟩ := pr j t hj
      have hbl : s.heap.objs.size ≤ t := Nat.le_of_lt (hG.above t ht)
      refine ⟨hbl, ?_, _, ⟨j, b, _, hj, hb, rfl, rfl⟩, fun H3 => ⟨kF _ _ (ne0 _ _ hg) (ka _ _ hg), (by rw [sizeLine_eq]; show 2 ≤ 16777216; omega), [kv, vv], .cons (key_rel hkey) (.cons hval .nil), ⟨_, kF _ _ (ne0 _ _ hg) (ka _ _ hg), rfl, 0, rfl⟩⟩⟩
      rw [upd_ne (ne0 _ _ hg)]
      exact I.hok.fresh hbl
    refine ⟨.ref h'.objs.size, H2, I3, rfl, q H2 h'.objs.size qs (fun b o e => g b o (by rw [upd_ne (ne_of_none e hn0)]; exact e)) hn0 (g _ _ upd_same) ?_⟩
    have hq := fun t ht => qt t (hqs t ht)
    clear q rv hlen I1 I2 kF kS eF heF hqs hn0
    generalize bs.mergeSort (dataLe false fun b : KVP => b.2) = B at hE
    refine hE.mono fun t b hb => ?_
    obtain ⟨j, j1, j2⟩ := hb
    obtain ⟨u, ⟨i, b', o, i1, i2, eu, eo⟩, hH⟩ := qt t (List.mem_of_getElem? j1)
    have eij : i = j := (List.getElem?_inj (List.getElem?_eq_some_iff.mp i1).1 nd).mp (i1.trans j1.symm)
    subst eij
    obtain rfl : b' = b := Option.some.inj (i2.symm.trans j2)
    exact ⟨o, by rw [hH, eu], eo⟩
theorem Grow.pts {m : List Addr} {H H' : Hp} (g : ∀ b o, H b = some o → H' b = some o) : Grow m H m H' := ⟨fun _ _ h => h, fun a o u h => g a _ h⟩
/-- a new thing, and more that is not among the named ones -/
theorem R.new2 {K : PySem.W.Frag} {mg : Str → Option Value} {m : List Addr} {H H' : Hp} {h : Hm} {p : Addr} {o : O} (r : R K mg m H h) (g : ∀ b o, H b = some o → H' b = some o) (hp : H p = none) (x : ObjR K mg (m ++ [p]) H' p o) : R K mg (m ++ [p]) H' (h ++ [o]) := by
  have np : p ∉ m := fun z => by
    obtain ⟨n, hn, e⟩ := List.mem_iff_getElem.mp z
    exact r.there (n := n) (a := p) (by rw [List.getElem?_eq_getElem hn, e]) hp
  have gg : Grow m H (m ++ [p]) H' := (Grow.pts g).trans (Grow.more _)
  refine ⟨by simp [r.len], ?_, fun n a o' e1 e2 => ?_⟩
  · rw [List.nodup_append]
    refine ⟨r.nd, by simp, fun a ha b hb => ?_⟩
    have : b = p := by simpa using hb
    subst this
    rintro rfl
    exact np ha
  · by_cases hn : n < m.length
    · rw [List.getElem?_append_left hn] at e1
      rw [List.getElem?_append_left (by rw [← r.len]; exact hn)] at e2
      have th := r.there e1
      have eq : H' a = H a := by
        cases q : H a with
        | none => exact absurd q th
        | some u => exact g _ _ q
      exact (r.ob n a o' e1 e2).grow gg eq
    · have hn' : ¬ n < h.length := by rw [← r.len]; exact hn
      rw [List.getElem?_append_right (by omega)] at e1 e2
      have e : n - m.length = 0 := by
        have := (List.getElem?_eq_some_iff.mp e1).1
        simp at this
        omega
      rw [e] at e1
      rw [← r.len, e] at e2
      simp at e1 e2
      subst e1 e2
      exact x
def kD : Key → D
  | .inl i => .int i
  | .inr x => .str x
theorem kD_rep {K : PySem.W.Frag} {m : List Addr} {H : Hp} (k : Key) : Rep K m H (kV k) (kD k) := by
  cases k with
  | inl i => exact .int i
  | inr x => exact .str x
abbrev KDP := (Key × D) × PyData
def prepK (h : Hm) : List (Key × D) → Option (List KDP)
  | [] => some []
  | kv :: r => match toPy 20 h kv.2, prepK h r with
    | some d, some l => some ((kv, .tuple [kP kv.1, d]) :: l)
    | _, _ => none
def sortOk (l : List KDP) : Bool := decide (l.length ≤ big) && l.all (fun x => decide (x.2.depth ≤ 50)) && l.all fun x => l.all fun y => PySem.W.alike x.2 y.2
def dSortIt (d : D) (h : Hm) : RD := match d with
  | .ref n => match h[n]? with
    | some (.dk kvs) => match prepK h kvs with
      | some l => if sortOk l = true then .ok (.ref h.length) (h ++ [.lst ((l.mergeSort (dataLe false (·.2))).map fun x => .tup [kD x.1.1, x.1.2])]) else .bad
      | none => .bad
    | _ => .bad
  | _ => .bad
def eSortIt (f : FE) : FE := fun s h => (f s h).bind dSortIt
theorem prepK_ok {m : List Addr} {H : Hp} {h : Hm} (R0 : R X.K X.mg m H h) : ∀ {kv : List (Key × V)} {kvs : List (Key × D)} {l : List KDP}, RepK X.K m H kv kvs → prepK h kvs = some l →
    ∃ zs : List ((Key × V) × KDP), zs.map (·.1) = kv ∧ zs.map (·.2) = l ∧ ∀ z ∈ zs, z.1.1 = z.2.1.1 ∧ Rep X.K m H z.1.2 z.2.1.2 ∧ ∃ d, Dp X.K H z.1.2 d ∧ z.2.2 = .tuple [kP z.1.1, d]
  | _, _, l, .nil, e => by
    simp only [prepK] at e
    cases e
    exact ⟨[], rfl, rfl, fun _ z => nomatch z⟩
  | a :: kv, b :: kvs, l, .cons q t, e => by
    unfold prepK at e
    split at e
    · rename_i d l' h1 h2
      cases e
      obtain ⟨zs, e1, e2, e3⟩ := prepK_ok R0 t h2
      refine ⟨(a, (b, .tuple [kP b.1, d])) :: zs, by simp [e1], by simp [e2], fun z hz => ?_⟩
      rcases List.mem_cons.mp hz with rfl | hz
      · exact ⟨q.1, q.2, d, toPy_dp R0 _ _ _ _ q.2 h1, by rw [q.1]⟩
      · exact e3 z hz
    · cases e
theorem each_map' {α β γ : Type} {R : α → γ → Prop} (f : β → γ) : ∀ {as : List α} {bs : List β}, EachIs R as (bs.map f) → EachIs (fun a b => R a (f b)) as bs
  | [], [], _ => .nil
  | [], _ :: _, h => by cases h
  | _ :: _, [], h => by cases h
  | _ :: _, _ :: _, .cons h t => .cons h (each_map' f t)
theorem se_sortIt {W : WX} {e : Expr} {f : FE} {p apos cpos pos : Pos} {k : Nat} (hc : X.calm = true) (hr : Room k X.A) (hg : Gl X "sorted") (hm : X.mg "sorted" = none) (he : SE X W e f)
    (hbase : attributeBase e "items" X.env (eval e X.env) = eval e X.env := by rfl) (hline : (apos.endLine == cpos.line) = true := by rfl)
    (hst : starEach [.Call (.Attribute e "items" apos) [] [] cpos] X.env = (false, eval (.Call (.Attribute e "items" apos) [] [] cpos) X.env) :: starEach [] X.env := by rfl)
    (hpl : (backTo pos (starEach [.Call (.Attribute e "items" apos) [] [] cpos] X.env)).any (·.1) = false := by rfl) :
    SE X W (.Call (.Name "sorted" p) [.Call (.Attribute e "items" apos) [] [] cpos] [] pos) (eSortIt f) := by
  refine PE.imp (pe_callB (cr_sortIK hc hr.units) hg hm rfl (pa_cons (pe_bm0 PySem.F.plainAttrs_dict PySem.F.slot_dict_items PySem.F.type_dict_items mt_itemsK he hbase hline) pa_nil hst) (by decide) (by decide) hst hpl) fun σ H Q h => ?_
  obtain ⟨m, s, h, R0, rs, p⟩ := h
  refine ⟨m, s, h, R0, rs, PostE.mono (PostE.bind p) ?_⟩
  rintro x H1 ⟨m1, dx, h1, g1, R1, rx, p1⟩
  unfold dSortIt at p1
  split at p1
  · rename_i n
    split at p1
    · rename_i kvs hn
      split at p1
      · rename_i l hl
        split at p1
        · rename_i hok
          obtain ⟨a, rfl, hma⟩ := rx.ref_inv
          have xo := R1.ob _ _ _ hma hn
          obtain ⟨kv, q1, q2⟩ := id xo
          unfold sortOk at hok
          simp only [Bool.and_eq_true, decide_eq_true_eq, List.all_eq_true] at hok
          obtain ⟨⟨o1, o2⟩, o3⟩ := hok
          refine ⟨.inr (.inr (.inl ⟨rfl, .inl ⟨kv, q1⟩⟩)), a, kv, rfl, rfl, q1, fun q hq => ?_⟩
          have gq : ∀ b o, H1 b = some o → upd H1 q (itemsO q a) b = some o := fun b o e => by rw [upd_ne (ne_of_none e hq)]; exact e
          have g2 : Grow m1 H1 m1 (upd H1 q (itemsO q a)) := Grow.pts gq
          have R2 : R X.K X.mg m1 (upd H1 q (itemsO q a)) h1 := R1.tup hq
          obtain ⟨zs, e1, e2, e3⟩ := prepK_ok R2 (q2.grow g2) hl
          subst e2
          refine ⟨q, a, zs.map fun z => (z.1, z.2.2), rfl, upd_same, ?_, by simpa using o1, fun b hb => ?_, ?_, fun H3 l qs g3 hl3 hH3 hE => ?_⟩
          · rw [List.map_map]
            show upd H1 q (itemsO q a) a = some (.dK (zs.map fun z => z.1))
            rw [gq _ _ q1, e1]
          · obtain ⟨z, hz, rfl⟩ := List.mem_map.mp hb
            obtain ⟨_, _, d, k1, k2⟩ := e3 z hz
            exact ⟨d, k1, k2, o2 _ (List.mem_map.mpr ⟨z, hz, rfl⟩)⟩
          · intro d hd d' hd'
            rw [List.map_map] at hd hd'
            obtain ⟨z, hz, rfl⟩ := List.mem_map.mp hd
            obtain ⟨z', hz', rfl⟩ := List.mem_map.mp hd'
            exact o3 _ (List.mem_map.mpr ⟨z, hz, rfl⟩) _ (List.mem_map.mpr ⟨z', hz', rfl⟩)
          · have hs1 : (zs.map fun z => (z.1, z.2.2)).mergeSort (dataLe false fun b : KVP => b.2) = (zs.mergeSort (dataLe false fun z => z.2.2)).map fun z => (z.1, z.2.2) :=
              (List.map_mergeSort (f := fun z : (Key × V) × KDP => (z.1, z.2.2)) (r := dataLe false fun z => z.2.2) (fun _ _ _ _ => rfl)).symm
            have hs2 : (zs.map (·.2)).mergeSort (dataLe false fun b : KDP => b.2) = (zs.mergeSort (dataLe false fun z => z.2.2)).map (·.2) :=
              (List.map_mergeSort (f := fun z : (Key × V) × KDP => z.2) (r := dataLe false fun z => z.2.2) (fun _ _ _ _ => rfl)).symm
            rw [hs1] at hE
            rw [hs2] at p1
            have hmem : ∀ z ∈ zs.mergeSort (dataLe false fun z => z.2.2), z ∈ zs := fun z hz => (List.mergeSort_perm zs _).mem_iff.mp hz
            generalize zs.mergeSort (dataLe false fun z => z.2.2) = B at hE p1 hmem
            have hE' := each_map' _ hE
            have gg : ∀ b o, H1 b = some o → H3 b = some o := fun b o e => g3 b o (gq b o e)
            have g4 : Grow m1 H1 (m1 ++ [l]) H3 := (Grow.pts gg).trans (Grow.more _)
            have hlH1 : H1 l = none := by
              cases q : H1 l with
              | none => rfl
              | some u => rw [gq _ _ q] at hl3; cases hl3
            have rl : RepL X.K (m1 ++ [l]) H3 (qs.map V.ref) ((B.map (·.2)).map fun x => .tup [kD x.1.1, x.1.2]) := by
              clear hE hH3 p1
              induction hE' with
              | nil => exact .nil
              | @cons t b ts bs h1 t1 ih =>
                obtain ⟨o, h2, h3⟩ := h1
                obtain ⟨k1, k2, _⟩ := e3 b (hmem b (List.mem_cons_self ..))
                refine .cons (.tup (.inl ⟨o, h2, h3⟩) (.cons ?_ (.cons ?_ .nil))) (ih fun z hz => hmem z (List.mem_cons_of_mem _ hz))
                · show Rep _ _ _ (kV b.1.1) (kD b.2.1.1)
                  rw [k1]
                  exact kD_rep _
                · exact (k2.grow (Grow.pts g3)).grow (Grow.more _)
            have R4 : R X.K X.mg (m1 ++ [l]) H3 (h1 ++ [.lst ((B.map (·.2)).map fun x => .tup [kD x.1.1, x.1.2])]) := R1.new2 gg hlH1 ⟨_, hH3, rl⟩
            exact p1 _ H3 _ g4 R4 (.ref R1.newAt)
        · exact False.elim p1
      · exact False.elim p1
    · exact False.elim p1
  · exact False.elim p1
end
end Sh

set_option Elab.async false
set_option linter.all false
set_option maxRecDepth 100000
set_option maxHeartbeats 4000000
namespace Sh
open PySem L2 PyProof.Rows
/-! ### len(set(a list of ints)), unary minus -/
def intsD : List D → Option (List Int)
  | [] => some []
  | .int i :: ds => (intsD ds).map (i :: ·)
  | _ => none
theorem intsD_rep {K : PySem.W.Frag} {m : List Addr} {H : Hp} : ∀ {ds : List D} {ns : List Int} {vs : List V}, RepL K m H vs ds → intsD ds = some ns → vs = ns.map V.int
  | [], ns, vs, r, e => by
    cases r
    simp only [intsD] at e
    cases e
    rfl
  | d :: ds, ns, vs, r, e => by
    cases d with
    | int i =>
      simp only [intsD] at e
      obtain ⟨ms, h1, rfl⟩ := Option.map_eq_some_iff.mp e
      cases r with
      | cons r1 r2 =>
        cases r1
        rw [intsD_rep r2 h1]
        rfl
    | _ => simp [intsD] at e
def metI (ns : List Int) : List Int := PyProof.Rows.firstMet (fun i => ns.getD i 0) ns.length
section
variable {X : Cx} {W : WX} {e a : Expr} {f : FE} {pos p p2 q : Pos}
theorem pe_lenSet {ta : TE} (hg : Gl X "len") (hm : X.mg "len" = none) (hg2 : Gl X "set") (hm2 : X.mg "set" = none) (hc : X.calm = true) (ha : PE X a ta)
    (na : starEach [a] X.env = (false, eval a X.env) :: starEach [] X.env := by rfl) : PE X (.Call (.Name "len" p) [.Call (.Name "set" p2) [a] [] q] [] pos) (fun σ H Q => ta σ H fun x H1 => ∃ (l : Addr) (ns : List Int), x = .ref l ∧ SqL X.K H1 l (ns.map V.int) ∧ ns.length ≤ 4000 ∧ Q (.int ((metI ns).length : Nat)) H1) := by
  refine ⟨fun pins s σ H Q I h => ?_⟩
  refine Call_ (ld_blt I hg hm boot_len ?_)
  refine PyProof.Rows.callWith_builtin1 (PyProof.Rows.args_cons ?_ rfl) rfl rfl
  refine Call_ (ld_blt I hg2 hm2 boot_set ?_)
  refine PyProof.Rows.callWith_type1 (PyProof.Rows.args_cons (thn (ha.run pins s σ H _ I h) fun v s1 ⟨x, H1, I1, r1, q1⟩ => PyProof.Rows.args_nil ?_) na) na rfl
  obtain ⟨l, ns, rfl, hq, hl, q1⟩ := q1
  cases r1
  obtain ⟨its, r, pl, hz⟩ := I1.list hq
  have hlen : its.toArray.size = ns.length := by rw [List.size_toArray, ← r.length, List.length_map]
  refine call_set_list (I1.ok.hd hc) pl.isList (by simpa using RZ.intsAre_vals r) (by rw [hlen]; unfold scanBound; omega) fun h' tk hS hk => ?_
  refine PyProof.Rows.args_nil ?_
  rw [hlen] at hS
  obtain ⟨o, es, ep, t, ho, hex, hd, _, _, _, hf, hn⟩ := hS
  have I2 : Inv X pins σ H1 { s1 with heap := h', toks := tk } := I1.kept fun b o e => hk b o (Heap.lt_size e) e
  have hle : (metI ns).length ≤ ns.length := by
    exact PyProof.Rows.firstMet_length_le _ _
  exact call_len_set ho hex hd hf (by rw [hn]; unfold metI at hle; omega) ⟨.int (metI ns).length, H1, I2.tok _, ⟨_, by rw [hn]; rfl⟩, q1⟩
def eLenSet (f : FE) : FE := fun s h => (f s h).bind fun d h1 => match d with
  | .ref n => match items h1 (.ref n) with
    | some ds => match intsD ds with
      | some ns => if ns.length ≤ 4000 then .ok (.int ((metI ns).length : Nat)) h1 else .bad
      | none => .bad
    | none => .bad
  | _ => .bad
theorem se_lenSet (hg : Gl X "len") (hm : X.mg "len" = none) (hg2 : Gl X "set") (hm2 : X.mg "set" = none) (hc : X.calm = true) (ha : SE X W a f)
    (na : starEach [a] X.env = (false, eval a X.env) :: starEach [] X.env := by rfl) : SE X W (.Call (.Name "len" p) [.Call (.Name "set" p2) [a] [] q] [] pos) (eLenSet f) := by
  refine PE.imp (pe_lenSet hg hm hg2 hm2 hc ha na) fun σ H Q h => ?_
  obtain ⟨m, s, h, R0, rs, p⟩ := h
  refine ⟨m, s, h, R0, rs, PostE.mono (PostE.bind p) ?_⟩
  rintro x H1 ⟨m1, dx, h1, g1, R1, rx, p1⟩
  split at p1
  · split at p1
    · rename_i ds hi
      split at p1
      · rename_i ns hn
        split at p1
        · rename_i hl
          obtain ⟨a, rfl, hm⟩ := rx.ref_inv
          obtain ⟨vs, hq, l⟩ := items_ref R1 hm hi
          have e := intsD_rep l hn
          subst e
          exact ⟨a, ns, rfl, hq, hl, p1.val R1 (.int _)⟩
        · exact False.elim p1
      · exact False.elim p1
    · exact False.elim p1
  · exact False.elim p1
def eNeg (f : FE) : FE := fun s h => (f s h).bind fun d h1 => match d with
  | .int i => .ok (.int (-i)) h1
  | _ => .bad
theorem se_neg (ha : SE X W a f) : SE X W (.UnaryOp .USub a pos) (eNeg f) := by
  refine PE.imp (pe_un un_neg ha) fun σ H Q h => ?_
  obtain ⟨m, s, h, R0, rs, p⟩ := h
  refine ⟨m, s, h, R0, rs, PostE.mono (PostE.bind p) ?_⟩
  rintro x H1 ⟨m1, dx, h1, g1, R1, rx, p1⟩
  split at p1
  · exact ⟨_, rx.int_inv, p1.val R1 (.int _)⟩
  · exact False.elim p1
end
end Sh

set_option Elab.async false
set_option linter.all false
set_option maxRecDepth 100000
set_option maxHeartbeats 4000000
namespace Sh
open PySem L2 PyProof.Rows
/-! ### the text's things, bundled -/
section
variable {P : Program} {w : World} {K : PySem.W.Frag} {mg : Str → Option Value} {base : Heap}
structure FnAt (K : PySem.W.Frag) (mg : Str → Option Value) (x qual : Str) (st : Stmt) (ps : List Str) where
  f : Addr
  fd : FuncData
  fn : Fun K x qual st f fd
  g : mg x = some (.ref f)
  bi : Binds K fd ps []
structure MeAt (K : PySem.W.Frag) (C : Addr) (x qual : Str) (st : Stmt) (ps : List Str) where
  f : Addr
  fd : FuncData
  fn : Fun K x qual st f fd
  me : Meth K C x f
  bi : Binds K fd ps []
structure InAt (K : PySem.W.Frag) (C : Addr) (qual : Str) (st : Stmt) (ps : List Str) (n : Nat) (ks : List Str) where
  f : Addr
  fd : FuncData
  fn : Fun K "__init__" qual st f fd
  mak : Mk K C f
  bi : ∀ (s : Shared) (us ws : List Value), us.length = n + 1 → ws.length = ks.length → BindsTo s fd ⟨us, ks.zip ws⟩ (ps.zip (us ++ ws))
structure ClAt (K : PySem.W.Frag) (mg : Str → Option Value) (c : Str) where
  C : Addr
  g : mg c = some (.ref C)
  cl : Cls K C
structure ExAt (K : PySem.W.Frag) (mg : Str → Option Value) (c : Str) where
  C : Addr
  g : mg c = some (.ref C)
  xC : PySem.W.excIn K C [.type "ValueError", .type "Exception", .type "BaseException", .type "object"] "ValueError.__new__" = true
  kC : PySem.W.keepIn K (.ref C) = true
  bC : PySem.W.subIn K (.ref C) (.type "BaseException") = some true
  tC : PySem.W.typeIn K (.ref C) = some (.type "type")
  hC : PySem.W.hasDictIn K C = true
theorem ExAt.t {X : Cx} {c : Str} (T : ExAt X.K X.mg c) : ExcT X c T.C := ⟨T.g, T.xC, T.kC, T.bC, T.tC⟩
abbrev OkF (P : Program) (w : World) (K : PySem.W.Frag) (mg : Str → Option Value) (base : Heap) (k : Nat) (f : Addr) (fd : FuncData) (ps : List Str) (F : FF) : Prop := FnOk P w K mg base (L2.CX P w) k f fd ps (spF K mg ps.length F)
theorem takesW0 {X : Cx} : Takes X W0 := fun u s' ⟨a, B, sI, pins, σ, H, cls, d, e, I, nb, up, sky, na, os, ag, w⟩ => w.elim
theorem sss_bad {X : Cx} {W : WX} {sts : List Stmt} : SSs X W sts gBad := ⟨fun pins s σ H D I q => by
  obtain ⟨m, s, h, R0, rs, p⟩ := q
  exact p.elim⟩
theorem units65 {k : Nat} {A : Around} (hr : Room k A) : A.units + 65 < cLine := by have := hr.un; omega
theorem sub_nil : SubOk K mg [] := fun _ h => nomatch h
theorem sub_cons {c x : Str} {b : Bool} {C Cx : Addr} {l : SubT} (h1 : mg c = some (.ref C)) (h2 : mg x = some (.ref Cx)) (e : PySem.W.exmOne K (.ref C) (.ref Cx) = some b) (r : SubOk K mg l) : SubOk K mg (((c, x), b) :: l) := by
  intro p hp D Dx g1 g2
  rcases List.mem_cons.mp hp with rfl | hp
  · rw [h1] at g1
    rw [h2] at g2
    cases g1
    cases g2
    exact e
  · exact r p hp D Dx g1 g2
theorem bindsK {x qual : Str} {st : Stmt} {f : Addr} {fd : FuncData} {ps ks : List Str} {n : Nat} (F : Fun K x qual st f fd)
    (h : ∀ (kV doc pm : Value) (an : Option Addr) (cdv ct : Value) (us ws : List Value), us.length = n → ws.length = ks.length → bindArgs (PySem.W.fnOf x qual (defArgs st) (defBody st) (defScope st) .none kV doc pm an cdv ct) ⟨us, ks.zip ws⟩ = pure (ps.zip (us ++ ws))) :
    ∀ (s : Shared) (us ws : List Value), us.length = n → ws.length = ks.length → BindsTo s fd ⟨us, ks.zip ws⟩ (ps.zip (us ++ ws)) := by
  obtain ⟨oc, od, kV, doc, pm, an, cdv, ct, osl, rfl, lk, hcd⟩ := F.ex
  exact fun s us ws h1 h2 => .of_eq (h kV doc pm an cdv ct us ws h1 h2)
variable {X : Cx} {W : WX} {e o : Expr} {es : List Expr} {fs fk : List FE} {fo : FE} {kws : List Keyword} {x qual cn mn : Str} {st : Stmt} {ps ks : List Str} {F : FF} {p pos apos : Pos} {k n : Nat}
/-- f(e, ..) -/
theorem se_callA (A : FnAt X.K X.mg x qual st ps) (G : FnS X k A.f A.fd ps F) (tk : Takes X W) (hr : Room k X.A) (hg : Gl X x) (ha : SA X W (e :: es) (evalL fs))
    (hl : decide (fs.length = ps.length) = true := by rfl) (hdb : (x == ("__debug__" : Str)) = false := by decide) (he : starEach (e :: es) X.env = (false, eval e X.env) :: starEach es X.env := by rfl) (hpl : (backTo pos (starEach es X.env)).any (·.1) = false := by rfl) :
    SE X W (.Call (.Name x p) (e :: es) [] pos) (eArgs F fs) := se_call G tk hr hg A.g A.fn.kp A.bi ha hl hdb he hpl
theorem se_methA {C : ClAt X.K X.mg cn} {pl : Sem Bool} (A : MeAt X.K C.C mn qual st ps) (G : FnS X k A.f A.fd ps F) (tk : Takes X W) (hr : Room k X.A) (ho : SE X W o fo) (ha : SA X W (e :: es) (evalL fs)) (hl : decide (fs.length + 1 = ps.length) = true := by rfl)
    (hst : starEach (e :: es) X.env = (false, eval e X.env) :: starEach es X.env := by rfl) (hpl : (backTo pos (starEach es X.env)).any (·.1) = false := by rfl)
    (ht : eval (.Call (.Attribute o mn apos) (e :: es) [] pos) X.env = (do
      let ov ← eval o X.env
      standAt apos.atName
      let (f, first) ← holding [ov] (getMethod ov mn pl)
      callWith pos f first (backTo pos (starEach (e :: es) X.env)) (backToKw pos (keywordEach [] X.env))) := by rfl) : SE X W (.Call (.Attribute o mn apos) (e :: es) [] pos) (eMeth cn mn F fo fs) :=
  se_meth G tk hr C.g C.cl A.me A.bi ho ha hl hst hpl ht
theorem se_methA0 {C : ClAt X.K X.mg cn} {pl : Sem Bool} (A : MeAt X.K C.C mn qual st ps) (G : FnS X k A.f A.fd ps F) (tk : Takes X W) (hr : Room k X.A) (ho : SE X W o fo) (hl : decide (1 = ps.length) = true := by rfl)
    (ht : eval (.Call (.Attribute o mn apos) [] [] pos) X.env = (do
      let ov ← eval o X.env
      standAt apos.atName
      let (f, first) ← holding [ov] (getMethod ov mn pl)
      callWith pos f first (backTo pos (starEach [] X.env)) (backToKw pos (keywordEach [] X.env))) := by rfl) : SE X W (.Call (.Attribute o mn apos) [] [] pos) (eMeth cn mn F fo []) :=
  se_meth0 G tk hr C.g C.cl A.me A.bi ho hl ht
theorem se_makeA {C : ClAt X.K X.mg x} (A : InAt X.K C.C qual st ps n ks) (G : FnS X k A.f A.fd ps F) (tk : Takes X W) (hr : Room (k + 1) X.A) (hg : Gl X x)
    (ha : SA X W (e :: es) (evalL fs)) (hkw : SK X W kws fk) (hn : decide (fs.length = n) = true := by rfl) (hk2 : decide (fk.length = ks.length) = true := by rfl) (hps : decide (n + ks.length + 1 = ps.length) = true := by rfl)
    (hall : (backToKw pos (keywordEach kws X.env)).all (·.1.isSome) = true := by rfl) (hks : (backToKw pos (keywordEach kws X.env)).filterMap (·.1) = ks := by rfl)
    (hdb : (x == ("__debug__" : Str)) = false := by decide) (he : starEach (e :: es) X.env = (false, eval e X.env) :: starEach es X.env := by rfl)
    (hpl : ((backTo pos (starEach (e :: es) X.env)).any (·.1) || (backToKw pos (keywordEach kws X.env)).any (·.1.isNone)) = false := by rfl) :
    SE X W (.Call (.Name x p) (e :: es) kws pos) (eMake x F fs fk) := se_make A.mak G tk hr hg C.g A.bi ha hkw hn hk2 hps hall hks hdb he hpl
end
/-! ### the end -/
section
variable {K : PySem.W.Frag} {mg : Str → Option Value}
theorem fnFact {x qual : Str} {st : Stmt} {f : Addr} {oc : Value} {od an : Option Addr} {osl : Array (Option Value)} {kV doc pm cdv ct : Value} (l : K.lookup f = some ⟨oc, od, .func (PySem.W.fnOf x qual (defArgs st) (defBody st) (defScope st) .none kV doc pm an cdv ct), osl⟩)
    (c : PySem.W.codeIn K cdv qual = true) (k : PySem.W.keepIn K (.ref f) = true) : ∃ fd, Fun K x qual st f fd := ⟨_, fun_mk l c k⟩
theorem bind1 {x qual p : Str} {st : Stmt} {f : Addr} {fd : FuncData} (F : Fun K x qual st f fd)
    (h : ∀ (kV doc pm : Value) (an : Option Addr) (cdv ct : Value) (v : Value), bindArgs (PySem.W.fnOf x qual (defArgs st) (defBody st) (defScope st) .none kV doc pm an cdv ct) ⟨[v], []⟩ = pure [(p, v)]) (s : Shared) (v : Value) : BindsTo s fd ⟨[v], []⟩ [(p, v)] := by
  obtain ⟨oc, od, kV, doc, pm, an, cdv, ct, osl, rfl, lk, hcd⟩ := F.ex
  exact .of_eq (h kV doc pm an cdv ct v)
theorem ex_sub {c x : Str} {b : Bool} (A : ExAt K mg c) (B : ExAt K mg x) (h : PySem.W.subIn K (.ref A.C) (.ref B.C) = some b) : PySem.W.exmOne K (.ref A.C) (.ref B.C) = some b := PySem.W.exm_ref B.bC B.hC B.tC h
def spLaw (K : PySem.W.Frag) : Sp := fun vs H Q E => ∃ (a : Addr) (ns : List Int), vs = [.ref a] ∧ SclS K H a (ns.map V.int) ∧ ns.length ≤ 63 ∧ ∀ H', Q (.bl true) H'
theorem repInts {m : List Addr} {H : Hp} : ∀ ns : List Int, RepL K m H (ns.map V.int) (ns.map D.int)
  | [] => .nil
  | i :: ns => .cons (.int i) (repInts ns)
theorem law_imp {F : FF} (h : ∀ ns : List Int, ns.length ≤ 63 → ∃ h', F [.scl (ns.map D.int)] [] = .ok (.bl true) h') : ∀ vs H Q E, spLaw K vs H Q E → spF K mg 1 F vs H Q E := by
  rintro vs H Q E ⟨a, ns, rfl, hs, hl, q⟩
  obtain ⟨h', e⟩ := h ns hl
  refine ⟨rfl, [], [.scl (ns.map D.int)], [], ⟨rfl, List.nodup_nil, fun n a o e1 e2 => by simp at e1⟩, .cons (.scl hs (repInts ns)) .nil, ?_⟩
  rw [e]
  intro m' H' v g r rep
  rw [rep.bl_inv]
  exact q H'
theorem walkS {l : PySem.W.OpenLaw} {q : Program} {loose : List Str} {XP : (Str → Option Value) → Heap → Prop} {YP : World → Heap → Prop} {d : DefRec} {K : Params → PySem.W.Frag} {k : Nat} (hn : l.most = some 63) (hdf : d.params.defaults = []) (hr : Room k callerA)
    (hY : ∀ (w : World) (h : Heap), YP w h → (K w.params).In h)
    (F : ∀ (w : World) (mg : Str → Option Value) (fa : Addr) (h : Heap), (K w.params).In h → h.Ns mainGlobals mg → mg d.name = some (.ref fa) →
      ∃ fd : FuncData, (∀ (s : Shared) (u : Value), BindsTo s fd ⟨[u], []⟩ [("script", u)]) ∧ ∀ base : Heap, (K w.params).In base → base.Ns mainGlobals mg → FnOk l.prog w (K w.params) mg base (L2.CX l.prog w) k fa fd ["script"] (spLaw (K w.params))) :
    PySem.W.WalkO q loose XP YP l.row.toRowW d [] (fun f vs => PySem.call f vs) := by
  refine L2.walk_of (n := 63) (k := k) (x := "script") (CX := fun w => L2.CX l.prog w) (sp := fun w => spLaw (K w.params)) hn (by decide) hdf hr hY F (fun w H a ns hl hO hS => ?_) fun w H s e s' z => ?_
  · refine ⟨a, ns, rfl, ?_, hl, fun _ => rfl⟩
    rcases hS with hS | hS
    · rcases hS with hS | hS
      · rcases hO a with e | ⟨o, xs, e⟩
        · rw [hS] at e; cases e
        · rw [hS] at e; cases e
      · exact .inl hS
    · exact .inr hS
  · obtain ⟨a, B, H', cls, d, _, _, _, _, _, _, _, h⟩ := z
    exact h
end
end Sh

set_option Elab.async false
set_option linter.all false
set_option maxRecDepth 100000
set_option maxHeartbeats 4000000
namespace Sh
open PySem L2 PyProof.Rows
/-! ### reckoning with mirrors: each combinator by an eliminator, the eliminators by constructors and through if -/
def RT.seq (r : RT) (k : FS) : RT := match r with
  | .nx s h => k s h
  | r => r
def RD.tst (r : RD) (s : DS) (k : Bool → Hm → RT) : RT := match r with
  | .ok (.bl p) h => k p h
  | .ok _ _ => .bad
  | .exc c fs h => .exc c fs s h
  | .bad => .bad
def RD.tb (r : RD) (k : Bool → Hm → RD) : RD := match r with
  | .ok (.bl p) h => k p h
  | .ok _ _ => .bad
  | .exc c fs h => .exc c fs h
  | .bad => .bad
def ofO (o : Option (Option D)) (h : Hm) : RD := match o with
  | some (some d) => .ok d h
  | _ => .bad
section
variable {s : DS} {h h1 : Hm} {k : FS} {kb : Bool → Hm → RT} {ke : Bool → Hm → RD} {kd : D → Hm → RD} {ks : D → Hm → RT} {d : D} {p q : Bool} {c : Str} {fs : List (Str × D)} {P : Prop} [Decidable P]
@[simp] theorem seq_nx : (RT.nx s h).seq k = k s h := rfl
@[simp] theorem seq_rt : (RT.rt d h).seq k = .rt d h := rfl
@[simp] theorem seq_ct : (RT.ct s h).seq k = .ct s h := rfl
@[simp] theorem seq_bk : (RT.bk s h).seq k = .bk s h := rfl
@[simp] theorem seq_bad : RT.bad.seq k = .bad := rfl
@[simp] theorem seq_exc : (RT.exc c fs s h).seq k = .exc c fs s h := rfl
@[simp] theorem seq_ite {a b : RT} : (if P then a else b).seq k = if P then a.seq k else b.seq k := by split <;> rfl
@[simp] theorem tst_ok : (RD.ok (.bl p) h).tst s kb = kb p h := rfl
@[simp] theorem tst_bad : RD.bad.tst s kb = .bad := rfl
@[simp] theorem tst_exc : (RD.exc c fs h).tst s kb = .exc c fs s h := rfl
@[simp] theorem tst_ite {a b : RD} : (if P then a else b).tst s kb = if P then a.tst s kb else b.tst s kb := by split <;> rfl
@[simp] theorem tb_ok : (RD.ok (.bl p) h).tb ke = ke p h := rfl
@[simp] theorem tb_bad : RD.bad.tb ke = .bad := rfl
@[simp] theorem tb_exc : (RD.exc c fs h).tb ke = .exc c fs h := rfl
@[simp] theorem tb_ite {a b : RD} : (if P then a else b).tb ke = if P then a.tb ke else b.tb ke := by split <;> rfl
@[simp] theorem bind_ite {a b : RD} : (if P then a else b).bind kd = if P then a.bind kd else b.bind kd := by split <;> rfl
@[simp] theorem st_ite {a b : RD} : (if P then a else b).st s ks = if P then a.st s ks else b.st s ks := by split <;> rfl
@[simp] theorem ofO_some : ofO (some (some d)) h = .ok d h := rfl
@[simp] theorem ite_bl : (if P then RD.ok (.bl p) h else RD.ok (.bl q) h) = .ok (.bl (if P then p else q)) h := by split <;> rfl
variable {a b : FS} {f fa fb fc : FE} {g : List D → Hm → RD} {fop f1 f2 : D → D → Hm → RD} {x y z : FE}
@[simp] theorem x_seq : gSeq a b s h = (a s h).seq b := by unfold gSeq; cases a s h <;> rfl
@[simp] theorem x_next : gNext s h = .nx s h := rfl
@[simp] theorem x_cont : gCont s h = .ct s h := rfl
@[simp] theorem x_break : gBreak s h = .bk s h := rfl
@[simp] theorem x_retN : gRetN s h = .rt .non h := rfl
@[simp] theorem x_bad : gBad s h = .bad := rfl
@[simp] theorem x_drop : gDrop f s h = (f s h).st s fun _ h1 => .nx s h1 := rfl
@[simp] theorem x_ret : gRet f s h = (f s h).st s fun d h1 => .rt d h1 := rfl
@[simp] theorem x_set {i : Nat} : gSet i f s h = (f s h).st s fun d h1 => .nx (s.set i (some d)) h1 := rfl
@[simp] theorem x_if : gIf f a b s h = (f s h).tst s fun p h1 => if p then a s h1 else b s h1 := by
  unfold gIf
  cases f s h with
  | ok d h => cases d <;> first | rfl | (rename_i p; cases p <;> rfl)
  | _ => rfl
@[simp] theorem x_var {i : Nat} : eVar i s h = ofO s[i]? h := by unfold eVar ofO; rfl
@[simp] theorem x_c : eC d s h = .ok d h := rfl
@[simp] theorem x_bin : eBin fop fa fb s h = (fa s h).bind fun x h1 => (fb s h1).bind fun y h2 => fop x y h2 := rfl
@[simp] theorem x_and : eAnd fa fb s h = (fa s h).tb fun p h1 => if p then fb s h1 else .ok (.bl false) h1 := by
  unfold eAnd
  cases fa s h with
  | ok d h => cases d <;> first | rfl | (rename_i p; cases p <;> rfl)
  | _ => rfl
@[simp] theorem x_or : eOr fa fb s h = (fa s h).tb fun p h1 => if p then .ok (.bl true) h1 else fb s h1 := by
  unfold eOr
  cases fa s h with
  | ok d h => cases d <;> first | rfl | (rename_i p; cases p <;> rfl)
  | _ => rfl
@[simp] theorem x_not : eNot fa s h = (fa s h).tb fun p h1 => .ok (.bl (!p)) h1 := by
  unfold eNot
  cases fa s h with
  | ok d h => cases d <;> rfl
  | _ => rfl
@[simp] theorem x_eif : eIf fc fa fb s h = (fc s h).tb fun p h1 => if p then fa s h1 else fb s h1 := by
  unfold eIf
  cases fc s h with
  | ok d h => cases d <;> first | rfl | (rename_i p; cases p <;> rfl)
  | _ => rfl
@[simp] theorem x_chain : eChain f1 f2 fa fb fc s h = (fa s h).bind fun x h1 => (fb s h1).bind fun y h2 => (f1 x y h2).tb fun p h3 => if p then (fc s h3).bind fun z h4 => f2 y z h4 else .ok (.bl false) h3 := by
  unfold eChain
  congr 1
  funext x h1
  congr 1
  funext y h2
  cases f1 x y h2 with
  | ok d h => cases d <;> first | rfl | (rename_i p; cases p <;> rfl)
  | _ => rfl
@[simp] theorem x_neg : eNeg f s h = (f s h).bind fun d h1 => match d with
  | .int i => .ok (.int (-i)) h1
  | _ => .bad := rfl
/-- argument lists -/
def evR : List FE → DS → Hm → (List D → Hm → RD) → RD
  | [], s, h, k => k [] h
  | f :: fs, s, h, k => (f s h).bind fun d h1 => evR fs s h1 fun ds h2 => k (d :: ds) h2
theorem evR_eq {s : DS} : ∀ {fs : List FE} {h : Hm} {k : List D → Hm → RD}, evR fs s h k = match evalL fs s h with
    | .ok ds h1 => k ds h1
    | .exc c x h1 => .exc c x h1
    | .bad => .bad
  | [], h, k => rfl
  | f :: fs, h, k => by
    simp only [evR, evalL]
    cases f s h with
    | ok d h1 =>
      simp only [RD.bind_ok, evR_eq]
      cases evalL fs s h1 <;> rfl
    | exc c x h1 => rfl
    | bad => rfl
@[simp] theorem x_args {l : List FE} : eArgs g l s h = evR l s h g := by rw [evR_eq]; rfl
@[simp] theorem evR_nil {k : List D → Hm → RD} : evR [] s h k = k [] h := rfl
@[simp] theorem evR_cons {l : List FE} {k : List D → Hm → RD} : evR (f :: l) s h k = (f s h).bind fun d h1 => evR l s h1 fun ds h2 => k (d :: ds) h2 := rfl
@[simp] theorem x_tup {l : List FE} : eTup l s h = evR l s h fun ds h => .ok (.tup ds) h := x_args
@[simp] theorem x_lst {l : List FE} : eLst l s h = evR l s h fun ds h => .ok (.ref h.length) (h ++ [.lst ds]) := x_args
/-- operations on ints -/
@[simp] theorem o_cmp {t : Int → Int → Bool} {i j : Int} : dCmp t (.int i) (.int j) h = .ok (.bl (t i j)) h := rfl
@[simp] theorem o_sub {i j : Int} : dSub (.int i) (.int j) h = .ok (.int (i - j)) h := rfl
@[simp] theorem o_add {i j : Int} : dAdd (.int i) (.int j) h = .ok (.int (i + j)) h := rfl
@[simp] theorem o_mod {i j : Int} : dMod (.int i) (.int j) h = if 0 < j then .ok (.int (i % j)) h else .bad := by
  simp [dMod, dInt2]
theorem o_div {i j : Int} (h1 : 0 < j) (h2 : j < 18446744073709551616) : dDiv (.int i) (.int j) h = .ok (.int (i / j)) h := by
  have h3 : j < 1606938044258990275541962092341162602522202993782792835301376 := Int.lt_trans h2 (by decide)
  simp [dDiv, dInt2, h1, h3]
@[simp] theorem o_div1009 {i : Int} : dDiv (.int i) (.int 1009) h = .ok (.int (i / 1009)) h := o_div (by decide) (by decide)
@[simp] theorem o_div2003 {i : Int} : dDiv (.int i) (.int 2003) h = .ok (.int (i / 2003)) h := o_div (by decide) (by decide)
@[simp] theorem o_div16 {i : Int} : dDiv (.int i) (.int 16) h = .ok (.int (i / 16)) h := o_div (by decide) (by decide)
@[simp] theorem o_div3 {i : Int} : dDiv (.int i) (.int 3) h = .ok (.int (i / 3)) h := o_div (by decide) (by decide)
theorem o_pow18 : dPow (.int 10) (.int 18) h = .ok (.int 1000000000000000000) h := by rfl
theorem o_pow25 : dPow (.int 10) (.int 25) h = .ok (.int 10000000000000000000000000) h := by rfl
theorem o_mulL {i j : Int} (h1 : -18446744073709551616 < i) (h2 : i < 18446744073709551616) : dMul (.int i) (.int j) h = .ok (.int (i * j)) h := by
  have : cM i j = true := decide_eq_true (.inl ⟨by rw [show (-(2 ^ 64) : Int) = -18446744073709551616 from rfl]; exact h1, by rw [show ((2 : Int) ^ 64) = 18446744073709551616 from rfl]; exact h2⟩)
  simp [dMul, this]
theorem o_mulR {i j : Int} (h1 : -18446744073709551616 < j) (h2 : j < 18446744073709551616) : dMul (.int i) (.int j) h = .ok (.int (i * j)) h := by
  have : cM i j = true := decide_eq_true (.inr ⟨by rw [show (-(2 ^ 64) : Int) = -18446744073709551616 from rfl]; exact h1, by rw [show ((2 : Int) ^ 64) = 18446744073709551616 from rfl]; exact h2⟩)
  simp [dMul, this]
@[simp] theorem o_mul7919 {j : Int} : dMul (.int 7919) (.int j) h = .ok (.int (7919 * j)) h := o_mulL (by decide) (by decide)
@[simp] theorem o_mul48271 {j : Int} : dMul (.int j) (.int 48271) h = .ok (.int (j * 48271)) h := o_mulR (by decide) (by decide)
@[simp] theorem o_int {i : Int} : bInt [.int i] h = .ok (.int i) h := rfl
@[simp] theorem o_is_n {x : D} : dIs x .non h = .ok (.bl (decide (x = .non))) h := by simp [dIs]
@[simp] theorem o_is_b {x : D} {b : Bool} : dIs x (.bl b) h = .ok (.bl (decide (x = .bl b))) h := by simp [dIs]
@[simp] theorem o_isN_n {x : D} : dIsNot x .non h = .ok (.bl (!decide (x = .non))) h := by simp [dIsNot]
@[simp] theorem o_isN_b {x : D} {b : Bool} : dIsNot x (.bl b) h = .ok (.bl (!decide (x = .bl b))) h := by simp [dIsNot]
@[simp] theorem o_len_t {ds : List D} : bLen [.tup ds] h = .ok (.int ds.length) h := rfl
@[simp] theorem o_len_s {ds : List D} : bLen [.scl ds] h = .ok (.int ds.length) h := rfl
theorem o_len_r {n : Nat} {ds : List D} (e : h[n]? = some (.lst ds)) : bLen [.ref n] h = .ok (.int ds.length) h := by simp [bLen, items, e]
def RT.out (r : RT) : RD := match r with
  | .nx _ h => .ok .non h
  | .rt d h => .ok d h
  | .exc c fs _ h => .exc c fs h
  | _ => .bad
@[simp] theorem out_nx : (RT.nx s h).out = .ok .non h := rfl
@[simp] theorem out_rt : (RT.rt d h).out = .ok d h := rfl
@[simp] theorem out_exc : (RT.exc c fs s h).out = .exc c fs h := rfl
@[simp] theorem out_bad : RT.bad.out = .bad := rfl
@[simp] theorem out_ite {a b : RT} : (if P then a else b).out = if P then a.out else b.out := by split <;> rfl
theorem x_run {n : Nat} {g : FS} {ds : List D} : runB n g ds h = (g (ds.map some ++ List.replicate (n - ds.length) none) h).out := by
  unfold runB
  cases g (ds.map some ++ List.replicate (n - ds.length) none) h <;> rfl
@[simp] theorem ite_ok {a b : D} : (if P then RD.ok a h else RD.ok b h) = .ok (if P then a else b) h := by split <;> rfl
@[simp] theorem ite_dbl {a b : Bool} : (if P then D.bl a else D.bl b) = D.bl (if P then a else b) := by split <;> rfl
@[simp] theorem x_isi {T : String} : eIsi T f s h = (f s h).bind fun d h1 => match isiB T h1 d with
  | some b => .ok (.bl b) h1
  | none => .bad := rfl
@[simp] theorem t_int {T : String} {i : Int} : isiB T h (.int i) = kitB "int" T := rfl
@[simp] theorem t_bl {T : String} {i : Bool} : isiB T h (.bl i) = kitB "bool" T := rfl
@[simp] theorem t_str {T : String} {i : Str} : isiB T h (.str i) = kitB "str" T := rfl
@[simp] theorem t_tup {T : String} {i : List D} : isiB T h (.tup i) = kitB "tuple" T := rfl
@[simp] theorem t_non {T : String} : isiB T h .non = kitB "NoneType" T := rfl
theorem kit_table : (kitB "int" "int" = some true ∧ kitB "int" "bool" = some false ∧ kitB "int" "str" = some false ∧ kitB "int" "tuple" = some false ∧ kitB "int" "list" = some false) ∧
    (kitB "bool" "int" = some true ∧ kitB "bool" "bool" = some true ∧ kitB "bool" "str" = some false ∧ kitB "bool" "tuple" = some false ∧ kitB "bool" "list" = some false) ∧
    (kitB "str" "int" = some false ∧ kitB "str" "bool" = some false ∧ kitB "str" "str" = some true ∧ kitB "str" "tuple" = some false ∧ kitB "str" "list" = some false) ∧
    (kitB "tuple" "int" = some false ∧ kitB "tuple" "bool" = some false ∧ kitB "tuple" "str" = some false ∧ kitB "tuple" "tuple" = some true ∧ kitB "tuple" "list" = some false) ∧
    (kitB "list" "int" = some false ∧ kitB "list" "bool" = some false ∧ kitB "list" "str" = some false ∧ kitB "list" "tuple" = some false ∧ kitB "list" "list" = some true) ∧
    (kitB "NoneType" "int" = some false ∧ kitB "NoneType" "bool" = some false ∧ kitB "NoneType" "str" = some false ∧ kitB "NoneType" "tuple" = some false ∧ kitB "NoneType" "list" = some false) := by
  decide +kernel
/-! ### lists in the heap -/
def lmC (g : Nat → List D → List D → Hm → RD) (n : Nat) (ds : List D) (h2 : Hm) : RD := match h2[n]? with
  | some (.lst xs) => g n xs ds h2
  | _ => .bad
def lmB (g : Nat → List D → List D → Hm → RD) (d : D) (l : List FE) (s : DS) (h1 : Hm) : RD := match d with
  | .ref n => match h1[n]? with
    | some (.lst _) => evR l s h1 fun ds h2 => lmC g n ds h2
    | _ => .bad
  | _ => .bad
variable {gl : Nat → List D → List D → Hm → RD} {l : List FE} {n : Nat} {xs ys : List D}
@[simp] theorem x_lm {fo : FE} : eLm gl fo l s h = (fo s h).bind fun d h1 => lmB gl d l s h1 := by
  unfold eLm lmB
  congr 1
  funext d h1
  cases d with
  | ref n =>
    dsimp only
    cases h1[n]? with
    | none => rfl
    | some o =>
      cases o with
      | lst zs => exact x_args
      | _ => rfl
  | _ => rfl
theorem lmB_ref (e : h[n]? = some (.lst ys)) : lmB gl (.ref n) l s h = evR l s h fun ds h2 => lmC gl n ds h2 := by simp [lmB, e]
theorem lmC_ok (e : h[n]? = some (.lst ys)) : lmC gl n xs h = gl n ys xs h := by simp [lmC, e]
theorem app_ok (e : xs.length < 1000000) : lAppend n xs [d] h = .ok .non (h.set n (.lst (xs ++ [d]))) := by
  have e' : xs.length < big := e
  simp [lAppend, e']
theorem get_last {o : O} : (h ++ [o])[h.length]? = some o := by simp
theorem set_last {o o' : O} : (h ++ [o]).set h.length o' = h ++ [o'] := by simp
theorem get_old {o : O} {n : Nat} (e : n < h.length) : (h ++ [o])[n]? = h[n]? := List.getElem?_append_left e
theorem lt_of_get {o : O} {n : Nat} (e : h[n]? = some o) : n < h.length := (List.getElem?_eq_some_iff.mp e).1
/-- appending to the newest list -/
theorem app_last {fo : FE} {e : FE} (hf : fo s (h ++ [.lst xs]) = .ok (.ref h.length) (h ++ [.lst xs])) (he : e s (h ++ [.lst xs]) = .ok d (h ++ [.lst xs])) (hl : xs.length < 1000000) :
    eLm lAppend fo [e] s (h ++ [.lst xs]) = .ok .non (h ++ [.lst (xs ++ [d])]) := by
  simp only [x_lm, hf, RD.bind_ok, lmB_ref (gl := lAppend) (get_last (h := h) (o := .lst xs)), evR_cons, evR_nil, he, lmC_ok (gl := lAppend) (get_last (h := h) (o := .lst xs)), app_ok hl, set_last]
theorem atI_nat {α : Type} {l : List α} {k : Nat} {x : α} (e : l[k]? = some x) : atI l (k : Int) = some x := by
  have hk := (List.getElem?_eq_some_iff.mp e).1
  have h0 : (0 : Int) ≤ (k : Int) := Int.natCast_nonneg k
  have h1 : (k : Int) < (l.length : Int) := Int.ofNat_lt.mpr hk
  unfold atI ixN
  rw [if_pos h0, if_pos h1]
  exact e
theorem ix_tup {k : Nat} {x : D} (e : xs[k]? = some x) : dIx (.tup xs) (.int k) h = .ok x h := by simp [dIx, items, atI_nat e]
theorem ix_ref {k : Nat} {x : D} (e0 : h[n]? = some (.lst xs)) (e : xs[k]? = some x) : dIx (.ref n) (.int k) h = .ok x h := by simp [dIx, items, e0, atI_nat e]
theorem len_ref (e : h[n]? = some (.lst xs)) : bLen [.ref n] h = .ok (.int xs.length) h := by simp [bLen, items, e]
/-! ### loops -/
variable {ck : Option (Nat × List D)} {gt : GT} {gb : FS} {fi : FI}
theorem loop_nil (hc : chkB ck h = true) : loopG ck gt gb [] s h = .nx s h := by simp [loopG, hc]
def RT.lp (r : RT) (k : FS) : RT := match r with
  | .nx s h => k s h
  | .ct s h => k s h
  | .bk s h => .nx s h
  | r => r
@[simp] theorem lp_nx : (RT.nx s h).lp k = k s h := rfl
@[simp] theorem lp_ct : (RT.ct s h).lp k = k s h := rfl
@[simp] theorem lp_bk : (RT.bk s h).lp k = .nx s h := rfl
@[simp] theorem lp_rt : (RT.rt d h).lp k = .rt d h := rfl
@[simp] theorem lp_ite {a b : RT} : (if P then a else b).lp k = if P then a.lp k else b.lp k := by split <;> rfl
theorem loop_cons {x : D} {s1 : DS} {h1 : Hm} (hc : chkB ck h = true) (ht : gt x s h = .nx s1 h1) : loopG ck gt gb (x :: xs) s h = (gb s1 h1).lp fun s2 h2 => loopG ck gt gb xs s2 h2 := by
  rw [loopG, if_pos hc, ht]
  dsimp only
  cases gb s1 h1 <;> rfl
theorem for_ok {h1 : Hm} (e : fi s h = .ok xs ck h1) : gFor fi gt gb s h = loopG ck gt gb xs s h1 := by simp [gFor, e]
theorem fi_ref {f : FE} {h1 : Hm} (e : f s h = .ok (.ref n) h1) (e1 : h1[n]? = some (.lst xs)) : fiSeq f s h = .ok xs (some (n, xs)) h1 := by simp [fiSeq, e, RD.it, iSeq, items, e1]
theorem fi_tup {f : FE} {h1 : Hm} (e : f s h = .ok (.tup xs) h1) : fiSeq f s h = .ok xs none h1 := by simp [fiSeq, e, RD.it, iSeq]
theorem fi_rg {f : FE} {h1 : Hm} {j : Int} (e : f s h = .ok (.int j) h1) (h0 : 0 ≤ j) (h2 : j < 1000000) : fiRg [f] s h = .ok ((List.range j.toNat).map fun i => .int (i : Nat)) none h1 := by
  have b : -4611686018427387904 ≤ j ∧ j < 4611686018427387904 := ⟨by omega, by omega⟩
  simp [fiRg, evalL, e, iRg, b, rgD]
theorem chk_ref (e : h[n]? = some (.lst xs)) : chkB (some (n, xs)) h = true := by
  simp [chkB, items, e, D.beqL_self]
theorem chk_none : chkB none h = true := rfl
@[simp] theorem q_int {i j : Int} : dEq (.int i) (.int j) h = .ok (.bl (decide (i = j))) h := by simp [dEq, eqB, eqSc]
@[simp] theorem q_str {i j : Str} : dEq (.str i) (.str j) h = .ok (.bl (decide (i = j))) h := by simp [dEq, eqB, eqSc]
@[simp] theorem q_is {i : Int} {j : Str} : dEq (.int i) (.str j) h = .ok (.bl false) h := by simp [dEq, eqB, eqSc]
@[simp] theorem q_si {i : Int} {j : Str} : dEq (.str j) (.int i) h = .ok (.bl false) h := by simp [dEq, eqB, eqSc]
@[simp] theorem q_ns {j : Str} : dEq .non (.str j) h = .ok (.bl false) h := by simp [dEq, eqB, eqSc]
@[simp] theorem q_ni {j : Int} : dEq .non (.int j) h = .ok (.bl false) h := by simp [dEq, eqB, eqSc]
@[simp] theorem nq_int {i j : Int} : dNe (.int i) (.int j) h = .ok (.bl (!decide (i = j))) h := by simp [dNe, eqB, eqSc]
@[simp] theorem nq_str {i j : Str} : dNe (.str i) (.str j) h = .ok (.bl (!decide (i = j))) h := by simp [dNe, eqB, eqSc]
@[simp] theorem nq_is {i : Int} {j : Str} : dNe (.int i) (.str j) h = .ok (.bl true) h := by simp [dNe, eqB, eqSc]
theorem pop_ok {i : Int} {x : D} (h0 : 0 ≤ i) (h1 : i < 1000000) (e : xs[i.toNat]? = some x) : lPopAt n xs [.int i] h = .ok x (h.set n (.lst (xs.eraseIdx i.toNat))) := by
  have hk := (List.getElem?_eq_some_iff.mp e).1
  have hs : seqIndex? i xs.length = some i.toNat := by
    unfold seqIndex?
    have : ¬ i < 0 := by omega
    simp [this, hk]
    omega
  have b : -9223372036854775808 ≤ i ∧ i < 9223372036854775808 := ⟨by omega, by omega⟩
  simp [lPopAt, b, hs, e]
/-! ### comprehensions whose items leave the heap but for new things -/
theorem lcv_ok {ft fe : FE} {s0 : DS} {val : D → D} {tt : D → Bool} (hck : ∀ u : Hm, chkB ck (h ++ u) = true) : ∀ (xs acc : List D) (t : Hm),
    (∀ x ∈ xs, ∀ u : Hm, ∃ (s1 : DS) (t' : Hm), gt x s0 (h ++ u) = .nx s1 (h ++ u) ∧ ft s1 (h ++ u) = .ok (.bl (tt x)) (h ++ u) ∧ (tt x = true → fe s1 (h ++ u) = .ok (val x) (h ++ u ++ t'))) → acc.length + xs.length < 1000000 →
    ∃ t2, lcLoop ck gt ft fe h.length s0 xs (h ++ .lst acc :: t) = .ok (.ref h.length) (h ++ .lst (acc ++ (xs.filter tt).map val) :: t2)
  | [], acc, t, _, _ => ⟨t, by
      unfold lcLoop
      rw [if_pos (hck _)]
      simp⟩
  | x :: xs, acc, t, k, hl => by
    simp only [List.length_cons] at hl
    obtain ⟨s1, t', e1, e2, e3⟩ := k x (List.mem_cons_self ..) (.lst acc :: t)
    unfold lcLoop
    rw [if_pos (hck _), e1]
    dsimp only
    rw [e2]
    cases ht : tt x with
    | false =>
      dsimp only
      obtain ⟨t2, r⟩ := lcv_ok hck xs acc t (fun y hy => k y (List.mem_cons_of_mem _ hy)) (by omega)
      exact ⟨t2, by rw [r, List.filter_cons_of_neg (by rw [ht]; exact Bool.false_ne_true)]⟩
    | true =>
      dsimp only
      rw [e3 ht]
      dsimp only
      have g : (h ++ .lst acc :: t ++ t')[h.length]? = some (.lst acc) := by simp
      rw [g]
      dsimp only
      have hb : acc.length < big := by show acc.length < 1000000; omega
      rw [if_pos hb]
      have es : (h ++ .lst acc :: t ++ t').set h.length (.lst (acc ++ [val x])) = h ++ .lst (acc ++ [val x]) :: (t ++ t') := by simp
      rw [es]
      obtain ⟨t2, r⟩ := lcv_ok hck xs (acc ++ [val x]) (t ++ t') (fun y hy => k y (List.mem_cons_of_mem _ hy)) (by simp; omega)
      exact ⟨t2, by rw [r, List.filter_cons_of_pos ht, List.map_cons, List.append_assoc]; rfl⟩
theorem elc_ok {ft fe : FE} {own : List Nat} {val : D → D} {tt : D → Bool} {xs : List D} (ef : fi s h = .ok xs ck h) (hck : ∀ u : Hm, chkB ck (h ++ u) = true)
    (k : ∀ x ∈ xs, ∀ u : Hm, ∃ (s1 : DS) (t' : Hm), gt x (wipeD s own) (h ++ u) = .nx s1 (h ++ u) ∧ ft s1 (h ++ u) = .ok (.bl (tt x)) (h ++ u) ∧ (tt x = true → fe s1 (h ++ u) = .ok (val x) (h ++ u ++ t'))) (hl : xs.length < 1000000) :
    ∃ t2, eLc fi gt ft fe own s h = .ok (.ref h.length) (h ++ .lst ((xs.filter tt).map val) :: t2) := by
  obtain ⟨t2, r⟩ := lcv_ok (s0 := wipeD s own) hck xs [] [] k (by simpa using hl)
  refine ⟨t2, ?_⟩
  unfold eLc
  rw [ef]
  dsimp only
  rw [r, List.nil_append]
theorem chk_old {n : Nat} {xs : List D} (e : h[n]? = some (.lst xs)) (u : Hm) : chkB (some (n, xs)) (h ++ u) = true := chk_ref (by rw [List.getElem?_append_left (lt_of_get e)]; exact e)
theorem bls_of : ∀ {ds : List D} {bs : List Bool}, ds = bs.map D.bl → bls ds = some bs
  | _, [], e => by subst e; rfl
  | _, b :: bs, e => by
    subst e
    simp only [List.map_cons, bls, bls_of rfl, Option.map_some]
theorem quant_ok {g : List Bool → Bool} {bs : List Bool} (e : h[n]? = some (.lst (bs.map D.bl))) : bQuant g [.ref n] h = .ok (.bl (g bs)) h := by
  simp [bQuant, e, bls_of rfl]
theorem lcIn_ok {ft fe : FE} {s0 : DS} {val : D → D} {tt : D → Bool} (hck : ∀ u : Hm, chkB ck (h ++ u) = true) : ∀ (xs acc : List D) (t : Hm),
    (∀ x ∈ xs, ∀ u : Hm, ∃ (s1 : DS) (t' : Hm), gt x s0 (h ++ u) = .nx s1 (h ++ u) ∧ ft s1 (h ++ u) = .ok (.bl (tt x)) (h ++ u) ∧ (tt x = true → fe s1 (h ++ u) = .ok (val x) (h ++ u ++ t'))) → acc.length + xs.length < 1000000 →
    ∃ t2, lcIn ck gt ft fe h.length s0 xs (h ++ .lst acc :: t) = some (h ++ .lst (acc ++ (xs.filter tt).map val) :: t2)
  | [], acc, t, _, _ => ⟨t, by
      unfold lcIn
      rw [if_pos (hck _)]
      simp⟩
  | x :: xs, acc, t, k, hl => by
    simp only [List.length_cons] at hl
    obtain ⟨s1, t', e1, e2, e3⟩ := k x (List.mem_cons_self ..) (.lst acc :: t)
    unfold lcIn
    rw [if_pos (hck _), e1]
    dsimp only
    rw [e2]
    cases ht : tt x with
    | false =>
      dsimp only
      obtain ⟨t2, r⟩ := lcIn_ok hck xs acc t (fun y hy => k y (List.mem_cons_of_mem _ hy)) (by omega)
      exact ⟨t2, by rw [r, List.filter_cons_of_neg (by rw [ht]; exact Bool.false_ne_true)]⟩
    | true =>
      dsimp only
      rw [e3 ht]
      dsimp only
      have g : (h ++ .lst acc :: t ++ t')[h.length]? = some (.lst acc) := by simp
      rw [g]
      dsimp only
      have hb : acc.length < big := by show acc.length < 1000000; omega
      rw [if_pos hb]
      have es : (h ++ .lst acc :: t ++ t').set h.length (.lst (acc ++ [val x])) = h ++ .lst (acc ++ [val x]) :: (t ++ t') := by simp
      rw [es]
      obtain ⟨t2, r⟩ := lcIn_ok hck xs (acc ++ [val x]) (t ++ t') (fun y hy => k y (List.mem_cons_of_mem _ hy)) (by simp; omega)
      exact ⟨t2, by rw [r, List.filter_cons_of_pos ht, List.map_cons, List.append_assoc]; rfl⟩
/-- two fors: of each x the items ys x, a tuple -/
theorem lc2_okv {fi1 : FI} {gt1 : GT} {ft1 fe : FE} {s0 : DS} {vs1 : List Nat} {ys : D → List D} {val : D → D → D} {tt : D → D → Bool} (hck : ∀ u : Hm, chkB ck (h ++ u) = true) : ∀ (xs acc : List D) (t : Hm),
    (∀ x ∈ xs, ∃ s1 : DS, (∀ u : Hm, gt x s0 (h ++ u) = .nx s1 (h ++ u) ∧ fi1 s1 (h ++ u) = .ok (ys x) none (h ++ u)) ∧
      ∀ y ∈ ys x, ∀ u : Hm, ∃ (s2 : DS) (t' : Hm), gt1 y (wipeD s1 vs1) (h ++ u) = .nx s2 (h ++ u) ∧ ft1 s2 (h ++ u) = .ok (.bl (tt x y)) (h ++ u) ∧ (tt x y = true → fe s2 (h ++ u) = .ok (val x y) (h ++ u ++ t'))) →
    acc.length + (xs.map fun x => (ys x).length).sum < 1000000 →
    ∃ t2, lc2Loop ck gt (eC (.bl true)) fi1 gt1 ft1 fe h.length s0 vs1 xs (h ++ .lst acc :: t) = .ok (.ref h.length) (h ++ .lst (acc ++ (xs.map fun x => ((ys x).filter (tt x)).map (val x)).flatten) :: t2)
  | [], acc, t, _, _ => ⟨t, by
      unfold lc2Loop
      rw [if_pos (hck _)]
      simp⟩
  | x :: xs, acc, t, k, hl => by
    simp only [List.map_cons, List.sum_cons] at hl
    obtain ⟨s1, e1, e2⟩ := k x (List.mem_cons_self ..)
    obtain ⟨t1, r1⟩ := lcIn_ok (ck := none) (gt := gt1) (ft := ft1) (fe := fe) (s0 := wipeD s1 vs1) (val := val x) (tt := tt x) (fun _ => rfl) (ys x) acc t e2 (by omega)
    have hfl : (((ys x).filter (tt x)).map (val x)).length ≤ (ys x).length := by rw [List.length_map]; exact List.length_filter_le ..
    obtain ⟨t2, r⟩ := lc2_okv hck xs (acc ++ ((ys x).filter (tt x)).map (val x)) t1 (fun y hy => k y (List.mem_cons_of_mem _ hy)) (by rw [List.length_append]; omega)
    refine ⟨t2, ?_⟩
    unfold lc2Loop
    rw [if_pos (hck _), (e1 _).1]
    dsimp only
    rw [x_c]
    dsimp only
    rw [(e1 _).2]
    dsimp only
    rw [r1]
    dsimp only
    rw [r, List.map_cons, List.flatten_cons, List.append_assoc]
theorem elc2_ok {fi1 : FI} {gt1 : GT} {ft1 fe : FE} {own vs1 : List Nat} {ys : D → List D} {val : D → D → D} {tt : D → D → Bool} {xs : List D} (ef : fi s h = .ok xs ck h) (hck : ∀ u : Hm, chkB ck (h ++ u) = true)
    (k : ∀ x ∈ xs, ∃ s1 : DS, (∀ u : Hm, gt x (wipeD s own) (h ++ u) = .nx s1 (h ++ u) ∧ fi1 s1 (h ++ u) = .ok (ys x) none (h ++ u)) ∧
      ∀ y ∈ ys x, ∀ u : Hm, ∃ (s2 : DS) (t' : Hm), gt1 y (wipeD s1 vs1) (h ++ u) = .nx s2 (h ++ u) ∧ ft1 s2 (h ++ u) = .ok (.bl (tt x y)) (h ++ u) ∧ (tt x y = true → fe s2 (h ++ u) = .ok (val x y) (h ++ u ++ t')))
    (hl : (xs.map fun x => (ys x).length).sum < 1000000) :
    ∃ t2, eLc2 fi gt (eC (.bl true)) fi1 gt1 ft1 fe own vs1 s h = .ok (.ref h.length) (h ++ .lst ((xs.map fun x => ((ys x).filter (tt x)).map (val x)).flatten) :: t2) := by
  obtain ⟨t2, r⟩ := lc2_okv (s0 := wipeD s own) hck xs [] [] k (by simpa using hl)
  refine ⟨t2, ?_⟩
  unfold eLc2
  rw [ef]
  dsimp only
  rw [r, List.nil_append]
end
end Sh

set_option Elab.async false
set_option linter.all false
set_option maxRecDepth 100000
set_option maxHeartbeats 4000000
/-! Lists of ints: sum, max, min, count; index of flat things; l[i] = e. -/
namespace Sh
open PySem L2 PyProof.Rows
theorem intsD_map (ns : List Int) : intsD (ns.map D.int) = some ns := by
  induction ns with
  | nil => rfl
  | cons a l ih => simp [intsD, ih]
/-- a function of a list of ints -/
def bInts (g : List Int → Option Int) (ds : List D) (h : Hm) : RD := match ds with
  | [.ref k] => match h[k]? with
    | some (.lst xs) => match intsD xs with
      | some ns => match g ns with
        | some i => .ok (.int i) h
        | none => .bad
      | none => .bad
    | _ => .bad
  | _ => .bad
def mxI : List Int → Int
  | [] => 0
  | a :: r => r.foldr max a
def mnI : List Int → Int
  | [] => 0
  | a :: r => r.foldr min a
theorem mxI_mem : ∀ {l : List Int}, l ≠ [] → mxI l ∈ l ∧ ∀ y ∈ l, y ≤ mxI l
  | [], h => absurd rfl h
  | a :: r, _ => by
    show r.foldr max a ∈ a :: r ∧ _
    have hh : r.foldr max a ∈ a :: r ∧ ∀ y ∈ a :: r, y ≤ r.foldr max a := by
      induction r with
      | nil => simp
      | cons b t ih =>
        rw [List.foldr_cons]
        obtain ⟨h1, h2⟩ := ih (List.cons_ne_nil _ _)
        refine ⟨?_, fun y hy => ?_⟩
        · rcases Int.le_total b (t.foldr max a) with h | h
          · rw [Int.max_eq_right h]
            rcases List.mem_cons.mp h1 with h1 | h1
            · rw [h1]; exact List.mem_cons_self
            · exact List.mem_cons_of_mem _ (List.mem_cons_of_mem _ h1)
          · rw [Int.max_eq_left h]
            exact List.mem_cons_of_mem _ List.mem_cons_self
        · rcases List.mem_cons.mp hy with rfl | hy
          · exact Int.le_trans (h2 y List.mem_cons_self) (Int.le_max_right _ _)
          · rcases List.mem_cons.mp hy with rfl | hy
            · exact Int.le_max_left _ _
            · exact Int.le_trans (h2 y (List.mem_cons_of_mem _ hy)) (Int.le_max_right _ _)
    exact hh
theorem mnI_mem : ∀ {l : List Int}, l ≠ [] → mnI l ∈ l ∧ ∀ y ∈ l, mnI l ≤ y
  | [], h => absurd rfl h
  | a :: r, _ => by
    show r.foldr min a ∈ a :: r ∧ _
    have hh : r.foldr min a ∈ a :: r ∧ ∀ y ∈ a :: r, r.foldr min a ≤ y := by
      induction r with
      | nil => simp
      | cons b t ih =>
        rw [List.foldr_cons]
        obtain ⟨h1, h2⟩ := ih (List.cons_ne_nil _ _)
        refine ⟨?_, fun y hy => ?_⟩
        · rcases Int.le_total (t.foldr min a) b with h | h
          · rw [Int.min_eq_right h]
            rcases List.mem_cons.mp h1 with h1 | h1
            · rw [h1]; exact List.mem_cons_self
            · exact List.mem_cons_of_mem _ (List.mem_cons_of_mem _ h1)
          · rw [Int.min_eq_left h]
            exact List.mem_cons_of_mem _ List.mem_cons_self
        · rcases List.mem_cons.mp hy with rfl | hy
          · exact Int.le_trans (Int.min_le_right _ _) (h2 y List.mem_cons_self)
          · rcases List.mem_cons.mp hy with rfl | hy
            · exact Int.min_le_left _ _
            · exact Int.le_trans (Int.min_le_right _ _) (h2 y (List.mem_cons_of_mem _ hy))
    exact hh
abbrev bSum := bInts fun ns => some ns.sum
abbrev bMax := bInts fun ns => if ns = [] then none else some (mxI ns)
abbrev bMin := bInts fun ns => if ns = [] then none else some (mnI ns)
section
variable {X : Cx}
theorem cs_ints {r : List V → Hp → VK → Prop} (g : List Int → Option Int) (k : ∀ (a : Addr) (ns : List Int) (i : Int) (H : Hp) (Q : VK), SqL X.K H a (ns.map V.int) → g ns = some i → Q (.int i) H → r [V.ref a] H Q) : CallS X r (bInts g) := by
  intro W m H h vs ds Q r rv p
  unfold bInts at p
  split at p
  · split at p
    · rename_i k' xs hk
      split at p
      · rename_i bs hb
        split at p
        · rename_i i hi
          cases rv with
          | cons r1 r2 =>
            cases r2
            obtain ⟨a, rfl, hm⟩ := r1.ref_inv
            obtain ⟨ws, q1, q2⟩ := r.ob _ _ _ hm hk
            exact k a bs i H Q (.inl (.inl (by rw [q1, intsD_rep q2 hb]))) hi (p.val r (.int _))
        · exact False.elim p
      · exact False.elim p
    · exact False.elim p
  · exact False.elim p
theorem cs_sum : CallS X (rSum X.K) bSum := cs_ints _ fun a ns i H Q h e q => ⟨a, ns, rfl, h, by cases e; exact q⟩
theorem cs_max : CallS X (rMax X.K) bMax := cs_ints _ fun a ns i H Q h e q => by
  by_cases z : ns = []
  · rw [if_pos z] at e; cases e
  · rw [if_neg z] at e
    cases e
    refine ⟨a, ns, rfl, h, List.length_pos_iff.mpr z, fun m h1 h2 => ?_⟩
    have e : m = mxI ns := Int.le_antisymm ((mxI_mem z).2 m h1) (h2 _ (mxI_mem z).1)
    rw [e]
    exact q
theorem cs_min : CallS X (rMin X.K) bMin := cs_ints _ fun a ns i H Q h e q => by
  by_cases z : ns = []
  · rw [if_pos z] at e; cases e
  · rw [if_neg z] at e
    cases e
    refine ⟨a, ns, rfl, h, List.length_pos_iff.mpr z, fun m h1 h2 => ?_⟩
    have e : m = mnI ns := Int.le_antisymm (h2 _ (mnI_mem z).1) ((mnI_mem z).2 m h1)
    rw [e]
    exact q
/-- max(i, j), min(i, j) -/
def bTwo (g : Int → Int → Int) (ds : List D) (h : Hm) : RD := match ds with
  | [.int i, .int j] => .ok (.int (g i j)) h
  | _ => .bad
theorem cs_two (g : Int → Int → Int) : CallS X (fun xs H Q => ∃ i j, xs = [.int i, .int j] ∧ Q (.int (g i j)) H) (bTwo g) := by
  intro W m H h vs ds Q r rv p
  unfold bTwo at p
  split at p
  · cases rv with | cons r1 r2 => cases r2 with | cons r2 r3 => cases r3; cases r1; cases r2; exact ⟨_, _, rfl, p.val r (.int _)⟩
  · exact False.elim p
abbrev bMax2 := bTwo fun i j => if j > i then j else i
abbrev bMin2 := bTwo fun i j => if j < i then j else i
/-- xs.index(x), flat things, x there -/
def lIndex (n : Nat) (xs ds : List D) (h : Hm) : RD := match ds with
  | [d] => if flatD d = true ∧ xs.all flatD = true then (match xs.findIdx? (fun z => eqF z d) with
    | some j => .ok (.int j) h
    | none => .bad) else .bad
  | _ => .bad
theorem ls_index : LmS X (rIndex X.K) lIndex := by
  intro W m H h n a xs us vs ds Q r hm hk hu l1 l2 p
  unfold lIndex at p
  split at p
  · rename_i d
    split at p
    · rename_i hf
      split at p
      · rename_i j hj
        cases l2 with
        | cons rv rn =>
          cases rn
          rename_i y
          obtain ⟨h1, h2, h3⟩ := List.findIdx?_eq_some_iff_getElem.mp hj
          obtain ⟨z, e1, e2⟩ := l1.get (List.getElem?_eq_getElem h1)
          refine ⟨a, us, y, j, z, rfl, rfl, .inl (.inl hu), flat_rep rv hf.1, flat_repL l1 hf.2, e1, by rw [eqF_rep e2 rv]; exact h2, fun i z' hi hz' => ?_, p.val r (.int _)⟩
          obtain ⟨d', e3, e4⟩ := l1.get' hz'
          rw [eqF_rep e4 rv]
          obtain ⟨h5, h6⟩ := List.getElem?_eq_some_iff.mp e3
          rw [← h6]
          simpa using h3 i hi
      · exact False.elim p
    · exact False.elim p
  · exact False.elim p
/-- xs.count(k) of ints -/
def lCount (n : Nat) (xs ds : List D) (h : Hm) : RD := match ds with
  | [.int k] => match intsD xs with
    | some ns => .ok (.int (ns.count k : Nat)) h
    | none => .bad
  | _ => .bad
theorem ls_count : LmS X (rCntI X.K) lCount := by
  intro W m H h n a xs us vs ds Q r hm hk hu l1 l2 p
  unfold lCount at p
  split at p
  · split at p
    · rename_i ns hn
      cases l2 with
      | cons rv rn =>
        cases rn
        cases rv
        exact ⟨a, ns, _, rfl, rfl, .inl (.inl (by rw [hu, intsD_rep l1 hn])), p.val r (.int _)⟩
    · exact False.elim p
  · exact False.elim p
variable {W : WX} {o i e : Expr} {fo fi f : FE} {pos pos' : Pos}
/-- l[i] = v, l a list -/
def gLput (fo fi fv : FE) : FS := fun s h => (fv s h).st s fun v h1 => (fo s h1).st s fun d h2 => (fi s h2).st s fun y h3 => match d, y with
  | .ref n, .int k => (match h3[n]? with
    | some (.lst xs) => (match ixN xs.length k with
      | some j => .nx s (h3.set n (.lst (xs.set j v)))
      | none => .bad)
    | _ => .bad)
  | _, _ => .bad
theorem ss_lput (ho : SE X W o fo) (hi : SE X W i fi) (hv : SE X W e f) (hs : swapsWithSole [.Subscript o i pos'] e pos.line X.env = pure false := by rfl) (hw : swappedStores [.Subscript o i pos'] e X.env = pure none := by rfl)
    (h1 : (assignEach [.Subscript o i pos'] X.env).map (·.2) = [assign (.Subscript o i pos') X.env] := by rfl)
    (ha : ∀ v, assign (.Subscript o i pos') X.env v = (do
      let ov ← holding [v] (eval o X.env)
      let iv ← holding [v, ov] (eval i X.env)
      standAt pos'
      holding [v, ov, iv] (setItem ov iv v)
      release [v, ov, iv] []) := by intro _; rfl) : SS X W (.Assign [.Subscript o i pos'] e pos) (gLput fo fi f) := by
  refine PS.imp (ps_asg hv (pg_sub ho hi set_list ha) hs hw h1) fun D σ H h => ?_
  obtain ⟨m, s, h, R0, rs, p⟩ := h
  refine ⟨m, s, h, R0, rs, PostE.mono (PostS.ofE rs p) ?_⟩
  rintro v H1 ⟨m1, dv, h1, g1, R1, rv, p1⟩
  refine ⟨m1, s, h1, R1, rs.grow g1, PostE.mono (PostS.ofE (rs.grow g1) p1) ?_⟩
  rintro x H2 ⟨m2, dx, h2, g2, R2, rx, p2⟩
  refine ⟨m2, s, h2, R2, (rs.grow g1).grow g2, PostE.mono (PostS.ofE ((rs.grow g1).grow g2) p2) ?_⟩
  rintro y H3 ⟨m3, dy, h3, g3, R3, ry, p3⟩
  split at p3
  · split at p3
    · rename_i n k xs hn
      split at p3
      · rename_i j hj
        obtain ⟨a, rfl, hm⟩ := (rx.grow g3).ref_inv
        obtain ⟨us, q1, q2⟩ := R3.ob _ _ _ hm hn
        cases ry
        refine ⟨a, us, _, j, rfl, rfl, q1, by rw [q2.length]; exact hj, ?_⟩
        obtain ⟨g4, R4⟩ := R3.lset hm hn (q2.set (rv.grow (g2.trans g3)) j)
        exact p3 m3 _ σ g4 R4 ((rs.grow (g1.trans (g2.trans g3))).grow g4)
      · exact False.elim p3
    · exact False.elim p3
  · exact False.elim p3
/-- a, b = x, y: both ahead, then both names -/
def gPar (i j : Nat) (fa fb : FE) : FS := fun s h => (fa s h).st s fun x h1 => (fb s h1).st s fun y h2 => .nx ((s.set i (some x)).set j (some y)) h2
theorem ss_par {i j : Nat} {x y : Str} {a b : Expr} {fa fb : FE} {px py pt : Pos} {kt k2 pt2} (hc : X.calm = true) (hN : X.N.Nodup) (hi : X.N[i]? = some x) (hj : X.N[j]? = some y) (hij : i ≠ j)
    (hx : X.env.scope.names.lookup x = some .local) (hy : X.env.scope.names.lookup y = some .local) (ha : SE X W a fa) (hb : SE X W b fb)
    (hw : swappedStores [.Tuple [.Name x px, .Name y py] kt pt] (.Tuple [a, b] k2 pt2) X.env = pure (some [x, y]))
    (hs : swapsWithSole [.Tuple [.Name x px, .Name y py] kt pt] (.Tuple [a, b] k2 pt2) pos.line X.env = pure false := by rfl)
    (h1 : starEach [a, b] X.env = (false, eval a X.env) :: starEach [b] X.env := by rfl) (h2 : starEach [b] X.env = (false, eval b X.env) :: starEach [] X.env := by rfl) :
    SS X W (.Assign [.Tuple [.Name x px, .Name y py] kt pt] (.Tuple [a, b] k2 pt2) pos) (gPar i j fa fb) := by
  refine PS.imp (ps_par hc hN hi hj hij hx hy (sa_cons ha (sa_cons hb sa_nil h2) h1) hw hs) fun D σ H h => ?_
  obtain ⟨m, s, h, R0, rs, p⟩ := h
  refine ⟨m, s, h, R0, rs, ?_⟩
  unfold gPar at p
  simp only [evalL]
  generalize fa s h = r1 at p
  cases r1 with
  | ok x h1 =>
    simp only [RD.st_ok] at p
    dsimp only
    generalize fb s h1 = r2 at p
    cases r2 with
    | ok y h2 =>
      intro m1 H1 vs g1 R1 rvs
      cases rvs with
      | cons rv t =>
        cases t with
        | cons rw t =>
          cases t
          exact ⟨_, _, rfl, p m1 H1 _ g1 R1 (((rs.grow g1).set i rv).set j rw)⟩
    | exc c fs h2 => exact fun m1 H1 cls dx g1 R1 ex => p m1 H1 σ cls dx g1 R1 (rs.grow g1) ex
    | bad => exact p
  | exc c fs h2 => exact fun m1 H1 cls dx g1 R1 ex => p m1 H1 σ cls dx g1 R1 (rs.grow g1) ex
  | bad => exact p
/-! ### truth -/
def truB (h : Hm) : D → Option Bool
  | .non => some false
  | .bl b => some b
  | .int i => some (i != 0)
  | .str x => if x.length ≤ big then some ((x.length : Int) != 0) else none
  | .tup xs => some (!xs.isEmpty)
  | .scl xs => some (!xs.isEmpty)
  | .ref n => match h[n]? with
    | some (.lst xs) => some (!xs.isEmpty)
    | some (.dk kvs) => some (!kvs.isEmpty)
    | _ => none
theorem RepL.empty {K : PySem.W.Frag} {m : List Addr} {H : Hp} {vs : List V} {ds : List D} (r : RepL K m H vs ds) : vs.isEmpty = ds.isEmpty := by cases r <;> rfl
theorem truB_ok {K : PySem.W.Frag} {mg : Str → Option Value} {m : List Addr} {H : Hp} {h : Hm} (r : R K mg m H h) {v : V} {d : D} {b : Bool} (x : Rep K m H v d) (e : truB h d = some b) : TruV K v H b := by
  cases d with
  | non => cases e; cases x; rfl
  | bl p => cases e; cases x; rfl
  | int p => cases e; cases x; rfl
  | str p =>
    simp only [truB] at e
    split at e
    · rename_i hz
      cases e
      cases x
      exact ⟨big_line hz, rfl⟩
    · cases e
  | tup ds =>
    cases e
    obtain ⟨a, vs, rfl, t, l⟩ := x.tup_inv
    exact .inr (.inl ⟨vs, t.sqT, by rw [l.empty]⟩)
  | scl ds =>
    cases e
    obtain ⟨a, vs, rfl, t, l⟩ := x.scl_inv
    exact .inl ⟨vs, t.sqL, by rw [l.empty]⟩
  | ref k =>
    obtain ⟨a, rfl, hm⟩ := x.ref_inv
    simp only [truB] at e
    split at e
    · rename_i ds hk
      cases e
      obtain ⟨vs, q1, q2⟩ := r.ob _ _ _ hm hk
      exact .inl ⟨vs, .inl (.inl q1), by rw [q2.empty]⟩
    · rename_i ds hk
      cases e
      obtain ⟨kv, q1, q2⟩ := r.ob _ _ _ hm hk
      refine .inr (.inr ⟨kv, q1, ?_⟩)
      have hl := q2.len
      cases kv <;> cases ds <;> first | rfl | (simp at hl)
    · cases e
def eTru (f : FE) : FE := fun s h => (f s h).bind fun d h1 => match truB h1 d with
  | some b => .ok (.bl b) h1
  | none => .bad
theorem tru_okE {f : FE} {σ : L2.St} {H : Hp} {Q : Bool → Hp → Prop} (h : tST X.K X.mg W (eTru f) σ H Q) : tS X.K X.mg W f σ H fun x H' => ∃ k, TruV X.K x H' k ∧ Q k H' := by
  obtain ⟨m, s, h, R0, rs, p⟩ := h
  refine ⟨m, s, h, R0, rs, PostE.mono (PostT.bindE p) ?_⟩
  rintro x H1 ⟨m1, dx, h1, g1, R1, rx, p1⟩
  try dsimp only at p1
  split at p1
  · rename_i b hb
    exact ⟨b, truB_ok R1 rx hb, p1 m1 H1 (Grow.refl _ _) R1⟩
  · exact False.elim p1
/-- a value of any kind, as a test -/
theorem st_tru (he : SE X W e f) (hw : ∀ whole, isTrue e X.env whole = (do let v ← whole; standAt e.pos; holding [v] (truthy v)) := by intro _; rfl) : ST X W e (eTru f) :=
  PT.imp (pt_truth he hw) fun σ H Q h => tru_okE h
/-- not of a value of any kind -/
theorem se_notT (he : SE X W e f) : SE X W (.UnaryOp .Not e pos) (eNot (eTru f)) := by
  refine PE.imp (pe_notT he) fun σ H Q h => ?_
  obtain ⟨m, s, h, R0, rs, p⟩ := h
  refine ⟨m, s, h, R0, rs, ?_⟩
  unfold eNot eTru at p
  generalize f s h = r at p
  cases r with
  | ok d h1 =>
    intro m1 H1 x g1 R1 rx
    simp only [RD.bind_ok] at p
    generalize hb : truB h1 d = ob at p
    cases ob with
    | some b => exact ⟨b, truB_ok R1 rx hb, (PostE.grow p g1).val R1 (.bl _)⟩
    | none => exact False.elim p
  | exc c fs h1 => exact p
  | bad => exact p
end
end Sh

set_option Elab.async false
set_option linter.all false
set_option maxRecDepth 100000
set_option maxHeartbeats 4000000
/-! What a mirror comes to, statement by statement: OK of expressions, NX of statements. -/
namespace Sh
open PySem L2 PyProof.Rows
inductive OK : RD → (D → Hm → Prop) → Prop
  | mk {d : D} {h : Hm} {Q : D → Hm → Prop} (q : Q d h) : OK (.ok d h) Q
def BL (d : D) (P : Bool → Prop) : Prop := match d with
  | .bl p => P p
  | _ => False
inductive NX : RT → (DS → Hm → Prop) → (D → Hm → Prop) → Prop
  | nx {s : DS} {h : Hm} {N : DS → Hm → Prop} {T : D → Hm → Prop} (q : N s h) : NX (.nx s h) N T
  | rt {d : D} {h : Hm} {N : DS → Hm → Prop} {T : D → Hm → Prop} (q : T d h) : NX (.rt d h) N T
section
variable {r : RD} {Q Q' : D → Hm → Prop} {d : D} {h h1 : Hm} {k : D → Hm → RD} {kb : Bool → Hm → RD} {P : Prop} [Decidable P] {a b : RD} {N N' : DS → Hm → Prop} {T T' : D → Hm → Prop} {s : DS}
theorem ok_ok : OK (.ok d h) Q = Q d h := propext ⟨fun x => (by cases x with | mk q => exact q), .mk⟩
theorem ok_bind : OK (r.bind k) Q = OK r fun d h => OK (k d h) Q := by
  cases r with
  | ok d h => rw [RD.bind_ok, ok_ok]
  | exc c fs h => exact propext ⟨fun x => (by cases x), fun x => (by cases x)⟩
  | bad => exact propext ⟨fun x => (by cases x), fun x => (by cases x)⟩
theorem ok_tb : OK (r.tb kb) Q = OK r fun d h => BL d fun p => OK (kb p h) Q := by
  cases r with
  | ok d h =>
    rw [ok_ok]
    cases d with
    | bl p => rfl
    | _ => exact propext ⟨fun x => (by cases x), fun x => False.elim x⟩
  | exc c fs h => exact propext ⟨fun x => (by cases x), fun x => (by cases x)⟩
  | bad => exact propext ⟨fun x => (by cases x), fun x => (by cases x)⟩
theorem bl_bl {p : Bool} {P : Bool → Prop} : BL (.bl p) P = P p := rfl
theorem ok_ite : OK (if P then a else b) Q = ((P → OK a Q) ∧ (¬ P → OK b Q)) := by
  by_cases h : P <;> simp [h]
theorem OK.mono (x : OK r Q) (k : ∀ d h, Q d h → Q' d h) : OK r Q' := by
  cases x with
  | mk q => exact .mk (k _ _ q)
theorem OK.get (x : OK r Q) : ∃ d h, r = .ok d h ∧ Q d h := by
  cases x with
  | mk q => exact ⟨_, _, rfl, q⟩
theorem OK.of (e : r = .ok d h) (q : Q d h) : OK r Q := by
  rw [e]
  exact .mk q
theorem NX.mono {r : RT} (x : NX r N T) (k : ∀ s h, N s h → N' s h) (k' : ∀ d h, T d h → T' d h) : NX r N' T' := by
  cases x with
  | nx q => exact .nx (k _ _ q)
  | rt q => exact .rt (k' _ _ q)
variable {f c fo fi : FE} {g ga gb : FS} {i : Nat}
theorem nx_seq (x : NX (ga s h) (fun s1 h1 => NX (gb s1 h1) N T) T) : NX (gSeq ga gb s h) N T := by
  rw [x_seq]
  generalize ga s h = r at x
  cases x with
  | nx q => exact q
  | rt q => exact .rt q
theorem nx_set (x : OK (f s h) fun d h1 => N (s.set i (some d)) h1) : NX (gSet i f s h) N T := by
  rw [x_set]
  obtain ⟨d, h1, e, q⟩ := x.get
  rw [e]
  exact .nx q
theorem nx_ret (x : OK (f s h) T) : NX (gRet f s h) N T := by
  rw [x_ret]
  obtain ⟨d, h1, e, q⟩ := x.get
  rw [e]
  exact .rt q
theorem nx_drop (x : OK (f s h) fun _ h1 => N s h1) : NX (gDrop f s h) N T := by
  rw [x_drop]
  obtain ⟨d, h1, e, q⟩ := x.get
  rw [e]
  exact .nx q
theorem nx_next (x : N s h) : NX (gNext s h) N T := .nx x
theorem nx_if (x : OK (c s h) fun d h1 => BL d fun p => (p = true → NX (ga s h1) N T) ∧ (p = false → NX (gb s h1) N T)) : NX (gIf c ga gb s h) N T := by
  rw [x_if]
  obtain ⟨d, h1, e, q⟩ := x.get
  rw [e]
  cases d with
  | bl p =>
    cases p with
    | true => exact q.1 rfl
    | false => exact q.2 rfl
  | _ => exact False.elim q
/-- the condition's value is known -/
theorem nx_ifT (e : c s h = .ok (.bl true) h1) (x : NX (ga s h1) N T) : NX (gIf c ga gb s h) N T := by
  rw [x_if, e]
  exact x
theorem nx_ifF (e : c s h = .ok (.bl false) h1) (x : NX (gb s h1) N T) : NX (gIf c ga gb s h) N T := by
  rw [x_if, e]
  exact x
theorem nx_ifP {p : Prop} [Decidable p] (e : c s h = .ok (.bl (decide p)) h1) (x : p → NX (ga s h1) N T) (y : ¬ p → NX (gb s h1) N T) : NX (gIf c ga gb s h) N T := by
  by_cases hp : p
  · exact nx_ifT (by rw [e, decide_eq_true hp]) (x hp)
  · exact nx_ifF (by rw [e, decide_eq_false hp]) (y hp)
def lputK (d y v : D) (s : DS) (h3 : Hm) : RT := match d, y with
  | .ref n, .int k => (match h3[n]? with
    | some (.lst xs) => (match ixN xs.length k with
      | some j => .nx s (h3.set n (.lst (xs.set j v)))
      | none => .bad)
    | _ => .bad)
  | _, _ => .bad
theorem ixN_nat {n j : Nat} (e : j < n) : ixN n (j : Int) = some j := by
  unfold ixN
  have h0 : (0 : Int) ≤ (j : Int) := Int.natCast_nonneg j
  have h1 : (j : Int) < (n : Int) := Int.ofNat_lt.mpr e
  rw [if_pos h0, if_pos h1]
  rfl
theorem nx_lput {fv : FE} (x : OK (fv s h) fun v h1 => OK (fo s h1) fun d h2 => OK (fi s h2) fun y h3 => ∃ (n j : Nat) (xs : List D), d = .ref n ∧ y = .int j ∧ h3[n]? = some (.lst xs) ∧ j < xs.length ∧ N s (h3.set n (.lst (xs.set j v)))) : NX (gLput fo fi fv s h) N T := by
  unfold gLput
  obtain ⟨v, h1, e1, q⟩ := x.get
  obtain ⟨d, h2, e2, q⟩ := q.get
  obtain ⟨y, h3, e3, n, j, xs, rfl, rfl, e4, e5, q⟩ := q.get
  rw [e1, RD.st_ok, e2, RD.st_ok, e3, RD.st_ok]
  dsimp only
  rw [e4]
  dsimp only
  rw [ixN_nat e5]
  exact .nx q
/-- a def -/
theorem ok_run {n : Nat} {g : FS} {ds : List D} (x : NX (g (ds.map some ++ List.replicate (n - ds.length) none) h) (fun _ h1 => Q .non h1) Q) : OK (runB n g ds h) Q := by
  rw [x_run]
  generalize g (ds.map some ++ List.replicate (n - ds.length) none) h = r at x
  cases x with
  | nx q => exact .mk q
  | rt q => exact .mk q
/-- for i in range(n): an invariant I i s h before the turn i -/
theorem nx_loopR {gt : GT} {ck : Option (Nat × List D)} (I : Nat → DS → Hm → Prop) {n : Nat} (val : Nat → D) (hck : ∀ j s h, I j s h → chkB ck h = true)
    (turn : ∀ j s h, j < n → I j s h → ∃ s1, gt (val j) s h = .nx s1 h ∧ NX (gb s1 h) (I (j + 1)) T) : ∀ (m j : Nat) (s : DS) (h : Hm), j + m = n → I j s h → (∀ s h, I n s h → N s h) → NX (loopG ck gt gb ((List.range' j m).map val) s h) N T
  | 0, j, s, h, e, i0, fin => by
    rw [List.range'_zero, List.map_nil, loop_nil (hck _ _ _ i0)]
    have : j = n := by omega
    subst this
    exact .nx (fin _ _ i0)
  | m + 1, j, s, h, e, i0, fin => by
    obtain ⟨s1, e1, x⟩ := turn j s h (by omega) i0
    rw [List.range'_succ, List.map_cons, loop_cons (hck _ _ _ i0) e1]
    generalize gb s1 h = r at x
    cases x with
    | nx q => exact nx_loopR I val hck turn m (j + 1) _ _ (by omega) q fin
    | rt q => exact .rt q
theorem nx_forR {v : Nat} (I : Nat → DS → Hm → Prop) {n : Nat} (hn : n < 1000000) (e : f s h = .ok (.int (n : Int)) h1) (i0 : I 0 s h1)
    (turn : ∀ j s h, j < n → I j s h → NX (gb (s.set v (some (.int (j : Nat)))) h) (I (j + 1)) T) (fin : ∀ s h, I n s h → N s h) : NX (gFor (fiRg [f]) (tName v) gb s h) N T := by
  rw [for_ok (fi_rg e (by omega) (by omega)), Int.toNat_natCast, List.range_eq_range']
  exact nx_loopR I (fun i => D.int (i : Nat)) (fun _ _ _ _ => rfl) (fun j s h hj hi => ⟨_, rfl, turn j s h hj hi⟩) n 0 s h1 (by omega) i0 fin
/-- [e for i in range(n)], e with effects -/
theorem ok_lcR {gt : GT} {ft fe : FE} {p n : Nat} {s0 : DS} (I : Nat → List D → Hm → Prop) (hb : n < 1000000) (hl : ∀ j acc h, I j acc h → acc.length = j ∧ h[p]? = some (.lst acc))
    (turn : ∀ j acc h, j < n → I j acc h → ∃ s1, gt (.int (j : Nat)) s0 h = .nx s1 h ∧ ft s1 h = .ok (.bl true) h ∧ OK (fe s1 h) fun d h3 => h3[p]? = some (.lst acc) ∧ I (j + 1) (acc ++ [d]) (h3.set p (.lst (acc ++ [d])))) :
    ∀ (m j : Nat) (acc : List D) (h : Hm), j + m = n → I j acc h → (∀ acc h, I n acc h → Q (.ref p) h) → OK (lcLoop none gt ft fe p s0 ((List.range' j m).map fun i => D.int (i : Nat)) h) Q
  | 0, j, acc, h, e, i0, fin => by
    rw [List.range'_zero, List.map_nil]
    unfold lcLoop
    rw [if_pos chk_none]
    have : j = n := by omega
    subst this
    exact .mk (fin _ _ i0)
  | m + 1, j, acc, h, e, i0, fin => by
    obtain ⟨s1, e1, e2, x⟩ := turn j acc h (by omega) i0
    obtain ⟨d, h3, e3, e4, q⟩ := x.get
    rw [List.range'_succ, List.map_cons]
    unfold lcLoop
    rw [if_pos chk_none, e1]
    dsimp only
    rw [e2]
    dsimp only
    rw [e3]
    dsimp only
    rw [e4]
    dsimp only
    have hlt : acc.length < big := by
      have := (hl _ _ _ i0).1
      show acc.length < 1000000
      omega
    rw [if_pos hlt]
    exact ok_lcR I hb hl turn m (j + 1) _ _ (by omega) q fin
theorem ok_elcR {v n : Nat} {ft fe : FE} {own : List Nat} (I : Nat → List D → Hm → Prop) (hb : n < 1000000) (e : f s h = .ok (.int (n : Int)) h1) (i0 : I 0 [] (h1 ++ [.lst []])) (hl : ∀ j acc h, I j acc h → acc.length = j ∧ h[h1.length]? = some (.lst acc))
    (turn : ∀ j acc h, j < n → I j acc h → ft ((wipeD s own).set v (some (.int (j : Nat)))) h = .ok (.bl true) h ∧ OK (fe ((wipeD s own).set v (some (.int (j : Nat)))) h) fun d h3 => h3[h1.length]? = some (.lst acc) ∧ I (j + 1) (acc ++ [d]) (h3.set h1.length (.lst (acc ++ [d]))))
    (fin : ∀ acc h, I n acc h → Q (.ref h1.length) h) : OK (eLc (fiRg [f]) (tName v) ft fe own s h) Q := by
  unfold eLc
  rw [fi_rg e (by omega) (by omega)]
  dsimp only
  rw [Int.toNat_natCast, List.range_eq_range']
  exact ok_lcR I hb hl (fun j acc h hj hi => ⟨_, rfl, turn j acc h hj hi⟩) n 0 [] _ (by omega) i0 fin
end
/-! two lists of ints -/
theorem mapO_ints (n : Nat) (h : Hm) : ∀ l : List Int, mapO (toPy n h) (l.map D.int) = some (l.map PyData.int)
  | [] => rfl
  | p :: ps => by
    have e : toPy n h (.int p) = some (.int p) := by cases n <;> rfl
    simp only [List.map_cons, mapO, e, mapO_ints n h ps]
theorem toPy_ints {n : Nat} {h : Hm} {l : List Int} (e : h[n]? = some (.lst (l.map D.int))) : toPy 20 h (.ref n) = some (.list (l.map PyData.int)) := by
  show (match h[n]? with
    | some (.lst ds) => (mapO (toPy 19 h) ds).map PyData.list
    | some (.scr ds) => (mapO (toPy 19 h) ds).map PyData.list
    | _ => none) = _
  rw [e]
  dsimp only
  rw [mapO_ints]
  rfl
theorem lay_ints : ∀ l : List Int, PyData.canLayAll0 (l.map PyData.int) = true
  | [] => rfl
  | p :: ps => by
    rw [List.map_cons, PyData.canLayAll0, lay_ints ps, Bool.and_true]
    rfl
theorem dep_ints : ∀ l : List Int, PyData.depthAll (l.map PyData.int) = 0
  | [] => rfl
  | p :: ps => by
    rw [List.map_cons, PyData.depthAll, dep_ints ps]
    rfl
theorem shaped_ints (l : List Int) : SeqAt.shaped (.list (l.map PyData.int)) = true := by
  have e1 : PyData.canLay0 (.list (l.map PyData.int)) = true := lay_ints l
  have e2 : PyData.depth (.list (l.map PyData.int)) = 1 := by
    show PyData.depthAll (l.map PyData.int) + 1 = 1
    rw [dep_ints]
  simp only [SeqAt.shaped, e1, e2]
  decide
theorem eqv_ints : ∀ l r : List Int, PyData.eqvAll (l.map PyData.int) (r.map PyData.int) = decide (l = r)
  | [], [] => rfl
  | [], b :: r => rfl
  | a :: l, [] => rfl
  | a :: l, b :: r => by
    rw [List.map_cons, List.map_cons, PyData.eqvAll, eqv_ints l r]
    show ((a == b) && decide (l = r)) = _
    by_cases h1 : a = b
    · subst h1
      simp
    · simp [h1]
theorem eqB_ints {a b : Nat} {h : Hm} {l r : List Int} (ea : h[a]? = some (.lst (l.map D.int))) (eb : h[b]? = some (.lst (r.map D.int))) : eqB h (.ref a) (.ref b) = some (decide (l = r)) := by
  have h1 := toPy_ints ea
  have h2 := toPy_ints eb
  have h3 : SeqAt.shaped (.list (l.map PyData.int)) = true ∧ SeqAt.shaped (.list (r.map PyData.int)) = true := ⟨shaped_ints _, shaped_ints _⟩
  unfold eqB
  simp only [eqSc, h1, h2]
  rw [if_pos h3]
  show some (PyData.eqvAll _ _) = _
  rw [eqv_ints]
theorem eq_ints {a b : Nat} {h : Hm} {l r : List Int} (ea : h[a]? = some (.lst (l.map D.int))) (eb : h[b]? = some (.lst (r.map D.int))) : dEq (.ref a) (.ref b) h = .ok (.bl (decide (l = r))) h := by
  simp only [dEq, eqB_ints ea eb]
theorem ne_ints {a b : Nat} {h : Hm} {l r : List Int} (ea : h[a]? = some (.lst (l.map D.int))) (eb : h[b]? = some (.lst (r.map D.int))) : dNe (.ref a) (.ref b) h = .ok (.bl (!decide (l = r))) h := by
  simp only [dNe, eqB_ints ea eb]
theorem ints_ok {g : List Int → Option Int} {n : Nat} {h : Hm} {l : List Int} {i : Int} (e : h[n]? = some (.lst (l.map D.int))) (eg : g l = some i) : bInts g [.ref n] h = .ok (.int i) h := by
  simp only [bInts, e, intsD_map, eg]
end Sh

set_option Elab.async false
set_option linter.all false
set_option maxRecDepth 100000
set_option maxHeartbeats 4000000
/-! tuples: index of flat things; times an int. -/
namespace Sh
open PySem L2 PyProof.Rows PySem.Spec
section
variable {X : Cx}
def rIndexT (K : PySem.W.Frag) : V → List V → Hp → VK → Prop := fun x xs H Q => ∃ (a : Addr) (ys : List V) (y : V) (j : Nat) (z : V), x = V.ref a ∧ xs = [y] ∧ SqT K H a ys ∧ flatV y = true ∧ ys.all flatV = true ∧ ys[j]? = some z ∧ eqV z y = true ∧
  (∀ (m : Nat) (z' : V), m < j → ys[m]? = some z' → eqV z' y = false) ∧ Q (.int (j : Nat)) H
theorem mt_tindex : MtR X "tuple.index" (rIndexT X.K) := by
  intro pins s σ H x xs v us Q I rx rxs h
  obtain ⟨a, ys, y, j, z, rfl, rfl, hs, fy, fys, hz, hzj, hno, q⟩ := h
  cases rx
  cases rxs with
  | cons ry rt =>
    rename_i uy ut
    cases rt
    obtain ⟨its, rv, pl, hlen⟩ := I.tuple hs
    obtain ⟨⟨cls, dd, data, sl⟩, ho, hc, n, hd⟩ := pl
    simp only at hc hd
    subst hc hd
    obtain ⟨u, hu, ru⟩ := rv.get hz
    obtain ⟨hjl, hje⟩ := List.getElem?_eq_some_iff.mp hu
    have hvl := rv.length
    have hj : j < its.toArray.size := by simpa using hjl
    refine call_meets PySem.F.slot_tuple_index ⟨_, ho, rfl⟩ PySem.F.entry_tuple_index (PySem.F.args_tuple_index_2 _ _)
      (TI.tuple_indexAt a its.toArray n dd sl uy (eqU y) j hj ?_ ?_) ⟨ho, fun u' hu' => mem_eqAt ry fy rv fys u' (by simpa using hu'), ?_⟩
    · have e1 : its.toArray[j] = u := by simpa using hje
      rw [e1, eqU_of ru (flat_at fys hz)]
      exact hzj
    · intro m hm hmj
      have hml : m < its.length := by simpa using hm
      have hmy : m < ys.length := by omega
      have hy' : ys[m]? = some ys[m] := List.getElem?_eq_getElem hmy
      obtain ⟨u2, hu2, ru2⟩ := rv.get hy'
      obtain ⟨_, hme⟩ := List.getElem?_eq_some_iff.mp hu2
      have e1 : its.toArray[m] = u2 := by simpa using hme
      rw [e1, eqU_of ru2 (flat_at fys hy')]
      exact hno m _ hmj hy'
    · exact ⟨.int (j : Nat), H, I.tok _, ⟨_, rfl⟩, q⟩
/-- t.index(x), flat things, x there -/
def tIndex (xs ds : List D) (h : Hm) : RD := match ds with
  | [d] => if flatD d = true ∧ xs.all flatD = true then (match xs.findIdx? (fun z => eqF z d) with
    | some j => .ok (.int j) h
    | none => .bad) else .bad
  | _ => .bad
theorem ts_index : TmS X (rIndexT X.K) tIndex := by
  intro W m H h a xs us vs ds Q r ht l1 l2 p
  unfold tIndex at p
  split at p
  · rename_i d
    split at p
    · rename_i hf
      split at p
      · rename_i j hj
        cases l2 with
        | cons rv rn =>
          cases rn
          rename_i y
          obtain ⟨h1, h2, h3⟩ := List.findIdx?_eq_some_iff_getElem.mp hj
          obtain ⟨z, e1, e2⟩ := l1.get (List.getElem?_eq_getElem h1)
          refine ⟨a, us, y, j, z, rfl, rfl, ht.sqT, flat_rep rv hf.1, flat_repL l1 hf.2, e1, by rw [eqF_rep e2 rv]; exact h2, fun i z' hi hz' => ?_, p.val r (.int _)⟩
          obtain ⟨d', e3, e4⟩ := l1.get' hz'
          rw [eqF_rep e4 rv]
          obtain ⟨h5, h6⟩ := List.getElem?_eq_some_iff.mp e3
          rw [← h6]
          simpa using h3 i hi
      · exact False.elim p
    · exact False.elim p
  · exact False.elim p
/-! a tuple times an int from 1 on -/
theorem tuple_mul1 (l : Addr) (items : Array Value) (n : Nat) (dd : Option Addr) (sl : Array (Option Value)) (x : Int) (u : Tok) (c0 : (decide (x < -(2 ^ 63)) || decide (x ≥ 2 ^ 63)) = false) (c1 : (items.isEmpty || x == 1) = true) :
    Meets (Builtin.«tuple.__mul__» ⟨[.ref l, .int x u], []⟩) (fun _ R s => s.heap.get? l = some { cls := .type "tuple", dict := dd, data := .seq items n, slots := sl } ∧ R (.ok (.ret (Value.ref l))) s) :=
  .of_wp fun prog w A R s h => by
    obtain ⟨hp, g, d, tk, os⟩ := s
    obtain ⟨hl, h⟩ := h
    have f1 := AutoSeq1.idx_int
    wp_walk using wpAny_loadPart' hl
    repeat (first
      | (refine wpAny_ite_false (decide_eq_false (by rw [c0]; exact Bool.false_ne_true)) ?_; wp_walk using wpAny_loadPart' hl)
      | (refine wpAny_ite_true (decide_eq_true c1) ?_; wp_walk using wpAny_loadPart' hl))
    exact ⟨_, rfl, h⟩
def rRepTF (K : PySem.W.Frag) : R2 := fun x y H Q => ∃ l k xs, x = .ref l ∧ y = .int k ∧ SqT K H l xs ∧ xs ≠ [] ∧ 1 ≤ k ∧ k ≤ 1000 ∧ xs.length ≤ 1000 ∧ (k = 1 → Q (.ref l) H) ∧ (k ≠ 1 → rTupF (List.replicate k.toNat xs).flatten H Q)
theorem op_repTF : OpR X (binaryOp .Mult) (rRepTF X.K) := by
  intro pins s σ H x y v u Q I rx ry h
  obtain ⟨l, k, xs, rfl, rfl, hT, hne, h1, h2, hz, q1, q2⟩ := h
  cases rx
  obtain ⟨t, rfl⟩ := ry
  obtain ⟨its, r, ⟨⟨cls, dd, data, sl⟩, ho, hc, n, hd⟩, hs⟩ := I.tuple hT
  simp only at hc hd
  subst hc hd
  have hle : its.length = xs.length := r.length.symm
  have hn : its ≠ [] := fun e => hne (by
    rw [e] at hle
    exact List.eq_nil_of_length_eq_zero hle.symm)
  have hi : its.toArray.isEmpty = false := by
    cases its with
    | nil => exact absurd rfl hn
    | cons a b => rfl
  have hsz0 : its.toArray.size = xs.length := by rw [List.size_toArray, hle]
  have hm : ((its.toArray.size : Nat) : Int) * k ≤ 1000000 := by
    rw [hsz0]
    have a1 : ((xs.length : Nat) : Int) * k ≤ 1000 * k := Int.mul_le_mul_of_nonneg_right (by omega) (by omega)
    omega
  have flen : (List.replicate k.toNat its).flatten.length ≤ sizeLine := by
    rw [PyProof.Rows.lm_len_rep_flat, hle, sizeLine_eq]
    have a1 : k.toNat * xs.length ≤ 1000 * 1000 := Nat.mul_le_mul (by omega) hz
    omega
  have c0 : (decide (k < -(2 ^ 63)) || decide (k ≥ 2 ^ 63)) = false := by
    rw [decide_eq_false (by omega), decide_eq_false (by omega)] <;> rfl
  by_cases hk : k = 1
  · have c1 : (its.toArray.isEmpty || k == 1) = true := by
      rw [hi, Bool.false_or]
      exact beq_iff_eq.mpr hk
    refine wpAny_binaryOp_repeat_ref (T := "tuple") (U := "int") (by decide) ⟨_, ho, rfl⟩ (fun s' => typeIs_int s' k t) noFill_tuple_mul F.fills_int_mul F.slot_int_rmul repeat_tuple F.slot_int_index.lookup
      (call_meets F.slot_int_rmul (typeIs_int s k t) F.entry_int_rmul (F.args_int_rmul_2 _ _) (int_rmul_tuple k t l its.toArray n dd sl)
        ⟨ho, rfl, ⟨_, ho, rfl⟩, call_meets F.slot_tuple_mul ⟨_, ho, rfl⟩ F.entry_tuple_mul (F.args_tuple_mul_2 _ _) (tuple_mul1 l its.toArray n dd sl k t c0 c1) ⟨ho, ?_⟩⟩)
    exact ⟨.ref l, H, I, rfl, q1 hk⟩
  · have c1 : (its.toArray.isEmpty || k == 1) = false := by
      rw [hi, Bool.false_or]
      exact beq_eq_false_iff_ne.mpr hk
    have c2 : (decide (k ≤ 0) || its.toArray.isEmpty) = false := by
      rw [hi, Bool.or_false]
      exact decide_eq_false (by omega)
    have c4 : Builtin.Tuple.tupleTooMany (((its.toArray.size : Nat) : Int) * k) = false := by
      unfold Builtin.Tuple.tupleTooMany
      rw [sizeLine_eq]
      exact decide_eq_false (by omega)
    refine wpAny_binaryOp_repeat_ref (T := "tuple") (U := "int") (by decide) ⟨_, ho, rfl⟩ (fun s' => typeIs_int s' k t) noFill_tuple_mul F.fills_int_mul F.slot_int_rmul repeat_tuple F.slot_int_index.lookup
      (call_meets F.slot_int_rmul (typeIs_int s k t) F.entry_int_rmul (F.args_int_rmul_2 _ _) (int_rmul_tuple k t l its.toArray n dd sl)
        ⟨ho, rfl, ⟨_, ho, rfl⟩, call_meets F.slot_tuple_mul ⟨_, ho, rfl⟩ F.entry_tuple_mul (F.args_tuple_mul_2 _ _) (tuple_mulW l its.toArray n dd sl k t c0 c1 c2 (by omega) c4 (by rw [size_rep, List.size_toArray]; exact flen)) ⟨ho, ?_⟩⟩)
    rw [size_rep]
    have flen2 : (List.replicate k.toNat xs).flatten.length ≤ sizeLine := by
      rw [PyProof.Rows.lm_len_rep_flat, sizeLine_eq]
      have a1 : k.toNat * xs.length ≤ 1000 * 1000 := Nat.mul_le_mul (by omega) hz
      omega
    exact ⟨.ref s.heap.objs.size, _, Inv.tupF I (r.rep k.toNat) flen2 s.toks, rfl, q2 hk _ _ (I.hok.fresh (Nat.le_refl _)) rfl⟩
def dMulT (x y : D) (h : Hm) : RD := match x, y with
  | .tup xs, .int k => if xs ≠ [] ∧ 1 ≤ k ∧ k ≤ 1000 ∧ xs.length ≤ 1000 then .ok (.tup (List.replicate k.toNat xs).flatten) h else .bad
  | _, _ => .bad
theorem os_mulT : OpS X (rRepTF X.K) dMulT := by
  intro W m H h x y dx dy Q r rx ry p
  unfold dMulT at p
  split at p
  · rename_i xs k
    split at p
    · rename_i hc
      obtain ⟨a, vs, rfl, t, l⟩ := rx.tup_inv
      cases ry
      have e1 := l.length
      refine ⟨a, k, vs, rfl, rfl, t.sqT, ?_, hc.2.1, hc.2.2.1, by omega, fun hk => ?_, fun hk q o hq ho => PostE.tup p r (l.flat _) q o hq ho⟩
      · intro z
        rw [z] at e1
        exact hc.1 (List.eq_nil_of_length_eq_zero e1.symm)
      · subst hk
        have e : (List.replicate (1 : Int).toNat xs).flatten = xs := by simp
        rw [e] at p
        exact p.val r rx
    · exact False.elim p
  · exact False.elim p
/-! a comprehension within another one -/
def relabelS (scope sc : Scope) : Scope := { scope with names := scope.names.map fun (n, k) => if (k == .free && sc.kind == .function && sc.names.lookup n == some .cell) then (n, .cell) else (n, k) }
theorem blk_nest {X : Cx} {s : Shared} {H : Hp} {sc1 scope : Scope} {cl : List (Str × Addr)} {C : Addr} {fp : List Addr} {N : List Str} {own : List (Str × Nat)} (D : Scope) (hD : X.env.scope = D) (ok : BlkOk N (relabelS sc1 D) scope own) :
    BlkOk N (X.blk s H sc1 (compEnvC sc1 cl C X.env) fp).env.scope scope own := by
  subst hD
  exact ok
end
end Sh

set_option Elab.async false
set_option linter.all false
set_option maxRecDepth 100000
set_option maxHeartbeats 4000000
/-! Exceptions with a field: class X(B) with def __init__(self, f): B.__init__(self, 'text'); self.f = f, where B has no __init__ of its own. -/
namespace Sh
open PySem L2 PyProof.Rows
/-! B.__init__(self, ..) -/
section
variable {X : Cx} {e : Expr} {es : List Expr} {ta : TA} {x : Str} {C0 : Addr} {p1 p2 pos : Pos}
theorem pe_binit {pl : Sem Bool} (hg : Gl X x) (gC : X.mg x = some (.ref C0)) (r : ClX.CRead X.K C0 (.type "type")) (vV : PySem.W.findCls X.K (.ref C0) (.type "type") "__init__" = some (.val (.builtin "ValueError.__init__"))) (ha : PA X (e :: es) ta)
    (hdb : (x == ("__debug__" : Str)) = false := by decide)
    (hc : eval (.Call (.Attribute (.Name x p1) "__init__" p2) (e :: es) [] pos) X.env = (do
      let ov ← eval (.Name x p1) X.env
      standAt p2.atName
      let (f, first) ← holding [ov] (getMethod ov "__init__" pl)
      callWith pos f first (backTo pos (starEach (e :: es) X.env)) (backToKw pos (keywordEach [] X.env))) := by rfl)
    (he : starEach (e :: es) X.env = (false, eval e X.env) :: starEach es X.env := by rfl) (hpl : (backTo pos (starEach es X.env)).any (·.1) = false := by rfl) :
    PE X (.Call (.Attribute (.Name x p1) "__init__" p2) (e :: es) [] pos) (tVeI X.K ta) := by
  refine ⟨fun pins s σ H Q I h => ?_⟩
  refine PySem.W.methodCall_KW (ld_glob I hg gC ?_ hdb) hc
  refine PySem.W.method_cls I.kIn r.ga (PySem.W.cls_value I.kIn r.rd vV (by decide +kernel) ?_)
  show wpAny _ _ (callWith pos (Value.builtin "ValueError.__init__") [] (backTo pos (starEach (e :: es) X.env)) []) _ _ _
  refine PyProof.Rows.callWith_method1 (thn (ha.run pos pins _ σ H _ (I.tok _) h) fun us s1 ⟨vs, H1, I1, r1, a, C, ws, ev, hl, T, ea, q⟩ => ?_) he hpl
  subst ev
  cases r1 with
  | @cons _ u0 _ ur ra rw' =>
    obtain rfl : u0 = Value.ref a := ra
    have hlen : ur.length ≤ sizeLine := by
      rw [← Paired.length rw', sizeLine_eq]
      omega
    exact oinit_ok T I1 ea hlen fun s' J => ⟨.non, H1, J, rfl, q⟩
end
/-- what __init__ of such a class does -/
def spF1 (K : PySem.W.Frag) (f : Str) : Sp := fun vs H Q _ => ∃ (a C : Addr) (v : V), vs = [.ref a, v] ∧ OexC K C ∧ PySem.W.findIn K (.ref C) f = some none ∧ H a = some (exo a C none) ∧
  ∀ dx, H dx = none → dx ≠ a → Q .non (upd (upd H dx (exd dx [(f, v)])) a (exo a C (some dx)))
/-- the class, as the written part tells it -/
structure FldC (X : Cx) (x f : Str) (C fI : Addr) (fd : FuncData) (ps : List Str) (k : Nat) : Prop where
  gC : X.mg x = some (.ref C)
  ox : OexC X.K C
  no : PySem.W.findIn X.K (.ref C) f = some none
  iC : PySem.W.findIn X.K (.ref C) "__init__" = some (some (.ref fI))
  tI : PySem.W.typeIn X.K (.ref fI) = some (.type "function")
  b : Binds X.K fd ps []
  F : FnOk X.prog X.w X.K X.mg X.base (L2.CX X.prog X.w) k fI fd ps (spF1 X.K f)
section
variable {X : Cx} {W : WX} {e : Expr} {fe : FE} {x f : Str} {C fI : Addr} {fd : FuncData} {ps : List Str} {k : Nat} {p pos pos' : Pos} {te : TE}
theorem pmk_fld (T : FldC X x f C fI fd ps k) (hr : Room (k + 1) X.A) (tk0 : Passes (L2.CX X.prog X.w) X (fun _ _ _ => False)) (hg : Gl X x) (he : SE X W e fe)
    (hdb : (x == ("__debug__" : Str)) = false := by decide) (h1 : starEach [e] X.env = (false, eval e X.env) :: starEach [] X.env := by rfl) (hpl : (backTo pos (starEach [] X.env)).any (·.1) = false := by rfl) :
    PMk X (.Call (.Name x p) [e] [] pos) (fun σ H Q => tS X.K X.mg W fe σ H fun v H1 => ∀ d, H1 d = none → Q (.ref C) (some d) (upd H1 d (.xd [(f, v)]))) := by
  intro pins s σ H Q I h
  refine pmk_oex (sp := spF1 X.K f) (ds := []) (dvs := []) T.ox T.iC T.tI T.F hr T.b .nil tk0 hg T.gC (pa_cons he pa_nil h1) hdb h1 hpl pins s σ H Q I ?_
  obtain ⟨m, sd, hm, R0, rs, q⟩ := h
  refine ⟨m, sd, hm, R0, rs, PostE.mono q ?_⟩
  intro v H1 q1
  refine ⟨by show 1 ≤ 1000; decide, fun a ha => ⟨a, C, v, rfl, T.ox, T.no, upd_same, fun dx hdx hne => ⟨rfl, dx, [(f, v)], upd_same, ?_, ?_, ?_⟩⟩⟩
  · rw [upd_ne hne, upd_same]
  · rw [← hdx, upd_ne hne]
  · have hH : H1 dx = none := by rw [← hdx, upd_ne hne]
    have : upd (del (upd (upd (upd H1 a (exo a C none)) dx (exd dx [(f, v)])) a (exo a C (some dx))) a) dx (.xd [(f, v)]) = upd H1 dx (.xd [(f, v)]) := by
      funext b
      by_cases hb : b = dx
      · rw [hb, upd_same, upd_same]
      · rw [upd_ne hb, upd_ne hb]
        by_cases hba : b = a
        · rw [hba, del_same, ha]
        · rw [del_ne hba, upd_ne hba, upd_ne hb, upd_ne hba]
    rw [this]
    exact q1 dx hH
/-- raise X(e) -/
def gRaiseF (c f : Str) (fe : FE) : FS := fun s h => match fe s h with
  | .ok d h' => .exc c [(f, d)] s h'
  | .exc c' fs h' => .exc c' fs s h'
  | .bad => .bad
theorem ss_raiseF (hc : X.calm = true) (tk : Takes X W) (T : FldC X x f C fI fd ps k) (hr : Room (k + 1) X.A) (tk0 : Passes (L2.CX X.prog X.w) X (fun _ _ _ => False)) (hg : Gl X x) (he : SE X W e fe) (hdb : (x == ("__debug__" : Str)) = false := by decide)
    (h1 : starEach [e] X.env = (false, eval e X.env) :: starEach [] X.env := by rfl) (hpl : (backTo pos' (starEach [] X.env)).any (·.1) = false := by rfl) : SS X W (.Raise (some (.Call (.Name x p) [e] [] pos')) none pos) (gRaiseF x f fe) := by
  refine PS.imp (ps_raise hc tk (pmk_fld T hr tk0 hg he hdb h1 hpl)) fun D σ H h => ?_
  obtain ⟨m, s, h, R0, rs, q⟩ := h
  refine ⟨m, s, h, R0, rs, ?_⟩
  unfold gRaiseF at q
  generalize fe s h = r at q
  cases r with
  | ok d h' =>
    intro m' H' v g R' rv dx hdx
    have g2 : Grow m' H' m' (upd H' dx (.xd [(f, v)])) := Grow.new hdx
    exact q m' (upd H' dx (.xd [(f, v)])) σ (.ref C) (some dx) (g.trans g2) (R'.tup hdx) (rs.grow (g.trans g2)) ⟨C, T.gC, rfl, fun _ => ⟨dx, _, rfl, upd_same, .cons ⟨rfl, rv.grow g2⟩ .nil⟩⟩
  | exc c fs h' =>
    intro m' H' cls dx g R' ex
    exact q m' H' σ cls dx g R' (rs.grow g) ex
  | bad => exact q
end
/-! the __init__ -/
section
variable {P : Program} {w : World} {K : PySem.W.Frag} {mg : Str → Option Value} {base : Heap} {qual f msg : Str} {st : Stmt} {fI : Addr} {fd : FuncData} {k : Nat} {N : List Str}
theorem okF1 (hN : N.length = 2) (Fu : Fun K "__init__" qual st fI fd) (S : FnScope N N (defScope st))
    (hb : ∀ (cdv : Value) (A : Around) (outer : List Env) (s : Shared) (H : Hp) (E : XK), Room k (A.deeper (envOfC qual (defScope st) s.heap.objs.size fI cdv)) →
      PSs (cxOf (L2.CX P w) P w K mg base N qual (defScope st) fI cdv A outer s H E) (defBody st) (tSeq (tDrop (tVeI K (tCons (tVar 0) (tCons (tC (.str msg)) tNil)))) (tOst K f (tVar 0) (tVar 1)))) :
    FnOk P w K mg base (L2.CX P w) (k + 1) fI fd N (spF1 K f) := by
  refine Fu.okX S (fun vs H Q E h => ?_) fun cdv A outer s H vs Q E hr h => ⟨_, hb cdv A outer s H E hr, ?_⟩
  · obtain ⟨a, C, v, rfl, _⟩ := h
    exact hN.symm
  · obtain ⟨a, C, v, rfl, ox, no, ea, q⟩ := h
    refine ⟨.ref a, ?_, a, C, [.str msg], rfl, by simp, ox, ea, v, ?_, .ref a, ?_, a, C, rfl, ox, no, .inl ⟨ea, fun dx n ne => q dx n ne⟩⟩ <;>
    · match N, hN with
      | [x, y], _ => rfl
end
/-! try .. except X as e: y = e.f; y = (word, e.f) -/
def gTryF (l : SubT) (gb : FS) (x : Str) (k : List (Str × D) → FS) : FS := fun s h => match gb s h with
  | .exc c fs s' h' => (match subT l c x with
    | some true => if c = x then k fs s' h' else .bad
    | some false => .exc c fs s' h'
    | none => .bad)
  | r => r
/-- the suite: i the slot of e, j the slot of y -/
def gXfA (i j : Nat) (f : Str) (mk : D → D) (fs : List (Str × D)) : FS := fun s h => if i < s.length then (match fs.lookup f with
  | some d => .nx ((s.set i none).set j (some (mk d))) h
  | none => .bad) else .bad
theorem set_three {σ : L2.St} {i j : Nat} (hij : i ≠ j) (x y : Option V) : ((σ.set i x).set j y).set i none = (σ.set i none).set j y := by
  rw [List.set_comm _ _ hij, List.set_set, List.set_comm _ _ hij]
section
variable {X : Cx} {W : WX} {body : List Stmt} {gb : FS} {x f n y w : Str} {C : Addr} {i j : Nat} {np nq py pe_ spos pos pos' tpos : Pos} {l : SubT} {cj tj : Nat}
theorem ss_tryF (hst : X.stack = X.env :: X.outer) (hf : X.env.frame = some X.env.locals) (hN : X.N.Nodup) (hi : X.N[i]? = some n) (hj : X.N[j]? = some y) (hij : i ≠ j) (hln : X.env.kindOf n = some .local) (hg : Gl X x) (gC : X.mg x = some (.ref C)) (tk : Takes X W) (S : SubOk X.K X.mg l)
    (T : XfC X.K C) (hno : PySem.W.findIn X.K (.ref C) f = some none)
    (hb : ∀ (W : WX) (pn : List (Addr × Obj)) (xe : Value → Shared → Prop), Takes (X.tr pn xe) W → PassesOwn (model X.prog X.w) X.A X.env xe → SSs (X.tr pn xe) W body gb)
    (hv : ∀ (a : Addr) (oe : Obj) (pn : List (Addr × Obj)), PE (X.suite a ((a, oe) :: pn)) (.Name n nq) (tVar i))
    (hat : ∀ (a : Addr) (oe : Obj) (pn : List (Addr × Obj)), attributeBase (.Name n nq) f (X.suite a ((a, oe) :: pn)).env (eval (.Name n nq) (X.suite a ((a, oe) :: pn)).env) = eval (.Name n nq) (X.suite a ((a, oe) :: pn)).env := by intros; rfl)
    (hset : ∀ (a : Addr) (oe : Obj) (pn : List (Addr × Obj)) (te : TE), PE (X.suite a ((a, oe) :: pn)) (.Attribute (.Name n nq) f pe_) te → PS (X.suite a ((a, oe) :: pn)) (.Assign [.Name y py] (.Attribute (.Name n nq) f pe_) spos) (tAsg te (gName j)))
    (hdb : (x == ("__debug__" : Str)) = false := by decide) :
    SS X W (.Try body [.ExceptHandler (some (.Name x np)) (some n) [.Assign [.Name y py] (.Attribute (.Name n nq) f pe_) spos] pos'] [] [] pos) (gTryF l gb x (gXfA i j f id)) := by
  refine PS.imp (ps_try_as (i := i) (c := .ref C) (tb := fun W => tSS X.K X.mg W gb) (ts := fun a cls d => tAsg (tXf a cls d C f (tVar i)) (gName j)) hst hf hN hi hln ⟨hg, hdb, .inl gC⟩ tk hb (fun a oe cls d pn hz hd => pss_one (hset a oe pn _ (pe_xf T hno hz hd (hv a oe pn) (hat a oe pn))))) fun D σ H h => ?_
  obtain ⟨m, s, h, R0, rs, p⟩ := h
  refine ⟨m, s, h, R0, rs, ?_⟩
  unfold gTryF at p
  generalize gb s h = r at p
  cases r with
  | exc c fs s' h' =>
    intro m' H' σ' cls dx g R' rs' ex
    obtain ⟨Cc, e1, e2, e3⟩ := id ex
    dsimp only at p
    split at p
    · rename_i hb
      split at p
      · rename_i hc
        subst hc
        refine ⟨true, by rw [e2]; exact subT_ok S hb e1 gC, fun _ a ha => ?_, fun z => Bool.noConfusion z⟩
        unfold gXfA at p
        split at p
        case isFalse => exact False.elim p
        rename_i hil
        split at p
        · rename_i d hd
          have hne : fs ≠ [] := by rintro rfl; cases hd
          obtain ⟨dd, fv, ed, eH, rf⟩ := e3 hne
          obtain ⟨v, hv1, rv⟩ := (RepF.look rf).1 _ hd
          have hCC : Cc = C := by rw [e1] at gC; cases gC; rfl
          subst hCC
          refine ⟨.ref a, ?_, rfl, e2, dd, fv, v, ed, eH, hv1, ?_⟩
          · exact List.getElem?_set_self (by rw [rs'.1]; exact hil)
          · show D.nx (((σ'.set i (some (.ref a))).set j (some v)).set i none) H'
            rw [set_three hij]
            exact p m' H' _ g R' ((rs'.clr i).set j rv)
        · exact False.elim p
      · exact False.elim p
    · rename_i hb
      exact ⟨false, by rw [e2]; exact subT_ok S hb e1 gC, fun z => Bool.noConfusion z, fun _ => p m' H' σ' cls dx g R' rs' ex⟩
    · exact False.elim p
  | nx s h => exact p
  | bk s h => exact p
  | ct s h => exact p
  | rt d h => exact p
  | bad => exact p
variable {cp : Pos}
theorem ss_tryF2 (hst : X.stack = X.env :: X.outer) (hf : X.env.frame = some X.env.locals) (hN : X.N.Nodup) (hi : X.N[i]? = some n) (hj : X.N[j]? = some y) (hij : i ≠ j) (hln : X.env.kindOf n = some .local) (hg : Gl X x) (gC : X.mg x = some (.ref C)) (tk : Takes X W) (S : SubOk X.K X.mg l)
    (T : XfC X.K C) (hno : PySem.W.findIn X.K (.ref C) f = some none)
    (hb : ∀ (W : WX) (pn : List (Addr × Obj)) (xe : Value → Shared → Prop), Takes (X.tr pn xe) W → PassesOwn (model X.prog X.w) X.A X.env xe → SSs (X.tr pn xe) W body gb)
    (hv : ∀ (a : Addr) (oe : Obj) (pn : List (Addr × Obj)), PE (X.suite a ((a, oe) :: pn)) (.Name n nq) (tVar i))
    (hat : ∀ (a : Addr) (oe : Obj) (pn : List (Addr × Obj)), attributeBase (.Name n nq) f (X.suite a ((a, oe) :: pn)).env (eval (.Name n nq) (X.suite a ((a, oe) :: pn)).env) = eval (.Name n nq) (X.suite a ((a, oe) :: pn)).env := by intros; rfl)
    (hset : ∀ (a : Addr) (oe : Obj) (pn : List (Addr × Obj)) (te : TE), PE (X.suite a ((a, oe) :: pn)) (.Attribute (.Name n nq) f pe_) te → PS (X.suite a ((a, oe) :: pn)) (.Assign [.Name y py] (.Tuple [.Constant (.str w) cj cp, .Attribute (.Name n nq) f pe_] tj tpos) spos) (tAsg (tTupF (tCons (tC (.str w)) (tCons te tNil))) (gName j)))
    (hdb : (x == ("__debug__" : Str)) = false := by decide) :
    SS X W (.Try body [.ExceptHandler (some (.Name x np)) (some n) [.Assign [.Name y py] (.Tuple [.Constant (.str w) cj cp, .Attribute (.Name n nq) f pe_] tj tpos) spos] pos'] [] [] pos) (gTryF l gb x (gXfA i j f fun d => .tup [.str w, d])) := by
  refine PS.imp (ps_try_as (i := i) (c := .ref C) (tb := fun W => tSS X.K X.mg W gb) (ts := fun a cls d => tAsg (tTupF (tCons (tC (.str w)) (tCons (tXf a cls d C f (tVar i)) tNil))) (gName j)) hst hf hN hi hln ⟨hg, hdb, .inl gC⟩ tk hb (fun a oe cls d pn hz hd => pss_one (hset a oe pn _ (pe_xf T hno hz hd (hv a oe pn) (hat a oe pn))))) fun D σ H h => ?_
  obtain ⟨m, s, h, R0, rs, p⟩ := h
  refine ⟨m, s, h, R0, rs, ?_⟩
  unfold gTryF at p
  generalize gb s h = r at p
  cases r with
  | exc c fs s' h' =>
    intro m' H' σ' cls dx g R' rs' ex
    obtain ⟨Cc, e1, e2, e3⟩ := id ex
    dsimp only at p
    split at p
    · rename_i hb
      split at p
      · rename_i hc
        subst hc
        refine ⟨true, by rw [e2]; exact subT_ok S hb e1 gC, fun _ a ha => ?_, fun z => Bool.noConfusion z⟩
        unfold gXfA at p
        split at p
        case isFalse => exact False.elim p
        rename_i hil
        split at p
        · rename_i d hd
          have hne : fs ≠ [] := by rintro rfl; cases hd
          obtain ⟨dd, fv, ed, eH, rf⟩ := e3 hne
          obtain ⟨v, hv1, rv⟩ := (RepF.look rf).1 _ hd
          have hCC : Cc = C := by rw [e1] at gC; cases gC; rfl
          subst hCC
          refine ⟨.ref a, ?_, rfl, e2, dd, fv, v, ed, eH, hv1, ?_, ?_⟩
          · exact List.getElem?_set_self (by rw [rs'.1]; exact hil)
          · rw [sizeLine_eq]; simp
          · intro q o hq ho
            show D.nx (((σ'.set i (some (.ref a))).set j (some (.ref q))).set i none) (upd H' q (.frz o (.tup [.str w, v])))
            rw [set_three hij]
            have g2 : Grow m' H' m' (upd H' q (.frz o (.tup [.str w, v]))) := Grow.new hq
            exact p m' _ _ (g.trans g2) (R'.tup hq) (((rs'.grow g2).clr i).set j (.tup (.inl ⟨o, upd_same, ho⟩) (.cons (.str w) (.cons (rv.grow g2) .nil))))
        · exact False.elim p
      · exact False.elim p
    · rename_i hb
      exact ⟨false, by rw [e2]; exact subT_ok S hb e1 gC, fun z => Bool.noConfusion z, fun _ => p m' H' σ' cls dx g R' rs' ex⟩
    · exact False.elim p
  | nx s h => exact p
  | bk s h => exact p
  | ct s h => exact p
  | rt d h => exact p
  | bad => exact p
end
/-! what gen.py writes -/
structure FldAt (K : PySem.W.Frag) (mg : Str → Option Value) (x b f qual : Str) (st : Stmt) (ps : List Str) where
  C : Addr
  C0 : Addr
  fI : Addr
  fd : FuncData
  g : mg x = some (.ref C)
  g0 : mg b = some (.ref C0)
  ox : OexC K C
  no : PySem.W.findIn K (.ref C) f = some none
  xf : XfC K C
  iC : PySem.W.findIn K (.ref C) "__init__" = some (some (.ref fI))
  tI : PySem.W.typeIn K (.ref fI) = some (.type "function")
  fn : Fun K "__init__" qual st fI fd
  bi : Binds K fd ps []
  r0 : ClX.CRead K C0 (.type "type")
  v0 : PySem.W.findCls K (.ref C0) (.type "type") "__init__" = some (.val (.builtin "ValueError.__init__"))
theorem FldAt.t {X : Cx} {x b f qual : Str} {st : Stmt} {ps : List Str} (T : FldAt X.K X.mg x b f qual st ps) {k : Nat} (F : FnOk X.prog X.w X.K X.mg X.base (L2.CX X.prog X.w) k T.fI T.fd ps (spF1 X.K f)) : FldC X x f T.C T.fI T.fd ps k :=
  ⟨T.g, T.ox, T.no, T.iC, T.tI, T.bi, F⟩
theorem pass00 {X : Cx} : Passes (L2.CX X.prog X.w) X (fun _ _ _ => False) := fun pins σ H s e s' I c => passAt (W := W0) takesW0 σ pins H s e s' I c
end Sh

set_option Elab.async false
set_option linter.all false
set_option maxRecDepth 100000
set_option maxHeartbeats 4000000
/-! {k: v for x in xs if ..} -/
namespace Sh
open PySem L2 PyProof.Rows
/-- the new dict stands at n -/
def dcLoop (ck : Option (Nat × List D)) (gt : GT) (ft fk fe : FE) (n : Nat) (s0 : DS) : List D → Hm → RD
  | [], h => if chkB ck h = true then .ok (.ref n) h else .bad
  | x :: xs, h => if chkB ck h = true then (match gt x s0 h with
    | .nx s1 h1 => (match ft s1 h1 with
      | .ok (.bl true) h2 => (match fk s1 h2 with
        | .ok y h3 => (match fe s1 h3 with
          | .ok d h4 => (match keyD y, h4[n]? with
            | some k, some (.dk acc) => if acc.length < big then dcLoop ck gt ft fk fe n s0 xs (h4.set n (.dk (putKD acc k d))) else .bad
            | _, _ => .bad)
          | _ => .bad)
        | _ => .bad)
      | .ok (.bl false) h2 => dcLoop ck gt ft fk fe n s0 xs h2
      | _ => .bad)
    | _ => .bad) else .bad
def eDc (fi : FI) (gt : GT) (ft fk fe : FE) (own : List Nat) : FE := fun s h => match fi s h with
  | .ok xs ck h1 => dcLoop ck gt ft fk fe h1.length (wipeD s own) xs (h1 ++ [.dk []])
  | .exc c fs h1 => .exc c fs h1
  | .bad => .bad
section
variable {X : Cx} {W : WX}
theorem dc_ok {wi : TI} {fi : FI} {gt : GT} {ft fk fe : FE} {vs own : List Nat} {wk : Bool} (hv : ∀ i ∈ vs, i ∈ own) {σ : L2.St} {H : Hp} {Q : VK} (h : tS X.K X.mg W (eDc fi gt ft fk fe own) σ H Q) :
    tDc (tSI X.K X.mg W wk fi) (tSG X.K X.mg wk vs gt) (tST X.K X.mg W0 ft) (tS X.K X.mg W0 fk) (tS X.K X.mg W0 fe) own σ H Q := by
  obtain ⟨m, s, h, R0, rs, p⟩ := h
  refine ⟨m, s, h, R0, rs, ?_⟩
  unfold eDc at p
  generalize fi s h = r at p
  cases r with
  | exc c fs h1 => exact p
  | bad => exact p
  | ok xs ck h1 =>
    intro m1 H1 J g1 R1 wd Dn hD
    replace p := PostE.grow (show PostE X.K X.mg (fun c d H' => W c d σ H') m H (dcLoop ck gt ft fk fe h1.length (wipeD s own) xs (h1 ++ [.dk []])) Q from p) g1
    have gN : Grow m1 H1 (m1 ++ [Dn]) (upd H1 Dn (.dK [])) := Grow.newr hD
    have RN : R X.K X.mg (m1 ++ [Dn]) (upd H1 Dn (.dK [])) (h1 ++ [.dk []]) := R1.new hD ⟨[], upd_same, .nil⟩
    have nN : (m1 ++ [Dn])[h1.length]? = some Dn := R1.newAt
    generalize h1.length = n at p nN
    generalize h1 ++ [O.dk []] = hN at p RN
    generalize m1 ++ [Dn] = mN at gN RN nN
    generalize hHN : upd H1 Dn (.dK []) = HN at gN RN
    let Wk : Nat → Hp → Prop := fun i H => ∃ m h, Grow mN HN m H ∧ R X.K X.mg m H h ∧ PostE X.K X.mg (fun c d H' => W c d σ H') m H (dcLoop ck gt ft fk fe n (wipeD s own) (xs.drop i) h) Q
    refine ⟨fun i k H => k = xs.length - i ∧ i ≤ xs.length ∧ Wk i H, ⟨xs.length, by simp, Nat.zero_le _, mN, hN, Grow.refl _ _, RN, PostE.grow p gN⟩, ?_⟩
    rintro i k H2 ⟨rfl, hi, m2, h2, g2, R2, p2⟩
    by_cases hlt : i < xs.length
    case neg =>
      have e : i = xs.length := by omega
      subst e
      rw [List.drop_length] at p2
      unfold dcLoop at p2
      split at p2
      case isFalse => exact False.elim p2
      rename_i hck
      exact .inl ⟨(wd _ m2 H2 h2 (gN.trans g2) R2 hck).2 (Nat.le_refl _), p2 m2 H2 _ (Grow.refl _ _) R2 (.ref (g2.loc _ _ nN))⟩
    rw [List.drop_eq_getElem_cons hlt] at p2
    unfold dcLoop at p2
    split at p2
    case isFalse => exact False.elim p2
    rename_i hck
    obtain ⟨hgo, hyl⟩ := (wd i m2 H2 h2 (gN.trans g2) R2 hck).1 xs[i] (List.getElem?_eq_getElem hlt)
    refine .inr ⟨hgo, Wk (i + 1), fun H' q => ⟨xs.length - (i + 1), by omega, rfl, hlt, q⟩, fun v H3 hy => ?_⟩
    obtain ⟨g3, R3, rep⟩ := hyl v H3 hy
    refine ⟨m2, wipeD s own, h2, xs[i], R3, ((rs.grow (g1.trans (gN.trans (g2.trans g3)))).wipe own), rep, ?_⟩
    generalize gt xs[i] (wipeD s own) h2 = q at p2
    cases q
    case nx s4 h4 =>
      intro m4 H4 σ4 g4 R4 rs4 hw
      refine ⟨(hw own hv).trans wipe_wipe, m4, s4, h4, R4, rs4, ?_⟩
      replace p2 := PostE.grow p2 (g3.trans g4)
      have gg := g2.trans (g3.trans g4)
      try dsimp only at p2
      generalize ft s4 h4 = q2 at p2
      cases q2
      case ok d h5 =>
        cases d
        case bl b =>
          intro m5 H5 g5 R5
          replace p2 := PostE.grow p2 g5
          cases b
          case false => exact iteF ⟨m5, h5, gg.trans g5, R5, p2⟩
          case true =>
            refine iteT ⟨m5, s4, h5, R5, rs4.grow g5, ?_⟩
            try dsimp only at p2
            generalize fk s4 h5 = q3 at p2
            cases q3
            case ok y h6 =>
              intro m6 H6 y6 g6 R6 repy
              replace p2 := PostE.grow p2 g6
              try dsimp only at p2
              refine ⟨m6, s4, h6, R6, (rs4.grow g5).grow g6, ?_⟩
              generalize fe s4 h6 = q4 at p2
              cases q4
              case ok dv h7 =>
                intro m7 H7 v7 g7 R7 repv
                replace p2 := PostE.grow p2 g7
                try dsimp only at p2
                split at p2
                case h_2 => exact False.elim p2
                rename_i k acc hk hn
                split at p2
                case isFalse => exact False.elim p2
                rename_i hz
                have gf := gg.trans (g5.trans (g6.trans g7))
                have hm7 : m7[n]? = some Dn := gf.loc _ _ nN
                have xo := R7.ob _ _ _ hm7 hn
                obtain ⟨kv, q1, q2⟩ := id xo
                have ek := keyD_rep (repy.grow g7) hk
                have g8 : Grow m7 H7 m7 (upd H7 Dn (.dK (putK kv k v7))) := Grow.set xo rfl
                exact ⟨kv, k, ek, q1, by rw [q2.len]; exact Nat.lt_of_lt_of_le hz (big_line (Nat.le_refl _)), m7, _, gf.trans g8, R7.set (o := .dk (putKD acc k dv)) hm7 hn rfl ⟨putK kv k v7, upd_same, ((q2.grow g8).put k (repv.grow g8))⟩, PostE.grow p2 g8⟩
              all_goals exact False.elim p2
            all_goals exact False.elim p2
        all_goals exact False.elim p2
      all_goals exact False.elim p2
    all_goals exact False.elim p2
variable {kx vx tg iter : Expr} {ifs : List Expr} {scope : Scope} {own : List (Str × Nat)} {pos : Pos} {fi : FI} {gt : GT} {ft fk fe : FE} {vs : List Nat} {wk : Bool}
theorem se_dc (hc : X.calm = true) (hN : X.N.Nodup) (hi : SI X W wk tg iter fi) (ok : BlkOk X.N X.env.scope scope own)
    (hg : ∀ (s : Shared) (H : Hp) (C : Addr) (cl : List (Str × Addr)) (fp : List Addr), SG (X.blk s H scope (compEnvC scope cl C X.env) fp) wk tg vs gt) (ht : ∀ (s : Shared) (H : Hp) (C : Addr) (cl : List (Str × Addr)) (fp : List Addr), STs (X.blk s H scope (compEnvC scope cl C X.env) fp) ifs ft)
    (hk : ∀ (s : Shared) (H : Hp) (C : Addr) (cl : List (Str × Addr)) (fp : List Addr), SE (X.blk s H scope (compEnvC scope cl C X.env) fp) W0 kx fk)
    (he : ∀ (s : Shared) (H : Hp) (C : Addr) (cl : List (Str × Addr)) (fp : List Addr), SE (X.blk s H scope (compEnvC scope cl C X.env) fp) W0 vx fe) (hs : ∀ x, foldedSetIterable iter X.env x = pure x := by intro _; rfl) (hv : vs.all (fun i => (own.map (·.2)).contains i) = true := by rfl) :
    SE X W (.DictComp kx vx [⟨tg, iter, ifs, 0⟩] scope pos) (eDc fi gt ft fk fe (own.map (·.2))) :=
  PE.imp (pe_dc (g := tSG X.K X.mg wk vs gt) (tt := tST X.K X.mg W0 ft) (tk := tS X.K X.mg W0 fk) (tv := tS X.K X.mg W0 fe) hc hN hi ok hg ht hk he hs) fun σ H Q h => dc_ok (wi := tSI X.K X.mg W wk fi) (mem_all hv) h
variable {y : Str} {py spos : Pos} {i : Nat}
/-- y = {..} on one row -/
theorem ps_setDc {wi : TI} {g : TG} {tt : TT} {tk tv : TE} (hc : X.calm = true) (hN : X.N.Nodup) (hy : X.N[i]? = some y) (hyl : X.env.scope.names.lookup y = some .local)
    (sw : swapsWith (.DictComp kx vx [⟨tg, iter, ifs, 0⟩] scope pos) (some (.Name y py)) spos.line X.env = pure true) (a1 : PI X tg iter wi) (ok : BlkOk X.N X.env.scope scope own)
    (a2 : ∀ (s : Shared) (H : Hp) (C : Addr) (cl : List (Str × Addr)) (fp : List Addr), PG (X.blk s H scope (compEnvC scope cl C X.env) fp) tg g)
    (a3 : ∀ (s : Shared) (H : Hp) (C : Addr) (cl : List (Str × Addr)) (fp : List Addr), PTs (X.blk s H scope (compEnvC scope cl C X.env) fp) ifs tt)
    (a4 : ∀ (s : Shared) (H : Hp) (C : Addr) (cl : List (Str × Addr)) (fp : List Addr), PE (X.blk s H scope (compEnvC scope cl C X.env) fp) kx tk)
    (a5 : ∀ (s : Shared) (H : Hp) (C : Addr) (cl : List (Str × Addr)) (fp : List Addr), PE (X.blk s H scope (compEnvC scope cl C X.env) fp) vx tv)
    (a6 : ∀ x, foldedSetIterable iter X.env x = pure x := by intro _; rfl) :
    PS X (.Assign [.Name y py] (.DictComp kx vx [⟨tg, iter, ifs, 0⟩] scope pos) spos) (tAsg (tDc wi g tt tk tv (own.map (·.2))) (gName i)) := by
  constructor
  intro pins s σ H D I q0
  rw [exec_Assign_Name_used _ _ _ _ sw]
  apply wpAny_bind
  apply wpAny_standAt
  apply wpAny_bind
  show wpAny _ X.A (do let _ ← comprehension (.DictComp kx vx [⟨tg, iter, ifs, 0⟩] scope pos) scope X.env (firstIterPos [⟨tg, iter, ifs, 0⟩] pos) newDict false (eval iter X.env) (some (assign (.Name y py) X.env))) _ _ s
  have q1 : tDc wi g tt tk tv (own.map (·.2)) σ H (fun x H1 => gName i x σ H1 D.nx) := q0
  refine wpAny_bind (thn (dc_core (Qf := fun _ s' => SP X pins D .next s') hc hN I a1 ok a2 a3 a4 a5 a6 q1 fun L C s' m H' J q hn f => ?_) fun _ s' hq => wpAny_pure (wpAny_pure hq))
  show wpAny _ _ (assign (.Name y py) X.env (.ref L)) _ _ _
  refine wpAny_assign_Name (store_ok2 (v := V.ref L) J hN hy (.inl hyl) rfl (fun s2 J2 ⟨a, sb, ha⟩ => ?_) (.inr hyl))
  obtain ⟨f0, f1, f2, f3, f4, f5⟩ := f
  have hne : C ≠ a := by
    cases ha with
    | inl z => exact fun e => f1 (e.trans z)
    | inr z => exact fun e => f4 y a z e.symm
  exact ⟨m, hn.sameBut sb hne, fun h3 sb3 => ⟨_, H', J2.turned (t' := s2.toks) (fun b o hb e => (sb3.2 b hb).trans e) f0 f1 f3 f4 f5, q⟩⟩
theorem ss_setDc (hc : X.calm = true) (hN : X.N.Nodup) (hy : X.N[i]? = some y) (hyl : X.env.scope.names.lookup y = some .local)
    (sw : swapsWith (.DictComp kx vx [⟨tg, iter, ifs, 0⟩] scope pos) (some (.Name y py)) spos.line X.env = pure true) (hi : SI X W wk tg iter fi) (ok : BlkOk X.N X.env.scope scope own)
    (hg : ∀ (s : Shared) (H : Hp) (C : Addr) (cl : List (Str × Addr)) (fp : List Addr), SG (X.blk s H scope (compEnvC scope cl C X.env) fp) wk tg vs gt) (ht : ∀ (s : Shared) (H : Hp) (C : Addr) (cl : List (Str × Addr)) (fp : List Addr), STs (X.blk s H scope (compEnvC scope cl C X.env) fp) ifs ft)
    (hk : ∀ (s : Shared) (H : Hp) (C : Addr) (cl : List (Str × Addr)) (fp : List Addr), SE (X.blk s H scope (compEnvC scope cl C X.env) fp) W0 kx fk)
    (he : ∀ (s : Shared) (H : Hp) (C : Addr) (cl : List (Str × Addr)) (fp : List Addr), SE (X.blk s H scope (compEnvC scope cl C X.env) fp) W0 vx fe) (hs : ∀ x, foldedSetIterable iter X.env x = pure x := by intro _; rfl) (hv : vs.all (fun i => (own.map (·.2)).contains i) = true := by rfl) :
    SS X W (.Assign [.Name y py] (.DictComp kx vx [⟨tg, iter, ifs, 0⟩] scope pos) spos) (gSet i (eDc fi gt ft fk fe (own.map (·.2)))) := by
  refine PS.imp (ps_setDc (g := tSG X.K X.mg wk vs gt) (tt := tST X.K X.mg W0 ft) (tk := tS X.K X.mg W0 fk) (tv := tS X.K X.mg W0 fe) hc hN hy hyl sw hi ok hg ht hk he hs) fun D σ H h => ?_
  obtain ⟨m, s, h, R0, rs, p⟩ := h
  refine dc_ok (X := X) (W := W) (wi := tSI X.K X.mg W wk fi) (mem_all hv) ⟨m, s, h, R0, rs, PostE.mono (PostS.ofE rs p) ?_⟩
  rintro x H1 ⟨m1, dx, h1, g1, R1, rx, p1⟩
  exact p1 m1 H1 _ (Grow.refl _ _) R1 ((rs.grow g1).set i rx)
end
end Sh

set_option Elab.async false
set_option linter.all false
set_option maxRecDepth 100000
set_option maxHeartbeats 4000000
/-! sorted(t), t a tuple of ints; sorted(l) of a list of ints -/
namespace Sh
open PySem L2 PyProof.Rows
section
variable {prog : Program} {w : World} {A : Around} {E : Value → Shared → Prop} {s : Shared}
/-- what a tuple gives, item by item -/
theorem tup_collect {l : Addr} {us : List Value} {Q : List Value → Shared → Prop} (ht : IsTup s.heap l us.toArray) (hz : us.length ≤ sizeLine)
    (q : Q us { s with heap := (s.heap.push (seqObj "list" #[] 0)).update s.heap.objs.size (Obj.mapSeq (· ++ us.toArray)) }) : wpAny (model prog w) A (collect (.ref l)) Q E s := by
  obtain ⟨o, e1, e2, n, e3⟩ := ht
  have e1' : (s.heap.push (seqObj "list" #[] 0)).get? l = some o := Heap.get?_push_of_some _ e1
  have new0 : (s.heap.push (seqObj "list" #[] 0)).get? s.heap.objs.size = some (seqObj "list" #[] 0) := Heap.get?_push_size _ rfl
  unfold collect
  apply wpAny_bind
  apply wpAny_runValue
  apply codeAny_builtin entry_proto_collect'
  show wpAny _ _ (do again (.builtin "list.__iadd__" ⟨[← newList [], .ref l], []⟩)) _ _ s
  apply wpAny_bind
  refine wpAny_newList (wpAny_pure ?_) (Nat.zero_le _)
  refine ⟨Code.quiet_builtin _ (by decide +kernel), codeAny_builtin entry_list_iadd' ?_⟩
  show wpAny _ _ (Builtin.List.listExtendWith (.ref s.heap.objs.size) (.ref l) (.ref s.heap.objs.size)) _ _ { s with heap := s.heap.push (seqObj "list" #[] 0) }
  unfold Builtin.List.listExtendWith
  apply wpAny_bind
  refine wpAny_typeOf (T := "tuple") ⟨o, e1', e2⟩ ?_
  have tt : (Value.type "tuple" == Value.type "tuple") = true := by rfl
  rw [if_pos (by rw [tt, Bool.or_true])]
  apply wpAny_bind
  refine listItems_at e1' e3 ?_
  apply wpAny_bind
  refine listItems_at new0 rfl ?_
  rw [if_neg (by simp)]
  apply wpAny_bind
  refine listUpdate_at new0 rfl ?_ (Nat.zero_le _) ?_
  · apply wpAny_pure
    show wpAny (model prog w) A (do
        let o ← load s.heap.objs.size
        match o.data with
        | .seq xs _ => pure xs.toList
        | _ => unsupported "internal:collect") Q E { s with heap := (s.heap.push (seqObj "list" #[] 0)).update s.heap.objs.size (Obj.mapSeq (· ++ us.toArray)) }
    apply wpAny_bind
    refine wpAny_load (get?_update_seq new0 _) ?_
    show wpAny _ _ (pure ((#[] : Array Value) ++ us.toArray).toList) Q E _
    have ee : ((#[] : Array Value) ++ us.toArray).toList = us := by simp
    rw [ee]
    exact wpAny_pure q
  · show (#[] ++ us.toArray).size ≤ sizeLine + 1
    simp only [Array.size_append, List.size_toArray, List.length_nil]
    omega
open SrtO Srt in
theorem tup_sorted {l : Addr} {us : List Value} {ns : List Int} {Q : Value → Shared → Prop} (hI : IntsAre us ns) (ht : IsTup s.heap l us.toArray) (hz : us.length ≤ sizeLine)
    (q : ∀ out : List Value, Srtd ltIv out → Stb ltIv out us → Q (.ref (s.heap.objs.size + 1)) { s with heap := sortedAll s.heap us out.toArray }) : wpAny (model prog w) A (call (.builtin "sorted") [.ref l]) Q E s := by
  apply Calls.call_function_entry kind_sorted plain_sorted entry_sorted (args_sorted1 _)
  unfold Builtin.«sorted»
  apply wpAny_bind (m := checkCount "sorted" 1 1 _)
  apply wpAny_pure
  apply wpAny_bind
  refine tup_collect ht hz ?_
  apply wpAny_bind
  refine wpAny_newList ?_ hz
  generalize hB : (s.heap.push (seqObj "list" #[] 0)).update s.heap.objs.size (Obj.mapSeq (· ++ us.toArray)) = B
  have sB : B.objs.size = s.heap.objs.size + 1 := by rw [← hB, Heap.size_update, size_push']
  have eL : (B.push (seqObj "list" us.toArray 0)).get? (s.heap.objs.size + 1) = some (seqObj "list" us.toArray 0) := by
    rw [← sB]
    exact Heap.get?_push_size _ rfl
  show wpAny _ _ _ _ _ { s with heap := B.push (seqObj "list" us.toArray 0) }
  rw [sB]
  apply wpAny_bind
  apply wpAny_holding
  refine wpAny_call_entry slot_list_sort ⟨_, eL, rfl⟩ entry_list_sort (list_sort_ord swo_int eL hz (fun h2 => ints_sortable hI h2) fun out hs hb => ⟨_, rfl, wpAny_pure ⟨_, rfl, ?_⟩⟩) (args_list_sort _)
  have := q out hs hb
  unfold sortedAll at this
  rw [hB] at this
  exact this
end
theorem perm_asc : ∀ {l r : List Int}, l.Perm r → l.Pairwise (· ≤ ·) → r.Pairwise (· ≤ ·) → l = r
  | [], r, p, _, _ => (List.nil_perm.mp p).symm
  | a :: l, [], p, _, _ => absurd (List.perm_nil.mp p) (by simp)
  | a :: l, b :: r, p, h1, h2 => by
    have hab : a = b := by
      have m1 : a ∈ b :: r := p.mem_iff.mp List.mem_cons_self
      have m2 : b ∈ a :: l := p.mem_iff.mpr List.mem_cons_self
      rw [List.pairwise_cons] at h1 h2
      rcases List.mem_cons.mp m1 with z | z
      · exact z
      · rcases List.mem_cons.mp m2 with y | y
        · exact y.symm
        · have q1 := h1.1 b y
          have q2 := h2.1 a z
          omega
    subst hab
    rw [perm_asc (List.Perm.cons_inv p) (List.pairwise_cons.mp h1).2 (List.pairwise_cons.mp h2).2]
/-- the ints in their order -/
def ascI (l : List Int) : List Int := l.mergeSort fun a b => decide (a ≤ b)
theorem ascI_perm (l : List Int) : (ascI l).Perm l := List.mergeSort_perm _ _
theorem ascI_asc (l : List Int) : (ascI l).Pairwise (· ≤ ·) := by
  have := List.pairwise_mergeSort (le := fun a b : Int => decide (a ≤ b)) (by intro a b c; simp; omega) (by intro a b; simp; omega) l
  exact this.imp fun h => by simpa using h
def bSortI (ds : List D) (h : Hm) : RD := match ds with
  | [d] => match items h d with
    | some xs => match intsD xs with
      | some l => .ok (.ref h.length) (h ++ [.lst ((ascI l).map D.int)])
      | none => .bad
    | none => .bad
  | _ => .bad
section
variable {X : Cx}
def rSortTI (K : PySem.W.Frag) : List V → Hp → VK → Prop := fun vs H Q => ∃ (a : Addr) (ns : List Int), vs = [V.ref a] ∧ (SqL K H a (ns.map V.int) ∨ SqT K H a (ns.map V.int)) ∧
  ∀ p : Addr, H p = none → Q (.ref p) (upd H p (.lst ((ascI ns).map V.int)))
theorem cr_sortTI : CallR X (.builtin "sorted") (rSortTI X.K) := by
  intro pins s σ H vs us Q I r h
  obtain ⟨a, ns, rfl, hs, q⟩ := h
  rcases hs with hs | hs
  · refine cr_sortedI pins s σ H _ us Q I r ⟨a, ns, rfl, hs, fun ns' p e1 e2 e3 => ?_⟩
    rw [perm_asc (e1.trans (ascI_perm ns).symm) e2 (ascI_asc ns)]
    exact q p e3
  · obtain ⟨its, rv, ht, hz⟩ := I.tuple hs
    rw [Vals.ref1 r]
    have hi := rv.ints
    refine tup_sorted hi ht (by rw [← rv.length]; exact hz) fun out h1 h2 => ?_
    obtain ⟨k1, k2, k3⟩ := SrtO.ints_out hi h1 h2
    have ee := perm_asc (k2.trans (ascI_perm ns).symm) k3 (ascI_asc ns)
    obtain ⟨ep, he'⟩ := PyProof.Rows.sortedAll_at s.heap its out.toArray
    have fresh : H (s.heap.objs.size + 1) = none := I.hok.fresh (Nat.le_succ _)
    have hlen : ((out.map SrtO.iv).map V.int).length ≤ sizeLine := by
      rw [List.length_map] at hz ⊢
      rw [k2.length_eq]
      exact hz
    have J := I.laid (t' := s.toks) (a := s.heap.objs.size + 1) (o := .lst ((out.map SrtO.iv).map V.int)) (fun _ _ => PyProof.Rows.sortedAll_old) (Nat.le_succ _) ⟨hlen, out, ep, vals_of_ints k1, he'⟩
    refine ⟨.ref _, _, J, rfl, ?_⟩
    rw [ee]
    exact q _ fresh
theorem rep_ints {K : PySem.W.Frag} {m : List Addr} {H : Hp} : ∀ l : List Int, RepL K m H (l.map V.int) (l.map D.int)
  | [] => .nil
  | a :: l => .cons (.int a) (rep_ints l)
theorem cs_sortI : CallS X (rSortTI X.K) bSortI := by
  intro W m H h vs ds Q r rv p
  unfold bSortI at p
  split at p
  case h_2 => exact False.elim p
  split at p
  case h_2 => exact False.elim p
  rename_i xs hx
  split at p
  case h_2 => exact False.elim p
  rename_i l hl
  cases rv with
  | cons r1 r2 =>
    cases r2
    obtain ⟨a, ws, rfl, h1, l1⟩ := items_sq r r1 hx
    have ew := intsD_rep l1 hl
    subst ew
    exact ⟨a, l, rfl, h1, PostE.lst p r (rep_ints _)⟩
end
end Sh

set_option Elab.async false
set_option linter.all false
set_option maxRecDepth 100000
set_option maxHeartbeats 4000000
/-! d.get(x), x an int, a text or None -/
namespace Sh
open PySem L2 PyProof.Rows
section
variable {X : Cx} {W : WX} {pins : List (Addr × Obj)} {σ : L2.St} {H : Hp} {s : Shared} {a : Addr} {kvs : List (Key × V)} {A : Around} {E : Value → Shared → Prop}
theorem get_none {Q : Value → Shared → Prop} (I : Inv X pins σ H s) (e : Rd H a (.dK kvs)) (q : ∀ s', Inv X pins σ H s' → Q .none s') : wpAny (model X.prog X.w) A (call (.builtin "dict.get") [.ref a, .none]) Q E s := by
  obtain ⟨_, hd, vs, _, dd⟩ := dk_rd I.hok e
  obtain ⟨f, hm, hf⟩ := none_map dd
  have ik : (noneKind X.prog X.w).is none .none = true := rfl
  have mm := meets_dict_get (noneKind X.prog X.w) a ik hd
  refine call_meetsIn PySem.F.slot_dict_get dd.typeIs PySem.F.entry_dict_get (PySem.F.args_dict_get_2 _ _) mm ⟨f, hm, ?_⟩
  rw [hf]
  exact q _ (I.tok _)
def tDGet1N (td ty : TE) : TE := fun σ H Q => td σ H fun x H1 => ∃ a, x = .ref a ∧ IsD H1 a ∧ ty σ H1 fun y H2 => (∃ o, DGet H2 a y o ∧ Q (o.getD .non) H2) ∨ ∃ kvs, y = .non ∧ Rd H2 a (.dK kvs) ∧ Q .non H2
variable {o e : Expr} {fo fi : FE} {apos cpos : Pos} {td ty : TE}
theorem pe_dget1N (hu : X.A.units + 1 < cLine) (ho : PE X o td) (he : PE X e ty) (m : M1 X o "get" apos e cpos) : PE X (.Call (.Attribute o "get" apos) [e] [] cpos) (tDGet1N td ty) := by
  constructor
  intro pins s σ H Q I q0
  refine wpAny_Call_method m.base m.few m.line PySem.F.plainAttrs_dict PySem.F.slot_dict_get PySem.F.type_dict_get (thn (ho.run pins s σ H _ I q0) ?_)
  rintro u s1 ⟨x, H1, I1, rx, a, rfl, d, q1⟩
  obtain rfl : u = Value.ref a := rx
  have da := isD_at I1 d
  refine ⟨da.1, da.2.1, ?_⟩
  rw [m.trees]
  apply Calls.callWith_builtin rfl
  apply Calls.evalArgs_plain
  refine Calls.spliced_cons (thn (he.run pins s1 σ H1 _ I1 q1) ?_)
  rintro iv s2 ⟨y, H2, I2, ry, q2⟩
  apply Calls.spliced_nil
  rcases q2 with ⟨ov, g, q2⟩ | ⟨kvs, rfl, g, q2⟩
  · exact d_get1 hu I2 g ry fun w' s3 I3 rw' => ⟨_, H2, I3, rw', q2⟩
  · obtain rfl : iv = Value.none := ry
    exact get_none I2 g fun s3 I3 => ⟨.non, H2, I3, rfl, q2⟩
def dHasN (d y : D) (h : Hm) : Option (Option D) := match y with
  | .non => if isDk d h = true then some none else none
  | _ => dHas d y h
def eDget1N (fo fi : FE) : FE := fun s h => (fo s h).bind fun d h1 => if isDk d h1 = true then (fi s h1).bind fun y h2 => match dHasN d y h2 with
  | some r => .ok (r.getD .non) h2
  | none => .bad
  else .bad
theorem isDk_rd {m : List Addr} {H : Hp} {h : Hm} {x : V} {d : D} (R0 : R X.K X.mg m H h) (rx : Rep X.K m H x d) (e : isDk d h = true) : ∃ a kv, x = .ref a ∧ Rd H a (.dK kv) := by
  unfold isDk at e
  split at e
  case h_2 => cases e
  split at e
  case h_2 => cases e
  rename_i n _ kvs hn
  obtain ⟨a, rfl, hm⟩ := rx.ref_inv
  obtain ⟨kv, q1, q2⟩ := R0.ob _ _ _ hm hn
  exact ⟨a, kv, rfl, .inl q1⟩
theorem se_dget1N {k : Nat} (hr : Room k X.A) (ho : SE X W o fo) (he : SE X W e fi) (m : M1 X o "get" apos e cpos) : SE X W (.Call (.Attribute o "get" apos) [e] [] cpos) (eDget1N fo fi) := by
  have hu := hr.units
  refine PE.imp (pe_dget1N (by omega) ho he m) fun σ H Q h => ?_
  obtain ⟨m, s, h, R0, rs, p⟩ := h
  refine ⟨m, s, h, R0, rs, PostE.mono (PostE.bind p) ?_⟩
  rintro x H1 ⟨m1, dx, h1, g1, R1, rx, p1⟩
  split at p1
  case isFalse => exact False.elim p1
  rename_i hd
  obtain ⟨a, rfl, hD⟩ := isDk_ok R1 rx hd
  refine ⟨a, rfl, hD, m1, s, h1, R1, rs.grow g1, PostE.mono (PostE.bind p1) ?_⟩
  rintro y H2 ⟨m2, dy, h2, g2, R2, ry, p2⟩
  split at p2
  case h_2 => exact False.elim p2
  rename_i r hr
  unfold dHasN at hr
  split at hr
  · split at hr
    case isFalse => cases hr
    rename_i hd2
    cases hr
    obtain ⟨a2, kv, e2, g⟩ := isDk_rd R2 (rx.grow g2) hd2
    cases e2
    cases ry
    exact .inr ⟨kv, rfl, g, p2.val R2 .non⟩
  · obtain ⟨a', o, e, g, q⟩ := dHas_ok R2 (rx.grow g2) ry hr
    cases e
    refine .inl ⟨o, g, ?_⟩
    rcases q with ⟨rfl, rfl⟩ | ⟨v, z, rfl, rfl, rv⟩
    · exact p2.val R2 .non
    · exact p2.val R2 rv
end
/-- the class object, for k_is -/
theorem oxFact {K : PySem.W.Frag} {C N : Addr} {nm q : Str} {bs bm sub : List Value} {sn : List Str} {ab : Bool} {col : Option Bool} {dd : Option Addr} {k0 k1 k2 k3 k5 : Option Value}
    (l : K.lookup C = some (excClassObj nm q C N bs bm true sn sub ab col dd k0 k1 k2 k3 k5 "ValueError.__new__")) (m : PySem.HandSPX.refsVE bm = true) :
    ∃ nm q N bs bm sn sub ab col dd k0 k1 k2 k3 k5, K.lookup C = some (excClassObj nm q C N bs bm true sn sub ab col dd k0 k1 k2 k3 k5 "ValueError.__new__") ∧ PySem.HandSPX.refsVE bm = true :=
  ⟨_, _, _, _, _, _, _, _, _, _, _, _, _, _, _, l, m⟩
end Sh

set_option Elab.async false
set_option linter.all false
set_option maxRecDepth 100000
set_option maxHeartbeats 4000000
/-! more words: a, b, c = x, y, z; bits; x += n; l[i] -= n -/
namespace Sh
open PySem L2 PyProof.Rows
section
variable {X : Cx} {W : WX} {o i e a b c : Expr} {fo fi f fa fb fc : FE} {pos pos' : Pos}
def gPar3 (i j l : Nat) (fa fb fc : FE) : FS := fun s h => (fa s h).st s fun x h1 => (fb s h1).st s fun y h2 => (fc s h2).st s fun z h3 => .nx (((s.set i (some x)).set j (some y)).set l (some z)) h3
theorem ss_par3 {i j l : Nat} {x y z : Str} {px py pz pt : Pos} {kt k2 pt2} (hc : X.calm = true) (hN : X.N.Nodup) (hi : X.N[i]? = some x) (hj : X.N[j]? = some y) (hl : X.N[l]? = some z) (hij : i ≠ j) (hil : i ≠ l) (hjl : j ≠ l)
    (hx : X.env.scope.names.lookup x = some .local) (hy : X.env.scope.names.lookup y = some .local) (hz : X.env.scope.names.lookup z = some .local) (ha : SE X W a fa) (hb : SE X W b fb) (he : SE X W c fc)
    (hw : swappedStores [.Tuple [.Name x px, .Name y py, .Name z pz] kt pt] (.Tuple [a, b, c] k2 pt2) X.env = pure (some [x, y, z]))
    (hs : swapsWithSole [.Tuple [.Name x px, .Name y py, .Name z pz] kt pt] (.Tuple [a, b, c] k2 pt2) pos.line X.env = pure false := by rfl)
    (h1 : starEach [a, b, c] X.env = (false, eval a X.env) :: starEach [b, c] X.env := by rfl) (h2 : starEach [b, c] X.env = (false, eval b X.env) :: starEach [c] X.env := by rfl) (h3 : starEach [c] X.env = (false, eval c X.env) :: starEach [] X.env := by rfl) :
    SS X W (.Assign [.Tuple [.Name x px, .Name y py, .Name z pz] kt pt] (.Tuple [a, b, c] k2 pt2) pos) (gPar3 i j l fa fb fc) := by
  refine PS.imp (ps_par3 hc hN hi hj hl hij hil hjl hx hy hz (sa_cons ha (sa_cons hb (sa_cons he sa_nil h3) h2) h1) hw hs) fun D σ H h => ?_
  obtain ⟨m, s, h, R0, rs, p⟩ := h
  refine ⟨m, s, h, R0, rs, ?_⟩
  unfold gPar3 at p
  simp only [evalL]
  generalize fa s h = r1 at p
  cases r1 with
  | ok x h1 =>
    simp only [RD.st_ok] at p
    dsimp only
    generalize fb s h1 = r2 at p
    cases r2 with
    | ok y h2 =>
      simp only [RD.st_ok] at p
      dsimp only
      generalize fc s h2 = r3 at p
      cases r3 with
      | ok z h3 =>
        intro m1 H1 vs g1 R1 rvs
        cases rvs with
        | cons ru t =>
          cases t with
          | cons rv t =>
            cases t with
            | cons rw t =>
              cases t
              exact ⟨_, _, _, rfl, p m1 H1 _ g1 R1 ((((rs.grow g1).set i ru).set j rv).set l rw)⟩
      | exc c fs h3 => exact fun m1 H1 cls dx g1 R1 ex => p m1 H1 σ cls dx g1 R1 (rs.grow g1) ex
      | bad => exact p
    | exc c fs h2 => exact fun m1 H1 cls dx g1 R1 ex => p m1 H1 σ cls dx g1 R1 (rs.grow g1) ex
    | bad => exact p
  | exc c fs h1 => exact fun m1 H1 cls dx g1 R1 ex => p m1 H1 σ cls dx g1 R1 (rs.grow g1) ex
  | bad => exact p
/-! bits -/
def dAnd := dInt0 fun i j => Builtin.bitAnd i j
def dOr := dInt0 fun i j => Builtin.bitOr i j
def dXor := dInt0 fun i j => Builtin.bitXor i j
def dShl := dInt2 (fun i j => decide (0 ≤ j ∧ j ≤ 1000000 ∧ i.natAbs < 2 ^ 64)) fun i j => i * 2 ^ j.toNat
def dShr := dInt2 (fun _ j => decide (0 ≤ j)) fun i j => i / 2 ^ j.toNat
theorem os_and : OpS X (rI0 fun i j => .int (Builtin.bitAnd i j)) dAnd := os_int0
theorem os_or : OpS X (rI0 fun i j => .int (Builtin.bitOr i j)) dOr := os_int0
theorem os_xor : OpS X (rI0 fun i j => .int (Builtin.bitXor i j)) dXor := os_int0
theorem os_shl : OpS X (rI CPow fun i j => .int (i * 2 ^ j.toNat)) dShl := os_int2 fun i j h => by
  have z := of_decide_eq_true h
  exact ⟨z.1, z.2.1, z.2.2⟩
theorem os_shr : OpS X (rI (fun _ j => 0 ≤ j) fun i j => .int (i / 2 ^ j.toNat)) dShr := os_int2 fun i j h => of_decide_eq_true h
/-! x += n -/
def gAug (i : Nat) (fop : D → D → Hm → RD) (f : FE) : FS := fun s h => match s[i]? with
  | some (some d) => (f s h).st s fun y h1 => (fop d y h1).st s fun z h2 => .nx (s.set i (some z)) h2
  | _ => .bad
theorem ss_augI {i : Nat} {x : Str} {op : Operator} {g : Int → Int → Int} {pos' : Pos} (hN : X.N.Nodup) (hi : X.N[i]? = some x) (hx : Loc X.env.scope x) (ho : PIp X op (ipI g)) (he : SE X W e f) (hf : X.fn x = true ∨ X.env.scope.names.lookup x = some .local := by first | exact .inl rfl | exact .inr rfl) :
    SS X W (.AugAssign (.Name x pos') op e pos) (gAug i (dInt0 g) f) := by
  refine PS.imp (ps_aug hN hi hx he ho hf) fun D σ H h => ?_
  obtain ⟨m, s, h, R0, rs, p⟩ := h
  unfold gAug at p
  split at p
  case h_2 => exact False.elim p
  rename_i d hd
  obtain ⟨v, hv, rv⟩ := rs.2 i d hd
  refine ⟨v, hv, m, s, h, R0, rs, PostE.mono (PostS.ofE rs p) ?_⟩
  rintro y H1 ⟨m1, dy, h1, g1, R1, ry, p1⟩
  unfold dInt0 at p1
  split at p1
  · have ev := (rv.grow g1).int_inv
    have ey := ry.int_inv
    subst ev
    subst ey
    exact ⟨_, _, rfl, rfl, p1 m1 H1 _ (Grow.refl _ _) R1 ((rs.grow g1).set i (.int _))⟩
  · exact False.elim p1
/-! l[i] -= n -/
def rGetL (K : PySem.W.Frag) : V → V → Hp → VK → Prop := fun o i H Q => ∃ p xs k v, o = .ref p ∧ i = .int k ∧ SqL K H p xs ∧ 0 ≤ k ∧ xs[k.toNat]? = some v ∧ Q v H
theorem get_listP : PGet X (rGetL X.K) := by
  intro pins s σ H o i ov iv Q I ro ri h
  obtain ⟨p, xs, k, v, rfl, rfl, hq, h0, he, q⟩ := h
  cases ro
  obtain ⟨t, rfl⟩ := ri
  obtain ⟨its, r, pl, hz⟩ := I.list hq
  obtain ⟨w, ew, rw'⟩ := r.get he
  have h63 := line63
  have hlt := (List.getElem?_eq_some_iff.mp he).1
  exact wpAny_getItem_list pl.isList h0 (by omega) (by simpa using ew) ⟨v, H, I, rw', q⟩
def gLaug (fop : D → D → Hm → RD) (fo fi fe : FE) : FS := fun s h => (fo s h).st s fun d h1 => (fi s h1).st s fun y h2 => match d, y with
  | .ref n, .int k => (match h2[n]? with
    | some (.lst xs) => if 0 ≤ k then (match xs[k.toNat]? with
      | some x => (fe s h2).st s fun z h3 => (fop x z h3).st s fun w h4 => (match h4[n]? with
        | some (.lst ys) => if k.toNat < ys.length then .nx s (h4.set n (.lst (ys.set k.toNat w))) else .bad
        | _ => .bad)
      | none => .bad) else .bad
    | _ => .bad)
  | _, _ => .bad
theorem ss_laugI {op : Operator} {g : Int → Int → Int} (hip : PIp X op (ipI g)) (ho : SE X W o fo) (hi : SE X W i fi) (he : SE X W e f)
    (ha : ∀ ov iv new, augStore i ov iv new = (do holding [new, ov, iv] (setItem ov iv new); release [new, ov, iv] []; pure Flow.next) := by intros; rfl) : SS X W (.AugAssign (.Subscript o i pos') op e pos) (gLaug (dInt0 g) fo fi f) := by
  refine PS.imp (ps_augS ho hi get_listP he hip set_list ha) fun D σ H h => ?_
  obtain ⟨m, s, h, R0, rs, p⟩ := h
  refine ⟨m, s, h, R0, rs, PostE.mono (PostS.ofE rs p) ?_⟩
  rintro v H1 ⟨m1, dv, h1, g1, R1, rv, p1⟩
  refine ⟨m1, s, h1, R1, rs.grow g1, PostE.mono (PostS.ofE (rs.grow g1) p1) ?_⟩
  rintro y H2 ⟨m2, dy, h2, g2, R2, ry, p2⟩
  split at p2
  case h_2 => exact False.elim p2
  rename_i n k
  split at p2
  case h_2 => exact False.elim p2
  rename_i xs hn
  split at p2
  case isFalse => exact False.elim p2
  rename_i h0
  split at p2
  case h_2 => exact False.elim p2
  rename_i x hx
  obtain ⟨a, rfl, hm⟩ := (rv.grow g2).ref_inv
  obtain ⟨us, q1, q2⟩ := R2.ob _ _ _ hm hn
  cases ry
  obtain ⟨u, eu, ru⟩ := q2.get hx
  refine ⟨a, us, k, u, rfl, rfl, SqL.of q1, h0, eu, m2, s, h2, R2, (rs.grow g1).grow g2, PostE.mono (PostS.ofE ((rs.grow g1).grow g2) p2) ?_⟩
  rintro z H3 ⟨m3, dz, h3, g3, R3, rz, p3⟩
  unfold dInt0 at p3
  split at p3
  case h_2 => exact False.elim p3
  rename_i i0 j0
  have e1 := (ru.grow g3).int_inv
  have e2 := rz.int_inv
  subst e1
  subst e2
  rw [RD.st_ok] at p3
  split at p3
  case h_2 => exact False.elim p3
  rename_i ys hn3
  split at p3
  case isFalse => exact False.elim p3
  rename_i hk
  have hm3 := g3.loc _ _ hm
  obtain ⟨ws, q3, q4⟩ := R3.ob _ _ _ hm3 hn3
  refine ⟨i0, j0, rfl, rfl, a, ws, k, k.toNat, rfl, rfl, q3, ?_, ?_⟩
  · have hw : k.toNat < ws.length := by rw [q4.length]; exact hk
    obtain ⟨j, rfl⟩ := Int.eq_ofNat_of_zero_le h0
    have hw' : j < ws.length := by simpa using hw
    have d1 : (0 : Int) ≤ (j : Int) := Int.natCast_nonneg j
    have d2 : (j : Int) < (ws.length : Int) := Int.ofNat_lt.mpr hw'
    unfold ixN
    rw [if_pos d1, if_pos d2]
  · obtain ⟨g4, R4⟩ := R3.lset hm3 hn3 (q4.set (.int (g i0 j0)) k.toNat)
    exact p3 m3 _ σ g4 R4 ((rs.grow (g1.trans (g2.trans g3))).grow g4)
end
end Sh

set_option Elab.async false
set_option linter.all false
set_option maxRecDepth 100000
set_option maxHeartbeats 4000000
namespace Sh.k73
open PySem L2 PyProof.Rows Sh
def top (i : Nat) : Stmt := PySem.Challenge.pw_spentblocks_k73_records_by_own_check.main.body.getD i (.Pass ⟨0, 0, 0, 0⟩)
abbrev s__law_cell : Stmt := top 25
abbrev s__law_mixed : Stmt := top 26
abbrev s__law_digits : Stmt := top 27
abbrev s__law_number : Stmt := top 31
abbrev s__law_value : Stmt := top 32
abbrev s__law_parts : Stmt := top 33
abbrev s__law_check : Stmt := top 29
abbrev s__law_record : Stmt := top 30
abbrev s_is_whole : Stmt := top 2
abbrev s_is_key : Stmt := top 3
abbrev s_are_bytes : Stmt := top 7
abbrev s_is_value : Stmt := top 9
abbrev s_bytes_of : Stmt := top 20
abbrev s_check_of : Stmt := top 22
abbrev s_record : Stmt := top 19
abbrev s__law_same : Stmt := top 28
abbrev s_is_written : Stmt := top 8
abbrev s_number_of : Stmt := top 21
abbrev s_read_record : Stmt := top 23
abbrev s__law_holds : Stmt := top 34
abbrev s_law : Stmt := top 35
structure Txt (K : PySem.W.Frag) (mg : Str → Option Value) where
  b_all : mg "all" = none
  b_bool : mg "bool" = none
  b_int : mg "int" = none
  b_isinstance : mg "isinstance" = none
  b_len : mg "len" = none
  b_list : mg "list" = none
  b_range : mg "range" = none
  b_tuple : mg "tuple" = none
  c_AHEAD : ∃ t, mg "AHEAD" = some (.int 7 t)
  c_BEHIND : ∃ t, mg "BEHIND" = some (.int 2 t)
  c_FIRST_BYTE : ∃ t, mg "FIRST_BYTE" = some (.int 165 t)
  c_MOST_CONTENT : ∃ t, mg "MOST_CONTENT" = some (.int 60 t)
  c_MOST_KEYS : ∃ t, mg "MOST_KEYS" = some (.int 9 t)
  c_MOST_NUMBER : ∃ t, mg "MOST_NUMBER" = some (.int 4294967295 t)
  c_MOST_VALUE : ∃ t, mg "MOST_VALUE" = some (.int 50 t)
  e_NoContent : ExAt K mg "NoContent"
  e_NoRecord : ExAt K mg "NoRecord"
  f__law_cell : FnAt K mg "_law_cell" "_law_cell" s__law_cell ["script", "k"]
  f__law_mixed : FnAt K mg "_law_mixed" "_law_mixed" s__law_mixed ["cell", "k"]
  f__law_digits : FnAt K mg "_law_digits" "_law_digits" s__law_digits ["cell", "sizes"]
  f__law_number : FnAt K mg "_law_number" "_law_number" s__law_number ["kind", "edge", "high", "low"]
  f__law_value : FnAt K mg "_law_value" "_law_value" s__law_value ["cell"]
  f__law_parts : FnAt K mg "_law_parts" "_law_parts" s__law_parts ["cell", "other"]
  f__law_check : FnAt K mg "_law_check" "_law_check" s__law_check ["row"]
  f__law_record : FnAt K mg "_law_record" "_law_record" s__law_record ["key", "number", "value"]
  f_is_whole : FnAt K mg "is_whole" "is_whole" s_is_whole ["thing", "low", "high"]
  f_is_key : FnAt K mg "is_key" "is_key" s_is_key ["thing", "keys"]
  f_are_bytes : FnAt K mg "are_bytes" "are_bytes" s_are_bytes ["thing", "most"]
  f_is_value : FnAt K mg "is_value" "is_value" s_is_value ["thing"]
  f_bytes_of : FnAt K mg "bytes_of" "bytes_of" s_bytes_of ["number", "many"]
  f_check_of : FnAt K mg "check_of" "check_of" s_check_of ["parts"]
  f_record : FnAt K mg "record" "record" s_record ["key", "number", "value"]
  f__law_same : FnAt K mg "_law_same" "_law_same" s__law_same ["got", "due"]
  f_is_written : FnAt K mg "is_written" "is_written" s_is_written ["thing"]
  f_number_of : FnAt K mg "number_of" "number_of" s_number_of ["parts"]
  f_read_record : FnAt K mg "read_record" "read_record" s_read_record ["content"]
  f__law_holds : FnAt K mg "_law_holds" "_law_holds" s__law_holds ["parts"]
  f_law : FnAt K mg "law" "law" s_law ["script"]
section
variable {P : Program} {w : World} {K : PySem.W.Frag} {mg : Str → Option Value} {base : Heap}
theorem sc__law_cell : FnScope ["script", "k", "first"] ["script", "k"] (defScope s__law_cell) := ⟨rfl, rfl, rfl, by decide +kernel, rfl, by decide +kernel, by decide +kernel⟩
def g__law_cell : FS := (gSeq (gIf (eBin (dCmp fun i j => decide (i < j)) (eVar 1) (eArgs bLen [(eVar 0)])) (gRet (eArgs bInt [(eBin dIx (eVar 0) (eVar 1))])) gNext)
    (gSeq (gSet 2 (eC (.int 0)))
    (gSeq (gIf (eBin (dCmp fun i j => decide (j < i)) (eArgs bLen [(eVar 0)]) (eC (.int 0))) (gSet 2 (eArgs bInt [(eBin dIx (eVar 0) (eC (.int 0)))])) gNext)
    (gRet (eBin dMod (eArgs bInt [(eBin dMul (eBin dAdd (eVar 2) (eBin dMul (eC (.int 7919)) (eVar 1))) (eC (.int 48271)))]) (eC (.int 2147483647)))))))
def m__law_cell : FF := runB 3 g__law_cell
theorem ok__law_cell (T : Txt K mg) : OkF P w K mg base 1 T.f__law_cell.f T.f__law_cell.fd ["script", "k"] m__law_cell := by
  refine @okS P w K mg base "_law_cell" "_law_cell" s__law_cell T.f__law_cell.f T.f__law_cell.fd ["script", "k", "first"] ["script", "k"]  0 g__law_cell T.f__law_cell.fn sc__law_cell ?_
  intro cdv A outer s H E hr tk PO
  unfold g__law_cell
  refine sss_cons ?_ ?_
  · refine ss_if ?_ ?_ ?_
    · refine st_cmp op_lt os_cmp ?_ ?_ (nomark _)
      · exact se_var 1
      · refine se_callB (call_len) (cs_len) rfl T.b_len rfl ?_
        refine sa_cons ?_ ?_
        · exact se_var 0
        · exact sa_nil
    · refine sss_one ?_
      refine ss_ret ?_
      refine se_callTy (call_int1) (cs_int) rfl T.b_int rfl ?_
      refine sa_cons ?_ ?_
      · refine se_ix ?_ ?_
        · exact se_var 0
        · exact se_var 1
      · exact sa_nil
    · exact sss_nil
  · refine sss_cons ?_ ?_
    · refine ss_set sc__law_cell.nd rfl (by first | exact Or.inl rfl | exact Or.inr rfl) ?_
      exact se_int
    · refine sss_cons ?_ ?_
      · refine ss_if ?_ ?_ ?_
        · refine st_cmp op_gt os_cmp ?_ ?_ (nomark _)
          · refine se_callB (call_len) (cs_len) rfl T.b_len rfl ?_
            refine sa_cons ?_ ?_
            · exact se_var 0
            · exact sa_nil
          · exact se_int
        · refine sss_one ?_
          refine ss_set sc__law_cell.nd rfl (by first | exact Or.inl rfl | exact Or.inr rfl) ?_
          refine se_callTy (call_int1) (cs_int) rfl T.b_int rfl ?_
          refine sa_cons ?_ ?_
          · refine se_ix ?_ ?_
            · exact se_var 0
            · exact se_int
          · exact sa_nil
        · exact sss_nil
      · refine sss_one ?_
        refine ss_ret ?_
        refine se_op op_mod os_mod ?_ ?_
        · refine se_callTy (call_int1) (cs_int) rfl T.b_int rfl ?_
          refine sa_cons ?_ ?_
          · refine se_op op_mul2 os_mul ?_ ?_
            · refine se_op op_add4 os_add ?_ ?_
              · exact se_var 2
              · refine se_op op_mul2 os_mul ?_ ?_
                · exact se_int
                · exact se_var 1
            · exact se_int
          · exact sa_nil
        · exact se_int

theorem sc__law_mixed : FnScope ["cell", "k", "number"] ["cell", "k"] (defScope s__law_mixed) := ⟨rfl, rfl, rfl, by decide +kernel, rfl, by decide +kernel, by decide +kernel⟩
def g__law_mixed : FS := (gSeq (gSet 2 (eBin dMod (eArgs bInt [(eBin dMul (eBin dAdd (eBin dAdd (eVar 0) (eBin dMul (eC (.int 7919)) (eVar 1))) (eC (.int 1))) (eC (.int 48271)))]) (eC (.int 2147483647))))
    (gSeq (gSet 2 (eBin dMod (eArgs bInt [(eBin dMul (eVar 2) (eBin dAdd (eBin dDiv (eVar 2) (eC (.int 1009))) (eC (.int 69621))))]) (eC (.int 2147483647))))
    (gRet (eBin dMod (eArgs bInt [(eBin dMul (eVar 2) (eBin dAdd (eBin dDiv (eVar 2) (eC (.int 2003))) (eC (.int 40692))))]) (eC (.int 2147483399))))))
def m__law_mixed : FF := runB 3 g__law_mixed
theorem ok__law_mixed (T : Txt K mg) : OkF P w K mg base 1 T.f__law_mixed.f T.f__law_mixed.fd ["cell", "k"] m__law_mixed := by
  refine @okS P w K mg base "_law_mixed" "_law_mixed" s__law_mixed T.f__law_mixed.f T.f__law_mixed.fd ["cell", "k", "number"] ["cell", "k"]  0 g__law_mixed T.f__law_mixed.fn sc__law_mixed ?_
  intro cdv A outer s H E hr tk PO
  unfold g__law_mixed
  refine sss_cons ?_ ?_
  · refine ss_set sc__law_mixed.nd rfl (by first | exact Or.inl rfl | exact Or.inr rfl) ?_
    refine se_op op_mod os_mod ?_ ?_
    · refine se_callTy (call_int1) (cs_int) rfl T.b_int rfl ?_
      refine sa_cons ?_ ?_
      · refine se_op op_mul2 os_mul ?_ ?_
        · refine se_op op_add4 os_add ?_ ?_
          · refine se_op op_add4 os_add ?_ ?_
            · exact se_var 0
            · refine se_op op_mul2 os_mul ?_ ?_
              · exact se_int
              · exact se_var 1
          · exact se_int
        · exact se_int
      · exact sa_nil
    · exact se_int
  · refine sss_cons ?_ ?_
    · refine ss_set sc__law_mixed.nd rfl (by first | exact Or.inl rfl | exact Or.inr rfl) ?_
      refine se_op op_mod os_mod ?_ ?_
      · refine se_callTy (call_int1) (cs_int) rfl T.b_int rfl ?_
        refine sa_cons ?_ ?_
        · refine se_op op_mul2 os_mul ?_ ?_
          · exact se_var 2
          · refine se_op op_add4 os_add ?_ ?_
            · refine se_op op_fdivW os_div ?_ ?_
              · exact se_var 2
              · exact se_int
            · exact se_int
        · exact sa_nil
      · exact se_int
    · refine sss_one ?_
      refine ss_ret ?_
      refine se_op op_mod os_mod ?_ ?_
      · refine se_callTy (call_int1) (cs_int) rfl T.b_int rfl ?_
        refine sa_cons ?_ ?_
        · refine se_op op_mul2 os_mul ?_ ?_
          · exact se_var 2
          · refine se_op op_add4 os_add ?_ ?_
            · refine se_op op_fdivW os_div ?_ ?_
              · exact se_var 2
              · exact se_int
            · exact se_int
        · exact sa_nil
      · exact se_int

theorem sc__law_digits : FnScope ["cell", "sizes", "row", "size", "k"] ["cell", "sizes"] (defScope s__law_digits) := ⟨rfl, rfl, rfl, by decide +kernel, rfl, by decide +kernel, by decide +kernel⟩
def g__law_digits : FS := (gSeq (gSet 2 (eLst []))
    (gSeq (gIf (eBin (dCmp fun i j => decide (j ≤ i)) (eVar 0) (eBin dPow (eC (.int 10)) (eC (.int 18)))) (gSeq (gFor (fiSeq (eVar 1)) (tName 3) (gSeq (gDrop (eLm lAppend (eVar 2) [(eBin dMod (eArgs bInt [(eVar 0)]) (eVar 3))]))
    (gSet 0 (eBin dDiv (eVar 0) (eVar 3)))))
    (gRet (eVar 2))) gNext)
    (gSeq (gFor (fiRg [(eArgs bLen [(eVar 1)])]) (tName 4) (gDrop (eLm lAppend (eVar 2) [(eBin dMod (eArgs bInt [(eBin dDiv (eArgs m__law_mixed [(eVar 0), (eVar 4)]) (eC (.int 16)))]) (eBin dIx (eVar 1) (eVar 4)))])))
    (gRet (eVar 2)))))
def m__law_digits : FF := runB 5 g__law_digits
theorem ok__law_digits (T : Txt K mg) : OkF P w K mg base 2 T.f__law_digits.f T.f__law_digits.fd ["cell", "sizes"] m__law_digits := by
  refine @okS P w K mg base "_law_digits" "_law_digits" s__law_digits T.f__law_digits.f T.f__law_digits.fd ["cell", "sizes", "row", "size", "k"] ["cell", "sizes"]  1 g__law_digits T.f__law_digits.fn sc__law_digits ?_
  intro cdv A outer s H E hr tk PO
  unfold g__law_digits
  refine sss_cons ?_ ?_
  · refine ss_set sc__law_digits.nd rfl (by first | exact Or.inl rfl | exact Or.inr rfl) ?_
    refine se_lst ?_
    exact sa_nil
  · refine sss_cons ?_ ?_
    · refine ss_if ?_ ?_ ?_
      · refine st_cmp op_ge os_cmp ?_ ?_ (nomark _)
        · exact se_var 0
        · refine se_op op_pow os_pow ?_ ?_
          · exact se_int
          · exact se_int
      · refine sss_cons ?_ ?_
        · refine ss_for (vs := [3]) (wk := false) PO rfl ?_ ?_ ?_
          · refine si_seq ?_
            exact se_var 1
          · exact sg_name sc__law_digits.nd rfl (by first | exact Or.inl rfl | exact Or.inr rfl)
          · refine sss_cons ?_ ?_
            · refine ss_expr ?_
              refine se_lm PySem.F.plainAttrs_list PySem.F.slot_list_append PySem.F.type_list_append mt_append ls_append ?_ ?_
              · exact se_var 2
              · refine sa_cons ?_ ?_
                · refine se_op op_mod os_mod ?_ ?_
                  · refine se_callTy (call_int1) (cs_int) rfl T.b_int rfl ?_
                    refine sa_cons ?_ ?_
                    · exact se_var 0
                    · exact sa_nil
                  · exact se_var 3
                · exact sa_nil
            · refine sss_one ?_
              refine ss_set sc__law_digits.nd rfl (by first | exact Or.inl rfl | exact Or.inr rfl) ?_
              refine se_op op_fdivW os_div ?_ ?_
              · exact se_var 0
              · exact se_var 3
        · refine sss_one ?_
          refine ss_ret ?_
          exact se_var 2
      · exact sss_nil
    · refine sss_cons ?_ ?_
      · refine ss_for (vs := [4]) (wk := false) PO rfl ?_ ?_ ?_
        · refine si_rg1 rfl T.b_range ?_
          refine sa_cons ?_ ?_
          · refine se_callB (call_len) (cs_len) rfl T.b_len rfl ?_
            refine sa_cons ?_ ?_
            · exact se_var 1
            · exact sa_nil
          · exact sa_nil
        · exact sg_name sc__law_digits.nd rfl (by first | exact Or.inl rfl | exact Or.inr rfl)
        · refine sss_one ?_
          refine ss_expr ?_
          refine se_lm PySem.F.plainAttrs_list PySem.F.slot_list_append PySem.F.type_list_append mt_append ls_append ?_ ?_
          · exact se_var 2
          · refine sa_cons ?_ ?_
            · refine se_op op_mod os_mod ?_ ?_
              · refine se_callTy (call_int1) (cs_int) rfl T.b_int rfl ?_
                refine sa_cons ?_ ?_
                · refine se_op op_fdivW os_div ?_ ?_
                  · refine se_callA T.f__law_mixed (ok__law_mixed T) tk (hr.mono (by decide)) rfl ?_
                    refine sa_cons ?_ ?_
                    · exact se_var 0
                    · refine sa_cons ?_ ?_
                      · exact se_var 4
                      · exact sa_nil
                  · exact se_int
                · exact sa_nil
              · refine se_ix ?_ ?_
                · exact se_var 1
                · exact se_var 4
            · exact sa_nil
      · refine sss_one ?_
        refine ss_ret ?_
        exact se_var 2

theorem sc__law_number : FnScope ["kind", "edge", "high", "low"] ["kind", "edge", "high", "low"] (defScope s__law_number) := ⟨rfl, rfl, rfl, by decide +kernel, rfl, by decide +kernel, by decide +kernel⟩
def g__law_number : FS := (gSeq (gIf (eBin dEq (eVar 0) (eC (.int 0))) (gRet (eBin dIx (eLst [(eC (.int 1)), (eC (.int 255)), (eC (.int 256)), (eC (.int 257)), (eC (.int 65535)), (eC (.int 65536)), (eC (.int 16777215)), (eC (.int 16777216)), (eC (.int 2147483648)), (eC (.int 4294967294)), (eC (.int 4294967295))]) (eVar 1))) gNext)
    (gRet (eBin dAdd (eC (.int 1)) (eBin dMod (eArgs bInt [(eBin dAdd (eBin dMul (eVar 2) (eC (.int 65536))) (eVar 3))]) (eC (.int 4294967295))))))
def m__law_number : FF := runB 4 g__law_number
theorem ok__law_number (T : Txt K mg) : OkF P w K mg base 1 T.f__law_number.f T.f__law_number.fd ["kind", "edge", "high", "low"] m__law_number := by
  refine @okS P w K mg base "_law_number" "_law_number" s__law_number T.f__law_number.f T.f__law_number.fd ["kind", "edge", "high", "low"] ["kind", "edge", "high", "low"]  0 g__law_number T.f__law_number.fn sc__law_number ?_
  intro cdv A outer s H E hr tk PO
  unfold g__law_number
  refine sss_cons ?_ ?_
  · refine ss_if ?_ ?_ ?_
    · refine st_cmp (op_eq2 hr.units) os_eq ?_ ?_ (nomark _)
      · exact se_var 0
      · exact se_int
    · refine sss_one ?_
      refine ss_ret ?_
      refine se_ix ?_ ?_
      · refine se_lst ?_
        refine sa_cons ?_ ?_
        · exact se_int
        · refine sa_cons ?_ ?_
          · exact se_int
          · refine sa_cons ?_ ?_
            · exact se_int
            · refine sa_cons ?_ ?_
              · exact se_int
              · refine sa_cons ?_ ?_
                · exact se_int
                · refine sa_cons ?_ ?_
                  · exact se_int
                  · refine sa_cons ?_ ?_
                    · exact se_int
                    · refine sa_cons ?_ ?_
                      · exact se_int
                      · refine sa_cons ?_ ?_
                        · exact se_int
                        · refine sa_cons ?_ ?_
                          · exact se_int
                          · refine sa_cons ?_ ?_
                            · exact se_int
                            · exact sa_nil
      · exact se_var 1
    · exact sss_nil
  · refine sss_one ?_
    refine ss_ret ?_
    refine se_op op_add4 os_add ?_ ?_
    · exact se_int
    · refine se_op op_mod os_mod ?_ ?_
      · refine se_callTy (call_int1) (cs_int) rfl T.b_int rfl ?_
        refine sa_cons ?_ ?_
        · refine se_op op_add4 os_add ?_ ?_
          · refine se_op op_mul2 os_mul ?_ ?_
            · exact se_var 2
            · exact se_int
          · exact se_var 3
        · exact sa_nil
      · exact se_int

theorem sc__law_value : FnScope ["cell", "head", "many"] ["cell"] (defScope s__law_value) := ⟨rfl, rfl, rfl, by decide +kernel, rfl, by decide +kernel, by decide +kernel⟩
def g__law_value : FS := (gSeq (gSet 1 (eArgs m__law_digits [(eVar 0), (eLst [(eC (.int 4)), (eC (.int 51))])]))
    (gSeq (gSet 2 (eBin dIx (eVar 1) (eC (.int 1))))
    (gSeq (gIf (eBin (dCmp fun i j => decide (j < i)) (eBin dIx (eVar 1) (eC (.int 0))) (eC (.int 1))) (gSet 2 (eBin dMod (eArgs bInt [(eVar 2)]) (eC (.int 5)))) gNext)
    (gRet (eArgs bTuple [(eSl (eArgs m__law_digits [(eVar 0), (eBin dAdd (eLst [(eC (.int 4)), (eC (.int 51))]) (eBin dMul (eLst [(eC (.int 256))]) (eVar 2)))]) (some (eC (.int 2))) none)])))))
def m__law_value : FF := runB 3 g__law_value
theorem ok__law_value (T : Txt K mg) : OkF P w K mg base 3 T.f__law_value.f T.f__law_value.fd ["cell"] m__law_value := by
  refine @okS P w K mg base "_law_value" "_law_value" s__law_value T.f__law_value.f T.f__law_value.fd ["cell", "head", "many"] ["cell"]  2 g__law_value T.f__law_value.fn sc__law_value ?_
  intro cdv A outer s H E hr tk PO
  unfold g__law_value
  refine sss_cons ?_ ?_
  · refine ss_set sc__law_value.nd rfl (by first | exact Or.inl rfl | exact Or.inr rfl) ?_
    refine se_callA T.f__law_digits (ok__law_digits T) tk (hr.mono (by decide)) rfl ?_
    refine sa_cons ?_ ?_
    · exact se_var 0
    · refine sa_cons ?_ ?_
      · refine se_lst ?_
        refine sa_cons ?_ ?_
        · exact se_int
        · refine sa_cons ?_ ?_
          · exact se_int
          · exact sa_nil
      · exact sa_nil
  · refine sss_cons ?_ ?_
    · refine ss_set sc__law_value.nd rfl (by first | exact Or.inl rfl | exact Or.inr rfl) ?_
      refine se_ix ?_ ?_
      · exact se_var 1
      · exact se_int
    · refine sss_cons ?_ ?_
      · refine ss_if ?_ ?_ ?_
        · refine st_cmp op_gt os_cmp ?_ ?_ (nomark _)
          · refine se_ix ?_ ?_
            · exact se_var 1
            · exact se_int
          · exact se_int
        · refine sss_one ?_
          refine ss_set sc__law_value.nd rfl (by first | exact Or.inl rfl | exact Or.inr rfl) ?_
          refine se_op op_mod os_mod ?_ ?_
          · refine se_callTy (call_int1) (cs_int) rfl T.b_int rfl ?_
            refine sa_cons ?_ ?_
            · exact se_var 2
            · exact sa_nil
          · exact se_int
        · exact sss_nil
      · refine sss_one ?_
        refine ss_ret ?_
        refine se_callTy (call_tuple_ofF) (cs_tuple) rfl T.b_tuple rfl ?_
        refine sa_cons ?_ ?_
        · refine se_sl ?_ ?_ ?_
          · refine se_callA T.f__law_digits (ok__law_digits T) tk (hr.mono (by decide)) rfl ?_
            refine sa_cons ?_ ?_
            · exact se_var 0
            · refine sa_cons ?_ ?_
              · refine se_op op_add4 os_add ?_ ?_
                · refine se_lst ?_
                  refine sa_cons ?_ ?_
                  · exact se_int
                  · refine sa_cons ?_ ?_
                    · exact se_int
                    · exact sa_nil
                · refine se_op op_mul2 os_mul ?_ ?_
                  · refine se_lst ?_
                    refine sa_cons ?_ ?_
                    · exact se_int
                    · exact sa_nil
                  · exact se_var 2
              · exact sa_nil
          · refine SO.yes ?_
            exact se_int
          · exact SO.no
        · exact sa_nil

theorem sc__law_parts : FnScope ["cell", "other", "digits"] ["cell", "other"] (defScope s__law_parts) := ⟨rfl, rfl, rfl, by decide +kernel, rfl, by decide +kernel, by decide +kernel⟩
def g__law_parts : FS := (gSeq (gSet 2 (eArgs m__law_digits [(eVar 0), (eLst [(eC (.int 9)), (eC (.int 3)), (eC (.int 11)), (eC (.int 65536)), (eC (.int 65536))])]))
    (gRet (eLst [(eBin dIx (eVar 2) (eC (.int 0))), (eArgs m__law_number [(eBin dIx (eVar 2) (eC (.int 1))), (eBin dIx (eVar 2) (eC (.int 2))), (eBin dIx (eVar 2) (eC (.int 3))), (eBin dIx (eVar 2) (eC (.int 4)))]), (eArgs m__law_value [(eVar 1)])])))
def m__law_parts : FF := runB 3 g__law_parts
theorem ok__law_parts (T : Txt K mg) : OkF P w K mg base 4 T.f__law_parts.f T.f__law_parts.fd ["cell", "other"] m__law_parts := by
  refine @okS P w K mg base "_law_parts" "_law_parts" s__law_parts T.f__law_parts.f T.f__law_parts.fd ["cell", "other", "digits"] ["cell", "other"]  3 g__law_parts T.f__law_parts.fn sc__law_parts ?_
  intro cdv A outer s H E hr tk PO
  unfold g__law_parts
  refine sss_cons ?_ ?_
  · refine ss_set sc__law_parts.nd rfl (by first | exact Or.inl rfl | exact Or.inr rfl) ?_
    refine se_callA T.f__law_digits (ok__law_digits T) tk (hr.mono (by decide)) rfl ?_
    refine sa_cons ?_ ?_
    · exact se_var 0
    · refine sa_cons ?_ ?_
      · refine se_lst ?_
        refine sa_cons ?_ ?_
        · exact se_int
        · refine sa_cons ?_ ?_
          · exact se_int
          · refine sa_cons ?_ ?_
            · exact se_int
            · refine sa_cons ?_ ?_
              · exact se_int
              · refine sa_cons ?_ ?_
                · exact se_int
                · exact sa_nil
      · exact sa_nil
  · refine sss_one ?_
    refine ss_ret ?_
    refine se_lst ?_
    refine sa_cons ?_ ?_
    · refine se_ix ?_ ?_
      · exact se_var 2
      · exact se_int
    · refine sa_cons ?_ ?_
      · refine se_callA T.f__law_number (ok__law_number T) tk (hr.mono (by decide)) rfl ?_
        refine sa_cons ?_ ?_
        · refine se_ix ?_ ?_
          · exact se_var 2
          · exact se_int
        · refine sa_cons ?_ ?_
          · refine se_ix ?_ ?_
            · exact se_var 2
            · exact se_int
          · refine sa_cons ?_ ?_
            · refine se_ix ?_ ?_
              · exact se_var 2
              · exact se_int
            · refine sa_cons ?_ ?_
              · refine se_ix ?_ ?_
                · exact se_var 2
                · exact se_int
              · exact sa_nil
      · refine sa_cons ?_ ?_
        · refine se_callA T.f__law_value (ok__law_value T) tk (hr.mono (by decide)) rfl ?_
          refine sa_cons ?_ ?_
          · exact se_var 1
          · exact sa_nil
        · exact sa_nil

theorem sc__law_check : FnScope ["row", "total", "byte"] ["row"] (defScope s__law_check) := ⟨rfl, rfl, rfl, by decide +kernel, rfl, by decide +kernel, by decide +kernel⟩
def g__law_check : FS := (gSeq (gSet 1 (eC (.int 1)))
    (gSeq (gFor (fiSeq (eVar 0)) (tName 2) (gSet 1 (eBin dMod (eArgs bInt [(eBin dAdd (eBin dMul (eVar 1) (eC (.int 31))) (eVar 2))]) (eC (.int 65521)))))
    (gRet (eVar 1))))
def m__law_check : FF := runB 3 g__law_check
theorem ok__law_check (T : Txt K mg) : OkF P w K mg base 1 T.f__law_check.f T.f__law_check.fd ["row"] m__law_check := by
  refine @okS P w K mg base "_law_check" "_law_check" s__law_check T.f__law_check.f T.f__law_check.fd ["row", "total", "byte"] ["row"]  0 g__law_check T.f__law_check.fn sc__law_check ?_
  intro cdv A outer s H E hr tk PO
  unfold g__law_check
  refine sss_cons ?_ ?_
  · refine ss_set sc__law_check.nd rfl (by first | exact Or.inl rfl | exact Or.inr rfl) ?_
    exact se_int
  · refine sss_cons ?_ ?_
    · refine ss_for (vs := [2]) (wk := false) PO rfl ?_ ?_ ?_
      · refine si_seq ?_
        exact se_var 0
      · exact sg_name sc__law_check.nd rfl (by first | exact Or.inl rfl | exact Or.inr rfl)
      · refine sss_one ?_
        refine ss_set sc__law_check.nd rfl (by first | exact Or.inl rfl | exact Or.inr rfl) ?_
        refine se_op op_mod os_mod ?_ ?_
        · refine se_callTy (call_int1) (cs_int) rfl T.b_int rfl ?_
          refine sa_cons ?_ ?_
          · refine se_op op_add4 os_add ?_ ?_
            · refine se_op op_mul2 os_mul ?_ ?_
              · exact se_var 1
              · exact se_int
            · exact se_var 2
          · exact sa_nil
        · exact se_int
    · refine sss_one ?_
      refine ss_ret ?_
      exact se_var 1

theorem sc__law_record : FnScope ["key", "number", "value", "row", "weight", "total"] ["key", "number", "value"] (defScope s__law_record) := ⟨rfl, rfl, rfl, by decide +kernel, rfl, by decide +kernel, by decide +kernel⟩
def g__law_record : FS := (gSeq (gSet 3 (eLst [(eC (.int 165)), (eVar 0)]))
    (gSeq (gFor (fiSeq (eLst [(eC (.int 16777216)), (eC (.int 65536)), (eC (.int 256)), (eC (.int 1))])) (tName 4) (gDrop (eLm lAppend (eVar 3) [(eBin dMod (eArgs bInt [(eBin dDiv (eVar 1) (eVar 4))]) (eC (.int 256)))])))
    (gSeq (gSet 3 (eBin dAdd (eBin dAdd (eVar 3) (eLst [(eArgs bLen [(eVar 2)])])) (eArgs bList [(eVar 2)])))
    (gSeq (gSet 5 (eArgs m__law_check [(eVar 3)]))
    (gRet (eArgs bTuple [(eBin dAdd (eVar 3) (eLst [(eBin dDiv (eVar 5) (eC (.int 256))), (eBin dMod (eArgs bInt [(eVar 5)]) (eC (.int 256)))]))]))))))
def m__law_record : FF := runB 6 g__law_record
theorem ok__law_record (T : Txt K mg) : OkF P w K mg base 2 T.f__law_record.f T.f__law_record.fd ["key", "number", "value"] m__law_record := by
  refine @okS P w K mg base "_law_record" "_law_record" s__law_record T.f__law_record.f T.f__law_record.fd ["key", "number", "value", "row", "weight", "total"] ["key", "number", "value"]  1 g__law_record T.f__law_record.fn sc__law_record ?_
  intro cdv A outer s H E hr tk PO
  unfold g__law_record
  refine sss_cons ?_ ?_
  · refine ss_set sc__law_record.nd rfl (by first | exact Or.inl rfl | exact Or.inr rfl) ?_
    refine se_lst ?_
    refine sa_cons ?_ ?_
    · exact se_int
    · refine sa_cons ?_ ?_
      · exact se_var 0
      · exact sa_nil
  · refine sss_cons ?_ ?_
    · refine ss_for (vs := [4]) (wk := false) PO rfl ?_ ?_ ?_
      · refine si_seq ?_
        refine se_lst ?_
        refine sa_cons ?_ ?_
        · exact se_int
        · refine sa_cons ?_ ?_
          · exact se_int
          · refine sa_cons ?_ ?_
            · exact se_int
            · refine sa_cons ?_ ?_
              · exact se_int
              · exact sa_nil
      · exact sg_name sc__law_record.nd rfl (by first | exact Or.inl rfl | exact Or.inr rfl)
      · refine sss_one ?_
        refine ss_expr ?_
        refine se_lm PySem.F.plainAttrs_list PySem.F.slot_list_append PySem.F.type_list_append mt_append ls_append ?_ ?_
        · exact se_var 3
        · refine sa_cons ?_ ?_
          · refine se_op op_mod os_mod ?_ ?_
            · refine se_callTy (call_int1) (cs_int) rfl T.b_int rfl ?_
              refine sa_cons ?_ ?_
              · refine se_op op_fdivW os_div ?_ ?_
                · exact se_var 1
                · exact se_var 4
              · exact sa_nil
            · exact se_int
          · exact sa_nil
    · refine sss_cons ?_ ?_
      · refine ss_set sc__law_record.nd rfl (by first | exact Or.inl rfl | exact Or.inr rfl) ?_
        refine se_op op_add4 os_add ?_ ?_
        · refine se_op op_add4 os_add ?_ ?_
          · exact se_var 3
          · refine se_lst ?_
            refine sa_cons ?_ ?_
            · refine se_callB (call_len) (cs_len) rfl T.b_len rfl ?_
              refine sa_cons ?_ ?_
              · exact se_var 2
              · exact sa_nil
            · exact sa_nil
        · refine se_callTy (call_list_of) (cs_list) rfl T.b_list rfl ?_
          refine sa_cons ?_ ?_
          · exact se_var 2
          · exact sa_nil
      · refine sss_cons ?_ ?_
        · refine ss_set sc__law_record.nd rfl (by first | exact Or.inl rfl | exact Or.inr rfl) ?_
          refine se_callA T.f__law_check (ok__law_check T) tk (hr.mono (by decide)) rfl ?_
          refine sa_cons ?_ ?_
          · exact se_var 3
          · exact sa_nil
        · refine sss_one ?_
          refine ss_ret ?_
          refine se_callTy (call_tuple_ofF) (cs_tuple) rfl T.b_tuple rfl ?_
          refine sa_cons ?_ ?_
          · refine se_op op_add4 os_add ?_ ?_
            · exact se_var 3
            · refine se_lst ?_
              refine sa_cons ?_ ?_
              · refine se_op op_fdivW os_div ?_ ?_
                · exact se_var 5
                · exact se_int
              · refine sa_cons ?_ ?_
                · refine se_op op_mod os_mod ?_ ?_
                  · refine se_callTy (call_int1) (cs_int) rfl T.b_int rfl ?_
                    refine sa_cons ?_ ?_
                    · exact se_var 5
                    · exact sa_nil
                  · exact se_int
                · exact sa_nil
          · exact sa_nil

theorem sc_is_whole : FnScope ["thing", "low", "high"] ["thing", "low", "high"] (defScope s_is_whole) := ⟨rfl, rfl, rfl, by decide +kernel, rfl, by decide +kernel, by decide +kernel⟩
def g_is_whole : FS := (gRet (eAnd (eIsi "int" (eVar 0)) (eAnd (eNot (eIsi "bool" (eVar 0))) (eChain (dCmp fun i j => decide (i ≤ j)) (dCmp fun i j => decide (i ≤ j)) (eVar 1) (eVar 0) (eVar 2)))))
def m_is_whole : FF := runB 3 g_is_whole
theorem ok_is_whole (T : Txt K mg) : OkF P w K mg base 1 T.f_is_whole.f T.f_is_whole.fd ["thing", "low", "high"] m_is_whole := by
  refine @okS P w K mg base "is_whole" "is_whole" s_is_whole T.f_is_whole.f T.f_is_whole.fd ["thing", "low", "high"] ["thing", "low", "high"]  0 g_is_whole T.f_is_whole.fn sc_is_whole ?_
  intro cdv A outer s H E hr tk PO
  unfold g_is_whole
  refine sss_one ?_
  refine ss_ret ?_
  refine se_and ?_ ?_
  · refine se_isi ?_ rfl T.b_isinstance rfl rfl T.b_int rfl
    exact se_var 0
  · refine se_and ?_ ?_
    · refine se_not ?_
      refine se_isi ?_ rfl T.b_isinstance rfl rfl T.b_bool rfl
      exact se_var 0
    · refine se_one ?_
      refine se_chain op_le op_le os_cmp os_cmp ?_ ?_ ?_
      · exact se_var 1
      · exact se_var 0
      · exact se_var 2

theorem sc_is_key : FnScope ["thing", "keys"] ["thing", "keys"] (defScope s_is_key) := ⟨rfl, rfl, rfl, by decide +kernel, rfl, by decide +kernel, by decide +kernel⟩
def g_is_key : FS := (gRet (eArgs m_is_whole [(eVar 0), (eC (.int 0)), (eBin dSub (eVar 1) (eC (.int 1)))]))
def m_is_key : FF := runB 2 g_is_key
theorem ok_is_key (T : Txt K mg) : OkF P w K mg base 2 T.f_is_key.f T.f_is_key.fd ["thing", "keys"] m_is_key := by
  refine @okS P w K mg base "is_key" "is_key" s_is_key T.f_is_key.f T.f_is_key.fd ["thing", "keys"] ["thing", "keys"]  1 g_is_key T.f_is_key.fn sc_is_key ?_
  intro cdv A outer s H E hr tk PO
  unfold g_is_key
  refine sss_one ?_
  refine ss_ret ?_
  refine se_callA T.f_is_whole (ok_is_whole T) tk (hr.mono (by decide)) rfl ?_
  refine sa_cons ?_ ?_
  · exact se_var 0
  · refine sa_cons ?_ ?_
    · exact se_int
    · refine sa_cons ?_ ?_
      · refine se_op op_sub os_sub ?_ ?_
        · exact se_var 1
        · exact se_int
      · exact sa_nil

theorem sc_are_bytes : FnScope ["thing", "most", "byte"] ["thing", "most"] (defScope s_are_bytes) := ⟨rfl, rfl, rfl, by decide +kernel, rfl, by decide +kernel, by decide +kernel⟩
def g_are_bytes : FS := (gRet (eAnd (eIsi "tuple" (eVar 0)) (eAnd (eBin (dCmp fun i j => decide (i ≤ j)) (eArgs bLen [(eVar 0)]) (eVar 1)) (eArgs bAll [(eLc (fiSeq (eVar 0)) (tName 2) (eC (.bl true)) (eArgs m_is_whole [(eVar 2), (eC (.int 0)), (eC (.int 255))]) [2])]))))
def m_are_bytes : FF := runB 3 g_are_bytes
theorem ok_are_bytes (T : Txt K mg) : OkF P w K mg base 2 T.f_are_bytes.f T.f_are_bytes.fd ["thing", "most"] m_are_bytes := by
  refine @okS P w K mg base "are_bytes" "are_bytes" s_are_bytes T.f_are_bytes.f T.f_are_bytes.fd ["thing", "most", "byte"] ["thing", "most"]  1 g_are_bytes T.f_are_bytes.fn sc_are_bytes ?_
  intro cdv A outer s H E hr tk PO
  unfold g_are_bytes
  refine sss_one ?_
  refine ss_ret ?_
  refine se_and ?_ ?_
  · refine se_isi ?_ rfl T.b_isinstance rfl rfl T.b_tuple rfl
    exact se_var 0
  · refine se_and ?_ ?_
    · refine se_cmp op_le os_cmp ?_ ?_ (nomark _)
      · refine se_callB (call_len) (cs_len) rfl T.b_len rfl ?_
        refine sa_cons ?_ ?_
        · exact se_var 0
        · exact sa_nil
      · exact se_var 1
    · refine se_one ?_
      refine se_callB (cr_all rfl) (cs_quant _) rfl T.b_all rfl ?_
      refine sa_cons ?_ ?_
      · refine se_lc (own := [("byte", 2)]) (vs := [2]) (wk := false) rfl sc_are_bytes.nd ?_ (show BlkOk ["thing", "most", "byte"] (defScope s_are_bytes) _ _ from ⟨rfl, by decide +kernel, by decide +kernel, by decide +kernel, by decide +kernel⟩) (fun _ _ _ _ _ => ?_) (fun _ _ _ _ _ => ?_) (fun _ _ _ _ _ => ?_)
        · refine si_seq ?_
          exact se_var 0
        · exact sg_name sc_are_bytes.nd rfl (by first | exact Or.inl rfl | exact Or.inr rfl)
        · exact sts_nil
        · refine se_callA T.f_is_whole (ok_is_whole T) takesW0 (hr.mono (by decide)) rfl ?_
          refine sa_cons ?_ ?_
          · exact se_var 2
          · refine sa_cons ?_ ?_
            · exact se_int
            · refine sa_cons ?_ ?_
              · exact se_int
              · exact sa_nil
      · exact sa_nil

theorem sc_is_value : FnScope ["thing"] ["thing"] (defScope s_is_value) := ⟨rfl, rfl, rfl, by decide +kernel, rfl, by decide +kernel, by decide +kernel⟩
def g_is_value : FS := (gRet (eArgs m_are_bytes [(eVar 0), (eC (.int 50))]))
def m_is_value : FF := runB 1 g_is_value
theorem ok_is_value (T : Txt K mg) : OkF P w K mg base 3 T.f_is_value.f T.f_is_value.fd ["thing"] m_is_value := by
  refine @okS P w K mg base "is_value" "is_value" s_is_value T.f_is_value.f T.f_is_value.fd ["thing"] ["thing"]  2 g_is_value T.f_is_value.fn sc_is_value ?_
  intro cdv A outer s H E hr tk PO
  unfold g_is_value
  refine sss_one ?_
  refine ss_ret ?_
  refine se_callA T.f_are_bytes (ok_are_bytes T) tk (hr.mono (by decide)) rfl ?_
  refine sa_cons ?_ ?_
  · exact se_var 0
  · refine sa_cons ?_ ?_
    · exact se_gint (t := T.c_MOST_VALUE.choose) rfl T.c_MOST_VALUE.choose_spec
    · exact sa_nil

theorem sc_bytes_of : FnScope ["number", "many", "found", "_"] ["number", "many"] (defScope s_bytes_of) := ⟨rfl, rfl, rfl, by decide +kernel, rfl, by decide +kernel, by decide +kernel⟩
def g_bytes_of : FS := (gSeq (gSet 2 (eTup []))
    (gSeq (gFor (fiRg [(eVar 1)]) (tName 3) (gSeq (gSet 2 (eBin dAdd (eTup [(eBin dMod (eVar 0) (eC (.int 256)))]) (eVar 2)))
    (gSet 0 (eBin dDiv (eVar 0) (eC (.int 256))))))
    (gRet (eVar 2))))
def m_bytes_of : FF := runB 4 g_bytes_of
theorem ok_bytes_of (T : Txt K mg) : OkF P w K mg base 1 T.f_bytes_of.f T.f_bytes_of.fd ["number", "many"] m_bytes_of := by
  refine @okS P w K mg base "bytes_of" "bytes_of" s_bytes_of T.f_bytes_of.f T.f_bytes_of.fd ["number", "many", "found", "_"] ["number", "many"]  0 g_bytes_of T.f_bytes_of.fn sc_bytes_of ?_
  intro cdv A outer s H E hr tk PO
  unfold g_bytes_of
  refine sss_cons ?_ ?_
  · refine ss_set sc_bytes_of.nd rfl (by first | exact Or.inl rfl | exact Or.inr rfl) ?_
    refine se_tup ?_
    exact sa_nil
  · refine sss_cons ?_ ?_
    · refine ss_for (vs := [3]) (wk := false) PO rfl ?_ ?_ ?_
      · refine si_rg1 rfl T.b_range ?_
        refine sa_cons ?_ ?_
        · exact se_var 1
        · exact sa_nil
      · exact sg_name sc_bytes_of.nd rfl (by first | exact Or.inl rfl | exact Or.inr rfl)
      · refine sss_cons ?_ ?_
        · refine ss_set sc_bytes_of.nd rfl (by first | exact Or.inl rfl | exact Or.inr rfl) ?_
          refine se_op op_add4 os_add ?_ ?_
          · refine se_tup ?_
            refine sa_cons ?_ ?_
            · refine se_op op_mod os_mod ?_ ?_
              · exact se_var 0
              · exact se_int
            · exact sa_nil
          · exact se_var 2
        · refine sss_one ?_
          refine ss_set sc_bytes_of.nd rfl (by first | exact Or.inl rfl | exact Or.inr rfl) ?_
          refine se_op op_fdivW os_div ?_ ?_
          · exact se_var 0
          · exact se_int
    · refine sss_one ?_
      refine ss_ret ?_
      exact se_var 2

theorem sc_check_of : FnScope ["parts", "check", "byte"] ["parts"] (defScope s_check_of) := ⟨rfl, rfl, rfl, by decide +kernel, rfl, by decide +kernel, by decide +kernel⟩
def g_check_of : FS := (gSeq (gSet 1 (eC (.int 1)))
    (gSeq (gFor (fiSeq (eVar 0)) (tName 2) (gSet 1 (eBin dMod (eBin dAdd (eBin dMul (eVar 1) (eC (.int 31))) (eVar 2)) (eC (.int 65521)))))
    (gRet (eVar 1))))
def m_check_of : FF := runB 3 g_check_of
theorem ok_check_of (T : Txt K mg) : OkF P w K mg base 1 T.f_check_of.f T.f_check_of.fd ["parts"] m_check_of := by
  refine @okS P w K mg base "check_of" "check_of" s_check_of T.f_check_of.f T.f_check_of.fd ["parts", "check", "byte"] ["parts"]  0 g_check_of T.f_check_of.fn sc_check_of ?_
  intro cdv A outer s H E hr tk PO
  unfold g_check_of
  refine sss_cons ?_ ?_
  · refine ss_set sc_check_of.nd rfl (by first | exact Or.inl rfl | exact Or.inr rfl) ?_
    exact se_int
  · refine sss_cons ?_ ?_
    · refine ss_for (vs := [2]) (wk := false) PO rfl ?_ ?_ ?_
      · refine si_seq ?_
        exact se_var 0
      · exact sg_name sc_check_of.nd rfl (by first | exact Or.inl rfl | exact Or.inr rfl)
      · refine sss_one ?_
        refine ss_set sc_check_of.nd rfl (by first | exact Or.inl rfl | exact Or.inr rfl) ?_
        refine se_op op_mod os_mod ?_ ?_
        · refine se_op op_add4 os_add ?_ ?_
          · refine se_op op_mul2 os_mul ?_ ?_
            · exact se_var 1
            · exact se_int
          · exact se_var 2
        · exact se_int
    · refine sss_one ?_
      refine ss_ret ?_
      exact se_var 1

theorem sc_record : FnScope ["key", "number", "value", "body"] ["key", "number", "value"] (defScope s_record) := ⟨rfl, rfl, rfl, by decide +kernel, rfl, by decide +kernel, by decide +kernel⟩
def g_record : FS := (gSeq (gIf (eOr (eNot (eArgs m_is_key [(eVar 0), (eC (.int 9))])) (eOr (eNot (eArgs m_is_whole [(eVar 1), (eC (.int 1)), (eC (.int 4294967295))])) (eNot (eArgs m_is_value [(eVar 2)])))) (gRaise "NoRecord") gNext)
    (gSeq (gSet 3 (eBin dAdd (eBin dAdd (eBin dAdd (eTup [(eC (.int 165)), (eVar 0)]) (eArgs m_bytes_of [(eVar 1), (eC (.int 4))])) (eTup [(eArgs bLen [(eVar 2)])])) (eVar 2)))
    (gRet (eBin dAdd (eVar 3) (eArgs m_bytes_of [(eArgs m_check_of [(eVar 3)]), (eC (.int 2))])))))
def m_record : FF := runB 4 g_record
theorem ok_record (T : Txt K mg) : OkF P w K mg base 4 T.f_record.f T.f_record.fd ["key", "number", "value"] m_record := by
  refine @okS P w K mg base "record" "record" s_record T.f_record.f T.f_record.fd ["key", "number", "value", "body"] ["key", "number", "value"]  3 g_record T.f_record.fn sc_record ?_
  intro cdv A outer s H E hr tk PO
  unfold g_record
  refine sss_cons ?_ ?_
  · refine ss_if ?_ ?_ ?_
    · refine SW.st ?_
      refine sw_or ?_ ?_
      · refine st_not ?_
        refine st_val ?_
        refine se_callA T.f_is_key (ok_is_key T) tk (hr.mono (by decide)) rfl ?_
        refine sa_cons ?_ ?_
        · exact se_var 0
        · refine sa_cons ?_ ?_
          · exact se_gint (t := T.c_MOST_KEYS.choose) rfl T.c_MOST_KEYS.choose_spec
          · exact sa_nil
      · refine sw_or ?_ ?_
        · refine st_not ?_
          refine st_val ?_
          refine se_callA T.f_is_whole (ok_is_whole T) tk (hr.mono (by decide)) rfl ?_
          refine sa_cons ?_ ?_
          · exact se_var 1
          · refine sa_cons ?_ ?_
            · exact se_int
            · refine sa_cons ?_ ?_
              · exact se_gint (t := T.c_MOST_NUMBER.choose) rfl T.c_MOST_NUMBER.choose_spec
              · exact sa_nil
        · refine sw_or1 ?_
          refine st_not ?_
          refine st_val ?_
          refine se_callA T.f_is_value (ok_is_value T) tk (hr.mono (by decide)) rfl ?_
          refine sa_cons ?_ ?_
          · exact se_var 2
          · exact sa_nil
    · refine sss_one ?_
      exact ss_raise rfl tk T.e_NoRecord.t rfl
    · exact sss_nil
  · refine sss_cons ?_ ?_
    · refine ss_set sc_record.nd rfl (by first | exact Or.inl rfl | exact Or.inr rfl) ?_
      refine se_op op_add4 os_add ?_ ?_
      · refine se_op op_add4 os_add ?_ ?_
        · refine se_op op_add4 os_add ?_ ?_
          · refine se_tup ?_
            refine sa_cons ?_ ?_
            · exact se_gint (t := T.c_FIRST_BYTE.choose) rfl T.c_FIRST_BYTE.choose_spec
            · refine sa_cons ?_ ?_
              · exact se_var 0
              · exact sa_nil
          · refine se_callA T.f_bytes_of (ok_bytes_of T) tk (hr.mono (by decide)) rfl ?_
            refine sa_cons ?_ ?_
            · exact se_var 1
            · refine sa_cons ?_ ?_
              · exact se_int
              · exact sa_nil
        · refine se_tup ?_
          refine sa_cons ?_ ?_
          · refine se_callB (call_len) (cs_len) rfl T.b_len rfl ?_
            refine sa_cons ?_ ?_
            · exact se_var 2
            · exact sa_nil
          · exact sa_nil
      · exact se_var 2
    · refine sss_one ?_
      refine ss_ret ?_
      refine se_op op_add4 os_add ?_ ?_
      · exact se_var 3
      · refine se_callA T.f_bytes_of (ok_bytes_of T) tk (hr.mono (by decide)) rfl ?_
        refine sa_cons ?_ ?_
        · refine se_callA T.f_check_of (ok_check_of T) tk (hr.mono (by decide)) rfl ?_
          refine sa_cons ?_ ?_
          · exact se_var 3
          · exact sa_nil
        · refine sa_cons ?_ ?_
          · exact se_gint (t := T.c_BEHIND.choose) rfl T.c_BEHIND.choose_spec
          · exact sa_nil

theorem sc__law_same : FnScope ["got", "due", "k"] ["got", "due"] (defScope s__law_same) := ⟨rfl, rfl, rfl, by decide +kernel, rfl, by decide +kernel, by decide +kernel⟩
def g__law_same (rec_ : FF) : FS := (gSeq (gIf (eBin dIs (eVar 1) (eC .non)) (gRet (eBin dIs (eVar 0) (eC .non))) gNext)
    (gSeq (gIf (eIsi "int" (eVar 1)) (gRet (eAnd (eIsi "int" (eVar 0)) (eAnd (eNot (eIsi "bool" (eVar 0))) (eBin dEq (eVar 0) (eVar 1))))) gNext)
    (gSeq (gIf (eOr (eNot (eIsi "tuple" (eVar 0))) (eBin dNe (eArgs bLen [(eVar 0)]) (eArgs bLen [(eVar 1)]))) (gRet (eC (.bl false))) gNext)
    (gSeq (gFor (fiRg [(eArgs bLen [(eVar 1)])]) (tName 2) (gIf (eNot (eArgs rec_ [(eBin dIx (eVar 0) (eVar 2)), (eBin dIx (eVar 1) (eVar 2))])) (gRet (eC (.bl false))) gNext))
    (gRet (eC (.bl true)))))))
def m__law_same : Nat → FF
  | 0 => fun _ _ => .bad
  | n + 1 => runB 3 (g__law_same (m__law_same n))
theorem ok__law_same (T : Txt K mg) : ∀ n : Nat, OkF P w K mg base (0 + n + 1) T.f__law_same.f T.f__law_same.fd ["got", "due"] (m__law_same n)
  | 0 => @okS P w K mg base "_law_same" "_law_same" s__law_same T.f__law_same.f T.f__law_same.fd ["got", "due", "k"] ["got", "due"]  0 gBad T.f__law_same.fn sc__law_same fun cdv A outer s H E hr tk PO => sss_bad
  | n + 1 => by
    have ih := ok__law_same T n
    refine @okS P w K mg base "_law_same" "_law_same" s__law_same T.f__law_same.f T.f__law_same.fd ["got", "due", "k"] ["got", "due"]  (0 + n + 1) (g__law_same (m__law_same n)) T.f__law_same.fn sc__law_same ?_
    intro cdv A outer s H E hr tk PO
    unfold g__law_same
    refine sss_cons ?_ ?_
    · refine ss_if ?_ ?_ ?_
      · refine st_cmp op_is3 os_is ?_ ?_ (nomark _)
        · exact se_var 1
        · exact se_non
      · refine sss_one ?_
        refine ss_ret ?_
        refine se_cmp op_is3 os_is ?_ ?_ (nomark _)
        · exact se_var 0
        · exact se_non
      · exact sss_nil
    · refine sss_cons ?_ ?_
      · refine ss_if ?_ ?_ ?_
        · refine st_val ?_
          refine se_isi ?_ rfl T.b_isinstance rfl rfl T.b_int rfl
          exact se_var 1
        · refine sss_one ?_
          refine ss_ret ?_
          refine se_and ?_ ?_
          · refine se_isi ?_ rfl T.b_isinstance rfl rfl T.b_int rfl
            exact se_var 0
          · refine se_and ?_ ?_
            · refine se_not ?_
              refine se_isi ?_ rfl T.b_isinstance rfl rfl T.b_bool rfl
              exact se_var 0
            · refine se_one ?_
              refine se_cmp (op_eq2 hr.units) os_eq ?_ ?_ (nomark _)
              · exact se_var 0
              · exact se_var 1
        · exact sss_nil
      · refine sss_cons ?_ ?_
        · refine ss_if ?_ ?_ ?_
          · refine SW.st ?_
            refine sw_or ?_ ?_
            · refine st_not ?_
              refine st_val ?_
              refine se_isi ?_ rfl T.b_isinstance rfl rfl T.b_tuple rfl
              exact se_var 0
            · refine sw_or1 ?_
              refine st_cmp (op_ne2 hr.units) os_ne ?_ ?_ (nomark _)
              · refine se_callB (call_len) (cs_len) rfl T.b_len rfl ?_
                refine sa_cons ?_ ?_
                · exact se_var 0
                · exact sa_nil
              · refine se_callB (call_len) (cs_len) rfl T.b_len rfl ?_
                refine sa_cons ?_ ?_
                · exact se_var 1
                · exact sa_nil
          · refine sss_one ?_
            refine ss_ret ?_
            exact se_bl
          · exact sss_nil
        · refine sss_cons ?_ ?_
          · refine ss_for (vs := [2]) (wk := false) PO rfl ?_ ?_ ?_
            · refine si_rg1 rfl T.b_range ?_
              refine sa_cons ?_ ?_
              · refine se_callB (call_len) (cs_len) rfl T.b_len rfl ?_
                refine sa_cons ?_ ?_
                · exact se_var 1
                · exact sa_nil
              · exact sa_nil
            · exact sg_name sc__law_same.nd rfl (by first | exact Or.inl rfl | exact Or.inr rfl)
            · refine sss_one ?_
              refine ss_if ?_ ?_ ?_
              · refine st_not ?_
                refine st_val ?_
                refine se_callA T.f__law_same ih tk (hr.mono (by omega)) rfl ?_
                refine sa_cons ?_ ?_
                · refine se_ix ?_ ?_
                  · exact se_var 0
                  · exact se_var 2
                · refine sa_cons ?_ ?_
                  · refine se_ix ?_ ?_
                    · exact se_var 1
                    · exact se_var 2
                  · exact sa_nil
              · refine sss_one ?_
                refine ss_ret ?_
                exact se_bl
              · exact sss_nil
          · refine sss_one ?_
            refine ss_ret ?_
            exact se_bl

theorem sc_is_written : FnScope ["thing"] ["thing"] (defScope s_is_written) := ⟨rfl, rfl, rfl, by decide +kernel, rfl, by decide +kernel, by decide +kernel⟩
def g_is_written : FS := (gRet (eArgs m_are_bytes [(eVar 0), (eC (.int 60))]))
def m_is_written : FF := runB 1 g_is_written
theorem ok_is_written (T : Txt K mg) : OkF P w K mg base 3 T.f_is_written.f T.f_is_written.fd ["thing"] m_is_written := by
  refine @okS P w K mg base "is_written" "is_written" s_is_written T.f_is_written.f T.f_is_written.fd ["thing"] ["thing"]  2 g_is_written T.f_is_written.fn sc_is_written ?_
  intro cdv A outer s H E hr tk PO
  unfold g_is_written
  refine sss_one ?_
  refine ss_ret ?_
  refine se_callA T.f_are_bytes (ok_are_bytes T) tk (hr.mono (by decide)) rfl ?_
  refine sa_cons ?_ ?_
  · exact se_var 0
  · refine sa_cons ?_ ?_
    · exact se_gint (t := T.c_MOST_CONTENT.choose) rfl T.c_MOST_CONTENT.choose_spec
    · exact sa_nil

theorem sc_number_of : FnScope ["parts", "number", "byte"] ["parts"] (defScope s_number_of) := ⟨rfl, rfl, rfl, by decide +kernel, rfl, by decide +kernel, by decide +kernel⟩
def g_number_of : FS := (gSeq (gSet 1 (eC (.int 0)))
    (gSeq (gFor (fiSeq (eVar 0)) (tName 2) (gSet 1 (eBin dAdd (eBin dMul (eVar 1) (eC (.int 256))) (eVar 2))))
    (gRet (eVar 1))))
def m_number_of : FF := runB 3 g_number_of
theorem ok_number_of (T : Txt K mg) : OkF P w K mg base 1 T.f_number_of.f T.f_number_of.fd ["parts"] m_number_of := by
  refine @okS P w K mg base "number_of" "number_of" s_number_of T.f_number_of.f T.f_number_of.fd ["parts", "number", "byte"] ["parts"]  0 g_number_of T.f_number_of.fn sc_number_of ?_
  intro cdv A outer s H E hr tk PO
  unfold g_number_of
  refine sss_cons ?_ ?_
  · refine ss_set sc_number_of.nd rfl (by first | exact Or.inl rfl | exact Or.inr rfl) ?_
    exact se_int
  · refine sss_cons ?_ ?_
    · refine ss_for (vs := [2]) (wk := false) PO rfl ?_ ?_ ?_
      · refine si_seq ?_
        exact se_var 0
      · exact sg_name sc_number_of.nd rfl (by first | exact Or.inl rfl | exact Or.inr rfl)
      · refine sss_one ?_
        refine ss_set sc_number_of.nd rfl (by first | exact Or.inl rfl | exact Or.inr rfl) ?_
        refine se_op op_add4 os_add ?_ ?_
        · refine se_op op_mul2 os_mul ?_ ?_
          · exact se_var 1
          · exact se_int
        · exact se_var 2
    · refine sss_one ?_
      refine ss_ret ?_
      exact se_var 1

theorem sc_read_record : FnScope ["content", "key", "number", "value"] ["content"] (defScope s_read_record) := ⟨rfl, rfl, rfl, by decide +kernel, rfl, by decide +kernel, by decide +kernel⟩
def g_read_record : FS := (gSeq (gIf (eBin dIs (eVar 0) (eC .non)) (gRet (eC .non)) gNext)
    (gSeq (gIf (eNot (eArgs m_is_written [(eVar 0)])) (gRaise "NoContent") gNext)
    (gSeq (gIf (eBin (dCmp fun i j => decide (i < j)) (eArgs bLen [(eVar 0)]) (eBin dAdd (eC (.int 7)) (eC (.int 2)))) (gRet (eC .non)) gNext)
    (gSeq (gPar3 1 2 3 (eBin dIx (eVar 0) (eC (.int 1))) (eArgs m_number_of [(eSl (eVar 0) (some (eC (.int 2))) (some (eC (.int 6))))]) (eSl (eVar 0) (some (eC (.int 7))) (some (eNeg (eC (.int 2))))))
    (gSeq (gIf (eOr (eBin (dCmp fun i j => decide (j ≤ i)) (eVar 1) (eC (.int 9))) (eOr (eBin dEq (eVar 2) (eC (.int 0))) (eBin (dCmp fun i j => decide (j < i)) (eArgs bLen [(eVar 3)]) (eC (.int 50))))) (gRet (eC .non)) gNext)
    (gRet (eIf (eBin dEq (eArgs m_record [(eVar 1), (eVar 2), (eVar 3)]) (eVar 0)) (eTup [(eVar 1), (eVar 2), (eVar 3)]) (eC .non))))))))
def m_read_record : FF := runB 4 g_read_record
theorem ok_read_record (T : Txt K mg) : OkF P w K mg base 5 T.f_read_record.f T.f_read_record.fd ["content"] m_read_record := by
  refine @okS P w K mg base "read_record" "read_record" s_read_record T.f_read_record.f T.f_read_record.fd ["content", "key", "number", "value"] ["content"]  4 g_read_record T.f_read_record.fn sc_read_record ?_
  intro cdv A outer s H E hr tk PO
  unfold g_read_record
  refine sss_cons ?_ ?_
  · refine ss_if ?_ ?_ ?_
    · refine st_cmp op_is3 os_is ?_ ?_ (nomark _)
      · exact se_var 0
      · exact se_non
    · refine sss_one ?_
      refine ss_ret ?_
      exact se_non
    · exact sss_nil
  · refine sss_cons ?_ ?_
    · refine ss_if ?_ ?_ ?_
      · refine st_not ?_
        refine st_val ?_
        refine se_callA T.f_is_written (ok_is_written T) tk (hr.mono (by decide)) rfl ?_
        refine sa_cons ?_ ?_
        · exact se_var 0
        · exact sa_nil
      · refine sss_one ?_
        exact ss_raise rfl tk T.e_NoContent.t rfl
      · exact sss_nil
    · refine sss_cons ?_ ?_
      · refine ss_if ?_ ?_ ?_
        · refine st_cmp op_lt os_cmp ?_ ?_ (nomark _)
          · refine se_callB (call_len) (cs_len) rfl T.b_len rfl ?_
            refine sa_cons ?_ ?_
            · exact se_var 0
            · exact sa_nil
          · refine se_op op_add4 os_add ?_ ?_
            · exact se_gint (t := T.c_AHEAD.choose) rfl T.c_AHEAD.choose_spec
            · exact se_gint (t := T.c_BEHIND.choose) rfl T.c_BEHIND.choose_spec
        · refine sss_one ?_
          refine ss_ret ?_
          exact se_non
        · exact sss_nil
      · refine sss_cons ?_ ?_
        · refine ss_par3 (i := 1) (j := 2) (l := 3) rfl sc_read_record.nd rfl rfl rfl (by decide) (by decide) (by decide) rfl rfl rfl ?_ ?_ ?_ rfl
          · refine se_ix ?_ ?_
            · exact se_var 0
            · exact se_int
          · refine se_callA T.f_number_of (ok_number_of T) tk (hr.mono (by decide)) rfl ?_
            refine sa_cons ?_ ?_
            · refine se_sl ?_ ?_ ?_
              · exact se_var 0
              · refine SO.yes ?_
                exact se_int
              · refine SO.yes ?_
                exact se_int
            · exact sa_nil
          · refine se_sl ?_ ?_ ?_
            · exact se_var 0
            · refine SO.yes ?_
              exact se_gint (t := T.c_AHEAD.choose) rfl T.c_AHEAD.choose_spec
            · refine SO.yes ?_
              refine se_neg ?_
              exact se_gint (t := T.c_BEHIND.choose) rfl T.c_BEHIND.choose_spec
        · refine sss_cons ?_ ?_
          · refine ss_if ?_ ?_ ?_
            · refine SW.st ?_
              refine sw_or ?_ ?_
              · refine st_cmp op_ge os_cmp ?_ ?_ (nomark _)
                · exact se_var 1
                · exact se_gint (t := T.c_MOST_KEYS.choose) rfl T.c_MOST_KEYS.choose_spec
              · refine sw_or ?_ ?_
                · refine st_cmp (op_eq2 hr.units) os_eq ?_ ?_ (nomark _)
                  · exact se_var 2
                  · exact se_int
                · refine sw_or1 ?_
                  refine st_cmp op_gt os_cmp ?_ ?_ (nomark _)
                  · refine se_callB (call_len) (cs_len) rfl T.b_len rfl ?_
                    refine sa_cons ?_ ?_
                    · exact se_var 3
                    · exact sa_nil
                  · exact se_gint (t := T.c_MOST_VALUE.choose) rfl T.c_MOST_VALUE.choose_spec
            · refine sss_one ?_
              refine ss_ret ?_
              exact se_non
            · exact sss_nil
          · refine sss_one ?_
            refine ss_ret ?_
            refine se_if ?_ ?_ ?_
            · refine st_cmp (op_eq2 hr.units) os_eq ?_ ?_ (nomark _)
              · refine se_callA T.f_record (ok_record T) tk (hr.mono (by decide)) rfl ?_
                refine sa_cons ?_ ?_
                · exact se_var 1
                · refine sa_cons ?_ ?_
                  · exact se_var 2
                  · refine sa_cons ?_ ?_
                    · exact se_var 3
                    · exact sa_nil
              · exact se_var 0
            · refine se_tup ?_
              refine sa_cons ?_ ?_
              · exact se_var 1
              · refine sa_cons ?_ ?_
                · exact se_var 2
                · refine sa_cons ?_ ?_
                  · exact se_var 3
                  · exact sa_nil
            · exact se_non

theorem sc__law_holds : FnScope ["parts", "due", "content", "read"] ["parts"] (defScope s__law_holds) := ⟨rfl, rfl, rfl, by decide +kernel, rfl, by decide +kernel, by decide +kernel⟩
def g__law_holds : FS := (gSeq (gSet 1 (eArgs m__law_record [(eBin dIx (eVar 0) (eC (.int 0))), (eBin dIx (eVar 0) (eC (.int 1))), (eBin dIx (eVar 0) (eC (.int 2)))]))
    (gSeq (gSet 2 (eArgs m_record [(eBin dIx (eVar 0) (eC (.int 0))), (eBin dIx (eVar 0) (eC (.int 1))), (eBin dIx (eVar 0) (eC (.int 2)))]))
    (gSeq (gIf (eNot (eArgs (m__law_same 8) [(eVar 2), (eVar 1)])) (gRet (eC (.bl false))) gNext)
    (gSeq (gSet 3 (eTup [(eBin dIx (eVar 0) (eC (.int 0))), (eBin dIx (eVar 0) (eC (.int 1))), (eBin dIx (eVar 0) (eC (.int 2)))]))
    (gRet (eAnd (eArgs (m__law_same 8) [(eArgs m_read_record [(eVar 2)]), (eVar 3)]) (eArgs (m__law_same 8) [(eArgs m_read_record [(eVar 1)]), (eVar 3)])))))))
def m__law_holds : FF := runB 4 g__law_holds
theorem ok__law_holds (T : Txt K mg) : OkF P w K mg base 10 T.f__law_holds.f T.f__law_holds.fd ["parts"] m__law_holds := by
  refine @okS P w K mg base "_law_holds" "_law_holds" s__law_holds T.f__law_holds.f T.f__law_holds.fd ["parts", "due", "content", "read"] ["parts"]  9 g__law_holds T.f__law_holds.fn sc__law_holds ?_
  intro cdv A outer s H E hr tk PO
  unfold g__law_holds
  refine sss_cons ?_ ?_
  · refine ss_set sc__law_holds.nd rfl (by first | exact Or.inl rfl | exact Or.inr rfl) ?_
    refine se_callA T.f__law_record (ok__law_record T) tk (hr.mono (by decide)) rfl ?_
    refine sa_cons ?_ ?_
    · refine se_ix ?_ ?_
      · exact se_var 0
      · exact se_int
    · refine sa_cons ?_ ?_
      · refine se_ix ?_ ?_
        · exact se_var 0
        · exact se_int
      · refine sa_cons ?_ ?_
        · refine se_ix ?_ ?_
          · exact se_var 0
          · exact se_int
        · exact sa_nil
  · refine sss_cons ?_ ?_
    · refine ss_set sc__law_holds.nd rfl (by first | exact Or.inl rfl | exact Or.inr rfl) ?_
      refine se_callA T.f_record (ok_record T) tk (hr.mono (by decide)) rfl ?_
      refine sa_cons ?_ ?_
      · refine se_ix ?_ ?_
        · exact se_var 0
        · exact se_int
      · refine sa_cons ?_ ?_
        · refine se_ix ?_ ?_
          · exact se_var 0
          · exact se_int
        · refine sa_cons ?_ ?_
          · refine se_ix ?_ ?_
            · exact se_var 0
            · exact se_int
          · exact sa_nil
    · refine sss_cons ?_ ?_
      · refine ss_if ?_ ?_ ?_
        · refine st_not ?_
          refine st_val ?_
          refine se_callA T.f__law_same (ok__law_same T 8) tk (hr.mono (by decide)) rfl ?_
          refine sa_cons ?_ ?_
          · exact se_var 2
          · refine sa_cons ?_ ?_
            · exact se_var 1
            · exact sa_nil
        · refine sss_one ?_
          refine ss_ret ?_
          exact se_bl
        · exact sss_nil
      · refine sss_cons ?_ ?_
        · refine ss_set sc__law_holds.nd rfl (by first | exact Or.inl rfl | exact Or.inr rfl) ?_
          refine se_tup ?_
          refine sa_cons ?_ ?_
          · refine se_ix ?_ ?_
            · exact se_var 0
            · exact se_int
          · refine sa_cons ?_ ?_
            · refine se_ix ?_ ?_
              · exact se_var 0
              · exact se_int
            · refine sa_cons ?_ ?_
              · refine se_ix ?_ ?_
                · exact se_var 0
                · exact se_int
              · exact sa_nil
        · refine sss_one ?_
          refine ss_ret ?_
          refine se_and ?_ ?_
          · refine se_callA T.f__law_same (ok__law_same T 8) tk (hr.mono (by decide)) rfl ?_
            refine sa_cons ?_ ?_
            · refine se_callA T.f_read_record (ok_read_record T) tk (hr.mono (by decide)) rfl ?_
              refine sa_cons ?_ ?_
              · exact se_var 2
              · exact sa_nil
            · refine sa_cons ?_ ?_
              · exact se_var 3
              · exact sa_nil
          · refine se_one ?_
            refine se_callA T.f__law_same (ok__law_same T 8) tk (hr.mono (by decide)) rfl ?_
            refine sa_cons ?_ ?_
            · refine se_callA T.f_read_record (ok_read_record T) tk (hr.mono (by decide)) rfl ?_
              refine sa_cons ?_ ?_
              · exact se_var 1
              · exact sa_nil
            · refine sa_cons ?_ ?_
              · exact se_var 3
              · exact sa_nil

theorem sc_law : FnScope ["script", "first", "second", "turn", "kept", "parts"] ["script"] (defScope s_law) := ⟨rfl, rfl, rfl, by decide +kernel, rfl, by decide +kernel, by decide +kernel⟩
def g_law : FS := (gSeq (gSet 1 (eArgs m__law_parts [(eArgs m__law_cell [(eVar 0), (eC (.int 0))]), (eArgs m__law_cell [(eVar 0), (eC (.int 1))])]))
    (gSeq (gSet 2 (eArgs m__law_parts [(eArgs m__law_cell [(eVar 0), (eC (.int 2))]), (eArgs m__law_cell [(eVar 0), (eC (.int 3))])]))
    (gSeq (gSet 3 (eBin dIx (eArgs m__law_digits [(eArgs m__law_cell [(eVar 0), (eC (.int 4))]), (eLst [(eC (.int 6))])]) (eC (.int 0))))
    (gSeq (gIf (eBin (dCmp fun i j => decide (i < j)) (eVar 3) (eC (.int 3))) (gSeq (gSet 4 (eBin dIx (eVar 2) (eVar 3)))
    (gSeq (gSet 2 (eArgs bList [(eVar 1)]))
    (gLput (eVar 2) (eVar 3) (eVar 4)))) gNext)
    (gSeq (gFor (fiSeq (eLst [(eVar 1), (eVar 2), (eVar 1)])) (tName 5) (gIf (eNot (eArgs m__law_holds [(eVar 5)])) (gRet (eC (.bl false))) gNext))
    (gRet (eBin dIs (eArgs m_read_record [(eC .non)]) (eC .non))))))))
def m_law : FF := runB 6 g_law
theorem ok_law (T : Txt K mg) : OkF P w K mg base 11 T.f_law.f T.f_law.fd ["script"] m_law := by
  refine @okS P w K mg base "law" "law" s_law T.f_law.f T.f_law.fd ["script", "first", "second", "turn", "kept", "parts"] ["script"]  10 g_law T.f_law.fn sc_law ?_
  intro cdv A outer s H E hr tk PO
  unfold g_law
  refine sss_cons ?_ ?_
  · refine ss_set sc_law.nd rfl (by first | exact Or.inl rfl | exact Or.inr rfl) ?_
    refine se_callA T.f__law_parts (ok__law_parts T) tk (hr.mono (by decide)) rfl ?_
    refine sa_cons ?_ ?_
    · refine se_callA T.f__law_cell (ok__law_cell T) tk (hr.mono (by decide)) rfl ?_
      refine sa_cons ?_ ?_
      · exact se_var 0
      · refine sa_cons ?_ ?_
        · exact se_int
        · exact sa_nil
    · refine sa_cons ?_ ?_
      · refine se_callA T.f__law_cell (ok__law_cell T) tk (hr.mono (by decide)) rfl ?_
        refine sa_cons ?_ ?_
        · exact se_var 0
        · refine sa_cons ?_ ?_
          · exact se_int
          · exact sa_nil
      · exact sa_nil
  · refine sss_cons ?_ ?_
    · refine ss_set sc_law.nd rfl (by first | exact Or.inl rfl | exact Or.inr rfl) ?_
      refine se_callA T.f__law_parts (ok__law_parts T) tk (hr.mono (by decide)) rfl ?_
      refine sa_cons ?_ ?_
      · refine se_callA T.f__law_cell (ok__law_cell T) tk (hr.mono (by decide)) rfl ?_
        refine sa_cons ?_ ?_
        · exact se_var 0
        · refine sa_cons ?_ ?_
          · exact se_int
          · exact sa_nil
      · refine sa_cons ?_ ?_
        · refine se_callA T.f__law_cell (ok__law_cell T) tk (hr.mono (by decide)) rfl ?_
          refine sa_cons ?_ ?_
          · exact se_var 0
          · refine sa_cons ?_ ?_
            · exact se_int
            · exact sa_nil
        · exact sa_nil
    · refine sss_cons ?_ ?_
      · refine ss_set sc_law.nd rfl (by first | exact Or.inl rfl | exact Or.inr rfl) ?_
        refine se_ix ?_ ?_
        · refine se_callA T.f__law_digits (ok__law_digits T) tk (hr.mono (by decide)) rfl ?_
          refine sa_cons ?_ ?_
          · refine se_callA T.f__law_cell (ok__law_cell T) tk (hr.mono (by decide)) rfl ?_
            refine sa_cons ?_ ?_
            · exact se_var 0
            · refine sa_cons ?_ ?_
              · exact se_int
              · exact sa_nil
          · refine sa_cons ?_ ?_
            · refine se_lst ?_
              refine sa_cons ?_ ?_
              · exact se_int
              · exact sa_nil
            · exact sa_nil
        · exact se_int
      · refine sss_cons ?_ ?_
        · refine ss_if ?_ ?_ ?_
          · refine st_cmp op_lt os_cmp ?_ ?_ (nomark _)
            · exact se_var 3
            · exact se_int
          · refine sss_cons ?_ ?_
            · refine ss_set sc_law.nd rfl (by first | exact Or.inl rfl | exact Or.inr rfl) ?_
              refine se_ix ?_ ?_
              · exact se_var 2
              · exact se_var 3
            · refine sss_cons ?_ ?_
              · refine ss_set sc_law.nd rfl (by first | exact Or.inl rfl | exact Or.inr rfl) ?_
                refine se_callTy (call_list_of) (cs_list) rfl T.b_list rfl ?_
                refine sa_cons ?_ ?_
                · exact se_var 1
                · exact sa_nil
              · refine sss_one ?_
                refine ss_lput ?_ ?_ ?_
                · exact se_var 2
                · exact se_var 3
                · exact se_var 4
          · exact sss_nil
        · refine sss_cons ?_ ?_
          · refine ss_for (vs := [5]) (wk := false) PO rfl ?_ ?_ ?_
            · refine si_seq ?_
              refine se_lst ?_
              refine sa_cons ?_ ?_
              · exact se_var 1
              · refine sa_cons ?_ ?_
                · exact se_var 2
                · refine sa_cons ?_ ?_
                  · exact se_var 1
                  · exact sa_nil
            · exact sg_name sc_law.nd rfl (by first | exact Or.inl rfl | exact Or.inr rfl)
            · refine sss_one ?_
              refine ss_if ?_ ?_ ?_
              · refine st_not ?_
                refine st_val ?_
                refine se_callA T.f__law_holds (ok__law_holds T) tk (hr.mono (by decide)) rfl ?_
                refine sa_cons ?_ ?_
                · exact se_var 5
                · exact sa_nil
              · refine sss_one ?_
                refine ss_ret ?_
                exact se_bl
              · exact sss_nil
          · refine sss_one ?_
            refine ss_ret ?_
            refine se_cmp op_is3 os_is ?_ ?_ (nomark _)
            · refine se_callA T.f_read_record (ok_read_record T) tk (hr.mono (by decide)) rfl ?_
              refine sa_cons ?_ ?_
              · exact se_non
              · exact sa_nil
            · exact se_non

end
theorem all_mk {P : Program} {w : World} {K : PySem.W.Frag} {h : Heap} {mg : Str → Option Value} {fa : Addr} {t_AHEAD : Tok} {t_BEHIND : Tok} {t_FIRST_BYTE : Tok} {t_MOST_CONTENT : Tok} {t_MOST_KEYS : Tok} {t_MOST_NUMBER : Tok} {t_MOST_VALUE : Tok} {E_NoContent : Addr} {E_NoRecord : Addr} {f__law_cell : Addr} {f__law_mixed : Addr} {f__law_digits : Addr} {f__law_number : Addr} {f__law_value : Addr} {f__law_parts : Addr} {f__law_check : Addr} {f__law_record : Addr} {f_is_whole : Addr} {f_is_key : Addr} {f_are_bytes : Addr} {f_is_value : Addr} {f_bytes_of : Addr} {f_check_of : Addr} {f_record : Addr} {f__law_same : Addr} {f_is_written : Addr} {f_number_of : Addr} {f_read_record : Addr} {f__law_holds : Addr} {f_law : Addr} (LT : ∀ ns : List Int, ns.length ≤ 63 → ∃ h', m_law [.scl (ns.map D.int)] [] = .ok (.bl true) h') (X : K.In h) (G : h.Ns mainGlobals mg) (hfa : mg "law" = some (.ref fa))
    (b_all : PySem.W.nsIn K mainGlobals "all" = some none)
    (b_bool : PySem.W.nsIn K mainGlobals "bool" = some none)
    (b_int : PySem.W.nsIn K mainGlobals "int" = some none)
    (b_isinstance : PySem.W.nsIn K mainGlobals "isinstance" = some none)
    (b_len : PySem.W.nsIn K mainGlobals "len" = some none)
    (b_list : PySem.W.nsIn K mainGlobals "list" = some none)
    (b_range : PySem.W.nsIn K mainGlobals "range" = some none)
    (b_tuple : PySem.W.nsIn K mainGlobals "tuple" = some none)
    (c_AHEAD : PySem.W.nsIn K mainGlobals "AHEAD" = some (some (.int 7 t_AHEAD)))
    (c_BEHIND : PySem.W.nsIn K mainGlobals "BEHIND" = some (some (.int 2 t_BEHIND)))
    (c_FIRST_BYTE : PySem.W.nsIn K mainGlobals "FIRST_BYTE" = some (some (.int 165 t_FIRST_BYTE)))
    (c_MOST_CONTENT : PySem.W.nsIn K mainGlobals "MOST_CONTENT" = some (some (.int 60 t_MOST_CONTENT)))
    (c_MOST_KEYS : PySem.W.nsIn K mainGlobals "MOST_KEYS" = some (some (.int 9 t_MOST_KEYS)))
    (c_MOST_NUMBER : PySem.W.nsIn K mainGlobals "MOST_NUMBER" = some (some (.int 4294967295 t_MOST_NUMBER)))
    (c_MOST_VALUE : PySem.W.nsIn K mainGlobals "MOST_VALUE" = some (some (.int 50 t_MOST_VALUE)))
    (e_NoContent : PySem.W.nsIn K mainGlobals "NoContent" = some (some (.ref E_NoContent)))
    (x_NoContent : PySem.W.excIn K E_NoContent [.type "ValueError", .type "Exception", .type "BaseException", .type "object"] "ValueError.__new__" = true)
    (ke_NoContent : PySem.W.keepIn K (.ref E_NoContent) = true)
    (be_NoContent : PySem.W.subIn K (.ref E_NoContent) (.type "BaseException") = some true)
    (te_NoContent : PySem.W.typeIn K (.ref E_NoContent) = some (.type "type"))
    (he_NoContent : PySem.W.hasDictIn K E_NoContent = true)
    (e_NoRecord : PySem.W.nsIn K mainGlobals "NoRecord" = some (some (.ref E_NoRecord)))
    (x_NoRecord : PySem.W.excIn K E_NoRecord [.type "ValueError", .type "Exception", .type "BaseException", .type "object"] "ValueError.__new__" = true)
    (ke_NoRecord : PySem.W.keepIn K (.ref E_NoRecord) = true)
    (be_NoRecord : PySem.W.subIn K (.ref E_NoRecord) (.type "BaseException") = some true)
    (te_NoRecord : PySem.W.typeIn K (.ref E_NoRecord) = some (.type "type"))
    (he_NoRecord : PySem.W.hasDictIn K E_NoRecord = true)
    (a_f__law_cell : PySem.W.nsIn K mainGlobals "_law_cell" = some (some (.ref f__law_cell)))
    (l_f__law_cell : ∃ fd, Fun K "_law_cell" "_law_cell" s__law_cell f__law_cell fd)
    (a_f__law_mixed : PySem.W.nsIn K mainGlobals "_law_mixed" = some (some (.ref f__law_mixed)))
    (l_f__law_mixed : ∃ fd, Fun K "_law_mixed" "_law_mixed" s__law_mixed f__law_mixed fd)
    (a_f__law_digits : PySem.W.nsIn K mainGlobals "_law_digits" = some (some (.ref f__law_digits)))
    (l_f__law_digits : ∃ fd, Fun K "_law_digits" "_law_digits" s__law_digits f__law_digits fd)
    (a_f__law_number : PySem.W.nsIn K mainGlobals "_law_number" = some (some (.ref f__law_number)))
    (l_f__law_number : ∃ fd, Fun K "_law_number" "_law_number" s__law_number f__law_number fd)
    (a_f__law_value : PySem.W.nsIn K mainGlobals "_law_value" = some (some (.ref f__law_value)))
    (l_f__law_value : ∃ fd, Fun K "_law_value" "_law_value" s__law_value f__law_value fd)
    (a_f__law_parts : PySem.W.nsIn K mainGlobals "_law_parts" = some (some (.ref f__law_parts)))
    (l_f__law_parts : ∃ fd, Fun K "_law_parts" "_law_parts" s__law_parts f__law_parts fd)
    (a_f__law_check : PySem.W.nsIn K mainGlobals "_law_check" = some (some (.ref f__law_check)))
    (l_f__law_check : ∃ fd, Fun K "_law_check" "_law_check" s__law_check f__law_check fd)
    (a_f__law_record : PySem.W.nsIn K mainGlobals "_law_record" = some (some (.ref f__law_record)))
    (l_f__law_record : ∃ fd, Fun K "_law_record" "_law_record" s__law_record f__law_record fd)
    (a_f_is_whole : PySem.W.nsIn K mainGlobals "is_whole" = some (some (.ref f_is_whole)))
    (l_f_is_whole : ∃ fd, Fun K "is_whole" "is_whole" s_is_whole f_is_whole fd)
    (a_f_is_key : PySem.W.nsIn K mainGlobals "is_key" = some (some (.ref f_is_key)))
    (l_f_is_key : ∃ fd, Fun K "is_key" "is_key" s_is_key f_is_key fd)
    (a_f_are_bytes : PySem.W.nsIn K mainGlobals "are_bytes" = some (some (.ref f_are_bytes)))
    (l_f_are_bytes : ∃ fd, Fun K "are_bytes" "are_bytes" s_are_bytes f_are_bytes fd)
    (a_f_is_value : PySem.W.nsIn K mainGlobals "is_value" = some (some (.ref f_is_value)))
    (l_f_is_value : ∃ fd, Fun K "is_value" "is_value" s_is_value f_is_value fd)
    (a_f_bytes_of : PySem.W.nsIn K mainGlobals "bytes_of" = some (some (.ref f_bytes_of)))
    (l_f_bytes_of : ∃ fd, Fun K "bytes_of" "bytes_of" s_bytes_of f_bytes_of fd)
    (a_f_check_of : PySem.W.nsIn K mainGlobals "check_of" = some (some (.ref f_check_of)))
    (l_f_check_of : ∃ fd, Fun K "check_of" "check_of" s_check_of f_check_of fd)
    (a_f_record : PySem.W.nsIn K mainGlobals "record" = some (some (.ref f_record)))
    (l_f_record : ∃ fd, Fun K "record" "record" s_record f_record fd)
    (a_f__law_same : PySem.W.nsIn K mainGlobals "_law_same" = some (some (.ref f__law_same)))
    (l_f__law_same : ∃ fd, Fun K "_law_same" "_law_same" s__law_same f__law_same fd)
    (a_f_is_written : PySem.W.nsIn K mainGlobals "is_written" = some (some (.ref f_is_written)))
    (l_f_is_written : ∃ fd, Fun K "is_written" "is_written" s_is_written f_is_written fd)
    (a_f_number_of : PySem.W.nsIn K mainGlobals "number_of" = some (some (.ref f_number_of)))
    (l_f_number_of : ∃ fd, Fun K "number_of" "number_of" s_number_of f_number_of fd)
    (a_f_read_record : PySem.W.nsIn K mainGlobals "read_record" = some (some (.ref f_read_record)))
    (l_f_read_record : ∃ fd, Fun K "read_record" "read_record" s_read_record f_read_record fd)
    (a_f__law_holds : PySem.W.nsIn K mainGlobals "_law_holds" = some (some (.ref f__law_holds)))
    (l_f__law_holds : ∃ fd, Fun K "_law_holds" "_law_holds" s__law_holds f__law_holds fd)
    (a_f_law : PySem.W.nsIn K mainGlobals "law" = some (some (.ref f_law)))
    (l_f_law : ∃ fd, Fun K "law" "law" s_law f_law fd) :
    ∃ fd : FuncData, (∀ (s : Shared) (v : Value), BindsTo s fd ⟨[v], []⟩ [("script", v)]) ∧ ∀ base : Heap, K.In base → base.Ns mainGlobals mg → FnOk P w K mg base (L2.CX P w) 11 fa fd ["script"] (spLaw K) := by
  have e : fa = f_law := by
    have e := hfa.symm.trans (PySem.W.mg_of X G a_f_law)
    cases e
    rfl
  rw [e]
  have ex_NoContent : ∃ A : ExAt K mg "NoContent", A.C = E_NoContent := ⟨⟨E_NoContent, PySem.W.mg_of X G e_NoContent, x_NoContent, ke_NoContent, be_NoContent, te_NoContent, he_NoContent⟩, rfl⟩
  obtain ⟨Ex_NoContent, q_NoContent⟩ := ex_NoContent
  have ex_NoRecord : ∃ A : ExAt K mg "NoRecord", A.C = E_NoRecord := ⟨⟨E_NoRecord, PySem.W.mg_of X G e_NoRecord, x_NoRecord, ke_NoRecord, be_NoRecord, te_NoRecord, he_NoRecord⟩, rfl⟩
  obtain ⟨Ex_NoRecord, q_NoRecord⟩ := ex_NoRecord
  obtain ⟨d__law_cell, F__law_cell⟩ := l_f__law_cell
  obtain ⟨d__law_mixed, F__law_mixed⟩ := l_f__law_mixed
  obtain ⟨d__law_digits, F__law_digits⟩ := l_f__law_digits
  obtain ⟨d__law_number, F__law_number⟩ := l_f__law_number
  obtain ⟨d__law_value, F__law_value⟩ := l_f__law_value
  obtain ⟨d__law_parts, F__law_parts⟩ := l_f__law_parts
  obtain ⟨d__law_check, F__law_check⟩ := l_f__law_check
  obtain ⟨d__law_record, F__law_record⟩ := l_f__law_record
  obtain ⟨d_is_whole, F_is_whole⟩ := l_f_is_whole
  obtain ⟨d_is_key, F_is_key⟩ := l_f_is_key
  obtain ⟨d_are_bytes, F_are_bytes⟩ := l_f_are_bytes
  obtain ⟨d_is_value, F_is_value⟩ := l_f_is_value
  obtain ⟨d_bytes_of, F_bytes_of⟩ := l_f_bytes_of
  obtain ⟨d_check_of, F_check_of⟩ := l_f_check_of
  obtain ⟨d_record, F_record⟩ := l_f_record
  obtain ⟨d__law_same, F__law_same⟩ := l_f__law_same
  obtain ⟨d_is_written, F_is_written⟩ := l_f_is_written
  obtain ⟨d_number_of, F_number_of⟩ := l_f_number_of
  obtain ⟨d_read_record, F_read_record⟩ := l_f_read_record
  obtain ⟨d__law_holds, F__law_holds⟩ := l_f__law_holds
  obtain ⟨d_law, F_law⟩ := l_f_law
  have T : ∃ T : Txt K mg, T.f_law.f = f_law ∧ T.f_law.fd = d_law := ⟨{
    b_all := PySem.W.mg_none_of X G b_all
    b_bool := PySem.W.mg_none_of X G b_bool
    b_int := PySem.W.mg_none_of X G b_int
    b_isinstance := PySem.W.mg_none_of X G b_isinstance
    b_len := PySem.W.mg_none_of X G b_len
    b_list := PySem.W.mg_none_of X G b_list
    b_range := PySem.W.mg_none_of X G b_range
    b_tuple := PySem.W.mg_none_of X G b_tuple
    c_AHEAD := ⟨_, PySem.W.mg_of X G c_AHEAD⟩
    c_BEHIND := ⟨_, PySem.W.mg_of X G c_BEHIND⟩
    c_FIRST_BYTE := ⟨_, PySem.W.mg_of X G c_FIRST_BYTE⟩
    c_MOST_CONTENT := ⟨_, PySem.W.mg_of X G c_MOST_CONTENT⟩
    c_MOST_KEYS := ⟨_, PySem.W.mg_of X G c_MOST_KEYS⟩
    c_MOST_NUMBER := ⟨_, PySem.W.mg_of X G c_MOST_NUMBER⟩
    c_MOST_VALUE := ⟨_, PySem.W.mg_of X G c_MOST_VALUE⟩
    e_NoContent := Ex_NoContent
    e_NoRecord := Ex_NoRecord
    f__law_cell := ⟨f__law_cell, d__law_cell, F__law_cell, PySem.W.mg_of X G a_f__law_cell, F__law_cell.binds (ps := ["script", "k"]) fun _ _ _ _ _ _ us hl => match us, hl with | [_, _], _ => rfl⟩
    f__law_mixed := ⟨f__law_mixed, d__law_mixed, F__law_mixed, PySem.W.mg_of X G a_f__law_mixed, F__law_mixed.binds (ps := ["cell", "k"]) fun _ _ _ _ _ _ us hl => match us, hl with | [_, _], _ => rfl⟩
    f__law_digits := ⟨f__law_digits, d__law_digits, F__law_digits, PySem.W.mg_of X G a_f__law_digits, F__law_digits.binds (ps := ["cell", "sizes"]) fun _ _ _ _ _ _ us hl => match us, hl with | [_, _], _ => rfl⟩
    f__law_number := ⟨f__law_number, d__law_number, F__law_number, PySem.W.mg_of X G a_f__law_number, F__law_number.binds (ps := ["kind", "edge", "high", "low"]) fun _ _ _ _ _ _ us hl => match us, hl with | [_, _, _, _], _ => rfl⟩
    f__law_value := ⟨f__law_value, d__law_value, F__law_value, PySem.W.mg_of X G a_f__law_value, F__law_value.binds (ps := ["cell"]) fun _ _ _ _ _ _ us hl => match us, hl with | [_], _ => rfl⟩
    f__law_parts := ⟨f__law_parts, d__law_parts, F__law_parts, PySem.W.mg_of X G a_f__law_parts, F__law_parts.binds (ps := ["cell", "other"]) fun _ _ _ _ _ _ us hl => match us, hl with | [_, _], _ => rfl⟩
    f__law_check := ⟨f__law_check, d__law_check, F__law_check, PySem.W.mg_of X G a_f__law_check, F__law_check.binds (ps := ["row"]) fun _ _ _ _ _ _ us hl => match us, hl with | [_], _ => rfl⟩
    f__law_record := ⟨f__law_record, d__law_record, F__law_record, PySem.W.mg_of X G a_f__law_record, F__law_record.binds (ps := ["key", "number", "value"]) fun _ _ _ _ _ _ us hl => match us, hl with | [_, _, _], _ => rfl⟩
    f_is_whole := ⟨f_is_whole, d_is_whole, F_is_whole, PySem.W.mg_of X G a_f_is_whole, F_is_whole.binds (ps := ["thing", "low", "high"]) fun _ _ _ _ _ _ us hl => match us, hl with | [_, _, _], _ => rfl⟩
    f_is_key := ⟨f_is_key, d_is_key, F_is_key, PySem.W.mg_of X G a_f_is_key, F_is_key.binds (ps := ["thing", "keys"]) fun _ _ _ _ _ _ us hl => match us, hl with | [_, _], _ => rfl⟩
    f_are_bytes := ⟨f_are_bytes, d_are_bytes, F_are_bytes, PySem.W.mg_of X G a_f_are_bytes, F_are_bytes.binds (ps := ["thing", "most"]) fun _ _ _ _ _ _ us hl => match us, hl with | [_, _], _ => rfl⟩
    f_is_value := ⟨f_is_value, d_is_value, F_is_value, PySem.W.mg_of X G a_f_is_value, F_is_value.binds (ps := ["thing"]) fun _ _ _ _ _ _ us hl => match us, hl with | [_], _ => rfl⟩
    f_bytes_of := ⟨f_bytes_of, d_bytes_of, F_bytes_of, PySem.W.mg_of X G a_f_bytes_of, F_bytes_of.binds (ps := ["number", "many"]) fun _ _ _ _ _ _ us hl => match us, hl with | [_, _], _ => rfl⟩
    f_check_of := ⟨f_check_of, d_check_of, F_check_of, PySem.W.mg_of X G a_f_check_of, F_check_of.binds (ps := ["parts"]) fun _ _ _ _ _ _ us hl => match us, hl with | [_], _ => rfl⟩
    f_record := ⟨f_record, d_record, F_record, PySem.W.mg_of X G a_f_record, F_record.binds (ps := ["key", "number", "value"]) fun _ _ _ _ _ _ us hl => match us, hl with | [_, _, _], _ => rfl⟩
    f__law_same := ⟨f__law_same, d__law_same, F__law_same, PySem.W.mg_of X G a_f__law_same, F__law_same.binds (ps := ["got", "due"]) fun _ _ _ _ _ _ us hl => match us, hl with | [_, _], _ => rfl⟩
    f_is_written := ⟨f_is_written, d_is_written, F_is_written, PySem.W.mg_of X G a_f_is_written, F_is_written.binds (ps := ["thing"]) fun _ _ _ _ _ _ us hl => match us, hl with | [_], _ => rfl⟩
    f_number_of := ⟨f_number_of, d_number_of, F_number_of, PySem.W.mg_of X G a_f_number_of, F_number_of.binds (ps := ["parts"]) fun _ _ _ _ _ _ us hl => match us, hl with | [_], _ => rfl⟩
    f_read_record := ⟨f_read_record, d_read_record, F_read_record, PySem.W.mg_of X G a_f_read_record, F_read_record.binds (ps := ["content"]) fun _ _ _ _ _ _ us hl => match us, hl with | [_], _ => rfl⟩
    f__law_holds := ⟨f__law_holds, d__law_holds, F__law_holds, PySem.W.mg_of X G a_f__law_holds, F__law_holds.binds (ps := ["parts"]) fun _ _ _ _ _ _ us hl => match us, hl with | [_], _ => rfl⟩
    f_law := ⟨f_law, d_law, F_law, PySem.W.mg_of X G a_f_law, F_law.binds (ps := ["script"]) fun _ _ _ _ _ _ us hl => match us, hl with | [_], _ => rfl⟩ }, rfl, rfl⟩
  obtain ⟨T, e1, e2⟩ := T
  refine ⟨d_law, bind1 F_law fun _ _ _ _ _ _ _ => rfl, fun base _ _ => ?_⟩
  have ok := ok_law (P := P) (w := w) (base := base) T
  rw [e1, e2] at ok
  exact ok.imp (law_imp LT)

end Sh.k73

set_option Elab.async false
set_option linter.all false
set_option maxRecDepth 100000
set_option maxHeartbeats 4000000
/-! Values without a heap: lists by value; what a mirror does, told over them. -/
namespace Sh
open PySem L2 PyProof.Rows
inductive PV where
  | non | bl (b : Bool) | int (i : Int) | str (s : Str) | tup (xs : List PV) | lst (xs : List PV) | scr (xs : List PV)
  | obj (c : Str) (ns : List Str) (xs : List PV) | dic (ks : List Key) (xs : List PV)
abbrev PS := List (Option PV)
inductive PR where
  | ok (x : PV) | exc (c : Str) (ns : List Str) (xs : List PV) | bad
inductive PA where
  | ok (xs : List PV) | exc (c : Str) (ns : List Str) (xs : List PV) | bad
inductive PT where
  | nx (s : PS) | rt (x : PV) | bk (s : PS) | ct (s : PS) | exc (c : Str) (ns : List Str) (xs : List PV) (s : PS) | bad
abbrev PF := List PV → PR
abbrev PE := PS → PR
abbrev PG := PV → PS → Option PS
abbrev PX := PS → PT
def PR.bind (r : PR) (k : PV → PR) : PR := match r with
  | .ok x => k x
  | .exc c ns xs => .exc c ns xs
  | .bad => .bad
@[simp] theorem PR.bind_ok (x : PV) (k : PV → PR) : (PR.ok x).bind k = k x := rfl
@[simp] theorem PR.bind_exc (c ns xs) (k : PV → PR) : (PR.exc c ns xs).bind k = .exc c ns xs := rfl
@[simp] theorem PR.bind_bad (k : PV → PR) : PR.bad.bind k = .bad := rfl
mutual
inductive Rv (A : Nat → Prop) (h : Hm) : D → PV → Prop
  | non : Rv A h .non .non
  | bl (b : Bool) : Rv A h (.bl b) (.bl b)
  | int (i : Int) : Rv A h (.int i) (.int i)
  | str (s : Str) : Rv A h (.str s) (.str s)
  | tup {ds : List D} {xs : List PV} (r : RvL A h ds xs) : Rv A h (.tup ds) (.tup xs)
  | scr {ds : List D} {xs : List PV} (r : RvL A h ds xs) : Rv A h (.scl ds) (.scr xs)
  | lst {n : Nat} {ds : List D} {xs : List PV} (a : ¬ A n) (e : h[n]? = some (.lst ds)) (r : RvL A h ds xs) : Rv A h (.ref n) (.lst xs)
  | obj {n : Nat} {c : Str} {ns : List Str} {ds : List D} {xs : List PV} (a : ¬ A n) (e : h[n]? = some (.ins c (ns.zip ds))) (l : ns.length = ds.length) (r : RvL A h ds xs) : Rv A h (.ref n) (.obj c ns xs)
  | dic {n : Nat} {ks : List Key} {ds : List D} {xs : List PV} (a : ¬ A n) (e : h[n]? = some (.dk (ks.zip ds))) (l : ks.length = ds.length) (r : RvL A h ds xs) : Rv A h (.ref n) (.dic ks xs)
inductive RvL (A : Nat → Prop) (h : Hm) : List D → List PV → Prop
  | nil : RvL A h [] []
  | cons {d : D} {x : PV} {ds : List D} {xs : List PV} (r : Rv A h d x) (rs : RvL A h ds xs) : RvL A h (d :: ds) (x :: xs)
end
def Ext (h h' : Hm) : Prop := ∀ (n : Nat) (o : O), h[n]? = some o → h'[n]? = some o
def Bd (A : Nat → Prop) (h : Hm) : Prop := ∀ n, A n → n < h.length
theorem Ext.refl (h : Hm) : Ext h h := fun _ _ e => e
theorem Ext.trans {a b c : Hm} (x : Ext a b) (y : Ext b c) : Ext a c := fun n o e => y n o (x n o e)
theorem Ext.app (h t : Hm) : Ext h (h ++ t) := fun n o e => by
  rw [List.getElem?_append_left (lt_of_get e)]
  exact e
theorem Ext.len {h h' : Hm} (x : Ext h h') : h.length ≤ h'.length := by
  cases hl : h.length with
  | zero => exact Nat.zero_le _
  | succ k =>
    have hk : k < h.length := by omega
    exact lt_of_get (x k h[k] (List.getElem?_eq_getElem hk))
theorem Bd.ext {A : Nat → Prop} {h h' : Hm} (b : Bd A h) (x : Ext h h') : Bd A h' := fun n a => Nat.lt_of_lt_of_le (b n a) x.len
mutual
theorem Rv.mv {A A' : Nat → Prop} {h h' : Hm} (k : ∀ (n : Nat) (o : O), ¬ A n → h[n]? = some o → ¬ A' n ∧ h'[n]? = some o) : ∀ {d : D} {x : PV}, Rv A h d x → Rv A' h' d x
  | _, _, .non => .non
  | _, _, .bl b => .bl b
  | _, _, .int b => .int b
  | _, _, .str b => .str b
  | _, _, .tup r => .tup (RvL.mv k r)
  | _, _, .scr r => .scr (RvL.mv k r)
  | _, _, .lst a e r => .lst (k _ _ a e).1 (k _ _ a e).2 (RvL.mv k r)
  | _, _, .obj a e l r => .obj (k _ _ a e).1 (k _ _ a e).2 l (RvL.mv k r)
  | _, _, .dic a e l r => .dic (k _ _ a e).1 (k _ _ a e).2 l (RvL.mv k r)
theorem RvL.mv {A A' : Nat → Prop} {h h' : Hm} (k : ∀ (n : Nat) (o : O), ¬ A n → h[n]? = some o → ¬ A' n ∧ h'[n]? = some o) : ∀ {ds : List D} {xs : List PV}, RvL A h ds xs → RvL A' h' ds xs
  | _, _, .nil => .nil
  | _, _, .cons r rs => .cons (Rv.mv k r) (RvL.mv k rs)
end
section
variable {A A' : Nat → Prop} {h h' : Hm} {d : D} {x : PV} {ds : List D} {xs : List PV}
theorem Rv.ext (e : Ext h h') (r : Rv A h d x) : Rv A h' d x := r.mv fun n o a g => ⟨a, e n o g⟩
theorem RvL.ext (e : Ext h h') (r : RvL A h ds xs) : RvL A h' ds xs := r.mv fun n o a g => ⟨a, e n o g⟩
theorem Rv.mono (k : ∀ n, A' n → A n) (r : Rv A h d x) : Rv A' h d x := r.mv fun n o a g => ⟨fun z => a (k n z), g⟩
theorem RvL.mono (k : ∀ n, A' n → A n) (r : RvL A h ds xs) : RvL A' h ds xs := r.mv fun n o a g => ⟨fun z => a (k n z), g⟩
theorem RvL.length : ∀ {ds : List D} {xs : List PV}, RvL A h ds xs → ds.length = xs.length
  | _, _, .nil => rfl
  | _, _, .cons _ rs => by rw [List.length_cons, List.length_cons, RvL.length rs]
theorem RvL.get : ∀ {ds : List D} {xs : List PV} {i : Nat} {x : PV}, RvL A h ds xs → xs[i]? = some x → ∃ d, ds[i]? = some d ∧ Rv A h d x
  | _, _, i, _, .nil, e => by simp at e
  | _, _, 0, _, .cons r rs, e => by
    simp at e
    subst e
    exact ⟨_, rfl, r⟩
  | _, _, i + 1, _, .cons r rs, e => by
    have := RvL.get (i := i) rs (by simpa using e)
    simpa using this
theorem RvL.get' : ∀ {ds : List D} {xs : List PV} {i : Nat} {d : D}, RvL A h ds xs → ds[i]? = some d → ∃ x, xs[i]? = some x ∧ Rv A h d x
  | _, _, i, _, .nil, e => by simp at e
  | _, _, 0, _, .cons r rs, e => by
    simp at e
    subst e
    exact ⟨_, rfl, r⟩
  | _, _, i + 1, _, .cons r rs, e => by
    have := RvL.get' (i := i) rs (by simpa using e)
    simpa using this
theorem RvL.app : ∀ {ds es : List D} {xs ys : List PV}, RvL A h ds xs → RvL A h es ys → RvL A h (ds ++ es) (xs ++ ys)
  | _, _, _, _, .nil, q => q
  | _, _, _, _, .cons r rs, q => .cons r (RvL.app rs q)
theorem RvL.one (r : Rv A h d x) : RvL A h [d] [x] := .cons r .nil
theorem RvL.set (r : Rv A h d x) : ∀ {ds : List D} {xs : List PV} (n : Nat), RvL A h ds xs → RvL A h (ds.set n d) (xs.set n x)
  | _, _, _, .nil => .nil
  | _, _, 0, .cons _ rs => .cons r rs
  | _, _, n + 1, .cons q rs => .cons q (RvL.set r n rs)
theorem RvL.take : ∀ {ds : List D} {xs : List PV} (n : Nat), RvL A h ds xs → RvL A h (ds.take n) (xs.take n)
  | _, _, 0, _ => by simp; exact .nil
  | _, _, _ + 1, .nil => .nil
  | _, _, n + 1, .cons q rs => .cons q (RvL.take n rs)
theorem RvL.drop : ∀ {ds : List D} {xs : List PV} (n : Nat), RvL A h ds xs → RvL A h (ds.drop n) (xs.drop n)
  | _, _, 0, r => r
  | _, _, _ + 1, .nil => .nil
  | _, _, n + 1, .cons _ rs => RvL.drop n rs
theorem RvL.reverse : ∀ {ds : List D} {xs : List PV}, RvL A h ds xs → RvL A h ds.reverse xs.reverse
  | _, _, .nil => .nil
  | _, _, .cons r rs => by simp only [List.reverse_cons]; exact RvL.app (RvL.reverse rs) (.one r)
theorem RvL.eraseIdx : ∀ {ds : List D} {xs : List PV} (n : Nat), RvL A h ds xs → RvL A h (ds.eraseIdx n) (xs.eraseIdx n)
  | _, _, _, .nil => .nil
  | _, _, 0, .cons _ rs => rs
  | _, _, n + 1, .cons q rs => .cons q (RvL.eraseIdx n rs)
theorem RvL.rep (r : Rv A h d x) : ∀ n : Nat, RvL A h (List.replicate n d) (List.replicate n x)
  | 0 => .nil
  | n + 1 => by rw [List.replicate_succ, List.replicate_succ]; exact .cons r (RvL.rep r n)
end
/-! outcomes -/
def PostX (A : Nat → Prop) (h : Hm) (r : RD) (t : PR) : Prop := match t with
  | .ok x => ∃ d h', r = .ok d h' ∧ Ext h h' ∧ Rv A h' d x
  | .exc c ns xs => ∃ ds h', r = .exc c (ns.zip ds) h' ∧ Ext h h' ∧ ns.length = ds.length ∧ RvL A h' ds xs
  | .bad => True
def PostXL (A : Nat → Prop) (h : Hm) (r : RA) (t : PA) : Prop := match t with
  | .ok xs => ∃ ds h', r = .ok ds h' ∧ Ext h h' ∧ RvL A h' ds xs
  | .exc c ns xs => ∃ ds h', r = .exc c (ns.zip ds) h' ∧ Ext h h' ∧ ns.length = ds.length ∧ RvL A h' ds xs
  | .bad => True
/-- a list that is new: its number, its items -/
def PostN (A : Nat → Prop) (h : Hm) (r : RD) (t : PR) : Prop := match t with
  | .ok x => ∃ n ds xs h', r = .ok (.ref n) h' ∧ Ext h h' ∧ h.length ≤ n ∧ ((x = .lst xs ∧ h'[n]? = some (.lst ds)) ∨ ∃ ks, x = .dic ks xs ∧ ks.length = ds.length ∧ h'[n]? = some (.dk (ks.zip ds))) ∧ RvL (fun m => A m ∨ m = n) h' ds xs
  | .exc c ns xs => ∃ ds h', r = .exc c (ns.zip ds) h' ∧ Ext h h' ∧ ns.length = ds.length ∧ RvL A h' ds xs
  | .bad => True
theorem PostX.of {A : Nat → Prop} {h : Hm} {d : D} {x : PV} (r : Rv A h d x) : PostX A h (.ok d h) (.ok x) := ⟨d, h, rfl, Ext.refl h, r⟩
theorem PostX.at {A : Nat → Prop} {h h' : Hm} {d : D} {x : PV} (e : Ext h h') (r : Rv A h' d x) : PostX A h (.ok d h') (.ok x) := ⟨d, h', rfl, e, r⟩
theorem PostX.from {A : Nat → Prop} {h h1 : Hm} {r : RD} {t : PR} (e : Ext h h1) (p : PostX A h1 r t) : PostX A h r t := by
  cases t with
  | ok x => obtain ⟨d, h', e1, e2, q⟩ := p; exact ⟨d, h', e1, e.trans e2, q⟩
  | exc c ns xs => obtain ⟨d, h', e1, e2, q⟩ := p; exact ⟨d, h', e1, e.trans e2, q⟩
  | bad => trivial
theorem PostX.bind {A : Nat → Prop} {h : Hm} {r : RD} {t : PR} {k : D → Hm → RD} {kx : PV → PR} (p : PostX A h r t) (q : ∀ d h' x, Ext h h' → Rv A h' d x → PostX A h' (k d h') (kx x)) : PostX A h (r.bind k) (t.bind kx) := by
  cases t with
  | ok x =>
    obtain ⟨d, h', rfl, e2, r⟩ := p
    exact (q d h' x e2 r).from e2
  | exc c ns xs =>
    obtain ⟨d, h', rfl, e2, r⟩ := p
    exact ⟨d, h', rfl, e2, r⟩
  | bad => trivial
theorem PostXL.from {A : Nat → Prop} {h h1 : Hm} {r : RA} {t : PA} (e : Ext h h1) (p : PostXL A h1 r t) : PostXL A h r t := by
  cases t with
  | ok x => obtain ⟨d, h', e1, e2, q⟩ := p; exact ⟨d, h', e1, e.trans e2, q⟩
  | exc c ns xs => obtain ⟨d, h', e1, e2, q⟩ := p; exact ⟨d, h', e1, e.trans e2, q⟩
  | bad => trivial
/-! states: o says which slots own their list (or dict) -/
def Owns (A : Nat → Prop) (h : Hm) (d : D) (x : PV) : Prop := ∃ n ds xs, d = .ref n ∧ A n ∧ ((x = .lst xs ∧ h[n]? = some (.lst ds)) ∨ ∃ ks, x = .dic ks xs ∧ ks.length = ds.length ∧ h[n]? = some (.dk (ks.zip ds))) ∧ RvL A h ds xs
structure St (b : Nat) (A : Nat → Prop) (h : Hm) (o : List Nat) (s : DS) (xs : PS) : Prop where
  len : s.length = xs.length
  rel : ∀ (i : Nat) (x : PV), xs[i]? = some (some x) → ∃ d, s[i]? = some (some d) ∧ (i ∉ o → Rv A h d x) ∧ (i ∈ o → Owns A h d x)
  bd : Bd A h
  bh : b ≤ h.length
  loc : ∀ i ∈ o, ∀ n, s[i]? = some (some (.ref n)) → b ≤ n ∧ A n
  dis : ∀ i ∈ o, ∀ j ∈ o, ∀ n, s[i]? = some (some (.ref n)) → s[j]? = some (some (.ref n)) → i = j
theorem Owns.mv {A A' : Nat → Prop} {h h' : Hm} {d : D} {x : PV} (w : Owns A h d x) (k : ∀ (n : Nat) (o : O), ¬ A n → h[n]? = some o → ¬ A' n ∧ h'[n]? = some o) (kn : ∀ n, d = .ref n → A n → A' n ∧ h'[n]? = h[n]?) : Owns A' h' d x := by
  obtain ⟨n, ds, xs, rfl, a, q, r⟩ := w
  have z := kn n rfl a
  refine ⟨n, ds, xs, rfl, z.1, ?_, r.mv k⟩
  rw [z.2]
  exact q
theorem Owns.ext {A : Nat → Prop} {h h' : Hm} {d : D} {x : PV} (w : Owns A h d x) (e : Ext h h') : Owns A h' d x := by
  obtain ⟨n, ds, xs, rfl, a, q, r⟩ := w
  refine ⟨n, ds, xs, rfl, a, ?_, r.ext e⟩
  rcases q with ⟨q1, q2⟩ | ⟨ks, q1, q3, q2⟩
  · exact .inl ⟨q1, e _ _ q2⟩
  · exact .inr ⟨ks, q1, q3, e _ _ q2⟩
theorem St.ext {b : Nat} {A : Nat → Prop} {h h' : Hm} {o : List Nat} {s : DS} {xs : PS} (t : St b A h o s xs) (e : Ext h h') : St b A h' o s xs := ⟨t.len, fun i x q => by
  obtain ⟨d, e1, e2, e3⟩ := t.rel i x q
  exact ⟨d, e1, fun z => (e2 z).ext e, fun z => (e3 z).ext e⟩, t.bd.ext e, Nat.le_trans t.bh e.len, t.loc, t.dis⟩
/-! judgements -/
def EV (o : List Nat) (e : FE) (p : PE) : Prop := ∀ b A h s xs, St b A h o s xs → PostX A h (e s h) (p xs)
def EN (o : List Nat) (e : FE) (p : PE) : Prop := ∀ b A h s xs, St b A h o s xs → PostN A h (e s h) (p xs)
def FV (m : FF) (v : PF) : Prop := ∀ A h ds xs, Bd A h → RvL A h ds xs → PostX A h (m ds h) (v xs)
def FN (m : FF) (v : PF) : Prop := ∀ A h ds xs, Bd A h → RvL A h ds xs → PostN A h (m ds h) (v xs)
def ELV (o : List Nat) (es : List FE) (p : PS → PA) : Prop := ∀ b A h s xs, St b A h o s xs → PostXL A h (evalL es s h) (p xs)
def Op2V (f : D → D → Hm → RD) (pf : PV → PV → PR) : Prop := ∀ A h dx dy x y, Bd A h → Rv A h dx x → Rv A h dy y → PostX A h (f dx dy h) (pf x y)
def Op2N (f : D → D → Hm → RD) (pf : PV → PV → PR) : Prop := ∀ A h dx dy x y, Bd A h → Rv A h dx x → Rv A h dy y → PostN A h (f dx dy h) (pf x y)
def CallV (g : List D → Hm → RD) (pg : List PV → PR) : Prop := ∀ A h ds xs, Bd A h → RvL A h ds xs → PostX A h (g ds h) (pg xs)
def CallN (g : List D → Hm → RD) (pg : List PV → PR) : Prop := ∀ A h ds xs, Bd A h → RvL A h ds xs → PostN A h (g ds h) (pg xs)
/-! expressions -/
def pVar (i : Nat) : PE := fun s => match s[i]? with
  | some (some x) => .ok x
  | _ => .bad
def pC (x : PV) : PE := fun _ => .ok x
def pBin (f : PV → PV → PR) (a b : PE) : PE := fun s => (a s).bind fun x => (b s).bind fun y => f x y
def PR.tst (r : PR) (k : Bool → PR) : PR := r.bind fun d => match d with
  | .bl p => k p
  | _ => .bad
def pAnd (a b : PE) : PE := fun s => (a s).tst fun p => if p = true then b s else .ok (.bl false)
def pOr (a b : PE) : PE := fun s => (a s).tst fun p => if p = true then .ok (.bl true) else b s
def pNot (a : PE) : PE := fun s => (a s).tst fun p => .ok (.bl (!p))
def pIf (c a b : PE) : PE := fun s => (c s).tst fun p => if p = true then a s else b s
def pChain (f g : PV → PV → PR) (a b c : PE) : PE := fun s => (a s).bind fun x => (b s).bind fun y => (f x y).tst fun p => if p = true then (c s).bind fun z => g y z else .ok (.bl false)
def pArr : List PE → PS → (List PV → PR) → PR
  | [], _, k => k []
  | f :: fs, s, k => (f s).bind fun x => pArr fs s fun xs => k (x :: xs)
def pArgs (g : List PV → PR) (fs : List PE) : PE := fun s => pArr fs s g
def pTup (fs : List PE) : PE := pArgs (fun xs => .ok (.tup xs)) fs
def pLst (fs : List PE) : PE := pArgs (fun xs => .ok (.lst xs)) fs
section
variable {o : List Nat} {ea eb ec : FE} {pa pb pc : PE}
theorem ev_var {i : Nat} (hi : i ∉ o := by decide) : EV o (eVar i) (pVar i) := fun b A h s xs t => by
  unfold pVar
  split
  · rename_i x e
    obtain ⟨d, e1, e2, _⟩ := t.rel i x e
    have : eVar i s h = .ok d h := by unfold eVar; rw [e1]
    rw [this]
    exact .of (e2 hi)
  · trivial
theorem ev_non : EV o (eC .non) (pC .non) := fun b A h s xs t => .of .non
theorem ev_bl {b : Bool} : EV o (eC (.bl b)) (pC (.bl b)) := fun _ A h s xs t => .of (.bl b)
theorem ev_int {i : Int} : EV o (eC (.int i)) (pC (.int i)) := fun _ A h s xs t => .of (.int i)
theorem ev_str {x : Str} : EV o (eC (.str x)) (pC (.str x)) := fun _ A h s xs t => .of (.str x)
theorem ev_bin {f : D → D → Hm → RD} {pf : PV → PV → PR} (hf : Op2V f pf) (ha : EV o ea pa) (hb : EV o eb pb) : EV o (eBin f ea eb) (pBin pf pa pb) := fun b A h s xs t =>
  (ha b A h s xs t).bind fun d h1 x e1 r1 => (hb b A h1 s xs (t.ext e1)).bind fun d2 h2 y e2 r2 => hf A h2 d d2 x y ((t.ext e1).ext e2).bd (r1.ext e2) r2
theorem PostX.tst {A : Nat → Prop} {h : Hm} {r : RD} {t : PR} {k : Bool → Hm → RD} {kx : Bool → PR} (p : PostX A h r t) (q : ∀ b h', Ext h h' → PostX A h' (k b h') (kx b)) : PostX A h (r.bind fun d h1 => match d with
  | .bl b => k b h1
  | _ => .bad) (t.tst kx) := p.bind fun d h' x e r => by
  cases r with
  | bl b => exact q b h' e
  | _ => trivial
theorem ev_and (ha : EV o ea pa) (hb : EV o eb pb) : EV o (eAnd ea eb) (pAnd pa pb) := fun b A h s xs t => by
  have := (ha b A h s xs t).tst (k := fun p h1 => if p = true then eb s h1 else .ok (.bl false) h1) (kx := fun p => if p = true then pb xs else .ok (.bl false)) (fun p h1 e => by
    cases p
    · exact .of (.bl false)
    · exact hb b A h1 s xs (t.ext e))
  refine Eq.mp (congrArg (fun z => PostX A h z _) ?_) this
  unfold eAnd
  congr 1
  funext d h1
  cases d <;> try rfl
  rename_i p
  cases p <;> rfl
theorem ev_or (ha : EV o ea pa) (hb : EV o eb pb) : EV o (eOr ea eb) (pOr pa pb) := fun b A h s xs t => by
  have := (ha b A h s xs t).tst (k := fun p h1 => if p = true then .ok (.bl true) h1 else eb s h1) (kx := fun p => if p = true then .ok (.bl true) else pb xs) (fun p h1 e => by
    cases p
    · exact hb b A h1 s xs (t.ext e)
    · exact .of (.bl true))
  refine Eq.mp (congrArg (fun z => PostX A h z _) ?_) this
  unfold eOr
  congr 1
  funext d h1
  cases d <;> try rfl
  rename_i p
  cases p <;> rfl
theorem ev_not (ha : EV o ea pa) : EV o (eNot ea) (pNot pa) := fun b A h s xs t => by
  have := (ha b A h s xs t).tst (k := fun p h1 => .ok (.bl (!p)) h1) (kx := fun p => .ok (.bl (!p))) (fun p h1 e => .of (.bl _))
  refine Eq.mp (congrArg (fun z => PostX A h z _) ?_) this
  unfold eNot
  congr 1
theorem ev_if (hc : EV o ec pc) (ha : EV o ea pa) (hb : EV o eb pb) : EV o (eIf ec ea eb) (pIf pc pa pb) := fun b A h s xs t => by
  have := (hc b A h s xs t).tst (k := fun p h1 => if p = true then ea s h1 else eb s h1) (kx := fun p => if p = true then pa xs else pb xs) (fun p h1 e => by
    cases p
    · exact hb b A h1 s xs (t.ext e)
    · exact ha b A h1 s xs (t.ext e))
  refine Eq.mp (congrArg (fun z => PostX A h z _) ?_) this
  unfold eIf
  congr 1
  funext d h1
  cases d <;> try rfl
  rename_i p
  cases p <;> rfl
theorem ev_chain {f g : D → D → Hm → RD} {pf pg : PV → PV → PR} (hf : Op2V f pf) (hg : Op2V g pg) (ha : EV o ea pa) (hb : EV o eb pb) (hc : EV o ec pc) : EV o (eChain f g ea eb ec) (pChain pf pg pa pb pc) := fun b A h s xs t => by
  refine (ha b A h s xs t).bind fun d h1 x e1 r1 => (hb b A h1 s xs (t.ext e1)).bind fun d2 h2 y e2 r2 => ?_
  have t2 := (t.ext e1).ext e2
  have := (hf A h2 d d2 x y t2.bd (r1.ext e2) r2).tst (k := fun p h3 => if p = true then (ec s h3).bind fun z h4 => g d2 z h4 else .ok (.bl false) h3) (kx := fun p => if p = true then (pc xs).bind fun z => pg y z else .ok (.bl false)) (fun p h3 e3 => by
    cases p
    · exact .of (.bl false)
    · exact (hc b A h3 s xs (t2.ext e3)).bind fun d4 h4 z e4 r4 => hg A h4 d2 d4 y z ((t2.ext e3).ext e4).bd ((r2.ext e3).ext e4) r4)
  refine Eq.mp (congrArg (fun z => PostX A h2 z _) ?_) this
  congr 1
  funext d h1
  cases d <;> try rfl
  rename_i p
  cases p <;> rfl
inductive EVs (o : List Nat) : List FE → List PE → Prop
  | nil : EVs o [] []
  | cons {e : FE} {p : PE} {es : List FE} {ps : List PE} (h : EV o e p) (hs : EVs o es ps) : EVs o (e :: es) (p :: ps)
theorem post_arr {Z : RD → PR → Prop} (hz : ∀ r, Z r .bad) {A : Nat → Prop} {b : Nat} {s : DS} {xs : PS} : ∀ {es : List FE} {ps : List PE} {h : Hm} {k : List D → Hm → RD} {kx : List PV → PR}, EVs o es ps → St b A h o s xs → (∀ c ns ds ys h1, Ext h h1 → ns.length = ds.length → RvL A h1 ds ys → Z (.exc c (ns.zip ds) h1) (.exc c ns ys)) →
    (∀ ds h1 ys, Ext h h1 → RvL A h1 ds ys → Z (k ds h1) (kx ys)) → Z (evR es s h k) (pArr ps xs kx)
  | _, _, h, k, kx, .nil, t, hx, q => q [] h [] (Ext.refl h) .nil
  | _, _, h, k, kx, .cons (e := e) (p := p) (es := es) (ps := ps) he hs, t, hx, q => by
    have z := he b A h s xs t
    unfold evR pArr
    cases hp : p xs with
    | ok x =>
      rw [hp] at z
      obtain ⟨d, h1, e1, x1, r1⟩ := z
      rw [e1, RD.bind_ok, PR.bind_ok]
      exact post_arr hz hs (t.ext x1) (fun c ns ds ys h2 x2 l r => hx c ns ds ys h2 (x1.trans x2) l r) fun ds h2 ys x2 r2 => q (d :: ds) h2 (x :: ys) (x1.trans x2) (.cons (r1.ext x2) r2)
    | exc c ns ys =>
      rw [hp] at z
      obtain ⟨ds, h1, e1, x1, l, r1⟩ := z
      rw [e1, RD.bind_exc, PR.bind_exc]
      exact hx c ns ds ys h1 x1 l r1
    | bad => exact hz _
theorem ev_args {g : List D → Hm → RD} {pg : List PV → PR} {es : List FE} {ps : List PE} (hg : CallV g pg) (hs : EVs o es ps) : EV o (eArgs g es) (pArgs pg ps) := fun b A h s xs t => by
  rw [x_args]
  exact post_arr (Z := PostX A h) (fun _ => trivial) hs t (fun c ns ds ys h1 x l r => ⟨ds, h1, rfl, x, l, r⟩) fun ds h1 ys x r => (hg A h1 ds ys (t.ext x).bd r).from x
theorem PostN.from {A : Nat → Prop} {h h1 : Hm} {r : RD} {t : PR} (e : Ext h h1) (p : PostN A h1 r t) : PostN A h r t := by
  cases t with
  | ok x => obtain ⟨n, ds, xs, h', e1, e2, l, q⟩ := p; exact ⟨n, ds, xs, h', e1, e.trans e2, Nat.le_trans e.len l, q⟩
  | exc c ns xs => obtain ⟨d, h', e1, e2, q⟩ := p; exact ⟨d, h', e1, e.trans e2, q⟩
  | bad => trivial
theorem en_args {g : List D → Hm → RD} {pg : List PV → PR} {es : List FE} {ps : List PE} (hg : CallN g pg) (hs : EVs o es ps) : EN o (eArgs g es) (pArgs pg ps) := fun b A h s xs t => by
  rw [x_args]
  exact post_arr (Z := PostN A h) (fun _ => trivial) hs t (fun c ns ds ys h1 x l r => ⟨ds, h1, rfl, x, l, r⟩) fun ds h1 ys x r => (hg A h1 ds ys (t.ext x).bd r).from x
theorem ev_tup {es : List FE} {ps : List PE} (hs : EVs o es ps) : EV o (eTup es) (pTup ps) := ev_args (fun A h ds xs _ r => .of (.tup r)) hs
theorem new_post {A : Nat → Prop} {h : Hm} {ds : List D} {xs : List PV} (b : Bd A h) (r : RvL A h ds xs) : PostN A h (.ok (.ref h.length) (h ++ [.lst ds])) (.ok (.lst xs)) :=
  ⟨h.length, ds, xs, h ++ [.lst ds], rfl, Ext.app h _, Nat.le_refl _, .inl ⟨rfl, get_last⟩, r.mv fun n o a e => ⟨by
    intro z
    rcases z with z | z
    · exact a z
    · have := lt_of_get e
      omega, Ext.app h _ n o e⟩⟩
theorem en_lst {es : List FE} {ps : List PE} (hs : EVs o es ps) : EN o (eLst es) (pLst ps) := en_args (fun A h ds xs b r => new_post b r) hs
/-- what is new is let to be shared -/
theorem PostN.x {A : Nat → Prop} {h : Hm} {r : RD} {t : PR} (b : Bd A h) (p : PostN A h r t) : PostX A h r t := by
  cases t with
  | ok x =>
    obtain ⟨n, ds, xs, h', e1, e2, l, q, r⟩ := p
    have na : ¬ A n := fun a => by have := b n a; omega
    have r' := r.mono (A' := A) fun m z => .inl z
    refine ⟨.ref n, h', e1, e2, ?_⟩
    rcases q with ⟨rfl, q2⟩ | ⟨ks, rfl, q3, q2⟩
    · exact .lst na q2 r'
    · exact .dic na q2 q3 r'
  | exc c ns xs => exact p
  | bad => trivial
theorem EN.ev (h : EN o ea pa) : EV o ea pa := fun b A h1 s xs t => (h b A h1 s xs t).x t.bd
theorem FN.fv {m : FF} {v : PF} (h : FN m v) : FV m v := fun A h1 ds xs b r => (h A h1 ds xs b r).x b
theorem CallN.cv {m : List D → Hm → RD} {v : PF} (h : CallN m v) : CallV m v := fun A h1 ds xs b r => (h A h1 ds xs b r).x b
theorem Op2N.ov {m : D → D → Hm → RD} {v : PV → PV → PR} (h : Op2N m v) : Op2V m v := fun A h1 dx dy x y b r q => (h A h1 dx dy x y b r q).x b
end
end Sh

set_option Elab.async false
set_option linter.all false
set_option maxRecDepth 100000
set_option maxHeartbeats 4000000
/-! operations over values -/
namespace Sh
open PySem L2 PyProof.Rows
def itemsX : PV → Option (List PV)
  | .tup xs => some xs
  | .lst xs => some xs
  | .scr xs => some xs
  | _ => none
section
variable {A : Nat → Prop} {h : Hm} {d dx dy : D} {x y : PV}
theorem items_rv {xs : List PV} (r : Rv A h d x) (e : itemsX x = some xs) : ∃ ds, items h d = some ds ∧ RvL A h ds xs := by
  cases r with
  | tup r => cases e; exact ⟨_, rfl, r⟩
  | scr r => cases e; exact ⟨_, rfl, r⟩
  | lst a g r => cases e; exact ⟨_, by simp [items, g], r⟩
  | _ => cases e
def mapX (f : PV → Option PyData) : List PV → Option (List PyData)
  | [] => some []
  | d :: ds => match f d, mapX f ds with
    | some p, some ps => some (p :: ps)
    | _, _ => none
def toPx : Nat → PV → Option PyData
  | _, .non => some .none
  | _, .bl b => some (.bool b)
  | _, .int i => some (.int i)
  | _, .str x => some (.str x)
  | 0, _ => none
  | n + 1, .tup xs => (mapX (toPx n) xs).map .tuple
  | n + 1, .lst xs => (mapX (toPx n) xs).map .list
  | n + 1, .scr xs => (mapX (toPx n) xs).map .list
  | _, _ => none
theorem mapX_rv {f : PV → Option PyData} {g : D → Option PyData} (k : ∀ d x, Rv A h d x → g d = f x) : ∀ {ds : List D} {xs : List PV}, RvL A h ds xs → mapO g ds = mapX f xs
  | _, _, .nil => rfl
  | _, _, .cons (x := x) (xs := xs) r rs => by
    rw [mapO, mapX, k _ _ r, mapX_rv k rs]
    all_goals (cases f x <;> cases mapX f xs <;> rfl)
theorem toPx_rv : ∀ (n : Nat) {d : D} {x : PV}, Rv A h d x → toPy n h d = toPx n x
  | 0, _, _, r => by cases r <;> simp [toPy, toPx]
  | n + 1, _, _, r => by
    cases r with
    | tup r => simp only [toPy, toPx, mapX_rv (fun _ _ q => toPx_rv n q) r]
    | scr r => simp only [toPy, toPx, mapX_rv (fun _ _ q => toPx_rv n q) r]
    | lst a e r => simp only [toPy, toPx, e, mapX_rv (fun _ _ q => toPx_rv n q) r]
    | obj a e l r => simp only [toPy, toPx, e]
    | dic a e l r => simp only [toPy, toPx, e]
    | _ => simp [toPy, toPx]
def eqScX : PV → PV → Option Bool
  | .non, .non => some true
  | .non, .int _ => some false | .int _, .non => some false | .non, .bl _ => some false | .bl _, .non => some false | .non, .str _ => some false | .str _, .non => some false
  | .int i, .int j => some (decide (i = j)) | .bl i, .bl j => some (decide (i = j)) | .str i, .str j => some (decide (i = j))
  | .int _, .str _ => some false | .str _, .int _ => some false | .bl _, .str _ => some false | .str _, .bl _ => some false
  | _, _ => none
def eqX (x y : PV) : Option Bool := match eqScX x y with
  | some b => some b
  | none => match toPx 20 x, toPx 20 y with
    | some a, some b => if SeqAt.shaped a = true ∧ SeqAt.shaped b = true then some (PyData.eqv a b) else none
    | _, _ => none
theorem eqB_rv (r : Rv A h dx x) (q : Rv A h dy y) : eqB h dx dy = eqX x y := by
  have e : eqSc dx dy = eqScX x y := by cases r <;> cases q <;> rfl
  rw [eqB, eqX, e, toPx_rv 20 r, toPx_rv 20 q]
  all_goals (cases eqScX x y <;> cases toPx 20 x <;> cases toPx 20 y <;> rfl)
def xOf (o : Option Bool) : PR := match o with
  | some b => .ok (.bl b)
  | none => .bad
@[simp] theorem xOf_some (b : Bool) : xOf (some b) = .ok (.bl b) := rfl
@[simp] theorem xOf_none : xOf none = .bad := rfl
def xEq (x y : PV) : PR := xOf (eqX x y)
def xNe (x y : PV) : PR := xOf ((eqX x y).map (!·))
theorem ov_eq : Op2V dEq xEq := fun A h dx dy x y b r q => by
  unfold dEq xEq
  rw [eqB_rv r q]
  cases eqX x y with
  | none => trivial
  | some b => exact .of (.bl b)
theorem ov_ne : Op2V dNe xNe := fun A h dx dy x y b r q => by
  unfold dNe xNe
  rw [eqB_rv r q]
  cases eqX x y with
  | none => trivial
  | some b => exact .of (.bl _)
def flatX : PV → Bool
  | .non => true | .bl _ => true | .int _ => true | .str _ => true
  | _ => false
def eqFX : PV → PV → Bool
  | .non, .non => true
  | .bl a, .bl b => a == b
  | .bl a, .int b => (if a then 1 else 0) == b
  | .int a, .bl b => a == (if b then 1 else 0)
  | .int a, .int b => a == b
  | .str a, .str b => a == b
  | _, _ => false
theorem flat_rv (r : Rv A h d x) : flatD d = flatX x := by cases r <;> rfl
theorem eqF_rv (r : Rv A h dx x) (q : Rv A h dy y) : eqF dx dy = eqFX x y := by cases r <;> cases q <;> rfl
theorem allflat_rv : ∀ {ds : List D} {xs : List PV}, RvL A h ds xs → ds.all flatD = xs.all flatX
  | _, _, .nil => rfl
  | _, _, .cons r rs => by rw [List.all_cons, List.all_cons, flat_rv r, allflat_rv rs]
theorem anyeq_rv (q : Rv A h d x) : ∀ {ds : List D} {xs : List PV}, RvL A h ds xs → (ds.any fun z => eqF z d) = xs.any fun z => eqFX z x
  | _, _, .nil => rfl
  | _, _, .cons r rs => by rw [List.any_cons, List.any_cons, eqF_rv r q, anyeq_rv q rs]
def inX (x y : PV) : Option Bool := match y with
  | .tup ys => if flatX x = true ∧ ys.all flatX = true then some (ys.any fun z => eqFX z x) else none
  | _ => match toPx 20 x, toPx 20 y with
    | some a, some (.list b) => if SeqAt.shaped a = true ∧ SeqAt.shaped (.list b) = true then some (b.any fun z => PyData.eqv z a) else none
    | _, _ => none
theorem inB_rv (r : Rv A h dx x) (q : Rv A h dy y) : inB h dx dy = inX x y := by
  unfold inB inX
  have e1 := toPx_rv 20 r
  have e2 := toPx_rv 20 q
  cases q with
  | tup q => simp only [flat_rv r, allflat_rv q, anyeq_rv r q]
  | _ =>
    simp only [e1, e2]
    all_goals (
      cases toPx 20 x with
      | none => rfl
      | some a =>
        cases hb : toPx 20 _ with
        | none => simp [hb]
        | some b => cases b <;> rfl)
def xIn (x y : PV) : PR := xOf (inX x y)
def xNotIn (x y : PV) : PR := xOf ((inX x y).map (!·))
theorem ov_in : Op2V dIn xIn := fun A h dx dy x y b r q => by
  unfold dIn xIn
  rw [inB_rv r q]
  cases inX x y with
  | none => trivial
  | some b => exact .of (.bl b)
theorem ov_notin : Op2V dNotIn xNotIn := fun A h dx dy x y b r q => by
  unfold dNotIn xNotIn
  rw [inB_rv r q]
  cases inX x y with
  | none => trivial
  | some b => exact .of (.bl _)
def xIs (x y : PV) : PR := match y with
  | .non => .ok (.bl (match x with | .non => true | _ => false))
  | .bl b => .ok (.bl (match x with | .bl c => c == b | _ => false))
  | _ => .bad
def xIsNot (x y : PV) : PR := match y with
  | .non => .ok (.bl (match x with | .non => false | _ => true))
  | .bl b => .ok (.bl (match x with | .bl c => !(c == b) | _ => true))
  | _ => .bad
theorem ov_is : Op2V dIs xIs := fun A h dx dy x y b r q => by
  cases q with
  | non => cases r <;> exact .of (.bl _)
  | bl b =>
    cases r with
    | bl c => cases b <;> cases c <;> exact .of (.bl _)
    | _ => exact .of (.bl _)
  | _ => trivial
theorem ov_isnot : Op2V dIsNot xIsNot := fun A h dx dy x y b r q => by
  cases q with
  | non => cases r <;> exact .of (.bl _)
  | bl b =>
    cases r with
    | bl c => cases b <;> cases c <;> exact .of (.bl _)
    | _ => exact .of (.bl _)
  | _ => trivial
def xCmp (g : Int → Int → Bool) (x y : PV) : PR := match x, y with
  | .int i, .int j => .ok (.bl (g i j))
  | _, _ => .bad
theorem ov_cmp (g : Int → Int → Bool) : Op2V (dCmp g) (xCmp g) := fun A h dx dy x y b r q => by
  cases r <;> try trivial
  cases q <;> try trivial
  exact .of (.bl _)
def xInt0 (g : Int → Int → Int) (x y : PV) : PR := match x, y with
  | .int i, .int j => .ok (.int (g i j))
  | _, _ => .bad
theorem ov_int0 (g : Int → Int → Int) : Op2V (dInt0 g) (xInt0 g) := fun A h dx dy x y b r q => by
  cases r <;> try trivial
  cases q <;> try trivial
  exact .of (.int _)
def xInt2 (c : Int → Int → Bool) (g : Int → Int → Int) (x y : PV) : PR := match x, y with
  | .int i, .int j => if c i j = true then .ok (.int (g i j)) else .bad
  | _, _ => .bad
theorem ov_int2 (c : Int → Int → Bool) (g : Int → Int → Int) : Op2V (dInt2 c g) (xInt2 c g) := fun A h dx dy x y b r q => by
  cases r <;> try trivial
  cases q <;> try trivial
  rename_i i j
  unfold dInt2 xInt2
  by_cases hc : c i j = true
  · simp only [hc, if_true]; exact .of (.int _)
  · simp only [hc]; trivial
abbrev xSub := xInt0 fun i j => i - j
abbrev xMod := xInt2 (fun _ j => decide (0 < j)) fun i j => i % j
abbrev xDiv := xInt2 (fun _ j => decide (0 < j ∧ j < 2 ^ 200)) fun i j => i / j
abbrev xPow := xInt2 (fun i j => decide (0 ≤ j ∧ j ≤ 1000000 ∧ i.natAbs < 2 ^ 64)) fun i j => i ^ j.toNat
theorem ov_sub : Op2V dSub xSub := ov_int0 _
theorem ov_mod : Op2V dMod xMod := ov_int2 _ _
theorem ov_div : Op2V dDiv xDiv := ov_int2 _ _
theorem ov_pow : Op2V dPow xPow := ov_int2 _ _
theorem rvl_flat {ds : List D} {xs : List PV} (r : RvL A h ds xs) : ∀ k : Nat, RvL A h (List.replicate k ds).flatten (List.replicate k xs).flatten
  | 0 => .nil
  | k + 1 => by
    rw [List.replicate_succ, List.replicate_succ, List.flatten_cons, List.flatten_cons]
    exact r.app (rvl_flat r k)
def xMul (x y : PV) : PR := match x, y with
  | .int i, .int j => if cM i j = true then .ok (.int (i * j)) else .bad
  | .lst xs, .int k => if -(2 ^ 63) ≤ k ∧ k < 2 ^ 63 ∧ xs.length * k.toNat ≤ big then .ok (.lst (List.replicate k.toNat xs).flatten) else .bad
  | _, _ => .bad
theorem ov_mul : Op2V dMul xMul := fun A h dx dy x y b r q => by
  cases r <;> try trivial
  case int i =>
    cases q <;> try trivial
    rename_i j
    unfold dMul xMul
    by_cases hc : cM i j = true
    · simp only [hc, if_true]; exact .of (.int _)
    · simp only [hc]; trivial
  case lst r =>
    rename_i n ds xs a e
    cases q <;> try trivial
    rename_i k
    unfold dMul xMul
    simp only [e, r.length]
    split
    · exact (new_post b (rvl_flat r _)).x b
    · trivial
/-- a list many times over: a new list -/
def xMulL (x y : PV) : PR := match x, y with
  | .lst xs, .int k => if -(2 ^ 63) ≤ k ∧ k < 2 ^ 63 ∧ xs.length * k.toNat ≤ big then .ok (.lst (List.replicate k.toNat xs).flatten) else .bad
  | _, _ => .bad
theorem on_mulL : Op2N dMul xMulL := fun A h dx dy x y b r q => by
  cases r <;> try trivial
  rename_i n ds xs a e r
  cases q <;> try trivial
  rename_i k
  unfold dMul xMulL
  simp only [e, r.length]
  split
  · exact new_post b (rvl_flat r _)
  · trivial
def xMulT (x y : PV) : PR := match x, y with
  | .tup xs, .int k => if xs ≠ [] ∧ 1 ≤ k ∧ k ≤ 1000 ∧ xs.length ≤ 1000 then .ok (.tup (List.replicate k.toNat xs).flatten) else .bad
  | _, _ => .bad
theorem ov_mulT : Op2V dMulT xMulT := fun A h dx dy x y b r q => by
  cases r <;> try trivial
  rename_i ds xs r
  cases q <;> try trivial
  rename_i k
  unfold dMulT xMulT
  have e : (ds ≠ []) = (xs ≠ []) := by cases r <;> simp
  simp only [e, r.length]
  split
  · exact .of (.tup (rvl_flat r _))
  · trivial
def xAdd (x y : PV) : PR := match x, y with
  | .int i, .int j => .ok (.int (i + j))
  | .tup a, .tup b => if a.length + b.length ≤ big then .ok (.tup (a ++ b)) else .bad
  | .str a, .str b => if a.length + b.length ≤ big then .ok (.str (a ++ b)) else .bad
  | .lst a, .lst b => if a.length + b.length ≤ big then .ok (.lst (a ++ b)) else .bad
  | _, _ => .bad
theorem ov_add : Op2V dAdd xAdd := fun A h dx dy x y b r q => by
  cases r <;> try trivial
  case int i =>
    cases q <;> try trivial
    exact .of (.int _)
  case str i =>
    cases q <;> try trivial
    unfold dAdd xAdd
    dsimp only
    split
    · exact .of (.str _)
    · trivial
  case tup r =>
    cases q <;> try trivial
    rename_i q
    unfold dAdd xAdd
    dsimp only
    rw [r.length, q.length]
    split
    · exact .of (.tup (r.app q))
    · trivial
  case lst r =>
    rename_i n ds xs a e
    cases q <;> try trivial
    rename_i n2 ds2 xs2 a2 e2 q
    unfold dAdd xAdd
    simp only [e, e2]
    rw [r.length, q.length]
    split
    · exact (new_post b (r.app q)).x b
    · trivial
def xAddL (x y : PV) : PR := match x, y with
  | .lst a, .lst b => if a.length + b.length ≤ big then .ok (.lst (a ++ b)) else .bad
  | _, _ => .bad
theorem on_add : Op2N dAdd xAddL := fun A h dx dy x y b r q => by
  cases r <;> try trivial
  case lst r =>
    rename_i n ds xs a e
    cases q <;> try trivial
    rename_i n2 ds2 xs2 a2 e2 q
    unfold dAdd xAddL
    simp only [e, e2]
    rw [r.length, q.length]
    split
    · exact new_post b (r.app q)
    · trivial
def xIx (x y : PV) : PR := match y with
  | .int i => match itemsX x with
    | some xs => match atI xs i with
      | some z => .ok z
      | none => .bad
    | none => .bad
  | _ => .bad
theorem atI_rv {ds : List D} {xs : List PV} {i : Int} (r : RvL A h ds xs) (e : atI xs i = some x) : ∃ d, atI ds i = some d ∧ Rv A h d x := by
  unfold atI at e ⊢
  rw [r.length]
  cases hk : ixN xs.length i with
  | none => rw [hk] at e; cases e
  | some k =>
    rw [hk] at e
    exact r.get e
theorem ov_ix : Op2V dIx xIx := fun A h dx dy x y b r q => by
  cases q <;> try trivial
  rename_i i
  unfold dIx xIx
  dsimp only
  cases hx : itemsX x with
  | none => trivial
  | some xs =>
    obtain ⟨ds, e, r2⟩ := items_rv r hx
    rw [e]
    dsimp only
    cases hy : atI xs i with
    | none => trivial
    | some z =>
      obtain ⟨d2, e2, r3⟩ := atI_rv r2 hy
      rw [e2]
      exact .of r3
/-! built in calls -/
def yLen : List PV → PR
  | [.str z] => if z.length ≤ big then .ok (.int z.length) else .bad
  | [x] => match itemsX x with
    | some xs => .ok (.int xs.length)
    | none => .bad
  | _ => .bad
theorem cv_len : CallV bLen yLen := fun A h ds xs b r => by
  cases r with
  | nil => trivial
  | cons r rs =>
    cases rs with
    | cons _ _ => cases r <;> trivial
    | nil =>
      cases r with
      | str z => unfold bLen yLen; dsimp only; split; exact .of (.int _); trivial
      | tup r => unfold bLen yLen; simp only [items, itemsX, r.length]; exact .of (.int _)
      | scr r => unfold bLen yLen; simp only [items, itemsX, r.length]; exact .of (.int _)
      | lst a e r => unfold bLen yLen; simp only [items, itemsX, e, r.length]; exact .of (.int _)
      | _ => trivial
def yInt : List PV → PR
  | [.int i] => .ok (.int i)
  | _ => .bad
theorem cv_int : CallV bInt yInt := fun A h ds xs b r => by
  cases r with
  | nil => trivial
  | cons r rs =>
    cases rs with
    | cons _ _ => cases r <;> trivial
    | nil =>
      cases r with
      | int i => exact .of (.int _)
      | _ => trivial
def yList : List PV → PR
  | [x] => match itemsX x with
    | some xs => .ok (.lst xs)
    | none => .bad
  | _ => .bad
theorem cn_list : CallN bList yList := fun A h ds xs b r => by
  cases r with
  | nil => trivial
  | cons r rs =>
    cases rs with
    | cons _ _ => trivial
    | nil =>
      unfold bList yList
      dsimp only
      cases hx : itemsX _ with
      | none => trivial
      | some xs =>
        obtain ⟨ds, e, r2⟩ := items_rv r hx
        rw [e]
        exact new_post b r2
def yTuple : List PV → PR
  | [x] => match itemsX x with
    | some xs => .ok (.tup xs)
    | none => .bad
  | _ => .bad
theorem cv_tuple : CallV bTuple yTuple := fun A h ds xs b r => by
  cases r with
  | nil => trivial
  | cons r rs =>
    cases rs with
    | cons _ _ => trivial
    | nil =>
      unfold bTuple yTuple
      dsimp only
      cases hx : itemsX _ with
      | none => trivial
      | some xs =>
        obtain ⟨ds, e, r2⟩ := items_rv r hx
        rw [e]
        exact .of (.tup r2)
def blsX : List PV → Option (List Bool)
  | [] => some []
  | .bl b :: r => (blsX r).map (b :: ·)
  | _ => none
theorem bls_rv : ∀ {ds : List D} {xs : List PV}, RvL A h ds xs → bls ds = blsX xs
  | _, _, .nil => rfl
  | _, _, .cons r rs => by
    cases r <;> try rfl
    rw [bls, blsX, bls_rv rs]
def yQuant (g : List Bool → Bool) : List PV → PR
  | [.lst xs] => match blsX xs with
    | some bs => .ok (.bl (g bs))
    | none => .bad
  | _ => .bad
theorem cv_quant (g : List Bool → Bool) : CallV (bQuant g) (yQuant g) := fun A h ds xs b r => by
  cases r with
  | nil => trivial
  | cons r rs =>
    cases rs with
    | cons _ _ => cases r <;> trivial
    | nil =>
      cases r with
      | lst a e r =>
        unfold bQuant yQuant
        simp only [e, bls_rv r]
        cases hb : blsX _ with
        | none => trivial
        | some bs => exact .of (.bl _)
      | _ => trivial
abbrev yAll := yQuant fun bs => bs.all id
abbrev yAny := yQuant fun bs => bs.any id
def intsX : List PV → Option (List Int)
  | [] => some []
  | .int i :: ds => (intsX ds).map (i :: ·)
  | _ => none
theorem ints_rv : ∀ {ds : List D} {xs : List PV}, RvL A h ds xs → intsD ds = intsX xs
  | _, _, .nil => rfl
  | _, _, .cons r rs => by
    cases r <;> try rfl
    rw [intsD, intsX, ints_rv rs]
theorem intsX_map (ns : List Int) : intsX (ns.map PV.int) = some ns := by
  induction ns with
  | nil => rfl
  | cons a l ih => rw [List.map_cons, intsX, ih]; rfl
def yInts (g : List Int → Option Int) : List PV → PR
  | [.lst xs] => match intsX xs with
    | some ns => match g ns with
      | some i => .ok (.int i)
      | none => .bad
    | none => .bad
  | _ => .bad
theorem cv_ints (g : List Int → Option Int) : CallV (bInts g) (yInts g) := fun A h ds xs b r => by
  cases r with
  | nil => trivial
  | cons r rs =>
    cases rs with
    | cons _ _ => cases r <;> trivial
    | nil =>
      cases r with
      | lst a e r =>
        unfold bInts yInts
        simp only [e, ints_rv r]
        cases hb : intsX _ with
        | none => trivial
        | some bs =>
          dsimp only
          cases g bs with
          | none => trivial
          | some i => exact .of (.int _)
      | _ => trivial
abbrev ySum := yInts fun ns => some ns.sum
abbrev yMax := yInts fun ns => if ns = [] then none else some (mxI ns)
abbrev yMin := yInts fun ns => if ns = [] then none else some (mnI ns)
def yTwo (g : Int → Int → Int) : List PV → PR
  | [.int i, .int j] => .ok (.int (g i j))
  | _ => .bad
theorem cv_two (g : Int → Int → Int) : CallV (bTwo g) (yTwo g) := fun A h ds xs b r => by
  cases r with
  | nil => trivial
  | cons r rs =>
    cases rs with
    | nil => cases r <;> trivial
    | cons r2 rs =>
      cases rs with
      | cons _ _ => cases r <;> cases r2 <;> trivial
      | nil =>
        cases r <;> try trivial
        cases r2 <;> try trivial
        exact .of (.int _)
abbrev yMax2 := yTwo fun i j => if j > i then j else i
abbrev yMin2 := yTwo fun i j => if j < i then j else i
theorem rvl_ints : ∀ l : List Int, RvL A h (l.map D.int) (l.map PV.int)
  | [] => .nil
  | a :: l => .cons (.int a) (rvl_ints l)
def ySortI : List PV → PR
  | [x] => match itemsX x with
    | some xs => match intsX xs with
      | some l => .ok (.lst ((ascI l).map PV.int))
      | none => .bad
    | none => .bad
  | _ => .bad
theorem cn_sortI : CallN bSortI ySortI := fun A h ds xs b r => by
  cases r with
  | nil => trivial
  | cons r rs =>
    cases rs with
    | cons _ _ => trivial
    | nil =>
      unfold bSortI ySortI
      dsimp only
      cases hx : itemsX _ with
      | none => trivial
      | some xs =>
        obtain ⟨ds, e, r2⟩ := items_rv r hx
        rw [e]
        simp only [ints_rv r2]
        cases hb : intsX _ with
        | none => trivial
        | some bs => exact new_post b (rvl_ints _)
/-! defs -/
variable {o : List Nat} {ea eb : FE} {pa pb : PE}
theorem FV.cv {m : FF} {v : PF} (h : FV m v) : CallV m v := h
theorem FN.cn {m : FF} {v : PF} (h : FN m v) : CallN m v := h
/-! others -/
theorem en_bin {f : D → D → Hm → RD} {pf : PV → PV → PR} (hf : Op2N f pf) (ha : EV o ea pa) (hb : EV o eb pb) : EN o (eBin f ea eb) (pBin pf pa pb) := fun b A h s xs t => by
  have ta := ha b A h s xs t
  unfold eBin pBin
  cases hp : pa xs with
  | bad => trivial
  | exc c ns ys => rw [hp] at ta; obtain ⟨ds, h1, e1, x1, l, r⟩ := ta; rw [e1]; exact ⟨ds, h1, rfl, x1, l, r⟩
  | ok x =>
    rw [hp] at ta
    obtain ⟨d, h1, e1, x1, r⟩ := ta
    rw [e1, RD.bind_ok, PR.bind_ok]
    have tb := hb b A h1 s xs (t.ext x1)
    cases hq : pb xs with
    | bad => trivial
    | exc c ns ys => rw [hq] at tb; obtain ⟨ds, h2, e2, x2, l, r⟩ := tb; rw [e2]; exact ⟨ds, h2, rfl, x1.trans x2, l, r⟩
    | ok y =>
      rw [hq] at tb
      obtain ⟨d2, h2, e2, x2, r2⟩ := tb
      rw [e2, RD.bind_ok, PR.bind_ok]
      exact (hf A h2 d d2 x y ((t.ext x1).ext x2).bd (r.ext x2) r2).from (x1.trans x2)
def pNeg (a : PE) : PE := fun s => (a s).bind fun d => match d with
  | .int i => .ok (.int (-i))
  | _ => .bad
theorem ev_neg (ha : EV o ea pa) : EV o (eNeg ea) (pNeg pa) := fun b A h s xs t => (ha b A h s xs t).bind fun d h1 x e1 r => by
  cases r <;> try trivial
  exact .of (.int _)
def truX : PV → Option Bool
  | .non => some false
  | .bl b => some b
  | .int i => some (i != 0)
  | .str x => if x.length ≤ big then some ((x.length : Int) != 0) else none
  | .tup xs => some (!xs.isEmpty)
  | .scr xs => some (!xs.isEmpty)
  | .lst xs => some (!xs.isEmpty)
  | .dic ks xs => some (!ks.isEmpty)
  | _ => none
def pTru (a : PE) : PE := fun s => (a s).bind fun d => xOf (truX d)
theorem RvL.empty {ds : List D} {xs : List PV} (r : RvL A h ds xs) : ds.isEmpty = xs.isEmpty := by cases r <;> rfl
theorem ev_tru (ha : EV o ea pa) : EV o (eTru ea) (pTru pa) := fun b A h s xs t => (ha b A h s xs t).bind fun d h1 x e1 r => by
  have e : truB h1 d = truX x ∨ truX x = none := by
    cases r with
    | tup r => left; simp only [truB, truX, r.empty]
    | scr r => left; simp only [truB, truX, r.empty]
    | lst a e r => left; simp only [truB, truX, e, r.empty]
    | dic a e l r =>
      rename_i n ks ds xs
      left
      simp only [truB, truX, e]
      cases ks with
      | nil => rfl
      | cons k ks => cases ds with
        | nil => simp at l
        | cons d ds => rfl
    | obj a e l r => right; rfl
    | _ => left; rfl
  rcases e with e | e
  · rw [e]
    cases truX x with
    | none => trivial
    | some b => exact .of (.bl b)
  · rw [e]; trivial
def tyX : PV → Option String
  | .non => some "NoneType"
  | .bl _ => some "bool"
  | .int _ => some "int"
  | .str _ => some "str"
  | .tup _ => some "tuple"
  | .lst _ => some "list"
  | .dic _ _ => some "dict"
  | _ => none
def isiX (T : String) (x : PV) : Option Bool := (tyX x).bind fun a => kitB a T
def pIsi (T : String) (a : PE) : PE := fun s => (a s).bind fun d => xOf (isiX T d)
theorem ev_isi {T : String} (ha : EV o ea pa) : EV o (eIsi T ea) (pIsi T pa) := fun b A h s xs t => (ha b A h s xs t).bind fun d h1 x e1 r => by
  have e : isiB T h1 d = isiX T x ∨ isiX T x = none := by
    cases r with
    | lst a e r => left; simp only [isiB, isiX, tyN, tyX, e]
    | dic a e r => left; simp only [isiB, isiX, tyN, tyX, e]
    | obj a e r => right; rfl
    | scr r => right; rfl
    | _ => left; rfl
  rcases e with e | e
  · rw [e]
    cases isiX T x with
    | none => trivial
    | some b => exact .of (.bl b)
  · rw [e]; trivial
theorem lookup_rv {f : Str} : ∀ {ns : List Str} {ds : List D} {xs : List PV}, RvL A h ds xs → ∀ {x : PV}, (ns.zip xs).lookup f = some x → ∃ d, (ns.zip ds).lookup f = some d ∧ Rv A h d x
  | [], _, _, _, _, e => by simp at e
  | n :: ns, _, _, .nil, _, e => by simp at e
  | n :: ns, _, _, .cons r rs, x, e => by
    rw [List.zip_cons_cons, List.lookup_cons] at e ⊢
    cases hn : f == n with
    | true => rw [hn] at e; cases e; exact ⟨_, rfl, r⟩
    | false => rw [hn] at e; exact lookup_rv rs e
theorem lookup_none {f : Str} : ∀ {ns : List Str} {ds : List D} {xs : List PV}, RvL A h ds xs → (ns.zip xs).lookup f = none → (ns.zip ds).lookup f = none
  | [], _, _, _, e => by simp
  | n :: ns, _, _, .nil, e => by simp
  | n :: ns, _, _, .cons r rs, e => by
    rw [List.zip_cons_cons, List.lookup_cons] at e ⊢
    cases hn : f == n with
    | true => rw [hn] at e; cases e
    | false => rw [hn] at e; exact lookup_none rs e
def pFld (c f : Str) (a : PE) : PE := fun s => (a s).bind fun d => match d with
  | .obj c' ns xs => if c' = c then (match (ns.zip xs).lookup f with
    | some x => .ok x
    | none => .bad) else .bad
  | _ => .bad
theorem ev_fld {c f : Str} (ha : EV o ea pa) : EV o (eFld c f ea) (pFld c f pa) := fun b A h s xs t => (ha b A h s xs t).bind fun d h1 x e1 r => by
  cases r <;> try trivial
  rename_i n c' ns ds ys a e l r
  dsimp only
  rw [e]
  dsimp only
  by_cases hc : c' = c
  · rw [if_pos hc, if_pos hc]
    cases hx : (ns.zip ys).lookup f with
    | none => trivial
    | some x =>
      obtain ⟨d, e2, r2⟩ := lookup_rv r hx
      rw [e2]
      exact .of r2
  · rw [if_neg hc, if_neg hc]; trivial
/-- a method that changes nothing -/
def pMeth (c mn : Str) (v : PF) (a : PE) (ps : List PE) : PE := fun s => (a s).bind fun d => match d with
  | .obj c' ns xs => if c' = c ∧ (ns.zip xs).lookup mn = none then pArr ps s fun ys => v (d :: ys) else .bad
  | _ => .bad
theorem ev_meth {c mn : Str} {m : FF} {v : PF} {es : List FE} {ps : List PE} (hm : FV m v) (ha : EV o ea pa) (hs : EVs o es ps) : EV o (eMeth c mn m ea es) (pMeth c mn v pa ps) := fun b A h s xs t => (ha b A h s xs t).bind fun d h1 x e1 r => by
  cases r <;> try trivial
  rename_i n c' ns ds ys a e l r
  dsimp only
  rw [e]
  dsimp only
  by_cases hc : c' = c ∧ (ns.zip ys).lookup mn = none
  · rw [if_pos hc, if_pos ⟨hc.1, lookup_none r hc.2⟩, x_args]
    have t1 := t.ext e1
    exact post_arr (Z := PostX A h1) (fun _ => trivial) hs t1 (fun c ns ds ys h1 x l r => ⟨ds, h1, rfl, x, l, r⟩) fun ds h2 ys x r2 => (hm A h2 _ _ (t1.ext x).bd (.cons (.obj a (x _ _ e) l (r.ext x)) r2)).from x
  · rw [if_neg hc]; trivial
/-- an object that is made, and does not change any more -/
def MkV (c : Str) (m : FF) (v : PF) : Prop := ∀ A h ds xs, Bd A h → RvL A h ds xs → PostX A h (dMake c m ds h) (v xs)
def pMake (v : PF) (ps ks : List PE) : PE := fun s => pArr ps s fun xs => pArr ks s fun ys => v (xs ++ ys)
theorem ev_make {c : Str} {m : FF} {v : PF} {es fk : List FE} {ps ks : List PE} (hm : MkV c m v) (hs : EVs o es ps) (hk : EVs o fk ks) : EV o (eMake c m es fk) (pMake v ps ks) := fun b A h s xs t => by
  have e : eMake c m es fk s h = evR es s h fun ds h1 => evR fk s h1 fun fs h2 => dMake c m (ds ++ fs) h2 := by
    rw [evR_eq]
    unfold eMake
    cases evalL es s h with
    | ok ds h1 => dsimp only; rw [evR_eq]; all_goals rfl
    | _ => rfl
  rw [e]
  refine post_arr (Z := PostX A h) (fun _ => trivial) hs t (fun c ns ds ys h1 x l r => ⟨ds, h1, rfl, x, l, r⟩) fun ds h1 ys x r => ?_
  refine PostX.from x ?_
  have t1 := t.ext x
  exact post_arr (Z := PostX A h1) (fun _ => trivial) hk t1 (fun c ns ds ys h1 x l r => ⟨ds, h1, rfl, x, l, r⟩) fun fs h2 zs x2 r2 => (hm A h2 _ _ (t1.ext x2).bd ((r.ext x2).app r2)).from x2
end
end Sh

set_option Elab.async false
set_option linter.all false
set_option maxRecDepth 100000
set_option maxHeartbeats 4000000
/-! states, statements -/
namespace Sh
open PySem L2 PyProof.Rows
mutual
def noRef : PV → Bool
  | .tup xs => noRefL xs
  | .scr xs => noRefL xs
  | .lst _ => false
  | .obj _ _ _ => false
  | .dic _ _ => false
  | _ => true
def noRefL : List PV → Bool
  | [] => true
  | x :: xs => noRef x && noRefL xs
end
mutual
theorem Rv.nr {A A' : Nat → Prop} {h h' : Hm} : ∀ {d : D} {x : PV}, noRef x = true → Rv A h d x → Rv A' h' d x
  | _, _, _, .non => .non
  | _, _, _, .bl b => .bl b
  | _, _, _, .int b => .int b
  | _, _, _, .str b => .str b
  | _, _, q, .tup r => .tup (RvL.nr (by simpa [noRef] using q) r)
  | _, _, q, .scr r => .scr (RvL.nr (by simpa [noRef] using q) r)
  | _, _, q, .lst a e r => by simp [noRef] at q
  | _, _, q, .obj a e l r => by simp [noRef] at q
  | _, _, q, .dic a e l r => by simp [noRef] at q
theorem RvL.nr {A A' : Nat → Prop} {h h' : Hm} : ∀ {ds : List D} {xs : List PV}, noRefL xs = true → RvL A h ds xs → RvL A' h' ds xs
  | _, _, _, .nil => .nil
  | _, _, q, .cons r rs => by
    simp only [noRefL, Bool.and_eq_true] at q
    exact .cons (Rv.nr q.1 r) (RvL.nr q.2 rs)
end
theorem noRefL_of {xs : List PV} (h : ∀ x ∈ xs, noRef x = true) : noRefL xs = true := by
  induction xs with
  | nil => rfl
  | cons x xs ih => rw [noRefL, h x List.mem_cons_self, ih fun y hy => h y (List.mem_cons_of_mem _ hy)]; rfl
@[simp] theorem noRefL_ints (l : List Int) : noRefL (l.map PV.int) = true := noRefL_of fun x hx => by
  obtain ⟨i, _, rfl⟩ := List.mem_map.mp hx
  rfl
def PR.nr (r : PR) : PR := match r with
  | .ok x => if noRef x = true then .ok x else .bad
  | .exc c ns xs => if noRefL xs = true then .exc c ns xs else .bad
  | .bad => .bad
def PR.nrl (r : PR) : PR := match r with
  | .ok (.lst xs) => if noRefL xs = true then .ok (.lst xs) else .bad
  | .ok (.dic ks xs) => if noRefL xs = true then .ok (.dic ks xs) else .bad
  | .exc c ns xs => if noRefL xs = true then .exc c ns xs else .bad
  | _ => .bad
/-! what stays -/
def Keep (b : Nat) (A : Nat → Prop) (h : Hm) (A' : Nat → Prop) (h' : Hm) : Prop :=
  (∀ (n : Nat) (o : O), ¬ (A n ∧ b ≤ n) → h[n]? = some o → h'[n]? = some o) ∧ (∀ n, A' n → A n ∨ h.length ≤ n) ∧ (∀ n, A n → n < b → A' n) ∧ h.length ≤ h'.length
section
variable {b : Nat} {A A' A1 A2 : Nat → Prop} {h h' h1 h2 : Hm} {o o1 o2 oL : List Nat} {s s' : DS} {xs ys : PS} {d : D} {x : PV}
theorem Keep.ext (e : Ext h h') : Keep b A h A h' := ⟨fun n o _ g => e n o g, fun n a => .inl a, fun n a _ => a, e.len⟩
theorem Keep.trans (k : Keep b A h A1 h1) (l : Keep b A1 h1 A2 h2) : Keep b A h A2 h2 := ⟨fun n ob z g => l.1 n ob (fun w => by
  rcases k.2.1 n w.1 with q | q
  · exact z ⟨q, w.2⟩
  · have := lt_of_get g
    omega) (k.1 n ob z g), fun n a => by
  rcases l.2.1 n a with q | q
  · exact k.2.1 n q
  · exact .inr (Nat.le_trans k.2.2.2 q), fun n a z => l.2.2.1 n (k.2.2.1 n a z) z, Nat.le_trans k.2.2.2 l.2.2.2⟩
theorem St.sub (t : St b A h o s xs) (k : ∀ i ∈ o1, i ∈ o) : ∃ A1, St b A1 h o1 s xs ∧ Keep b A h A1 h ∧ ∀ n, A1 n → A n := by
  refine ⟨fun n => A n ∧ ¬ ∃ i ∈ o, i ∉ o1 ∧ s[i]? = some (some (.ref n)), ⟨t.len, fun i x e => ?_, fun n a => t.bd n a.1, t.bh, fun i hi n e => ⟨(t.loc i (k i hi) n e).1, (t.loc i (k i hi) n e).2, fun ⟨j, hj, hj1, ej⟩ => hj1 (t.dis i (k i hi) j hj n e ej ▸ hi)⟩, fun i hi j hj => t.dis i (k i hi) j (k j hj)⟩, ⟨fun n ob _ g => g, fun n a => .inl a.1, fun n a z => ⟨a, fun ⟨i, hi, _, e⟩ => ?_⟩, Nat.le_refl _⟩, fun n a => a.1⟩
  · obtain ⟨d, e1, e2, e3⟩ := t.rel i x e
    refine ⟨d, e1, fun hi => ?_, fun hi => ?_⟩
    · by_cases ho : i ∈ o
      · obtain ⟨n, ds, zs, rfl, a, q, r⟩ := e3 ho
        have na : ¬ (A n ∧ ¬ ∃ i ∈ o, i ∉ o1 ∧ s[i]? = some (some (.ref n))) := fun z => z.2 ⟨i, ho, hi, e1⟩
        have r' := r.mono (A' := fun n => A n ∧ ¬ ∃ i ∈ o, i ∉ o1 ∧ s[i]? = some (some (.ref n))) fun _ z => z.1
        rcases q with ⟨rfl, q⟩ | ⟨ks, rfl, q1, q⟩
        · exact .lst na q r'
        · exact .dic na q q1 r'
      · exact (e2 ho).mono fun _ z => z.1
    · obtain ⟨n, ds, zs, rfl, a, q, r⟩ := e3 (k i hi)
      exact ⟨n, ds, zs, rfl, ⟨a, fun ⟨j, hj, hj1, ej⟩ => hj1 (t.dis i (k i hi) j hj n e1 ej ▸ hi)⟩, q, r.mono fun _ z => z.1⟩
  · have := (t.loc i hi n e).1
    omega
theorem ev_rd {e : FE} {p : PE} (o1 : List Nat) (he : EV o1 e p) (k : ∀ i ∈ o1, i ∈ o := by decide) : EV o e fun xs => (p xs).nr := fun b A h s xs t => by
  obtain ⟨A1, t1, _, le⟩ := t.sub k
  have z := he b A1 h s xs t1
  show PostX A h (e s h) (p xs).nr
  cases hp : p xs with
  | ok x =>
    rw [hp] at z
    obtain ⟨d, h', e1, e2, r⟩ := z
    show PostX A h (e s h) (if noRef x = true then PR.ok x else PR.bad)
    by_cases hx : noRef x = true
    · rw [if_pos hx]; exact ⟨d, h', e1, e2, r.nr hx⟩
    · rw [if_neg hx]; trivial
  | exc c ns ys =>
    rw [hp] at z
    obtain ⟨d, h', e1, e2, l, r⟩ := z
    show PostX A h (e s h) (if noRefL ys = true then PR.exc c ns ys else PR.bad)
    by_cases hx : noRefL ys = true
    · rw [if_pos hx]; exact ⟨d, h', e1, e2, l, r.nr hx⟩
    · rw [if_neg hx]; trivial
  | bad => trivial
theorem en_rd {e : FE} {p : PE} (o1 : List Nat) (he : EN o1 e p) (k : ∀ i ∈ o1, i ∈ o := by decide) : EN o e fun xs => (p xs).nrl := fun b A h s xs t => by
  obtain ⟨A1, t1, _, le⟩ := t.sub k
  have z := he b A1 h s xs t1
  show PostN A h (e s h) (p xs).nrl
  cases hp : p xs with
  | ok x =>
    rw [hp] at z
    obtain ⟨n, ds, zs, h', e1, e2, l, q, r⟩ := z
    rcases q with ⟨rfl, q⟩ | ⟨ks, rfl, q1, q⟩
    · show PostN A h (e s h) (if noRefL zs = true then PR.ok (.lst zs) else PR.bad)
      by_cases hx : noRefL zs = true
      · rw [if_pos hx]; exact ⟨n, ds, zs, h', e1, e2, l, .inl ⟨rfl, q⟩, r.nr hx⟩
      · rw [if_neg hx]; trivial
    · show PostN A h (e s h) (if noRefL zs = true then PR.ok (.dic ks zs) else PR.bad)
      by_cases hx : noRefL zs = true
      · rw [if_pos hx]; exact ⟨n, ds, zs, h', e1, e2, l, .inr ⟨ks, rfl, q1, q⟩, r.nr hx⟩
      · rw [if_neg hx]; trivial
  | exc c ns ys =>
    rw [hp] at z
    obtain ⟨d, h', e1, e2, l, r⟩ := z
    show PostN A h (e s h) (if noRefL ys = true then PR.exc c ns ys else PR.bad)
    by_cases hx : noRefL ys = true
    · rw [if_pos hx]; exact ⟨d, h', e1, e2, l, r.nr hx⟩
    · rw [if_neg hx]; trivial
  | bad => trivial
/-! slots -/
theorem St.set (t : St b A h o s xs) {i : Nat} (hi : i ∉ o) (r : Rv A h d x) : St b A h o (s.set i (some d)) (xs.set i (some x)) := ⟨by simp [t.len], fun j y e => by
  by_cases hj : j = i
  · subst hj
    have hl : j < xs.length := by
      have := (List.getElem?_eq_some_iff.mp e).1
      simpa using this
    rw [List.getElem?_set_self hl] at e
    cases e
    exact ⟨d, by rw [List.getElem?_set_self (by rw [t.len]; exact hl)], fun _ => r, fun z => absurd z hi⟩
  · rw [List.getElem?_set_ne (fun z => hj z.symm)] at e
    rw [List.getElem?_set_ne (fun z => hj z.symm)]
    exact t.rel j y e, t.bd, t.bh, fun j hj n e => t.loc j hj n (by rw [List.getElem?_set_ne (show i ≠ j from fun z => hi (z ▸ hj))] at e; exact e),
  fun j hj k hk n e1 e2 => t.dis j hj k hk n (by rw [List.getElem?_set_ne (show i ≠ j from fun z => hi (z ▸ hj))] at e1; exact e1) (by rw [List.getElem?_set_ne (show i ≠ k from fun z => hi (z ▸ hk))] at e2; exact e2)⟩
theorem St.clr (t : St b A h o s xs) {i : Nat} (hi : i ∉ o) : St b A h o (s.set i none) (xs.set i none) := ⟨by simp [t.len], fun j y e => by
  by_cases hj : j = i
  · subst hj
    have hl : j < xs.length := by
      have := (List.getElem?_eq_some_iff.mp e).1
      simpa using this
    rw [List.getElem?_set_self hl] at e
    cases e
  · rw [List.getElem?_set_ne (fun z => hj z.symm)] at e
    rw [List.getElem?_set_ne (fun z => hj z.symm)]
    exact t.rel j y e, t.bd, t.bh, fun j hj n e => t.loc j hj n (by rw [List.getElem?_set_ne (show i ≠ j from fun z => hi (z ▸ hj))] at e; exact e),
  fun j hj k hk n e1 e2 => t.dis j hj k hk n (by rw [List.getElem?_set_ne (show i ≠ j from fun z => hi (z ▸ hj))] at e1; exact e1) (by rw [List.getElem?_set_ne (show i ≠ k from fun z => hi (z ▸ hk))] at e2; exact e2)⟩
def wipeP (s : PS) : List Nat → PS
  | [] => s
  | v :: vs => (wipeP s vs).set v none
theorem St.wipe (t : St b A h o s xs) : ∀ {vs : List Nat}, (∀ i ∈ vs, i ∉ o) → St b A h o (wipeD s vs) (wipeP xs vs)
  | [], _ => t
  | v :: vs, k => (t.wipe fun i hi => k i (List.mem_cons_of_mem _ hi)).clr (k v List.mem_cons_self)
/-- a slot takes over what is new -/
theorem St.own (t : St b A h o s xs) {i n : Nat} {ds : List D} {zs : List PV} (hi : i ∉ o) (e2 : Ext h h') (hl : h.length ≤ n) (q : (x = .lst zs ∧ h'[n]? = some (.lst ds)) ∨ ∃ ks, x = .dic ks zs ∧ ks.length = ds.length ∧ h'[n]? = some (.dk (ks.zip ds))) (r : RvL (fun m => A m ∨ m = n) h' ds zs) :
    St b (fun m => A m ∨ m = n) h' (i :: o) (s.set i (some (.ref n))) (xs.set i (some x)) ∧ Keep b A h (fun m => A m ∨ m = n) h' := by
  have hn : n < h'.length := by
    rcases q with ⟨_, q⟩ | ⟨_, _, _, q⟩
    · exact lt_of_get q
    · exact lt_of_get q
  have mv : ∀ (m : Nat) (ob : O), ¬ A m → h[m]? = some ob → ¬ (A m ∨ m = n) ∧ h'[m]? = some ob := fun m ob na e => ⟨fun z => by
    rcases z with z | z
    · exact na z
    · have := lt_of_get e; omega, e2 m ob e⟩
  refine ⟨⟨by simp [t.len], fun j y e => ?_, fun m z => ?_, Nat.le_trans t.bh e2.len, fun j hj m e => ?_, fun j hj k hk m e1 e2 => ?_⟩, ⟨fun m ob _ e => e2 m ob e, fun m z => ?_, fun m a _ => .inl a, e2.len⟩⟩
  · by_cases hj : j = i
    · subst hj
      have hl : j < xs.length := by
        have := (List.getElem?_eq_some_iff.mp e).1
        simpa using this
      rw [List.getElem?_set_self hl] at e
      cases e
      refine ⟨.ref n, by rw [List.getElem?_set_self (by rw [t.len]; exact hl)], fun z => absurd List.mem_cons_self z, fun _ => ⟨n, ds, zs, rfl, .inr rfl, q, r⟩⟩
    · rw [List.getElem?_set_ne (fun z => hj z.symm)] at e
      obtain ⟨d, e1, e3, e4⟩ := t.rel j y e
      refine ⟨d, by rw [List.getElem?_set_ne (fun z => hj z.symm)]; exact e1, fun z => ?_, fun z => ?_⟩
      · exact (e3 fun w => z (List.mem_cons_of_mem _ w)).mv mv
      · rcases List.mem_cons.mp z with z | z
        · exact absurd z hj
        · refine (e4 z).mv mv fun m em am => ⟨.inl am, ?_⟩
          have hm : h[m]? = some (h[m]'(t.bd m am)) := List.getElem?_eq_getElem (t.bd m am)
          rw [hm, e2 m _ hm]
  · rcases z with z | z
    · exact t.bd.ext e2 m z
    · exact z ▸ hn
  · rcases List.mem_cons.mp hj with z | z
    · subst z
      by_cases hl2 : j < s.length
      · rw [List.getElem?_set_self hl2] at e
        cases e
        exact ⟨Nat.le_trans t.bh hl, .inr rfl⟩
      · rw [List.getElem?_eq_none (by simp; omega)] at e
        cases e
    · rw [List.getElem?_set_ne (show i ≠ j from fun w => hi (w ▸ z))] at e
      exact ⟨(t.loc j z m e).1, .inl (t.loc j z m e).2⟩
  · have key : ∀ j ∈ i :: o, (s.set i (some (.ref n)))[j]? = some (some (.ref m)) → (j = i ∧ m = n) ∨ (j ∈ o ∧ j ≠ i ∧ m ≠ n ∧ s[j]? = some (some (.ref m))) := fun j hj e => by
      by_cases hji : j = i
      · subst hji
        by_cases hl2 : j < s.length
        · rw [List.getElem?_set_self hl2] at e
          cases e
          exact .inl ⟨rfl, rfl⟩
        · rw [List.getElem?_eq_none (by simp; omega)] at e
          cases e
      · rcases List.mem_cons.mp hj with z | z
        · exact absurd z hji
        · rw [List.getElem?_set_ne (fun w => hji w.symm)] at e
          exact .inr ⟨z, hji, fun w => by
            have := t.bd m (t.loc j z m e).2
            omega, e⟩
    rcases key j hj e1 with ⟨a1, a2⟩ | ⟨a1, a2, a3, a4⟩ <;> rcases key k hk e2 with ⟨b1, b2⟩ | ⟨b1, b2, b3, b4⟩
    · rw [a1, b1]
    · exact absurd a2 b3
    · exact absurd b2 a3
    · exact t.dis j a1 k b1 m a4 b4
  · rcases z with z | z
    · exact .inl z
    · exact .inr (z ▸ hl)
/-- the list that a slot owns is changed -/
theorem St.upd (t : St b A h o s xs) {i n : Nat} {ob : O} {ds : List D} {zs : List PV} (hi : i ∈ o) (hs : s[i]? = some (some (.ref n))) (ha : A n) (q : (x = .lst zs ∧ ob = .lst ds) ∨ ∃ ks, x = .dic ks zs ∧ ks.length = ds.length ∧ ob = .dk (ks.zip ds)) (r : RvL A h ds zs) :
    St b A (h.set n ob) o s (xs.set i (some x)) ∧ Keep b A h A (h.set n ob) := by
  have hn : n < h.length := t.bd n ha
  have mv : ∀ (m : Nat) (o' : O), ¬ A m → h[m]? = some o' → ¬ A m ∧ (h.set n ob)[m]? = some o' := fun m o' na e => ⟨na, by rw [List.getElem?_set_ne (show n ≠ m from fun z => na (z ▸ ha))]; exact e⟩
  have hb := (t.loc i hi n hs).1
  refine ⟨⟨by simp [t.len], fun j y e => ?_, fun m z => by simpa using t.bd m z, by simpa using t.bh, t.loc, t.dis⟩, ⟨fun m o' z e => ?_, fun m a => .inl a, fun m a _ => a, by simp⟩⟩
  · by_cases hj : j = i
    · subst hj
      have hl : j < xs.length := by
        have := (List.getElem?_eq_some_iff.mp e).1
        simpa using this
      rw [List.getElem?_set_self hl] at e
      cases e
      refine ⟨.ref n, hs, fun z => absurd hi z, fun _ => ⟨n, ds, zs, rfl, ha, ?_, r.mv mv⟩⟩
      rw [List.getElem?_set_self hn]
      rcases q with ⟨q1, q2⟩ | ⟨ks, q1, q2, q3⟩
      · exact .inl ⟨q1, by rw [q2]⟩
      · exact .inr ⟨ks, q1, q2, by rw [q3]⟩
    · rw [List.getElem?_set_ne (fun z => hj z.symm)] at e
      obtain ⟨d, e1, e2, e3⟩ := t.rel j y e
      refine ⟨d, e1, fun z => (e2 z).mv mv, fun z => (e3 z).mv mv fun m em am => ⟨am, ?_⟩⟩
      rw [List.getElem?_set_ne]
      intro z
      subst z
      subst em
      exact hj (t.dis j z i hi n e1 hs)
  · rw [List.getElem?_set_ne]
    · exact e
    · intro w
      subst w
      exact z ⟨ha, hb⟩
end
/-! statements -/
def PostP (fr : Bool) (oL : List Nat) (oE : Option (List Nat)) (o' : List Nat) (b : Nat) (A : Nat → Prop) (h : Hm) (r : RT) (t : PT) : Prop := match t with
  | .nx ys => ∃ A' s' h', r = .nx s' h' ∧ Keep b A h A' h' ∧ St b A' h' o' s' ys
  | .bk ys => ∃ A' s' h', r = .bk s' h' ∧ Keep b A h A' h' ∧ St b A' h' oL s' ys
  | .ct ys => ∃ A' s' h', r = .ct s' h' ∧ Keep b A h A' h' ∧ St b A' h' oL s' ys
  | .rt x => ∃ A' d h', r = .rt d h' ∧ Keep b A h A' h' ∧ (fr = false → Rv (fun n => A n ∧ n < b) h' d x) ∧ (fr = true → ∃ n ds xs, d = .ref n ∧ b ≤ n ∧ ((x = .lst xs ∧ h'[n]? = some (.lst ds)) ∨ ∃ ks, x = .dic ks xs ∧ ks.length = ds.length ∧ h'[n]? = some (.dk (ks.zip ds))) ∧ RvL (fun m => (A m ∧ m < b) ∨ m = n) h' ds xs)
  | .exc c ns ys st => ∃ A' ds s' h', r = .exc c (ns.zip ds) s' h' ∧ Keep b A h A' h' ∧ ns.length = ds.length ∧ RvL A' h' ds ys ∧ ∀ oe, oE = some oe → St b A' h' oe s' st
  | .bad => True
def SV (fr : Bool) (oL : List Nat) (oE : Option (List Nat)) (o o' : List Nat) (g : FS) (q : PX) : Prop := ∀ b A h s xs, St b A h o s xs → PostP fr oL oE o' b A h (g s h) (q xs)
abbrev EOk (oE : Option (List Nat)) (o : List Nat) : Prop := ∀ oe, oE = some oe → oe = o
section
variable {fr : Bool} {oL o o' o1 : List Nat} {oE : Option (List Nat)} {b : Nat} {A A1 : Nat → Prop} {h h1 : Hm} {e ec : FE} {p pc : PE} {g ga gb : FS} {q qa qb : PX} {s : DS} {xs : PS}
theorem PostP.from {r : RT} {t : PT} (k : Keep b A h A1 h1) (z : PostP fr oL oE o' b A1 h1 r t) : PostP fr oL oE o' b A h r t := by
  cases t with
  | nx ys => obtain ⟨A', s', h', e, k2, w⟩ := z; exact ⟨A', s', h', e, k.trans k2, w⟩
  | bk ys => obtain ⟨A', s', h', e, k2, w⟩ := z; exact ⟨A', s', h', e, k.trans k2, w⟩
  | ct ys => obtain ⟨A', s', h', e, k2, w⟩ := z; exact ⟨A', s', h', e, k.trans k2, w⟩
  | rt x =>
    obtain ⟨A', d, h', e, k2, w, w2⟩ := z
    refine ⟨A', d, h', e, k.trans k2, fun f => (w f).mono fun n a => ⟨k.2.2.1 n a.1 a.2, a.2⟩, fun f => ?_⟩
    obtain ⟨n, ds, xs, e1, e2, e3, e4⟩ := w2 f
    refine ⟨n, ds, xs, e1, e2, e3, e4.mono fun m a => ?_⟩
    rcases a with a | a
    · exact .inl ⟨k.2.2.1 m a.1 a.2, a.2⟩
    · exact .inr a
  | exc c ns ys st => obtain ⟨A', ds, s', h', e, k2, w⟩ := z; exact ⟨A', ds, s', h', e, k.trans k2, w⟩
  | bad => trivial
def xSeq (a b : PX) : PX := fun s => match a s with
  | .nx s' => b s'
  | r => r
theorem sv_seq (ha : SV fr oL oE o o1 ga qa) (hb : SV fr oL oE o1 o' gb qb) : SV fr oL oE o o' (gSeq ga gb) (xSeq qa qb) := fun b A h s xs t => by
  have z := ha b A h s xs t
  unfold gSeq xSeq
  cases hq : qa xs with
  | nx ys =>
    rw [hq] at z
    obtain ⟨A', s', h', e, k, w⟩ := z
    rw [e]
    exact (hb b A' h' s' ys w).from k
  | bk ys => rw [hq] at z; obtain ⟨A', s', h', e, w⟩ := z; rw [e]; exact ⟨A', s', h', rfl, w⟩
  | ct ys => rw [hq] at z; obtain ⟨A', s', h', e, w⟩ := z; rw [e]; exact ⟨A', s', h', rfl, w⟩
  | rt x => rw [hq] at z; obtain ⟨A', s', h', e, w⟩ := z; rw [e]; exact ⟨A', s', h', rfl, w⟩
  | exc c ns ys st => rw [hq] at z; obtain ⟨A', ds, s', h', e, w⟩ := z; rw [e]; exact ⟨A', ds, s', h', rfl, w⟩
  | bad => trivial
def xNext : PX := fun s => .nx s
theorem sv_next : SV fr oL oE o o gNext xNext := fun b A h s xs t => ⟨A, s, h, rfl, Keep.ext (Ext.refl h), t⟩
def xBad : PX := fun _ => .bad
theorem sv_bad : SV fr oL oE o o' g xBad := fun b A h s xs t => trivial
def xBreak : PX := fun s => .bk s
def xCont : PX := fun s => .ct s
theorem sv_break : SV fr o oE o o' gBreak xBreak := fun b A h s xs t => ⟨A, s, h, rfl, Keep.ext (Ext.refl h), t⟩
theorem sv_cont : SV fr o oE o o' gCont xCont := fun b A h s xs t => ⟨A, s, h, rfl, Keep.ext (Ext.refl h), t⟩
/-- what is not changed any more is let go -/
theorem sv_frz (o1 : List Nat) (hs : SV fr oL oE o1 o' g q) (k : ∀ i ∈ o1, i ∈ o := by decide) : SV fr oL oE o o' g q := fun b A h s xs t => by
  obtain ⟨A1, t1, k1, _⟩ := t.sub k
  exact (hs b A1 h s xs t1).from k1
theorem sv_post (o2 : List Nat) (hs : SV fr oL oE o o1 g q) (k : ∀ i ∈ o2, i ∈ o1 := by decide) : SV fr oL oE o o2 g q := fun b A h s xs t => by
  have z := hs b A h s xs t
  cases hq : q xs with
  | nx ys =>
    rw [hq] at z
    obtain ⟨A', s', h', e, k1, w⟩ := z
    obtain ⟨A1, t1, k2, _⟩ := w.sub k
    exact ⟨A1, s', h', e, k1.trans k2, t1⟩
  | bk ys => rw [hq] at z; exact z
  | ct ys => rw [hq] at z; exact z
  | rt x => rw [hq] at z; exact z
  | exc c ns ys st => rw [hq] at z; exact z
  | bad => trivial
def PR.st (r : PR) (s : PS) (k : PV → PT) : PT := match r with
  | .ok x => k x
  | .exc c ns xs => .exc c ns xs s
  | .bad => .bad
@[simp] theorem PR.st_ok {x : PV} {s : PS} {k : PV → PT} : (PR.ok x).st s k = k x := rfl
@[simp] theorem PR.st_exc {c ns xs} {s : PS} {k : PV → PT} : (PR.exc c ns xs).st s k = .exc c ns xs s := rfl
@[simp] theorem PR.st_bad {s : PS} {k : PV → PT} : PR.bad.st s k = .bad := rfl
theorem PostP.ex {r : RD} {t : PR} {k : D → Hm → RT} {kx : PV → PT} (hE : EOk oE o) (t0 : St b A h o s xs) (z : PostX A h r t) (w : ∀ d h' x, Ext h h' → St b A h' o s xs → Rv A h' d x → PostP fr oL oE o' b A h' (k d h') (kx x)) : PostP fr oL oE o' b A h (r.st s k) (t.st xs kx) := by
  cases t with
  | ok x =>
    obtain ⟨d, h', rfl, e2, r⟩ := z
    exact (w d h' x e2 (t0.ext e2) r).from (Keep.ext e2)
  | exc c ns ys =>
    obtain ⟨ds, h', rfl, e2, l, r⟩ := z
    exact ⟨A, ds, s, h', rfl, Keep.ext e2, l, r, fun oe he => hE oe he ▸ t0.ext e2⟩
  | bad => trivial
def xDrop (p : PE) : PX := fun s => (p s).st s fun _ => .nx s
theorem sv_drop (he : EV o e p) (hE : EOk oE o := by intro _ h; cases h <;> rfl) : SV fr oL oE o o (gDrop e) (xDrop p) := fun b A h s xs t =>
  PostP.ex hE t (he b A h s xs t) fun d h' x e t' r => ⟨A, s, h', rfl, Keep.ext (Ext.refl h'), t'⟩
def xRet (p : PE) : PX := fun s => (p s).st s .rt
theorem sv_ret (he : EV o e p) (hE : EOk oE o := by intro _ h; cases h <;> rfl) : SV false oL oE o o' (gRet e) (xRet p) := fun b A h s xs t =>
  PostP.ex hE t (he b A h s xs t) fun d h' x e t' r => ⟨A, d, h', rfl, Keep.ext (Ext.refl h'), fun _ => r.mono fun n a => a.1, fun z => nomatch z⟩
theorem sv_retN0 : SV false oL oE o o' gRetN (fun _ => .rt .non) := fun b A h s xs t => ⟨A, .non, h, rfl, Keep.ext (Ext.refl h), fun _ => .non, fun z => nomatch z⟩
/-- what is new is returned -/
theorem sv_retF (he : EN o e p) (hE : EOk oE o := by intro _ h; cases h <;> rfl) : SV true oL oE o o' (gRet e) (xRet p) := fun b A h s xs t => by
  have z := he b A h s xs t
  unfold gRet xRet
  cases hp : p xs with
  | ok x =>
    rw [hp] at z
    obtain ⟨n, ds, ys, h', e1, e2, l, q, r⟩ := z
    rw [e1]
    refine ⟨A, .ref n, h', rfl, Keep.ext e2, (fun z => nomatch z), fun _ => ⟨n, ds, ys, rfl, Nat.le_trans t.bh l, q, r.mono fun m a => ?_⟩⟩
    rcases a with a | a
    · exact .inl a.1
    · exact .inr a
  | exc c ns ys =>
    rw [hp] at z
    obtain ⟨ds, h', e1, e2, l, r⟩ := z
    rw [e1]
    exact ⟨A, ds, s, h', rfl, Keep.ext e2, l, r, fun oe he => hE oe he ▸ t.ext e2⟩
  | bad => trivial
/-- a list of one's own is returned -/
theorem sv_retO {i : Nat} (hi : i ∈ o := by decide) : SV fr oL oE o o' (gRet (eVar i)) (xRet (pVar i)) := fun b A h s xs t => by
  unfold xRet pVar
  split
  case h_2 => trivial
  rename_i x e
  obtain ⟨d, e1, _, e3⟩ := t.rel i x e
  obtain ⟨n, ds, zs, rfl, a, q, r⟩ := e3 hi
  have : gRet (eVar i) s h = .rt (.ref n) h := by unfold gRet eVar; rw [e1]; rfl
  rw [this]
  have hb := (t.loc i hi n e1).1
  have hn : ¬ (A n ∧ n < b) := fun z => by omega
  have r1 := r.mono (A' := fun n => A n ∧ n < b) fun m z => z.1
  refine ⟨A, .ref n, h, rfl, Keep.ext (Ext.refl h), fun _ => ?_, fun _ => ⟨n, ds, zs, rfl, hb, q, r.mono fun m z => ?_⟩⟩
  · rcases q with ⟨rfl, q⟩ | ⟨ks, rfl, q1, q⟩
    · exact .lst hn q r1
    · exact .dic hn q q1 r1
  · rcases z with z | z
    · exact z.1
    · exact z ▸ a
def xSet (i : Nat) (p : PE) : PX := fun s => (p s).st s fun x => .nx (s.set i (some x))
theorem sv_set {i : Nat} (he : EV o e p) (hi : i ∉ o := by decide) (hE : EOk oE o := by intro _ h; cases h <;> rfl) : SV fr oL oE o o (gSet i e) (xSet i p) := fun b A h s xs t =>
  PostP.ex hE t (he b A h s xs t) fun d h' x e t' r => ⟨A, _, h', rfl, Keep.ext (Ext.refl h'), t'.set hi r⟩
/-- a slot takes over what is new -/
theorem sv_own {i : Nat} (he : EN o e p) (hi : i ∉ o := by decide) (hE : EOk oE o := by intro _ h; cases h <;> rfl) : SV fr oL oE o (i :: o) (gSet i e) (xSet i p) := fun b A h s xs t => by
  have z := he b A h s xs t
  unfold gSet xSet
  cases hp : p xs with
  | ok x =>
    rw [hp] at z
    obtain ⟨n, ds, ys, h', e1, e2, l, q, r⟩ := z
    rw [e1]
    have w := t.own hi e2 l q r
    exact ⟨_, _, h', rfl, w.2, w.1⟩
  | exc c ns ys =>
    rw [hp] at z
    obtain ⟨ds, h', e1, e2, l, r⟩ := z
    rw [e1]
    exact ⟨A, ds, s, h', rfl, Keep.ext e2, l, r, fun oe he => hE oe he ▸ t.ext e2⟩
  | bad => trivial
end
end Sh

set_option Elab.async false
set_option linter.all false
set_option maxRecDepth 100000
set_option maxHeartbeats 4000000
/-! more statements, loops, defs -/
namespace Sh
open PySem L2 PyProof.Rows
section
variable {fr : Bool} {oL o o' o1 : List Nat} {oE : Option (List Nat)} {b : Nat} {A A1 : Nat → Prop} {h h1 : Hm} {e ec ea eb : FE} {p pc pa pb : PE} {g ga gb : FS} {q qa qb : PX} {s : DS} {xs : PS}
def xIf (c : PE) (a b : PX) : PX := fun s => (c s).st s fun d => match d with
  | .bl p => if p = true then a s else b s
  | _ => .bad
theorem sv_if (hc : EV o ec pc) (ha : SV fr oL oE o o' ga qa) (hb : SV fr oL oE o o' gb qb) (hE : EOk oE o := by intro _ h; cases h <;> rfl) : SV fr oL oE o o' (gIf ec ga gb) (xIf pc qa qb) := fun b A h s xs t =>
  PostP.ex hE t (hc b A h s xs t) fun d h' x e t' r => by
    cases r <;> try trivial
    rename_i p
    cases p
    · exact hb b A h' s xs t'
    · exact ha b A h' s xs t'
/-! targets -/
def GV (o : List Nat) (gt : GT) (f : PG) : Prop := ∀ b A h s xs d x, St b A h o s xs → Rv A h d x → match f x xs with
  | some ys => ∃ s', gt d s h = .nx s' h ∧ St b A h o s' ys
  | none => True
def xName (i : Nat) : PG := fun x s => some (s.set i (some x))
theorem gv_name {i : Nat} (hi : i ∉ o := by decide) : GV o (tName i) (xName i) := fun b A h s xs d x t r => ⟨_, rfl, t.set hi r⟩
inductive GVs (o : List Nat) : List GT → List PG → Prop
  | nil : GVs o [] []
  | cons {gt : GT} {f : PG} {gts : List GT} {fs : List PG} (g : GV o gt f) (gs : GVs o gts fs) : GVs o (gt :: gts) (f :: fs)
def xAllG : List PG → List PV → PS → Option PS
  | [], [], s => some s
  | g :: gs, x :: xs, s => match g x s with
    | some s' => xAllG gs xs s'
    | none => none
  | _, _, _ => none
theorem gvs_all {h : Hm} : ∀ {gts : List GT} {fs : List PG}, GVs o gts fs → ∀ {s : DS} {xs : PS} {ds : List D} {ys : List PV}, St b A h o s xs → RvL A h ds ys → match xAllG fs ys xs with
    | some zs => ∃ s', gAll gts ds s h = .nx s' h ∧ St b A h o s' zs
    | none => True
  | _, _, .nil, s, xs, _, _, t, .nil => ⟨s, rfl, t⟩
  | _, _, .nil, s, xs, _, _, t, .cons _ _ => trivial
  | _, _, .cons g gs, s, xs, _, _, t, .nil => trivial
  | _, _, .cons (gt := gt) (f := f) g gs, s, xs, _, _, t, .cons (d := d) (x := x) r rs => by
    have z := g b A h s xs d x t r
    unfold xAllG gAll
    cases hf : f x xs with
    | none => trivial
    | some ys =>
      rw [hf] at z
      obtain ⟨s', e, t'⟩ := z
      rw [e]
      exact gvs_all gs t' rs
def xTupG (gs : List PG) : PG := fun x s => match x with
  | .tup ys => xAllG gs ys s
  | .lst ys => xAllG gs ys s
  | _ => none
theorem gv_tup {gts : List GT} {fs : List PG} (g : GVs o gts fs) : GV o (tTup gts) (xTupG fs) := fun b A h s xs d x t r => by
  cases r with
  | tup r => exact gvs_all g t r
  | lst a e r => unfold tTup xTupG; simp only [e]; exact gvs_all g t r
  | _ => trivial
def xAsg (p : PE) (f : PG) : PX := fun s => (p s).st s fun x => match f x s with
  | some s' => .nx s'
  | none => .bad
theorem sv_asg {gt : GT} {f : PG} (he : EV o e p) (hg : GV o gt f) (hE : EOk oE o := by intro _ h; cases h <;> rfl) : SV fr oL oE o o (gAsg e gt) (xAsg p f) := fun b A h s xs t =>
  PostP.ex hE t (he b A h s xs t) fun d h' x e t' r => by
    have z := hg b A h' s xs d x t' r
    cases hf : f x xs with
    | none => trivial
    | some ys =>
      rw [hf] at z
      obtain ⟨s', e, t''⟩ := z
      rw [e]
      exact ⟨A, s', h', rfl, Keep.ext (Ext.refl h'), t''⟩
def xPar (i j : Nat) (pa pb : PE) : PX := fun s => (pa s).st s fun x => (pb s).st s fun y => .nx ((s.set i (some x)).set j (some y))
theorem sv_par {i j : Nat} (ha : EV o ea pa) (hb : EV o eb pb) (hi : i ∉ o := by decide) (hj : j ∉ o := by decide) (hE : EOk oE o := by intro _ h; cases h <;> rfl) : SV fr oL oE o o (gPar i j ea eb) (xPar i j pa pb) := fun b A h s xs t =>
  PostP.ex hE t (ha b A h s xs t) fun d h' x e t' r => PostP.ex hE t' (hb b A h' s xs t') fun d2 h2 y e2 t2 r2 =>
    ⟨A, _, h2, rfl, Keep.ext (Ext.refl h2), (t2.set hi (r.ext e2)).set hj r2⟩
/-! lists of one's own -/
theorem lm_one {gl : Nat → List D → List D → Hm → RD} {n : Nat} {ys : List D} {i : Nat} (hs : s[i]? = some (some (.ref n))) (hn : h[n]? = some (.lst ys)) : eLm gl (eVar i) [e] s h = (e s h).bind fun d h2 => match h2[n]? with
    | some (.lst zs) => gl n zs [d] h2
    | _ => .bad := by
  unfold eLm
  have : eVar i s h = .ok (.ref n) h := by unfold eVar; rw [hs]
  rw [this, RD.bind_ok]
  dsimp only
  rw [hn]
  dsimp only
  rw [x_args]
  rfl
theorem St.owned (t : St b A h o s xs) {i : Nat} {ys : List PV} (hi : i ∈ o) (e : xs[i]? = some (some (.lst ys))) : ∃ n ds, s[i]? = some (some (.ref n)) ∧ A n ∧ h[n]? = some (.lst ds) ∧ RvL A h ds ys := by
  obtain ⟨d, e1, _, e3⟩ := t.rel i _ e
  obtain ⟨n, ds, zs, rfl, a, q, r⟩ := e3 hi
  rcases q with ⟨w, q⟩ | ⟨ks, w, _⟩
  · cases w
    exact ⟨n, ds, e1, a, q, r⟩
  · cases w
theorem St.ownedD (t : St b A h o s xs) {i : Nat} {ks : List Key} {ys : List PV} (hi : i ∈ o) (e : xs[i]? = some (some (.dic ks ys))) : ∃ n ds, s[i]? = some (some (.ref n)) ∧ A n ∧ h[n]? = some (.dk (ks.zip ds)) ∧ ks.length = ds.length ∧ RvL A h ds ys := by
  obtain ⟨d, e1, _, e3⟩ := t.rel i _ e
  obtain ⟨n, ds, zs, rfl, a, q, r⟩ := e3 hi
  rcases q with ⟨w, q⟩ | ⟨ks, w, l, q⟩
  · cases w
  · cases w
    exact ⟨n, ds, e1, a, q, l, r⟩

def LmM (gl : Nat → List D → List D → Hm → RD) (f : List PV → PV → Option (PV × List PV)) : Prop := ∀ A h n ds ys d x, RvL A h ds ys → Rv A h d x → h[n]? = some (.lst ds) → match f ys x with
  | some (y, zs) => ∃ d' es, gl n ds [d] h = .ok d' (h.set n (.lst es)) ∧ Rv A h d' y ∧ RvL A h es zs
  | none => True
def xLm (f : List PV → PV → Option (PV × List PV)) (i : Nat) (p : PE) (k : PV → PS → PS) : PX := fun s => match s[i]? with
  | some (some (.lst ys)) => (p s).st s fun x => match f ys x with
    | some (y, zs) => .nx (k y (s.set i (some (.lst zs))))
    | none => .bad
  | _ => .bad
theorem sv_lm0 {gl : Nat → List D → List D → Hm → RD} {f : List PV → PV → Option (PV × List PV)} {i : Nat} (hf : LmM gl f) (he : EV o e p) (hi : i ∈ o) (hE : EOk oE o) {k : PV → PS → PS} {kd : D → DS → DS} (hk : ∀ b A h s xs d x, St b A h o s xs → Rv A h d x → St b A h o (kd d s) (k x xs)) :
    SV fr oL oE o o (fun s h => (eLm gl (eVar i) [e] s h).st s fun d h1 => .nx (kd d s) h1) (xLm f i p k) := fun b A h s xs t => by
  unfold xLm
  split
  case h_2 => trivial
  rename_i ys hy
  obtain ⟨n, ds, f1, f2, f3, f4⟩ := t.owned hi hy
  show PostP fr oL oE o b A h ((eLm gl (eVar i) [e] s h).st s fun d h1 => .nx (kd d s) h1) _
  have z := he b A h s xs t
  rw [lm_one f1 f3]
  cases hp : p xs with
  | bad => trivial
  | exc c ns zs =>
    rw [hp] at z
    obtain ⟨ds, h', e1, e2, l, r⟩ := z
    rw [e1]
    exact ⟨A, ds, s, h', rfl, Keep.ext e2, l, r, fun oe he => hE oe he ▸ t.ext e2⟩
  | ok x =>
    rw [hp] at z
    obtain ⟨d, h', e1, e2, r⟩ := z
    rw [e1, RD.bind_ok, e2 _ _ f3, PR.st_ok]
    dsimp only
    have w := hf A h' n ds ys d x (f4.ext e2) r (e2 _ _ f3)
    cases hq : f ys x with
    | none => trivial
    | some yz =>
      obtain ⟨y, zs⟩ := yz
      rw [hq] at w
      obtain ⟨d', es, g1, g2, g3⟩ := w
      rw [g1, RD.st_ok]
      obtain ⟨t2, k2⟩ := (t.ext e2).upd (x := .lst zs) (ob := .lst es) hi f1 f2 (.inl ⟨rfl, rfl⟩) g3
      refine ⟨A, _, _, rfl, (Keep.ext e2).trans k2, hk b A _ _ _ _ _ t2 (g2.mv fun m ob na e => ⟨na, ?_⟩)⟩
      rw [List.getElem?_set_ne (show n ≠ m from fun z => na (z ▸ f2))]
      exact e
theorem sv_lm {gl : Nat → List D → List D → Hm → RD} {f : List PV → PV → Option (PV × List PV)} {i : Nat} (hf : LmM gl f) (he : EV o e p) (hi : i ∈ o := by decide) (hE : EOk oE o := by intro _ h; cases h <;> rfl) : SV fr oL oE o o (gDrop (eLm gl (eVar i) [e])) (xLm f i p fun _ s => s) :=
  sv_lm0 (kd := fun _ s => s) hf he hi hE fun _ _ _ _ _ _ _ t _ => t
theorem sv_lmS {gl : Nat → List D → List D → Hm → RD} {f : List PV → PV → Option (PV × List PV)} {i j : Nat} (hf : LmM gl f) (he : EV o e p) (hi : i ∈ o := by decide) (hj : j ∉ o := by decide) (hE : EOk oE o := by intro _ h; cases h <;> rfl) : SV fr oL oE o o (gSet j (eLm gl (eVar i) [e])) (xLm f i p fun x s => s.set j (some x)) :=
  sv_lm0 (kd := fun d s => s.set j (some d)) hf he hi hE fun _ _ _ _ _ _ _ t r => t.set hj r
def fApp (ys : List PV) (x : PV) : Option (PV × List PV) := if ys.length < big then some (.non, ys ++ [x]) else none
theorem lm_app : LmM lAppend fApp := fun A h n ds ys d x r q e => by
  unfold fApp lAppend
  dsimp only
  rw [r.length]
  by_cases hl : ys.length < big
  · rw [if_pos hl, if_pos hl]
    exact ⟨.non, _, rfl, .non, r.app (.one q)⟩
  · rw [if_neg hl]; trivial
def fExt (ys : List PV) (x : PV) : Option (PV × List PV) := match x with
  | .lst zs => if ys.length + zs.length ≤ big then some (.non, ys ++ zs) else none
  | _ => none
theorem lm_ext : LmM lExtend fExt := fun A h n ds ys d x r q e => by
  cases q <;> try trivial
  rename_i m es zs a e2 q
  unfold fExt lExtend
  dsimp only
  rw [e2]
  dsimp only
  rw [r.length, q.length]
  by_cases hl : ys.length + zs.length ≤ big
  · rw [if_pos hl, if_pos hl]
    exact ⟨.non, _, rfl, .non, r.app q⟩
  · rw [if_neg hl]; trivial
def fPop (ys : List PV) (x : PV) : Option (PV × List PV) := match x with
  | .int i => if -(2 ^ 63) ≤ i ∧ i < 2 ^ 63 then (match seqIndex? i ys.length with
    | some k => match ys[k]? with
      | some y => some (y, ys.eraseIdx k)
      | none => none
    | none => none) else none
  | _ => none
theorem lm_pop : LmM lPopAt fPop := fun A h n ds ys d x r q e => by
  cases q <;> try trivial
  rename_i i
  unfold fPop lPopAt
  dsimp only
  rw [r.length]
  by_cases hl : -(2 ^ 63) ≤ i ∧ i < 2 ^ 63
  · rw [if_pos hl, if_pos hl]
    cases hk : seqIndex? i ys.length with
    | none => trivial
    | some k =>
      dsimp only
      cases hy : ys[k]? with
      | none => trivial
      | some y =>
        obtain ⟨d, e, r2⟩ := r.get hy
        dsimp only
        rw [e]
        exact ⟨d, _, rfl, r2, r.eraseIdx k⟩
  · rw [if_neg hl]; trivial
def xLput (i : Nat) (pi pv : PE) : PX := fun s => match s[i]? with
  | some (some (.lst ys)) => (pv s).st s fun v => (pi s).st s fun y => match y with
    | .int k => (match ixN ys.length k with
      | some j => .nx (s.set i (some (.lst (ys.set j v))))
      | none => .bad)
    | _ => .bad
  | _ => .bad
theorem sv_lput {i : Nat} {ei : FE} {pi : PE} (hv : EV o e p) (hx : EV o ei pi) (hi : i ∈ o := by decide) (hE : EOk oE o := by intro _ h; cases h <;> rfl) : SV fr oL oE o o (gLput (eVar i) ei e) (xLput i pi p) := fun b A h s xs t => by
  unfold xLput
  split
  case h_2 => trivial
  rename_i ys hy
  refine PostP.ex hE t (hv b A h s xs t) fun d h1 x e1 t1 r1 => ?_
  obtain ⟨n, ds, f1, f2, f3, f4⟩ := t1.owned hi hy
  have : eVar i s h1 = .ok (.ref n) h1 := by unfold eVar; rw [f1]
  rw [this, RD.st_ok]
  refine PostP.ex hE t1 (hx b A h1 s xs t1) fun d2 h2 y e2 t2 r2 => ?_
  cases r2 <;> try trivial
  rename_i k
  dsimp only
  rw [e2 _ _ f3]
  dsimp only
  rw [f4.length]
  cases hk : ixN ys.length k with
  | none => trivial
  | some j =>
    obtain ⟨t3, k3⟩ := t2.upd (x := .lst (ys.set j x)) (ob := .lst (ds.set j d)) hi f1 f2 (.inl ⟨rfl, rfl⟩) ((f4.ext e2).set (r1.ext e2) j)
    exact ⟨A, _, _, rfl, k3, t3⟩
/-! dicts -/
def keyX : PV → Option Key
  | .int i => some (.inl i)
  | .str x => some (.inr x)
  | _ => none
theorem key_rv {d : D} {x : PV} (r : Rv A h d x) : keyD d = keyX x := by cases r <;> rfl
def valX : List Key → List PV → Key → Option PV
  | k :: ks, x :: xs, y => if k = y then some x else valX ks xs y
  | _, _, _ => none
theorem val_rv {y : Key} : ∀ {ks : List Key} {ds : List D} {xs : List PV}, RvL A h ds xs → (valX ks xs y = none ∧ valD (ks.zip ds) y = none) ∨ ∃ x d, valX ks xs y = some x ∧ valD (ks.zip ds) y = some d ∧ Rv A h d x
  | [], _, _, r => .inl ⟨by cases r <;> rfl, by simp [valD]⟩
  | k :: ks, _, _, .nil => .inl ⟨rfl, by simp [valD]⟩
  | k :: ks, _, _, .cons (d := d) (x := x) (ds := ds) r rs => by
    unfold valX valD
    rw [List.zip_cons_cons, List.find?_cons]
    by_cases hk : k = y
    · rw [if_pos hk, decide_eq_true hk]
      exact .inr ⟨_, _, rfl, rfl, r⟩
    · rw [if_neg hk, decide_eq_false hk]
      exact val_rv rs
def putX : List Key → List PV → Key → PV → List PV
  | k :: ks, x :: xs, y, v => (if k = y then v else x) :: putX ks xs y v
  | _, _, _, _ => []
def hasX (ks : List Key) (y : Key) : Bool := ks.any fun k => decide (k = y)
def putDX (ks : List Key) (xs : List PV) (y : Key) (v : PV) : PV := if hasX ks y = true then .dic ks (putX ks xs y v) else .dic (ks ++ [y]) (xs ++ [v])
theorem put_rv {y : Key} {d : D} {v : PV} (q : Rv A h d v) : ∀ {ks : List Key} {ds : List D} {xs : List PV}, ks.length = ds.length → RvL A h ds xs → ∃ es, (ks.zip ds).map (fun kv => if kv.1 = y then (kv.1, d) else kv) = ks.zip es ∧ ks.length = es.length ∧ RvL A h es (putX ks xs y v)
  | [], _, _, l, r => ⟨[], by simp, rfl, by cases r <;> exact .nil⟩
  | k :: ks, [], _, l, _ => by simp at l
  | k :: ks, d2 :: ds, x2 :: xs, l, .cons r rs => by
    obtain ⟨es, e1, e2, e3⟩ := put_rv q (ks := ks) (by simpa using l) rs
    by_cases hk : k = y
    · refine ⟨d :: es, ?_, by simp [e2], ?_⟩
      · rw [List.zip_cons_cons, List.map_cons, e1, List.zip_cons_cons]; simp [hk]
      · unfold putX; rw [if_pos hk]; exact .cons q e3
    · refine ⟨d2 :: es, ?_, by simp [e2], ?_⟩
      · rw [List.zip_cons_cons, List.map_cons, e1, List.zip_cons_cons]; simp [hk]
      · unfold putX; rw [if_neg hk]; exact .cons r e3
theorem any_zip {y : Key} : ∀ {ks : List Key} {ds : List D}, ks.length = ds.length → ((ks.zip ds).any fun kv => decide (kv.1 = y)) = hasX ks y
  | [], _, _ => by simp [hasX]
  | k :: ks, [], l => by simp at l
  | k :: ks, d :: ds, l => by
    rw [List.zip_cons_cons, List.any_cons, any_zip (by simpa using l)]
    rfl
theorem putKD_rv {y : Key} {d : D} {v : PV} {ks : List Key} {ds : List D} {xs : List PV} (q : Rv A h d v) (l : ks.length = ds.length) (r : RvL A h ds xs) : ∃ ls es zs, putKD (ks.zip ds) y d = ls.zip es ∧ ls.length = es.length ∧ RvL A h es zs ∧ putDX ks xs y v = .dic ls zs := by
  unfold putKD putDX
  rw [any_zip l]
  by_cases hh : hasX ks y = true
  · rw [if_pos hh, if_pos hh]
    obtain ⟨es, e1, e2, e3⟩ := put_rv (y := y) q l r
    exact ⟨ks, es, _, e1, e2, e3, rfl⟩
  · rw [if_neg hh, if_neg hh]
    exact ⟨ks ++ [y], ds ++ [d], xs ++ [v], by rw [List.zip_append l]; rfl, by simp [l], r.app (.one q), rfl⟩
theorem putD_rv {y : Key} {d : D} {v : PV} {ks : List Key} {ds : List D} {xs : List PV} (q : Rv A h d v) (l : ks.length = ds.length) (r : RvL A h ds xs) : True := trivial
def xDput (i : Nat) (pi pv : PE) : PX := fun s => match s[i]? with
  | some (some (.dic ks ys)) => (pv s).st s fun v => (pi s).st s fun y => match keyX y with
    | some k => if ks.length < big then .nx (s.set i (some (putDX ks ys k v))) else .bad
    | _ => .bad
  | _ => .bad
theorem sv_dput {i : Nat} {ei : FE} {pi : PE} (hv : EV o e p) (hx : EV o ei pi) (hi : i ∈ o := by decide) (hE : EOk oE o := by intro _ h; cases h <;> rfl) : SV fr oL oE o o (gDput (eVar i) ei e) (xDput i pi p) := fun b A h s xs t => by
  unfold xDput
  split
  case h_2 => trivial
  rename_i ks ys hy
  refine PostP.ex hE t (hv b A h s xs t) fun d h1 x e1 t1 r1 => ?_
  obtain ⟨n, ds, f1, f2, f3, fl, f4⟩ := t1.ownedD hi hy
  have : eVar i s h1 = .ok (.ref n) h1 := by unfold eVar; rw [f1]
  rw [this, RD.st_ok]
  refine PostP.ex hE t1 (hx b A h1 s xs t1) fun d2 h2 y e2 t2 r2 => ?_
  rw [key_rv r2]
  cases hk : keyX y with
  | none => trivial
  | some k =>
    dsimp only
    rw [e2 _ _ f3]
    dsimp only
    rw [List.length_zip, ← fl, Nat.min_self]
    by_cases hl : ks.length < big
    · rw [if_pos hl, if_pos hl]
      obtain ⟨ls, es, zs, g1, g2, g3, g4⟩ := putKD_rv (y := k) (r1.ext e2) fl (f4.ext e2)
      rw [g1, g4]
      obtain ⟨t3, k3⟩ := t2.upd (x := .dic ls zs) (ob := .dk (ls.zip es)) hi f1 f2 (.inr ⟨ls, rfl, g2, rfl⟩) g3
      exact ⟨A, _, _, rfl, k3, t3⟩
    · rw [if_neg hl, if_neg hl]; trivial
def pDnew : PE := fun _ => .ok (.dic [] [])
theorem en_dnew : EN o eDnew pDnew := fun b A h s xs t => ⟨h.length, [], [], h ++ [.dk []], rfl, Ext.app h _, Nat.le_refl _, .inr ⟨[], rfl, rfl, get_last⟩, .nil⟩
def pDget1 (po pi : PE) : PE := fun s => (po s).bind fun d => match d with
  | .dic ks xs => (pi s).bind fun y => match keyX y with
    | some k => .ok ((valX ks xs k).getD .non)
    | none => .bad
  | _ => .bad
theorem ev_dget1 {eo ei : FE} {po pi : PE} (ho : EV o eo po) (hi : EV o ei pi) : EV o (eDget1 eo ei) (pDget1 po pi) := fun b A h s xs t =>
  (ho b A h s xs t).bind fun d h1 x e1 r1 => by
    cases r1 <;> try trivial
    rename_i n ks ds ys a e l r
    have hd : isDk (.ref n) h1 = true := by unfold isDk; dsimp only; rw [e]
    rw [if_pos hd]
    refine (hi b A h1 s xs (t.ext e1)).bind fun d2 h2 y e2 r2 => ?_
    unfold dHas
    rw [key_rv r2]
    cases hk : keyX y with
    | none => trivial
    | some k =>
      dsimp only
      rw [e2 _ _ e]
      dsimp only
      rcases val_rv (ks := ks) (y := k) (r.ext e2) with ⟨g1, g2⟩ | ⟨x, d, g1, g2, g3⟩
      · rw [g1, g2]; exact .of .non
      · rw [g1, g2]; exact .of g3
def pDget2 (po pi pz : PE) : PE := fun s => (po s).bind fun d => match d with
  | .dic ks xs => (pi s).bind fun y => (pz s).bind fun z => match keyX y with
    | some k => .ok ((valX ks xs k).getD z)
    | none => .bad
  | _ => .bad
theorem ev_dget2 {eo ei ez : FE} {po pi pz : PE} (ho : EV o eo po) (hi : EV o ei pi) (hz : EV o ez pz) : EV o (eDget2 eo ei ez) (pDget2 po pi pz) := fun b A h s xs t =>
  (ho b A h s xs t).bind fun d h1 x e1 r1 => by
    cases r1 <;> try trivial
    rename_i n ks ds ys a e l r
    have hd : isDk (.ref n) h1 = true := by unfold isDk; dsimp only; rw [e]
    rw [if_pos hd]
    refine (hi b A h1 s xs (t.ext e1)).bind fun d2 h2 y e2 r2 => ?_
    refine (hz b A h2 s xs ((t.ext e1).ext e2)).bind fun d3 h3 z e3 r3 => ?_
    unfold dHas
    rw [key_rv r2]
    cases hk : keyX y with
    | none => trivial
    | some k =>
      dsimp only
      rw [e3 _ _ (e2 _ _ e)]
      dsimp only
      rcases val_rv (ks := ks) (y := k) ((r.ext e2).ext e3) with ⟨g1, g2⟩ | ⟨x, d, g1, g2, g3⟩
      · rw [g1, g2]; exact .of r3
      · rw [g1, g2]; exact .of g3
def pDix (po pi : PE) : PE := fun s => (po s).bind fun d => (pi s).bind fun y => match d, keyX y with
  | .dic ks xs, some k => (match valX ks xs k with
    | some v => .ok v
    | none => .bad)
  | _, _ => .bad
theorem ev_dix {eo ei : FE} {po pi : PE} (ho : EV o eo po) (hi : EV o ei pi) : EV o (eDix eo ei) (pDix po pi) := fun b A h s xs t =>
  (ho b A h s xs t).bind fun d h1 x e1 r1 => by
    refine (hi b A h1 s xs (t.ext e1)).bind fun d2 h2 y e2 r2 => ?_
    cases r1 <;> try trivial
    rename_i n ks ds ys a e l r
    unfold dHas
    rw [key_rv r2]
    cases hk : keyX y with
    | none => trivial
    | some k =>
      dsimp only
      rw [e2 _ _ e]
      dsimp only
      rcases val_rv (ks := ks) (y := k) (r.ext e2) with ⟨g1, g2⟩ | ⟨x, d, g1, g2, g3⟩
      · rw [g1, g2]; trivial
      · rw [g1, g2]; exact .of g3
/-! slices -/
def cutX (xs : List PV) (lo hi : Option Int) : List PV := (xs.drop (HT.sIx xs.length 0 lo)).take (HT.sIx xs.length xs.length hi - HT.sIx xs.length 0 lo)
theorem cut_rv {ds : List D} {ys : List PV} {lo hi : Option Int} (r : RvL A h ds ys) : RvL A h (cutD ds lo hi) (cutX ys lo hi) := by
  unfold cutD cutX
  rw [r.length]
  exact (r.drop _).take _
def pPart (lo : Option PE) (s : PS) (k : Option Int → PR) : PR := match lo with
  | none => k none
  | some f => (f s).bind fun d => match d with
    | .int i => k (some i)
    | _ => .bad
inductive OV (o : List Nat) : Option FE → Option PE → Prop
  | no : OV o none none
  | yes {e : FE} {p : PE} (h : EV o e p) : OV o (some e) (some p)
theorem post_part {Z : Hm → RD → PR → Prop} (hz : ∀ h r, Z h r .bad) (hx : ∀ h c ns ds ys h1, Ext h h1 → ns.length = ds.length → RvL A h1 ds ys → Z h (.exc c (ns.zip ds) h1) (.exc c ns ys)) (hm : ∀ h h1 r t, Ext h h1 → Z h1 r t → Z h r t) {lo : Option FE} {lp : Option PE} (ho : OV o lo lp) (t : St b A h o s xs) {k : Option Int → Hm → RD} {kx : Option Int → PR} (q : ∀ i h1, Ext h h1 → Z h1 (k i h1) (kx i)) : Z h (ePart lo s h k) (pPart lp xs kx) := by
  cases ho with
  | no => exact q none h (Ext.refl h)
  | yes he =>
    rename_i e p
    have z := he b A h s xs t
    unfold ePart pPart
    dsimp only
    cases hp : p xs with
    | bad => exact hz _ _
    | exc c ns ys =>
      rw [hp] at z
      obtain ⟨ds, h1, e1, e2, l, r⟩ := z
      rw [e1]
      exact hx _ _ _ _ _ _ e2 l r
    | ok x =>
      rw [hp] at z
      obtain ⟨d, h1, e1, e2, r⟩ := z
      rw [e1, RD.bind_ok, PR.bind_ok]
      cases r <;> try exact hz _ _
      exact hm _ _ _ _ e2 (q _ h1 e2)
def xSl (x : PV) (lo hi : Option Int) : PR := match x with
  | .tup xs => .ok (.tup (cutX xs lo hi))
  | .lst xs => .ok (.lst (cutX xs lo hi))
  | _ => .bad
def xSlN (x : PV) (lo hi : Option Int) : PR := match x with
  | .lst xs => .ok (.lst (cutX xs lo hi))
  | _ => .bad
def pSl (f : PV → Option Int → Option Int → PR) (a : PE) (lo hi : Option PE) : PE := fun s => (a s).bind fun x => pPart lo s fun l => pPart hi s fun u => f x l u
theorem ev_sl {lo hi : Option FE} {lp up : Option PE} (ha : EV o ea pa) (hl : OV o lo lp) (hu : OV o hi up) : EV o (eSl ea lo hi) (pSl xSl pa lp up) := fun b A h s xs t => by
  refine (ha b A h s xs t).bind fun d h1 x e1 r1 => ?_
  have t1 := t.ext e1
  refine post_part (Z := fun h r t => PostX A h r t) (fun _ _ => trivial) (fun h c ns ds ys h1 x l r => ⟨ds, h1, rfl, x, l, r⟩) (fun _ _ _ _ e z => z.from e) hl t1 fun i h2 e2 => ?_
  refine post_part (Z := fun h r t => PostX A h r t) (fun _ _ => trivial) (fun h c ns ds ys h1 x l r => ⟨ds, h1, rfl, x, l, r⟩) (fun _ _ _ _ e z => z.from e) hu (t1.ext e2) fun j h3 e3 => ?_
  cases r1 with
  | tup r => exact .of (.tup (cut_rv ((r.ext e2).ext e3)))
  | lst a e r =>
    unfold dSl xSl
    dsimp only
    rw [e3 _ _ (e2 _ _ e)]
    exact (new_post ((t1.ext e2).ext e3).bd (cut_rv ((r.ext e2).ext e3))).x ((t1.ext e2).ext e3).bd
  | _ => trivial
theorem en_sl {lo hi : Option FE} {lp up : Option PE} (ha : EV o ea pa) (hl : OV o lo lp) (hu : OV o hi up) : EN o (eSl ea lo hi) (pSl xSlN pa lp up) := fun b A h s xs t => by
  have z := ha b A h s xs t
  unfold eSl pSl
  cases hp : pa xs with
  | bad => trivial
  | exc c ns ys =>
    rw [hp] at z
    obtain ⟨ds, h1, e1, e2, l, r⟩ := z
    rw [e1]
    exact ⟨ds, h1, rfl, e2, l, r⟩
  | ok x =>
  rw [hp] at z
  obtain ⟨d, h1, e0, e1, r1⟩ := z
  rw [e0, RD.bind_ok, PR.bind_ok]
  refine PostN.from e1 ?_
  have t1 := t.ext e1
  refine post_part (Z := fun h r t => PostN A h r t) (fun _ _ => trivial) (fun h c ns ds ys h1 x l r => ⟨ds, h1, rfl, x, l, r⟩) (fun _ _ _ _ e z => z.from e) hl t1 fun i h2 e2 => ?_
  refine post_part (Z := fun h r t => PostN A h r t) (fun _ _ => trivial) (fun h c ns ds ys h1 x l r => ⟨ds, h1, rfl, x, l, r⟩) (fun _ _ _ _ e z => z.from e) hu (t1.ext e2) fun j h3 e3 => ?_
  cases r1 with
  | lst a e r =>
    unfold dSl xSlN
    dsimp only
    rw [e3 _ _ (e2 _ _ e)]
    exact new_post ((t1.ext e2).ext e3).bd (cut_rv ((r.ext e2).ext e3))
  | _ => trivial
end
end Sh

set_option Elab.async false
set_option linter.all false
set_option maxRecDepth 100000
set_option maxHeartbeats 4000000
/-! loops, comprehensions, defs -/
namespace Sh
open PySem L2 PyProof.Rows
abbrev PI := PS → PA
section
variable {fr : Bool} {oL o o' o1 : List Nat} {oE : Option (List Nat)} {b : Nat} {A A1 : Nat → Prop} {h h1 : Hm} {e ec ea eb : FE} {p pc pa pb : PE} {g ga gb : FS} {q qa qb : PX} {s : DS} {xs : PS}
def CkOk (A : Nat → Prop) (h : Hm) (ck : Option (Nat × List D)) : Prop := ∀ n ds, ck = some (n, ds) → ¬ A n ∧ items h (.ref n) = some ds
def PostI' (A : Nat → Prop) (h : Hm) (r : RI) (t : PA) : Prop := match t with
  | .ok xs => ∃ ds ck h', r = .ok ds ck h' ∧ Ext h h' ∧ RvL A h' ds xs ∧ CkOk A h' ck
  | .exc c ns xs => ∃ ds h', r = .exc c (ns.zip ds) h' ∧ Ext h h' ∧ ns.length = ds.length ∧ RvL A h' ds xs
  | .bad => True
def IV (o : List Nat) (fi : FI) (p : PI) : Prop := ∀ b A h s xs, St b A h o s xs → PostI' A h (fi s h) (p xs)
theorem items_ext {n : Nat} {ds : List D} (e : Ext h h1) (q : items h (.ref n) = some ds) : items h1 (.ref n) = some ds := by
  unfold items at q ⊢
  dsimp only at q ⊢
  cases hn : h[n]? with
  | none => rw [hn] at q; cases q
  | some ob => rw [hn] at q; rw [e _ _ hn]; exact q
theorem items_keep {n : Nat} {ds : List D} (e : Keep b A h A1 h1) (na : ¬ A n) (q : items h (.ref n) = some ds) : items h1 (.ref n) = some ds := by
  unfold items at q ⊢
  dsimp only at q ⊢
  cases hn : h[n]? with
  | none => rw [hn] at q; cases q
  | some ob => rw [hn] at q; rw [e.1 n ob (fun z => na z.1) hn]; exact q
theorem ck_ok {ck : Option (Nat × List D)} (c : CkOk A h ck) : chkB ck h = true := by
  cases ck with
  | none => rfl
  | some p =>
    obtain ⟨n, ds⟩ := p
    have := (c n ds rfl).2
    unfold chkB
    dsimp only
    rw [this]
    exact D.beqL_self _
def pSeq (p : PE) : PI := fun s => match p s with
  | .ok x => (match itemsX x with
    | some xs => .ok xs
    | none => .bad)
  | .exc c ns xs => .exc c ns xs
  | .bad => .bad
theorem iv_seq (he : EV o e p) : IV o (fiSeq e) (pSeq p) := fun b A h s xs t => by
  have z := he b A h s xs t
  unfold fiSeq pSeq
  cases hp : p xs with
  | bad => trivial
  | exc c ns ys =>
    rw [hp] at z
    obtain ⟨ds, h1, e1, e2, l, r⟩ := z
    rw [e1]
    exact ⟨ds, h1, rfl, e2, l, r⟩
  | ok x =>
    rw [hp] at z
    obtain ⟨d, h1, e1, e2, r⟩ := z
    rw [e1]
    dsimp only [RD.it]
    cases r with
    | tup r => exact ⟨_, none, h1, rfl, e2, r, fun n ds z => nomatch z⟩
    | scr r => exact ⟨_, none, h1, rfl, e2, r, fun n ds z => nomatch z⟩
    | lst a e r =>
      rename_i n ds ys
      have : items h1 (.ref n) = some ds := by unfold items; dsimp only; rw [e]
      unfold iSeq
      dsimp only [itemsX]
      rw [this]
      exact ⟨ds, some (n, ds), h1, rfl, e2, r, fun m es z => by cases z; exact ⟨a, this⟩⟩
    | _ => trivial
theorem rvl_rg (i j : Int) : RvL A h (rgD i j) ((List.range (j - i).toNat).map fun k => PV.int (i + (k : Nat))) := by
  unfold rgD
  generalize (List.range (j - i).toNat) = l
  induction l with
  | nil => exact .nil
  | cons k l ih => exact .cons (.int _) ih
def yRg : List PV → PA
  | [.int j] => if -(2 ^ 62) ≤ j ∧ j < 2 ^ 62 then .ok ((List.range j.toNat).map fun k => .int (k : Nat)) else .bad
  | [.int i, .int j] => if -(2 ^ 62) ≤ i ∧ i < 2 ^ 62 ∧ -(2 ^ 62) ≤ j ∧ j < 2 ^ 62 then .ok ((List.range (j - i).toNat).map fun k => .int (i + (k : Nat))) else .bad
  | _ => .bad
def pArrA : List PE → PS → (List PV → PA) → PA
  | [], _, k => k []
  | f :: fs, s, k => match f s with
    | .ok x => pArrA fs s fun xs => k (x :: xs)
    | .exc c ns xs => .exc c ns xs
    | .bad => .bad
def pRg (ps : List PE) : PI := fun s => pArrA ps s yRg
theorem evs_evalL : ∀ {es : List FE} {ps : List PE}, EVs o es ps → ∀ {h : Hm} {k : List PV → PA} {kd : List D → Hm → RI}, St b A h o s xs → (∀ ds h1 ys, Ext h h1 → RvL A h1 ds ys → PostI' A h1 (kd ds h1) (k ys)) → PostI' A h (match evalL es s h with
    | .ok ds h1 => kd ds h1
    | .exc c x h1 => .exc c x h1
    | .bad => .bad) (pArrA ps xs k)
  | _, _, .nil, h, k, kd, t, q => q [] h [] (Ext.refl h) .nil
  | _, _, .cons (e := e) (p := p) (es := es) (ps := ps) he hs, h, k, kd, t, q => by
    have z := he b A h s xs t
    unfold pArrA evalL
    cases hp : p xs with
    | bad => trivial
    | exc c ns ys =>
      rw [hp] at z
      obtain ⟨ds, h1, e1, e2, l, r⟩ := z
      rw [e1]
      exact ⟨ds, h1, rfl, e2, l, r⟩
    | ok x =>
      rw [hp] at z
      obtain ⟨d, h1, e1, e2, r⟩ := z
      rw [e1]
      dsimp only
      have := evs_evalL hs (k := fun xs => k (x :: xs)) (kd := fun ds h2 => kd (d :: ds) h2) (t.ext e2) (fun ds h2 ys x2 r2 => q (d :: ds) h2 (x :: ys) (e2.trans x2) (.cons (r.ext x2) r2))
      cases hv : evalL es s h1 with
      | ok ds h2 =>
        rw [hv] at this
        dsimp only at this ⊢
        cases hk : pArrA ps xs fun xs => k (x :: xs) with
        | ok ys => rw [hk] at this; obtain ⟨es, ck, h', w1, w2, w3⟩ := this; exact ⟨es, ck, h', w1, e2.trans w2, w3⟩
        | exc c ns ys => rw [hk] at this; obtain ⟨es, h', w1, w2, w3⟩ := this; exact ⟨es, h', w1, e2.trans w2, w3⟩
        | bad => trivial
      | exc c y h2 =>
        rw [hv] at this
        dsimp only at this ⊢
        cases hk : pArrA ps xs fun xs => k (x :: xs) with
        | ok ys => rw [hk] at this; obtain ⟨es, ck, h', w1, w2, w3⟩ := this; exact ⟨es, ck, h', w1, e2.trans w2, w3⟩
        | exc c ns ys => rw [hk] at this; obtain ⟨es, h', w1, w2, w3⟩ := this; exact ⟨es, h', w1, e2.trans w2, w3⟩
        | bad => trivial
      | bad =>
        rw [hv] at this
        dsimp only at this ⊢
        cases hk : pArrA ps xs fun xs => k (x :: xs) with
        | ok ys => rw [hk] at this; obtain ⟨es, ck, h', w1, w2, w3⟩ := this; exact ⟨es, ck, h', w1, e2.trans w2, w3⟩
        | exc c ns ys => rw [hk] at this; obtain ⟨es, h', w1, w2, w3⟩ := this; exact ⟨es, h', w1, e2.trans w2, w3⟩
        | bad => trivial
theorem iv_rg {es : List FE} {ps : List PE} (hs : EVs o es ps) : IV o (fiRg es) (pRg ps) := fun b A h s xs t =>
  evs_evalL hs t fun ds h1 ys e r => by
    cases r with
    | nil => trivial
    | cons r1 rs =>
      cases r1 <;> try (cases rs <;> trivial)
      rename_i i
      cases rs with
      | nil =>
        unfold iRg yRg
        dsimp only
        split
        · refine ⟨_, none, h1, rfl, Ext.refl _, ?_, fun n ds z => nomatch z⟩
          have := rvl_rg (A := A) (h := h1) 0 i
          simpa using this
        · trivial
      | cons r2 rs =>
        cases r2 <;> try (cases rs <;> trivial)
        cases rs with
        | nil =>
          unfold iRg yRg
          dsimp only
          split
          · exact ⟨_, none, h1, rfl, Ext.refl _, rvl_rg _ _, fun n ds z => nomatch z⟩
          · trivial
        | cons _ _ => trivial
def enX : Nat → List PV → List PV
  | _, [] => []
  | i, d :: ds => .tup [.int (i : Nat), d] :: enX (i + 1) ds
theorem rvl_en : ∀ {ds : List D} {xs : List PV} (i : Nat), RvL A h ds xs → RvL A h (enD i ds) (enX i xs)
  | _, _, i, .nil => .nil
  | _, _, i, .cons r rs => .cons (.tup (.cons (.int _) (.one r))) (rvl_en (i + 1) rs)
def pEn (p : PE) : PI := fun s => match p s with
  | .ok (.tup xs) => .ok (enX 0 xs)
  | .ok (.lst xs) => .ok (enX 0 xs)
  | .exc c ns xs => .exc c ns xs
  | _ => .bad
theorem iv_en (he : EV o e p) : IV o (fiEn e) (pEn p) := fun b A h s xs t => by
  have z := he b A h s xs t
  unfold fiEn pEn
  cases hp : p xs with
  | bad => trivial
  | exc c ns ys =>
    rw [hp] at z
    obtain ⟨ds, h1, e1, e2, l, r⟩ := z
    rw [e1]
    exact ⟨ds, h1, rfl, e2, l, r⟩
  | ok x =>
    rw [hp] at z
    obtain ⟨d, h1, e1, e2, r⟩ := z
    rw [e1]
    dsimp only [RD.it]
    cases r with
    | tup r => exact ⟨_, none, h1, rfl, e2, rvl_en 0 r, fun n ds z => nomatch z⟩
    | lst a e r =>
      rename_i n ds ys
      have : items h1 (.ref n) = some ds := by unfold items; dsimp only; rw [e]
      unfold iEn
      dsimp only
      rw [this]
      exact ⟨_, some (n, ds), h1, rfl, e2, rvl_en 0 r, fun m es z => by cases z; exact ⟨a, this⟩⟩
    | _ => trivial
/-! for -/
def xLoop (gt : PG) (gb : PX) : List PV → PX
  | [], s => .nx s
  | x :: xs, s => match gt x s with
    | some s1 => (match gb s1 with
      | .nx s2 => xLoop gt gb xs s2
      | .ct s2 => xLoop gt gb xs s2
      | .bk s2 => .nx s2
      | r => r)
    | none => .bad
def xFor (fi : PI) (gt : PG) (gb : PX) : PX := fun s => match fi s with
  | .ok xs => xLoop gt gb xs s
  | .exc c ns xs => .exc c ns xs s
  | .bad => .bad
theorem CkOk.keep {ck : Option (Nat × List D)} (c : CkOk A h ck) (k : Keep b A h A1 h1) : CkOk A1 h1 ck := fun n ds z => by
  have w := c n ds z
  refine ⟨fun a => ?_, items_keep k w.1 w.2⟩
  rcases k.2.1 n a with a | a
  · exact w.1 a
  · have w2 := w.2
    unfold items at w2
    dsimp only at w2
    rw [List.getElem?_eq_none a] at w2
    cases w2
theorem Rv.keep {d : D} {x : PV} (r : Rv A h d x) (k : Keep b A h A1 h1) : Rv A1 h1 d x := r.mv fun n ob na e => ⟨fun a => by
  rcases k.2.1 n a with a | a
  · exact na a
  · have := lt_of_get e
    omega, k.1 n ob (fun z => na z.1) e⟩
theorem RvL.keep {d : List D} {x : List PV} (r : RvL A h d x) (k : Keep b A h A1 h1) : RvL A1 h1 d x := r.mv fun n ob na e => ⟨fun a => by
  rcases k.2.1 n a with a | a
  · exact na a
  · have := lt_of_get e
    omega, k.1 n ob (fun z => na z.1) e⟩
theorem loop_sv {gt : GT} {f : PG} (hg : GV o gt f) (hb : SV fr o oE o o gb qb) {ck : Option (Nat × List D)} : ∀ {ds : List D} {ys : List PV} {A : Nat → Prop} {h : Hm} {s : DS} {xs : PS}, RvL A h ds ys → CkOk A h ck → St b A h o s xs → PostP fr oL oE o b A h (loopG ck gt gb ds s h) (xLoop f qb ys xs)
  | _, _, A, h, s, xs, .nil, c, t => by
    unfold loopG xLoop
    rw [if_pos (ck_ok c)]
    exact ⟨A, s, h, rfl, Keep.ext (Ext.refl h), t⟩
  | _, _, A, h, s, xs, .cons (d := d) (x := x) r rs, c, t => by
    unfold loopG xLoop
    rw [if_pos (ck_ok c)]
    have z := hg b A h s xs d x t r
    cases hf : f x xs with
    | none => trivial
    | some ys =>
      rw [hf] at z
      obtain ⟨s1, e1, t1⟩ := z
      rw [e1]
      dsimp only
      have w := hb b A h s1 ys t1
      cases hq : qb ys with
      | nx zs =>
        rw [hq] at w
        obtain ⟨A', s', h', e2, k, t2⟩ := w
        rw [e2]
        exact (loop_sv hg hb (rs.keep k) (c.keep k) t2).from k
      | ct zs =>
        rw [hq] at w
        obtain ⟨A', s', h', e2, k, t2⟩ := w
        rw [e2]
        exact (loop_sv hg hb (rs.keep k) (c.keep k) t2).from k
      | bk zs =>
        rw [hq] at w
        obtain ⟨A', s', h', e2, k, t2⟩ := w
        rw [e2]
        exact ⟨A', s', h', rfl, k, t2⟩
      | rt x => rw [hq] at w; obtain ⟨A', d, h', e2, w⟩ := w; rw [e2]; exact ⟨A', d, h', rfl, w⟩
      | exc c ns ys st => rw [hq] at w; obtain ⟨A', ds, s', h', e, w⟩ := w; rw [e]; exact ⟨A', ds, s', h', rfl, w⟩
      | bad => trivial
theorem sv_for {fi : FI} {pi : PI} {gt : GT} {f : PG} (hi : IV o fi pi) (hg : GV o gt f) (hb : SV fr o oE o o gb qb) (hE : EOk oE o := by intro _ h; cases h <;> rfl) : SV fr oL oE o o (gFor fi gt gb) (xFor pi f qb) := fun b A h s xs t => by
  have z := hi b A h s xs t
  unfold gFor xFor
  cases hp : pi xs with
  | bad => trivial
  | exc c ns ys =>
    rw [hp] at z
    obtain ⟨ds, h1, e1, e2, l, r⟩ := z
    rw [e1]
    exact ⟨A, ds, s, h1, rfl, Keep.ext e2, l, r, fun oe he => hE oe he ▸ t.ext e2⟩
  | ok ys =>
    rw [hp] at z
    obtain ⟨ds, ck, h1, e1, e2, r, c⟩ := z
    rw [e1]
    exact (loop_sv hg hb r c (t.ext e2)).from (Keep.ext e2)
/-! comprehensions -/
def pColl (gt : PG) (ft fe : PE) (s0 : PS) : List PV → Option (List PV)
  | [] => some []
  | x :: xs => match gt x s0 with
    | some s1 => (match ft s1 with
      | .ok (.bl true) => (match fe s1 with
        | .ok y => (pColl gt ft fe s0 xs).map (y :: ·)
        | _ => none)
      | .ok (.bl false) => pColl gt ft fe s0 xs
      | _ => none)
    | none => none
def pLc (fi : PI) (gt : PG) (ft fe : PE) (own : List Nat) : PE := fun s => match fi s with
  | .ok xs => if xs.length ≤ big then (match pColl gt ft fe (wipeP s own) xs with
    | some ys => .ok (.lst ys)
    | none => .bad) else .bad
  | .exc c ns xs => .exc c ns xs
  | .bad => .bad
/-- all but the list n stays -/
def Ext1 (n : Nat) (h h' : Hm) : Prop := (∀ (m : Nat) (ob : O), m ≠ n → h[m]? = some ob → h'[m]? = some ob) ∧ h.length ≤ h'.length
theorem Ext1.trans {n : Nat} {a b c : Hm} (x : Ext1 n a b) (y : Ext1 n b c) : Ext1 n a c := ⟨fun m ob k e => y.1 m ob k (x.1 m ob k e), Nat.le_trans x.2 y.2⟩
theorem lcIn_rv {gt : GT} {f : PG} {ft fe : FE} {pt pe : PE} {n : Nat} {ck : Option (Nat × List D)} (hg : GV o gt f) (ht : EV o ft pt) (he : EV o fe pe) (s0 : DS) (xs0 : PS) (hA : A n) (b : Nat) :
    ∀ {ds : List D} {ys : List PV} {h : Hm} {acc : List D} {done res : List PV}, RvL A h ds ys → CkOk A h ck → St b A h o s0 xs0 → (∀ i ∈ o, s0[i]? ≠ some (some (.ref n))) → h[n]? = some (.lst acc) → RvL A h acc done → acc.length + ds.length ≤ big → pColl f pt pe xs0 ys = some res →
      ∃ es h', lcIn ck gt ft fe n s0 ds h = some h' ∧ h'[n]? = some (.lst (acc ++ es)) ∧ Ext1 n h h' ∧ RvL A h' (acc ++ es) (done ++ res)
  | _, _, h, acc, done, res, .nil, c, t, nd, hn, ra, l, e => by
    cases e
    unfold lcIn
    rw [if_pos (ck_ok c)]
    exact ⟨[], h, rfl, by simpa using hn, ⟨fun _ _ _ e => e, Nat.le_refl _⟩, by simpa using ra⟩
  | _, _, h, acc, done, res, .cons (d := d) (x := x) (ds := ds) (xs := ys) r rs, c, t, nd, hn, ra, l, e => by
    unfold lcIn
    rw [if_pos (ck_ok c)]
    unfold pColl at e
    have z := hg b A h s0 xs0 d x t r
    cases hf : f x xs0 with
    | none => rw [hf] at e; cases e
    | some xs1 =>
      rw [hf] at z e
      obtain ⟨s1, e1, t1⟩ := z
      rw [e1]
      dsimp only at e ⊢
      have z2 := ht b A h s1 xs1 t1
      cases hpt : pt xs1 with
      | bad => rw [hpt] at e; cases e
      | exc _ _ _ => rw [hpt] at e; cases e
      | ok v =>
        rw [hpt] at z2 e
        obtain ⟨dv, h2, e2, x2, rv⟩ := z2
        rw [e2]
        cases rv <;> try cases e
        rename_i bv
        cases bv with
        | false =>
          dsimp only at e ⊢
          obtain ⟨es, h', w1, w2, w3, w4⟩ := lcIn_rv hg ht he s0 xs0 hA b (rs.ext x2) (c.keep (Keep.ext (b := b) x2)) (t.ext x2) nd (x2 _ _ hn) (ra.ext x2) (by simp at l ⊢; omega) e
          exact ⟨es, h', w1, w2, Ext1.trans ⟨fun m ob _ e => x2 m ob e, x2.len⟩ w3, w4⟩
        | true =>
          dsimp only at e ⊢
          have z3 := he b A h2 s1 xs1 (t1.ext x2)
          cases hpe : pe xs1 with
          | bad => rw [hpe] at e; cases e
          | exc _ _ _ => rw [hpe] at e; cases e
          | ok y =>
            rw [hpe] at z3 e
            obtain ⟨dy, h3, e3, x3, ry⟩ := z3
            rw [e3]
            have hn3 := x3 _ _ (x2 _ _ hn)
            dsimp only at e ⊢
            rw [hn3]
            dsimp only
            have hl : acc.length < big := by simp at l; omega
            rw [if_pos hl]
            cases hr : pColl f pt pe xs0 ys with
            | none => rw [hr] at e; cases e
            | some res' =>
              rw [hr] at e
              cases e
              have nlt : n < h3.length := lt_of_get hn3
              have mv : ∀ (m : Nat) (ob : O), ¬ A m → h3[m]? = some ob → ¬ A m ∧ (h3.set n (.lst (acc ++ [dy])))[m]? = some ob := fun m ob na e => ⟨na, by rw [List.getElem?_set_ne (show n ≠ m from fun z => na (z ▸ hA))]; exact e⟩
              have t3 : St b A (h3.set n (.lst (acc ++ [dy]))) o s0 xs0 := by
                have t0 := (t.ext x2).ext x3
                refine ⟨t0.len, fun i y e => ?_, fun m a => by simpa using t0.bd m a, by simpa using t0.bh, t0.loc, t0.dis⟩
                obtain ⟨d, w1, w2, w3⟩ := t0.rel i y e
                exact ⟨d, w1, fun k => (w2 k).mv mv, fun k => (w3 k).mv mv fun m em am => ⟨am, by
                  rw [List.getElem?_set_ne (show n ≠ m from fun z => nd i k (by rw [w1, em, z]))]⟩⟩
              have c3 : CkOk A (h3.set n (.lst (acc ++ [dy]))) ck := fun m es z => by
                have w := c m es z
                refine ⟨w.1, ?_⟩
                have w3 := items_ext x3 (items_ext x2 w.2)
                unfold items at w3 ⊢
                dsimp only at w3 ⊢
                rw [List.getElem?_set_ne (show n ≠ m from fun z => w.1 (z ▸ hA))]
                exact w3
              obtain ⟨es, h', w1, w2, w3, w4⟩ := lcIn_rv hg ht he s0 xs0 hA b (((rs.ext x2).ext x3).mv mv) c3 t3 nd (List.getElem?_set_self nlt) (((ra.ext x2).ext x3 |>.mv mv).app (.one (ry.mv mv))) (by simp at l ⊢; omega) hr
              refine ⟨dy :: es, h', w1, by rw [w2]; simp, Ext1.trans (Ext1.trans (Ext1.trans ⟨fun m ob _ e => x2 m ob e, x2.len⟩ ⟨fun m ob _ e => x3 m ob e, x3.len⟩) ⟨fun m ob k e => by rw [List.getElem?_set_ne (show n ≠ m from fun z => k z.symm)]; exact e, by simp⟩) w3, ?_⟩
              have : RvL A h' ((acc ++ [dy]) ++ es) ((done ++ [y]) ++ res') := w4
              simpa using this
theorem lcLoop_eq {gt : GT} {ft fe : FE} {n : Nat} {ck : Option (Nat × List D)} {s0 : DS} : ∀ {ds : List D} {h h' : Hm}, lcIn ck gt ft fe n s0 ds h = some h' → lcLoop ck gt ft fe n s0 ds h = .ok (.ref n) h'
  | [], h, h', e => by
    unfold lcIn at e
    unfold lcLoop
    by_cases hc : chkB ck h = true
    · rw [if_pos hc] at e ⊢
      cases e
      rfl
    · rw [if_neg hc] at e
      cases e
  | x :: ds, h, h', e => by
    unfold lcIn at e
    unfold lcLoop
    by_cases hc : chkB ck h = true
    case neg => rw [if_neg hc] at e; cases e
    rw [if_pos hc] at e ⊢
    cases hg : gt x s0 h with
    | nx s1 h1 =>
      rw [hg] at e
      dsimp only at e ⊢
      cases hf : ft s1 h1 with
      | ok d h2 =>
        rw [hf] at e
        skip
        cases d with
        | bl b =>
          cases b with
          | false => exact lcLoop_eq e
          | true =>
            dsimp only at e ⊢
            cases hv : fe s1 h2 with
            | ok d h3 =>
              rw [hv] at e
              dsimp only at e ⊢
              cases hn : h3[n]? with
              | none => rw [hn] at e; cases e
              | some ob =>
                rw [hn] at e
                cases ob with
                | lst acc =>
                  dsimp only at e ⊢
                  by_cases hl : acc.length < big
                  · rw [if_pos hl] at e ⊢
                    exact lcLoop_eq e
                  · rw [if_neg hl] at e
                    cases e
                | _ => cases e
            | _ => rw [hv] at e; cases e
        | _ => cases e
      | _ => rw [hf] at e; cases e
    | _ => rw [hg] at e; cases e
theorem St.plus (t : St b A h o s xs) {n : Nat} {ob : O} (hn : h.length = n) : St b (fun m => A m ∨ m = n) (h ++ [ob]) o s xs := by
  have mv : ∀ (m : Nat) (o' : O), ¬ A m → h[m]? = some o' → ¬ (A m ∨ m = n) ∧ (h ++ [ob])[m]? = some o' := fun m o' na e => ⟨fun z => by
    rcases z with z | z
    · exact na z
    · have := lt_of_get e; omega, Ext.app h _ m o' e⟩
  refine ⟨t.len, fun i y e => ?_, fun m z => ?_, by simp; have := t.bh; omega, fun i hi m e => ⟨(t.loc i hi m e).1, .inl (t.loc i hi m e).2⟩, t.dis⟩
  · obtain ⟨d, w1, w2, w3⟩ := t.rel i y e
    refine ⟨d, w1, fun k => (w2 k).mv mv, fun k => (w3 k).mv mv fun m em am => ⟨.inl am, ?_⟩⟩
    rw [List.getElem?_append_left (t.bd m am)]
  · rcases z with z | z
    · have := t.bd m z; simp; omega
    · simp; omega
theorem en_lc {fi : FI} {pi : PI} {gt : GT} {f : PG} {ft fe : FE} {pt pe : PE} {own : List Nat} (hi : IV o fi pi) (hg : GV o gt f) (ht : EV o ft pt) (he : EV o fe pe) (hw : ∀ i ∈ own, i ∉ o := by decide) : EN o (eLc fi gt ft fe own) (pLc pi f pt pe own) := fun b A h s xs t => by
  have z := hi b A h s xs t
  unfold eLc pLc
  cases hp : pi xs with
  | bad => trivial
  | exc c ns ys =>
    rw [hp] at z
    obtain ⟨ds, h1, e1, e2, l, r⟩ := z
    rw [e1]
    exact ⟨ds, h1, rfl, e2, l, r⟩
  | ok ys =>
    rw [hp] at z
    obtain ⟨ds, ck, h1, e1, e2, r, c⟩ := z
    rw [e1]
    dsimp only
    by_cases hl : ys.length ≤ big
    case neg => rw [if_neg hl]; trivial
    rw [if_pos hl]
    cases hr : pColl f pt pe (wipeP xs own) ys with
    | none => trivial
    | some res =>
      have t1 := ((t.ext e2).plus (ob := .lst []) rfl).wipe (vs := own) hw
      have mv : ∀ (m : Nat) (o' : O), ¬ A m → h1[m]? = some o' → ¬ (A m ∨ m = h1.length) ∧ (h1 ++ [O.lst []])[m]? = some o' := fun m o' na e => ⟨fun z => by
        rcases z with z | z
        · exact na z
        · have := lt_of_get e; omega, Ext.app h1 _ m o' e⟩
      have c1 : CkOk (fun m => A m ∨ m = h1.length) (h1 ++ [O.lst []]) ck := fun m es z => by
        have w := c m es z
        refine ⟨fun a => ?_, items_ext (Ext.app h1 _) w.2⟩
        rcases a with a | a
        · exact w.1 a
        · have w2 := w.2
          unfold items at w2
          dsimp only at w2
          rw [List.getElem?_eq_none (by omega)] at w2
          cases w2
      have nd : ∀ i ∈ o, (wipeD s own)[i]? ≠ some (some (.ref h1.length)) := fun i k e => by
        have t0 := (t.ext e2).wipe (vs := own) hw
        have := t0.bd _ (t0.loc i k _ e).2
        omega
      obtain ⟨es, h', w1, w2, w3, w4⟩ := lcIn_rv (A := fun m => A m ∨ m = h1.length) hg ht he (wipeD s own) (wipeP xs own) (.inr rfl) b (r.mv mv) c1 t1 nd get_last .nil (by simp; rw [r.length]; exact hl) hr
      rw [lcLoop_eq w1]
      rw [List.nil_append] at w2 w4
      rw [List.nil_append] at w4
      exact ⟨h1.length, es, res, h', rfl, fun m ob e => w3.1 m ob (fun z => by have := lt_of_get (e2 _ _ e); omega) (Ext.app h1 _ m ob (e2 _ _ e)), e2.len, .inl ⟨rfl, w2⟩, w4⟩
end
end Sh

set_option Elab.async false
set_option linter.all false
set_option maxRecDepth 100000
set_option maxHeartbeats 4000000
/-! defs, raise, try -/
namespace Sh
open PySem L2 PyProof.Rows
def PT.out (r : PT) : PR := match r with
  | .nx _ => .ok .non
  | .rt x => .ok x
  | .exc c ns xs _ => .exc c ns xs
  | _ => .bad
def PT.outN (r : PT) : PR := match r with
  | .rt x => .ok x
  | .exc c ns xs _ => .exc c ns xs
  | _ => .bad
def pRun (n : Nat) (q : PX) : PF := fun xs => (q (xs.map some ++ List.replicate (n - xs.length) none)).out
def pRunN (n : Nat) (q : PX) : PF := fun xs => (q (xs.map some ++ List.replicate (n - xs.length) none)).outN
section
variable {fr : Bool} {oL o o' o1 : List Nat} {oE : Option (List Nat)} {b : Nat} {A A1 : Nat → Prop} {h h1 : Hm} {e ec ea eb eo : FE} {p pc pa pb po : PE} {g ga gb : FS} {q qa qb : PX} {s : DS} {xs : PS}
theorem rvl_map {ds : List D} {ys : List PV} (r : RvL A h ds ys) : ∀ (i : Nat) (x : PV), (ys.map some)[i]? = some (some x) → ∃ d, (ds.map some)[i]? = some (some d) ∧ Rv A h d x := fun i x e => by
  rw [List.getElem?_map] at e
  cases hy : ys[i]? with
  | none => rw [hy] at e; cases e
  | some y =>
    rw [hy] at e
    cases e
    obtain ⟨d, e1, e2⟩ := r.get hy
    exact ⟨d, by rw [List.getElem?_map, e1]; rfl, e2⟩
theorem St.start {n : Nat} {ds : List D} {ys : List PV} (bd : Bd A h) (r : RvL A h ds ys) : St h.length A h [] (ds.map some ++ List.replicate (n - ds.length) none) (ys.map some ++ List.replicate (n - ys.length) none) := by
  refine ⟨by simp [r.length], fun i x e => ?_, bd, Nat.le_refl _, (fun i hi => by simp at hi), (fun i hi => by simp at hi)⟩
  by_cases hl : i < ys.length
  · rw [List.getElem?_append_left (by simpa using hl)] at e
    obtain ⟨d, e1, e2⟩ := rvl_map r i x e
    exact ⟨d, by rw [List.getElem?_append_left (by simpa [r.length] using hl)]; exact e1, fun _ => e2, fun z => by simp at z⟩
  · rw [List.getElem?_append_right (by simpa using hl), List.getElem?_replicate] at e
    split at e <;> cases e
theorem Keep.toExt {A' : Nat → Prop} {h' : Hm} (bd : Bd A h) (k : Keep h.length A h A' h') : Ext h h' := fun n ob e => k.1 n ob (fun z => by
  have := bd n z.1
  omega) e
theorem fv_run {n : Nat} (hs : SV false [] none [] o' g q) : FV (runB n g) (pRun n q) := fun A h ds ys bd r => by
  have z := hs h.length A h _ _ (St.start (n := n) bd r)
  rw [x_run]
  unfold pRun
  cases hq : q (ys.map some ++ List.replicate (n - ys.length) none) with
  | nx zs =>
    rw [hq] at z
    obtain ⟨A', s', h', e, k, t⟩ := z
    rw [e]
    exact ⟨.non, h', rfl, k.toExt bd, .non⟩
  | rt x =>
    rw [hq] at z
    obtain ⟨A', d, h', e, k, w, _⟩ := z
    rw [e]
    exact ⟨d, h', rfl, k.toExt bd, (w rfl).mono fun n a => ⟨a, bd n a⟩⟩
  | exc c ns zs st =>
    rw [hq] at z
    obtain ⟨A', ds, s', h', e, k, l, w, _⟩ := z
    rw [e]
    exact ⟨ds, h', rfl, k.toExt bd, l, w.mono fun n a => k.2.2.1 n a (bd n a)⟩
  | _ => trivial
theorem fn_run {n : Nat} (hs : SV true [] none [] o' g q) : FN (runB n g) (pRunN n q) := fun A h ds ys bd r => by
  have z := hs h.length A h _ _ (St.start (n := n) bd r)
  rw [x_run]
  unfold pRunN
  cases hq : q (ys.map some ++ List.replicate (n - ys.length) none) with
  | rt x =>
    rw [hq] at z
    obtain ⟨A', d, h', e, k, _, w⟩ := z
    rw [e]
    obtain ⟨n, ds2, xs2, rfl, l, q2, r2⟩ := w rfl
    refine ⟨n, ds2, xs2, h', rfl, k.toExt bd, l, q2, r2.mono fun m a => ?_⟩
    rcases a with a | a
    · exact .inl ⟨a, bd m a⟩
    · exact .inr a
  | exc c ns zs st =>
    rw [hq] at z
    obtain ⟨A', ds, s', h', e, k, l, w, _⟩ := z
    rw [e]
    exact ⟨ds, h', rfl, k.toExt bd, l, w.mono fun n a => k.2.2.1 n a (bd n a)⟩
  | _ => trivial
/-- a def that calls itself -/
theorem fv_zero : FV (fun _ _ => .bad) (fun _ => .bad) := fun _ _ _ _ _ _ => trivial
def xRaise (c : Str) : PX := fun s => .exc c [] [] s
theorem sv_raise {c : Str} (hE : EOk oE o := by intro _ h; cases h <;> rfl) : SV fr oL oE o o' (gRaise c) (xRaise c) := fun b A h s xs t => ⟨A, [], s, h, rfl, Keep.ext (Ext.refl h), rfl, .nil, fun oe he => hE oe he ▸ t⟩
def xRaiseF (c f : Str) (p : PE) : PX := fun s => (p s).st s fun x => .exc c [f] [x] s
theorem sv_raiseF {c f : Str} (he : EV o e p) (hE : EOk oE o := by intro _ h; cases h <;> rfl) : SV fr oL oE o o' (gRaiseF c f e) (xRaiseF c f p) := fun b A h s xs t => by
  have z := he b A h s xs t
  unfold gRaiseF xRaiseF
  cases hp : p xs with
  | bad => trivial
  | exc c' ns ys =>
    rw [hp] at z
    obtain ⟨ds, h', e1, e2, l, r⟩ := z
    rw [e1]
    exact ⟨A, ds, s, h', rfl, Keep.ext e2, l, r, fun oe he => hE oe he ▸ t.ext e2⟩
  | ok x =>
    rw [hp] at z
    obtain ⟨d, h', e1, e2, r⟩ := z
    rw [e1]
    exact ⟨A, [d], s, h', rfl, Keep.ext e2, rfl, .one r, fun oe he => hE oe he ▸ t.ext e2⟩
def xHandle (l : SubT) : List (Str × PX) → Str → List Str → List PV → PX
  | [], c, ns, xs, s => .exc c ns xs s
  | (x, g) :: r, c, ns, xs, s => match subT l c x with
    | some true => (match g s with
      | .exc _ _ _ _ => .bad
      | t => t)
    | some false => xHandle l r c ns xs s
    | none => .bad
def xTry (l : SubT) (gb : PX) (hs : List (Str × PX)) : PX := fun s => match gb s with
  | .exc c ns xs s' => xHandle l hs c ns xs s'
  | r => r
inductive HVs (fr : Bool) (oL o o' : List Nat) : List (Str × FS) → List (Str × PX) → Prop
  | nil : HVs fr oL o o' [] []
  | cons {c : Str} {g : FS} {q : PX} {gs : List (Str × FS)} {qs : List (Str × PX)} (h : SV fr oL none o o' g q) (hs : HVs fr oL o o' gs qs) : HVs fr oL o o' ((c, g) :: gs) ((c, q) :: qs)
theorem handle_sv {l : SubT} (hE : EOk oE o) {c : Str} {ns : List Str} {ds : List D} {ys : List PV} (hl : ns.length = ds.length) (r : RvL A h ds ys) (t : St b A h o s xs) : ∀ {gs : List (Str × FS)} {qs : List (Str × PX)}, HVs fr oL o o' gs qs → PostP fr oL oE o' b A h (handle l gs c (ns.zip ds) s h) (xHandle l qs c ns ys xs)
  | _, _, .nil => ⟨A, ds, s, h, rfl, Keep.ext (Ext.refl h), hl, r, fun oe he => hE oe he ▸ t⟩
  | _, _, .cons (c := x) (g := g) (q := q) hg hs => by
    unfold handle xHandle
    cases hx : subT l c x with
    | none => trivial
    | some bb =>
      cases bb with
      | false => exact handle_sv hE hl r t hs
      | true =>
        dsimp only
        have z := hg b A h s xs t
        cases hq : q xs with
        | nx ys => rw [hq] at z; obtain ⟨A', s', h', e, w⟩ := z; rw [e]; exact ⟨A', s', h', rfl, w⟩
        | bk ys => rw [hq] at z; obtain ⟨A', s', h', e, w⟩ := z; rw [e]; exact ⟨A', s', h', rfl, w⟩
        | ct ys => rw [hq] at z; obtain ⟨A', s', h', e, w⟩ := z; rw [e]; exact ⟨A', s', h', rfl, w⟩
        | rt x => rw [hq] at z; obtain ⟨A', s', h', e, w⟩ := z; rw [e]; exact ⟨A', s', h', rfl, w⟩
        | exc _ _ _ _ => trivial
        | bad => trivial
theorem sv_try {l : SubT} {gs : List (Str × FS)} {qs : List (Str × PX)} (hb : SV fr oL (some o) o o' gb qb) (hs : HVs fr oL o o' gs qs) (hE : EOk oE o := by intro _ h; cases h <;> rfl) : SV fr oL oE o o' (gTry l gb gs) (xTry l qb qs) := fun b A h s xs t => by
  have z := hb b A h s xs t
  unfold gTry xTry
  cases hq : qb xs with
  | nx ys => rw [hq] at z; obtain ⟨A', s', h', e, w⟩ := z; rw [e]; exact ⟨A', s', h', rfl, w⟩
  | bk ys => rw [hq] at z; obtain ⟨A', s', h', e, w⟩ := z; rw [e]; exact ⟨A', s', h', rfl, w⟩
  | ct ys => rw [hq] at z; obtain ⟨A', s', h', e, w⟩ := z; rw [e]; exact ⟨A', s', h', rfl, w⟩
  | rt x => rw [hq] at z; obtain ⟨A', s', h', e, w⟩ := z; rw [e]; exact ⟨A', s', h', rfl, w⟩
  | exc c ns ys st =>
    rw [hq] at z
    obtain ⟨A', ds, s', h', e, k, hl, r, w⟩ := z
    rw [e]
    exact (handle_sv hE hl r (w o rfl) hs).from k
  | bad => trivial
def xTryF (l : SubT) (gb : PX) (x : Str) (i j : Nat) (f : Str) (mk : PV → PV) : PX := fun s => match gb s with
  | .exc c ns xs s' => (match subT l c x with
    | some true => if c = x then (if i < s'.length then (match (ns.zip xs).lookup f with
      | some y => .nx ((s'.set i none).set j (some (mk y)))
      | none => .bad) else .bad) else .bad
    | some false => .exc c ns xs s'
    | none => .bad)
  | r => r
theorem sv_tryF {l : SubT} {x : Str} {i j : Nat} {f : Str} {mk : D → D} {mx : PV → PV} (hb : SV fr oL (some o) o o gb qb) (hm : ∀ A h d y, Rv A h d y → Rv A h (mk d) (mx y)) (hi : i ∉ o := by decide) (hj : j ∉ o := by decide) (hE : EOk oE o := by intro _ h; cases h <;> rfl) : SV fr oL oE o o (gTryF l gb x (gXfA i j f mk)) (xTryF l qb x i j f mx) := fun b A h s xs t => by
  have z := hb b A h s xs t
  unfold gTryF xTryF
  cases hq : qb xs with
  | nx ys => rw [hq] at z; obtain ⟨A', s', h', e, w⟩ := z; rw [e]; exact ⟨A', s', h', rfl, w⟩
  | bk ys => rw [hq] at z; obtain ⟨A', s', h', e, w⟩ := z; rw [e]; exact ⟨A', s', h', rfl, w⟩
  | ct ys => rw [hq] at z; obtain ⟨A', s', h', e, w⟩ := z; rw [e]; exact ⟨A', s', h', rfl, w⟩
  | rt x => rw [hq] at z; obtain ⟨A', s', h', e, w⟩ := z; rw [e]; exact ⟨A', s', h', rfl, w⟩
  | exc c ns ys st =>
    rw [hq] at z
    obtain ⟨A', ds, s', h', e, k, hl, r, w⟩ := z
    rw [e]
    have t' := w o rfl
    dsimp only
    cases hx : subT l c x with
    | none => trivial
    | some bb =>
      cases bb with
      | false => exact ⟨A', ds, s', h', rfl, k, hl, r, fun oe he => hE oe he ▸ t'⟩
      | true =>
        dsimp only
        by_cases hc : c = x
        case neg => rw [if_neg hc, if_neg hc]; trivial
        rw [if_pos hc, if_pos hc]
        by_cases hlen : i < st.length
        case neg => rw [if_neg hlen]; trivial
        rw [if_pos hlen]
        unfold gXfA
        rw [if_pos (by rw [t'.len]; exact hlen)]
        cases hy : (ns.zip ys).lookup f with
        | none => trivial
        | some y =>
          obtain ⟨d, e2, r2⟩ := lookup_rv r hy
          rw [e2]
          exact ⟨A', _, h', rfl, k, (t'.clr hi).set hj (hm _ _ _ _ r2)⟩
  | bad => trivial
/-! reading methods -/
def LmR (gl : Nat → List D → List D → Hm → RD) (f : List PV → List PV → PR) : Prop := ∀ A h n ds ys es zs, Bd A h → RvL A h ds ys → RvL A h es zs → h[n]? = some (.lst ds) → PostX A h (gl n ds es h) (f ys zs)
def pLm (f : List PV → List PV → PR) (a : PE) (ps : List PE) : PE := fun s => (a s).bind fun d => match d with
  | .lst ys => pArr ps s fun zs => f ys zs
  | _ => .bad
theorem ev_lm {gl : Nat → List D → List D → Hm → RD} {f : List PV → List PV → PR} {es : List FE} {ps : List PE} (hf : LmR gl f) (ho : EV o eo po) (hs : EVs o es ps) : EV o (eLm gl eo es) (pLm f po ps) := fun b A h s xs t => (ho b A h s xs t).bind fun d h1 x e1 r1 => by
  cases r1 <;> try trivial
  rename_i n ds ys a e r
  dsimp only
  rw [e]
  dsimp only
  rw [x_args]
  have t1 := t.ext e1
  refine post_arr (Z := PostX A h1) (fun _ => trivial) hs t1 (fun c ns ds ys h1 x l r => ⟨ds, h1, rfl, x, l, r⟩) fun es h2 zs x r2 => ?_
  rw [x _ _ e]
  exact (hf A h2 n ds ys es zs (t1.ext x).bd (r.ext x) r2 (x _ _ e)).from x
def TmR (gl : List D → List D → Hm → RD) (f : List PV → List PV → PR) : Prop := ∀ A h ds ys es zs, Bd A h → RvL A h ds ys → RvL A h es zs → PostX A h (gl ds es h) (f ys zs)
def pTm (f : List PV → List PV → PR) (a : PE) (ps : List PE) : PE := fun s => (a s).bind fun d => match d with
  | .tup ys => pArr ps s fun zs => f ys zs
  | _ => .bad
theorem ev_tm {gl : List D → List D → Hm → RD} {f : List PV → List PV → PR} {es : List FE} {ps : List PE} (hf : TmR gl f) (ho : EV o eo po) (hs : EVs o es ps) : EV o (eTm gl eo es) (pTm f po ps) := fun b A h s xs t => (ho b A h s xs t).bind fun d h1 x e1 r1 => by
  cases r1 <;> try trivial
  rename_i ds ys r
  dsimp only
  rw [x_args]
  have t1 := t.ext e1
  exact post_arr (Z := PostX A h1) (fun _ => trivial) hs t1 (fun c ns ds ys h1 x l r => ⟨ds, h1, rfl, x, l, r⟩) fun es h2 zs x r2 => (hf A h2 ds ys es zs (t1.ext x).bd (r.ext x) r2).from x
theorem countP_rv {d : D} {x : PV} (q : Rv A h d x) : ∀ {ds : List D} {ys : List PV}, RvL A h ds ys → (ds.countP fun z => eqF z d) = ys.countP fun z => eqFX z x
  | _, _, .nil => rfl
  | _, _, .cons r rs => by rw [List.countP_cons, List.countP_cons, eqF_rv r q, countP_rv q rs]
theorem findIdx_rv {d : D} {x : PV} (q : Rv A h d x) : ∀ {ds : List D} {ys : List PV}, RvL A h ds ys → (ds.findIdx? fun z => eqF z d) = ys.findIdx? fun z => eqFX z x
  | _, _, .nil => rfl
  | _, _, .cons r rs => by rw [List.findIdx?_cons, List.findIdx?_cons, eqF_rv r q, findIdx_rv q rs]
def zCount (ys zs : List PV) : PR := match zs with
  | [x] => if flatX x = true ∧ ys.all flatX = true then .ok (.int ((ys.countP fun z => eqFX z x : Nat) : Int)) else .bad
  | _ => .bad
theorem tm_count : TmR tCount zCount := fun A h ds ys es zs b r q => by
  cases q with
  | nil => trivial
  | cons q qs =>
    cases qs with
    | cons _ _ => trivial
    | nil =>
      unfold tCount zCount
      simp only [flat_rv q, allflat_rv r, countP_rv q r]
      split
      · exact .of (.int _)
      · trivial
def zIndex (ys zs : List PV) : PR := match zs with
  | [x] => if flatX x = true ∧ ys.all flatX = true then (match ys.findIdx? (fun z => eqFX z x) with
    | some j => .ok (.int j)
    | none => .bad) else .bad
  | _ => .bad
theorem tm_index : TmR tIndex zIndex := fun A h ds ys es zs b r q => by
  cases q with
  | nil => trivial
  | cons q qs =>
    cases qs with
    | cons _ _ => trivial
    | nil =>
      unfold tIndex zIndex
      simp only [flat_rv q, allflat_rv r, findIdx_rv q r]
      split
      · split
        · rename_i j e; (try simp only [e]); exact .of (.int _)
        · rename_i e; (try simp only [e]); trivial
      · trivial
theorem lm_index : LmR lIndex zIndex := fun A h n ds ys es zs b r q e => by
  cases q with
  | nil => trivial
  | cons q qs =>
    cases qs with
    | cons _ _ => trivial
    | nil =>
      unfold lIndex zIndex
      simp only [flat_rv q, allflat_rv r, findIdx_rv q r]
      split
      · split
        · rename_i j e; (try simp only [e]); exact .of (.int _)
        · rename_i e; (try simp only [e]); trivial
      · trivial
def zCountI (ys zs : List PV) : PR := match zs with
  | [.int k] => match intsX ys with
    | some ns => .ok (.int (ns.count k : Nat))
    | none => .bad
  | _ => .bad
theorem lm_count : LmR lCount zCountI := fun A h n ds ys es zs b r q e => by
  cases q with
  | nil => trivial
  | cons q qs =>
    cases q <;> try (cases qs <;> trivial)
    cases qs with
    | cons _ _ => trivial
    | nil =>
      unfold lCount zCountI
      simp only [ints_rv r]
      cases intsX ys with
      | none => trivial
      | some ns => exact .of (.int _)
def pListRg (a : PE) : PE := fun s => (a s).bind fun d => match d with
  | .int n => if n ≤ 1000000 ∧ -1000000 ≤ n then .ok (.lst ((List.range n.toNat).map fun k => .int (k : Nat))) else .bad
  | _ => .bad
theorem en_listrg (ha : EV o ea pa) : EN o (eListRg ea) (pListRg pa) := fun b A h s xs t => by
  have z := ha b A h s xs t
  unfold eListRg pListRg
  cases hp : pa xs with
  | bad => trivial
  | exc c ns ys => rw [hp] at z; obtain ⟨ds, h1, e1, x1, l, r⟩ := z; rw [e1]; exact ⟨ds, h1, rfl, x1, l, r⟩
  | ok x =>
    rw [hp] at z
    obtain ⟨d, h1, e1, x1, r⟩ := z
    rw [e1, RD.bind_ok, PR.bind_ok]
    cases r <;> try trivial
    rename_i n
    unfold bListRg
    dsimp only
    by_cases hn : n ≤ 1000000 ∧ -1000000 ≤ n
    · rw [if_pos hn, if_pos hn]
      have := rvl_rg (A := A) (h := h1) 0 n
      refine PostN.from x1 (new_post (t.ext x1).bd ?_)
      simpa using this
    · rw [if_neg hn, if_neg hn]; trivial
end
end Sh

set_option Elab.async false
set_option linter.all false
set_option maxRecDepth 100000
set_option maxHeartbeats 4000000
/-! reckoning with values -/
namespace Sh
open PySem L2 PyProof.Rows
section
variable {s s1 : PS} {a b c : PE} {qa qb : PX} {x y : PV} {P : Prop} [Decidable P]
def PT.seq (r : PT) (k : PX) : PT := match r with
  | .nx s' => k s'
  | r => r
theorem pseq_nx {k : PX} : (PT.nx s).seq k = k s := rfl
theorem pseq_rt {k : PX} : (PT.rt x).seq k = .rt x := rfl
theorem pseq_exc {k : PX} {c ns xs} : (PT.exc c ns xs s).seq k = .exc c ns xs s := rfl
theorem pseq_bk {k : PX} : (PT.bk s).seq k = .bk s := rfl
theorem pseq_ct {k : PX} : (PT.ct s).seq k = .ct s := rfl
theorem pseq_bad {k : PX} : PT.bad.seq k = .bad := rfl
theorem pseq_ite {k : PX} {u v : PT} : (if P then u else v).seq k = if P then u.seq k else v.seq k := by split <;> rfl
theorem px_seq : xSeq qa qb s = (qa s).seq qb := by unfold xSeq PT.seq; cases qa s <;> rfl
theorem px_next : xNext s = .nx s := rfl
theorem px_set {i : Nat} : xSet i a s = (a s).st s fun x => .nx (s.set i (some x)) := rfl
theorem px_ret : xRet a s = (a s).st s .rt := rfl
theorem px_drop : xDrop a s = (a s).st s fun _ => .nx s := rfl
def PR.tq (r : PR) (s : PS) (k : Bool → PT) : PT := match r with
  | .ok (.bl p) => k p
  | .ok _ => .bad
  | .exc c ns xs => .exc c ns xs s
  | .bad => .bad
theorem tq_bl {p : Bool} {k : Bool → PT} : (PR.ok (.bl p)).tq s k = k p := rfl
theorem tq_exc {c ns xs} {k : Bool → PT} : (PR.exc c ns xs).tq s k = .exc c ns xs s := rfl
theorem tq_bad {k : Bool → PT} : PR.bad.tq s k = .bad := rfl
theorem px_if : xIf c qa qb s = (c s).tq s fun p => if p = true then qa s else qb s := by
  unfold xIf PR.tq PR.st
  cases c s with
  | ok x => cases x <;> rfl
  | _ => rfl
theorem pts_bl {p : Bool} {k : Bool → PR} : (PR.ok (.bl p)).tst k = k p := rfl
theorem pts_exc {c ns xs} {k : Bool → PR} : (PR.exc c ns xs).tst k = .exc c ns xs := rfl
theorem pts_bad {k : Bool → PR} : PR.bad.tst k = .bad := rfl
def ofP (o : Option (Option PV)) : PR := match o with
  | some (some x) => .ok x
  | _ => .bad
theorem ofP_some : ofP (some (some x)) = .ok x := rfl
theorem px_var {i : Nat} : pVar i s = ofP s[i]? := by unfold pVar ofP; rfl
theorem px_c : pC x s = .ok x := rfl
theorem px_bin {f : PV → PV → PR} : pBin f a b s = (a s).bind fun x => (b s).bind fun y => f x y := rfl
theorem px_and : pAnd a b s = (a s).tst fun p => if p = true then b s else .ok (.bl false) := rfl
theorem px_or : pOr a b s = (a s).tst fun p => if p = true then .ok (.bl true) else b s := rfl
theorem px_not : pNot a s = (a s).tst fun p => .ok (.bl (!p)) := rfl
theorem px_eif : pIf c a b s = (c s).tst fun p => if p = true then a s else b s := rfl
theorem px_chain {f g : PV → PV → PR} : pChain f g a b c s = (a s).bind fun x => (b s).bind fun y => (f x y).tst fun p => if p = true then (c s).bind fun z => g y z else .ok (.bl false) := rfl
theorem px_args {g : List PV → PR} {l : List PE} : pArgs g l s = pArr l s g := rfl
theorem px_nil {k : List PV → PR} : pArr [] s k = k [] := rfl
theorem px_cons {k : List PV → PR} {l : List PE} : pArr (a :: l) s k = (a s).bind fun x => pArr l s fun xs => k (x :: xs) := rfl
theorem px_tup {l : List PE} : pTup l s = pArr l s fun xs => .ok (.tup xs) := rfl
theorem px_lst {l : List PE} : pLst l s = pArr l s fun xs => .ok (.lst xs) := rfl
theorem px_isi {T : String} : pIsi T a s = (a s).bind fun d => xOf (isiX T d) := rfl
theorem px_tru : pTru a s = (a s).bind fun d => xOf (truX d) := rfl
theorem px_neg : pNeg a s = (a s).bind fun d => match d with
  | .int i => .ok (.int (-i))
  | _ => .bad := rfl
theorem px_sl {f : PV → Option Int → Option Int → PR} {lo hi : Option PE} : pSl f a lo hi s = (a s).bind fun x => pPart lo s fun l => pPart hi s fun u => f x l u := rfl
theorem px_part0 {k : Option Int → PR} : pPart none s k = k none := rfl
def PR.ti (r : PR) (k : Int → PR) : PR := r.bind fun d => match d with
  | .int i => k i
  | _ => .bad
theorem ti_int {i : Int} {k : Int → PR} : (PR.ok (.int i)).ti k = k i := rfl
theorem px_part1 {k : Option Int → PR} : pPart (some a) s k = (a s).ti fun i => k (some i) := rfl
theorem px_for {fi : PI} {gt : PG} {gb : PX} {l : List PV} (e : fi s = .ok l) : xFor fi gt gb s = xLoop gt gb l s := by unfold xFor; rw [e]
theorem px_raise {c : Str} : xRaise c s = .exc c [] [] s := rfl
theorem px_raiseF {c f : Str} : xRaiseF c f a s = (a s).st s fun x => .exc c [f] [x] s := rfl
theorem px_run {n : Nat} {l : List PV} : pRun n qa l = (qa (l.map some ++ List.replicate (n - l.length) none)).out := rfl
theorem px_runN {n : Nat} {l : List PV} : pRunN n qa l = (qa (l.map some ++ List.replicate (n - l.length) none)).outN := rfl
theorem pout_nx : (PT.nx s).out = .ok .non := rfl
theorem pout_rt : (PT.rt x).out = .ok x := rfl
theorem pout_exc {c ns xs} : (PT.exc c ns xs s).out = .exc c ns xs := rfl
theorem poutN_rt : (PT.rt x).outN = .ok x := rfl
theorem poutN_exc {c ns xs} : (PT.exc c ns xs s).outN = .exc c ns xs := rfl
theorem pout_ite {u v : PT} : (if P then u else v).out = if P then u.out else v.out := by split <;> rfl
theorem poutN_ite {u v : PT} : (if P then u else v).outN = if P then u.outN else v.outN := by split <;> rfl
theorem pst_ite {u v : PR} {k : PV → PT} : (if P then u else v).st s k = if P then u.st s k else v.st s k := by split <;> rfl
theorem pbind_ite {u v : PR} {k : PV → PR} : (if P then u else v).bind k = if P then u.bind k else v.bind k := by split <;> rfl
/-! operations -/
theorem v_add {i j : Int} : xAdd (.int i) (.int j) = .ok (.int (i + j)) := rfl
theorem v_sub {i j : Int} : xSub (.int i) (.int j) = .ok (.int (i - j)) := rfl
theorem v_cmp {g : Int → Int → Bool} {i j : Int} : xCmp g (.int i) (.int j) = .ok (.bl (g i j)) := rfl
theorem v_mod {i j : Int} : xMod (.int i) (.int j) = if 0 < j then .ok (.int (i % j)) else .bad := by simp [xMod, xInt2]
theorem v_modP {i j : Int} (h : 0 < j) : xMod (.int i) (.int j) = .ok (.int (i % j)) := by rw [v_mod, if_pos h]
theorem v_divP {i j : Int} (h : 0 < j) (h2 : j < 18446744073709551616) : xDiv (.int i) (.int j) = .ok (.int (i / j)) := by
  have h3 : j < 2 ^ 200 := Int.lt_trans h2 (by decide)
  show (if decide (0 < j ∧ j < 2 ^ 200) = true then _ else _) = _
  rw [if_pos (decide_eq_true ⟨h, h3⟩)]
theorem v_mulL {i j : Int} (h1 : -18446744073709551616 < i) (h2 : i < 18446744073709551616) : xMul (.int i) (.int j) = .ok (.int (i * j)) := by
  have : cM i j = true := decide_eq_true (.inl ⟨by rw [show (-(2 ^ 64) : Int) = -18446744073709551616 from rfl]; exact h1, by rw [show ((2 : Int) ^ 64) = 18446744073709551616 from rfl]; exact h2⟩)
  simp [xMul, this]
theorem v_mulR {i j : Int} (h1 : -18446744073709551616 < j) (h2 : j < 18446744073709551616) : xMul (.int i) (.int j) = .ok (.int (i * j)) := by
  have : cM i j = true := decide_eq_true (.inr ⟨by rw [show (-(2 ^ 64) : Int) = -18446744073709551616 from rfl]; exact h1, by rw [show ((2 : Int) ^ 64) = 18446744073709551616 from rfl]; exact h2⟩)
  simp [xMul, this]
theorem v_pow18 : xPow (.int 10) (.int 18) = .ok (.int 1000000000000000000) := by rfl
theorem v_pow25 : xPow (.int 10) (.int 25) = .ok (.int 10000000000000000000000000) := by rfl
theorem v_int {i : Int} : yInt [.int i] = .ok (.int i) := rfl
theorem v_len_t {l : List PV} : yLen [.tup l] = .ok (.int l.length) := rfl
theorem v_len_l {l : List PV} : yLen [.lst l] = .ok (.int l.length) := rfl
theorem v_len_s {l : List PV} : yLen [.scr l] = .ok (.int l.length) := rfl
theorem v_list_t {l : List PV} : yList [.tup l] = .ok (.lst l) := rfl
theorem v_list_l {l : List PV} : yList [.lst l] = .ok (.lst l) := rfl
theorem v_list_s {l : List PV} : yList [.scr l] = .ok (.lst l) := rfl
theorem v_tuple_t {l : List PV} : yTuple [.tup l] = .ok (.tup l) := rfl
theorem v_tuple_l {l : List PV} : yTuple [.lst l] = .ok (.tup l) := rfl
theorem v_addT {l m : List PV} (h : l.length + m.length ≤ 1000000) : xAdd (.tup l) (.tup m) = .ok (.tup (l ++ m)) := by
  unfold xAdd
  dsimp only
  rw [if_pos (by exact h)]
theorem v_addL {l m : List PV} (h : l.length + m.length ≤ 1000000) : xAdd (.lst l) (.lst m) = .ok (.lst (l ++ m)) := by
  unfold xAdd
  dsimp only
  rw [if_pos (by exact h)]
theorem v_addLN {l m : List PV} (h : l.length + m.length ≤ 1000000) : xAddL (.lst l) (.lst m) = .ok (.lst (l ++ m)) := by
  unfold xAddL
  dsimp only
  rw [if_pos (by exact h)]
theorem v_ixT {l : List PV} {k : Nat} (e : l[k]? = some x) : xIx (.tup l) (.int k) = .ok x := by simp [xIx, itemsX, atI_nat e]
theorem v_ixL {l : List PV} {k : Nat} (e : l[k]? = some x) : xIx (.lst l) (.int k) = .ok x := by simp [xIx, itemsX, atI_nat e]
theorem v_ixS {l : List PV} {k : Nat} (e : l[k]? = some x) : xIx (.scr l) (.int k) = .ok x := by simp [xIx, itemsX, atI_nat e]
theorem v_is_n {x : PV} : xIs x .non = .ok (.bl (match x with | .non => true | _ => false)) := rfl
theorem v_all {bs : List Bool} : yAll [.lst (bs.map PV.bl)] = .ok (.bl (bs.all id)) := by
  have : blsX (bs.map PV.bl) = some bs := by
    induction bs with
    | nil => rfl
    | cons b bs ih => rw [List.map_cons, blsX, ih]; rfl
  show (match blsX (bs.map PV.bl) with | some bs => PR.ok (.bl (bs.all id)) | none => .bad) = _
  rw [this]
theorem v_any {bs : List Bool} : yAny [.lst (bs.map PV.bl)] = .ok (.bl (bs.any id)) := by
  have : blsX (bs.map PV.bl) = some bs := by
    induction bs with
    | nil => rfl
    | cons b bs ih => rw [List.map_cons, blsX, ih]; rfl
  show (match blsX (bs.map PV.bl) with | some bs => PR.ok (.bl (bs.any id)) | none => .bad) = _
  rw [this]
theorem v_eqI {i j : Int} : xEq (.int i) (.int j) = .ok (.bl (decide (i = j))) := rfl
theorem v_eqS {i j : Str} : xEq (.str i) (.str j) = .ok (.bl (decide (i = j))) := rfl
theorem v_neI {i j : Int} : xNe (.int i) (.int j) = .ok (.bl (!decide (i = j))) := rfl
theorem v_neS {i j : Str} : xNe (.str i) (.str j) = .ok (.bl (!decide (i = j))) := rfl
end
/-! loops -/
def PT.lp (r : PT) (k : PX) : PT := match r with
  | .nx s => k s
  | .ct s => k s
  | .bk s => .nx s
  | r => r
theorem plp_nx {s : PS} {k : PX} : (PT.nx s).lp k = k s := rfl
theorem plp_ct {s : PS} {k : PX} : (PT.ct s).lp k = k s := rfl
theorem plp_bk {s : PS} {k : PX} : (PT.bk s).lp k = .nx s := rfl
theorem plp_rt {x : PV} {k : PX} : (PT.rt x).lp k = .rt x := rfl
theorem plp_exc {c ns xs} {s : PS} {k : PX} : (PT.exc c ns xs s).lp k = .exc c ns xs s := rfl
theorem plp_bad {k : PX} : PT.bad.lp k = .bad := rfl
theorem plp_ite {P : Prop} [Decidable P] {u v : PT} {k : PX} : (if P then u else v).lp k = if P then u.lp k else v.lp k := by split <;> rfl
theorem xloop_nil {gt : PG} {gb : PX} {s : PS} : xLoop gt gb [] s = .nx s := rfl
theorem xloop_cons {gt : PG} {gb : PX} {s s1 : PS} {x : PV} {xs : List PV} (e : gt x s = some s1) : xLoop gt gb (x :: xs) s = (gb s1).lp (xLoop gt gb xs) := by
  unfold PT.lp
  show (match gt x s with
    | some s1 => (match gb s1 with
      | .nx s2 => xLoop gt gb xs s2
      | .ct s2 => xLoop gt gb xs s2
      | .bk s2 => .nx s2
      | r => r)
    | none => .bad) = _
  rw [e]
theorem xloop_name {gb : PX} {i : Nat} {s : PS} {x : PV} {xs : List PV} : xLoop (xName i) gb (x :: xs) s = (gb (s.set i (some x))).lp (xLoop (xName i) gb xs) := xloop_cons rfl
theorem seq_ok {p : PE} {s : PS} {x : PV} {l : List PV} (e : p s = .ok x) (e2 : itemsX x = some l) : pSeq p s = .ok l := by
  unfold pSeq
  rw [e]
  dsimp only
  rw [e2]
theorem prg_ok {p : PE} {s : PS} {n : Nat} (e : p s = .ok (.int n)) (h : n < 1000000) : pRg [p] s = .ok ((List.range n).map fun k => PV.int (k : Nat)) := by
  unfold pRg pArrA pArrA
  rw [e]
  dsimp only
  unfold yRg
  dsimp only
  rw [if_pos (by omega), Int.toNat_natCast]
/-- a loop that goes on to its end -/
theorem loop_fold {α β : Type} {gt : PG} {gb : PX} (f : β → PV) (enc : α → PS) (step : α → β → α) (I : α → Prop) : ∀ (l : List β) (a : α), I a → (∀ a, ∀ x ∈ l, I a → ∃ s1, gt (f x) (enc a) = some s1 ∧ (gb s1 = .nx (enc (step a x)) ∨ gb s1 = .ct (enc (step a x))) ∧ I (step a x)) → xLoop gt gb (l.map f) (enc a) = .nx (enc (l.foldl step a)) ∧ I (l.foldl step a)
  | [], a, i, _ => ⟨rfl, i⟩
  | x :: l, a, i, k => by
    obtain ⟨s1, e1, e2, i2⟩ := k a x List.mem_cons_self i
    have ih := loop_fold f enc step I l (step a x) i2 fun b y hy => k b y (List.mem_cons_of_mem _ hy)
    refine ⟨?_, ih.2⟩
    rw [List.map_cons]
    unfold xLoop
    rw [e1]
    dsimp only
    rcases e2 with e2 | e2
    · rw [e2]; exact ih.1
    · rw [e2]; exact ih.1
/-- a loop whose turns all go on, to a state that needs no name -/
theorem loop_same {β : Type} {gt : PG} {gb : PX} (f : β → PV) (J : PS → Prop) : ∀ (l : List β) (s : PS), J s → (∀ s, ∀ x ∈ l, J s → ∃ s1 s2, gt (f x) s = some s1 ∧ (gb s1 = .nx s2 ∨ gb s1 = .ct s2) ∧ J s2) → ∃ s2, xLoop gt gb (l.map f) s = .nx s2 ∧ J s2
  | [], s, i, _ => ⟨s, rfl, i⟩
  | x :: l, s, i, k => by
    obtain ⟨s1, s2, e1, e2, i2⟩ := k s x List.mem_cons_self i
    obtain ⟨s3, e3, i3⟩ := loop_same f J l s2 i2 fun b y hy => k b y (List.mem_cons_of_mem _ hy)
    refine ⟨s3, ?_, i3⟩
    rw [List.map_cons]
    unfold xLoop
    rw [e1]
    dsimp only
    rcases e2 with e2 | e2
    · rw [e2]; exact e3
    · rw [e2]; exact e3
theorem coll_map {β : Type} {gt : PG} {ft fe : PE} {s0 : PS} (f g : β → PV) : ∀ (l : List β), (∀ x ∈ l, ∃ s1, gt (f x) s0 = some s1 ∧ ft s1 = .ok (.bl true) ∧ fe s1 = .ok (g x)) → pColl gt ft fe s0 (l.map f) = some (l.map g)
  | [], _ => rfl
  | x :: l, k => by
    obtain ⟨s1, e1, e2, e3⟩ := k x List.mem_cons_self
    rw [List.map_cons, List.map_cons]
    unfold pColl
    rw [e1]
    dsimp only
    rw [e2]
    dsimp only
    rw [e3]
    dsimp only
    rw [coll_map f g l fun y hy => k y (List.mem_cons_of_mem _ hy)]
    rfl
theorem coll_filter {β : Type} {gt : PG} {ft fe : PE} {s0 : PS} (f g : β → PV) (t : β → Bool) : ∀ (l : List β), (∀ x ∈ l, ∃ s1, gt (f x) s0 = some s1 ∧ ft s1 = .ok (.bl (t x)) ∧ (t x = true → fe s1 = .ok (g x))) → pColl gt ft fe s0 (l.map f) = some ((l.filter t).map g)
  | [], _ => rfl
  | x :: l, k => by
    obtain ⟨s1, e1, e2, e3⟩ := k x List.mem_cons_self
    have ih := coll_filter f g t l fun y hy => k y (List.mem_cons_of_mem _ hy)
    rw [List.map_cons]
    unfold pColl
    rw [e1]
    dsimp only
    rw [e2]
    cases ht : t x with
    | false =>
      dsimp only
      rw [List.filter_cons_of_neg (by simp [ht])]
      exact ih
    | true =>
      dsimp only
      rw [e3 ht, List.filter_cons_of_pos ht]
      dsimp only
      rw [ih]
      rfl
theorem plc_ok {fi : PI} {gt : PG} {ft fe : PE} {own : List Nat} {s : PS} {l r : List PV} (e : fi s = .ok l) (hl : l.length ≤ 1000000) (c : pColl gt ft fe (wipeP s own) l = some r) : pLc fi gt ft fe own s = .ok (.lst r) := by
  unfold pLc
  rw [e]
  dsimp only
  rw [if_pos (by exact hl), c]
theorem law_of {m : FF} {v : PF} (w : FV m v) {ns : List Int} (e : v [.scr (ns.map PV.int)] = .ok (.bl true)) : ∃ h', m [.scl (ns.map D.int)] [] = .ok (.bl true) h' := by
  have z := w (fun _ => False) [] [.scl (ns.map D.int)] [.scr (ns.map PV.int)] (fun _ a => nomatch a) (.one (.scr (rvl_ints ns)))
  rw [e] at z
  obtain ⟨d, h', e1, _, r⟩ := z
  cases r
  exact ⟨h', e1⟩
/-! statement by statement -/
def PO (r : PR) (Q : PV → Prop) : Prop := match r with
  | .ok x => Q x
  | _ => False
theorem po_ok {x : PV} {Q : PV → Prop} : PO (.ok x) Q = Q x := rfl
theorem PO.get {r : PR} {Q : PV → Prop} (h : PO r Q) : ∃ x, r = .ok x ∧ Q x := by
  cases r with
  | ok x => exact ⟨x, rfl, h⟩
  | _ => exact False.elim h
theorem PO.of {r : PR} {Q : PV → Prop} {x : PV} (e : r = .ok x) (q : Q x) : PO r Q := by rw [e]; exact q
theorem PO.eq {r : PR} {x : PV} (h : PO r fun y => y = x) : r = .ok x := by
  obtain ⟨y, e, rfl⟩ := h.get
  exact e
theorem PO.mono {r : PR} {Q Q' : PV → Prop} (h : PO r Q) (k : ∀ x, Q x → Q' x) : PO r Q' := by
  cases r with
  | ok x => exact k x h
  | _ => exact False.elim h
def PB (d : PV) (P : Bool → Prop) : Prop := match d with
  | .bl p => P p
  | _ => False
theorem pb_bl {p : Bool} {P : Bool → Prop} : PB (.bl p) P = P p := rfl
def PN (q : PX) (s : PS) (N : PS → Prop) (T : PV → Prop) : Prop := match q s with
  | .nx s' => N s'
  | .rt x => T x
  | _ => False
/-- a turn of a loop -/
def PL (q : PX) (s : PS) (N B : PS → Prop) (T : PV → Prop) : Prop := match q s with
  | .nx s' => N s'
  | .ct s' => N s'
  | .bk s' => B s'
  | .rt x => T x
  | _ => False
section
variable {q qa qb gb : PX} {s s' : PS} {N N' B : PS → Prop} {T T' : PV → Prop} {p c : PE} {x : PV} {P : Prop} [Decidable P] {gt : PG} {fi : PI}
theorem PN.mono (h : PN q s N T) (k : ∀ s, N s → N' s) (k' : ∀ x, T x → T' x) : PN q s N' T' := by
  unfold PN at h ⊢
  split
  · rename_i s1 e; rw [e] at h; exact k _ h
  · rename_i s1 e; rw [e] at h; exact k' _ h
  · rename_i h1 h2
    cases e : q s with
    | nx s1 => exact absurd e (h1 s1)
    | rt x => exact absurd e (h2 x)
    | _ => rw [e] at h; exact h
theorem pn_seq (h : PN qa s (fun s1 => PN qb s1 N T) T) : PN (xSeq qa qb) s N T := by
  unfold PN at h
  unfold PN xSeq
  cases e : qa s with
  | nx s1 => rw [e] at h; exact h
  | rt x => rw [e] at h; exact h
  | _ => rw [e] at h; exact False.elim h
theorem pn_nx (e : q s = .nx s') (h : N s') : PN q s N T := by unfold PN; rw [e]; exact h
theorem pn_rt (e : q s = .rt x) (h : T x) : PN q s N T := by unfold PN; rw [e]; exact h
theorem pn_next (h : N s) : PN xNext s N T := h
theorem pn_set {i : Nat} (h : PO (p s) fun x => N (s.set i (some x))) : PN (xSet i p) s N T := by
  obtain ⟨x, e, h⟩ := h.get
  exact pn_nx (by rw [px_set, e]; rfl) h
theorem pn_drop (h : PO (p s) fun x => N s) : PN (xDrop p) s N T := by
  obtain ⟨x, e, h⟩ := h.get
  exact pn_nx (by rw [px_drop, e]; rfl) h
theorem pn_ret (h : PO (p s) T) : PN (xRet p) s N T := by
  obtain ⟨x, e, h⟩ := h.get
  exact pn_rt (by rw [px_ret, e]; rfl) h
theorem pn_asg {f : PG} (h : PO (p s) fun x => ∃ s1, f x s = some s1 ∧ N s1) : PN (xAsg p f) s N T := by
  obtain ⟨x, e, s1, e2, h⟩ := h.get
  exact pn_nx (by unfold xAsg; rw [e, PR.st_ok, e2]) h
theorem pn_par {i j : Nat} {pa pb : PE} (h : PO (pa s) fun x => PO (pb s) fun y => N ((s.set i (some x)).set j (some y))) : PN (xPar i j pa pb) s N T := by
  obtain ⟨x, e, h⟩ := h.get
  obtain ⟨y, e2, h⟩ := h.get
  exact pn_nx (by unfold xPar; rw [e, PR.st_ok, e2, PR.st_ok]) h
theorem pn_if (h : PO (c s) fun d => PB d fun p => (p = true → PN qa s N T) ∧ (p = false → PN qb s N T)) : PN (xIf c qa qb) s N T := by
  obtain ⟨d, e, h⟩ := h.get
  cases d with
  | bl p =>
    have e2 : xIf c qa qb s = if p = true then qa s else qb s := by rw [px_if, e]; rfl
    cases p with
    | true => have := h.1 rfl; unfold PN at this ⊢; rw [e2]; exact this
    | false => have := h.2 rfl; unfold PN at this ⊢; rw [e2]; exact this
  | _ => exact False.elim h
theorem pn_ifT (e : c s = .ok (.bl true)) (h : PN qa s N T) : PN (xIf c qa qb) s N T := pn_if (by rw [e]; exact ⟨fun _ => h, fun z => nomatch z⟩)
theorem pn_ifF (e : c s = .ok (.bl false)) (h : PN qb s N T) : PN (xIf c qa qb) s N T := pn_if (by rw [e]; exact ⟨fun z => (nomatch z), fun _ => h⟩)
theorem pn_ifP (e : c s = .ok (.bl (decide P))) (h : P → PN qa s N T) (h' : ¬ P → PN qb s N T) : PN (xIf c qa qb) s N T := by
  by_cases hp : P
  · exact pn_ifT (by rw [e, decide_eq_true hp]) (h hp)
  · exact pn_ifF (by rw [e, decide_eq_false hp]) (h' hp)
theorem pn_lm {f : List PV → PV → Option (PV × List PV)} {i : Nat} {k : PV → PS → PS} {ys : List PV} (e : s[i]? = some (some (.lst ys))) (h : PO (p s) fun x => ∃ y zs, f ys x = some (y, zs) ∧ N (k y (s.set i (some (.lst zs))))) : PN (xLm f i p k) s N T := by
  obtain ⟨x, e1, y, zs, e2, h⟩ := h.get
  exact pn_nx (by unfold xLm; rw [e]; dsimp only; rw [e1, PR.st_ok, e2]) h
theorem pn_app {i : Nat} {k : PV → PS → PS} {ys : List PV} (e : s[i]? = some (some (.lst ys))) (hl : ys.length < 1000000) (h : PO (p s) fun x => N (k .non (s.set i (some (.lst (ys ++ [x])))))) : PN (xLm fApp i p k) s N T :=
  pn_lm e (h.mono fun x hx => ⟨.non, ys ++ [x], if_pos hl, hx⟩)
theorem pn_lput {i j : Nat} {pi pv : PE} {ys : List PV} (e : s[i]? = some (some (.lst ys))) (h : PO (pv s) fun v => pi s = .ok (.int j) ∧ j < ys.length ∧ N (s.set i (some (.lst (ys.set j v))))) : PN (xLput i pi pv) s N T := by
  obtain ⟨v, e1, e2, e3, h⟩ := h.get
  exact pn_nx (by unfold xLput; rw [e]; dsimp only; rw [e1, PR.st_ok, e2, PR.st_ok]; dsimp only; rw [ixN_nat e3]) h
theorem pn_dput {i : Nat} {pi pv : PE} {ks : List Key} {ys : List PV} (e : s[i]? = some (some (.dic ks ys))) (hl : ks.length < 1000000) (h : PO (pv s) fun v => PO (pi s) fun y => ∃ k, keyX y = some k ∧ N (s.set i (some (putDX ks ys k v)))) : PN (xDput i pi pv) s N T := by
  obtain ⟨v, e1, h⟩ := h.get
  obtain ⟨y, e2, k, e3, h⟩ := h.get
  exact pn_nx (by unfold xDput; rw [e]; dsimp only; rw [e1, PR.st_ok, e2, PR.st_ok, e3]; dsimp only; rw [if_pos (by exact hl)]) h
theorem pn_for {l : List PV} (e : fi s = .ok l) (h : PN (xLoop gt gb l) s N T) : PN (xFor fi gt gb) s N T := by
  unfold PN at h ⊢
  rw [px_for e]
  exact h
theorem PN.pl (h : PN q s N T) : PL q s N B T := by
  unfold PN at h
  unfold PL
  cases e : q s with
  | nx s1 => rw [e] at h; exact h
  | rt x => rw [e] at h; exact h
  | _ => rw [e] at h; exact False.elim h
theorem pl_seq (h : PN qa s (fun s1 => PL qb s1 N B T) T) : PL (xSeq qa qb) s N B T := by
  unfold PN at h
  unfold PL xSeq
  cases e : qa s with
  | nx s1 => rw [e] at h; exact h
  | rt x => rw [e] at h; exact h
  | _ => rw [e] at h; exact False.elim h
theorem pl_cont (h : N s) : PL xCont s N B T := h
theorem pl_break (h : B s) : PL xBreak s N B T := h
/-- if c: continue (or break) ; the rest -/
theorem pl_ifs (e : c s = .ok (.bl (decide P))) (h : P → PL qa s N B T) (hq : ∀ s, (∀ s', qa s ≠ .nx s')) (h' : ¬ P → PL qb s N B T) : PL (xSeq (xIf c qa xNext) qb) s N B T := by
  by_cases hp : P
  · have := h hp
    unfold PL at this ⊢
    have e2 : xIf c qa xNext s = qa s := by rw [px_if, e, decide_eq_true hp]; rfl
    unfold xSeq
    rw [e2]
    cases e3 : qa s with
    | nx s1 => exact absurd e3 (hq s s1)
    | _ => rw [e3] at this; exact this
  · have := h' hp
    unfold PL at this ⊢
    have e2 : xIf c qa xNext s = .nx s := by rw [px_if, e, decide_eq_false hp]; rfl
    unfold xSeq
    rw [e2]
    exact this
theorem pl_if (e : c s = .ok (.bl (decide P))) (h : P → PL qa s N B T) (h' : ¬ P → PL qb s N B T) : PL (xIf c qa qb) s N B T := by
  by_cases hp : P
  · have := h hp
    unfold PL at this ⊢
    have e2 : xIf c qa qb s = qa s := by rw [px_if, e, decide_eq_true hp]; rfl
    rw [e2]; exact this
  · have := h' hp
    unfold PL at this ⊢
    have e2 : xIf c qa qb s = qb s := by rw [px_if, e, decide_eq_false hp]; rfl
    rw [e2]; exact this
theorem pn_nil (h : N s) : PN (xLoop gt gb []) s N T := h
theorem pn_cons {xs : List PV} (e : gt x s = some s') (h : PL gb s' (fun s2 => PN (xLoop gt gb xs) s2 N T) N T) : PN (xLoop gt gb (x :: xs)) s N T := by
  unfold PN
  rw [xloop_cons e]
  unfold PL PN at h
  cases e2 : gb s' with
  | nx s1 => rw [e2] at h; exact h
  | ct s1 => rw [e2] at h; exact h
  | bk s1 => rw [e2] at h; exact h
  | rt y => rw [e2] at h; exact h
  | _ => rw [e2] at h; exact False.elim h
/-- a loop by an invariant that counts its turns -/
theorem pn_loop (I : Nat → PS → Prop) : ∀ (l : List PV) (j : Nat) (s : PS), I j s → (∀ (k : Nat) (x : PV) (s : PS), l[k]? = some x → I (j + k) s → ∃ s1, gt x s = some s1 ∧ PL gb s1 (I (j + k + 1)) N T) → (∀ s, I (j + l.length) s → N s) → PN (xLoop gt gb l) s N T
  | [], j, s, i, _, fin => fin s i
  | x :: l, j, s, i, k, fin => by
    obtain ⟨s1, e, h⟩ := k 0 x s rfl i
    refine pn_cons e ?_
    have mono : ∀ s2, I (j + 1) s2 → PN (xLoop gt gb l) s2 N T := fun s2 i2 => pn_loop I l (j + 1) s2 i2 (fun m y s hy hi => by
      have := k (m + 1) y s (by simpa using hy) (by rw [show j + (m + 1) = j + 1 + m by omega]; exact hi)
      rw [show j + (m + 1) = j + 1 + m by omega] at this
      exact this) fun s hs => fin s (by rw [List.length_cons, show j + (l.length + 1) = j + 1 + l.length by omega]; exact hs)
    unfold PL at h ⊢
    cases e2 : gb s1 with
    | nx s2 => rw [e2] at h; exact mono _ h
    | ct s2 => rw [e2] at h; exact mono _ h
    | bk s2 => rw [e2] at h; exact h
    | rt y => rw [e2] at h; exact h
    | _ => rw [e2] at h; exact False.elim h
theorem pv_run {n : Nat} {l : List PV} {Q : PV → Prop} (h : PN q (l.map some ++ List.replicate (n - l.length) none) (fun _ => Q .non) Q) : PO (pRun n q l) Q := by
  unfold PN at h
  unfold PO
  rw [px_run]
  cases e : q (l.map some ++ List.replicate (n - l.length) none) with
  | nx s1 => rw [e] at h; exact h
  | rt x => rw [e] at h; exact h
  | _ => rw [e] at h; exact False.elim h
theorem pv_runN {n : Nat} {l : List PV} {Q : PV → Prop} (h : PN q (l.map some ++ List.replicate (n - l.length) none) (fun _ => False) Q) : PO (pRunN n q l) Q := by
  unfold PN at h
  unfold PO
  rw [px_runN]
  cases e : q (l.map some ++ List.replicate (n - l.length) none) with
  | nx s1 => rw [e] at h; exact False.elim h
  | rt x => rw [e] at h; exact h
  | _ => rw [e] at h; exact False.elim h
end
end Sh

set_option Elab.async false
set_option linter.all false
set_option maxRecDepth 100000
set_option maxHeartbeats 4000000
/-! the helpers that most laws share -/
namespace Sh
open PySem L2 PyProof.Rows
def Q_mixed : PX := (xSeq (xSet 2 (pBin xMod (pArgs yInt [(pBin xMul (pBin xAdd (pBin xAdd (pVar 0) (pBin xMul (pC (.int 7919)) (pVar 1))) (pC (.int 1))) (pC (.int 48271)))]) (pC (.int 2147483647))))
    (xSeq (xSet 2 (pBin xMod (pArgs yInt [(pBin xMul (pVar 2) (pBin xAdd (pBin xDiv (pVar 2) (pC (.int 1009))) (pC (.int 69621))))]) (pC (.int 2147483647))))
    (xRet (pBin xMod (pArgs yInt [(pBin xMul (pVar 2) (pBin xAdd (pBin xDiv (pVar 2) (pC (.int 2003))) (pC (.int 40692))))]) (pC (.int 2147483399))))))
def V_mixed : PF := pRun 3 Q_mixed
def Q_cell : PX := (xSeq (xIf (pBin (xCmp fun i j => decide (i < j)) (pVar 1) (pArgs yLen [(pVar 0)])) (xRet (pArgs yInt [(pBin xIx (pVar 0) (pVar 1))])) xNext)
    (xSeq (xSet 2 (pC (.int 0)))
    (xSeq (xIf (pBin (xCmp fun i j => decide (j < i)) (pArgs yLen [(pVar 0)]) (pC (.int 0))) (xSet 2 (pArgs yInt [(pBin xIx (pVar 0) (pC (.int 0)))])) xNext)
    (xRet (pBin xMod (pArgs yInt [(pBin xMul (pBin xAdd (pVar 2) (pBin xMul (pC (.int 7919)) (pVar 1))) (pC (.int 48271)))]) (pC (.int 2147483647)))))))
def V_cell : PF := pRun 3 Q_cell
def Q_digits : PX := (xSeq (xSet 2 (pLst []))
    (xSeq (xIf (pBin (xCmp fun i j => decide (j ≤ i)) (pVar 0) (pBin xPow (pC (.int 10)) (pC (.int 18)))) (xSeq (xFor (pSeq (pVar 1)) (xName 3) (xSeq (xLm fApp 2 (pBin xMod (pArgs yInt [(pVar 0)]) (pVar 3)) fun _ s => s)
    (xSet 0 (pBin xDiv (pVar 0) (pVar 3)))))
    (xRet (pVar 2))) xNext)
    (xSeq (xFor (pRg [(pArgs yLen [(pVar 1)])]) (xName 4) (xLm fApp 2 (pBin xMod (pArgs yInt [(pBin xDiv (pArgs V_mixed [(pVar 0), (pVar 4)]) (pC (.int 16)))]) (pBin xIx (pVar 1) (pVar 4))) fun _ s => s))
    (xRet (pVar 2)))))
def V_digits : PF := pRunN 5 Q_digits
def mixI (c k : Int) : Int :=
  let a := (c + 7919 * k + 1) * 48271 % 2147483647
  let b := a * (a / 1009 + 69621) % 2147483647
  b * (b / 2003 + 40692) % 2147483399
theorem V_mixed_ok (c k : Int) : V_mixed [.int c, .int k] = .ok (.int (mixI c k)) := by
  have b1 : 0 ≤ (c + 7919 * k + 1) * 48271 % 2147483647 ∧ (c + 7919 * k + 1) * 48271 % 2147483647 < 2147483647 := ⟨Int.emod_nonneg _ (by decide), Int.emod_lt_of_pos _ (by decide)⟩
  unfold V_mixed mixI
  rw [px_run]
  show (Q_mixed [some (.int c), some (.int k), none]).out = _
  unfold Q_mixed
  simp -implicitDefEqProofs only [po_ok, pb_bl, px_seq, px_next, px_set, px_ret, px_drop, px_if, px_var, px_c, px_bin, px_and, px_or, px_not, px_eif, px_chain, px_args, px_nil, px_cons, px_tup, px_lst, px_isi, px_tru, px_sl, px_part0, px_part1, px_raise, px_raiseF, plp_nx, plp_ct, plp_bk, plp_rt, plp_exc, pseq_nx, pseq_rt, pseq_exc, pseq_bad, tq_bl, tq_exc, pts_bl, pts_exc, ofP_some, ti_int, PR.bind_ok, PR.bind_exc, PR.st_ok, PR.st_exc, pout_nx, pout_rt, pout_exc, poutN_rt, poutN_exc, List.getElem?_cons_zero, List.getElem?_cons_succ, List.set_cons_zero, List.set_cons_succ, xOf_some, v_add, v_sub, v_cmp, v_int, v_len_t, v_len_l, v_len_s, v_list_t, v_list_l, v_list_s, v_tuple_t, v_tuple_l, v_eqI, v_eqS, v_neI, v_neS, v_pow18, v_pow25, decide_eq_true_eq, Bool.not_eq_true', decide_eq_false_iff_not, if_true, if_false, Bool.false_eq_true, v_mulL (i := 7919) (by decide) (by decide), v_mulR (j := 48271) (by decide) (by decide), v_modP (j := 2147483647) (by decide)]
  generalize (c + 7919 * k + 1) * 48271 % 2147483647 = a at b1
  simp -implicitDefEqProofs only [po_ok, pb_bl, px_seq, px_next, px_set, px_ret, px_drop, px_if, px_var, px_c, px_bin, px_and, px_or, px_not, px_eif, px_chain, px_args, px_nil, px_cons, px_tup, px_lst, px_isi, px_tru, px_sl, px_part0, px_part1, px_raise, px_raiseF, plp_nx, plp_ct, plp_bk, plp_rt, plp_exc, pseq_nx, pseq_rt, pseq_exc, pseq_bad, tq_bl, tq_exc, pts_bl, pts_exc, ofP_some, ti_int, PR.bind_ok, PR.bind_exc, PR.st_ok, PR.st_exc, pout_nx, pout_rt, pout_exc, poutN_rt, poutN_exc, List.getElem?_cons_zero, List.getElem?_cons_succ, List.set_cons_zero, List.set_cons_succ, xOf_some, v_add, v_sub, v_cmp, v_int, v_len_t, v_len_l, v_len_s, v_list_t, v_list_l, v_list_s, v_tuple_t, v_tuple_l, v_eqI, v_eqS, v_neI, v_neS, v_pow18, v_pow25, decide_eq_true_eq, Bool.not_eq_true', decide_eq_false_iff_not, if_true, if_false, Bool.false_eq_true, v_divP (j := 1009) (by decide) (by decide), v_mulL (i := a) (by omega) (by omega), v_modP (j := 2147483647) (by decide)]
  have b2 : 0 ≤ a * (a / 1009 + 69621) % 2147483647 ∧ a * (a / 1009 + 69621) % 2147483647 < 2147483647 := ⟨Int.emod_nonneg _ (by decide), Int.emod_lt_of_pos _ (by decide)⟩
  generalize a * (a / 1009 + 69621) % 2147483647 = b at b2
  simp -implicitDefEqProofs only [po_ok, pb_bl, px_seq, px_next, px_set, px_ret, px_drop, px_if, px_var, px_c, px_bin, px_and, px_or, px_not, px_eif, px_chain, px_args, px_nil, px_cons, px_tup, px_lst, px_isi, px_tru, px_sl, px_part0, px_part1, px_raise, px_raiseF, plp_nx, plp_ct, plp_bk, plp_rt, plp_exc, pseq_nx, pseq_rt, pseq_exc, pseq_bad, tq_bl, tq_exc, pts_bl, pts_exc, ofP_some, ti_int, PR.bind_ok, PR.bind_exc, PR.st_ok, PR.st_exc, pout_nx, pout_rt, pout_exc, poutN_rt, poutN_exc, List.getElem?_cons_zero, List.getElem?_cons_succ, List.set_cons_zero, List.set_cons_succ, xOf_some, v_add, v_sub, v_cmp, v_int, v_len_t, v_len_l, v_len_s, v_list_t, v_list_l, v_list_s, v_tuple_t, v_tuple_l, v_eqI, v_eqS, v_neI, v_neS, v_pow18, v_pow25, decide_eq_true_eq, Bool.not_eq_true', decide_eq_false_iff_not, if_true, if_false, Bool.false_eq_true, v_divP (j := 2003) (by decide) (by decide), v_mulL (i := b) (by omega) (by omega), v_modP (j := 2147483399) (by decide)]
theorem mixI_pos (c k : Int) : 0 ≤ mixI c k ∧ mixI c k < 2147483399 := ⟨Int.emod_nonneg _ (by decide), Int.emod_lt_of_pos _ (by decide)⟩
/-- a cell of the script, whatever the script -/
def cellI (ns : List Int) (k : Nat) : Int := if k < ns.length then ns.getD k 0 else (ns.getD 0 0 + 7919 * k) * 48271 % 2147483647
theorem V_cell_ok (ns : List Int) (k : Nat) : V_cell [.scr (ns.map PV.int), .int k] = .ok (.int (cellI ns k)) := by
  unfold V_cell cellI
  rw [px_run]
  show (Q_cell [some (.scr (ns.map PV.int)), some (.int k), none]).out = _
  unfold Q_cell
  have gt : ∀ j : Nat, j < ns.length → xIx (.scr (ns.map PV.int)) (.int j) = .ok (.int (ns.getD j 0)) := fun j hj => v_ixS (by
    rw [List.getElem?_map, List.getElem?_eq_getElem hj, List.getD_eq_getElem?_getD, List.getElem?_eq_getElem hj]
    rfl)
  by_cases hk : k < ns.length
  · simp -implicitDefEqProofs only [po_ok, pb_bl, px_seq, px_next, px_set, px_ret, px_drop, px_if, px_var, px_c, px_bin, px_and, px_or, px_not, px_eif, px_chain, px_args, px_nil, px_cons, px_tup, px_lst, px_isi, px_tru, px_sl, px_part0, px_part1, px_raise, px_raiseF, plp_nx, plp_ct, plp_bk, plp_rt, plp_exc, pseq_nx, pseq_rt, pseq_exc, pseq_bad, tq_bl, tq_exc, pts_bl, pts_exc, ofP_some, ti_int, PR.bind_ok, PR.bind_exc, PR.st_ok, PR.st_exc, pout_nx, pout_rt, pout_exc, poutN_rt, poutN_exc, List.getElem?_cons_zero, List.getElem?_cons_succ, List.set_cons_zero, List.set_cons_succ, xOf_some, v_add, v_sub, v_cmp, v_int, v_len_t, v_len_l, v_len_s, v_list_t, v_list_l, v_list_s, v_tuple_t, v_tuple_l, v_eqI, v_eqS, v_neI, v_neS, v_pow18, v_pow25, decide_eq_true_eq, Bool.not_eq_true', decide_eq_false_iff_not, if_true, if_false, Bool.false_eq_true, List.length_map, gt k hk, Int.ofNat_lt, hk, decide_true, pseq_ite, pout_ite]
  · by_cases h0 : 0 < ns.length
    · have g0 : xIx (.scr (ns.map PV.int)) (.int 0) = .ok (.int (ns.getD 0 0)) := gt 0 h0
      have h0' : (0 : Int) < (ns.length : Int) := by omega
      simp -implicitDefEqProofs only [po_ok, pb_bl, px_seq, px_next, px_set, px_ret, px_drop, px_if, px_var, px_c, px_bin, px_and, px_or, px_not, px_eif, px_chain, px_args, px_nil, px_cons, px_tup, px_lst, px_isi, px_tru, px_sl, px_part0, px_part1, px_raise, px_raiseF, plp_nx, plp_ct, plp_bk, plp_rt, plp_exc, pseq_nx, pseq_rt, pseq_exc, pseq_bad, tq_bl, tq_exc, pts_bl, pts_exc, ofP_some, ti_int, PR.bind_ok, PR.bind_exc, PR.st_ok, PR.st_exc, pout_nx, pout_rt, pout_exc, poutN_rt, poutN_exc, List.getElem?_cons_zero, List.getElem?_cons_succ, List.set_cons_zero, List.set_cons_succ, xOf_some, v_add, v_sub, v_cmp, v_int, v_len_t, v_len_l, v_len_s, v_list_t, v_list_l, v_list_s, v_tuple_t, v_tuple_l, v_eqI, v_eqS, v_neI, v_neS, v_pow18, v_pow25, decide_eq_true_eq, Bool.not_eq_true', decide_eq_false_iff_not, if_true, if_false, Bool.false_eq_true, List.length_map, Int.ofNat_lt, hk, decide_false, g0, h0', decide_true, v_mulL (i := 7919) (by decide) (by decide), v_mulR (j := 48271) (by decide) (by decide), v_modP (j := 2147483647) (by decide)]
    · have h0' : ¬ (0 : Int) < (ns.length : Int) := by omega
      have e : ns.getD 0 0 = 0 := by
        rw [List.getD_eq_getElem?_getD, List.getElem?_eq_none (by omega)]
        rfl
      simp -implicitDefEqProofs only [po_ok, pb_bl, px_seq, px_next, px_set, px_ret, px_drop, px_if, px_var, px_c, px_bin, px_and, px_or, px_not, px_eif, px_chain, px_args, px_nil, px_cons, px_tup, px_lst, px_isi, px_tru, px_sl, px_part0, px_part1, px_raise, px_raiseF, plp_nx, plp_ct, plp_bk, plp_rt, plp_exc, pseq_nx, pseq_rt, pseq_exc, pseq_bad, tq_bl, tq_exc, pts_bl, pts_exc, ofP_some, ti_int, PR.bind_ok, PR.bind_exc, PR.st_ok, PR.st_exc, pout_nx, pout_rt, pout_exc, poutN_rt, poutN_exc, List.getElem?_cons_zero, List.getElem?_cons_succ, List.set_cons_zero, List.set_cons_succ, xOf_some, v_add, v_sub, v_cmp, v_int, v_len_t, v_len_l, v_len_s, v_list_t, v_list_l, v_list_s, v_tuple_t, v_tuple_l, v_eqI, v_eqS, v_neI, v_neS, v_pow18, v_pow25, decide_eq_true_eq, Bool.not_eq_true', decide_eq_false_iff_not, if_true, if_false, Bool.false_eq_true, List.length_map, Int.ofNat_lt, hk, decide_false, h0', v_mulL (i := 7919) (by decide) (by decide), v_mulR (j := 48271) (by decide) (by decide), v_modP (j := 2147483647) (by decide), e]
def digB : Int → List Int → List Int
  | _, [] => []
  | c, z :: zs => c % z :: digB (c / z) zs
def digS (c : Int) : Nat → List Int → List Int
  | _, [] => []
  | k, z :: zs => mixI c k / 16 % z :: digS c (k + 1) zs
def digs (c : Int) (zs : List Int) : List Int := if 1000000000000000000 ≤ c then digB c zs else digS c 0 zs
def DigOk : List Int → List Int → Prop
  | [], [] => True
  | d :: ds, z :: zs => (0 ≤ d ∧ d < z) ∧ DigOk ds zs
  | _, _ => False
theorem digB_ok : ∀ {zs : List Int} {c : Int}, (∀ z ∈ zs, 0 < z ∧ z < 1000000) → DigOk (digB c zs) zs
  | [], _, _ => trivial
  | z :: zs, c, h => by
    have := h z List.mem_cons_self
    exact ⟨⟨Int.emod_nonneg _ (by omega), Int.emod_lt_of_pos _ this.1⟩, digB_ok fun y hy => h y (List.mem_cons_of_mem _ hy)⟩
theorem digS_ok : ∀ {zs : List Int} {c : Int} {k : Nat}, (∀ z ∈ zs, 0 < z ∧ z < 1000000) → DigOk (digS c k zs) zs
  | [], _, _, _ => trivial
  | z :: zs, c, k, h => by
    have := h z List.mem_cons_self
    exact ⟨⟨Int.emod_nonneg _ (by omega), Int.emod_lt_of_pos _ this.1⟩, digS_ok fun y hy => h y (List.mem_cons_of_mem _ hy)⟩
theorem digs_ok {c : Int} {zs : List Int} (h : ∀ z ∈ zs, 0 < z ∧ z < 1000000) : DigOk (digs c zs) zs := by
  unfold digs
  split
  · exact digB_ok h
  · exact digS_ok h
theorem DigOk.length : ∀ {ds zs : List Int}, DigOk ds zs → ds.length = zs.length
  | [], [], _ => rfl
  | _ :: _, _ :: _, h => by rw [List.length_cons, List.length_cons, DigOk.length h.2]
theorem DigOk.at : ∀ {ds zs : List Int}, DigOk ds zs → ∀ {k : Nat} {z : Int}, zs[k]? = some z → ∃ d, ds[k]? = some d ∧ 0 ≤ d ∧ d < z
  | [], [], _, k, _, e => by simp at e
  | _ :: _, _ :: _, h, 0, _, e => by
    cases e
    exact ⟨_, rfl, h.1⟩
  | _ :: _, _ :: _, h, k + 1, _, e => DigOk.at h.2 (k := k) (by simpa using e)
theorem fApp_ok {ys : List PV} {x : PV} (h : ys.length < 1000000) : fApp ys x = some (.non, ys ++ [x]) := if_pos h
theorem px_lm {f : List PV → PV → Option (PV × List PV)} {i : Nat} {p : PE} {k : PV → PS → PS} {s : PS} {ys zs : List PV} {x y : PV} (e : s[i]? = some (some (.lst ys))) (ep : p s = .ok x) (ef : f ys x = some (y, zs)) : xLm f i p k s = .nx (k y (s.set i (some (.lst zs)))) := by
  unfold xLm
  rw [e]
  dsimp only
  rw [ep, PR.st_ok, ef]
theorem digB_loop {v1 v4 : Option PV} : ∀ (zs : List Int) (c : Int) (acc : List Int) (v3 : Option PV), (∀ z ∈ zs, 0 < z ∧ z < 1000000) → acc.length + zs.length < 1000 → ∃ c' v3', xLoop (xName 3) (xSeq (xLm fApp 2 (pBin xMod (pArgs yInt [(pVar 0)]) (pVar 3)) fun _ s => s) (xSet 0 (pBin xDiv (pVar 0) (pVar 3)))) (zs.map PV.int) [some (.int c), v1, some (.lst (acc.map PV.int)), v3, v4] = .nx [some (.int c'), v1, some (.lst ((acc ++ digB c zs).map PV.int)), v3', v4]
  | [], c, acc, v3, _, _ => ⟨c, v3, by simp [xLoop, digB]⟩
  | z :: zs, c, acc, v3, hz, hl => by
    have z0 := hz z List.mem_cons_self
    simp only [List.length_cons] at hl
    obtain ⟨c', v3', ih⟩ := digB_loop zs (c / z) (acc ++ [c % z]) (some (.int z)) (fun y hy => hz y (List.mem_cons_of_mem _ hy)) (by simp; omega)
    refine ⟨c', v3', ?_⟩
    rw [List.map_cons]
    rw [xloop_name]
    simp only [List.set_cons_succ, List.set_cons_zero]
    rw [px_seq, px_lm (x := .int (c % z)) rfl (by simp -implicitDefEqProofs only [po_ok, pb_bl, px_seq, px_next, px_set, px_ret, px_drop, px_if, px_var, px_c, px_bin, px_and, px_or, px_not, px_eif, px_chain, px_args, px_nil, px_cons, px_tup, px_lst, px_isi, px_tru, px_sl, px_part0, px_part1, px_raise, px_raiseF, plp_nx, plp_ct, plp_bk, plp_rt, plp_exc, pseq_nx, pseq_rt, pseq_exc, pseq_bad, tq_bl, tq_exc, pts_bl, pts_exc, ofP_some, ti_int, PR.bind_ok, PR.bind_exc, PR.st_ok, PR.st_exc, pout_nx, pout_rt, pout_exc, poutN_rt, poutN_exc, List.getElem?_cons_zero, List.getElem?_cons_succ, List.set_cons_zero, List.set_cons_succ, xOf_some, v_add, v_sub, v_cmp, v_int, v_len_t, v_len_l, v_len_s, v_list_t, v_list_l, v_list_s, v_tuple_t, v_tuple_l, v_eqI, v_eqS, v_neI, v_neS, v_pow18, v_pow25, decide_eq_true_eq, Bool.not_eq_true', decide_eq_false_iff_not, if_true, if_false, Bool.false_eq_true, v_modP z0.1]) (fApp_ok (by simp; omega)), pseq_nx]
    simp -implicitDefEqProofs only [po_ok, pb_bl, px_seq, px_next, px_set, px_ret, px_drop, px_if, px_var, px_c, px_bin, px_and, px_or, px_not, px_eif, px_chain, px_args, px_nil, px_cons, px_tup, px_lst, px_isi, px_tru, px_sl, px_part0, px_part1, px_raise, px_raiseF, plp_nx, plp_ct, plp_bk, plp_rt, plp_exc, pseq_nx, pseq_rt, pseq_exc, pseq_bad, tq_bl, tq_exc, pts_bl, pts_exc, ofP_some, ti_int, PR.bind_ok, PR.bind_exc, PR.st_ok, PR.st_exc, pout_nx, pout_rt, pout_exc, poutN_rt, poutN_exc, List.getElem?_cons_zero, List.getElem?_cons_succ, List.set_cons_zero, List.set_cons_succ, xOf_some, v_add, v_sub, v_cmp, v_int, v_len_t, v_len_l, v_len_s, v_list_t, v_list_l, v_list_s, v_tuple_t, v_tuple_l, v_eqI, v_eqS, v_neI, v_neS, v_pow18, v_pow25, decide_eq_true_eq, Bool.not_eq_true', decide_eq_false_iff_not, if_true, if_false, Bool.false_eq_true, v_divP z0.1 (show z < 18446744073709551616 by omega)]
    rw [show acc.map PV.int ++ [PV.int (c % z)] = (acc ++ [c % z]).map PV.int by simp, ih]
    simp [digB]
theorem digS_loop {v3 : Option PV} (c : Int) (all : List Int) : ∀ (zs pre acc : List Int) (v4 : Option PV), all = pre ++ zs → (∀ z ∈ zs, 0 < z ∧ z < 1000000) → acc.length + zs.length < 1000 → ∃ v4', xLoop (xName 4) (xLm fApp 2 (pBin xMod (pArgs yInt [(pBin xDiv (pArgs V_mixed [(pVar 0), (pVar 4)]) (pC (.int 16)))]) (pBin xIx (pVar 1) (pVar 4))) fun _ s => s) ((List.range' pre.length zs.length).map fun k => PV.int (k : Nat)) [some (.int c), some (.lst (all.map PV.int)), some (.lst (acc.map PV.int)), v3, v4] = .nx [some (.int c), some (.lst (all.map PV.int)), some (.lst ((acc ++ digS c pre.length zs).map PV.int)), v3, v4']
  | [], pre, acc, v4, _, _, _ => ⟨v4, by simp [xLoop, digS]⟩
  | z :: zs, pre, acc, v4, ha, hz, hl => by
    have z0 := hz z List.mem_cons_self
    simp only [List.length_cons] at hl
    obtain ⟨v4', ih⟩ := digS_loop (v3 := v3) c all zs (pre ++ [z]) (acc ++ [mixI c pre.length / 16 % z]) (some (.int pre.length)) (by rw [ha]; simp) (fun y hy => hz y (List.mem_cons_of_mem _ hy)) (by simp; omega)
    refine ⟨v4', ?_⟩
    have ex : (all.map PV.int)[pre.length]? = some (.int z) := by rw [ha]; simp
    rw [List.length_cons, List.range'_succ, List.map_cons]
    rw [xloop_name]
    simp only [List.set_cons_succ, List.set_cons_zero]
    rw [px_lm (x := .int (mixI c pre.length / 16 % z)) rfl (by simp -implicitDefEqProofs only [po_ok, pb_bl, px_seq, px_next, px_set, px_ret, px_drop, px_if, px_var, px_c, px_bin, px_and, px_or, px_not, px_eif, px_chain, px_args, px_nil, px_cons, px_tup, px_lst, px_isi, px_tru, px_sl, px_part0, px_part1, px_raise, px_raiseF, plp_nx, plp_ct, plp_bk, plp_rt, plp_exc, pseq_nx, pseq_rt, pseq_exc, pseq_bad, tq_bl, tq_exc, pts_bl, pts_exc, ofP_some, ti_int, PR.bind_ok, PR.bind_exc, PR.st_ok, PR.st_exc, pout_nx, pout_rt, pout_exc, poutN_rt, poutN_exc, List.getElem?_cons_zero, List.getElem?_cons_succ, List.set_cons_zero, List.set_cons_succ, xOf_some, v_add, v_sub, v_cmp, v_int, v_len_t, v_len_l, v_len_s, v_list_t, v_list_l, v_list_s, v_tuple_t, v_tuple_l, v_eqI, v_eqS, v_neI, v_neS, v_pow18, v_pow25, decide_eq_true_eq, Bool.not_eq_true', decide_eq_false_iff_not, if_true, if_false, Bool.false_eq_true, V_mixed_ok, v_divP (j := 16) (by decide) (by decide), v_ixL ex, v_modP z0.1]) (fApp_ok (by simp; omega)), plp_nx]
    simp only [List.set_cons_succ, List.set_cons_zero]
    have e4 : pre.length + 1 = (pre ++ [z]).length := by simp
    rw [show acc.map PV.int ++ [PV.int (mixI c pre.length / 16 % z)] = (acc ++ [mixI c pre.length / 16 % z]).map PV.int by simp, e4, ih]
    simp [digS]
theorem V_digits_ok (c : Int) {zs : List Int} (hz : ∀ z ∈ zs, 0 < z ∧ z < 1000000) (hl : zs.length < 500) : V_digits [.int c, .lst (zs.map PV.int)] = .ok (.lst ((digs c zs).map PV.int)) := by
  unfold V_digits digs
  rw [px_runN]
  show (Q_digits [some (.int c), some (.lst (zs.map PV.int)), none, none, none]).outN = _
  unfold Q_digits
  by_cases hc : 1000000000000000000 ≤ c
  · obtain ⟨c', v3', e⟩ := digB_loop (v1 := some (.lst (zs.map PV.int))) (v4 := none) zs c [] none hz (by simp; omega)
    rw [List.map_nil, List.nil_append] at e
    rw [if_pos hc]
    simp -implicitDefEqProofs only [po_ok, pb_bl, px_seq, px_next, px_set, px_ret, px_drop, px_if, px_var, px_c, px_bin, px_and, px_or, px_not, px_eif, px_chain, px_args, px_nil, px_cons, px_tup, px_lst, px_isi, px_tru, px_sl, px_part0, px_part1, px_raise, px_raiseF, plp_nx, plp_ct, plp_bk, plp_rt, plp_exc, pseq_nx, pseq_rt, pseq_exc, pseq_bad, tq_bl, tq_exc, pts_bl, pts_exc, ofP_some, ti_int, PR.bind_ok, PR.bind_exc, PR.st_ok, PR.st_exc, pout_nx, pout_rt, pout_exc, poutN_rt, poutN_exc, List.getElem?_cons_zero, List.getElem?_cons_succ, List.set_cons_zero, List.set_cons_succ, xOf_some, v_add, v_sub, v_cmp, v_int, v_len_t, v_len_l, v_len_s, v_list_t, v_list_l, v_list_s, v_tuple_t, v_tuple_l, v_eqI, v_eqS, v_neI, v_neS, v_pow18, v_pow25, decide_eq_true_eq, Bool.not_eq_true', decide_eq_false_iff_not, if_true, if_false, Bool.false_eq_true, decide_eq_true hc]
    rw [px_for (seq_ok (x := .lst (zs.map PV.int)) (l := zs.map PV.int) rfl rfl), e]
    simp -implicitDefEqProofs only [po_ok, pb_bl, px_seq, px_next, px_set, px_ret, px_drop, px_if, px_var, px_c, px_bin, px_and, px_or, px_not, px_eif, px_chain, px_args, px_nil, px_cons, px_tup, px_lst, px_isi, px_tru, px_sl, px_part0, px_part1, px_raise, px_raiseF, plp_nx, plp_ct, plp_bk, plp_rt, plp_exc, pseq_nx, pseq_rt, pseq_exc, pseq_bad, tq_bl, tq_exc, pts_bl, pts_exc, ofP_some, ti_int, PR.bind_ok, PR.bind_exc, PR.st_ok, PR.st_exc, pout_nx, pout_rt, pout_exc, poutN_rt, poutN_exc, List.getElem?_cons_zero, List.getElem?_cons_succ, List.set_cons_zero, List.set_cons_succ, xOf_some, v_add, v_sub, v_cmp, v_int, v_len_t, v_len_l, v_len_s, v_list_t, v_list_l, v_list_s, v_tuple_t, v_tuple_l, v_eqI, v_eqS, v_neI, v_neS, v_pow18, v_pow25, decide_eq_true_eq, Bool.not_eq_true', decide_eq_false_iff_not, if_true, if_false, Bool.false_eq_true]
  · obtain ⟨v4', e⟩ := digS_loop (v3 := none) c zs zs [] [] none rfl hz (by simp; omega)
    rw [List.map_nil, List.nil_append, List.length_nil] at e
    rw [if_neg hc]
    simp -implicitDefEqProofs only [po_ok, pb_bl, px_seq, px_next, px_set, px_ret, px_drop, px_if, px_var, px_c, px_bin, px_and, px_or, px_not, px_eif, px_chain, px_args, px_nil, px_cons, px_tup, px_lst, px_isi, px_tru, px_sl, px_part0, px_part1, px_raise, px_raiseF, plp_nx, plp_ct, plp_bk, plp_rt, plp_exc, pseq_nx, pseq_rt, pseq_exc, pseq_bad, tq_bl, tq_exc, pts_bl, pts_exc, ofP_some, ti_int, PR.bind_ok, PR.bind_exc, PR.st_ok, PR.st_exc, pout_nx, pout_rt, pout_exc, poutN_rt, poutN_exc, List.getElem?_cons_zero, List.getElem?_cons_succ, List.set_cons_zero, List.set_cons_succ, xOf_some, v_add, v_sub, v_cmp, v_int, v_len_t, v_len_l, v_len_s, v_list_t, v_list_l, v_list_s, v_tuple_t, v_tuple_l, v_eqI, v_eqS, v_neI, v_neS, v_pow18, v_pow25, decide_eq_true_eq, Bool.not_eq_true', decide_eq_false_iff_not, if_true, if_false, Bool.false_eq_true, decide_eq_false hc]
    rw [px_for (prg_ok (n := zs.length) (by simp -implicitDefEqProofs only [po_ok, pb_bl, px_seq, px_next, px_set, px_ret, px_drop, px_if, px_var, px_c, px_bin, px_and, px_or, px_not, px_eif, px_chain, px_args, px_nil, px_cons, px_tup, px_lst, px_isi, px_tru, px_sl, px_part0, px_part1, px_raise, px_raiseF, plp_nx, plp_ct, plp_bk, plp_rt, plp_exc, pseq_nx, pseq_rt, pseq_exc, pseq_bad, tq_bl, tq_exc, pts_bl, pts_exc, ofP_some, ti_int, PR.bind_ok, PR.bind_exc, PR.st_ok, PR.st_exc, pout_nx, pout_rt, pout_exc, poutN_rt, poutN_exc, List.getElem?_cons_zero, List.getElem?_cons_succ, List.set_cons_zero, List.set_cons_succ, xOf_some, v_add, v_sub, v_cmp, v_int, v_len_t, v_len_l, v_len_s, v_list_t, v_list_l, v_list_s, v_tuple_t, v_tuple_l, v_eqI, v_eqS, v_neI, v_neS, v_pow18, v_pow25, decide_eq_true_eq, Bool.not_eq_true', decide_eq_false_iff_not, if_true, if_false, Bool.false_eq_true, List.length_map]) (by omega)), List.range_eq_range', e]
    simp -implicitDefEqProofs only [po_ok, pb_bl, px_seq, px_next, px_set, px_ret, px_drop, px_if, px_var, px_c, px_bin, px_and, px_or, px_not, px_eif, px_chain, px_args, px_nil, px_cons, px_tup, px_lst, px_isi, px_tru, px_sl, px_part0, px_part1, px_raise, px_raiseF, plp_nx, plp_ct, plp_bk, plp_rt, plp_exc, pseq_nx, pseq_rt, pseq_exc, pseq_bad, tq_bl, tq_exc, pts_bl, pts_exc, ofP_some, ti_int, PR.bind_ok, PR.bind_exc, PR.st_ok, PR.st_exc, pout_nx, pout_rt, pout_exc, poutN_rt, poutN_exc, List.getElem?_cons_zero, List.getElem?_cons_succ, List.set_cons_zero, List.set_cons_succ, xOf_some, v_add, v_sub, v_cmp, v_int, v_len_t, v_len_l, v_len_s, v_list_t, v_list_l, v_list_s, v_tuple_t, v_tuple_l, v_eqI, v_eqS, v_neI, v_neS, v_pow18, v_pow25, decide_eq_true_eq, Bool.not_eq_true', decide_eq_false_iff_not, if_true, if_false, Bool.false_eq_true]
end Sh

set_option Elab.async false
set_option linter.all false
set_option maxRecDepth 100000
set_option maxHeartbeats 4000000
/-! values are told apart; == over plain values -/
namespace Sh
open PySem L2 PyProof.Rows
mutual
def PV.beq : PV → PV → Bool
  | .non, .non => true
  | .bl a, .bl b => a == b
  | .int a, .int b => a == b
  | .str a, .str b => a == b
  | .tup a, .tup b => PV.beqL a b
  | .lst a, .lst b => PV.beqL a b
  | .scr a, .scr b => PV.beqL a b
  | .obj c n a, .obj d m b => c == d && n == m && PV.beqL a b
  | .dic n a, .dic m b => decide (n = m) && PV.beqL a b
  | _, _ => false
def PV.beqL : List PV → List PV → Bool
  | [], [] => true
  | a :: l, b :: r => PV.beq a b && PV.beqL l r
  | _, _ => false
end
mutual
theorem PV.beq_eq : ∀ a b : PV, PV.beq a b = true → a = b
  | .non, b, h => by cases b <;> simp [PV.beq] at h ⊢
  | .bl a, b, h => by cases b <;> simp [PV.beq] at h ⊢; exact h
  | .int a, b, h => by cases b <;> simp [PV.beq] at h ⊢; exact h
  | .str a, b, h => by cases b <;> simp [PV.beq] at h ⊢; exact h
  | .tup a, b, h => by
    cases b <;> simp [PV.beq] at h ⊢
    exact PV.beqL_eq a _ h
  | .lst a, b, h => by
    cases b <;> simp [PV.beq] at h ⊢
    exact PV.beqL_eq a _ h
  | .scr a, b, h => by
    cases b <;> simp [PV.beq] at h ⊢
    exact PV.beqL_eq a _ h
  | .obj c n a, b, h => by
    cases b <;> simp [PV.beq] at h ⊢
    exact ⟨h.1.1, h.1.2, PV.beqL_eq a _ h.2⟩
  | .dic n a, b, h => by
    cases b <;> simp [PV.beq] at h ⊢
    exact ⟨h.1, PV.beqL_eq a _ h.2⟩
theorem PV.beqL_eq : ∀ a b : List PV, PV.beqL a b = true → a = b
  | [], b, h => by cases b <;> simp [PV.beqL] at h ⊢
  | a :: l, b, h => by
    cases b with
    | nil => simp [PV.beqL] at h
    | cons b r =>
      simp only [PV.beqL, Bool.and_eq_true] at h
      rw [PV.beq_eq a b h.1, PV.beqL_eq l r h.2]
end
mutual
theorem PV.beq_self : ∀ a : PV, PV.beq a a = true
  | .non => rfl
  | .bl a => by simp [PV.beq]
  | .int a => by simp [PV.beq]
  | .str a => by simp [PV.beq]
  | .tup a => by simp only [PV.beq]; exact PV.beqL_self a
  | .lst a => by simp only [PV.beq]; exact PV.beqL_self a
  | .scr a => by simp only [PV.beq]; exact PV.beqL_self a
  | .obj c n a => by simp only [PV.beq, PV.beqL_self a]; simp
  | .dic n a => by simp only [PV.beq, PV.beqL_self a]; simp
theorem PV.beqL_self : ∀ a : List PV, PV.beqL a a = true
  | [] => rfl
  | a :: l => by rw [PV.beqL, PV.beq_self a, PV.beqL_self l]; rfl
end
instance : DecidableEq PV := fun a b => decidable_of_iff _ ⟨PV.beq_eq a b, fun h => h ▸ PV.beq_self a⟩
/-- no flags, no objects, no dicts; at most so deep -/
def okE : Nat → PV → Bool
  | _, .non => true
  | _, .int _ => true
  | _, .str s => PyData.strOk s
  | n + 1, .tup xs => xs.all (okE n)
  | n + 1, .lst xs => xs.all (okE n)
  | _, _ => false
theorem okE_py : ∀ (n : Nat) (x : PV), okE n x = true → ∃ p, toPx n x = some p ∧ PyData.canLay0 p = true ∧ PyData.depth p ≤ n
  | 0, x, h => by
    cases x <;> simp [okE] at h <;> simp [toPx, PyData.canLay0, PyData.depth, h]
  | n + 1, x, h => by
    have key : ∀ xs : List PV, xs.all (okE n) = true → ∃ ps, mapX (toPx n) xs = some ps ∧ PyData.canLayAll0 ps = true ∧ PyData.depthAll ps ≤ n := fun xs => by
      induction xs with
      | nil => intro _; exact ⟨[], rfl, rfl, Nat.zero_le _⟩
      | cons x xs ih =>
        intro h
        rw [List.all_cons, Bool.and_eq_true] at h
        obtain ⟨p, e1, e2, e3⟩ := okE_py n x h.1
        obtain ⟨ps, f1, f2, f3⟩ := ih h.2
        refine ⟨p :: ps, by rw [mapX, e1, f1], by rw [PyData.canLayAll0, e2, f2]; rfl, ?_⟩
        rw [PyData.depthAll]
        omega
    cases x with
    | tup xs =>
      obtain ⟨ps, e1, e2, e3⟩ := key xs (by simpa [okE] using h)
      exact ⟨.tuple ps, by rw [toPx, e1]; rfl, by rw [PyData.canLay0]; exact e2, by rw [PyData.depth]; omega⟩
    | lst xs =>
      obtain ⟨ps, e1, e2, e3⟩ := key xs (by simpa [okE] using h)
      exact ⟨.list ps, by rw [toPx, e1]; rfl, by rw [PyData.canLay0]; exact e2, by rw [PyData.depth]; omega⟩
    | _ => first | (simp [okE] at h; done) | (simp [okE] at h; simp [toPx, PyData.canLay0, PyData.depth, h])
theorem okE_eqv : ∀ (n m : Nat) (x y : PV), okE n x = true → okE m y = true → ∀ p q, toPx n x = some p → toPx m y = some q → PyData.eqv p q = decide (x = y) := by
  have sc : ∀ (x y : PV) (n m : Nat), okE n x = true → okE m y = true → (∀ xs, x ≠ .tup xs ∧ x ≠ .lst xs) → ∀ p q, toPx n x = some p → toPx m y = some q → PyData.eqv p q = decide (x = y) := by
    intro x y n m hx hy hn p q ep eq
    have e0 : ∀ k, toPx k PV.non = some .none := fun k => by cases k <;> rfl
    have e1 : ∀ k i, toPx k (PV.int i) = some (.int i) := fun k i => by cases k <;> rfl
    have e2 : ∀ k i, toPx k (PV.str i) = some (.str i) := fun k i => by cases k <;> rfl
    have e3 : ∀ xs, y = .tup xs → ∃ ps, q = .tuple ps := fun xs z => by
      subst z
      cases m with
      | zero => simp [okE] at hy
      | succ m => rw [toPx] at eq; cases h : mapX (toPx m) xs <;> rw [h] at eq <;> cases eq; exact ⟨_, rfl⟩
    have e4 : ∀ xs, y = .lst xs → ∃ ps, q = .list ps := fun xs z => by
      subst z
      cases m with
      | zero => simp [okE] at hy
      | succ m => rw [toPx] at eq; cases h : mapX (toPx m) xs <;> rw [h] at eq <;> cases eq; exact ⟨_, rfl⟩
    cases x with
    | non =>
      rw [e0] at ep; cases ep
      cases y with
      | non => rw [e0] at eq; cases eq; rfl
      | int i => rw [e1] at eq; cases eq; rfl
      | str i => rw [e2] at eq; cases eq; rfl
      | tup ys => obtain ⟨ps, rfl⟩ := e3 _ rfl; rfl
      | lst ys => obtain ⟨ps, rfl⟩ := e4 _ rfl; rfl
      | _ => cases m <;> simp [okE] at hy
    | int a =>
      rw [e1] at ep; cases ep
      cases y with
      | non => rw [e0] at eq; cases eq; rfl
      | int i => rw [e1] at eq; cases eq; by_cases h : a = i <;> simp [PyData.eqv, h]
      | str i => rw [e2] at eq; cases eq; rfl
      | tup ys => obtain ⟨ps, rfl⟩ := e3 _ rfl; rfl
      | lst ys => obtain ⟨ps, rfl⟩ := e4 _ rfl; rfl
      | _ => cases m <;> simp [okE] at hy
    | str a =>
      rw [e2] at ep; cases ep
      cases y with
      | non => rw [e0] at eq; cases eq; rfl
      | int i => rw [e1] at eq; cases eq; rfl
      | str i => rw [e2] at eq; cases eq; by_cases h : a = i <;> simp [PyData.eqv, h]
      | tup ys => obtain ⟨ps, rfl⟩ := e3 _ rfl; rfl
      | lst ys => obtain ⟨ps, rfl⟩ := e4 _ rfl; rfl
      | _ => cases m <;> simp [okE] at hy
    | tup xs => exact absurd rfl (hn xs).1
    | lst xs => exact absurd rfl (hn xs).2
    | _ => cases n <;> simp [okE] at hx
  intro n
  induction n with
  | zero =>
    intro m x y hx hy
    refine sc x y 0 m hx hy fun xs => ?_
    constructor <;> intro z <;> subst z <;> simp [okE] at hx
  | succ n ih =>
    intro m x y hx hy p q ep eq
    have key : ∀ (xs ys : List PV) (m : Nat), xs.all (okE n) = true → ys.all (okE m) = true → ∀ ps qs, mapX (toPx n) xs = some ps → mapX (toPx m) ys = some qs → PyData.eqvAll ps qs = decide (xs = ys) := by
      intro xs
      induction xs with
      | nil =>
        intro ys m _ _ ps qs e1 e2
        cases e1
        cases ys with
        | nil => cases e2; rfl
        | cons y ys =>
          rw [mapX] at e2
          split at e2
          · cases e2; rfl
          · cases e2
      | cons x xs ihx =>
        intro ys m hx hy ps qs e1 e2
        rw [List.all_cons, Bool.and_eq_true] at hx
        obtain ⟨p0, f1, _⟩ := okE_py n x hx.1
        rw [mapX, f1] at e1
        cases hm : mapX (toPx n) xs with
        | none => rw [hm] at e1; cases e1
        | some ps0 =>
          rw [hm] at e1
          cases e1
          cases ys with
          | nil => cases e2; rfl
          | cons y ys =>
            rw [List.all_cons, Bool.and_eq_true] at hy
            obtain ⟨q0, g1, _⟩ := okE_py m y hy.1
            rw [mapX, g1] at e2
            cases hq : mapX (toPx m) ys with
            | none => rw [hq] at e2; cases e2
            | some qs0 =>
              rw [hq] at e2
              cases e2
              rw [PyData.eqvAll, ih m x y hx.1 hy.1 p0 q0 f1 g1, ihx ys m hx.2 hy.2 ps0 qs0 hm hq]
              by_cases h1 : x = y <;> by_cases h2 : xs = ys <;> simp [h1, h2]
    cases x with
    | tup xs =>
      have hx' : xs.all (okE n) = true := by simpa [okE] using hx
      rw [toPx] at ep
      cases h1 : mapX (toPx n) xs with
      | none => rw [h1] at ep; cases ep
      | some ps =>
        rw [h1] at ep
        cases ep
        cases m with
        | zero => cases y <;> simp [okE] at hy <;> simp [toPx] at eq <;> subst eq <;> simp [PyData.eqv]
        | succ m =>
          cases y with
          | tup ys =>
            have hy' : ys.all (okE m) = true := by simpa [okE] using hy
            rw [toPx] at eq
            cases h2 : mapX (toPx m) ys with
            | none => rw [h2] at eq; cases eq
            | some qs =>
              rw [h2] at eq
              cases eq
              rw [PyData.eqv, key xs ys m hx' hy' ps qs h1 h2]
              simp
          | lst ys =>
            rw [toPx] at eq
            cases h2 : mapX (toPx m) ys with
            | none => rw [h2] at eq; cases eq
            | some qs => rw [h2] at eq; cases eq; simp [PyData.eqv]
          | _ => first | (simp [okE] at hy; done) | (simp [toPx] at eq; subst eq; simp [PyData.eqv])
    | lst xs =>
      have hx' : xs.all (okE n) = true := by simpa [okE] using hx
      rw [toPx] at ep
      cases h1 : mapX (toPx n) xs with
      | none => rw [h1] at ep; cases ep
      | some ps =>
        rw [h1] at ep
        cases ep
        cases m with
        | zero => cases y <;> simp [okE] at hy <;> simp [toPx] at eq <;> subst eq <;> simp [PyData.eqv]
        | succ m =>
          cases y with
          | lst ys =>
            have hy' : ys.all (okE m) = true := by simpa [okE] using hy
            rw [toPx] at eq
            cases h2 : mapX (toPx m) ys with
            | none => rw [h2] at eq; cases eq
            | some qs =>
              rw [h2] at eq
              cases eq
              rw [PyData.eqv, key xs ys m hx' hy' ps qs h1 h2]
              simp
          | tup ys =>
            rw [toPx] at eq
            cases h2 : mapX (toPx m) ys with
            | none => rw [h2] at eq; cases eq
            | some qs => rw [h2] at eq; cases eq; simp [PyData.eqv]
          | _ => first | (simp [okE] at hy; done) | (simp [toPx] at eq; subst eq; simp [PyData.eqv])
    | _ => exact sc _ y (n + 1) m hx hy (fun xs => ⟨by simp, by simp⟩) p q ep eq
theorem eqX_ok {x y : PV} (hx : okE 20 x = true) (hy : okE 20 y = true) : eqX x y = some (decide (x = y)) := by
  obtain ⟨p, e1, e2, e3⟩ := okE_py 20 x hx
  obtain ⟨q, f1, f2, f3⟩ := okE_py 20 y hy
  unfold eqX
  cases h : eqScX x y with
  | some b =>
    dsimp only
    cases x <;> simp [okE] at hx <;> cases y <;> simp [okE] at hy <;> simp [eqScX] at h <;> simp [← h]
  | none =>
    dsimp only
    rw [e1, f1]
    dsimp only
    rw [if_pos, okE_eqv 20 20 x y hx hy p q e1 f1]
    exact ⟨by unfold SeqAt.shaped; rw [e2]; simp; omega, by unfold SeqAt.shaped; rw [f2]; simp; omega⟩
theorem v_eq {x y : PV} (hx : okE 20 x = true) (hy : okE 20 y = true) : xEq x y = .ok (.bl (decide (x = y))) := by
  unfold xEq
  rw [eqX_ok hx hy]
  rfl
theorem v_ne {x y : PV} (hx : okE 20 x = true) (hy : okE 20 y = true) : xNe x y = .ok (.bl (!decide (x = y))) := by
  unfold xNe
  rw [eqX_ok hx hy]
  rfl
theorem okE_ints {n : Nat} (l : List Int) : okE (n + 1) (.tup (l.map PV.int)) = true := by
  simp only [okE, List.all_eq_true]
  intro x hx
  obtain ⟨i, _, rfl⟩ := List.mem_map.mp hx
  cases n <;> rfl
theorem okE_intsL {n : Nat} (l : List Int) : okE (n + 1) (.lst (l.map PV.int)) = true := by
  simp only [okE, List.all_eq_true]
  intro x hx
  obtain ⟨i, _, rfl⟩ := List.mem_map.mp hx
  cases n <;> rfl
theorem ints_inj : ∀ {l m : List Int}, (l.map PV.int = m.map PV.int) ↔ l = m
  | [], [] => by simp
  | [], _ :: _ => by simp
  | _ :: _, [] => by simp
  | a :: l, b :: m => by simp [ints_inj]
end Sh

set_option Elab.async false
set_option linter.all false
set_option maxRecDepth 100000
set_option maxHeartbeats 4000000
/-! the words of ShU over values -/
namespace Sh
open PySem L2 PyProof.Rows
section
variable {fr : Bool} {oL o o' : List Nat} {oE : Option (List Nat)} {e ea eb ec : FE} {p pa pb pc : PE}
def xAnd := xInt0 fun i j => Builtin.bitAnd i j
def xOr := xInt0 fun i j => Builtin.bitOr i j
def xXor := xInt0 fun i j => Builtin.bitXor i j
def xShl := xInt2 (fun i j => decide (0 ≤ j ∧ j ≤ 1000000 ∧ i.natAbs < 2 ^ 64)) fun i j => i * 2 ^ j.toNat
def xShr := xInt2 (fun _ j => decide (0 ≤ j)) fun i j => i / 2 ^ j.toNat
theorem ov_and : Op2V dAnd xAnd := ov_int0 _
theorem ov_or : Op2V dOr xOr := ov_int0 _
theorem ov_xor : Op2V dXor xXor := ov_int0 _
theorem ov_shl : Op2V dShl xShl := ov_int2 _ _
theorem ov_shr : Op2V dShr xShr := ov_int2 _ _
def xPar3 (i j l : Nat) (pa pb pc : PE) : PX := fun s => (pa s).st s fun x => (pb s).st s fun y => (pc s).st s fun z => .nx (((s.set i (some x)).set j (some y)).set l (some z))
theorem px_par3 {i j l : Nat} {s : PS} : xPar3 i j l pa pb pc s = (pa s).st s fun x => (pb s).st s fun y => (pc s).st s fun z => .nx (((s.set i (some x)).set j (some y)).set l (some z)) := rfl
theorem sv_par3 {i j l : Nat} (ha : EV o ea pa) (hb : EV o eb pb) (hc : EV o ec pc) (hi : i ∉ o := by decide) (hj : j ∉ o := by decide) (hl : l ∉ o := by decide) (hE : EOk oE o := by intro _ h; cases h <;> rfl) : SV fr oL oE o o (gPar3 i j l ea eb ec) (xPar3 i j l pa pb pc) := fun b A h s xs t =>
  PostP.ex hE t (ha b A h s xs t) fun d h' x e t' r => PostP.ex hE t' (hb b A h' s xs t') fun d2 h2 y e2 t2 r2 => PostP.ex hE t2 (hc b A h2 s xs t2) fun d3 h3 z e3 t3 r3 =>
    ⟨A, _, h3, rfl, Keep.ext (Ext.refl h3), ((t3.set hi ((r.ext e2).ext e3)).set hj (r2.ext e3)).set hl r3⟩
def xAug (i : Nat) (f : PV → PV → PR) (p : PE) : PX := fun s => match s[i]? with
  | some (some x) => (p s).st s fun y => (f x y).st s fun z => .nx (s.set i (some z))
  | _ => .bad
theorem sv_aug {i : Nat} {fop : D → D → Hm → RD} {f : PV → PV → PR} (hf : Op2V fop f) (he : EV o e p) (hi : i ∉ o := by decide) (hE : EOk oE o := by intro _ h; cases h <;> rfl) : SV fr oL oE o o (gAug i fop e) (xAug i f p) := fun b A h s xs t => by
  unfold xAug
  split
  case h_2 => trivial
  rename_i x hx
  unfold gAug
  obtain ⟨d, hd, rd, _⟩ := t.rel i x hx
  rw [hd]
  exact PostP.ex hE t (he b A h s xs t) fun dy h1 y e1 t1 ry => PostP.ex hE t1 (hf A h1 d dy x y t1.bd ((rd hi).ext e1) ry) fun dz h2 z e2 t2 rz =>
    ⟨A, _, h2, rfl, Keep.ext (Ext.refl h2), t2.set hi rz⟩
theorem pn_aug {i : Nat} {f : PV → PV → PR} {s : PS} {x : PV} {N : PS → Prop} {T : PV → Prop} (e : s[i]? = some (some x)) (h : PO (p s) fun y => PO (f x y) fun z => N (s.set i (some z))) : PN (xAug i f p) s N T := by
  obtain ⟨y, e1, h⟩ := h.get
  obtain ⟨z, e2, h⟩ := h.get
  exact pn_nx (by unfold xAug; rw [e]; dsimp only; rw [e1, PR.st_ok, e2, PR.st_ok]) h
theorem pn_par3 {i j l : Nat} {s : PS} {N : PS → Prop} {T : PV → Prop} (h : PO (pa s) fun x => PO (pb s) fun y => PO (pc s) fun z => N (((s.set i (some x)).set j (some y)).set l (some z))) : PN (xPar3 i j l pa pb pc) s N T := by
  obtain ⟨x, e, h⟩ := h.get
  obtain ⟨y, e2, h⟩ := h.get
  obtain ⟨z, e3, h⟩ := h.get
  exact pn_nx (by unfold xPar3; rw [e, PR.st_ok, e2, PR.st_ok, e3, PR.st_ok]) h
theorem v_and {i j : Int} : xAnd (.int i) (.int j) = .ok (.int (Builtin.bitAnd i j)) := rfl
theorem v_xor {i j : Int} : xXor (.int i) (.int j) = .ok (.int (Builtin.bitXor i j)) := rfl
end
end Sh

set_option linter.all false
set_option maxRecDepth 100000
namespace Sh.k73
open PySem L2 PyProof.Rows Sh
def q__law_cell : PX := (xSeq (xIf (pBin (xCmp fun i j => decide (i < j)) (pVar 1) (pArgs yLen [(pVar 0)])) (xRet (pArgs yInt [(pBin xIx (pVar 0) (pVar 1))])) xNext)
    (xSeq (xSet 2 (pC (.int 0)))
    (xSeq (xIf (pBin (xCmp fun i j => decide (j < i)) (pArgs yLen [(pVar 0)]) (pC (.int 0))) (xSet 2 (pArgs yInt [(pBin xIx (pVar 0) (pC (.int 0)))])) xNext)
    (xRet (pBin xMod (pArgs yInt [(pBin xMul (pBin xAdd (pVar 2) (pBin xMul (pC (.int 7919)) (pVar 1))) (pC (.int 48271)))]) (pC (.int 2147483647)))))))
def v__law_cell : PF := pRun 3 q__law_cell
theorem w__law_cell : FV m__law_cell v__law_cell := by
  refine fv_run (o' := []) ?_
  unfold g__law_cell q__law_cell
  refine sv_seq (o1 := []) ?_ ?_
  · refine sv_if ?_ ?_ ?_
    · refine ev_bin (ov_cmp _) ?_ ?_
      · exact ev_var (by decide)
      · refine ev_args cv_len ?_
        refine EVs.cons ?_ ?_
        · exact ev_var (by decide)
        · exact EVs.nil
    · refine sv_ret ?_
      refine ev_args cv_int ?_
      refine EVs.cons ?_ ?_
      · refine ev_bin ov_ix ?_ ?_
        · exact ev_var (by decide)
        · exact ev_var (by decide)
      · exact EVs.nil
    · exact sv_next
  · refine sv_seq (o1 := []) ?_ ?_
    · refine sv_set ?_ (by decide)
      exact ev_int
    · refine sv_seq (o1 := []) ?_ ?_
      · refine sv_if ?_ ?_ ?_
        · refine ev_bin (ov_cmp _) ?_ ?_
          · refine ev_args cv_len ?_
            refine EVs.cons ?_ ?_
            · exact ev_var (by decide)
            · exact EVs.nil
          · exact ev_int
        · refine sv_set ?_ (by decide)
          refine ev_args cv_int ?_
          refine EVs.cons ?_ ?_
          · refine ev_bin ov_ix ?_ ?_
            · exact ev_var (by decide)
            · exact ev_int
          · exact EVs.nil
        · exact sv_next
      · refine sv_ret ?_
        refine ev_bin ov_mod ?_ ?_
        · refine ev_args cv_int ?_
          refine EVs.cons ?_ ?_
          · refine ev_bin ov_mul ?_ ?_
            · refine ev_bin ov_add ?_ ?_
              · exact ev_var (by decide)
              · refine ev_bin ov_mul ?_ ?_
                · exact ev_int
                · exact ev_var (by decide)
            · exact ev_int
          · exact EVs.nil
        · exact ev_int

def q__law_mixed : PX := (xSeq (xSet 2 (pBin xMod (pArgs yInt [(pBin xMul (pBin xAdd (pBin xAdd (pVar 0) (pBin xMul (pC (.int 7919)) (pVar 1))) (pC (.int 1))) (pC (.int 48271)))]) (pC (.int 2147483647))))
    (xSeq (xSet 2 (pBin xMod (pArgs yInt [(pBin xMul (pVar 2) (pBin xAdd (pBin xDiv (pVar 2) (pC (.int 1009))) (pC (.int 69621))))]) (pC (.int 2147483647))))
    (xRet (pBin xMod (pArgs yInt [(pBin xMul (pVar 2) (pBin xAdd (pBin xDiv (pVar 2) (pC (.int 2003))) (pC (.int 40692))))]) (pC (.int 2147483399))))))
def v__law_mixed : PF := pRun 3 q__law_mixed
theorem w__law_mixed : FV m__law_mixed v__law_mixed := by
  refine fv_run (o' := []) ?_
  unfold g__law_mixed q__law_mixed
  refine sv_seq (o1 := []) ?_ ?_
  · refine sv_set ?_ (by decide)
    refine ev_bin ov_mod ?_ ?_
    · refine ev_args cv_int ?_
      refine EVs.cons ?_ ?_
      · refine ev_bin ov_mul ?_ ?_
        · refine ev_bin ov_add ?_ ?_
          · refine ev_bin ov_add ?_ ?_
            · exact ev_var (by decide)
            · refine ev_bin ov_mul ?_ ?_
              · exact ev_int
              · exact ev_var (by decide)
          · exact ev_int
        · exact ev_int
      · exact EVs.nil
    · exact ev_int
  · refine sv_seq (o1 := []) ?_ ?_
    · refine sv_set ?_ (by decide)
      refine ev_bin ov_mod ?_ ?_
      · refine ev_args cv_int ?_
        refine EVs.cons ?_ ?_
        · refine ev_bin ov_mul ?_ ?_
          · exact ev_var (by decide)
          · refine ev_bin ov_add ?_ ?_
            · refine ev_bin ov_div ?_ ?_
              · exact ev_var (by decide)
              · exact ev_int
            · exact ev_int
        · exact EVs.nil
      · exact ev_int
    · refine sv_ret ?_
      refine ev_bin ov_mod ?_ ?_
      · refine ev_args cv_int ?_
        refine EVs.cons ?_ ?_
        · refine ev_bin ov_mul ?_ ?_
          · exact ev_var (by decide)
          · refine ev_bin ov_add ?_ ?_
            · refine ev_bin ov_div ?_ ?_
              · exact ev_var (by decide)
              · exact ev_int
            · exact ev_int
        · exact EVs.nil
      · exact ev_int

def q__law_digits : PX := (xSeq (xSet 2 (pLst []))
    (xSeq (xIf (pBin (xCmp fun i j => decide (j ≤ i)) (pVar 0) (pBin xPow (pC (.int 10)) (pC (.int 18)))) (xSeq (xFor (pSeq (pVar 1)) (xName 3) (xSeq (xLm fApp 2 (pBin xMod (pArgs yInt [(pVar 0)]) (pVar 3)) fun _ s => s)
    (xSet 0 (pBin xDiv (pVar 0) (pVar 3)))))
    (xRet (pVar 2))) xNext)
    (xSeq (xFor (pRg [(pArgs yLen [(pVar 1)])]) (xName 4) (xLm fApp 2 (pBin xMod (pArgs yInt [(pBin xDiv (pArgs v__law_mixed [(pVar 0), (pVar 4)]) (pC (.int 16)))]) (pBin xIx (pVar 1) (pVar 4))) fun _ s => s))
    (xRet (pVar 2)))))
def v__law_digits : PF := pRunN 5 q__law_digits
theorem w__law_digits : FN m__law_digits v__law_digits := by
  refine fn_run (o' := [2]) ?_
  unfold g__law_digits q__law_digits
  refine sv_seq (o1 := [2]) ?_ ?_
  · refine sv_own ?_ (by decide)
    refine en_lst ?_
    exact EVs.nil
  · refine sv_seq (o1 := [2]) ?_ ?_
    · refine sv_if ?_ ?_ ?_
      · refine ev_bin (ov_cmp _) ?_ ?_
        · exact ev_var (by decide)
        · refine ev_bin ov_pow ?_ ?_
          · exact ev_int
          · exact ev_int
      · refine sv_seq (o1 := [2]) ?_ ?_
        · refine sv_for ?_ ?_ ?_
          · refine iv_seq ?_
            exact ev_var (by decide)
          · exact gv_name (by decide)
          · refine sv_seq (o1 := [2]) ?_ ?_
            · refine sv_lm lm_app ?_ (by decide)
              refine ev_bin ov_mod ?_ ?_
              · refine ev_args cv_int ?_
                refine EVs.cons ?_ ?_
                · exact ev_var (by decide)
                · exact EVs.nil
              · exact ev_var (by decide)
            · refine sv_set ?_ (by decide)
              refine ev_bin ov_div ?_ ?_
              · exact ev_var (by decide)
              · exact ev_var (by decide)
        · exact sv_retO (i := 2) (by decide)
      · exact sv_next
    · refine sv_seq (o1 := [2]) ?_ ?_
      · refine sv_for ?_ ?_ ?_
        · refine iv_rg ?_
          refine EVs.cons ?_ ?_
          · refine ev_args cv_len ?_
            refine EVs.cons ?_ ?_
            · exact ev_var (by decide)
            · exact EVs.nil
          · exact EVs.nil
        · exact gv_name (by decide)
        · refine sv_lm lm_app ?_ (by decide)
          refine ev_bin ov_mod ?_ ?_
          · refine ev_args cv_int ?_
            refine EVs.cons ?_ ?_
            · refine ev_bin ov_div ?_ ?_
              · refine ev_args w__law_mixed ?_
                refine EVs.cons ?_ ?_
                · exact ev_var (by decide)
                · refine EVs.cons ?_ ?_
                  · exact ev_var (by decide)
                  · exact EVs.nil
              · exact ev_int
            · exact EVs.nil
          · refine ev_bin ov_ix ?_ ?_
            · exact ev_var (by decide)
            · exact ev_var (by decide)
      · exact sv_retO (i := 2) (by decide)

def q__law_number : PX := (xSeq (xIf (pBin xEq (pVar 0) (pC (.int 0))) (xRet (pBin xIx (pLst [(pC (.int 1)), (pC (.int 255)), (pC (.int 256)), (pC (.int 257)), (pC (.int 65535)), (pC (.int 65536)), (pC (.int 16777215)), (pC (.int 16777216)), (pC (.int 2147483648)), (pC (.int 4294967294)), (pC (.int 4294967295))]) (pVar 1))) xNext)
    (xRet (pBin xAdd (pC (.int 1)) (pBin xMod (pArgs yInt [(pBin xAdd (pBin xMul (pVar 2) (pC (.int 65536))) (pVar 3))]) (pC (.int 4294967295))))))
def v__law_number : PF := pRun 4 q__law_number
theorem w__law_number : FV m__law_number v__law_number := by
  refine fv_run (o' := []) ?_
  unfold g__law_number q__law_number
  refine sv_seq (o1 := []) ?_ ?_
  · refine sv_if ?_ ?_ ?_
    · refine ev_bin ov_eq ?_ ?_
      · exact ev_var (by decide)
      · exact ev_int
    · refine sv_ret ?_
      refine ev_bin ov_ix ?_ ?_
      · refine EN.ev ?_
        refine en_lst ?_
        refine EVs.cons ?_ ?_
        · exact ev_int
        · refine EVs.cons ?_ ?_
          · exact ev_int
          · refine EVs.cons ?_ ?_
            · exact ev_int
            · refine EVs.cons ?_ ?_
              · exact ev_int
              · refine EVs.cons ?_ ?_
                · exact ev_int
                · refine EVs.cons ?_ ?_
                  · exact ev_int
                  · refine EVs.cons ?_ ?_
                    · exact ev_int
                    · refine EVs.cons ?_ ?_
                      · exact ev_int
                      · refine EVs.cons ?_ ?_
                        · exact ev_int
                        · refine EVs.cons ?_ ?_
                          · exact ev_int
                          · refine EVs.cons ?_ ?_
                            · exact ev_int
                            · exact EVs.nil
      · exact ev_var (by decide)
    · exact sv_next
  · refine sv_ret ?_
    refine ev_bin ov_add ?_ ?_
    · exact ev_int
    · refine ev_bin ov_mod ?_ ?_
      · refine ev_args cv_int ?_
        refine EVs.cons ?_ ?_
        · refine ev_bin ov_add ?_ ?_
          · refine ev_bin ov_mul ?_ ?_
            · exact ev_var (by decide)
            · exact ev_int
          · exact ev_var (by decide)
        · exact EVs.nil
      · exact ev_int

def q__law_value : PX := (xSeq (xSet 1 (pArgs v__law_digits [(pVar 0), (pLst [(pC (.int 4)), (pC (.int 51))])]))
    (xSeq (xSet 2 (pBin xIx (pVar 1) (pC (.int 1))))
    (xSeq (xIf (pBin (xCmp fun i j => decide (j < i)) (pBin xIx (pVar 1) (pC (.int 0))) (pC (.int 1))) (xSet 2 (pBin xMod (pArgs yInt [(pVar 2)]) (pC (.int 5)))) xNext)
    (xRet (pArgs yTuple [(pSl xSl (pArgs v__law_digits [(pVar 0), (pBin xAdd (pLst [(pC (.int 4)), (pC (.int 51))]) (pBin xMul (pLst [(pC (.int 256))]) (pVar 2)))]) (some (pC (.int 2))) none)])))))
def v__law_value : PF := pRun 3 q__law_value
theorem w__law_value : FV m__law_value v__law_value := by
  refine fv_run (o' := []) ?_
  unfold g__law_value q__law_value
  refine sv_seq (o1 := []) ?_ ?_
  · refine sv_set ?_ (by decide)
    refine ev_args (FN.fv w__law_digits) ?_
    refine EVs.cons ?_ ?_
    · exact ev_var (by decide)
    · refine EVs.cons ?_ ?_
      · refine EN.ev ?_
        refine en_lst ?_
        refine EVs.cons ?_ ?_
        · exact ev_int
        · refine EVs.cons ?_ ?_
          · exact ev_int
          · exact EVs.nil
      · exact EVs.nil
  · refine sv_seq (o1 := []) ?_ ?_
    · refine sv_set ?_ (by decide)
      refine ev_bin ov_ix ?_ ?_
      · exact ev_var (by decide)
      · exact ev_int
    · refine sv_seq (o1 := []) ?_ ?_
      · refine sv_if ?_ ?_ ?_
        · refine ev_bin (ov_cmp _) ?_ ?_
          · refine ev_bin ov_ix ?_ ?_
            · exact ev_var (by decide)
            · exact ev_int
          · exact ev_int
        · refine sv_set ?_ (by decide)
          refine ev_bin ov_mod ?_ ?_
          · refine ev_args cv_int ?_
            refine EVs.cons ?_ ?_
            · exact ev_var (by decide)
            · exact EVs.nil
          · exact ev_int
        · exact sv_next
      · refine sv_ret ?_
        refine ev_args cv_tuple ?_
        refine EVs.cons ?_ ?_
        · refine ev_sl ?_ ?_ ?_
          · refine ev_args (FN.fv w__law_digits) ?_
            refine EVs.cons ?_ ?_
            · exact ev_var (by decide)
            · refine EVs.cons ?_ ?_
              · refine ev_bin ov_add ?_ ?_
                · refine EN.ev ?_
                  refine en_lst ?_
                  refine EVs.cons ?_ ?_
                  · exact ev_int
                  · refine EVs.cons ?_ ?_
                    · exact ev_int
                    · exact EVs.nil
                · refine ev_bin ov_mul ?_ ?_
                  · refine EN.ev ?_
                    refine en_lst ?_
                    refine EVs.cons ?_ ?_
                    · exact ev_int
                    · exact EVs.nil
                  · exact ev_var (by decide)
              · exact EVs.nil
          · refine OV.yes ?_
            exact ev_int
          · exact OV.no
        · exact EVs.nil

def q__law_parts : PX := (xSeq (xSet 2 (pArgs v__law_digits [(pVar 0), (pLst [(pC (.int 9)), (pC (.int 3)), (pC (.int 11)), (pC (.int 65536)), (pC (.int 65536))])]))
    (xRet (pLst [(pBin xIx (pVar 2) (pC (.int 0))), (pArgs v__law_number [(pBin xIx (pVar 2) (pC (.int 1))), (pBin xIx (pVar 2) (pC (.int 2))), (pBin xIx (pVar 2) (pC (.int 3))), (pBin xIx (pVar 2) (pC (.int 4)))]), (pArgs v__law_value [(pVar 1)])])))
def v__law_parts : PF := pRunN 3 q__law_parts
theorem w__law_parts : FN m__law_parts v__law_parts := by
  refine fn_run (o' := []) ?_
  unfold g__law_parts q__law_parts
  refine sv_seq (o1 := []) ?_ ?_
  · refine sv_set ?_ (by decide)
    refine ev_args (FN.fv w__law_digits) ?_
    refine EVs.cons ?_ ?_
    · exact ev_var (by decide)
    · refine EVs.cons ?_ ?_
      · refine EN.ev ?_
        refine en_lst ?_
        refine EVs.cons ?_ ?_
        · exact ev_int
        · refine EVs.cons ?_ ?_
          · exact ev_int
          · refine EVs.cons ?_ ?_
            · exact ev_int
            · refine EVs.cons ?_ ?_
              · exact ev_int
              · refine EVs.cons ?_ ?_
                · exact ev_int
                · exact EVs.nil
      · exact EVs.nil
  · refine sv_retF ?_
    refine en_lst ?_
    refine EVs.cons ?_ ?_
    · refine ev_bin ov_ix ?_ ?_
      · exact ev_var (by decide)
      · exact ev_int
    · refine EVs.cons ?_ ?_
      · refine ev_args w__law_number ?_
        refine EVs.cons ?_ ?_
        · refine ev_bin ov_ix ?_ ?_
          · exact ev_var (by decide)
          · exact ev_int
        · refine EVs.cons ?_ ?_
          · refine ev_bin ov_ix ?_ ?_
            · exact ev_var (by decide)
            · exact ev_int
          · refine EVs.cons ?_ ?_
            · refine ev_bin ov_ix ?_ ?_
              · exact ev_var (by decide)
              · exact ev_int
            · refine EVs.cons ?_ ?_
              · refine ev_bin ov_ix ?_ ?_
                · exact ev_var (by decide)
                · exact ev_int
              · exact EVs.nil
      · refine EVs.cons ?_ ?_
        · refine ev_args w__law_value ?_
          refine EVs.cons ?_ ?_
          · exact ev_var (by decide)
          · exact EVs.nil
        · exact EVs.nil

def q__law_check : PX := (xSeq (xSet 1 (pC (.int 1)))
    (xSeq (xFor (pSeq (pVar 0)) (xName 2) (xSet 1 (pBin xMod (pArgs yInt [(pBin xAdd (pBin xMul (pVar 1) (pC (.int 31))) (pVar 2))]) (pC (.int 65521)))))
    (xRet (pVar 1))))
def v__law_check : PF := pRun 3 q__law_check
theorem w__law_check : FV m__law_check v__law_check := by
  refine fv_run (o' := []) ?_
  unfold g__law_check q__law_check
  refine sv_seq (o1 := []) ?_ ?_
  · refine sv_set ?_ (by decide)
    exact ev_int
  · refine sv_seq (o1 := []) ?_ ?_
    · refine sv_for ?_ ?_ ?_
      · refine iv_seq ?_
        exact ev_var (by decide)
      · exact gv_name (by decide)
      · refine sv_set ?_ (by decide)
        refine ev_bin ov_mod ?_ ?_
        · refine ev_args cv_int ?_
          refine EVs.cons ?_ ?_
          · refine ev_bin ov_add ?_ ?_
            · refine ev_bin ov_mul ?_ ?_
              · exact ev_var (by decide)
              · exact ev_int
            · exact ev_var (by decide)
          · exact EVs.nil
        · exact ev_int
    · refine sv_ret ?_
      exact ev_var (by decide)

def q__law_record : PX := (xSeq (xSet 3 (pLst [(pC (.int 165)), (pVar 0)]))
    (xSeq (xFor (pSeq (pLst [(pC (.int 16777216)), (pC (.int 65536)), (pC (.int 256)), (pC (.int 1))])) (xName 4) (xLm fApp 3 (pBin xMod (pArgs yInt [(pBin xDiv (pVar 1) (pVar 4))]) (pC (.int 256))) fun _ s => s))
    (xSeq (xSet 3 (pBin xAdd (pBin xAdd (pVar 3) (pLst [(pArgs yLen [(pVar 2)])])) (pArgs yList [(pVar 2)])))
    (xSeq (xSet 5 (pArgs v__law_check [(pVar 3)]))
    (xRet (pArgs yTuple [(pBin xAdd (pVar 3) (pLst [(pBin xDiv (pVar 5) (pC (.int 256))), (pBin xMod (pArgs yInt [(pVar 5)]) (pC (.int 256)))]))]))))))
def v__law_record : PF := pRun 6 q__law_record
theorem w__law_record : FV m__law_record v__law_record := by
  refine fv_run (o' := []) ?_
  unfold g__law_record q__law_record
  refine sv_seq (o1 := [3]) ?_ ?_
  · refine sv_own ?_ (by decide)
    refine en_lst ?_
    refine EVs.cons ?_ ?_
    · exact ev_int
    · refine EVs.cons ?_ ?_
      · exact ev_var (by decide)
      · exact EVs.nil
  · refine sv_seq (o1 := [3]) ?_ ?_
    · refine sv_for ?_ ?_ ?_
      · refine iv_seq ?_
        refine EN.ev ?_
        refine en_lst ?_
        refine EVs.cons ?_ ?_
        · exact ev_int
        · refine EVs.cons ?_ ?_
          · exact ev_int
          · refine EVs.cons ?_ ?_
            · exact ev_int
            · refine EVs.cons ?_ ?_
              · exact ev_int
              · exact EVs.nil
      · exact gv_name (by decide)
      · refine sv_lm lm_app ?_ (by decide)
        refine ev_bin ov_mod ?_ ?_
        · refine ev_args cv_int ?_
          refine EVs.cons ?_ ?_
          · refine ev_bin ov_div ?_ ?_
            · exact ev_var (by decide)
            · exact ev_var (by decide)
          · exact EVs.nil
        · exact ev_int
    · refine sv_frz [] ?_ (by decide)
      refine sv_seq (o1 := []) ?_ ?_
      · refine sv_set ?_ (by decide)
        refine ev_bin ov_add ?_ ?_
        · refine ev_bin ov_add ?_ ?_
          · exact ev_var (by decide)
          · refine EN.ev ?_
            refine en_lst ?_
            refine EVs.cons ?_ ?_
            · refine ev_args cv_len ?_
              refine EVs.cons ?_ ?_
              · exact ev_var (by decide)
              · exact EVs.nil
            · exact EVs.nil
        · refine EN.ev ?_
          refine en_args cn_list ?_
          refine EVs.cons ?_ ?_
          · exact ev_var (by decide)
          · exact EVs.nil
      · refine sv_seq (o1 := []) ?_ ?_
        · refine sv_set ?_ (by decide)
          refine ev_args w__law_check ?_
          refine EVs.cons ?_ ?_
          · exact ev_var (by decide)
          · exact EVs.nil
        · refine sv_ret ?_
          refine ev_args cv_tuple ?_
          refine EVs.cons ?_ ?_
          · refine ev_bin ov_add ?_ ?_
            · exact ev_var (by decide)
            · refine EN.ev ?_
              refine en_lst ?_
              refine EVs.cons ?_ ?_
              · refine ev_bin ov_div ?_ ?_
                · exact ev_var (by decide)
                · exact ev_int
              · refine EVs.cons ?_ ?_
                · refine ev_bin ov_mod ?_ ?_
                  · refine ev_args cv_int ?_
                    refine EVs.cons ?_ ?_
                    · exact ev_var (by decide)
                    · exact EVs.nil
                  · exact ev_int
                · exact EVs.nil
          · exact EVs.nil

def q_is_whole : PX := (xRet (pAnd (pIsi "int" (pVar 0)) (pAnd (pNot (pIsi "bool" (pVar 0))) (pChain (xCmp fun i j => decide (i ≤ j)) (xCmp fun i j => decide (i ≤ j)) (pVar 1) (pVar 0) (pVar 2)))))
def v_is_whole : PF := pRun 3 q_is_whole
theorem w_is_whole : FV m_is_whole v_is_whole := by
  refine fv_run (o' := []) ?_
  unfold g_is_whole q_is_whole
  refine sv_ret ?_
  refine ev_and ?_ ?_
  · refine ev_isi ?_
    exact ev_var (by decide)
  · refine ev_and ?_ ?_
    · refine ev_not ?_
      refine ev_isi ?_
      exact ev_var (by decide)
    · refine ev_chain (ov_cmp _) (ov_cmp _) ?_ ?_ ?_
      · exact ev_var (by decide)
      · exact ev_var (by decide)
      · exact ev_var (by decide)

def q_is_key : PX := (xRet (pArgs v_is_whole [(pVar 0), (pC (.int 0)), (pBin xSub (pVar 1) (pC (.int 1)))]))
def v_is_key : PF := pRun 2 q_is_key
theorem w_is_key : FV m_is_key v_is_key := by
  refine fv_run (o' := []) ?_
  unfold g_is_key q_is_key
  refine sv_ret ?_
  refine ev_args w_is_whole ?_
  refine EVs.cons ?_ ?_
  · exact ev_var (by decide)
  · refine EVs.cons ?_ ?_
    · exact ev_int
    · refine EVs.cons ?_ ?_
      · refine ev_bin ov_sub ?_ ?_
        · exact ev_var (by decide)
        · exact ev_int
      · exact EVs.nil

def q_are_bytes : PX := (xRet (pAnd (pIsi "tuple" (pVar 0)) (pAnd (pBin (xCmp fun i j => decide (i ≤ j)) (pArgs yLen [(pVar 0)]) (pVar 1)) (pArgs yAll [(pLc (pSeq (pVar 0)) (xName 2) (pC (.bl true)) (pArgs v_is_whole [(pVar 2), (pC (.int 0)), (pC (.int 255))]) [2])]))))
def v_are_bytes : PF := pRun 3 q_are_bytes
theorem w_are_bytes : FV m_are_bytes v_are_bytes := by
  refine fv_run (o' := []) ?_
  unfold g_are_bytes q_are_bytes
  refine sv_ret ?_
  refine ev_and ?_ ?_
  · refine ev_isi ?_
    exact ev_var (by decide)
  · refine ev_and ?_ ?_
    · refine ev_bin (ov_cmp _) ?_ ?_
      · refine ev_args cv_len ?_
        refine EVs.cons ?_ ?_
        · exact ev_var (by decide)
        · exact EVs.nil
      · exact ev_var (by decide)
    · refine ev_args (cv_quant _) ?_
      refine EVs.cons ?_ ?_
      · refine EN.ev ?_
        refine en_lc ?_ ?_ ?_ ?_ (by decide)
        · refine iv_seq ?_
          exact ev_var (by decide)
        · exact gv_name (by decide)
        · exact ev_bl
        · refine ev_args w_is_whole ?_
          refine EVs.cons ?_ ?_
          · exact ev_var (by decide)
          · refine EVs.cons ?_ ?_
            · exact ev_int
            · refine EVs.cons ?_ ?_
              · exact ev_int
              · exact EVs.nil
      · exact EVs.nil

def q_is_value : PX := (xRet (pArgs v_are_bytes [(pVar 0), (pC (.int 50))]))
def v_is_value : PF := pRun 1 q_is_value
theorem w_is_value : FV m_is_value v_is_value := by
  refine fv_run (o' := []) ?_
  unfold g_is_value q_is_value
  refine sv_ret ?_
  refine ev_args w_are_bytes ?_
  refine EVs.cons ?_ ?_
  · exact ev_var (by decide)
  · refine EVs.cons ?_ ?_
    · exact ev_int
    · exact EVs.nil

def q_bytes_of : PX := (xSeq (xSet 2 (pTup []))
    (xSeq (xFor (pRg [(pVar 1)]) (xName 3) (xSeq (xSet 2 (pBin xAdd (pTup [(pBin xMod (pVar 0) (pC (.int 256)))]) (pVar 2)))
    (xSet 0 (pBin xDiv (pVar 0) (pC (.int 256))))))
    (xRet (pVar 2))))
def v_bytes_of : PF := pRun 4 q_bytes_of
theorem w_bytes_of : FV m_bytes_of v_bytes_of := by
  refine fv_run (o' := []) ?_
  unfold g_bytes_of q_bytes_of
  refine sv_seq (o1 := []) ?_ ?_
  · refine sv_set ?_ (by decide)
    refine ev_tup ?_
    exact EVs.nil
  · refine sv_seq (o1 := []) ?_ ?_
    · refine sv_for ?_ ?_ ?_
      · refine iv_rg ?_
        refine EVs.cons ?_ ?_
        · exact ev_var (by decide)
        · exact EVs.nil
      · exact gv_name (by decide)
      · refine sv_seq (o1 := []) ?_ ?_
        · refine sv_set ?_ (by decide)
          refine ev_bin ov_add ?_ ?_
          · refine ev_tup ?_
            refine EVs.cons ?_ ?_
            · refine ev_bin ov_mod ?_ ?_
              · exact ev_var (by decide)
              · exact ev_int
            · exact EVs.nil
          · exact ev_var (by decide)
        · refine sv_set ?_ (by decide)
          refine ev_bin ov_div ?_ ?_
          · exact ev_var (by decide)
          · exact ev_int
    · refine sv_ret ?_
      exact ev_var (by decide)

def q_check_of : PX := (xSeq (xSet 1 (pC (.int 1)))
    (xSeq (xFor (pSeq (pVar 0)) (xName 2) (xSet 1 (pBin xMod (pBin xAdd (pBin xMul (pVar 1) (pC (.int 31))) (pVar 2)) (pC (.int 65521)))))
    (xRet (pVar 1))))
def v_check_of : PF := pRun 3 q_check_of
theorem w_check_of : FV m_check_of v_check_of := by
  refine fv_run (o' := []) ?_
  unfold g_check_of q_check_of
  refine sv_seq (o1 := []) ?_ ?_
  · refine sv_set ?_ (by decide)
    exact ev_int
  · refine sv_seq (o1 := []) ?_ ?_
    · refine sv_for ?_ ?_ ?_
      · refine iv_seq ?_
        exact ev_var (by decide)
      · exact gv_name (by decide)
      · refine sv_set ?_ (by decide)
        refine ev_bin ov_mod ?_ ?_
        · refine ev_bin ov_add ?_ ?_
          · refine ev_bin ov_mul ?_ ?_
            · exact ev_var (by decide)
            · exact ev_int
          · exact ev_var (by decide)
        · exact ev_int
    · refine sv_ret ?_
      exact ev_var (by decide)

def q_record : PX := (xSeq (xIf (pOr (pNot (pArgs v_is_key [(pVar 0), (pC (.int 9))])) (pOr (pNot (pArgs v_is_whole [(pVar 1), (pC (.int 1)), (pC (.int 4294967295))])) (pNot (pArgs v_is_value [(pVar 2)])))) (xRaise "NoRecord") xNext)
    (xSeq (xSet 3 (pBin xAdd (pBin xAdd (pBin xAdd (pTup [(pC (.int 165)), (pVar 0)]) (pArgs v_bytes_of [(pVar 1), (pC (.int 4))])) (pTup [(pArgs yLen [(pVar 2)])])) (pVar 2)))
    (xRet (pBin xAdd (pVar 3) (pArgs v_bytes_of [(pArgs v_check_of [(pVar 3)]), (pC (.int 2))])))))
def v_record : PF := pRun 4 q_record
theorem w_record : FV m_record v_record := by
  refine fv_run (o' := []) ?_
  unfold g_record q_record
  refine sv_seq (o1 := []) ?_ ?_
  · refine sv_if ?_ ?_ ?_
    · refine ev_or ?_ ?_
      · refine ev_not ?_
        refine ev_args w_is_key ?_
        refine EVs.cons ?_ ?_
        · exact ev_var (by decide)
        · refine EVs.cons ?_ ?_
          · exact ev_int
          · exact EVs.nil
      · refine ev_or ?_ ?_
        · refine ev_not ?_
          refine ev_args w_is_whole ?_
          refine EVs.cons ?_ ?_
          · exact ev_var (by decide)
          · refine EVs.cons ?_ ?_
            · exact ev_int
            · refine EVs.cons ?_ ?_
              · exact ev_int
              · exact EVs.nil
        · refine ev_not ?_
          refine ev_args w_is_value ?_
          refine EVs.cons ?_ ?_
          · exact ev_var (by decide)
          · exact EVs.nil
    · exact sv_raise
    · exact sv_next
  · refine sv_seq (o1 := []) ?_ ?_
    · refine sv_set ?_ (by decide)
      refine ev_bin ov_add ?_ ?_
      · refine ev_bin ov_add ?_ ?_
        · refine ev_bin ov_add ?_ ?_
          · refine ev_tup ?_
            refine EVs.cons ?_ ?_
            · exact ev_int
            · refine EVs.cons ?_ ?_
              · exact ev_var (by decide)
              · exact EVs.nil
          · refine ev_args w_bytes_of ?_
            refine EVs.cons ?_ ?_
            · exact ev_var (by decide)
            · refine EVs.cons ?_ ?_
              · exact ev_int
              · exact EVs.nil
        · refine ev_tup ?_
          refine EVs.cons ?_ ?_
          · refine ev_args cv_len ?_
            refine EVs.cons ?_ ?_
            · exact ev_var (by decide)
            · exact EVs.nil
          · exact EVs.nil
      · exact ev_var (by decide)
    · refine sv_ret ?_
      refine ev_bin ov_add ?_ ?_
      · exact ev_var (by decide)
      · refine ev_args w_bytes_of ?_
        refine EVs.cons ?_ ?_
        · refine ev_args w_check_of ?_
          refine EVs.cons ?_ ?_
          · exact ev_var (by decide)
          · exact EVs.nil
        · refine EVs.cons ?_ ?_
          · exact ev_int
          · exact EVs.nil

def q__law_same (rec_ : PF) : PX := (xSeq (xIf (pBin xIs (pVar 1) (pC .non)) (xRet (pBin xIs (pVar 0) (pC .non))) xNext)
    (xSeq (xIf (pIsi "int" (pVar 1)) (xRet (pAnd (pIsi "int" (pVar 0)) (pAnd (pNot (pIsi "bool" (pVar 0))) (pBin xEq (pVar 0) (pVar 1))))) xNext)
    (xSeq (xIf (pOr (pNot (pIsi "tuple" (pVar 0))) (pBin xNe (pArgs yLen [(pVar 0)]) (pArgs yLen [(pVar 1)]))) (xRet (pC (.bl false))) xNext)
    (xSeq (xFor (pRg [(pArgs yLen [(pVar 1)])]) (xName 2) (xIf (pNot (pArgs rec_ [(pBin xIx (pVar 0) (pVar 2)), (pBin xIx (pVar 1) (pVar 2))])) (xRet (pC (.bl false))) xNext))
    (xRet (pC (.bl true)))))))
def v__law_same : Nat → PF
  | 0 => fun _ => .bad
  | n + 1 => pRun 3 (q__law_same (v__law_same n))
theorem w__law_same : ∀ n : Nat, FV (m__law_same n) (v__law_same n)
  | 0 => fv_zero
  | n + 1 => by
    have ih := w__law_same n
    refine fv_run (o' := []) ?_
    unfold g__law_same q__law_same
    refine sv_seq (o1 := []) ?_ ?_
    · refine sv_if ?_ ?_ ?_
      · refine ev_bin ov_is ?_ ?_
        · exact ev_var (by decide)
        · exact ev_non
      · refine sv_ret ?_
        refine ev_bin ov_is ?_ ?_
        · exact ev_var (by decide)
        · exact ev_non
      · exact sv_next
    · refine sv_seq (o1 := []) ?_ ?_
      · refine sv_if ?_ ?_ ?_
        · refine ev_isi ?_
          exact ev_var (by decide)
        · refine sv_ret ?_
          refine ev_and ?_ ?_
          · refine ev_isi ?_
            exact ev_var (by decide)
          · refine ev_and ?_ ?_
            · refine ev_not ?_
              refine ev_isi ?_
              exact ev_var (by decide)
            · refine ev_bin ov_eq ?_ ?_
              · exact ev_var (by decide)
              · exact ev_var (by decide)
        · exact sv_next
      · refine sv_seq (o1 := []) ?_ ?_
        · refine sv_if ?_ ?_ ?_
          · refine ev_or ?_ ?_
            · refine ev_not ?_
              refine ev_isi ?_
              exact ev_var (by decide)
            · refine ev_bin ov_ne ?_ ?_
              · refine ev_args cv_len ?_
                refine EVs.cons ?_ ?_
                · exact ev_var (by decide)
                · exact EVs.nil
              · refine ev_args cv_len ?_
                refine EVs.cons ?_ ?_
                · exact ev_var (by decide)
                · exact EVs.nil
          · refine sv_ret ?_
            exact ev_bl
          · exact sv_next
        · refine sv_seq (o1 := []) ?_ ?_
          · refine sv_for ?_ ?_ ?_
            · refine iv_rg ?_
              refine EVs.cons ?_ ?_
              · refine ev_args cv_len ?_
                refine EVs.cons ?_ ?_
                · exact ev_var (by decide)
                · exact EVs.nil
              · exact EVs.nil
            · exact gv_name (by decide)
            · refine sv_if ?_ ?_ ?_
              · refine ev_not ?_
                refine ev_args ih ?_
                refine EVs.cons ?_ ?_
                · refine ev_bin ov_ix ?_ ?_
                  · exact ev_var (by decide)
                  · exact ev_var (by decide)
                · refine EVs.cons ?_ ?_
                  · refine ev_bin ov_ix ?_ ?_
                    · exact ev_var (by decide)
                    · exact ev_var (by decide)
                  · exact EVs.nil
              · refine sv_ret ?_
                exact ev_bl
              · exact sv_next
          · refine sv_ret ?_
            exact ev_bl

def q_is_written : PX := (xRet (pArgs v_are_bytes [(pVar 0), (pC (.int 60))]))
def v_is_written : PF := pRun 1 q_is_written
theorem w_is_written : FV m_is_written v_is_written := by
  refine fv_run (o' := []) ?_
  unfold g_is_written q_is_written
  refine sv_ret ?_
  refine ev_args w_are_bytes ?_
  refine EVs.cons ?_ ?_
  · exact ev_var (by decide)
  · refine EVs.cons ?_ ?_
    · exact ev_int
    · exact EVs.nil

def q_number_of : PX := (xSeq (xSet 1 (pC (.int 0)))
    (xSeq (xFor (pSeq (pVar 0)) (xName 2) (xSet 1 (pBin xAdd (pBin xMul (pVar 1) (pC (.int 256))) (pVar 2))))
    (xRet (pVar 1))))
def v_number_of : PF := pRun 3 q_number_of
theorem w_number_of : FV m_number_of v_number_of := by
  refine fv_run (o' := []) ?_
  unfold g_number_of q_number_of
  refine sv_seq (o1 := []) ?_ ?_
  · refine sv_set ?_ (by decide)
    exact ev_int
  · refine sv_seq (o1 := []) ?_ ?_
    · refine sv_for ?_ ?_ ?_
      · refine iv_seq ?_
        exact ev_var (by decide)
      · exact gv_name (by decide)
      · refine sv_set ?_ (by decide)
        refine ev_bin ov_add ?_ ?_
        · refine ev_bin ov_mul ?_ ?_
          · exact ev_var (by decide)
          · exact ev_int
        · exact ev_var (by decide)
    · refine sv_ret ?_
      exact ev_var (by decide)

def q_read_record : PX := (xSeq (xIf (pBin xIs (pVar 0) (pC .non)) (xRet (pC .non)) xNext)
    (xSeq (xIf (pNot (pArgs v_is_written [(pVar 0)])) (xRaise "NoContent") xNext)
    (xSeq (xIf (pBin (xCmp fun i j => decide (i < j)) (pArgs yLen [(pVar 0)]) (pBin xAdd (pC (.int 7)) (pC (.int 2)))) (xRet (pC .non)) xNext)
    (xSeq (xPar3 1 2 3 (pBin xIx (pVar 0) (pC (.int 1))) (pArgs v_number_of [(pSl xSl (pVar 0) (some (pC (.int 2))) (some (pC (.int 6))))]) (pSl xSl (pVar 0) (some (pC (.int 7))) (some (pNeg (pC (.int 2))))))
    (xSeq (xIf (pOr (pBin (xCmp fun i j => decide (j ≤ i)) (pVar 1) (pC (.int 9))) (pOr (pBin xEq (pVar 2) (pC (.int 0))) (pBin (xCmp fun i j => decide (j < i)) (pArgs yLen [(pVar 3)]) (pC (.int 50))))) (xRet (pC .non)) xNext)
    (xRet (pIf (pBin xEq (pArgs v_record [(pVar 1), (pVar 2), (pVar 3)]) (pVar 0)) (pTup [(pVar 1), (pVar 2), (pVar 3)]) (pC .non))))))))
def v_read_record : PF := pRun 4 q_read_record
theorem w_read_record : FV m_read_record v_read_record := by
  refine fv_run (o' := []) ?_
  unfold g_read_record q_read_record
  refine sv_seq (o1 := []) ?_ ?_
  · refine sv_if ?_ ?_ ?_
    · refine ev_bin ov_is ?_ ?_
      · exact ev_var (by decide)
      · exact ev_non
    · refine sv_ret ?_
      exact ev_non
    · exact sv_next
  · refine sv_seq (o1 := []) ?_ ?_
    · refine sv_if ?_ ?_ ?_
      · refine ev_not ?_
        refine ev_args w_is_written ?_
        refine EVs.cons ?_ ?_
        · exact ev_var (by decide)
        · exact EVs.nil
      · exact sv_raise
      · exact sv_next
    · refine sv_seq (o1 := []) ?_ ?_
      · refine sv_if ?_ ?_ ?_
        · refine ev_bin (ov_cmp _) ?_ ?_
          · refine ev_args cv_len ?_
            refine EVs.cons ?_ ?_
            · exact ev_var (by decide)
            · exact EVs.nil
          · refine ev_bin ov_add ?_ ?_
            · exact ev_int
            · exact ev_int
        · refine sv_ret ?_
          exact ev_non
        · exact sv_next
      · refine sv_seq (o1 := []) ?_ ?_
        · refine sv_par3 ?_ ?_ ?_ (by decide) (by decide) (by decide)
          · refine ev_bin ov_ix ?_ ?_
            · exact ev_var (by decide)
            · exact ev_int
          · refine ev_args w_number_of ?_
            refine EVs.cons ?_ ?_
            · refine ev_sl ?_ ?_ ?_
              · exact ev_var (by decide)
              · refine OV.yes ?_
                exact ev_int
              · refine OV.yes ?_
                exact ev_int
            · exact EVs.nil
          · refine ev_sl ?_ ?_ ?_
            · exact ev_var (by decide)
            · refine OV.yes ?_
              exact ev_int
            · refine OV.yes ?_
              refine ev_neg ?_
              exact ev_int
        · refine sv_seq (o1 := []) ?_ ?_
          · refine sv_if ?_ ?_ ?_
            · refine ev_or ?_ ?_
              · refine ev_bin (ov_cmp _) ?_ ?_
                · exact ev_var (by decide)
                · exact ev_int
              · refine ev_or ?_ ?_
                · refine ev_bin ov_eq ?_ ?_
                  · exact ev_var (by decide)
                  · exact ev_int
                · refine ev_bin (ov_cmp _) ?_ ?_
                  · refine ev_args cv_len ?_
                    refine EVs.cons ?_ ?_
                    · exact ev_var (by decide)
                    · exact EVs.nil
                  · exact ev_int
            · refine sv_ret ?_
              exact ev_non
            · exact sv_next
          · refine sv_ret ?_
            refine ev_if ?_ ?_ ?_
            · refine ev_bin ov_eq ?_ ?_
              · refine ev_args w_record ?_
                refine EVs.cons ?_ ?_
                · exact ev_var (by decide)
                · refine EVs.cons ?_ ?_
                  · exact ev_var (by decide)
                  · refine EVs.cons ?_ ?_
                    · exact ev_var (by decide)
                    · exact EVs.nil
              · exact ev_var (by decide)
            · refine ev_tup ?_
              refine EVs.cons ?_ ?_
              · exact ev_var (by decide)
              · refine EVs.cons ?_ ?_
                · exact ev_var (by decide)
                · refine EVs.cons ?_ ?_
                  · exact ev_var (by decide)
                  · exact EVs.nil
            · exact ev_non

def q__law_holds : PX := (xSeq (xSet 1 (pArgs v__law_record [(pBin xIx (pVar 0) (pC (.int 0))), (pBin xIx (pVar 0) (pC (.int 1))), (pBin xIx (pVar 0) (pC (.int 2)))]))
    (xSeq (xSet 2 (pArgs v_record [(pBin xIx (pVar 0) (pC (.int 0))), (pBin xIx (pVar 0) (pC (.int 1))), (pBin xIx (pVar 0) (pC (.int 2)))]))
    (xSeq (xIf (pNot (pArgs (v__law_same 8) [(pVar 2), (pVar 1)])) (xRet (pC (.bl false))) xNext)
    (xSeq (xSet 3 (pTup [(pBin xIx (pVar 0) (pC (.int 0))), (pBin xIx (pVar 0) (pC (.int 1))), (pBin xIx (pVar 0) (pC (.int 2)))]))
    (xRet (pAnd (pArgs (v__law_same 8) [(pArgs v_read_record [(pVar 2)]), (pVar 3)]) (pArgs (v__law_same 8) [(pArgs v_read_record [(pVar 1)]), (pVar 3)])))))))
def v__law_holds : PF := pRun 4 q__law_holds
theorem w__law_holds : FV m__law_holds v__law_holds := by
  refine fv_run (o' := []) ?_
  unfold g__law_holds q__law_holds
  refine sv_seq (o1 := []) ?_ ?_
  · refine sv_set ?_ (by decide)
    refine ev_args w__law_record ?_
    refine EVs.cons ?_ ?_
    · refine ev_bin ov_ix ?_ ?_
      · exact ev_var (by decide)
      · exact ev_int
    · refine EVs.cons ?_ ?_
      · refine ev_bin ov_ix ?_ ?_
        · exact ev_var (by decide)
        · exact ev_int
      · refine EVs.cons ?_ ?_
        · refine ev_bin ov_ix ?_ ?_
          · exact ev_var (by decide)
          · exact ev_int
        · exact EVs.nil
  · refine sv_seq (o1 := []) ?_ ?_
    · refine sv_set ?_ (by decide)
      refine ev_args w_record ?_
      refine EVs.cons ?_ ?_
      · refine ev_bin ov_ix ?_ ?_
        · exact ev_var (by decide)
        · exact ev_int
      · refine EVs.cons ?_ ?_
        · refine ev_bin ov_ix ?_ ?_
          · exact ev_var (by decide)
          · exact ev_int
        · refine EVs.cons ?_ ?_
          · refine ev_bin ov_ix ?_ ?_
            · exact ev_var (by decide)
            · exact ev_int
          · exact EVs.nil
    · refine sv_seq (o1 := []) ?_ ?_
      · refine sv_if ?_ ?_ ?_
        · refine ev_not ?_
          refine ev_args (w__law_same 8) ?_
          refine EVs.cons ?_ ?_
          · exact ev_var (by decide)
          · refine EVs.cons ?_ ?_
            · exact ev_var (by decide)
            · exact EVs.nil
        · refine sv_ret ?_
          exact ev_bl
        · exact sv_next
      · refine sv_seq (o1 := []) ?_ ?_
        · refine sv_set ?_ (by decide)
          refine ev_tup ?_
          refine EVs.cons ?_ ?_
          · refine ev_bin ov_ix ?_ ?_
            · exact ev_var (by decide)
            · exact ev_int
          · refine EVs.cons ?_ ?_
            · refine ev_bin ov_ix ?_ ?_
              · exact ev_var (by decide)
              · exact ev_int
            · refine EVs.cons ?_ ?_
              · refine ev_bin ov_ix ?_ ?_
                · exact ev_var (by decide)
                · exact ev_int
              · exact EVs.nil
        · refine sv_ret ?_
          refine ev_and ?_ ?_
          · refine ev_args (w__law_same 8) ?_
            refine EVs.cons ?_ ?_
            · refine ev_args w_read_record ?_
              refine EVs.cons ?_ ?_
              · exact ev_var (by decide)
              · exact EVs.nil
            · refine EVs.cons ?_ ?_
              · exact ev_var (by decide)
              · exact EVs.nil
          · refine ev_args (w__law_same 8) ?_
            refine EVs.cons ?_ ?_
            · refine ev_args w_read_record ?_
              refine EVs.cons ?_ ?_
              · exact ev_var (by decide)
              · exact EVs.nil
            · refine EVs.cons ?_ ?_
              · exact ev_var (by decide)
              · exact EVs.nil

def q_law : PX := (xSeq (xSet 1 (pArgs v__law_parts [(pArgs v__law_cell [(pVar 0), (pC (.int 0))]), (pArgs v__law_cell [(pVar 0), (pC (.int 1))])]))
    (xSeq (xSet 2 (pArgs v__law_parts [(pArgs v__law_cell [(pVar 0), (pC (.int 2))]), (pArgs v__law_cell [(pVar 0), (pC (.int 3))])]))
    (xSeq (xSet 3 (pBin xIx (pArgs v__law_digits [(pArgs v__law_cell [(pVar 0), (pC (.int 4))]), (pLst [(pC (.int 6))])]) (pC (.int 0))))
    (xSeq (xIf (pBin (xCmp fun i j => decide (i < j)) (pVar 3) (pC (.int 3))) (xSeq (xSet 4 (fun s => ((pBin xIx (pVar 2) (pVar 3)) s).nr))
    (xSeq (xSet 2 (pArgs yList [(pVar 1)]))
    (xLput 2 (pVar 3) (pVar 4)))) xNext)
    (xSeq (xFor (pSeq (pLst [(pVar 1), (pVar 2), (pVar 1)])) (xName 5) (xIf (pNot (pArgs v__law_holds [(pVar 5)])) (xRet (pC (.bl false))) xNext))
    (xRet (pBin xIs (pArgs v_read_record [(pC .non)]) (pC .non))))))))
def v_law : PF := pRun 6 q_law
theorem w_law : FV m_law v_law := by
  refine fv_run (o' := []) ?_
  unfold g_law q_law
  refine sv_seq (o1 := []) ?_ ?_
  · refine sv_set ?_ (by decide)
    refine ev_args (FN.fv w__law_parts) ?_
    refine EVs.cons ?_ ?_
    · refine ev_args w__law_cell ?_
      refine EVs.cons ?_ ?_
      · exact ev_var (by decide)
      · refine EVs.cons ?_ ?_
        · exact ev_int
        · exact EVs.nil
    · refine EVs.cons ?_ ?_
      · refine ev_args w__law_cell ?_
        refine EVs.cons ?_ ?_
        · exact ev_var (by decide)
        · refine EVs.cons ?_ ?_
          · exact ev_int
          · exact EVs.nil
      · exact EVs.nil
  · refine sv_seq (o1 := [2]) ?_ ?_
    · refine sv_own ?_ (by decide)
      refine en_args (FN.cn w__law_parts) ?_
      refine EVs.cons ?_ ?_
      · refine ev_args w__law_cell ?_
        refine EVs.cons ?_ ?_
        · exact ev_var (by decide)
        · refine EVs.cons ?_ ?_
          · exact ev_int
          · exact EVs.nil
      · refine EVs.cons ?_ ?_
        · refine ev_args w__law_cell ?_
          refine EVs.cons ?_ ?_
          · exact ev_var (by decide)
          · refine EVs.cons ?_ ?_
            · exact ev_int
            · exact EVs.nil
        · exact EVs.nil
    · refine sv_seq (o1 := [2]) ?_ ?_
      · refine sv_set ?_ (by decide)
        refine ev_bin ov_ix ?_ ?_
        · refine ev_args (FN.fv w__law_digits) ?_
          refine EVs.cons ?_ ?_
          · refine ev_args w__law_cell ?_
            refine EVs.cons ?_ ?_
            · exact ev_var (by decide)
            · refine EVs.cons ?_ ?_
              · exact ev_int
              · exact EVs.nil
          · refine EVs.cons ?_ ?_
            · refine EN.ev ?_
              refine en_lst ?_
              refine EVs.cons ?_ ?_
              · exact ev_int
              · exact EVs.nil
            · exact EVs.nil
        · exact ev_int
      · refine sv_seq (o1 := [2]) ?_ ?_
        · refine sv_if ?_ ?_ ?_
          · refine ev_bin (ov_cmp _) ?_ ?_
            · exact ev_var (by decide)
            · exact ev_int
          · refine sv_seq (o1 := [2]) ?_ ?_
            · refine sv_set ?_ (by decide)
              refine ev_rd [] ?_ (by decide)
              refine ev_bin ov_ix ?_ ?_
              · exact ev_var (by decide)
              · exact ev_var (by decide)
            · refine sv_seq (o1 := [2]) ?_ ?_
              · refine sv_frz [] ?_ (by decide)
                refine sv_own ?_ (by decide)
                refine en_args cn_list ?_
                refine EVs.cons ?_ ?_
                · exact ev_var (by decide)
                · exact EVs.nil
              · refine sv_lput ?_ ?_ (by decide)
                · exact ev_var (by decide)
                · exact ev_var (by decide)
          · exact sv_next
        · refine sv_frz [] ?_ (by decide)
          refine sv_seq (o1 := []) ?_ ?_
          · refine sv_for ?_ ?_ ?_
            · refine iv_seq ?_
              refine EN.ev ?_
              refine en_lst ?_
              refine EVs.cons ?_ ?_
              · exact ev_var (by decide)
              · refine EVs.cons ?_ ?_
                · exact ev_var (by decide)
                · refine EVs.cons ?_ ?_
                  · exact ev_var (by decide)
                  · exact EVs.nil
            · exact gv_name (by decide)
            · refine sv_if ?_ ?_ ?_
              · refine ev_not ?_
                refine ev_args w__law_holds ?_
                refine EVs.cons ?_ ?_
                · exact ev_var (by decide)
                · exact EVs.nil
              · refine sv_ret ?_
                exact ev_bl
              · exact sv_next
          · refine sv_ret ?_
            refine ev_bin ov_is ?_ ?_
            · refine ev_args w_read_record ?_
              refine EVs.cons ?_ ?_
              · exact ev_non
              · exact EVs.nil
            · exact ev_non

end Sh.k73

set_option linter.all false
set_option maxRecDepth 100000
set_option maxHeartbeats 4000000
namespace Sh.k73
open PySem L2 PyProof.Rows Sh
theorem e_mixed : v__law_mixed = V_mixed := rfl
theorem e_digits : v__law_digits = V_digits := rfl
theorem e_cell : v__law_cell = V_cell := rfl
theorem isi_int {T : String} {i : Int} : isiX T (.int i) = kitB "int" T := rfl
theorem isi_tup {T : String} {l : List PV} : isiX T (.tup l) = kitB "tuple" T := rfl
theorem isi_non {T : String} : isiX T .non = kitB "NoneType" T := rfl
theorem y_whole (i lo hi : Int) : v_is_whole [.int i, .int lo, .int hi] = .ok (.bl (decide (lo ≤ i ∧ i ≤ hi))) := by
  show (q_is_whole [some (.int i), some (.int lo), some (.int hi)]).out = _
  unfold q_is_whole
  simp -implicitDefEqProofs only [po_ok, pb_bl, px_seq, px_next, px_set, px_ret, px_drop, px_if, px_var, px_c, px_bin, px_and, px_or, px_not, px_eif, px_chain, px_args, px_nil, px_cons, px_tup, px_lst, px_isi, px_tru, px_sl, px_part0, px_part1, px_raise, px_raiseF, plp_nx, plp_ct, plp_bk, plp_rt, plp_exc, pseq_nx, pseq_rt, pseq_exc, pseq_bad, tq_bl, tq_exc, pts_bl, pts_exc, ofP_some, ti_int, PR.bind_ok, PR.bind_exc, PR.st_ok, PR.st_exc, pout_nx, pout_rt, pout_exc, poutN_rt, poutN_exc, List.getElem?_cons_zero, List.getElem?_cons_succ, List.set_cons_zero, List.set_cons_succ, xOf_some, v_add, v_sub, v_cmp, v_int, v_len_t, v_len_l, v_len_s, v_list_t, v_list_l, v_list_s, v_tuple_t, v_tuple_l, v_eqI, v_eqS, v_neI, v_neS, v_pow18, v_pow25, decide_eq_true_eq, Bool.not_eq_true', decide_eq_false_iff_not, if_true, if_false, Bool.false_eq_true, isi_int, kit_table, Bool.not_false]
  by_cases h : lo ≤ i
  · simp -implicitDefEqProofs only [po_ok, pb_bl, px_seq, px_next, px_set, px_ret, px_drop, px_if, px_var, px_c, px_bin, px_and, px_or, px_not, px_eif, px_chain, px_args, px_nil, px_cons, px_tup, px_lst, px_isi, px_tru, px_sl, px_part0, px_part1, px_raise, px_raiseF, plp_nx, plp_ct, plp_bk, plp_rt, plp_exc, pseq_nx, pseq_rt, pseq_exc, pseq_bad, tq_bl, tq_exc, pts_bl, pts_exc, ofP_some, ti_int, PR.bind_ok, PR.bind_exc, PR.st_ok, PR.st_exc, pout_nx, pout_rt, pout_exc, poutN_rt, poutN_exc, List.getElem?_cons_zero, List.getElem?_cons_succ, List.set_cons_zero, List.set_cons_succ, xOf_some, v_add, v_sub, v_cmp, v_int, v_len_t, v_len_l, v_len_s, v_list_t, v_list_l, v_list_s, v_tuple_t, v_tuple_l, v_eqI, v_eqS, v_neI, v_neS, v_pow18, v_pow25, decide_eq_true_eq, Bool.not_eq_true', decide_eq_false_iff_not, if_true, if_false, Bool.false_eq_true, h, decide_true, true_and]
  · simp -implicitDefEqProofs only [po_ok, pb_bl, px_seq, px_next, px_set, px_ret, px_drop, px_if, px_var, px_c, px_bin, px_and, px_or, px_not, px_eif, px_chain, px_args, px_nil, px_cons, px_tup, px_lst, px_isi, px_tru, px_sl, px_part0, px_part1, px_raise, px_raiseF, plp_nx, plp_ct, plp_bk, plp_rt, plp_exc, pseq_nx, pseq_rt, pseq_exc, pseq_bad, tq_bl, tq_exc, pts_bl, pts_exc, ofP_some, ti_int, PR.bind_ok, PR.bind_exc, PR.st_ok, PR.st_exc, pout_nx, pout_rt, pout_exc, poutN_rt, poutN_exc, List.getElem?_cons_zero, List.getElem?_cons_succ, List.set_cons_zero, List.set_cons_succ, xOf_some, v_add, v_sub, v_cmp, v_int, v_len_t, v_len_l, v_len_s, v_list_t, v_list_l, v_list_s, v_tuple_t, v_tuple_l, v_eqI, v_eqS, v_neI, v_neS, v_pow18, v_pow25, decide_eq_true_eq, Bool.not_eq_true', decide_eq_false_iff_not, if_true, if_false, Bool.false_eq_true, h, decide_false, false_and]
theorem y_key {k : Int} (h : 0 ≤ k ∧ k ≤ 8) : v_is_key [.int k, .int 9] = .ok (.bl true) := by
  show (q_is_key [some (.int k), some (.int 9)]).out = _
  unfold q_is_key
  simp -implicitDefEqProofs only [po_ok, pb_bl, px_seq, px_next, px_set, px_ret, px_drop, px_if, px_var, px_c, px_bin, px_and, px_or, px_not, px_eif, px_chain, px_args, px_nil, px_cons, px_tup, px_lst, px_isi, px_tru, px_sl, px_part0, px_part1, px_raise, px_raiseF, plp_nx, plp_ct, plp_bk, plp_rt, plp_exc, pseq_nx, pseq_rt, pseq_exc, pseq_bad, tq_bl, tq_exc, pts_bl, pts_exc, ofP_some, ti_int, PR.bind_ok, PR.bind_exc, PR.st_ok, PR.st_exc, pout_nx, pout_rt, pout_exc, poutN_rt, poutN_exc, List.getElem?_cons_zero, List.getElem?_cons_succ, List.set_cons_zero, List.set_cons_succ, xOf_some, v_add, v_sub, v_cmp, v_int, v_len_t, v_len_l, v_len_s, v_list_t, v_list_l, v_list_s, v_tuple_t, v_tuple_l, v_eqI, v_eqS, v_neI, v_neS, v_pow18, v_pow25, decide_eq_true_eq, Bool.not_eq_true', decide_eq_false_iff_not, if_true, if_false, Bool.false_eq_true, y_whole]
  simp; omega
/-- bytes -/
def By (l : List Int) : Prop := ∀ b ∈ l, 0 ≤ b ∧ b ≤ 255
theorem y_bytes {l : List Int} {m : Int} (h : By l) (hl : (l.length : Int) ≤ m) (hb : l.length < 1000) : v_are_bytes [.tup (l.map PV.int), .int m] = .ok (.bl true) := by
  show (q_are_bytes [some (.tup (l.map PV.int)), some (.int m), none]).out = _
  unfold q_are_bytes
  have c : pLc (pSeq (pVar 0)) (xName 2) (pC (.bl true)) (pArgs v_is_whole [(pVar 2), (pC (.int 0)), (pC (.int 255))]) [2] [some (.tup (l.map PV.int)), some (.int m), none] = .ok (.lst (l.map fun _ => PV.bl true)) := by
    refine plc_ok (seq_ok (l := l.map PV.int) rfl rfl) (by rw [List.length_map]; omega) (coll_map PV.int _ l fun x hx => ⟨_, rfl, rfl, ?_⟩)
    have := h x hx
    show pArgs v_is_whole [(pVar 2), (pC (.int 0)), (pC (.int 255))] [some (.tup (l.map PV.int)), some (.int m), some (.int x)] = _
    simp -implicitDefEqProofs only [po_ok, pb_bl, px_seq, px_next, px_set, px_ret, px_drop, px_if, px_var, px_c, px_bin, px_and, px_or, px_not, px_eif, px_chain, px_args, px_nil, px_cons, px_tup, px_lst, px_isi, px_tru, px_sl, px_part0, px_part1, px_raise, px_raiseF, plp_nx, plp_ct, plp_bk, plp_rt, plp_exc, pseq_nx, pseq_rt, pseq_exc, pseq_bad, tq_bl, tq_exc, pts_bl, pts_exc, ofP_some, ti_int, PR.bind_ok, PR.bind_exc, PR.st_ok, PR.st_exc, pout_nx, pout_rt, pout_exc, poutN_rt, poutN_exc, List.getElem?_cons_zero, List.getElem?_cons_succ, List.set_cons_zero, List.set_cons_succ, xOf_some, v_add, v_sub, v_cmp, v_int, v_len_t, v_len_l, v_len_s, v_list_t, v_list_l, v_list_s, v_tuple_t, v_tuple_l, v_eqI, v_eqS, v_neI, v_neS, v_pow18, v_pow25, decide_eq_true_eq, Bool.not_eq_true', decide_eq_false_iff_not, if_true, if_false, Bool.false_eq_true, y_whole]
    simp [this]
  have e : (l.map fun _ => PV.bl true) = (l.map fun _ => true).map PV.bl := by rw [List.map_map]; rfl
  rw [e] at c
  simp -implicitDefEqProofs only [po_ok, pb_bl, px_seq, px_next, px_set, px_ret, px_drop, px_if, px_var, px_c, px_bin, px_and, px_or, px_not, px_eif, px_chain, px_args, px_nil, px_cons, px_tup, px_lst, px_isi, px_tru, px_sl, px_part0, px_part1, px_raise, px_raiseF, plp_nx, plp_ct, plp_bk, plp_rt, plp_exc, pseq_nx, pseq_rt, pseq_exc, pseq_bad, tq_bl, tq_exc, pts_bl, pts_exc, ofP_some, ti_int, PR.bind_ok, PR.bind_exc, PR.st_ok, PR.st_exc, pout_nx, pout_rt, pout_exc, poutN_rt, poutN_exc, List.getElem?_cons_zero, List.getElem?_cons_succ, List.set_cons_zero, List.set_cons_succ, xOf_some, v_add, v_sub, v_cmp, v_int, v_len_t, v_len_l, v_len_s, v_list_t, v_list_l, v_list_s, v_tuple_t, v_tuple_l, v_eqI, v_eqS, v_neI, v_neS, v_pow18, v_pow25, decide_eq_true_eq, Bool.not_eq_true', decide_eq_false_iff_not, if_true, if_false, Bool.false_eq_true, isi_tup, kit_table, List.length_map, hl, decide_true, c, v_all]
  simp
theorem y_value {l : List Int} (h : By l) (hl : l.length ≤ 50) : v_is_value [.tup (l.map PV.int)] = .ok (.bl true) := by
  show (q_is_value [some (.tup (l.map PV.int))]).out = _
  unfold q_is_value
  simp -implicitDefEqProofs only [po_ok, pb_bl, px_seq, px_next, px_set, px_ret, px_drop, px_if, px_var, px_c, px_bin, px_and, px_or, px_not, px_eif, px_chain, px_args, px_nil, px_cons, px_tup, px_lst, px_isi, px_tru, px_sl, px_part0, px_part1, px_raise, px_raiseF, plp_nx, plp_ct, plp_bk, plp_rt, plp_exc, pseq_nx, pseq_rt, pseq_exc, pseq_bad, tq_bl, tq_exc, pts_bl, pts_exc, ofP_some, ti_int, PR.bind_ok, PR.bind_exc, PR.st_ok, PR.st_exc, pout_nx, pout_rt, pout_exc, poutN_rt, poutN_exc, List.getElem?_cons_zero, List.getElem?_cons_succ, List.set_cons_zero, List.set_cons_succ, xOf_some, v_add, v_sub, v_cmp, v_int, v_len_t, v_len_l, v_len_s, v_list_t, v_list_l, v_list_s, v_tuple_t, v_tuple_l, v_eqI, v_eqS, v_neI, v_neS, v_pow18, v_pow25, decide_eq_true_eq, Bool.not_eq_true', decide_eq_false_iff_not, if_true, if_false, Bool.false_eq_true, y_bytes h (show (l.length : Int) ≤ 50 by omega) (by omega)]
theorem y_written {l : List Int} (h : By l) (hl : l.length ≤ 60) : v_is_written [.tup (l.map PV.int)] = .ok (.bl true) := by
  show (q_is_written [some (.tup (l.map PV.int))]).out = _
  unfold q_is_written
  simp -implicitDefEqProofs only [po_ok, pb_bl, px_seq, px_next, px_set, px_ret, px_drop, px_if, px_var, px_c, px_bin, px_and, px_or, px_not, px_eif, px_chain, px_args, px_nil, px_cons, px_tup, px_lst, px_isi, px_tru, px_sl, px_part0, px_part1, px_raise, px_raiseF, plp_nx, plp_ct, plp_bk, plp_rt, plp_exc, pseq_nx, pseq_rt, pseq_exc, pseq_bad, tq_bl, tq_exc, pts_bl, pts_exc, ofP_some, ti_int, PR.bind_ok, PR.bind_exc, PR.st_ok, PR.st_exc, pout_nx, pout_rt, pout_exc, poutN_rt, poutN_exc, List.getElem?_cons_zero, List.getElem?_cons_succ, List.set_cons_zero, List.set_cons_succ, xOf_some, v_add, v_sub, v_cmp, v_int, v_len_t, v_len_l, v_len_s, v_list_t, v_list_l, v_list_s, v_tuple_t, v_tuple_l, v_eqI, v_eqS, v_neI, v_neS, v_pow18, v_pow25, decide_eq_true_eq, Bool.not_eq_true', decide_eq_false_iff_not, if_true, if_false, Bool.false_eq_true, y_bytes h (show (l.length : Int) ≤ 60 by omega) (by omega)]
theorem ad0 {a : PV} : xAdd (.tup [a]) (.tup []) = .ok (.tup [a]) := v_addT (by simp)
theorem ad1 {a b : PV} : xAdd (.tup [a]) (.tup [b]) = .ok (.tup [a, b]) := v_addT (by simp)
theorem ad2 {a b c : PV} : xAdd (.tup [a]) (.tup [b, c]) = .ok (.tup [a, b, c]) := v_addT (by simp)
theorem ad3 {a b c d : PV} : xAdd (.tup [a]) (.tup [b, c, d]) = .ok (.tup [a, b, c, d]) := v_addT (by simp)
theorem y_bytes4 (n : Int) : v_bytes_of [.int n, .int 4] = .ok (.tup ([n / 256 / 256 / 256 % 256, n / 256 / 256 % 256, n / 256 % 256, n % 256].map PV.int)) := by
  show (q_bytes_of [some (.int n), some (.int 4), none, none]).out = _
  unfold q_bytes_of
  simp -implicitDefEqProofs only [po_ok, pb_bl, px_seq, px_next, px_set, px_ret, px_drop, px_if, px_var, px_c, px_bin, px_and, px_or, px_not, px_eif, px_chain, px_args, px_nil, px_cons, px_tup, px_lst, px_isi, px_tru, px_sl, px_part0, px_part1, px_raise, px_raiseF, plp_nx, plp_ct, plp_bk, plp_rt, plp_exc, pseq_nx, pseq_rt, pseq_exc, pseq_bad, tq_bl, tq_exc, pts_bl, pts_exc, ofP_some, ti_int, PR.bind_ok, PR.bind_exc, PR.st_ok, PR.st_exc, pout_nx, pout_rt, pout_exc, poutN_rt, poutN_exc, List.getElem?_cons_zero, List.getElem?_cons_succ, List.set_cons_zero, List.set_cons_succ, xOf_some, v_add, v_sub, v_cmp, v_int, v_len_t, v_len_l, v_len_s, v_list_t, v_list_l, v_list_s, v_tuple_t, v_tuple_l, v_eqI, v_eqS, v_neI, v_neS, v_pow18, v_pow25, decide_eq_true_eq, Bool.not_eq_true', decide_eq_false_iff_not, if_true, if_false, Bool.false_eq_true]
  rw [px_for (prg_ok (n := 4) rfl (by decide))]
  rw [show (List.range 4).map (fun k => PV.int (k : Nat)) = [.int 0, .int 1, .int 2, .int 3] from rfl]
  simp -implicitDefEqProofs only [po_ok, pb_bl, px_seq, px_next, px_set, px_ret, px_drop, px_if, px_var, px_c, px_bin, px_and, px_or, px_not, px_eif, px_chain, px_args, px_nil, px_cons, px_tup, px_lst, px_isi, px_tru, px_sl, px_part0, px_part1, px_raise, px_raiseF, plp_nx, plp_ct, plp_bk, plp_rt, plp_exc, pseq_nx, pseq_rt, pseq_exc, pseq_bad, tq_bl, tq_exc, pts_bl, pts_exc, ofP_some, ti_int, PR.bind_ok, PR.bind_exc, PR.st_ok, PR.st_exc, pout_nx, pout_rt, pout_exc, poutN_rt, poutN_exc, List.getElem?_cons_zero, List.getElem?_cons_succ, List.set_cons_zero, List.set_cons_succ, xOf_some, v_add, v_sub, v_cmp, v_int, v_len_t, v_len_l, v_len_s, v_list_t, v_list_l, v_list_s, v_tuple_t, v_tuple_l, v_eqI, v_eqS, v_neI, v_neS, v_pow18, v_pow25, decide_eq_true_eq, Bool.not_eq_true', decide_eq_false_iff_not, if_true, if_false, Bool.false_eq_true, xloop_name, xloop_nil, v_modP (j := 256) (by decide), v_divP (j := 256) (by decide) (by decide), ad0, ad1, ad2, ad3, List.map_cons, List.map_nil]
theorem y_bytes2 (n : Int) : v_bytes_of [.int n, .int 2] = .ok (.tup ([n / 256 % 256, n % 256].map PV.int)) := by
  show (q_bytes_of [some (.int n), some (.int 2), none, none]).out = _
  unfold q_bytes_of
  simp -implicitDefEqProofs only [po_ok, pb_bl, px_seq, px_next, px_set, px_ret, px_drop, px_if, px_var, px_c, px_bin, px_and, px_or, px_not, px_eif, px_chain, px_args, px_nil, px_cons, px_tup, px_lst, px_isi, px_tru, px_sl, px_part0, px_part1, px_raise, px_raiseF, plp_nx, plp_ct, plp_bk, plp_rt, plp_exc, pseq_nx, pseq_rt, pseq_exc, pseq_bad, tq_bl, tq_exc, pts_bl, pts_exc, ofP_some, ti_int, PR.bind_ok, PR.bind_exc, PR.st_ok, PR.st_exc, pout_nx, pout_rt, pout_exc, poutN_rt, poutN_exc, List.getElem?_cons_zero, List.getElem?_cons_succ, List.set_cons_zero, List.set_cons_succ, xOf_some, v_add, v_sub, v_cmp, v_int, v_len_t, v_len_l, v_len_s, v_list_t, v_list_l, v_list_s, v_tuple_t, v_tuple_l, v_eqI, v_eqS, v_neI, v_neS, v_pow18, v_pow25, decide_eq_true_eq, Bool.not_eq_true', decide_eq_false_iff_not, if_true, if_false, Bool.false_eq_true]
  rw [px_for (prg_ok (n := 2) rfl (by decide))]
  rw [show (List.range 2).map (fun k => PV.int (k : Nat)) = [.int 0, .int 1] from rfl]
  simp -implicitDefEqProofs only [po_ok, pb_bl, px_seq, px_next, px_set, px_ret, px_drop, px_if, px_var, px_c, px_bin, px_and, px_or, px_not, px_eif, px_chain, px_args, px_nil, px_cons, px_tup, px_lst, px_isi, px_tru, px_sl, px_part0, px_part1, px_raise, px_raiseF, plp_nx, plp_ct, plp_bk, plp_rt, plp_exc, pseq_nx, pseq_rt, pseq_exc, pseq_bad, tq_bl, tq_exc, pts_bl, pts_exc, ofP_some, ti_int, PR.bind_ok, PR.bind_exc, PR.st_ok, PR.st_exc, pout_nx, pout_rt, pout_exc, poutN_rt, poutN_exc, List.getElem?_cons_zero, List.getElem?_cons_succ, List.set_cons_zero, List.set_cons_succ, xOf_some, v_add, v_sub, v_cmp, v_int, v_len_t, v_len_l, v_len_s, v_list_t, v_list_l, v_list_s, v_tuple_t, v_tuple_l, v_eqI, v_eqS, v_neI, v_neS, v_pow18, v_pow25, decide_eq_true_eq, Bool.not_eq_true', decide_eq_false_iff_not, if_true, if_false, Bool.false_eq_true, xloop_name, xloop_nil, v_modP (j := 256) (by decide), v_divP (j := 256) (by decide) (by decide), ad0, ad1, ad2, ad3, List.map_cons, List.map_nil]
def chk (l : List Int) : Int := l.foldl (fun c b => (c * 31 + b) % 65521) 1
theorem chk_pos : ∀ (l : List Int) (c : Int), 0 ≤ c ∧ c < 65521 → 0 ≤ l.foldl (fun c b => (c * 31 + b) % 65521) c ∧ l.foldl (fun c b => (c * 31 + b) % 65521) c < 65521
  | [], c, h => h
  | b :: l, c, _ => chk_pos l _ ⟨Int.emod_nonneg _ (by decide), Int.emod_lt_of_pos _ (by decide)⟩
theorem chk_ok (l : List Int) : 0 ≤ chk l ∧ chk l < 65521 := chk_pos l 1 (by decide)
theorem y_check (l : List Int) : v_check_of [.tup (l.map PV.int)] = .ok (.int (chk l)) := by
  show (q_check_of [some (.tup (l.map PV.int)), none, none]).out = _
  unfold q_check_of
  simp -implicitDefEqProofs only [po_ok, pb_bl, px_seq, px_next, px_set, px_ret, px_drop, px_if, px_var, px_c, px_bin, px_and, px_or, px_not, px_eif, px_chain, px_args, px_nil, px_cons, px_tup, px_lst, px_isi, px_tru, px_sl, px_part0, px_part1, px_raise, px_raiseF, plp_nx, plp_ct, plp_bk, plp_rt, plp_exc, pseq_nx, pseq_rt, pseq_exc, pseq_bad, tq_bl, tq_exc, pts_bl, pts_exc, ofP_some, ti_int, PR.bind_ok, PR.bind_exc, PR.st_ok, PR.st_exc, pout_nx, pout_rt, pout_exc, poutN_rt, poutN_exc, List.getElem?_cons_zero, List.getElem?_cons_succ, List.set_cons_zero, List.set_cons_succ, xOf_some, v_add, v_sub, v_cmp, v_int, v_len_t, v_len_l, v_len_s, v_list_t, v_list_l, v_list_s, v_tuple_t, v_tuple_l, v_eqI, v_eqS, v_neI, v_neS, v_pow18, v_pow25, decide_eq_true_eq, Bool.not_eq_true', decide_eq_false_iff_not, if_true, if_false, Bool.false_eq_true]
  rw [px_for (seq_ok (l := l.map PV.int) rfl rfl)]
  have := (loop_fold (gt := xName 2) (gb := (xSet 1 (pBin xMod (pBin xAdd (pBin xMul (pVar 1) (pC (.int 31))) (pVar 2)) (pC (.int 65521))))) PV.int (fun a : Int × Option PV => [some (.tup (l.map PV.int)), some (.int a.1), a.2]) (fun a b => ((a.1 * 31 + b) % 65521, some (.int b))) (fun _ => True) l (1, none) trivial fun a x hx _ => ⟨_, rfl, .inl (by
    show xSet 1 _ [some (.tup (l.map PV.int)), some (.int a.1), some (.int x)] = _
    simp -implicitDefEqProofs only [po_ok, pb_bl, px_seq, px_next, px_set, px_ret, px_drop, px_if, px_var, px_c, px_bin, px_and, px_or, px_not, px_eif, px_chain, px_args, px_nil, px_cons, px_tup, px_lst, px_isi, px_tru, px_sl, px_part0, px_part1, px_raise, px_raiseF, plp_nx, plp_ct, plp_bk, plp_rt, plp_exc, pseq_nx, pseq_rt, pseq_exc, pseq_bad, tq_bl, tq_exc, pts_bl, pts_exc, ofP_some, ti_int, PR.bind_ok, PR.bind_exc, PR.st_ok, PR.st_exc, pout_nx, pout_rt, pout_exc, poutN_rt, poutN_exc, List.getElem?_cons_zero, List.getElem?_cons_succ, List.set_cons_zero, List.set_cons_succ, xOf_some, v_add, v_sub, v_cmp, v_int, v_len_t, v_len_l, v_len_s, v_list_t, v_list_l, v_list_s, v_tuple_t, v_tuple_l, v_eqI, v_eqS, v_neI, v_neS, v_pow18, v_pow25, decide_eq_true_eq, Bool.not_eq_true', decide_eq_false_iff_not, if_true, if_false, Bool.false_eq_true, v_mulR (j := 31) (by decide) (by decide), v_modP (j := 65521) (by decide)]), trivial⟩).1
  rw [this]
  simp -implicitDefEqProofs only [po_ok, pb_bl, px_seq, px_next, px_set, px_ret, px_drop, px_if, px_var, px_c, px_bin, px_and, px_or, px_not, px_eif, px_chain, px_args, px_nil, px_cons, px_tup, px_lst, px_isi, px_tru, px_sl, px_part0, px_part1, px_raise, px_raiseF, plp_nx, plp_ct, plp_bk, plp_rt, plp_exc, pseq_nx, pseq_rt, pseq_exc, pseq_bad, tq_bl, tq_exc, pts_bl, pts_exc, ofP_some, ti_int, PR.bind_ok, PR.bind_exc, PR.st_ok, PR.st_exc, pout_nx, pout_rt, pout_exc, poutN_rt, poutN_exc, List.getElem?_cons_zero, List.getElem?_cons_succ, List.set_cons_zero, List.set_cons_succ, xOf_some, v_add, v_sub, v_cmp, v_int, v_len_t, v_len_l, v_len_s, v_list_t, v_list_l, v_list_s, v_tuple_t, v_tuple_l, v_eqI, v_eqS, v_neI, v_neS, v_pow18, v_pow25, decide_eq_true_eq, Bool.not_eq_true', decide_eq_false_iff_not, if_true, if_false, Bool.false_eq_true]
  have e : ∀ (m : List Int) (a : Int × Option PV), (m.foldl (fun (a : Int × Option PV) b => ((a.1 * 31 + b) % 65521, some (PV.int b))) a).1 = m.foldl (fun c b => (c * 31 + b) % 65521) a.1 := fun m => by
    induction m with
    | nil => intro a; rfl
    | cons b m ih => intro a; exact ih _
  rw [e]
  rfl
theorem y_lawcheck (l : List Int) : v__law_check [.lst (l.map PV.int)] = .ok (.int (chk l)) := by
  show (q__law_check [some (.lst (l.map PV.int)), none, none]).out = _
  unfold q__law_check
  simp -implicitDefEqProofs only [po_ok, pb_bl, px_seq, px_next, px_set, px_ret, px_drop, px_if, px_var, px_c, px_bin, px_and, px_or, px_not, px_eif, px_chain, px_args, px_nil, px_cons, px_tup, px_lst, px_isi, px_tru, px_sl, px_part0, px_part1, px_raise, px_raiseF, plp_nx, plp_ct, plp_bk, plp_rt, plp_exc, pseq_nx, pseq_rt, pseq_exc, pseq_bad, tq_bl, tq_exc, pts_bl, pts_exc, ofP_some, ti_int, PR.bind_ok, PR.bind_exc, PR.st_ok, PR.st_exc, pout_nx, pout_rt, pout_exc, poutN_rt, poutN_exc, List.getElem?_cons_zero, List.getElem?_cons_succ, List.set_cons_zero, List.set_cons_succ, xOf_some, v_add, v_sub, v_cmp, v_int, v_len_t, v_len_l, v_len_s, v_list_t, v_list_l, v_list_s, v_tuple_t, v_tuple_l, v_eqI, v_eqS, v_neI, v_neS, v_pow18, v_pow25, decide_eq_true_eq, Bool.not_eq_true', decide_eq_false_iff_not, if_true, if_false, Bool.false_eq_true]
  rw [px_for (seq_ok (l := l.map PV.int) rfl rfl)]
  have := (loop_fold (gt := xName 2) (gb := (xSet 1 (pBin xMod (pArgs yInt [(pBin xAdd (pBin xMul (pVar 1) (pC (.int 31))) (pVar 2))]) (pC (.int 65521))))) PV.int (fun a : Int × Option PV => [some (.lst (l.map PV.int)), some (.int a.1), a.2]) (fun a b => ((a.1 * 31 + b) % 65521, some (.int b))) (fun _ => True) l (1, none) trivial fun a x hx _ => ⟨_, rfl, .inl (by
    show xSet 1 _ [some (.lst (l.map PV.int)), some (.int a.1), some (.int x)] = _
    simp -implicitDefEqProofs only [po_ok, pb_bl, px_seq, px_next, px_set, px_ret, px_drop, px_if, px_var, px_c, px_bin, px_and, px_or, px_not, px_eif, px_chain, px_args, px_nil, px_cons, px_tup, px_lst, px_isi, px_tru, px_sl, px_part0, px_part1, px_raise, px_raiseF, plp_nx, plp_ct, plp_bk, plp_rt, plp_exc, pseq_nx, pseq_rt, pseq_exc, pseq_bad, tq_bl, tq_exc, pts_bl, pts_exc, ofP_some, ti_int, PR.bind_ok, PR.bind_exc, PR.st_ok, PR.st_exc, pout_nx, pout_rt, pout_exc, poutN_rt, poutN_exc, List.getElem?_cons_zero, List.getElem?_cons_succ, List.set_cons_zero, List.set_cons_succ, xOf_some, v_add, v_sub, v_cmp, v_int, v_len_t, v_len_l, v_len_s, v_list_t, v_list_l, v_list_s, v_tuple_t, v_tuple_l, v_eqI, v_eqS, v_neI, v_neS, v_pow18, v_pow25, decide_eq_true_eq, Bool.not_eq_true', decide_eq_false_iff_not, if_true, if_false, Bool.false_eq_true, v_mulR (j := 31) (by decide) (by decide), v_modP (j := 65521) (by decide)]), trivial⟩).1
  rw [this]
  simp -implicitDefEqProofs only [po_ok, pb_bl, px_seq, px_next, px_set, px_ret, px_drop, px_if, px_var, px_c, px_bin, px_and, px_or, px_not, px_eif, px_chain, px_args, px_nil, px_cons, px_tup, px_lst, px_isi, px_tru, px_sl, px_part0, px_part1, px_raise, px_raiseF, plp_nx, plp_ct, plp_bk, plp_rt, plp_exc, pseq_nx, pseq_rt, pseq_exc, pseq_bad, tq_bl, tq_exc, pts_bl, pts_exc, ofP_some, ti_int, PR.bind_ok, PR.bind_exc, PR.st_ok, PR.st_exc, pout_nx, pout_rt, pout_exc, poutN_rt, poutN_exc, List.getElem?_cons_zero, List.getElem?_cons_succ, List.set_cons_zero, List.set_cons_succ, xOf_some, v_add, v_sub, v_cmp, v_int, v_len_t, v_len_l, v_len_s, v_list_t, v_list_l, v_list_s, v_tuple_t, v_tuple_l, v_eqI, v_eqS, v_neI, v_neS, v_pow18, v_pow25, decide_eq_true_eq, Bool.not_eq_true', decide_eq_false_iff_not, if_true, if_false, Bool.false_eq_true]
  have e : ∀ (m : List Int) (a : Int × Option PV), (m.foldl (fun (a : Int × Option PV) b => ((a.1 * 31 + b) % 65521, some (PV.int b))) a).1 = m.foldl (fun c b => (c * 31 + b) % 65521) a.1 := fun m => by
    induction m with
    | nil => intro a; rfl
    | cons b m ih => intro a; exact ih _
  rw [e]
  rfl
def body (k n : Int) (v : List Int) : List Int := [165, k, n / 256 / 256 / 256 % 256, n / 256 / 256 % 256, n / 256 % 256, n % 256, v.length] ++ v
def recI (k n : Int) (v : List Int) : List Int := body k n v ++ [chk (body k n v) / 256 % 256, chk (body k n v) % 256]
/-- what a record is made of -/
structure Pt (k n : Int) (v : List Int) : Prop where
  k0 : 0 ≤ k ∧ k ≤ 8
  n0 : 1 ≤ n ∧ n ≤ 4294967295
  v0 : By v
  l0 : v.length ≤ 50
theorem y_record {k n : Int} {v : List Int} (p : Pt k n v) : v_record [.int k, .int n, .tup (v.map PV.int)] = .ok (.tup ((recI k n v).map PV.int)) := by
  show (q_record [some (.int k), some (.int n), some (.tup (v.map PV.int)), none]).out = _
  unfold q_record
  have h1 := p.n0
  have hb : [PV.int 165, PV.int k] ++ List.map PV.int [n / 256 / 256 / 256 % 256, n / 256 / 256 % 256, n / 256 % 256, n % 256] ++ [PV.int (v.length : Int)] ++ List.map PV.int v = (body k n v).map PV.int := by simp [body]
  simp -implicitDefEqProofs only [po_ok, pb_bl, px_seq, px_next, px_set, px_ret, px_drop, px_if, px_var, px_c, px_bin, px_and, px_or, px_not, px_eif, px_chain, px_args, px_nil, px_cons, px_tup, px_lst, px_isi, px_tru, px_sl, px_part0, px_part1, px_raise, px_raiseF, plp_nx, plp_ct, plp_bk, plp_rt, plp_exc, pseq_nx, pseq_rt, pseq_exc, pseq_bad, tq_bl, tq_exc, pts_bl, pts_exc, ofP_some, ti_int, PR.bind_ok, PR.bind_exc, PR.st_ok, PR.st_exc, pout_nx, pout_rt, pout_exc, poutN_rt, poutN_exc, List.getElem?_cons_zero, List.getElem?_cons_succ, List.set_cons_zero, List.set_cons_succ, xOf_some, v_add, v_sub, v_cmp, v_int, v_len_t, v_len_l, v_len_s, v_list_t, v_list_l, v_list_s, v_tuple_t, v_tuple_l, v_eqI, v_eqS, v_neI, v_neS, v_pow18, v_pow25, decide_eq_true_eq, Bool.not_eq_true', decide_eq_false_iff_not, if_true, if_false, Bool.false_eq_true, y_key p.k0, y_whole, y_value p.v0 p.l0, Bool.not_true, h1, decide_true, and_self, y_bytes4, List.length_map]
  rw [v_addT (l := [PV.int 165, PV.int k]) (m := [n / 256 / 256 / 256 % 256, n / 256 / 256 % 256, n / 256 % 256, n % 256].map PV.int) (by simp)]
  simp -implicitDefEqProofs only [po_ok, pb_bl, px_seq, px_next, px_set, px_ret, px_drop, px_if, px_var, px_c, px_bin, px_and, px_or, px_not, px_eif, px_chain, px_args, px_nil, px_cons, px_tup, px_lst, px_isi, px_tru, px_sl, px_part0, px_part1, px_raise, px_raiseF, plp_nx, plp_ct, plp_bk, plp_rt, plp_exc, pseq_nx, pseq_rt, pseq_exc, pseq_bad, tq_bl, tq_exc, pts_bl, pts_exc, ofP_some, ti_int, PR.bind_ok, PR.bind_exc, PR.st_ok, PR.st_exc, pout_nx, pout_rt, pout_exc, poutN_rt, poutN_exc, List.getElem?_cons_zero, List.getElem?_cons_succ, List.set_cons_zero, List.set_cons_succ, xOf_some, v_add, v_sub, v_cmp, v_int, v_len_t, v_len_l, v_len_s, v_list_t, v_list_l, v_list_s, v_tuple_t, v_tuple_l, v_eqI, v_eqS, v_neI, v_neS, v_pow18, v_pow25, decide_eq_true_eq, Bool.not_eq_true', decide_eq_false_iff_not, if_true, if_false, Bool.false_eq_true]
  rw [v_addT (by simp)]
  simp -implicitDefEqProofs only [po_ok, pb_bl, px_seq, px_next, px_set, px_ret, px_drop, px_if, px_var, px_c, px_bin, px_and, px_or, px_not, px_eif, px_chain, px_args, px_nil, px_cons, px_tup, px_lst, px_isi, px_tru, px_sl, px_part0, px_part1, px_raise, px_raiseF, plp_nx, plp_ct, plp_bk, plp_rt, plp_exc, pseq_nx, pseq_rt, pseq_exc, pseq_bad, tq_bl, tq_exc, pts_bl, pts_exc, ofP_some, ti_int, PR.bind_ok, PR.bind_exc, PR.st_ok, PR.st_exc, pout_nx, pout_rt, pout_exc, poutN_rt, poutN_exc, List.getElem?_cons_zero, List.getElem?_cons_succ, List.set_cons_zero, List.set_cons_succ, xOf_some, v_add, v_sub, v_cmp, v_int, v_len_t, v_len_l, v_len_s, v_list_t, v_list_l, v_list_s, v_tuple_t, v_tuple_l, v_eqI, v_eqS, v_neI, v_neS, v_pow18, v_pow25, decide_eq_true_eq, Bool.not_eq_true', decide_eq_false_iff_not, if_true, if_false, Bool.false_eq_true]
  rw [v_addT (by have := p.l0; simp; omega), hb]
  simp -implicitDefEqProofs only [po_ok, pb_bl, px_seq, px_next, px_set, px_ret, px_drop, px_if, px_var, px_c, px_bin, px_and, px_or, px_not, px_eif, px_chain, px_args, px_nil, px_cons, px_tup, px_lst, px_isi, px_tru, px_sl, px_part0, px_part1, px_raise, px_raiseF, plp_nx, plp_ct, plp_bk, plp_rt, plp_exc, pseq_nx, pseq_rt, pseq_exc, pseq_bad, tq_bl, tq_exc, pts_bl, pts_exc, ofP_some, ti_int, PR.bind_ok, PR.bind_exc, PR.st_ok, PR.st_exc, pout_nx, pout_rt, pout_exc, poutN_rt, poutN_exc, List.getElem?_cons_zero, List.getElem?_cons_succ, List.set_cons_zero, List.set_cons_succ, xOf_some, v_add, v_sub, v_cmp, v_int, v_len_t, v_len_l, v_len_s, v_list_t, v_list_l, v_list_s, v_tuple_t, v_tuple_l, v_eqI, v_eqS, v_neI, v_neS, v_pow18, v_pow25, decide_eq_true_eq, Bool.not_eq_true', decide_eq_false_iff_not, if_true, if_false, Bool.false_eq_true, y_check, y_bytes2]
  rw [v_addT (by have := p.l0; simp [body]; omega)]
  simp -implicitDefEqProofs only [po_ok, pb_bl, px_seq, px_next, px_set, px_ret, px_drop, px_if, px_var, px_c, px_bin, px_and, px_or, px_not, px_eif, px_chain, px_args, px_nil, px_cons, px_tup, px_lst, px_isi, px_tru, px_sl, px_part0, px_part1, px_raise, px_raiseF, plp_nx, plp_ct, plp_bk, plp_rt, plp_exc, pseq_nx, pseq_rt, pseq_exc, pseq_bad, tq_bl, tq_exc, pts_bl, pts_exc, ofP_some, ti_int, PR.bind_ok, PR.bind_exc, PR.st_ok, PR.st_exc, pout_nx, pout_rt, pout_exc, poutN_rt, poutN_exc, List.getElem?_cons_zero, List.getElem?_cons_succ, List.set_cons_zero, List.set_cons_succ, xOf_some, v_add, v_sub, v_cmp, v_int, v_len_t, v_len_l, v_len_s, v_list_t, v_list_l, v_list_s, v_tuple_t, v_tuple_l, v_eqI, v_eqS, v_neI, v_neS, v_pow18, v_pow25, decide_eq_true_eq, Bool.not_eq_true', decide_eq_false_iff_not, if_true, if_false, Bool.false_eq_true]
  simp [recI]
theorem y_lawrecord {k n : Int} {v : List Int} (p : Pt k n v) : v__law_record [.int k, .int n, .tup (v.map PV.int)] = .ok (.tup ((recI k n v).map PV.int)) := by
  show (q__law_record [some (.int k), some (.int n), some (.tup (v.map PV.int)), none, none, none]).out = _
  unfold q__law_record
  simp -implicitDefEqProofs only [po_ok, pb_bl, px_seq, px_next, px_set, px_ret, px_drop, px_if, px_var, px_c, px_bin, px_and, px_or, px_not, px_eif, px_chain, px_args, px_nil, px_cons, px_tup, px_lst, px_isi, px_tru, px_sl, px_part0, px_part1, px_raise, px_raiseF, plp_nx, plp_ct, plp_bk, plp_rt, plp_exc, pseq_nx, pseq_rt, pseq_exc, pseq_bad, tq_bl, tq_exc, pts_bl, pts_exc, ofP_some, ti_int, PR.bind_ok, PR.bind_exc, PR.st_ok, PR.st_exc, pout_nx, pout_rt, pout_exc, poutN_rt, poutN_exc, List.getElem?_cons_zero, List.getElem?_cons_succ, List.set_cons_zero, List.set_cons_succ, xOf_some, v_add, v_sub, v_cmp, v_int, v_len_t, v_len_l, v_len_s, v_list_t, v_list_l, v_list_s, v_tuple_t, v_tuple_l, v_eqI, v_eqS, v_neI, v_neS, v_pow18, v_pow25, decide_eq_true_eq, Bool.not_eq_true', decide_eq_false_iff_not, if_true, if_false, Bool.false_eq_true]
  rw [px_for (seq_ok (x := .lst [.int 16777216, .int 65536, .int 256, .int 1]) (l := [.int 16777216, .int 65536, .int 256, .int 1]) (by simp -implicitDefEqProofs only [po_ok, pb_bl, px_seq, px_next, px_set, px_ret, px_drop, px_if, px_var, px_c, px_bin, px_and, px_or, px_not, px_eif, px_chain, px_args, px_nil, px_cons, px_tup, px_lst, px_isi, px_tru, px_sl, px_part0, px_part1, px_raise, px_raiseF, plp_nx, plp_ct, plp_bk, plp_rt, plp_exc, pseq_nx, pseq_rt, pseq_exc, pseq_bad, tq_bl, tq_exc, pts_bl, pts_exc, ofP_some, ti_int, PR.bind_ok, PR.bind_exc, PR.st_ok, PR.st_exc, pout_nx, pout_rt, pout_exc, poutN_rt, poutN_exc, List.getElem?_cons_zero, List.getElem?_cons_succ, List.set_cons_zero, List.set_cons_succ, xOf_some, v_add, v_sub, v_cmp, v_int, v_len_t, v_len_l, v_len_s, v_list_t, v_list_l, v_list_s, v_tuple_t, v_tuple_l, v_eqI, v_eqS, v_neI, v_neS, v_pow18, v_pow25, decide_eq_true_eq, Bool.not_eq_true', decide_eq_false_iff_not, if_true, if_false, Bool.false_eq_true]) rfl)]
  have ap : ∀ (w : Int) (acc : List PV) (v5 : Option PV), 0 < w → w < 18446744073709551616 → acc.length < 100 → (xLm fApp 3 (pBin xMod (pArgs yInt [(pBin xDiv (pVar 1) (pVar 4))]) (pC (.int 256))) fun _ s => s) [some (.int k), some (.int n), some (.tup (v.map PV.int)), some (.lst acc), some (.int w), v5] = .nx [some (.int k), some (.int n), some (.tup (v.map PV.int)), some (.lst (acc ++ [.int (n / w % 256)])), some (.int w), v5] := fun w acc v5 w0 w1 hl => by
    rw [px_lm (x := .int (n / w % 256)) rfl (by simp -implicitDefEqProofs only [po_ok, pb_bl, px_seq, px_next, px_set, px_ret, px_drop, px_if, px_var, px_c, px_bin, px_and, px_or, px_not, px_eif, px_chain, px_args, px_nil, px_cons, px_tup, px_lst, px_isi, px_tru, px_sl, px_part0, px_part1, px_raise, px_raiseF, plp_nx, plp_ct, plp_bk, plp_rt, plp_exc, pseq_nx, pseq_rt, pseq_exc, pseq_bad, tq_bl, tq_exc, pts_bl, pts_exc, ofP_some, ti_int, PR.bind_ok, PR.bind_exc, PR.st_ok, PR.st_exc, pout_nx, pout_rt, pout_exc, poutN_rt, poutN_exc, List.getElem?_cons_zero, List.getElem?_cons_succ, List.set_cons_zero, List.set_cons_succ, xOf_some, v_add, v_sub, v_cmp, v_int, v_len_t, v_len_l, v_len_s, v_list_t, v_list_l, v_list_s, v_tuple_t, v_tuple_l, v_eqI, v_eqS, v_neI, v_neS, v_pow18, v_pow25, decide_eq_true_eq, Bool.not_eq_true', decide_eq_false_iff_not, if_true, if_false, Bool.false_eq_true, v_divP w0 w1, v_modP (j := 256) (by decide)]) (fApp_ok (by omega))]
    rfl
  simp -implicitDefEqProofs only [po_ok, pb_bl, px_seq, px_next, px_set, px_ret, px_drop, px_if, px_var, px_c, px_bin, px_and, px_or, px_not, px_eif, px_chain, px_args, px_nil, px_cons, px_tup, px_lst, px_isi, px_tru, px_sl, px_part0, px_part1, px_raise, px_raiseF, plp_nx, plp_ct, plp_bk, plp_rt, plp_exc, pseq_nx, pseq_rt, pseq_exc, pseq_bad, tq_bl, tq_exc, pts_bl, pts_exc, ofP_some, ti_int, PR.bind_ok, PR.bind_exc, PR.st_ok, PR.st_exc, pout_nx, pout_rt, pout_exc, poutN_rt, poutN_exc, List.getElem?_cons_zero, List.getElem?_cons_succ, List.set_cons_zero, List.set_cons_succ, xOf_some, v_add, v_sub, v_cmp, v_int, v_len_t, v_len_l, v_len_s, v_list_t, v_list_l, v_list_s, v_tuple_t, v_tuple_l, v_eqI, v_eqS, v_neI, v_neS, v_pow18, v_pow25, decide_eq_true_eq, Bool.not_eq_true', decide_eq_false_iff_not, if_true, if_false, Bool.false_eq_true, xloop_name]
  rw [ap _ _ _ (by decide) (by decide) (by simp)]
  simp -implicitDefEqProofs only [po_ok, pb_bl, px_seq, px_next, px_set, px_ret, px_drop, px_if, px_var, px_c, px_bin, px_and, px_or, px_not, px_eif, px_chain, px_args, px_nil, px_cons, px_tup, px_lst, px_isi, px_tru, px_sl, px_part0, px_part1, px_raise, px_raiseF, plp_nx, plp_ct, plp_bk, plp_rt, plp_exc, pseq_nx, pseq_rt, pseq_exc, pseq_bad, tq_bl, tq_exc, pts_bl, pts_exc, ofP_some, ti_int, PR.bind_ok, PR.bind_exc, PR.st_ok, PR.st_exc, pout_nx, pout_rt, pout_exc, poutN_rt, poutN_exc, List.getElem?_cons_zero, List.getElem?_cons_succ, List.set_cons_zero, List.set_cons_succ, xOf_some, v_add, v_sub, v_cmp, v_int, v_len_t, v_len_l, v_len_s, v_list_t, v_list_l, v_list_s, v_tuple_t, v_tuple_l, v_eqI, v_eqS, v_neI, v_neS, v_pow18, v_pow25, decide_eq_true_eq, Bool.not_eq_true', decide_eq_false_iff_not, if_true, if_false, Bool.false_eq_true, xloop_name]
  rw [ap _ _ _ (by decide) (by decide) (by simp)]
  simp -implicitDefEqProofs only [po_ok, pb_bl, px_seq, px_next, px_set, px_ret, px_drop, px_if, px_var, px_c, px_bin, px_and, px_or, px_not, px_eif, px_chain, px_args, px_nil, px_cons, px_tup, px_lst, px_isi, px_tru, px_sl, px_part0, px_part1, px_raise, px_raiseF, plp_nx, plp_ct, plp_bk, plp_rt, plp_exc, pseq_nx, pseq_rt, pseq_exc, pseq_bad, tq_bl, tq_exc, pts_bl, pts_exc, ofP_some, ti_int, PR.bind_ok, PR.bind_exc, PR.st_ok, PR.st_exc, pout_nx, pout_rt, pout_exc, poutN_rt, poutN_exc, List.getElem?_cons_zero, List.getElem?_cons_succ, List.set_cons_zero, List.set_cons_succ, xOf_some, v_add, v_sub, v_cmp, v_int, v_len_t, v_len_l, v_len_s, v_list_t, v_list_l, v_list_s, v_tuple_t, v_tuple_l, v_eqI, v_eqS, v_neI, v_neS, v_pow18, v_pow25, decide_eq_true_eq, Bool.not_eq_true', decide_eq_false_iff_not, if_true, if_false, Bool.false_eq_true, xloop_name]
  rw [ap _ _ _ (by decide) (by decide) (by simp)]
  simp -implicitDefEqProofs only [po_ok, pb_bl, px_seq, px_next, px_set, px_ret, px_drop, px_if, px_var, px_c, px_bin, px_and, px_or, px_not, px_eif, px_chain, px_args, px_nil, px_cons, px_tup, px_lst, px_isi, px_tru, px_sl, px_part0, px_part1, px_raise, px_raiseF, plp_nx, plp_ct, plp_bk, plp_rt, plp_exc, pseq_nx, pseq_rt, pseq_exc, pseq_bad, tq_bl, tq_exc, pts_bl, pts_exc, ofP_some, ti_int, PR.bind_ok, PR.bind_exc, PR.st_ok, PR.st_exc, pout_nx, pout_rt, pout_exc, poutN_rt, poutN_exc, List.getElem?_cons_zero, List.getElem?_cons_succ, List.set_cons_zero, List.set_cons_succ, xOf_some, v_add, v_sub, v_cmp, v_int, v_len_t, v_len_l, v_len_s, v_list_t, v_list_l, v_list_s, v_tuple_t, v_tuple_l, v_eqI, v_eqS, v_neI, v_neS, v_pow18, v_pow25, decide_eq_true_eq, Bool.not_eq_true', decide_eq_false_iff_not, if_true, if_false, Bool.false_eq_true, xloop_name]
  rw [ap _ _ _ (by decide) (by decide) (by simp)]
  simp -implicitDefEqProofs only [po_ok, pb_bl, px_seq, px_next, px_set, px_ret, px_drop, px_if, px_var, px_c, px_bin, px_and, px_or, px_not, px_eif, px_chain, px_args, px_nil, px_cons, px_tup, px_lst, px_isi, px_tru, px_sl, px_part0, px_part1, px_raise, px_raiseF, plp_nx, plp_ct, plp_bk, plp_rt, plp_exc, pseq_nx, pseq_rt, pseq_exc, pseq_bad, tq_bl, tq_exc, pts_bl, pts_exc, ofP_some, ti_int, PR.bind_ok, PR.bind_exc, PR.st_ok, PR.st_exc, pout_nx, pout_rt, pout_exc, poutN_rt, poutN_exc, List.getElem?_cons_zero, List.getElem?_cons_succ, List.set_cons_zero, List.set_cons_succ, xOf_some, v_add, v_sub, v_cmp, v_int, v_len_t, v_len_l, v_len_s, v_list_t, v_list_l, v_list_s, v_tuple_t, v_tuple_l, v_eqI, v_eqS, v_neI, v_neS, v_pow18, v_pow25, decide_eq_true_eq, Bool.not_eq_true', decide_eq_false_iff_not, if_true, if_false, Bool.false_eq_true, xloop_nil, List.length_map]
  rw [v_addL (by simp)]
  simp -implicitDefEqProofs only [po_ok, pb_bl, px_seq, px_next, px_set, px_ret, px_drop, px_if, px_var, px_c, px_bin, px_and, px_or, px_not, px_eif, px_chain, px_args, px_nil, px_cons, px_tup, px_lst, px_isi, px_tru, px_sl, px_part0, px_part1, px_raise, px_raiseF, plp_nx, plp_ct, plp_bk, plp_rt, plp_exc, pseq_nx, pseq_rt, pseq_exc, pseq_bad, tq_bl, tq_exc, pts_bl, pts_exc, ofP_some, ti_int, PR.bind_ok, PR.bind_exc, PR.st_ok, PR.st_exc, pout_nx, pout_rt, pout_exc, poutN_rt, poutN_exc, List.getElem?_cons_zero, List.getElem?_cons_succ, List.set_cons_zero, List.set_cons_succ, xOf_some, v_add, v_sub, v_cmp, v_int, v_len_t, v_len_l, v_len_s, v_list_t, v_list_l, v_list_s, v_tuple_t, v_tuple_l, v_eqI, v_eqS, v_neI, v_neS, v_pow18, v_pow25, decide_eq_true_eq, Bool.not_eq_true', decide_eq_false_iff_not, if_true, if_false, Bool.false_eq_true]
  rw [v_addL (by have := p.l0; simp; omega)]
  have hb : [PV.int 165, PV.int k] ++ [PV.int (n / 16777216 % 256)] ++ [PV.int (n / 65536 % 256)] ++ [PV.int (n / 256 % 256)] ++ [PV.int (n / 1 % 256)] ++ [PV.int (v.length : Int)] ++ List.map PV.int v = (body k n v).map PV.int := by
    have e2 : n / 256 / 256 = n / 65536 := by omega
    have e1 : n / 65536 / 256 = n / 16777216 := by omega
    simp only [body, e1, e2]
    simp
  rw [hb]
  have c := chk_ok (body k n v)
  simp -implicitDefEqProofs only [po_ok, pb_bl, px_seq, px_next, px_set, px_ret, px_drop, px_if, px_var, px_c, px_bin, px_and, px_or, px_not, px_eif, px_chain, px_args, px_nil, px_cons, px_tup, px_lst, px_isi, px_tru, px_sl, px_part0, px_part1, px_raise, px_raiseF, plp_nx, plp_ct, plp_bk, plp_rt, plp_exc, pseq_nx, pseq_rt, pseq_exc, pseq_bad, tq_bl, tq_exc, pts_bl, pts_exc, ofP_some, ti_int, PR.bind_ok, PR.bind_exc, PR.st_ok, PR.st_exc, pout_nx, pout_rt, pout_exc, poutN_rt, poutN_exc, List.getElem?_cons_zero, List.getElem?_cons_succ, List.set_cons_zero, List.set_cons_succ, xOf_some, v_add, v_sub, v_cmp, v_int, v_len_t, v_len_l, v_len_s, v_list_t, v_list_l, v_list_s, v_tuple_t, v_tuple_l, v_eqI, v_eqS, v_neI, v_neS, v_pow18, v_pow25, decide_eq_true_eq, Bool.not_eq_true', decide_eq_false_iff_not, if_true, if_false, Bool.false_eq_true, y_lawcheck, v_divP (j := 256) (by decide) (by decide), v_modP (j := 256) (by decide)]
  rw [v_addL (by have := p.l0; simp [body]; omega)]
  simp -implicitDefEqProofs only [po_ok, pb_bl, px_seq, px_next, px_set, px_ret, px_drop, px_if, px_var, px_c, px_bin, px_and, px_or, px_not, px_eif, px_chain, px_args, px_nil, px_cons, px_tup, px_lst, px_isi, px_tru, px_sl, px_part0, px_part1, px_raise, px_raiseF, plp_nx, plp_ct, plp_bk, plp_rt, plp_exc, pseq_nx, pseq_rt, pseq_exc, pseq_bad, tq_bl, tq_exc, pts_bl, pts_exc, ofP_some, ti_int, PR.bind_ok, PR.bind_exc, PR.st_ok, PR.st_exc, pout_nx, pout_rt, pout_exc, poutN_rt, poutN_exc, List.getElem?_cons_zero, List.getElem?_cons_succ, List.set_cons_zero, List.set_cons_succ, xOf_some, v_add, v_sub, v_cmp, v_int, v_len_t, v_len_l, v_len_s, v_list_t, v_list_l, v_list_s, v_tuple_t, v_tuple_l, v_eqI, v_eqS, v_neI, v_neS, v_pow18, v_pow25, decide_eq_true_eq, Bool.not_eq_true', decide_eq_false_iff_not, if_true, if_false, Bool.false_eq_true]
  have e3 : chk (body k n v) / 256 % 256 = chk (body k n v) / 256 := by omega
  simp only [recI, e3]
  simp
theorem y_number (a b c d : Int) : v_number_of [.tup ([a, b, c, d].map PV.int)] = .ok (.int (((a * 256 + b) * 256 + c) * 256 + d)) := by
  show (q_number_of [some (.tup ([a, b, c, d].map PV.int)), none, none]).out = _
  unfold q_number_of
  simp -implicitDefEqProofs only [po_ok, pb_bl, px_seq, px_next, px_set, px_ret, px_drop, px_if, px_var, px_c, px_bin, px_and, px_or, px_not, px_eif, px_chain, px_args, px_nil, px_cons, px_tup, px_lst, px_isi, px_tru, px_sl, px_part0, px_part1, px_raise, px_raiseF, plp_nx, plp_ct, plp_bk, plp_rt, plp_exc, pseq_nx, pseq_rt, pseq_exc, pseq_bad, tq_bl, tq_exc, pts_bl, pts_exc, ofP_some, ti_int, PR.bind_ok, PR.bind_exc, PR.st_ok, PR.st_exc, pout_nx, pout_rt, pout_exc, poutN_rt, poutN_exc, List.getElem?_cons_zero, List.getElem?_cons_succ, List.set_cons_zero, List.set_cons_succ, xOf_some, v_add, v_sub, v_cmp, v_int, v_len_t, v_len_l, v_len_s, v_list_t, v_list_l, v_list_s, v_tuple_t, v_tuple_l, v_eqI, v_eqS, v_neI, v_neS, v_pow18, v_pow25, decide_eq_true_eq, Bool.not_eq_true', decide_eq_false_iff_not, if_true, if_false, Bool.false_eq_true]
  rw [px_for (seq_ok (l := [a, b, c, d].map PV.int) rfl rfl)]
  simp -implicitDefEqProofs only [po_ok, pb_bl, px_seq, px_next, px_set, px_ret, px_drop, px_if, px_var, px_c, px_bin, px_and, px_or, px_not, px_eif, px_chain, px_args, px_nil, px_cons, px_tup, px_lst, px_isi, px_tru, px_sl, px_part0, px_part1, px_raise, px_raiseF, plp_nx, plp_ct, plp_bk, plp_rt, plp_exc, pseq_nx, pseq_rt, pseq_exc, pseq_bad, tq_bl, tq_exc, pts_bl, pts_exc, ofP_some, ti_int, PR.bind_ok, PR.bind_exc, PR.st_ok, PR.st_exc, pout_nx, pout_rt, pout_exc, poutN_rt, poutN_exc, List.getElem?_cons_zero, List.getElem?_cons_succ, List.set_cons_zero, List.set_cons_succ, xOf_some, v_add, v_sub, v_cmp, v_int, v_len_t, v_len_l, v_len_s, v_list_t, v_list_l, v_list_s, v_tuple_t, v_tuple_l, v_eqI, v_eqS, v_neI, v_neS, v_pow18, v_pow25, decide_eq_true_eq, Bool.not_eq_true', decide_eq_false_iff_not, if_true, if_false, Bool.false_eq_true, List.map_cons, List.map_nil, xloop_name, xloop_nil, v_mulR (j := 256) (by decide) (by decide), Int.zero_mul, Int.zero_add]
theorem by_rec {k n : Int} {v : List Int} (p : Pt k n v) : By (recI k n v) := by
  have c := chk_ok (body k n v)
  have h0 := p.k0
  have h1 := p.n0
  have hl := p.l0
  intro b hb
  simp only [recI, body, List.mem_append, List.mem_cons, List.not_mem_nil, or_false] at hb
  rcases hb with ((rfl | rfl | rfl | rfl | rfl | rfl | rfl) | h) | rfl | rfl
  · omega
  · omega
  · omega
  · omega
  · omega
  · omega
  · omega
  · exact p.v0 b h
  · omega
  · omega
theorem y_read {k n : Int} {v : List Int} (p : Pt k n v) : v_read_record [.tup ((recI k n v).map PV.int)] = .ok (.tup [.int k, .int n, .tup (v.map PV.int)]) := by
  show (q_read_record [some (.tup ((recI k n v).map PV.int)), none, none, none]).out = _
  have hl := p.l0
  have len : (recI k n v).length = v.length + 9 := by simp [recI, body]
  have i1 : xIx (.tup ((recI k n v).map PV.int)) (.int 1) = .ok (.int k) := v_ixT (k := 1) (by simp [recI, body])
  have s1 : cutX ((recI k n v).map PV.int) (some 2) (some 6) = [n / 256 / 256 / 256 % 256, n / 256 / 256 % 256, n / 256 % 256, n % 256].map PV.int := by
    unfold cutX
    rw [List.length_map, len]
    have e1 : HT.sIx (v.length + 9) 0 (some 2) = 2 := by
      show HT.sIx _ _ (some ((2 : Nat) : Int)) = 2
      rw [HT.sIx_nat]; omega
    have e2 : HT.sIx (v.length + 9) (v.length + 9) (some 6) = 6 := by
      show HT.sIx _ _ (some ((6 : Nat) : Int)) = 6
      rw [HT.sIx_nat]; omega
    rw [e1, e2]
    simp [recI, body]
  have s2 : cutX ((recI k n v).map PV.int) (some 7) (some (-2)) = v.map PV.int := by
    unfold cutX
    rw [List.length_map, len]
    have e1 : HT.sIx (v.length + 9) 0 (some 7) = 7 := by
      show HT.sIx _ _ (some ((7 : Nat) : Int)) = 7
      rw [HT.sIx_nat]; omega
    have e2 : HT.sIx (v.length + 9) (v.length + 9) (some (-2)) = v.length + 7 := by
      show (if (-2 : Int) < 0 then ((-2 : Int) + ((v.length + 9 : Nat) : Int)).toNat else min (-2 : Int).toNat (v.length + 9)) = _
      rw [if_pos (by decide)]; omega
    rw [e1, e2]
    simp [recI, body]
  have hn : ((n / 256 / 256 / 256 % 256 * 256 + n / 256 / 256 % 256) * 256 + n / 256 % 256) * 256 + n % 256 = n := by have := p.n0; omega
  have w := y_written (by_rec p) (by omega)
  have h9 : ¬ ((recI k n v).length : Int) < 9 := by omega
  have hk : ¬ 9 ≤ k := by have := p.k0; omega
  have h0 : ¬ n = 0 := by have := p.n0; omega
  have h5 : ¬ (50 : Int) < (v.length : Int) := by omega
  have q1 : xSl (.tup ((recI k n v).map PV.int)) (some 2) (some 6) = .ok (.tup ([n / 256 / 256 / 256 % 256, n / 256 / 256 % 256, n / 256 % 256, n % 256].map PV.int)) := by unfold xSl; dsimp only; rw [s1]
  have q2 : xSl (.tup ((recI k n v).map PV.int)) (some 7) (some (-2)) = .ok (.tup (v.map PV.int)) := by unfold xSl; dsimp only; rw [s2]
  unfold q_read_record
  simp -implicitDefEqProofs only [po_ok, pb_bl, px_seq, px_next, px_set, px_ret, px_drop, px_if, px_var, px_c, px_bin, px_and, px_or, px_not, px_eif, px_chain, px_args, px_nil, px_cons, px_tup, px_lst, px_isi, px_tru, px_sl, px_part0, px_part1, px_raise, px_raiseF, plp_nx, plp_ct, plp_bk, plp_rt, plp_exc, pseq_nx, pseq_rt, pseq_exc, pseq_bad, tq_bl, tq_exc, pts_bl, pts_exc, ofP_some, ti_int, PR.bind_ok, PR.bind_exc, PR.st_ok, PR.st_exc, pout_nx, pout_rt, pout_exc, poutN_rt, poutN_exc, List.getElem?_cons_zero, List.getElem?_cons_succ, List.set_cons_zero, List.set_cons_succ, xOf_some, v_add, v_sub, v_cmp, v_int, v_len_t, v_len_l, v_len_s, v_list_t, v_list_l, v_list_s, v_tuple_t, v_tuple_l, v_eqI, v_eqS, v_neI, v_neS, v_pow18, v_pow25, decide_eq_true_eq, Bool.not_eq_true', decide_eq_false_iff_not, if_true, if_false, Bool.false_eq_true, v_is_n, w, Bool.not_true, List.length_map, show (7 : Int) + 2 = 9 from rfl, h9, decide_false, px_par3, i1, q1, px_neg, q2, y_number, hn, hk, h0, h5, y_record p]
  rw [v_eq (okE_ints _) (okE_ints _)]
  simp -implicitDefEqProofs only [po_ok, pb_bl, px_seq, px_next, px_set, px_ret, px_drop, px_if, px_var, px_c, px_bin, px_and, px_or, px_not, px_eif, px_chain, px_args, px_nil, px_cons, px_tup, px_lst, px_isi, px_tru, px_sl, px_part0, px_part1, px_raise, px_raiseF, plp_nx, plp_ct, plp_bk, plp_rt, plp_exc, pseq_nx, pseq_rt, pseq_exc, pseq_bad, tq_bl, tq_exc, pts_bl, pts_exc, ofP_some, ti_int, PR.bind_ok, PR.bind_exc, PR.st_ok, PR.st_exc, pout_nx, pout_rt, pout_exc, poutN_rt, poutN_exc, List.getElem?_cons_zero, List.getElem?_cons_succ, List.set_cons_zero, List.set_cons_succ, xOf_some, v_add, v_sub, v_cmp, v_int, v_len_t, v_len_l, v_len_s, v_list_t, v_list_l, v_list_s, v_tuple_t, v_tuple_l, v_eqI, v_eqS, v_neI, v_neS, v_pow18, v_pow25, decide_eq_true_eq, Bool.not_eq_true', decide_eq_false_iff_not, if_true, if_false, Bool.false_eq_true, decide_true]
theorem y_same_int (m : Nat) (i : Int) : v__law_same (m + 1) [.int i, .int i] = .ok (.bl true) := by
  show (q__law_same (v__law_same m) [some (.int i), some (.int i), none]).out = _
  unfold q__law_same
  simp -implicitDefEqProofs only [po_ok, pb_bl, px_seq, px_next, px_set, px_ret, px_drop, px_if, px_var, px_c, px_bin, px_and, px_or, px_not, px_eif, px_chain, px_args, px_nil, px_cons, px_tup, px_lst, px_isi, px_tru, px_sl, px_part0, px_part1, px_raise, px_raiseF, plp_nx, plp_ct, plp_bk, plp_rt, plp_exc, pseq_nx, pseq_rt, pseq_exc, pseq_bad, tq_bl, tq_exc, pts_bl, pts_exc, ofP_some, ti_int, PR.bind_ok, PR.bind_exc, PR.st_ok, PR.st_exc, pout_nx, pout_rt, pout_exc, poutN_rt, poutN_exc, List.getElem?_cons_zero, List.getElem?_cons_succ, List.set_cons_zero, List.set_cons_succ, xOf_some, v_add, v_sub, v_cmp, v_int, v_len_t, v_len_l, v_len_s, v_list_t, v_list_l, v_list_s, v_tuple_t, v_tuple_l, v_eqI, v_eqS, v_neI, v_neS, v_pow18, v_pow25, decide_eq_true_eq, Bool.not_eq_true', decide_eq_false_iff_not, if_true, if_false, Bool.false_eq_true, v_is_n, isi_int, kit_table, Bool.not_false, decide_true]
/-- the same tuple -/
theorem y_same (m : Nat) (l : List PV) (hl : l.length < 1000) (k : ∀ x ∈ l, v__law_same m [x, x] = .ok (.bl true)) : v__law_same (m + 1) [.tup l, .tup l] = .ok (.bl true) := by
  show (q__law_same (v__law_same m) [some (.tup l), some (.tup l), none]).out = _
  unfold q__law_same
  simp -implicitDefEqProofs only [po_ok, pb_bl, px_seq, px_next, px_set, px_ret, px_drop, px_if, px_var, px_c, px_bin, px_and, px_or, px_not, px_eif, px_chain, px_args, px_nil, px_cons, px_tup, px_lst, px_isi, px_tru, px_sl, px_part0, px_part1, px_raise, px_raiseF, plp_nx, plp_ct, plp_bk, plp_rt, plp_exc, pseq_nx, pseq_rt, pseq_exc, pseq_bad, tq_bl, tq_exc, pts_bl, pts_exc, ofP_some, ti_int, PR.bind_ok, PR.bind_exc, PR.st_ok, PR.st_exc, pout_nx, pout_rt, pout_exc, poutN_rt, poutN_exc, List.getElem?_cons_zero, List.getElem?_cons_succ, List.set_cons_zero, List.set_cons_succ, xOf_some, v_add, v_sub, v_cmp, v_int, v_len_t, v_len_l, v_len_s, v_list_t, v_list_l, v_list_s, v_tuple_t, v_tuple_l, v_eqI, v_eqS, v_neI, v_neS, v_pow18, v_pow25, decide_eq_true_eq, Bool.not_eq_true', decide_eq_false_iff_not, if_true, if_false, Bool.false_eq_true, v_is_n, isi_tup, kit_table, Bool.not_true, decide_true]
  rw [px_for (prg_ok (n := l.length) (by simp -implicitDefEqProofs only [po_ok, pb_bl, px_seq, px_next, px_set, px_ret, px_drop, px_if, px_var, px_c, px_bin, px_and, px_or, px_not, px_eif, px_chain, px_args, px_nil, px_cons, px_tup, px_lst, px_isi, px_tru, px_sl, px_part0, px_part1, px_raise, px_raiseF, plp_nx, plp_ct, plp_bk, plp_rt, plp_exc, pseq_nx, pseq_rt, pseq_exc, pseq_bad, tq_bl, tq_exc, pts_bl, pts_exc, ofP_some, ti_int, PR.bind_ok, PR.bind_exc, PR.st_ok, PR.st_exc, pout_nx, pout_rt, pout_exc, poutN_rt, poutN_exc, List.getElem?_cons_zero, List.getElem?_cons_succ, List.set_cons_zero, List.set_cons_succ, xOf_some, v_add, v_sub, v_cmp, v_int, v_len_t, v_len_l, v_len_s, v_list_t, v_list_l, v_list_s, v_tuple_t, v_tuple_l, v_eqI, v_eqS, v_neI, v_neS, v_pow18, v_pow25, decide_eq_true_eq, Bool.not_eq_true', decide_eq_false_iff_not, if_true, if_false, Bool.false_eq_true]) (by omega))]
  obtain ⟨s2, e, J⟩ := loop_same (gt := xName 2) (gb := (xIf (pNot (pArgs (v__law_same m) [(pBin xIx (pVar 0) (pVar 2)), (pBin xIx (pVar 1) (pVar 2))])) (xRet (pC (.bl false))) xNext)) (fun k : Nat => PV.int (k : Nat)) (fun s => ∃ v, s = [some (.tup l), some (.tup l), v]) (List.range l.length) [some (.tup l), some (.tup l), none] ⟨_, rfl⟩ fun s x hx ⟨v, hs⟩ => by
    subst hs
    have hx' : x < l.length := List.mem_range.mp hx
    have ex : l[x]? = some l[x] := List.getElem?_eq_getElem hx'
    refine ⟨_, [some (.tup l), some (.tup l), some (.int (x : Nat))], rfl, .inl ?_, ⟨_, rfl⟩⟩
    show (xIf _ _ _) [some (.tup l), some (.tup l), some (.int (x : Nat))] = _
    simp -implicitDefEqProofs only [po_ok, pb_bl, px_seq, px_next, px_set, px_ret, px_drop, px_if, px_var, px_c, px_bin, px_and, px_or, px_not, px_eif, px_chain, px_args, px_nil, px_cons, px_tup, px_lst, px_isi, px_tru, px_sl, px_part0, px_part1, px_raise, px_raiseF, plp_nx, plp_ct, plp_bk, plp_rt, plp_exc, pseq_nx, pseq_rt, pseq_exc, pseq_bad, tq_bl, tq_exc, pts_bl, pts_exc, ofP_some, ti_int, PR.bind_ok, PR.bind_exc, PR.st_ok, PR.st_exc, pout_nx, pout_rt, pout_exc, poutN_rt, poutN_exc, List.getElem?_cons_zero, List.getElem?_cons_succ, List.set_cons_zero, List.set_cons_succ, xOf_some, v_add, v_sub, v_cmp, v_int, v_len_t, v_len_l, v_len_s, v_list_t, v_list_l, v_list_s, v_tuple_t, v_tuple_l, v_eqI, v_eqS, v_neI, v_neS, v_pow18, v_pow25, decide_eq_true_eq, Bool.not_eq_true', decide_eq_false_iff_not, if_true, if_false, Bool.false_eq_true, v_ixT ex, k _ (List.getElem_mem hx'), Bool.not_true]
  rw [e]
  obtain ⟨v, rfl⟩ := J
  simp -implicitDefEqProofs only [po_ok, pb_bl, px_seq, px_next, px_set, px_ret, px_drop, px_if, px_var, px_c, px_bin, px_and, px_or, px_not, px_eif, px_chain, px_args, px_nil, px_cons, px_tup, px_lst, px_isi, px_tru, px_sl, px_part0, px_part1, px_raise, px_raiseF, plp_nx, plp_ct, plp_bk, plp_rt, plp_exc, pseq_nx, pseq_rt, pseq_exc, pseq_bad, tq_bl, tq_exc, pts_bl, pts_exc, ofP_some, ti_int, PR.bind_ok, PR.bind_exc, PR.st_ok, PR.st_exc, pout_nx, pout_rt, pout_exc, poutN_rt, poutN_exc, List.getElem?_cons_zero, List.getElem?_cons_succ, List.set_cons_zero, List.set_cons_succ, xOf_some, v_add, v_sub, v_cmp, v_int, v_len_t, v_len_l, v_len_s, v_list_t, v_list_l, v_list_s, v_tuple_t, v_tuple_l, v_eqI, v_eqS, v_neI, v_neS, v_pow18, v_pow25, decide_eq_true_eq, Bool.not_eq_true', decide_eq_false_iff_not, if_true, if_false, Bool.false_eq_true]
theorem y_same_ints (m : Nat) (l : List Int) (hl : l.length < 1000) : v__law_same (m + 2) [.tup (l.map PV.int), .tup (l.map PV.int)] = .ok (.bl true) := y_same (m + 1) _ (by simpa using hl) fun x hx => by
  obtain ⟨i, _, rfl⟩ := List.mem_map.mp hx
  exact y_same_int m i
def ptV (k n : Int) (v : List Int) : List PV := [.int k, .int n, .tup (v.map PV.int)]
theorem y_holds {k n : Int} {v : List Int} (p : Pt k n v) : v__law_holds [.lst (ptV k n v)] = .ok (.bl true) := by
  show (q__law_holds [some (.lst (ptV k n v)), none, none, none]).out = _
  have i0 : xIx (.lst (ptV k n v)) (.int 0) = .ok (.int k) := v_ixL (k := 0) rfl
  have i1 : xIx (.lst (ptV k n v)) (.int 1) = .ok (.int n) := v_ixL (k := 1) rfl
  have i2 : xIx (.lst (ptV k n v)) (.int 2) = .ok (.tup (v.map PV.int)) := v_ixL (k := 2) rfl
  have hl := p.l0
  have len : (recI k n v).length = v.length + 9 := by simp [recI, body]
  unfold q__law_holds
  simp -implicitDefEqProofs only [po_ok, pb_bl, px_seq, px_next, px_set, px_ret, px_drop, px_if, px_var, px_c, px_bin, px_and, px_or, px_not, px_eif, px_chain, px_args, px_nil, px_cons, px_tup, px_lst, px_isi, px_tru, px_sl, px_part0, px_part1, px_raise, px_raiseF, plp_nx, plp_ct, plp_bk, plp_rt, plp_exc, pseq_nx, pseq_rt, pseq_exc, pseq_bad, tq_bl, tq_exc, pts_bl, pts_exc, ofP_some, ti_int, PR.bind_ok, PR.bind_exc, PR.st_ok, PR.st_exc, pout_nx, pout_rt, pout_exc, poutN_rt, poutN_exc, List.getElem?_cons_zero, List.getElem?_cons_succ, List.set_cons_zero, List.set_cons_succ, xOf_some, v_add, v_sub, v_cmp, v_int, v_len_t, v_len_l, v_len_s, v_list_t, v_list_l, v_list_s, v_tuple_t, v_tuple_l, v_eqI, v_eqS, v_neI, v_neS, v_pow18, v_pow25, decide_eq_true_eq, Bool.not_eq_true', decide_eq_false_iff_not, if_true, if_false, Bool.false_eq_true, i0, i1, i2, y_lawrecord p, y_record p, y_same_ints 6 (recI k n v) (by omega), Bool.not_true, y_read p]
  rw [y_same 7 [.int k, .int n, .tup (v.map PV.int)] (by simp) fun x hx => by
    simp only [List.mem_cons, List.not_mem_nil, or_false] at hx
    rcases hx with rfl | rfl | rfl
    · exact y_same_int 6 _
    · exact y_same_int 6 _
    · exact y_same_ints 5 v (by omega)]
  simp -implicitDefEqProofs only [po_ok, pb_bl, px_seq, px_next, px_set, px_ret, px_drop, px_if, px_var, px_c, px_bin, px_and, px_or, px_not, px_eif, px_chain, px_args, px_nil, px_cons, px_tup, px_lst, px_isi, px_tru, px_sl, px_part0, px_part1, px_raise, px_raiseF, plp_nx, plp_ct, plp_bk, plp_rt, plp_exc, pseq_nx, pseq_rt, pseq_exc, pseq_bad, tq_bl, tq_exc, pts_bl, pts_exc, ofP_some, ti_int, PR.bind_ok, PR.bind_exc, PR.st_ok, PR.st_exc, pout_nx, pout_rt, pout_exc, poutN_rt, poutN_exc, List.getElem?_cons_zero, List.getElem?_cons_succ, List.set_cons_zero, List.set_cons_succ, xOf_some, v_add, v_sub, v_cmp, v_int, v_len_t, v_len_l, v_len_s, v_list_t, v_list_l, v_list_s, v_tuple_t, v_tuple_l, v_eqI, v_eqS, v_neI, v_neS, v_pow18, v_pow25, decide_eq_true_eq, Bool.not_eq_true', decide_eq_false_iff_not, if_true, if_false, Bool.false_eq_true]
end Sh.k73

set_option linter.all false
set_option maxRecDepth 100000
set_option maxHeartbeats 4000000
namespace Sh.k73
open PySem L2 PyProof.Rows Sh
theorem y_num {kind edge high low : Int} (h1 : 0 ≤ edge ∧ edge < 11) : ∃ n, v__law_number [.int kind, .int edge, .int high, .int low] = .ok (.int n) ∧ 1 ≤ n ∧ n ≤ 4294967295 := by
  have run : v__law_number [.int kind, .int edge, .int high, .int low] = (q__law_number [some (.int kind), some (.int edge), some (.int high), some (.int low)]).out := rfl
  rw [run]
  unfold q__law_number
  by_cases hk : kind = 0
  · obtain ⟨j, rfl⟩ := Int.eq_ofNat_of_zero_le h1.1
    have hj : j < 11 := by omega
    have key : ∃ n, ([1, 255, 256, 257, 65535, 65536, 16777215, 16777216, 2147483648, 4294967294, 4294967295] : List Int)[j]? = some n ∧ 1 ≤ n ∧ n ≤ 4294967295 := by
      have : ∀ j : Fin 11, ∃ n, ([1, 255, 256, 257, 65535, 65536, 16777215, 16777216, 2147483648, 4294967294, 4294967295] : List Int)[j.val]? = some n ∧ 1 ≤ n ∧ n ≤ 4294967295 := by
        intro j
        refine ⟨([1, 255, 256, 257, 65535, 65536, 16777215, 16777216, 2147483648, 4294967294, 4294967295] : List Int)[j.val], ?_, ?_⟩
        · simp
        · revert j; decide
      exact this ⟨j, hj⟩
    obtain ⟨n, e, hn⟩ := key
    refine ⟨n, ?_, hn⟩
    have ix : xIx (.lst [.int 1, .int 255, .int 256, .int 257, .int 65535, .int 65536, .int 16777215, .int 16777216, .int 2147483648, .int 4294967294, .int 4294967295]) (.int (j : Nat)) = .ok (.int n) := v_ixL (by
      have := congrArg (Option.map PV.int) e
      rw [← List.getElem?_map] at this
      exact this)
    simp -implicitDefEqProofs only [po_ok, pb_bl, px_seq, px_next, px_set, px_ret, px_drop, px_if, px_var, px_c, px_bin, px_and, px_or, px_not, px_eif, px_chain, px_args, px_nil, px_cons, px_tup, px_lst, px_isi, px_tru, px_sl, px_part0, px_part1, px_raise, px_raiseF, plp_nx, plp_ct, plp_bk, plp_rt, plp_exc, pseq_nx, pseq_rt, pseq_exc, pseq_bad, tq_bl, tq_exc, pts_bl, pts_exc, ofP_some, ti_int, PR.bind_ok, PR.bind_exc, PR.st_ok, PR.st_exc, pout_nx, pout_rt, pout_exc, poutN_rt, poutN_exc, List.getElem?_cons_zero, List.getElem?_cons_succ, List.set_cons_zero, List.set_cons_succ, xOf_some, v_add, v_sub, v_cmp, v_int, v_len_t, v_len_l, v_len_s, v_list_t, v_list_l, v_list_s, v_tuple_t, v_tuple_l, v_eqI, v_eqS, v_neI, v_neS, v_pow18, v_pow25, decide_eq_true_eq, Bool.not_eq_true', decide_eq_false_iff_not, if_true, if_false, Bool.false_eq_true, hk, decide_true, ix]
  · refine ⟨1 + (high * 65536 + low) % 4294967295, ?_, ?_⟩
    · simp -implicitDefEqProofs only [po_ok, pb_bl, px_seq, px_next, px_set, px_ret, px_drop, px_if, px_var, px_c, px_bin, px_and, px_or, px_not, px_eif, px_chain, px_args, px_nil, px_cons, px_tup, px_lst, px_isi, px_tru, px_sl, px_part0, px_part1, px_raise, px_raiseF, plp_nx, plp_ct, plp_bk, plp_rt, plp_exc, pseq_nx, pseq_rt, pseq_exc, pseq_bad, tq_bl, tq_exc, pts_bl, pts_exc, ofP_some, ti_int, PR.bind_ok, PR.bind_exc, PR.st_ok, PR.st_exc, pout_nx, pout_rt, pout_exc, poutN_rt, poutN_exc, List.getElem?_cons_zero, List.getElem?_cons_succ, List.set_cons_zero, List.set_cons_succ, xOf_some, v_add, v_sub, v_cmp, v_int, v_len_t, v_len_l, v_len_s, v_list_t, v_list_l, v_list_s, v_tuple_t, v_tuple_l, v_eqI, v_eqS, v_neI, v_neS, v_pow18, v_pow25, decide_eq_true_eq, Bool.not_eq_true', decide_eq_false_iff_not, if_true, if_false, Bool.false_eq_true, hk, decide_false, v_mulR (j := 65536) (by decide) (by decide), v_modP (j := 4294967295) (by decide)]
    · have := Int.emod_nonneg (high * 65536 + low) (show (4294967295 : Int) ≠ 0 by decide)
      have := Int.emod_lt_of_pos (high * 65536 + low) (show (0 : Int) < 4294967295 by decide)
      omega
theorem dig_by : ∀ {ds zs : List Int}, DigOk ds zs → (∀ z ∈ zs, z = 256) → By ds
  | [], [], _, _ => fun b hb => by simp at hb
  | d :: ds, z :: zs, h, hz => fun b hb => by
    rcases List.mem_cons.mp hb with rfl | hb
    · have := hz z List.mem_cons_self
      have := h.1
      omega
    · exact dig_by h.2 (fun y hy => hz y (List.mem_cons_of_mem _ hy)) b hb
theorem y_val (c : Int) : ∃ v, v__law_value [.int c] = .ok (.tup (v.map PV.int)) ∧ By v ∧ v.length ≤ 50 := by
  have run : v__law_value [.int c] = (q__law_value [some (.int c), none, none]).out := rfl
  rw [run]
  unfold q__law_value
  have d1 := V_digits_ok c (zs := [4, 51]) (by decide) (by decide)
  have g1 : DigOk (digs c [4, 51]) [4, 51] := digs_ok (by decide)
  obtain ⟨a, ha, ha1⟩ := g1.at (k := 0) rfl
  obtain ⟨b, hb, hb1⟩ := g1.at (k := 1) rfl
  have i0 : xIx (.lst ((digs c [4, 51]).map PV.int)) (.int 0) = .ok (.int a) := v_ixL (k := 0) (by rw [List.getElem?_map, ha]; rfl)
  have i1 : xIx (.lst ((digs c [4, 51]).map PV.int)) (.int 1) = .ok (.int b) := v_ixL (k := 1) (by rw [List.getElem?_map, hb]; rfl)
  have fin : ∀ m : Int, 0 ≤ m → m ≤ 50 → ∃ (v : List Int) (x1 x2 x3 : PV), xMul (.lst [.int 256]) (.int m) = .ok x1 ∧ xAdd (.lst [.int 4, .int 51]) x1 = .ok x2 ∧ V_digits [.int c, x2] = .ok x3 ∧ xSl x3 (some 2) none = .ok (.lst (v.map PV.int)) ∧ By v ∧ v.length ≤ 50 := fun m m0 m1 => by
    obtain ⟨j, rfl⟩ := Int.eq_ofNat_of_zero_le m0
    have mu : xMul (.lst [.int 256]) (.int (j : Nat)) = .ok (.lst ((List.replicate j (256 : Int)).map PV.int)) := by
      unfold xMul
      dsimp only
      rw [if_pos (by simp [big]; omega)]
      simp
    have ad : xAdd (.lst [.int 4, .int 51]) (.lst ((List.replicate j (256 : Int)).map PV.int)) = .ok (.lst ((4 :: 51 :: List.replicate j (256 : Int)).map PV.int)) := by
      rw [v_addL (by simp; omega)]
      rfl
    have hz : ∀ z ∈ (4 :: 51 :: List.replicate j (256 : Int)), 0 < z ∧ z < 1000000 := fun z hz => by
      simp only [List.mem_cons, List.mem_replicate] at hz
      omega
    have d2 := V_digits_ok c hz (by simp; omega)
    have g2 := digs_ok (c := c) hz
    have len := g2.length
    refine ⟨(digs c (4 :: 51 :: List.replicate j (256 : Int))).drop 2, _, _, _, mu, ad, d2, ?_, ?_, ?_⟩
    · unfold xSl cutX
      dsimp only
      have e1 : HT.sIx (((digs c (4 :: 51 :: List.replicate j (256 : Int))).map PV.int).length) 0 (some 2) = 2 := by
        show HT.sIx _ _ (some ((2 : Nat) : Int)) = 2
        rw [HT.sIx_nat, List.length_map, len]
        simp
        try omega
      rw [e1, HT.sIx_none, List.take_of_length_le (by simp), List.map_drop]
    · match hd : digs c (4 :: 51 :: List.replicate j (256 : Int)), g2 with
      | _ :: _ :: ds, g2 => exact dig_by g2.2.2 fun z hz => List.eq_of_mem_replicate hz
    · rw [List.length_drop, len]
      simp
      try omega
  simp only [List.map_cons, List.map_nil] at d1
  simp -implicitDefEqProofs only [po_ok, pb_bl, px_seq, px_next, px_set, px_ret, px_drop, px_if, px_var, px_c, px_bin, px_and, px_or, px_not, px_eif, px_chain, px_args, px_nil, px_cons, px_tup, px_lst, px_isi, px_tru, px_sl, px_part0, px_part1, px_raise, px_raiseF, plp_nx, plp_ct, plp_bk, plp_rt, plp_exc, pseq_nx, pseq_rt, pseq_exc, pseq_bad, tq_bl, tq_exc, pts_bl, pts_exc, ofP_some, ti_int, PR.bind_ok, PR.bind_exc, PR.st_ok, PR.st_exc, pout_nx, pout_rt, pout_exc, poutN_rt, poutN_exc, List.getElem?_cons_zero, List.getElem?_cons_succ, List.set_cons_zero, List.set_cons_succ, xOf_some, v_add, v_sub, v_cmp, v_int, v_len_t, v_len_l, v_len_s, v_list_t, v_list_l, v_list_s, v_tuple_t, v_tuple_l, v_eqI, v_eqS, v_neI, v_neS, v_pow18, v_pow25, decide_eq_true_eq, Bool.not_eq_true', decide_eq_false_iff_not, if_true, if_false, Bool.false_eq_true, e_digits, d1, i0, i1]
  by_cases h1 : 1 < a
  · obtain ⟨v, x1, x2, x3, e1, e2, e3, e4, q⟩ := fin (b % 5) (Int.emod_nonneg _ (by decide)) (by omega)
    refine ⟨v, ?_, q⟩
    simp -implicitDefEqProofs only [po_ok, pb_bl, px_seq, px_next, px_set, px_ret, px_drop, px_if, px_var, px_c, px_bin, px_and, px_or, px_not, px_eif, px_chain, px_args, px_nil, px_cons, px_tup, px_lst, px_isi, px_tru, px_sl, px_part0, px_part1, px_raise, px_raiseF, plp_nx, plp_ct, plp_bk, plp_rt, plp_exc, pseq_nx, pseq_rt, pseq_exc, pseq_bad, tq_bl, tq_exc, pts_bl, pts_exc, ofP_some, ti_int, PR.bind_ok, PR.bind_exc, PR.st_ok, PR.st_exc, pout_nx, pout_rt, pout_exc, poutN_rt, poutN_exc, List.getElem?_cons_zero, List.getElem?_cons_succ, List.set_cons_zero, List.set_cons_succ, xOf_some, v_add, v_sub, v_cmp, v_int, v_len_t, v_len_l, v_len_s, v_list_t, v_list_l, v_list_s, v_tuple_t, v_tuple_l, v_eqI, v_eqS, v_neI, v_neS, v_pow18, v_pow25, decide_eq_true_eq, Bool.not_eq_true', decide_eq_false_iff_not, if_true, if_false, Bool.false_eq_true, h1, decide_true, v_modP (j := 5) (by decide), e1, e2, e3, e4]
  · obtain ⟨v, x1, x2, x3, e1, e2, e3, e4, q⟩ := fin b hb1.1 (by omega)
    refine ⟨v, ?_, q⟩
    simp -implicitDefEqProofs only [po_ok, pb_bl, px_seq, px_next, px_set, px_ret, px_drop, px_if, px_var, px_c, px_bin, px_and, px_or, px_not, px_eif, px_chain, px_args, px_nil, px_cons, px_tup, px_lst, px_isi, px_tru, px_sl, px_part0, px_part1, px_raise, px_raiseF, plp_nx, plp_ct, plp_bk, plp_rt, plp_exc, pseq_nx, pseq_rt, pseq_exc, pseq_bad, tq_bl, tq_exc, pts_bl, pts_exc, ofP_some, ti_int, PR.bind_ok, PR.bind_exc, PR.st_ok, PR.st_exc, pout_nx, pout_rt, pout_exc, poutN_rt, poutN_exc, List.getElem?_cons_zero, List.getElem?_cons_succ, List.set_cons_zero, List.set_cons_succ, xOf_some, v_add, v_sub, v_cmp, v_int, v_len_t, v_len_l, v_len_s, v_list_t, v_list_l, v_list_s, v_tuple_t, v_tuple_l, v_eqI, v_eqS, v_neI, v_neS, v_pow18, v_pow25, decide_eq_true_eq, Bool.not_eq_true', decide_eq_false_iff_not, if_true, if_false, Bool.false_eq_true, h1, decide_false, e1, e2, e3, e4]
theorem y_parts (c o : Int) : ∃ k n v, v__law_parts [.int c, .int o] = .ok (.lst (ptV k n v)) ∧ Pt k n v := by
  have run : v__law_parts [.int c, .int o] = (q__law_parts [some (.int c), some (.int o), none]).outN := rfl
  rw [run]
  unfold q__law_parts
  have d1 := V_digits_ok c (zs := [9, 3, 11, 65536, 65536]) (by decide) (by decide)
  have g1 : DigOk (digs c [9, 3, 11, 65536, 65536]) [9, 3, 11, 65536, 65536] := digs_ok (by decide)
  obtain ⟨a0, h0, k0⟩ := g1.at (k := 0) rfl
  obtain ⟨a1, h1, k1⟩ := g1.at (k := 1) rfl
  obtain ⟨a2, h2, k2⟩ := g1.at (k := 2) rfl
  obtain ⟨a3, h3, k3⟩ := g1.at (k := 3) rfl
  obtain ⟨a4, h4, k4⟩ := g1.at (k := 4) rfl
  have i0 : xIx (.lst ((digs c [9, 3, 11, 65536, 65536]).map PV.int)) (.int 0) = .ok (.int a0) := v_ixL (k := 0) (by rw [List.getElem?_map, h0]; rfl)
  have i1 : xIx (.lst ((digs c [9, 3, 11, 65536, 65536]).map PV.int)) (.int 1) = .ok (.int a1) := v_ixL (k := 1) (by rw [List.getElem?_map, h1]; rfl)
  have i2 : xIx (.lst ((digs c [9, 3, 11, 65536, 65536]).map PV.int)) (.int 2) = .ok (.int a2) := v_ixL (k := 2) (by rw [List.getElem?_map, h2]; rfl)
  have i3 : xIx (.lst ((digs c [9, 3, 11, 65536, 65536]).map PV.int)) (.int 3) = .ok (.int a3) := v_ixL (k := 3) (by rw [List.getElem?_map, h3]; rfl)
  have i4 : xIx (.lst ((digs c [9, 3, 11, 65536, 65536]).map PV.int)) (.int 4) = .ok (.int a4) := v_ixL (k := 4) (by rw [List.getElem?_map, h4]; rfl)
  obtain ⟨n, e, hn⟩ := y_num (kind := a1) (high := a3) (low := a4) k2
  obtain ⟨v, ev, bv, lv⟩ := y_val o
  refine ⟨a0, n, v, ?_, ⟨by omega, hn, bv, lv⟩⟩
  simp only [List.map_cons, List.map_nil] at d1
  simp -implicitDefEqProofs only [po_ok, pb_bl, px_seq, px_next, px_set, px_ret, px_drop, px_if, px_var, px_c, px_bin, px_and, px_or, px_not, px_eif, px_chain, px_args, px_nil, px_cons, px_tup, px_lst, px_isi, px_tru, px_sl, px_part0, px_part1, px_raise, px_raiseF, plp_nx, plp_ct, plp_bk, plp_rt, plp_exc, pseq_nx, pseq_rt, pseq_exc, pseq_bad, tq_bl, tq_exc, pts_bl, pts_exc, ofP_some, ti_int, PR.bind_ok, PR.bind_exc, PR.st_ok, PR.st_exc, pout_nx, pout_rt, pout_exc, poutN_rt, poutN_exc, List.getElem?_cons_zero, List.getElem?_cons_succ, List.set_cons_zero, List.set_cons_succ, xOf_some, v_add, v_sub, v_cmp, v_int, v_len_t, v_len_l, v_len_s, v_list_t, v_list_l, v_list_s, v_tuple_t, v_tuple_l, v_eqI, v_eqS, v_neI, v_neS, v_pow18, v_pow25, decide_eq_true_eq, Bool.not_eq_true', decide_eq_false_iff_not, if_true, if_false, Bool.false_eq_true, e_digits, d1, i0, i1, i2, i3, i4, e, ev]
  rfl
theorem law_v (ns : List Int) : v_law [.scr (ns.map PV.int)] = .ok (.bl true) := by
  refine PO.eq (pv_run ?_)
  show PN q_law [some (.scr (ns.map PV.int)), none, none, none, none, none] _ _
  unfold q_law
  obtain ⟨k1, n1, v1, e1, p1⟩ := y_parts (cellI ns 0) (cellI ns 1)
  obtain ⟨k2, n2, v2, e2, p2⟩ := y_parts (cellI ns 2) (cellI ns 3)
  have d1 := V_digits_ok (cellI ns 4) (zs := [6]) (by decide) (by decide)
  have g1 : DigOk (digs (cellI ns 4) [6]) [6] := digs_ok (by decide)
  obtain ⟨t, ht, kt⟩ := g1.at (k := 0) rfl
  have i0 : xIx (.lst ((digs (cellI ns 4) [6]).map PV.int)) (.int 0) = .ok (.int t) := v_ixL (k := 0) (by rw [List.getElem?_map, ht]; rfl)
  have rd : v_read_record [.non] = .ok .non := rfl
  refine pn_seq (pn_set ?_)
  simp -implicitDefEqProofs only [po_ok, pb_bl, px_seq, px_next, px_set, px_ret, px_drop, px_if, px_var, px_c, px_bin, px_and, px_or, px_not, px_eif, px_chain, px_args, px_nil, px_cons, px_tup, px_lst, px_isi, px_tru, px_sl, px_part0, px_part1, px_raise, px_raiseF, plp_nx, plp_ct, plp_bk, plp_rt, plp_exc, pseq_nx, pseq_rt, pseq_exc, pseq_bad, tq_bl, tq_exc, pts_bl, pts_exc, ofP_some, ti_int, PR.bind_ok, PR.bind_exc, PR.st_ok, PR.st_exc, pout_nx, pout_rt, pout_exc, poutN_rt, poutN_exc, List.getElem?_cons_zero, List.getElem?_cons_succ, List.set_cons_zero, List.set_cons_succ, xOf_some, v_add, v_sub, v_cmp, v_int, v_len_t, v_len_l, v_len_s, v_list_t, v_list_l, v_list_s, v_tuple_t, v_tuple_l, v_eqI, v_eqS, v_neI, v_neS, v_pow18, v_pow25, decide_eq_true_eq, Bool.not_eq_true', decide_eq_false_iff_not, if_true, if_false, Bool.false_eq_true, e_cell, show V_cell [.scr (ns.map PV.int), .int 0] = _ from V_cell_ok ns 0, show V_cell [.scr (ns.map PV.int), .int 1] = _ from V_cell_ok ns 1, e1]
  refine pn_seq (pn_set ?_)
  simp -implicitDefEqProofs only [po_ok, pb_bl, px_seq, px_next, px_set, px_ret, px_drop, px_if, px_var, px_c, px_bin, px_and, px_or, px_not, px_eif, px_chain, px_args, px_nil, px_cons, px_tup, px_lst, px_isi, px_tru, px_sl, px_part0, px_part1, px_raise, px_raiseF, plp_nx, plp_ct, plp_bk, plp_rt, plp_exc, pseq_nx, pseq_rt, pseq_exc, pseq_bad, tq_bl, tq_exc, pts_bl, pts_exc, ofP_some, ti_int, PR.bind_ok, PR.bind_exc, PR.st_ok, PR.st_exc, pout_nx, pout_rt, pout_exc, poutN_rt, poutN_exc, List.getElem?_cons_zero, List.getElem?_cons_succ, List.set_cons_zero, List.set_cons_succ, xOf_some, v_add, v_sub, v_cmp, v_int, v_len_t, v_len_l, v_len_s, v_list_t, v_list_l, v_list_s, v_tuple_t, v_tuple_l, v_eqI, v_eqS, v_neI, v_neS, v_pow18, v_pow25, decide_eq_true_eq, Bool.not_eq_true', decide_eq_false_iff_not, if_true, if_false, Bool.false_eq_true, e_cell, show V_cell [.scr (ns.map PV.int), .int 2] = _ from V_cell_ok ns 2, show V_cell [.scr (ns.map PV.int), .int 3] = _ from V_cell_ok ns 3, e2]
  refine pn_seq (pn_set ?_)
  simp -implicitDefEqProofs only [po_ok, pb_bl, px_seq, px_next, px_set, px_ret, px_drop, px_if, px_var, px_c, px_bin, px_and, px_or, px_not, px_eif, px_chain, px_args, px_nil, px_cons, px_tup, px_lst, px_isi, px_tru, px_sl, px_part0, px_part1, px_raise, px_raiseF, plp_nx, plp_ct, plp_bk, plp_rt, plp_exc, pseq_nx, pseq_rt, pseq_exc, pseq_bad, tq_bl, tq_exc, pts_bl, pts_exc, ofP_some, ti_int, PR.bind_ok, PR.bind_exc, PR.st_ok, PR.st_exc, pout_nx, pout_rt, pout_exc, poutN_rt, poutN_exc, List.getElem?_cons_zero, List.getElem?_cons_succ, List.set_cons_zero, List.set_cons_succ, xOf_some, v_add, v_sub, v_cmp, v_int, v_len_t, v_len_l, v_len_s, v_list_t, v_list_l, v_list_s, v_tuple_t, v_tuple_l, v_eqI, v_eqS, v_neI, v_neS, v_pow18, v_pow25, decide_eq_true_eq, Bool.not_eq_true', decide_eq_false_iff_not, if_true, if_false, Bool.false_eq_true, e_cell, e_digits, show V_cell [.scr (ns.map PV.int), .int 4] = _ from V_cell_ok ns 4, show V_digits [.int (cellI ns 4), .lst [.int 6]] = _ from d1, i0]
  have tail : ∀ {k n : Int} {v : List Int}, Pt k n v → ∀ w3 w4 : Option PV, PN (xSeq (xFor (pSeq (pLst [(pVar 1), (pVar 2), (pVar 1)])) (xName 5) (xIf (pNot (pArgs v__law_holds [(pVar 5)])) (xRet (pC (.bl false))) xNext))
    (xRet (pBin xIs (pArgs v_read_record [(pC .non)]) (pC .non)))) [some (.scr (ns.map PV.int)), some (.lst (ptV k1 n1 v1)), some (.lst (ptV k n v)), w3, w4, none] (fun _ => PV.non = PV.bl true) (fun x => x = PV.bl true) := fun {k n v} p w3 w4 => by
    refine pn_seq (pn_for (seq_ok (x := .lst [.lst (ptV k1 n1 v1), .lst (ptV k n v), .lst (ptV k1 n1 v1)]) (l := [.lst (ptV k1 n1 v1), .lst (ptV k n v), .lst (ptV k1 n1 v1)]) (by simp -implicitDefEqProofs only [po_ok, pb_bl, px_seq, px_next, px_set, px_ret, px_drop, px_if, px_var, px_c, px_bin, px_and, px_or, px_not, px_eif, px_chain, px_args, px_nil, px_cons, px_tup, px_lst, px_isi, px_tru, px_sl, px_part0, px_part1, px_raise, px_raiseF, plp_nx, plp_ct, plp_bk, plp_rt, plp_exc, pseq_nx, pseq_rt, pseq_exc, pseq_bad, tq_bl, tq_exc, pts_bl, pts_exc, ofP_some, ti_int, PR.bind_ok, PR.bind_exc, PR.st_ok, PR.st_exc, pout_nx, pout_rt, pout_exc, poutN_rt, poutN_exc, List.getElem?_cons_zero, List.getElem?_cons_succ, List.set_cons_zero, List.set_cons_succ, xOf_some, v_add, v_sub, v_cmp, v_int, v_len_t, v_len_l, v_len_s, v_list_t, v_list_l, v_list_s, v_tuple_t, v_tuple_l, v_eqI, v_eqS, v_neI, v_neS, v_pow18, v_pow25, decide_eq_true_eq, Bool.not_eq_true', decide_eq_false_iff_not, if_true, if_false, Bool.false_eq_true]) rfl) ?_)
    refine pn_cons rfl (PN.pl (pn_ifF (by simp -implicitDefEqProofs only [po_ok, pb_bl, px_seq, px_next, px_set, px_ret, px_drop, px_if, px_var, px_c, px_bin, px_and, px_or, px_not, px_eif, px_chain, px_args, px_nil, px_cons, px_tup, px_lst, px_isi, px_tru, px_sl, px_part0, px_part1, px_raise, px_raiseF, plp_nx, plp_ct, plp_bk, plp_rt, plp_exc, pseq_nx, pseq_rt, pseq_exc, pseq_bad, tq_bl, tq_exc, pts_bl, pts_exc, ofP_some, ti_int, PR.bind_ok, PR.bind_exc, PR.st_ok, PR.st_exc, pout_nx, pout_rt, pout_exc, poutN_rt, poutN_exc, List.getElem?_cons_zero, List.getElem?_cons_succ, List.set_cons_zero, List.set_cons_succ, xOf_some, v_add, v_sub, v_cmp, v_int, v_len_t, v_len_l, v_len_s, v_list_t, v_list_l, v_list_s, v_tuple_t, v_tuple_l, v_eqI, v_eqS, v_neI, v_neS, v_pow18, v_pow25, decide_eq_true_eq, Bool.not_eq_true', decide_eq_false_iff_not, if_true, if_false, Bool.false_eq_true, y_holds p1, Bool.not_true]) (pn_next ?_)))
    refine pn_cons rfl (PN.pl (pn_ifF (by simp -implicitDefEqProofs only [po_ok, pb_bl, px_seq, px_next, px_set, px_ret, px_drop, px_if, px_var, px_c, px_bin, px_and, px_or, px_not, px_eif, px_chain, px_args, px_nil, px_cons, px_tup, px_lst, px_isi, px_tru, px_sl, px_part0, px_part1, px_raise, px_raiseF, plp_nx, plp_ct, plp_bk, plp_rt, plp_exc, pseq_nx, pseq_rt, pseq_exc, pseq_bad, tq_bl, tq_exc, pts_bl, pts_exc, ofP_some, ti_int, PR.bind_ok, PR.bind_exc, PR.st_ok, PR.st_exc, pout_nx, pout_rt, pout_exc, poutN_rt, poutN_exc, List.getElem?_cons_zero, List.getElem?_cons_succ, List.set_cons_zero, List.set_cons_succ, xOf_some, v_add, v_sub, v_cmp, v_int, v_len_t, v_len_l, v_len_s, v_list_t, v_list_l, v_list_s, v_tuple_t, v_tuple_l, v_eqI, v_eqS, v_neI, v_neS, v_pow18, v_pow25, decide_eq_true_eq, Bool.not_eq_true', decide_eq_false_iff_not, if_true, if_false, Bool.false_eq_true, y_holds p, Bool.not_true]) (pn_next ?_)))
    refine pn_cons rfl (PN.pl (pn_ifF (by simp -implicitDefEqProofs only [po_ok, pb_bl, px_seq, px_next, px_set, px_ret, px_drop, px_if, px_var, px_c, px_bin, px_and, px_or, px_not, px_eif, px_chain, px_args, px_nil, px_cons, px_tup, px_lst, px_isi, px_tru, px_sl, px_part0, px_part1, px_raise, px_raiseF, plp_nx, plp_ct, plp_bk, plp_rt, plp_exc, pseq_nx, pseq_rt, pseq_exc, pseq_bad, tq_bl, tq_exc, pts_bl, pts_exc, ofP_some, ti_int, PR.bind_ok, PR.bind_exc, PR.st_ok, PR.st_exc, pout_nx, pout_rt, pout_exc, poutN_rt, poutN_exc, List.getElem?_cons_zero, List.getElem?_cons_succ, List.set_cons_zero, List.set_cons_succ, xOf_some, v_add, v_sub, v_cmp, v_int, v_len_t, v_len_l, v_len_s, v_list_t, v_list_l, v_list_s, v_tuple_t, v_tuple_l, v_eqI, v_eqS, v_neI, v_neS, v_pow18, v_pow25, decide_eq_true_eq, Bool.not_eq_true', decide_eq_false_iff_not, if_true, if_false, Bool.false_eq_true, y_holds p1, Bool.not_true]) (pn_next ?_)))
    refine pn_nil (pn_ret ?_)
    simp -implicitDefEqProofs only [po_ok, pb_bl, px_seq, px_next, px_set, px_ret, px_drop, px_if, px_var, px_c, px_bin, px_and, px_or, px_not, px_eif, px_chain, px_args, px_nil, px_cons, px_tup, px_lst, px_isi, px_tru, px_sl, px_part0, px_part1, px_raise, px_raiseF, plp_nx, plp_ct, plp_bk, plp_rt, plp_exc, pseq_nx, pseq_rt, pseq_exc, pseq_bad, tq_bl, tq_exc, pts_bl, pts_exc, ofP_some, ti_int, PR.bind_ok, PR.bind_exc, PR.st_ok, PR.st_exc, pout_nx, pout_rt, pout_exc, poutN_rt, poutN_exc, List.getElem?_cons_zero, List.getElem?_cons_succ, List.set_cons_zero, List.set_cons_succ, xOf_some, v_add, v_sub, v_cmp, v_int, v_len_t, v_len_l, v_len_s, v_list_t, v_list_l, v_list_s, v_tuple_t, v_tuple_l, v_eqI, v_eqS, v_neI, v_neS, v_pow18, v_pow25, decide_eq_true_eq, Bool.not_eq_true', decide_eq_false_iff_not, if_true, if_false, Bool.false_eq_true, rd, v_is_n]
  refine pn_seq (pn_ifP (P := t < 3) (by simp -implicitDefEqProofs only [po_ok, pb_bl, px_seq, px_next, px_set, px_ret, px_drop, px_if, px_var, px_c, px_bin, px_and, px_or, px_not, px_eif, px_chain, px_args, px_nil, px_cons, px_tup, px_lst, px_isi, px_tru, px_sl, px_part0, px_part1, px_raise, px_raiseF, plp_nx, plp_ct, plp_bk, plp_rt, plp_exc, pseq_nx, pseq_rt, pseq_exc, pseq_bad, tq_bl, tq_exc, pts_bl, pts_exc, ofP_some, ti_int, PR.bind_ok, PR.bind_exc, PR.st_ok, PR.st_exc, pout_nx, pout_rt, pout_exc, poutN_rt, poutN_exc, List.getElem?_cons_zero, List.getElem?_cons_succ, List.set_cons_zero, List.set_cons_succ, xOf_some, v_add, v_sub, v_cmp, v_int, v_len_t, v_len_l, v_len_s, v_list_t, v_list_l, v_list_s, v_tuple_t, v_tuple_l, v_eqI, v_eqS, v_neI, v_neS, v_pow18, v_pow25, decide_eq_true_eq, Bool.not_eq_true', decide_eq_false_iff_not, if_true, if_false, Bool.false_eq_true]) (fun h3 => ?_) (fun h3 => pn_next (tail p2 _ _)))
  have put : ∀ (j : Nat) (x : PV), (j : Int) = t → j < 3 → noRef x = true → (ptV k2 n2 v2)[j]? = some x → ∀ k n v, (ptV k1 n1 v1).set j x = ptV k n v → Pt k n v → PN (xSeq (xSet 4 (fun s => ((pBin xIx (pVar 2) (pVar 3)) s).nr))
    (xSeq (xSet 2 (pArgs yList [(pVar 1)]))
    (xLput 2 (pVar 3) (pVar 4)))) [some (.scr (ns.map PV.int)), some (.lst (ptV k1 n1 v1)), some (.lst (ptV k2 n2 v2)), some (.int t), none, none] (fun s1 => PN (xSeq (xFor (pSeq (pLst [(pVar 1), (pVar 2), (pVar 1)])) (xName 5) (xIf (pNot (pArgs v__law_holds [(pVar 5)])) (xRet (pC (.bl false))) xNext))
    (xRet (pBin xIs (pArgs v_read_record [(pC .non)]) (pC .non)))) s1 (fun _ => PV.non = PV.bl true) (fun x => x = PV.bl true)) (fun x => x = PV.bl true) := fun j x hj hj3 hx ex k n v es p => by
    subst hj
    refine pn_seq (pn_set ?_)
    simp -implicitDefEqProofs only [po_ok, pb_bl, px_seq, px_next, px_set, px_ret, px_drop, px_if, px_var, px_c, px_bin, px_and, px_or, px_not, px_eif, px_chain, px_args, px_nil, px_cons, px_tup, px_lst, px_isi, px_tru, px_sl, px_part0, px_part1, px_raise, px_raiseF, plp_nx, plp_ct, plp_bk, plp_rt, plp_exc, pseq_nx, pseq_rt, pseq_exc, pseq_bad, tq_bl, tq_exc, pts_bl, pts_exc, ofP_some, ti_int, PR.bind_ok, PR.bind_exc, PR.st_ok, PR.st_exc, pout_nx, pout_rt, pout_exc, poutN_rt, poutN_exc, List.getElem?_cons_zero, List.getElem?_cons_succ, List.set_cons_zero, List.set_cons_succ, xOf_some, v_add, v_sub, v_cmp, v_int, v_len_t, v_len_l, v_len_s, v_list_t, v_list_l, v_list_s, v_tuple_t, v_tuple_l, v_eqI, v_eqS, v_neI, v_neS, v_pow18, v_pow25, decide_eq_true_eq, Bool.not_eq_true', decide_eq_false_iff_not, if_true, if_false, Bool.false_eq_true, v_ixL ex, PR.nr, hx]
    refine pn_seq (pn_set ?_)
    simp -implicitDefEqProofs only [po_ok, pb_bl, px_seq, px_next, px_set, px_ret, px_drop, px_if, px_var, px_c, px_bin, px_and, px_or, px_not, px_eif, px_chain, px_args, px_nil, px_cons, px_tup, px_lst, px_isi, px_tru, px_sl, px_part0, px_part1, px_raise, px_raiseF, plp_nx, plp_ct, plp_bk, plp_rt, plp_exc, pseq_nx, pseq_rt, pseq_exc, pseq_bad, tq_bl, tq_exc, pts_bl, pts_exc, ofP_some, ti_int, PR.bind_ok, PR.bind_exc, PR.st_ok, PR.st_exc, pout_nx, pout_rt, pout_exc, poutN_rt, poutN_exc, List.getElem?_cons_zero, List.getElem?_cons_succ, List.set_cons_zero, List.set_cons_succ, xOf_some, v_add, v_sub, v_cmp, v_int, v_len_t, v_len_l, v_len_s, v_list_t, v_list_l, v_list_s, v_tuple_t, v_tuple_l, v_eqI, v_eqS, v_neI, v_neS, v_pow18, v_pow25, decide_eq_true_eq, Bool.not_eq_true', decide_eq_false_iff_not, if_true, if_false, Bool.false_eq_true]
    refine pn_lput (j := j) (ys := ptV k1 n1 v1) rfl ?_
    simp -implicitDefEqProofs only [po_ok, pb_bl, px_seq, px_next, px_set, px_ret, px_drop, px_if, px_var, px_c, px_bin, px_and, px_or, px_not, px_eif, px_chain, px_args, px_nil, px_cons, px_tup, px_lst, px_isi, px_tru, px_sl, px_part0, px_part1, px_raise, px_raiseF, plp_nx, plp_ct, plp_bk, plp_rt, plp_exc, pseq_nx, pseq_rt, pseq_exc, pseq_bad, tq_bl, tq_exc, pts_bl, pts_exc, ofP_some, ti_int, PR.bind_ok, PR.bind_exc, PR.st_ok, PR.st_exc, pout_nx, pout_rt, pout_exc, poutN_rt, poutN_exc, List.getElem?_cons_zero, List.getElem?_cons_succ, List.set_cons_zero, List.set_cons_succ, xOf_some, v_add, v_sub, v_cmp, v_int, v_len_t, v_len_l, v_len_s, v_list_t, v_list_l, v_list_s, v_tuple_t, v_tuple_l, v_eqI, v_eqS, v_neI, v_neS, v_pow18, v_pow25, decide_eq_true_eq, Bool.not_eq_true', decide_eq_false_iff_not, if_true, if_false, Bool.false_eq_true]
    refine ⟨trivial, hj3, ?_⟩
    rw [es]
    exact tail p _ _
  obtain rfl | rfl | rfl : t = 0 ∨ t = 1 ∨ t = 2 := by omega
  · exact put 0 _ rfl (by decide) rfl rfl k2 n1 v1 rfl ⟨p2.k0, p1.n0, p1.v0, p1.l0⟩
  · exact put 1 _ rfl (by decide) rfl rfl k1 n2 v1 rfl ⟨p1.k0, p2.n0, p1.v0, p1.l0⟩
  · exact put 2 _ rfl (by decide) (by simp [noRef]) rfl k1 n1 v2 rfl ⟨p1.k0, p1.n0, p2.v0, p2.l0⟩
theorem law_true : ∀ ns : List Int, ns.length ≤ 63 → ∃ h', m_law [.scl (ns.map D.int)] [] = .ok (.bl true) h' := fun ns _ => law_of w_law (law_v ns)
end Sh.k73


open PySem PySem.W PyProof.Rows in
set_option maxRecDepth 100000 in
set_option maxHeartbeats 0 in
theorem PySem.Challenge.cw_spentblocks_k73_records_by_own_check_holds : PySem.Challenge.rw_spentblocks_k73_records_by_own_check.Holds := by
  w_on; o_law; k_head; (case hw => w_witness2)
  k_fill
  refine Sh.walkS (l := PySem.Challenge.rw_spentblocks_k73_records_by_own_check) (k := 11) rfl rfl ⟨rfl, by decide, by decide⟩ (fun w h Y => PySem.W.kIn_of Y) ?F
  case F =>
    intro w mg fa h KX G hmg
    refine' Sh.k73.all_mk Sh.k73.law_true KX G hmg ?b_all ?b_bool ?b_int ?b_isinstance ?b_len ?b_list ?b_range ?b_tuple ?c_AHEAD ?c_BEHIND ?c_FIRST_BYTE ?c_MOST_CONTENT ?c_MOST_KEYS ?c_MOST_NUMBER ?c_MOST_VALUE ?e_NoContent ?x_NoContent ?ke_NoContent ?be_NoContent ?te_NoContent ?he_NoContent ?e_NoRecord ?x_NoRecord ?ke_NoRecord ?be_NoRecord ?te_NoRecord ?he_NoRecord ?a_f__law_cell ?l_f__law_cell ?a_f__law_mixed ?l_f__law_mixed ?a_f__law_digits ?l_f__law_digits ?a_f__law_number ?l_f__law_number ?a_f__law_value ?l_f__law_value ?a_f__law_parts ?l_f__law_parts ?a_f__law_check ?l_f__law_check ?a_f__law_record ?l_f__law_record ?a_f_is_whole ?l_f_is_whole ?a_f_is_key ?l_f_is_key ?a_f_are_bytes ?l_f_are_bytes ?a_f_is_value ?l_f_is_value ?a_f_bytes_of ?l_f_bytes_of ?a_f_check_of ?l_f_check_of ?a_f_record ?l_f_record ?a_f__law_same ?l_f__law_same ?a_f_is_written ?l_f_is_written ?a_f_number_of ?l_f_number_of ?a_f_read_record ?l_f_read_record ?a_f__law_holds ?l_f__law_holds ?a_f_law ?l_f_law
    (case b_all => k_is)
    (case b_bool => k_is)
    (case b_int => k_is)
    (case b_isinstance => k_is)
    (case b_len => k_is)
    (case b_list => k_is)
    (case b_range => k_is)
    (case b_tuple => k_is)
    (case c_AHEAD => k_is)
    (case c_BEHIND => k_is)
    (case c_FIRST_BYTE => k_is)
    (case c_MOST_CONTENT => k_is)
    (case c_MOST_KEYS => k_is)
    (case c_MOST_NUMBER => k_is)
    (case c_MOST_VALUE => k_is)
    (case e_NoContent => k_is)
    (case x_NoContent => first | k_is | k_exc)
    (case ke_NoContent => k_is)
    (case be_NoContent => k_is)
    (case te_NoContent => k_is)
    (case he_NoContent => k_is)
    (case e_NoRecord => k_is)
    (case x_NoRecord => first | k_is | k_exc)
    (case ke_NoRecord => k_is)
    (case be_NoRecord => k_is)
    (case te_NoRecord => k_is)
    (case he_NoRecord => k_is)
    (case a_f__law_cell => k_is)
    (case l_f__law_cell => (refine' Sh.fnFact ?l ?c ?k; (case l => k_is); (case c => k_is); (case k => k_is)))
    (case a_f__law_mixed => k_is)
    (case l_f__law_mixed => (refine' Sh.fnFact ?l ?c ?k; (case l => k_is); (case c => k_is); (case k => k_is)))
    (case a_f__law_digits => k_is)
    (case l_f__law_digits => (refine' Sh.fnFact ?l ?c ?k; (case l => k_is); (case c => k_is); (case k => k_is)))
    (case a_f__law_number => k_is)
    (case l_f__law_number => (refine' Sh.fnFact ?l ?c ?k; (case l => k_is); (case c => k_is); (case k => k_is)))
    (case a_f__law_value => k_is)
    (case l_f__law_value => (refine' Sh.fnFact ?l ?c ?k; (case l => k_is); (case c => k_is); (case k => k_is)))
    (case a_f__law_parts => k_is)
    (case l_f__law_parts => (refine' Sh.fnFact ?l ?c ?k; (case l => k_is); (case c => k_is); (case k => k_is)))
    (case a_f__law_check => k_is)
    (case l_f__law_check => (refine' Sh.fnFact ?l ?c ?k; (case l => k_is); (case c => k_is); (case k => k_is)))
    (case a_f__law_record => k_is)
    (case l_f__law_record => (refine' Sh.fnFact ?l ?c ?k; (case l => k_is); (case c => k_is); (case k => k_is)))
    (case a_f_is_whole => k_is)
    (case l_f_is_whole => (refine' Sh.fnFact ?l ?c ?k; (case l => k_is); (case c => k_is); (case k => k_is)))
    (case a_f_is_key => k_is)
    (case l_f_is_key => (refine' Sh.fnFact ?l ?c ?k; (case l => k_is); (case c => k_is); (case k => k_is)))
    (case a_f_are_bytes => k_is)
    (case l_f_are_bytes => (refine' Sh.fnFact ?l ?c ?k; (case l => k_is); (case c => k_is); (case k => k_is)))
    (case a_f_is_value => k_is)
    (case l_f_is_value => (refine' Sh.fnFact ?l ?c ?k; (case l => k_is); (case c => k_is); (case k => k_is)))
    (case a_f_bytes_of => k_is)
    (case l_f_bytes_of => (refine' Sh.fnFact ?l ?c ?k; (case l => k_is); (case c => k_is); (case k => k_is)))
    (case a_f_check_of => k_is)
    (case l_f_check_of => (refine' Sh.fnFact ?l ?c ?k; (case l => k_is); (case c => k_is); (case k => k_is)))
    (case a_f_record => k_is)
    (case l_f_record => (refine' Sh.fnFact ?l ?c ?k; (case l => k_is); (case c => k_is); (case k => k_is)))
    (case a_f__law_same => k_is)
    (case l_f__law_same => (refine' Sh.fnFact ?l ?c ?k; (case l => k_is); (case c => k_is); (case k => k_is)))
    (case a_f_is_written => k_is)
    (case l_f_is_written => (refine' Sh.fnFact ?l ?c ?k; (case l => k_is); (case c => k_is); (case k => k_is)))
    (case a_f_number_of => k_is)
    (case l_f_number_of => (refine' Sh.fnFact ?l ?c ?k; (case l => k_is); (case c => k_is); (case k => k_is)))
    (case a_f_read_record => k_is)
    (case l_f_read_record => (refine' Sh.fnFact ?l ?c ?k; (case l => k_is); (case c => k_is); (case k => k_is)))
    (case a_f__law_holds => k_is)
    (case l_f__law_holds => (refine' Sh.fnFact ?l ?c ?k; (case l => k_is); (case c => k_is); (case k => k_is)))
    (case a_f_law => k_is)
    (case l_f_law => (refine' Sh.fnFact ?l ?c ?k; (case l => k_is); (case c => k_is); (case k => k_is)))
